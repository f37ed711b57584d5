/- The executor's laws: append. -/
import Derived.Test.YtlmijfgmfcnngaaEzD
namespace Go.Proofs.Ytlmijfgmfcnngaa
open Go.RowKit
section
variable {ρ : EnvS} {α : Nat → Pl} {P : Program} {n : Nat} {h : Vw} {w : World}
theorem elT_some {el : TypeId} {z b : Nat} {zs : List SCl} (he : elT P el = some (z, b, zs)) :
    ∃ i zv, P.info? el = some i ∧ i.size = z ∧ i.bytes = b ∧ 0 < z ∧ i.zero = some zv ∧ zv.cells = (dens ρ α zs).toArray ∧ zs.length = z ∧ zs.all SCl.cellOk = true ∧ sizeT P el = some z ∧ idsL zs = [] := by
  unfold elT at he
  split at he
  · rename_i z' b' zv h1 h2 h3
    split at he
    · rename_i zs' h4
      split at he
      · rename_i hc
        cases he
        simp only [Bool.and_eq_true, Nat.blt_eq] at hc
        obtain ⟨⟨c1, c2⟩, c3⟩ := hc
        have h1' := h1
        unfold sizeT at h1
        rw [Option.map_eq_some_iff] at h1
        obtain ⟨i, hi, q1⟩ := h1
        unfold bytesT at h2
        rw [hi] at h2
        simp only [Option.map_some, Option.some.injEq] at h2
        have h3' := h3
        unfold zeroT at h3
        rw [hi] at h3
        simp only at h3
        split at h3
        · rename_i v hv
          have e1 := cst_den ρ α h3
          have e2 := cells_den ρ α h4
          rw [e1] at e2
          refine ⟨i, v, hi, q1, h2, c1, hv, e2, Nat.eq_of_beq_eq_true c2, c3, h1', ?_⟩
          -- constants tell no names
          rw [cells_ids h4]
          have one : ∀ {u : Value} {c : SCl}, cst1 u = some c → idsL [c] = [] := by
            intro u c hu
            cases u <;> simp [cst1] at hu <;> subst hu <;> rfl
          have many : ∀ {us : List Value} {cs : List SCl}, cstL us = some cs → idsL cs = [] := by
            intro us
            induction us with
            | nil => intro cs hu; simp [cstL] at hu; subst hu; rfl
            | cons u us ih =>
              intro cs hu
              simp only [cstL] at hu
              split at hu
              · rename_i c cs' k1 k2
                cases hu
                rw [show c :: cs' = [c] ++ cs' from rfl]
                simp only [idsL, List.filterMap_append]
                have g1 := one k1
                have g2 := ih k2
                simp only [idsL] at g1 g2
                rw [g1, g2]
                rfl
              · cases hu
          unfold cst at h3
          split at h3
          · rw [Option.map_eq_some_iff] at h3
            obtain ⟨l, hl, rfl⟩ := h3
            exact many hl
          · cases h3; rfl
          · rw [Option.map_eq_some_iff] at h3
            obtain ⟨l, hl, rfl⟩ := h3
            exact one hl
        · cases h3
      · cases he
    · cases he
  · cases he
theorem zerosL_ids {zs : List SCl} (hz : idsL zs = []) (k : Nat) : idsL (zerosL zs k) = [] := by
  rw [List.eq_nil_iff_forall_not_mem]
  intro m hm
  obtain ⟨c, hc, e⟩ := List.mem_filterMap.1 hm
  obtain ⟨i, _, rfl⟩ := List.mem_map.1 hc
  rw [List.getD_eq_getElem?_getD] at e
  cases hq : zs[i % zs.length]? with
  | none => rw [hq] at e; simp [SCl.id?] at e
  | some d =>
    rw [hq] at e
    have : m ∈ idsL zs := List.mem_filterMap.2 ⟨d, List.mem_of_getElem? hq, by simpa using e⟩
    rw [hz] at this
    cases this
theorem zerosL_len (zs : List SCl) (k : Nat) : (zerosL zs k).length = k := by simp [zerosL]
theorem zerosL_den {zs : List SCl} (h0 : 0 < zs.length) (k : Nat) : (Array.range k).map (fun i => (dens ρ α zs).toArray[i % (dens ρ α zs).toArray.size]!) = (dens ρ α (zerosL zs k)).toArray := by
  apply Array.ext'
  simp only [Array.toList_map, Array.toList_range, zerosL, List.map_map]
  apply List.map_congr_left
  intro i _
  have h1 : i % zs.length < zs.length := Nat.mod_lt _ h0
  have h2 : (dens ρ α zs).toArray.size = zs.length := by simp
  rw [h2]
  simp [Function.comp, h1]
theorem zeroCells_den {zs : List SCl} (h0 : 0 < zs.length) (k : Nat) : Builtin.zeroCells (dens ρ α zs).toArray k = (dens ρ α (zerosL zs (k * zs.length))).toArray := by
  unfold Builtin.zeroCells
  have : (dens ρ α zs).toArray.size = zs.length := by simp
  rw [this]
  have e := zerosL_den (ρ := ρ) (α := α) h0 (k * zs.length)
  rw [this] at e
  exact e
theorem zeroCells_len {zv : Value} {zs : List SCl} (hz : zv.cells = (dens ρ α zs).toArray) (k : Nat) : (Builtin.zeroCells zv.cells k).toList.length = k * zs.length := by
  rw [hz]; simp [Builtin.zeroCells]
theorem srcE_ok {z : Nat} {xv : SCl} {new : List SCl} {m : Nat} {t1 : List Nat} (hs : srcE h z xv = some (new, m, t1)) (h1 : new.all SCl.cellOk = true) (hat : ∀ id ∈ t1, ∀ o, h id = some o → obAt ρ α w id o) {t2 e' : TypeId} (hk : P.underlying t2 = some (.slice e')) :
    Src P z t2 (xv.den ρ α) m (dens ρ α new) w ∧ new.length = m * z ∧ (∀ k, LowV k h → ∀ i ∈ idsL new, i < k) := by
  have hone : ∀ v ∈ dens ρ α new, v.oneCell' = true := by
    intro v hv
    obtain ⟨c, hm, rfl⟩ := List.mem_map.1 hv
    exact cellOk_one ρ α (List.all_eq_true.1 h1 c hm)
  unfold srcE at hs
  split at hs
  · rename_i id off len cap ex
    split at hs
    · rename_i b hb
      split at hs
      · rename_i hle
        cases hs
        have hle' : off + m * z ≤ b.cs.length := by simpa using hle
        have hb' := hat id (by simp) _ hb
        have hlen : ((b.cs.drop off).take (m * z)).length = m * z := by simp; omega
        refine ⟨Src.ofSlice w hk _ _ _ _ (by simp only [List.length_map]; exact hlen) (fun j u hu => ?_) hone, hlen, fun k hl i hi => (hl id _ hb).2 i (List.mem_append_left _ (idsL_drop (idsL_take hi)))⟩
        rw [Addr.add_mid]
        refine cell_of_blk hb' ?_
        simp only [List.map_take, List.map_drop, List.getElem?_take, List.getElem?_drop] at hu
        split at hu
        · exact hu
        · cases hu
      · cases hs
    · cases hs
  · cases hs
    exact ⟨Src.ofNil w hk 0, by simp, fun k _ i hi => by simp [idsL] at hi⟩
  · cases hs
theorem firstCells_blk {id off len z : Nat} {b : Blk} (hb : blkAt ρ α w id b) (hle : off + len * z ≤ b.cs.length) (c : Nat) :
    (Builtin.firstCells z len (.slice (some ⟨(α id).blk, off, none⟩) len c)).run P w.drew = .ok (dens ρ α ((b.cs.drop off).take (len * z))).toArray w.drew :=
  run_firstCells_some w.drew z len ⟨(α id).blk, off, none⟩ len c _ (by simp; omega) fun j u hu => by
    rw [Addr.add_mid]
    refine (cell_of_blk (w := w) hb ?_)
    simp only [List.map_take, List.map_drop, List.getElem?_take, List.getElem?_drop] at hu
    split at hu
    · exact hu
    · cases hu
/-- A new block of a slice that may have room for more. -/
theorem eff_grown {cs : List SCl} {t : TypeId} {z c : Nat} {tl : Array Value} (hz : 0 < z) (hl : ∀ m ∈ idsL cs, m < n) (htl : tl.toList.length = c * z) :
    Upd (Rg n (n + 1)) ρ α (setA α n ⟨w.heap.size, c, .func 0, #[]⟩) h w (w.drew.alloc (.cells ((dens ρ α cs).toArray ++ tl) t)) [(n, some (.blk ⟨t, cs, z, false, []⟩))] := by
  refine eff_new (stays_alloc_drew _ _) ⟨tl.toList, by rw [setA_same]; exact htl, fun e => absurd (show z = 0 from e) (by omega), ?_⟩ fun _ => Nat.le_refl _
  rw [setA_same, dens_set hl]
  show (w.heap.push _)[w.heap.size]? = _
  simp
theorem append_room {t t2 ty e : TypeId} {i : TypeInfo} (ht : P.underlying t = some (.slice e)) (hi : P.info? e = some i) {g off sLen sCap : Nat} {cur : List Value} {te : TypeId} (hg : w.heap[g]? = some (.cells cur.toArray te (0, 0))) {x : Value} {m : Nat} {news : List Value} (hs : Src P i.size t2 x m news w)
    (hroom : sLen + m ≤ sCap) (hfit : off + sLen * i.size + news.length ≤ cur.length) :
    (Builtin.append_ #[t, t2] ty #[.slice (some ⟨g, off, none⟩) sLen sCap, x]).run P w = .ok (.slice (some ⟨g, off, none⟩) (sLen + m) sCap) (w.setRow g (cur.take (off + sLen * i.size) ++ news ++ cur.drop (off + sLen * i.size + news.length)).toArray) := by
  have hst := run_storeCells_at (P := P) g (off + sLen * i.size) te news 0 cur.toArray w hg (by simpa using hfit) hs.one
  simp only [Nat.add_zero] at hst
  rcases hs.kind with ⟨e', hk⟩ | hk <;> simp [Builtin.append_, run_underlying ht, run_underlying hk, sizeOf, typeInfo, hi, hs.len, hroom, hs.cells, Addr.add_lit, hst]
theorem append_nothing {t t2 ty e : TypeId} {i : TypeInfo} (ht : P.underlying t = some (.slice e)) (hi : P.info? e = some i) {base : Option Addr} {sLen sCap : Nat} (hle : sLen ≤ sCap) {X : Value} {news : List Value} (src : Src P i.size t2 X 0 news w) :
    (Builtin.append_ #[t, t2] ty #[.slice base sLen sCap, X]).run P w = .ok (.slice base sLen sCap) w := by
  have hn : news = [] := List.eq_nil_of_length_eq_zero (src.newsLen.trans (Nat.zero_mul _))
  have hc := src.cells
  rw [hn] at hc
  rcases src.kind with ⟨e2, hk⟩ | hk <;> cases base <;> simp [Builtin.append_, run_underlying ht, run_underlying hk, sizeOf, typeInfo, hi, src.len, hc, hle, storeCells]
theorem appE_sound {pc : PC} {el : TypeId} {sv xv : SCl} {r : Res} (hr : (appE P h n pc el sv xv).pick ρ = some r) {t t2 ty e' : TypeId} (ht : P.underlying t = some (.slice el)) (ht2 : P.underlying t2 = some (.slice e'))
    (hat : ∀ id ∈ r.tch, ∀ o, h id = some o → obAt ρ α w id o) (hlow : LowV n h) : r.pc = pc ∧ ∃ v w', (Builtin.append_ #[t, t2] ty #[sv.den ρ α, xv.den ρ α]).run P w = .ok v w' ∧ EffR ρ n α h w r v w' := by
  unfold appE at hr
  split at hr
  · exact (T.bad_some hr).elim
  rename_i z by_ zs hel
  obtain ⟨i, zv, hi, hsz, hby, hz0, hzero, hzc, hzl, hzok, hsT, _⟩ := elT_some (ρ := ρ) (α := α) hel
  split at hr
  · exact (T.bad_some hr).elim
  rename_i new m t1 hsrc
  split at hr
  · exact (T.bad_some hr).elim
  rename_i hc
  simp only [Bool.not_eq_true', Bool.not_eq_false, Bool.and_eq_true, Nat.ble_eq] at hc
  obtain ⟨⟨hok, hmb⟩, hm⟩ := hc
  split at hr
  · split at hr
    · rename_i hm0
      have hm0 := Nat.eq_of_beq_eq_true hm0
      subst hm0
      obtain ⟨v, hv, rfl⟩ := valT_some hr
      cases hv
      obtain ⟨src, _, _⟩ := srcE_ok (P := P) hsrc hok hat ht2
      rw [← hsz] at src
      exact ⟨rfl, _, w, append_nothing ht hi (Nat.le_refl _) src, EffR.val⟩
    · rename_i hm0
      have := T.ret_some hr
      subst this
      have hm0' : m ≠ 0 := fun e => hm0 (by subst e; rfl)
      obtain ⟨src, hnl, hids⟩ := srcE_ok (P := P) hsrc hok hat ht2
      rw [← hsz] at src
      have run := run_append_grow_src (P := P) w t t2 ty el i zv ht hi hzero none 0 0 [] (by simp [Builtin.firstCells]) (xv.den ρ α) m (dens ρ α new) src (by omega) (by omega) (growslice_fits (by omega) (by rw [hby]; simp; omega))
      refine ⟨rfl, _, _, run, setA α n ⟨w.heap.size, grownCap w (0 + m) 0 el - m, .func 0, #[]⟩, ?_, ?_⟩
      · have hge := grownCap_ge w (0 + m) 0 el
        simp only [SV.den, SCl.den, setA_same, Nat.zero_add] at hge ⊢
        simp
        omega
      · simp only [Nat.zero_add, List.nil_append]
        exact eff_grown hz0 (hids n hlow) (by rw [zeroCells_len hzc, hzl])
  · rename_i id off len cap ex
    split at hr
    · rename_i b hb
      split at hr
      · exact (T.bad_some hr).elim
      rename_i hc2
      simp only [Bool.not_eq_true', Bool.not_eq_false, Bool.and_eq_true, Nat.ble_eq] at hc2
      obtain ⟨⟨⟨⟨hle, hel2⟩, hlc⟩, hlb⟩, hlm⟩ := hc2
      have hel2 := Nat.eq_of_beq_eq_true hel2
      have hcz : len * z ≤ cap * z := Nat.mul_le_mul_right _ hlc
      split at hr
      · rename_i hm0
        have hm0 := Nat.eq_of_beq_eq_true hm0
        subst hm0
        obtain ⟨v, hv, rfl⟩ := valT_some hr
        cases hv
        obtain ⟨src, _, _⟩ := srcE_ok (P := P) hsrc hok (fun i hi => hat i (List.mem_cons_of_mem _ hi)) ht2
        rw [← hsz] at src
        exact ⟨rfl, _, w, append_nothing ht hi (by split <;> omega) src, EffR.val⟩
      rename_i hm0
      have hm0' : m ≠ 0 := fun e => hm0 (by subst e; rfl)
      split at hr
      · rename_i hroom
        have hroom' : len + m ≤ cap := by simpa using hroom
        split at hr
        · exact (T.bad_some hr).elim
        rename_i hro
        have := T.ret_some hr
        subst this
        obtain ⟨tl, q1, q2, q3⟩ := hat id (List.mem_cons_self ..) _ hb
        obtain ⟨src, hnl, hids⟩ := srcE_ok (P := P) hsrc hok (fun i hi => hat i (List.mem_cons_of_mem _ (List.mem_append_right _ hi))) ht2
        rw [← hsz] at src
        have hmz : (len + m) * z ≤ cap * z := Nat.mul_le_mul_right _ hroom'
        rw [Nat.add_mul] at hmz
        have hr2 : len + m ≤ (if ex = true then cap else cap + (α id).ext) := by split <;> omega
        have run := append_room (P := P) (t2 := t2) (ty := ty) (off := off) ht hi q3 src hr2 (by rw [hsz]; simp [hnl]; omega)
        rw [hsz] at run
        have hpt := putL_tail (cs := dens ρ α b.cs) (tl := tl) (off := off + len * z) (vs := dens ρ α new) (by simp [hnl]; omega)
        rw [hpt] at run
        refine ⟨rfl, _, _, run, α, rfl, ?_⟩
        have e : putL (dens ρ α b.cs) (off + len * z) (dens ρ α new) = dens ρ α (putL b.cs (off + len * z) new) := by simp [putL, List.map_append, List.map_take, List.map_drop]
        rw [e]
        exact eff_set hb (by simpa using hro) q1 q2 q3 rfl
      rename_i hroom
      have hroom' : cap < len + m := by simpa using hroom
      split at hr
      · rename_i hex
        subst hex
        have := T.ret_some hr
        subst this
        have hb' := hat id (List.mem_cons_self ..) _ hb
        obtain ⟨src, hnl, hids⟩ := srcE_ok (P := P) hsrc hok (fun i hi => hat i (List.mem_cons_of_mem _ hi)) ht2
        rw [← hsz] at src
        have run := run_append_grow_src (P := P) w t t2 ty el i zv ht hi hzero (some ⟨(α id).blk, off, none⟩) len cap (dens ρ α ((b.cs.drop off).take (len * z))) (by rw [hsz]; exact firstCells_blk hb' (by omega) cap) (xv.den ρ α) m (dens ρ α new) src hroom' (by omega) (growslice_fits hroom' (by rw [hby]; omega))
        refine ⟨rfl, _, _, run, setA α n ⟨w.heap.size, grownCap w (len + m) cap el - (len + m), .func 0, #[]⟩, ?_, ?_⟩
        · have hge := grownCap_ge w (len + m) cap el
          simp only [SV.den, SCl.den, setA_same]
          simp
          omega
        · have e : (dens ρ α ((b.cs.drop off).take (len * z)) ++ dens ρ α new) = dens ρ α ((b.cs.drop off).take (len * z) ++ new) := List.map_append.symm
          rw [e]
          refine eff_grown hz0 (fun m hm => ?_) (by rw [zeroCells_len hzc, hzl])
          rw [idsL_append, List.mem_append] at hm
          rcases hm with hm | hm
          · exact (hlow id _ hb).2 m (List.mem_append_left _ (idsL_drop (idsL_take hm)))
          · exact hids n hlow m hm
      rename_i hex
      split at hr
      · rename_i hc3
        simp only [Bool.and_eq_true, Bool.not_eq_true'] at hc3
        obtain ⟨⟨⟨⟨⟨hro, hoff⟩, hbz⟩, hlcap⟩, hbl⟩, hsib⟩ := hc3
        have hoff := Nat.eq_of_beq_eq_true hoff
        have hbz := Nat.eq_of_beq_eq_true hbz
        have hlcap := Nat.eq_of_beq_eq_true hlcap
        have hbl := Nat.eq_of_beq_eq_true hbl
        subst hoff
        subst hlcap
        have := T.ret_some hr
        subst this
        have hb' := hat id (List.mem_cons_self ..) _ hb
        obtain ⟨tl, q1, q2, q3⟩ := hb'
        have hb' : blkAt ρ α w id b := ⟨tl, q1, q2, q3⟩
        have hidn : id < n := (hlow id _ hb).1
        obtain ⟨src, hnl, hids⟩ := srcE_ok (P := P) hsrc hok (fun i hi => hat i (List.mem_cons_of_mem _ (List.mem_append_right _ hi))) ht2
        rw [← hsz] at src
        have hexf : ex = false := by simpa using hex
        subst hexf
        have hbids : ∀ m ∈ idsL b.cs, m < n := fun m hm => (hlow id _ hb).2 m (List.mem_append_left _ hm)
        have hnids := hids n hlow
        have hall : ∀ m ∈ idsL (b.cs ++ new), m < n := fun m hm => by
          rw [idsL_append, List.mem_append] at hm
          exact hm.elim (hbids m) (hnids m)
        have get : ∀ i o, Hp.get i ((n, some (.blk ⟨el, b.cs ++ new, z, false, [id]⟩)) :: (id, some (.blk ⟨b.elem, b.cs, z, true, []⟩)) :: dropAll b.sib) = some (some o) →
            (i = n ∧ o = .blk ⟨el, b.cs ++ new, z, false, [id]⟩) ∨ (i = id ∧ o = .blk ⟨b.elem, b.cs, z, true, []⟩) := by
          intro i o e
          rw [Hp.get_cons] at e
          split at e
          · rename_i q; cases e; exact .inl ⟨q.symm, rfl⟩
          · rw [Hp.get_cons] at e
            split at e
            · rename_i q; cases e; exact .inr ⟨q.symm, rfl⟩
            · cases dropAll_get _ _ _ e
        have inj : ∀ (α' : Nat → Pl) i j oi oj, i ≠ j → Hp.get i ((n, some (.blk ⟨el, b.cs ++ new, z, false, [id]⟩)) :: (id, some (.blk ⟨b.elem, b.cs, z, true, []⟩)) :: dropAll b.sib) = some (some oi) → Hp.get j ((n, some (.blk ⟨el, b.cs ++ new, z, false, [id]⟩)) :: (id, some (.blk ⟨b.elem, b.cs, z, true, []⟩)) :: dropAll b.sib) = some (some oj) → oi.addr = true → oi.ro = false → oj.addr = true → (α' i).blk = (α' j).blk → j ∈ oi.sib := by
          intro α' i j oi oj hne e1 e2 _ hr2 _ _
          rcases get i oi e1 with ⟨rfl, rfl⟩ | ⟨rfl, rfl⟩
          · rcases get j oj e2 with ⟨rfl, rfl⟩ | ⟨rfl, rfl⟩
            · exact absurd rfl hne
            · simp [Ob.sib]
          · simp [Ob.ro] at hr2
        by_cases hfit : len + m ≤ len + (α id).ext
        · -- it lies in the same block
          have hr2 : len + m ≤ (if false = true then len else len + (α id).ext) := by simp; omega
          have hmz : m * z ≤ (α id).ext * z := Nat.mul_le_mul_right _ (by omega)
          have hfit2 : 0 + len * i.size + (dens ρ α new).length ≤ (dens ρ α b.cs ++ tl).length := by
            rw [hsz, List.length_append, List.length_map, List.length_map, q1, hbz, hbl, hnl]; omega
          have run := append_room (P := P) (t2 := t2) (ty := ty) (off := 0) ht hi q3 src hr2 hfit2
          rw [hsz] at run
          have e1 : (dens ρ α b.cs ++ tl).take (0 + len * z) = dens ρ α b.cs := by
            rw [Nat.zero_add, ← hbl]; exact List.take_left' (by simp)
          have e2 : (dens ρ α b.cs ++ tl).drop (0 + len * z + (dens ρ α new).length) = tl.drop (m * z) := by
            rw [List.length_map, hnl, Nat.zero_add, List.drop_append, List.drop_eq_nil_of_le (by rw [List.length_map]; omega), List.nil_append, List.length_map, hbl]
            congr 1
            omega
          rw [e1, e2] at run
          refine ⟨rfl, _, _, run, setA α n ⟨(α id).blk, (α id).ext - m, .func 0, #[]⟩, ?_, fun j hj => setA_other (fun e => hj (by subst e; exact ⟨Nat.le_refl _, Nat.lt_succ_self _⟩)) _, ?_, ?_, ?_, inj _⟩
          · simp only [SV.den, SCl.den, setA_same]
            simp
            omega
          · refine ⟨rfl, rfl, rfl, by simp [World.setRow], fun k _ hx => setRow_other _ _ _ _ fun e => hx ⟨id, _, ?_, fun q => by have := q.1; omega, hb, rfl, hro, e.symm⟩⟩
            rw [Hp.get_cons, if_neg (by omega), Hp.get_cons, if_pos rfl]
            rfl
          · intro j o e
            rcases get j o e with ⟨rfl, rfl⟩ | ⟨rfl, rfl⟩
            · refine ⟨tl.drop (m * z), ?_, fun q => absurd (show z = 0 from q) (by omega), ?_⟩
              · rw [setA_same, List.length_drop, q1, hbz, Nat.sub_mul]
              · rw [setA_same, dens_set hall]
                refine (setRow_heap _ _ _ _ _ _ q3).trans ?_
                rw [hel2]
                simp [List.map_append]
            · refine ⟨dens ρ α new ++ tl.drop (m * z), ?_, fun q => absurd (show z = 0 from q) (by omega), ?_⟩
              · rw [setA_other (by omega), List.length_append, List.length_drop, q1, hbz, List.length_map, hnl]; exact Nat.add_sub_of_le hmz
              · rw [setA_other (by omega), dens_set hbids]
                refine (setRow_heap _ _ _ _ _ _ q3).trans ?_
                simp [List.append_assoc]
          · intro j o hj e ha
            rcases get j o e with ⟨rfl, rfl⟩ | ⟨rfl, rfl⟩
            · refine .inl ⟨id, _, ?_, fun q => by have := q.1; omega, hb, rfl, hro, by rw [setA_same]⟩
              rw [Hp.get_cons, if_neg (by omega), Hp.get_cons, if_pos rfl]
              rfl
            · have := hj.1; omega
        · -- it lies in a new one
          have hr2 : (if false = true then len else len + (α id).ext) < len + m := by simp; omega
          have run := run_append_grow_src (P := P) w t t2 ty el i zv ht hi hzero (some ⟨(α id).blk, 0, none⟩) len (if false = true then len else len + (α id).ext) (dens ρ α ((b.cs.drop 0).take (len * z))) (by rw [hsz]; exact firstCells_blk hb' (by omega) _) (xv.den ρ α) m (dens ρ α new) src hr2 (by omega) (growslice_fits hr2 (by rw [hby]; omega))
          refine ⟨rfl, _, _, run, setA α n ⟨w.heap.size, grownCap w (len + m) (if false = true then len else len + (α id).ext) el - (len + m), .func 0, #[]⟩, ?_, fun j hj => setA_other (fun e => hj (by subst e; exact ⟨Nat.le_refl _, Nat.lt_succ_self _⟩)) _, (stays_alloc_drew _ _).mono fun _ _ q => q.elim, ?_, ?_, inj _⟩
          · have hge := grownCap_ge w (len + m) (if false = true then len else len + (α id).ext) el
            simp only [SV.den, SCl.den, setA_same] at hge ⊢
            simp at hge ⊢
            omega
          · intro j o e
            have hlt : (α id).blk < w.heap.size := (Array.getElem?_eq_some_iff.1 q3).1
            rcases get j o e with ⟨rfl, rfl⟩ | ⟨rfl, rfl⟩
            · refine ⟨(Builtin.zeroCells zv.cells (grownCap w (len + m) (if false = true then len else len + (α id).ext) el - (len + m))).toList, by rw [setA_same, zeroCells_len hzc, hzl], fun q => absurd (show z = 0 from q) (by omega), ?_⟩
              rw [setA_same, dens_set hall]
              show (w.heap.push _)[w.heap.size]? = _
              have e3 : (dens ρ α b.cs).take (len * z) = dens ρ α b.cs := List.take_of_length_le (by rw [List.length_map]; omega)
              simp [e3]
            · refine ⟨tl, by rw [setA_other (by omega), q1, hbz], fun q => absurd (show z = 0 from q) (by omega), ?_⟩
              rw [setA_other (by omega), dens_set hbids]
              exact (Below.heap_alloc w.drew _ _ hlt).trans q3
          · intro j o hj e ha
            rcases get j o e with ⟨rfl, rfl⟩ | ⟨rfl, rfl⟩
            · exact .inr (by rw [setA_same]; exact Nat.le_refl _)
            · have := hj.1; omega
      · exact (T.bad_some hr).elim
    · exact (T.bad_some hr).elim
  · exact (T.bad_some hr).elim
theorem appZ_sound {pc : PC} {el : TypeId} {sv xv : SCl} {r : Res} (hr : (appZ P h n pc el sv xv).pick ρ = some r) {t t2 ty : TypeId} {kn : IntKind} (ht : P.underlying t = some (.slice el)) (ht2 : P.underlying t2 = some (.int kn))
    (hat : ∀ id ∈ r.tch, ∀ o, h id = some o → obAt ρ α w id o) (hlow : LowV n h) : r.pc = pc ∧ ∃ v w', (Builtin.append_ #[t, t2] ty #[sv.den ρ α, xv.den ρ α]).run P w = .ok v w' ∧ EffR ρ n α h w r v w' := by
  unfold appZ at hr
  split at hr
  · rename_i z by_ zs kx k hel
    obtain ⟨i, zv, hi, hsz, hby, hz0, hzero, hzc, hzl, hzok, hsT, hzi⟩ := elT_some (ρ := ρ) (α := α) hel
    split at hr
    · exact (T.bad_some hr).elim
    rename_i hc
    simp only [Bool.not_eq_true', Bool.not_eq_false, Bool.and_eq_true, Nat.ble_eq, decide_eq_true_eq] at hc
    obtain ⟨⟨hk0, hkb⟩, hkm⟩ := hc
    obtain ⟨k, rfl⟩ : ∃ m : Nat, k = m := ⟨k.toNat, by omega⟩
    simp only [Int.toNat_natCast] at hkb hkm hr
    have hzl0 : 0 < zs.length := by omega
    have ez : Builtin.zeroCells zv.cells k = (dens ρ α (zerosL zs (k * z))).toArray := by rw [hzc, zeroCells_den hzl0, hzl]
    split at hr
    · have := T.ret_some hr
      subst this
      have run := Lib.run_append_grow_zeros (P := P) w t t2 ty el i zv kx kn ht ht2 hi hzero none 0 0 [] (by simp [Builtin.firstCells]) k (by omega) (by omega) (by omega) (by omega) (by rw [hby]; omega) (growslice_fits (by omega) (by rw [hby]; simp; omega))
      refine ⟨rfl, _, _, run, setA α n ⟨w.heap.size, grownCap w (0 + k) 0 el - k, .func 0, #[]⟩, ?_, ?_⟩
      · have hge := grownCap_ge w (0 + k) 0 el
        simp only [SV.den, SCl.den, setA_same, Nat.zero_add] at hge ⊢
        simp
        omega
      · rw [ez]
        simp only [Nat.zero_add]
        rw [show ([] : List Value).toArray ++ (dens ρ α (zerosL zs (k * z))).toArray = (dens ρ α (zerosL zs (k * z))).toArray from by simp]
        exact eff_grown hz0 (by rw [zerosL_ids hzi]; intro m hm; cases hm) (by rw [zeroCells_len hzc, hzl])
    · rename_i id off len cap
      split at hr
      · rename_i b hb
        split at hr
        · rename_i hc2
          simp only [Bool.and_eq_true, Nat.ble_eq, Nat.blt_eq] at hc2
          obtain ⟨⟨⟨hle, hroom⟩, hlb⟩, hlm⟩ := hc2
          have := T.ret_some hr
          subst this
          have hb' := hat id (List.mem_cons_self ..) _ hb
          have run := Lib.run_append_grow_zeros (P := P) w t t2 ty el i zv kx kn ht ht2 hi hzero (some ⟨(α id).blk, off, none⟩) len cap (dens ρ α ((b.cs.drop off).take (len * z))) (by rw [hsz]; exact firstCells_blk hb' hle cap) k (by omega) (by omega) hroom (by omega) (by rw [hby]; omega) (growslice_fits hroom (by rw [hby]; omega))
          refine ⟨rfl, _, _, run, setA α n ⟨w.heap.size, grownCap w (len + k) cap el - (len + k), .func 0, #[]⟩, ?_, ?_⟩
          · have hge := grownCap_ge w (len + k) cap el
            simp only [SV.den, SCl.den, setA_same]
            simp
            omega
          · rw [ez]
            have e : (dens ρ α ((b.cs.drop off).take (len * z))).toArray ++ (dens ρ α (zerosL zs (k * z))).toArray = (dens ρ α ((b.cs.drop off).take (len * z) ++ zerosL zs (k * z))).toArray := by simp [List.map_append]
            rw [e]
            refine eff_grown hz0 (fun m hm => ?_) (by rw [zeroCells_len hzc, hzl])
            rw [idsL_append, zerosL_ids hzi, List.append_nil] at hm
            exact (hlow id _ hb).2 m (List.mem_append_left _ (idsL_drop (idsL_take hm)))
        · exact (T.bad_some hr).elim
      · exact (T.bad_some hr).elim
    · exact (T.bad_some hr).elim
  · exact (T.bad_some hr).elim
end
end Go.Proofs.Ytlmijfgmfcnngaa
