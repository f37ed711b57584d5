/- The executor's laws: append. -/
import Derived.Test.YtmpadjlplgajcaaE4D
namespace Go.Proofs.Ytmpadjlplgajcaa
open Go.RowKit
section
variable {ρ : EnvS} {α : Nat → Pl} {P : Program} {n : Nat} {h : Vw} {w : World}
theorem elT_some {el : TypeId} {z b : Nat} {zs : List SCl} (he : elT P el = some (z, b, zs)) :
    ∃ i zv, P.info? el = some i ∧ i.size = z ∧ i.bytes = b ∧ 0 < z ∧ i.zero = some zv ∧ zv.cells = (dens ρ α zs).toArray ∧ zs.length = z ∧ zs.all SCl.cellOk = true ∧ sizeT P el = some z ∧ idsL zs = [] := by
  unfold elT at he
  split at he
  · rename_i z' b' zv h1 h2 h3
    split at he
    · rename_i zs' h4
      split at he
      · rename_i hc
        cases he
        simp only [Bool.and_eq_true, Nat.blt_eq] at hc
        obtain ⟨⟨c1, c2⟩, c3⟩ := hc
        have h1' := h1
        unfold sizeT at h1
        rw [Option.map_eq_some_iff] at h1
        obtain ⟨i, hi, q1⟩ := h1
        unfold bytesT at h2
        rw [hi] at h2
        simp only [Option.map_some, Option.some.injEq] at h2
        have h3' := h3
        unfold zeroT at h3
        rw [hi] at h3
        simp only at h3
        split at h3
        · rename_i v hv
          have e1 := cst_den ρ α h3
          have e2 := cells_den ρ α h4
          rw [e1] at e2
          refine ⟨i, v, hi, q1, h2, c1, hv, e2, Nat.eq_of_beq_eq_true c2, c3, h1', ?_⟩
          -- constants tell no names
          rw [cells_ids h4]
          have one : ∀ {u : Value} {c : SCl}, cst1 u = some c → idsL [c] = [] := by
            intro u c hu
            cases u <;> simp [cst1] at hu <;> subst hu <;> rfl
          have many : ∀ {us : List Value} {cs : List SCl}, cstL us = some cs → idsL cs = [] := by
            intro us
            induction us with
            | nil => intro cs hu; simp [cstL] at hu; subst hu; rfl
            | cons u us ih =>
              intro cs hu
              simp only [cstL] at hu
              split at hu
              · rename_i c cs' k1 k2
                cases hu
                rw [show c :: cs' = [c] ++ cs' from rfl]
                simp only [idsL, List.filterMap_append]
                have g1 := one k1
                have g2 := ih k2
                simp only [idsL] at g1 g2
                rw [g1, g2]
                rfl
              · cases hu
          unfold cst at h3
          split at h3
          · rw [Option.map_eq_some_iff] at h3
            obtain ⟨l, hl, rfl⟩ := h3
            exact many hl
          · cases h3; rfl
          · rw [Option.map_eq_some_iff] at h3
            obtain ⟨l, hl, rfl⟩ := h3
            exact one hl
        · cases h3
      · cases he
    · cases he
  · cases he
theorem zerosL_ids {zs : List SCl} (hz : idsL zs = []) (k : Nat) : idsL (zerosL zs k) = [] := by
  rw [List.eq_nil_iff_forall_not_mem]
  intro m hm
  obtain ⟨c, hc, e⟩ := List.mem_filterMap.1 hm
  obtain ⟨i, _, rfl⟩ := List.mem_map.1 hc
  rw [List.getD_eq_getElem?_getD] at e
  cases hq : zs[i % zs.length]? with
  | none => rw [hq] at e; simp [SCl.id?] at e
  | some d =>
    rw [hq] at e
    have : m ∈ idsL zs := List.mem_filterMap.2 ⟨d, List.mem_of_getElem? hq, by simpa using e⟩
    rw [hz] at this
    cases this
theorem zerosL_len (zs : List SCl) (k : Nat) : (zerosL zs k).length = k := by simp [zerosL]
theorem zerosL_den {zs : List SCl} (h0 : 0 < zs.length) (k : Nat) : (Array.range k).map (fun i => (dens ρ α zs).toArray[i % (dens ρ α zs).toArray.size]!) = (dens ρ α (zerosL zs k)).toArray := by
  apply Array.ext'
  simp only [Array.toList_map, Array.toList_range, zerosL, List.map_map]
  apply List.map_congr_left
  intro i _
  have h1 : i % zs.length < zs.length := Nat.mod_lt _ h0
  have h2 : (dens ρ α zs).toArray.size = zs.length := by simp
  rw [h2]
  simp [Function.comp, h1]
theorem zeroCells_den {zs : List SCl} (h0 : 0 < zs.length) (k : Nat) : Builtin.zeroCells (dens ρ α zs).toArray k = (dens ρ α (zerosL zs (k * zs.length))).toArray := by
  unfold Builtin.zeroCells
  have : (dens ρ α zs).toArray.size = zs.length := by simp
  rw [this]
  have e := zerosL_den (ρ := ρ) (α := α) h0 (k * zs.length)
  rw [this] at e
  exact e
theorem zeroCells_len {zv : Value} {zs : List SCl} (hz : zv.cells = (dens ρ α zs).toArray) (k : Nat) : (Builtin.zeroCells zv.cells k).toList.length = k * zs.length := by
  rw [hz]; simp [Builtin.zeroCells]
theorem srcE_ok {z : Nat} {xv : SCl} {new : List SCl} {m : Nat} {t1 : List Nat} (hs : srcE h z xv = some (new, m, t1)) (h1 : new.all SCl.cellOk = true) (hat : ∀ id ∈ t1, ∀ o, h id = some o → obAt ρ α w id o) {t2 e' : TypeId} (hk : P.underlying t2 = some (.slice e')) :
    Src P z t2 (xv.den ρ α) m (dens ρ α new) w ∧ new.length = m * z ∧ (∀ k, LowV k h → ∀ i ∈ idsL new, i < k) := by
  have hone : ∀ v ∈ dens ρ α new, v.oneCell' = true := by
    intro v hv
    obtain ⟨c, hm, rfl⟩ := List.mem_map.1 hv
    exact cellOk_one ρ α (List.all_eq_true.1 h1 c hm)
  unfold srcE at hs
  split at hs
  · rename_i id off len cap ex
    split at hs
    · rename_i b hb
      split at hs
      · rename_i hle
        cases hs
        have hle' : off + m * z ≤ b.cs.length := by simpa using hle
        have hb' := hat id (by simp) _ hb
        have hlen : ((b.cs.drop off).take (m * z)).length = m * z := by simp; omega
        refine ⟨Src.ofSlice w hk _ _ _ _ (by simp only [List.length_map]; exact hlen) (fun j u hu => ?_) hone, hlen, fun k hl i hi => (hl id _ hb).2 i (List.mem_append_left _ (idsL_drop (idsL_take hi)))⟩
        rw [Addr.add_mid]
        refine cell_of_blk hb' ?_
        simp only [List.map_take, List.map_drop, List.getElem?_take, List.getElem?_drop] at hu
        split at hu
        · exact hu
        · cases hu
      · cases hs
    · cases hs
  · cases hs
    exact ⟨Src.ofNil w hk 0, by simp, fun k _ i hi => by simp [idsL] at hi⟩
  · cases hs
theorem firstCells_blk {id off len z : Nat} {b : Blk} (hb : blkAt ρ α w id b) (hle : off + len * z ≤ b.cs.length) (c : Nat) :
    (Builtin.firstCells z len (.slice (some ⟨(α id).blk, off, none⟩) len c)).run P w.drew = .ok (dens ρ α ((b.cs.drop off).take (len * z))).toArray w.drew :=
  run_firstCells_some w.drew z len ⟨(α id).blk, off, none⟩ len c _ (by simp; omega) fun j u hu => by
    rw [Addr.add_mid]
    refine (cell_of_blk (w := w) hb ?_)
    simp only [List.map_take, List.map_drop, List.getElem?_take, List.getElem?_drop] at hu
    split at hu
    · exact hu
    · cases hu
/-- A new block of a slice that may have room for more. -/
theorem eff_grown {cs : List SCl} {t : TypeId} {z c : Nat} {tl : Array Value} (hz : 0 < z) (hl : ∀ m ∈ idsL cs, m < n) (htl : tl.toList.length = c * z) :
    Upd (Rg n (n + 1)) ρ α (setA α n ⟨w.heap.size, c, .func 0, #[]⟩) h w (w.drew.alloc (.cells ((dens ρ α cs).toArray ++ tl) t)) [(n, some (.blk ⟨t, cs, z, false, []⟩))] := by
  refine eff_new (stays_alloc_drew _ _) ⟨tl.toList, by rw [setA_same]; exact htl, fun e => absurd (show z = 0 from e) (by omega), ?_⟩ fun _ => Nat.le_refl _
  rw [setA_same, dens_set hl]
  show (w.heap.push _)[w.heap.size]? = _
  simp
theorem append_room {t t2 ty e : TypeId} {i : TypeInfo} (ht : P.underlying t = some (.slice e)) (hi : P.info? e = some i) {g off sLen sCap : Nat} {cur : List Value} {te : TypeId} (hg : w.heap[g]? = some (.cells cur.toArray te (0, 0))) {x : Value} {m : Nat} {news : List Value} (hs : Src P i.size t2 x m news w)
    (hroom : sLen + m ≤ sCap) (hfit : off + sLen * i.size + news.length ≤ cur.length) :
    (Builtin.append_ #[t, t2] ty #[.slice (some ⟨g, off, none⟩) sLen sCap, x]).run P w = .ok (.slice (some ⟨g, off, none⟩) (sLen + m) sCap) (w.setRow g (cur.take (off + sLen * i.size) ++ news ++ cur.drop (off + sLen * i.size + news.length)).toArray) := by
  have hst := run_storeCells_at (P := P) g (off + sLen * i.size) te news 0 cur.toArray w hg (by simpa using hfit) hs.one
  simp only [Nat.add_zero] at hst
  rcases hs.kind with ⟨e', hk⟩ | hk <;> simp [Builtin.append_, run_underlying ht, run_underlying hk, sizeOf, typeInfo, hi, hs.len, hroom, hs.cells, Addr.add_lit, hst]
theorem append_nothing {t t2 ty e : TypeId} {i : TypeInfo} (ht : P.underlying t = some (.slice e)) (hi : P.info? e = some i) {base : Option Addr} {sLen sCap : Nat} (hle : sLen ≤ sCap) {X : Value} {news : List Value} (src : Src P i.size t2 X 0 news w) :
    (Builtin.append_ #[t, t2] ty #[.slice base sLen sCap, X]).run P w = .ok (.slice base sLen sCap) w := by
  have hn : news = [] := List.eq_nil_of_length_eq_zero (src.newsLen.trans (Nat.zero_mul _))
  have hc := src.cells
  rw [hn] at hc
  rcases src.kind with ⟨e2, hk⟩ | hk <;> cases base <;> simp [Builtin.append_, run_underlying ht, run_underlying hk, sizeOf, typeInfo, hi, src.len, hc, hle, storeCells]
theorem appE_sound {pc : PC} {el : TypeId} {sv xv : SCl} {r : Res} (hr : (appE P h n pc el sv xv).pick ρ = some r) {t t2 ty e' : TypeId} (ht : P.underlying t = some (.slice el)) (ht2 : P.underlying t2 = some (.slice e'))
    (hat : ∀ id ∈ r.tch, ∀ o, h id = some o → obAt ρ α w id o) (hlow : LowV n h) : r.pc = pc ∧ ∃ v w', (Builtin.append_ #[t, t2] ty #[sv.den ρ α, xv.den ρ α]).run P w = .ok v w' ∧ EffR ρ n α h w r v w' := by
  unfold appE at hr
  split at hr
  · exact (T.bad_some hr).elim
  rename_i z by_ zs hel
  obtain ⟨i, zv, hi, hsz, hby, hz0, hzero, hzc, hzl, hzok, hsT, _⟩ := elT_some (ρ := ρ) (α := α) hel
  split at hr
  · exact (T.bad_some hr).elim
  rename_i new m t1 hsrc
  split at hr
  · exact (T.bad_some hr).elim
  rename_i hc
  simp only [Bool.not_eq_true', Bool.not_eq_false, Bool.and_eq_true, Nat.ble_eq] at hc
  obtain ⟨⟨hok, hmb⟩, hm⟩ := hc
  split at hr
  · split at hr
    · rename_i hm0
      have hm0 := Nat.eq_of_beq_eq_true hm0
      subst hm0
      obtain ⟨v, hv, rfl⟩ := valT_some hr
      cases hv
      obtain ⟨src, _, _⟩ := srcE_ok (P := P) hsrc hok hat ht2
      rw [← hsz] at src
      exact ⟨rfl, _, w, append_nothing ht hi (Nat.le_refl _) src, EffR.val⟩
    · rename_i hm0
      have := T.ret_some hr
      subst this
      have hm0' : m ≠ 0 := fun e => hm0 (by subst e; rfl)
      obtain ⟨src, hnl, hids⟩ := srcE_ok (P := P) hsrc hok hat ht2
      rw [← hsz] at src
      have run := run_append_grow_src (P := P) w t t2 ty el i zv ht hi hzero none 0 0 [] (by simp [Builtin.firstCells]) (xv.den ρ α) m (dens ρ α new) src (by omega) (by omega) (growslice_fits (by omega) (by rw [hby]; simp; omega))
      refine ⟨rfl, _, _, run, setA α n ⟨w.heap.size, grownCap w (0 + m) 0 el - m, .func 0, #[]⟩, ?_, ?_⟩
      · have hge := grownCap_ge w (0 + m) 0 el
        simp only [SV.den, SCl.den, setA_same, Nat.zero_add] at hge ⊢
        simp
        omega
      · simp only [Nat.zero_add, List.nil_append]
        exact eff_grown hz0 (hids n hlow) (by rw [zeroCells_len hzc, hzl])
  · rename_i id off len cap ex
    split at hr
    · rename_i b hb
      split at hr
      · exact (T.bad_some hr).elim
      rename_i hc2
      simp only [Bool.not_eq_true', Bool.not_eq_false, Bool.and_eq_true, Nat.ble_eq] at hc2
      obtain ⟨⟨⟨⟨hle, hel2⟩, hlc⟩, hlb⟩, hlm⟩ := hc2
      have hel2 := Nat.eq_of_beq_eq_true hel2
      have hcz : len * z ≤ cap * z := Nat.mul_le_mul_right _ hlc
      split at hr
      · rename_i hm0
        have hm0 := Nat.eq_of_beq_eq_true hm0
        subst hm0
        obtain ⟨v, hv, rfl⟩ := valT_some hr
        cases hv
        obtain ⟨src, _, _⟩ := srcE_ok (P := P) hsrc hok (fun i hi => hat i (List.mem_cons_of_mem _ hi)) ht2
        rw [← hsz] at src
        exact ⟨rfl, _, w, append_nothing ht hi (by split <;> omega) src, EffR.val⟩
      rename_i hm0
      have hm0' : m ≠ 0 := fun e => hm0 (by subst e; rfl)
      split at hr
      · rename_i hroom
        have hroom' : len + m ≤ cap := by simpa using hroom
        split at hr
        · exact (T.bad_some hr).elim
        rename_i hro
        have := T.ret_some hr
        subst this
        obtain ⟨tl, q1, q2, q3⟩ := hat id (List.mem_cons_self ..) _ hb
        obtain ⟨src, hnl, hids⟩ := srcE_ok (P := P) hsrc hok (fun i hi => hat i (List.mem_cons_of_mem _ (List.mem_append_right _ hi))) ht2
        rw [← hsz] at src
        have hmz : (len + m) * z ≤ cap * z := Nat.mul_le_mul_right _ hroom'
        rw [Nat.add_mul] at hmz
        have hr2 : len + m ≤ (if ex = true then cap else cap + (α id).ext) := by split <;> omega
        have run := append_room (P := P) (t2 := t2) (ty := ty) (off := off) ht hi q3 src hr2 (by rw [hsz]; simp [hnl]; omega)
        rw [hsz] at run
        have hpt := putL_tail (cs := dens ρ α b.cs) (tl := tl) (off := off + len * z) (vs := dens ρ α new) (by simp [hnl]; omega)
        rw [hpt] at run
        refine ⟨rfl, _, _, run, α, rfl, ?_⟩
        have e : putL (dens ρ α b.cs) (off + len * z) (dens ρ α new) = dens ρ α (putL b.cs (off + len * z) new) := by simp [putL, List.map_append, List.map_take, List.map_drop]
        rw [e]
        exact eff_set hb (by simpa using hro) q1 q2 q3 rfl
      rename_i hroom
      have hroom' : cap < len + m := by simpa using hroom
      split at hr
      · rename_i hex
        subst hex
        have := T.ret_some hr
        subst this
        have hb' := hat id (List.mem_cons_self ..) _ hb
        obtain ⟨src, hnl, hids⟩ := srcE_ok (P := P) hsrc hok (fun i hi => hat i (List.mem_cons_of_mem _ hi)) ht2
        rw [← hsz] at src
        have run := run_append_grow_src (P := P) w t t2 ty el i zv ht hi hzero (some ⟨(α id).blk, off, none⟩) len cap (dens ρ α ((b.cs.drop off).take (len * z))) (by rw [hsz]; exact firstCells_blk hb' (by omega) cap) (xv.den ρ α) m (dens ρ α new) src hroom' (by omega) (growslice_fits hroom' (by rw [hby]; omega))
        refine ⟨rfl, _, _, run, setA α n ⟨w.heap.size, grownCap w (len + m) cap el - (len + m), .func 0, #[]⟩, ?_, ?_⟩
        · have hge := grownCap_ge w (len + m) cap el
          simp only [SV.den, SCl.den, setA_same]
          simp
          omega
        · have e : (dens ρ α ((b.cs.drop off).take (len * z)) ++ dens ρ α new) = dens ρ α ((b.cs.drop off).take (len * z) ++ new) := List.map_append.symm
          rw [e]
          refine eff_grown hz0 (fun m hm => ?_) (by rw [zeroCells_len hzc, hzl])
          rw [idsL_append, List.mem_append] at hm
          rcases hm with hm | hm
          · exact (hlow id _ hb).2 m (List.mem_append_left _ (idsL_drop (idsL_take hm)))
          · exact hids n hlow m hm
      rename_i hex
      split at hr
      · rename_i hc3
        simp only [Bool.and_eq_true, Bool.not_eq_true'] at hc3
        obtain ⟨⟨⟨⟨⟨hro, hoff⟩, hbz⟩, hlcap⟩, hbl⟩, hsib⟩ := hc3
        have hoff := Nat.eq_of_beq_eq_true hoff
        have hbz := Nat.eq_of_beq_eq_true hbz
        have hlcap := Nat.eq_of_beq_eq_true hlcap
        have hbl := Nat.eq_of_beq_eq_true hbl
        subst hoff
        subst hlcap
        have := T.ret_some hr
        subst this
        have hb' := hat id (List.mem_cons_self ..) _ hb
        obtain ⟨tl, q1, q2, q3⟩ := hb'
        have hb' : blkAt ρ α w id b := ⟨tl, q1, q2, q3⟩
        have hidn : id < n := (hlow id _ hb).1
        obtain ⟨src, hnl, hids⟩ := srcE_ok (P := P) hsrc hok (fun i hi => hat i (List.mem_cons_of_mem _ (List.mem_append_right _ hi))) ht2
        rw [← hsz] at src
        have hexf : ex = false := by simpa using hex
        subst hexf
        have hbids : ∀ m ∈ idsL b.cs, m < n := fun m hm => (hlow id _ hb).2 m (List.mem_append_left _ hm)
        have hnids := hids n hlow
        have hall : ∀ m ∈ idsL (b.cs ++ new), m < n := fun m hm => by
          rw [idsL_append, List.mem_append] at hm
          exact hm.elim (hbids m) (hnids m)
        have get : ∀ i o, Hp.get i ((n, some (.blk ⟨el, b.cs ++ new, z, false, [id]⟩)) :: (id, some (.blk ⟨b.elem, b.cs, z, true, []⟩)) :: dropAll b.sib) = some (some o) →
            (i = n ∧ o = .blk ⟨el, b.cs ++ new, z, false, [id]⟩) ∨ (i = id ∧ o = .blk ⟨b.elem, b.cs, z, true, []⟩) := by
          intro i o e
          rw [Hp.get_cons] at e
          split at e
          · rename_i q; cases e; exact .inl ⟨q.symm, rfl⟩
          · rw [Hp.get_cons] at e
            split at e
            · rename_i q; cases e; exact .inr ⟨q.symm, rfl⟩
            · cases dropAll_get _ _ _ e
        have inj : ∀ (α' : Nat → Pl) i j oi oj, i ≠ j → Hp.get i ((n, some (.blk ⟨el, b.cs ++ new, z, false, [id]⟩)) :: (id, some (.blk ⟨b.elem, b.cs, z, true, []⟩)) :: dropAll b.sib) = some (some oi) → Hp.get j ((n, some (.blk ⟨el, b.cs ++ new, z, false, [id]⟩)) :: (id, some (.blk ⟨b.elem, b.cs, z, true, []⟩)) :: dropAll b.sib) = some (some oj) → oi.adr (α' i) = true → oi.ro = false → oj.adr (α' j) = true → (α' i).blk = (α' j).blk → j ∈ oi.sib := by
          intro α' i j oi oj hne e1 e2 _ hr2 _ _
          rcases get i oi e1 with ⟨rfl, rfl⟩ | ⟨rfl, rfl⟩
          · rcases get j oj e2 with ⟨rfl, rfl⟩ | ⟨rfl, rfl⟩
            · exact absurd rfl hne
            · simp [Ob.sib]
          · simp [Ob.ro] at hr2
        by_cases hfit : len + m ≤ len + (α id).ext
        · -- it lies in the same block
          have hr2 : len + m ≤ (if false = true then len else len + (α id).ext) := by simp; omega
          have hmz : m * z ≤ (α id).ext * z := Nat.mul_le_mul_right _ (by omega)
          have hfit2 : 0 + len * i.size + (dens ρ α new).length ≤ (dens ρ α b.cs ++ tl).length := by
            rw [hsz, List.length_append, List.length_map, List.length_map, q1, hbz, hbl, hnl]; omega
          have run := append_room (P := P) (t2 := t2) (ty := ty) (off := 0) ht hi q3 src hr2 hfit2
          rw [hsz] at run
          have e1 : (dens ρ α b.cs ++ tl).take (0 + len * z) = dens ρ α b.cs := by
            rw [Nat.zero_add, ← hbl]; exact List.take_left' (by simp)
          have e2 : (dens ρ α b.cs ++ tl).drop (0 + len * z + (dens ρ α new).length) = tl.drop (m * z) := by
            rw [List.length_map, hnl, Nat.zero_add, List.drop_append, List.drop_eq_nil_of_le (by rw [List.length_map]; omega), List.nil_append, List.length_map, hbl]
            congr 1
            omega
          rw [e1, e2] at run
          refine ⟨rfl, _, _, run, setA α n ⟨(α id).blk, (α id).ext - m, .func 0, #[]⟩, ?_, fun j hj => setA_other (fun e => hj (by subst e; exact ⟨Nat.le_refl _, Nat.lt_succ_self _⟩)) _, ?_, ?_, ?_, inj _⟩
          · simp only [SV.den, SCl.den, setA_same]
            simp
            omega
          · refine ⟨rfl, rfl, rfl, by simp [World.setRow], fun k _ hx => setRow_other _ _ _ _ fun e => hx ⟨id, _, ?_, fun q => by have := q.1; omega, hb, rfl, hro, e.symm⟩⟩
            rw [Hp.get_cons, if_neg (by omega), Hp.get_cons, if_pos rfl]
            rfl
          · intro j o e
            rcases get j o e with ⟨rfl, rfl⟩ | ⟨rfl, rfl⟩
            · refine ⟨tl.drop (m * z), ?_, fun q => absurd (show z = 0 from q) (by omega), ?_⟩
              · rw [setA_same, List.length_drop, q1, hbz, Nat.sub_mul]
              · rw [setA_same, dens_set hall]
                refine (setRow_heap _ _ _ _ _ _ q3).trans ?_
                rw [hel2]
                simp [List.map_append]
            · refine ⟨dens ρ α new ++ tl.drop (m * z), ?_, fun q => absurd (show z = 0 from q) (by omega), ?_⟩
              · rw [setA_other (by omega), List.length_append, List.length_drop, q1, hbz, List.length_map, hnl]; exact Nat.add_sub_of_le hmz
              · rw [setA_other (by omega), dens_set hbids]
                refine (setRow_heap _ _ _ _ _ _ q3).trans ?_
                simp [List.append_assoc]
          · intro j o hj e ha
            rcases get j o e with ⟨rfl, rfl⟩ | ⟨rfl, rfl⟩
            · refine .inl ⟨id, _, ?_, fun q => by have := q.1; omega, hb, rfl, hro, by rw [setA_same]⟩
              rw [Hp.get_cons, if_neg (by omega), Hp.get_cons, if_pos rfl]
              rfl
            · have := hj.1; omega
        · -- it lies in a new one
          have hr2 : (if false = true then len else len + (α id).ext) < len + m := by simp; omega
          have run := run_append_grow_src (P := P) w t t2 ty el i zv ht hi hzero (some ⟨(α id).blk, 0, none⟩) len (if false = true then len else len + (α id).ext) (dens ρ α ((b.cs.drop 0).take (len * z))) (by rw [hsz]; exact firstCells_blk hb' (by omega) _) (xv.den ρ α) m (dens ρ α new) src hr2 (by omega) (growslice_fits hr2 (by rw [hby]; omega))
          refine ⟨rfl, _, _, run, setA α n ⟨w.heap.size, grownCap w (len + m) (if false = true then len else len + (α id).ext) el - (len + m), .func 0, #[]⟩, ?_, fun j hj => setA_other (fun e => hj (by subst e; exact ⟨Nat.le_refl _, Nat.lt_succ_self _⟩)) _, (stays_alloc_drew _ _).mono fun _ _ q => q.elim, ?_, ?_, inj _⟩
          · have hge := grownCap_ge w (len + m) (if false = true then len else len + (α id).ext) el
            simp only [SV.den, SCl.den, setA_same] at hge ⊢
            simp at hge ⊢
            omega
          · intro j o e
            have hlt : (α id).blk < w.heap.size := (Array.getElem?_eq_some_iff.1 q3).1
            rcases get j o e with ⟨rfl, rfl⟩ | ⟨rfl, rfl⟩
            · refine ⟨(Builtin.zeroCells zv.cells (grownCap w (len + m) (if false = true then len else len + (α id).ext) el - (len + m))).toList, by rw [setA_same, zeroCells_len hzc, hzl], fun q => absurd (show z = 0 from q) (by omega), ?_⟩
              rw [setA_same, dens_set hall]
              show (w.heap.push _)[w.heap.size]? = _
              have e3 : (dens ρ α b.cs).take (len * z) = dens ρ α b.cs := List.take_of_length_le (by rw [List.length_map]; omega)
              simp [e3]
            · refine ⟨tl, by rw [setA_other (by omega), q1, hbz], fun q => absurd (show z = 0 from q) (by omega), ?_⟩
              rw [setA_other (by omega), dens_set hbids]
              exact (Below.heap_alloc w.drew _ _ hlt).trans q3
          · intro j o hj e ha
            rcases get j o e with ⟨rfl, rfl⟩ | ⟨rfl, rfl⟩
            · exact .inr (by rw [setA_same]; exact Nat.le_refl _)
            · have := hj.1; omega
      · exact (T.bad_some hr).elim
    · exact (T.bad_some hr).elim
  · exact (T.bad_some hr).elim
theorem appZ_sound {pc : PC} {el : TypeId} {sv xv : SCl} {r : Res} (hr : (appZ P h n pc el sv xv).pick ρ = some r) {t t2 ty : TypeId} {kn : IntKind} (ht : P.underlying t = some (.slice el)) (ht2 : P.underlying t2 = some (.int kn))
    (hat : ∀ id ∈ r.tch, ∀ o, h id = some o → obAt ρ α w id o) (hlow : LowV n h) : r.pc = pc ∧ ∃ v w', (Builtin.append_ #[t, t2] ty #[sv.den ρ α, xv.den ρ α]).run P w = .ok v w' ∧ EffR ρ n α h w r v w' := by
  unfold appZ at hr
  split at hr
  · rename_i z by_ zs kx k hel
    obtain ⟨i, zv, hi, hsz, hby, hz0, hzero, hzc, hzl, hzok, hsT, hzi⟩ := elT_some (ρ := ρ) (α := α) hel
    split at hr
    · exact (T.bad_some hr).elim
    rename_i hc
    simp only [Bool.not_eq_true', Bool.not_eq_false, Bool.and_eq_true, Nat.ble_eq, decide_eq_true_eq] at hc
    obtain ⟨⟨hk0, hkb⟩, hkm⟩ := hc
    obtain ⟨k, rfl⟩ : ∃ m : Nat, k = m := ⟨k.toNat, by omega⟩
    simp only [Int.toNat_natCast] at hkb hkm hr
    have hzl0 : 0 < zs.length := by omega
    have ez : Builtin.zeroCells zv.cells k = (dens ρ α (zerosL zs (k * z))).toArray := by rw [hzc, zeroCells_den hzl0, hzl]
    split at hr
    · have := T.ret_some hr
      subst this
      have run := Lib.run_append_grow_zeros (P := P) w t t2 ty el i zv kx kn ht ht2 hi hzero none 0 0 [] (by simp [Builtin.firstCells]) k (by omega) (by omega) (by omega) (by omega) (by rw [hby]; omega) (growslice_fits (by omega) (by rw [hby]; simp; omega))
      refine ⟨rfl, _, _, run, setA α n ⟨w.heap.size, grownCap w (0 + k) 0 el - k, .func 0, #[]⟩, ?_, ?_⟩
      · have hge := grownCap_ge w (0 + k) 0 el
        simp only [SV.den, SCl.den, setA_same, Nat.zero_add] at hge ⊢
        simp
        omega
      · rw [ez]
        simp only [Nat.zero_add]
        rw [show ([] : List Value).toArray ++ (dens ρ α (zerosL zs (k * z))).toArray = (dens ρ α (zerosL zs (k * z))).toArray from by simp]
        exact eff_grown hz0 (by rw [zerosL_ids hzi]; intro m hm; cases hm) (by rw [zeroCells_len hzc, hzl])
    · rename_i id off len cap
      split at hr
      · rename_i b hb
        split at hr
        · rename_i hc2
          simp only [Bool.and_eq_true, Nat.ble_eq, Nat.blt_eq] at hc2
          obtain ⟨⟨⟨hle, hroom⟩, hlb⟩, hlm⟩ := hc2
          have := T.ret_some hr
          subst this
          have hb' := hat id (List.mem_cons_self ..) _ hb
          have run := Lib.run_append_grow_zeros (P := P) w t t2 ty el i zv kx kn ht ht2 hi hzero (some ⟨(α id).blk, off, none⟩) len cap (dens ρ α ((b.cs.drop off).take (len * z))) (by rw [hsz]; exact firstCells_blk hb' hle cap) k (by omega) (by omega) hroom (by omega) (by rw [hby]; omega) (growslice_fits hroom (by rw [hby]; omega))
          refine ⟨rfl, _, _, run, setA α n ⟨w.heap.size, grownCap w (len + k) cap el - (len + k), .func 0, #[]⟩, ?_, ?_⟩
          · have hge := grownCap_ge w (len + k) cap el
            simp only [SV.den, SCl.den, setA_same]
            simp
            omega
          · rw [ez]
            have e : (dens ρ α ((b.cs.drop off).take (len * z))).toArray ++ (dens ρ α (zerosL zs (k * z))).toArray = (dens ρ α ((b.cs.drop off).take (len * z) ++ zerosL zs (k * z))).toArray := by simp [List.map_append]
            rw [e]
            refine eff_grown hz0 (fun m hm => ?_) (by rw [zeroCells_len hzc, hzl])
            rw [idsL_append, zerosL_ids hzi, List.append_nil] at hm
            exact (hlow id _ hb).2 m (List.mem_append_left _ (idsL_drop (idsL_take hm)))
        · exact (T.bad_some hr).elim
      · exact (T.bad_some hr).elim
    · exact (T.bad_some hr).elim
  · exact (T.bad_some hr).elim
theorem eff_lst {id : Nat} {b b' : LB} {p : Pl} {w' : World} (hid : h id = some (.lst b)) (hidn : id < n) (hst : Stays (Xs (Rg n (n + 1)) α h [(n, some (.lst b')), (id, none)]) w w') (hat : obAt ρ (setA α n p) w' n (.lst b'))
    (hown : p.isNil = false → (p.blk = (α id).blk ∧ (α id).isNil = false) ∨ w.heap.size ≤ p.blk) : Upd (Rg n (n + 1)) ρ α (setA α n p) h w w' [(n, some (.lst b')), (id, none)] := by
  have get : ∀ i o, Hp.get i [(n, some (.lst b')), (id, none)] = some (some o) → i = n ∧ o = .lst b' := by
    intro i o e
    rw [Hp.get_cons] at e
    split at e
    · rename_i q; cases e; exact ⟨q.symm, rfl⟩
    · rw [Hp.get_cons] at e
      split at e
      · cases e
      · simp [Hp.get_nil] at e
  refine ⟨fun i hr => setA_other (fun e => hr (by subst e; exact ⟨Nat.le_refl _, Nat.lt_succ_self _⟩)) p, hst, fun i o e => ?_, fun i o _ e ha => ?_, fun i j oi oj hne e1 e2 => ?_⟩
  · obtain ⟨rfl, rfl⟩ := get i o e; exact hat
  · obtain ⟨rfl, rfl⟩ := get i o e
    rw [setA_same] at ha ⊢
    have q : p.isNil = false := by simpa [Ob.adr, Ob.addr, Ob.isL] using ha
    rcases hown q with ⟨h1, h2⟩ | h1
    · refine .inl ⟨id, .lst b, ?_, fun q => ?_, hid, by simp [Ob.adr, Ob.addr, Ob.isL, h2], rfl, h1.symm⟩
      · rw [Hp.get_cons, if_neg (by omega), Hp.get_cons, if_pos rfl]; rfl
      · have := q.1; omega
    · exact .inr h1
  · have := (get i oi e1).1; have := (get j oj e2).1; omega
theorem valsB_base {b : LB} (hu : b.ups = []) (j : Nat) : valsB ρ α b j = dens ρ α (b.base (.lit j)) := by unfold valsB; rw [hu]; rfl
theorem row_grow {b : LB} {z N : Nat} {cs new rest : List Value} (hu : b.ups = []) (hz : z = b.ks.length) (hN : b.n.den ρ = (N : Int)) (hlen : N * z ≤ cs.length) (hnew : dens ρ α (b.base b.n) = new) (hold : ∀ (j c : Nat) (v : Value), (j : Int) < b.n.den ρ → (valsB ρ α b j)[c]? = some v → cs[j * b.ks.length + c]? = some v) :
    ∀ (j c : Nat) (v : Value), (j : Int) < (N : Int) + 1 → (valsB ρ α b j)[c]? = some v → (cs.take (N * z) ++ new ++ rest)[j * b.ks.length + c]? = some v := by
  subst hz
  intro j c v hj hv
  have hc : c < b.ks.length := by
    have := (List.getElem?_eq_some_iff.1 hv).1
    rw [valsB_base hu] at this
    simp only [dens, List.length_map, LB.base_len] at this
    exact this
  have hnl : new.length = b.ks.length := by rw [← hnew]; simp [dens, LB.base_len]
  have ht : (cs.take (N * b.ks.length)).length = N * b.ks.length := by simp; omega
  by_cases h1 : j < N
  · have h2 : (j + 1) * b.ks.length ≤ N * b.ks.length := Nat.mul_le_mul_right _ h1
    rw [Nat.add_mul] at h2
    have h3 := hold j c v (by omega) hv
    rw [List.append_assoc, List.getElem?_append_left (by omega), List.getElem?_take, if_pos (by omega)]
    exact h3
  · have h2 : j = N := by omega
    subst h2
    rw [valsB_base hu] at hv
    rw [List.append_assoc, List.getElem?_append_right (by omega), ht, Nat.add_sub_cancel_left, List.getElem?_append_left (by omega), ← hnew, ← LB.base_congr (j := .lit j) hN.symm]
    exact hv
theorem zero_one {zv : Value} {zs : List SCl} (hzc : zv.cells = (dens ρ α zs).toArray) (hzok : zs.all SCl.cellOk = true) (h0 : 0 < zs.length) (k : Nat) : ∀ u ∈ (Builtin.zeroCells zv.cells k).toList, u.oneCell' = true := by
  rw [hzc, zeroCells_den h0]
  intro u hu
  obtain ⟨c, hc, rfl⟩ := List.mem_map.1 hu
  obtain ⟨i, _, rfl⟩ := List.mem_map.1 hc
  refine cellOk_one ρ α ?_
  rw [List.getD_eq_getElem?_getD, List.getElem?_eq_getElem (Nat.mod_lt _ h0), Option.getD_some]
  exact List.all_eq_true.1 hzok _ (List.getElem_mem _)
theorem first0 (z : Nat) (A : Option Addr) (c : Nat) : (Builtin.firstCells z 0 (.slice A 0 c)).run P w = .ok #[] w := by
  cases A with
  | none => simp [Builtin.firstCells]
  | some a => exact run_firstCells_some w z 0 a 0 c [] (by simp) fun j u hu => by simp at hu
theorem vals_new {b : LB} {n' : IE} (hu : b.ups = []) {α' : Nat → Pl} {j : Nat} : valsB ρ α' { b with n := n' } j = valsB ρ α b j := by
  rw [valsB_base (show ({ b with n := n' } : LB).ups = [] from hu), valsB_base hu]
  exact dens_ids fun m hm => by rw [LB.base_ids] at hm; cases hm
theorem appB_sound {pc : PC} (hpc : pc.Ok ρ) {el : TypeId} {id : Nat} {len : IE} {xv : SCl} {r : Res} (hr : (appB P h n pc el id len xv).pick ρ = some r) {t t2 ty e' : TypeId} (ht : P.underlying t = some (.slice el)) (ht2 : P.underlying t2 = some (.slice e'))
    (hat : ∀ id ∈ r.tch, ∀ o, h id = some o → obAt ρ α w id o) (hlow : LowV n h) : r.pc = pc ∧ ∃ v w', (Builtin.append_ #[t, t2] ty #[(SCl.bls id len).den ρ α, xv.den ρ α]).run P w = .ok v w' ∧ EffR ρ n α h w r v w' := by
  unfold appB at hr
  split at hr
  case h_2 => exact (T.bad_some hr).elim
  rename_i z by_ zs b hel hb
  obtain ⟨i, zv, hi, hsz, hby, hz0, hzero, hzc, hzl, hzok, hsT, _⟩ := elT_some (ρ := ρ) (α := α) hel
  split at hr
  case h_2 => exact (T.bad_some hr).elim
  rename_i new m t1 hsrc
  split at hr
  case isFalse => exact (T.bad_some hr).elim
  rename_i hc
  simp only [Bool.and_eq_true, Nat.ble_eq] at hc
  obtain ⟨hm, hok, hzk, hbe, hln, hb100, hups, hrng, heq⟩ := hc
  have hu : b.ups = [] := List.isEmpty_iff.1 hups
  have hm := Nat.eq_of_beq_eq_true hm
  have hzk := Nat.eq_of_beq_eq_true hzk
  have hbe : b.elem = el := Nat.eq_of_beq_eq_true hbe
  have hln := IE.same_eq _ _ hln
  subst hm
  subst hln
  have := T.ret_some hr
  subst this
  have hl : lstAt ρ α w id b := hat id (List.mem_cons_self ..) _ hb
  have hidn := (hlow id _ hb).1
  obtain ⟨src, hnl, hids⟩ := srcE_ok (P := P) hsrc hok (fun i hi => hat i (List.mem_cons_of_mem _ hi)) ht2
  have hnl' : (dens ρ α new).length = z := by simp [hnl]
  have hnew : dens ρ α (b.base b.n) = dens ρ α new := (eqPL_den (α := α) hpc heq).1
  rw [← hsz] at src
  obtain ⟨N, hN⟩ : ∃ N : Nat, b.n.den ρ = (N : Int) := ⟨(b.n.den ρ).toNat, (Int.toNat_of_nonneg hl.nn).symm⟩
  have hNm : N ≤ 1000000 := by
    have h2 := (PC.rng_ok hpc b.n).2
    unfold leO at hrng
    split at hrng
    · rename_i x y e1 e2
      cases e2
      have := h2 x e1
      have := of_decide_eq_true hrng
      omega
    · cases hrng
  have hfit : (N + 1) * i.bytes ≤ 140737488355328 := by
    rw [hby]
    exact Nat.le_trans (Nat.mul_le_mul (show N + 1 ≤ 1000001 by omega) hb100) (by omega)
  have hn1 : (IE.addS b.n (.lit 1)).den ρ = (N : Int) + 1 := by rw [IE.addS_den, hN]; rfl
  have hno : ∀ u ∈ dens ρ α new, u.oneCell' = true := src.one
  have hzo : ∀ k, ∀ u ∈ (Builtin.zeroCells zv.cells k).toList, u.oneCell' = true := fun k u hu => zero_one hzc hzok (by omega) k u hu
  refine ⟨rfl, ?_⟩
  cases hnil : (α id).isNil with
  | true =>
    have hN0 : N = 0 := by have := (hl.nil hnil).1; omega
    obtain ⟨A, hA⟩ := (hl.nil hnil).2
    subst hN0
    have run := run_append_grow_src (P := P) w t t2 ty el i zv ht hi hzero A 0 0 [] (first0 _ _ _) (xv.den ρ α) 1 (dens ρ α new) src (by omega) (by omega) (growslice_fits (by omega) (by omega))
    have ev : (SCl.bls id b.n).den ρ α = .slice A 0 0 := by simp [SCl.den, hnil, hA]
    rw [ev]
    refine ⟨_, _, run, setA α n ⟨w.heap.size, grownCap w (0 + 1) 0 el, .func 0, #[]⟩, ?_, eff_lst hb hidn ((stays_alloc_drew _ _).mono fun _ _ q => q.elim) ⟨by rw [hn1]; omega, fun q => ?_, fun _ => ?_⟩ fun _ => .inr (Nat.le_refl _)⟩
    · simp [SV.den, SCl.den, setA_same, Pl.isNil, hn1]
    · rw [setA_same] at q; simp [Pl.isNil] at q
    · have hge := grownCap_ge w (0 + 1) 0 el
      rw [setA_same]
      refine ⟨([] : List Value) ++ dens ρ α new ++ (Builtin.zeroCells zv.cells (grownCap w (0 + 1) 0 el - (0 + 1))).toList, ?_, ?_, ?_, fun j c v hj hv => ?_, fun u hu => ?_⟩
      · show (w.heap.push _)[w.heap.size]? = _
        simp [hbe]
      · rw [List.length_append, List.length_append, zeroCells_len hzc, hzl, hnl', ← hzk]
        simp only [List.length_nil, Nat.zero_add] at hge ⊢
        rw [Nat.sub_mul]
        have : 1 * z ≤ grownCap w 1 0 el * z := Nat.mul_le_mul_right _ hge
        omega
      · rw [hn1]; simp only [Nat.zero_add] at hge ⊢; omega
      · rw [hn1] at hj
        rw [vals_new hu] at hv
        have := row_grow (α := α) (b := b) (cs := []) (rest := (Builtin.zeroCells zv.cells (grownCap w (0 + 1) 0 el - (0 + 1))).toList) hu hzk hN (by simp) hnew (fun j c v hj => by omega) j c v hj hv
        simpa using this
      · simp only [List.nil_append, List.mem_append] at hu
        exact hu.elim (hno u) (hzo _ u)
  | false =>
    obtain ⟨cs, hrow, hcl, hNc, hcs, hco⟩ := hl.row hnil
    rw [hN] at hNc
    have hNc : N ≤ (α id).ext := by omega
    have hcz : N * z ≤ (α id).ext * z := Nat.mul_le_mul_right _ hNc
    rw [← hzk] at hcl
    have ev : (SCl.bls id b.n).den ρ α = .slice (some ⟨(α id).blk, 0, none⟩) N (α id).ext := by simp [SCl.den, hnil, hN]
    rw [ev]
    by_cases hroom : N + 1 ≤ (α id).ext
    · have hcz1 : (N + 1) * z ≤ (α id).ext * z := Nat.mul_le_mul_right _ hroom
      rw [Nat.add_mul] at hcz1
      have run := append_room (P := P) (t2 := t2) (ty := ty) (off := 0) ht hi hrow src hroom (by rw [hsz, hnl']; omega)
      rw [hsz] at run
      simp only [Nat.zero_add] at run
      refine ⟨_, _, run, setA α n ⟨(α id).blk, (α id).ext, .func 0, #[]⟩, ?_, eff_lst hb hidn ⟨rfl, rfl, rfl, by simp [World.setRow], fun k _ hx => setRow_other _ _ _ _ fun e => hx ⟨id, .lst b, ?_, fun q => ?_, hb, by simp [Ob.adr, Ob.addr, Ob.isL, hnil], rfl, e.symm⟩⟩ ⟨by rw [hn1]; omega, fun q => ?_, fun _ => ?_⟩ fun _ => .inl ⟨rfl, hnil⟩⟩
      · simp [SV.den, SCl.den, setA_same, Pl.isNil, hn1]
      · rw [Hp.get_cons, if_neg (by omega), Hp.get_cons, if_pos rfl]; rfl
      · have := q.1; omega
      · rw [setA_same] at q; simp [Pl.isNil] at q
      · rw [setA_same]
        refine ⟨cs.take (N * z) ++ dens ρ α new ++ cs.drop (N * z + (dens ρ α new).length), setRow_heap _ _ _ _ _ _ hrow, ?_, by rw [hn1]; show ((N : Int) + 1) ≤ (((α id).ext : Nat) : Int); omega, fun j c v hj hv => ?_, fun u hu => ?_⟩
        · rw [List.length_append, List.length_append, List.length_take, List.length_drop, hnl', ← hzk]
          show min (N * z) cs.length + z + (cs.length - (N * z + z)) = (α id).ext * z
          omega
        · rw [hn1] at hj
          rw [vals_new hu] at hv
          exact row_grow (α := α) hu hzk hN (by omega) hnew hcs j c v hj hv
        · simp only [List.mem_append] at hu
          rcases hu with (hu | hu) | hu
          · exact hco u (List.mem_of_mem_take hu)
          · exact hno u hu
          · exact hco u (List.mem_of_mem_drop hu)
    · have run := run_append_grow_src (P := P) w t t2 ty el i zv ht hi hzero (some ⟨(α id).blk, 0, none⟩) N (α id).ext (cs.take (N * z)) (by
          rw [hsz]
          refine run_firstCells_some w.drew z N ⟨(α id).blk, 0, none⟩ N (α id).ext _ (by simp; omega) fun j u hu => ?_
          rw [Addr.add_mid]
          have hu' : cs[j]? = some u := by
            rw [List.getElem?_take] at hu
            split at hu
            · exact hu
            · cases hu
          have hrow' : w.drew.heap[(α id).blk]? = some (.cells cs.toArray b.elem (0, 0)) := hrow
          unfold World.cell?
          simp only [hrow', Option.isSome_none, Bool.false_eq_true, if_false, Nat.zero_add, List.getElem?_toArray]
          exact hu') (xv.den ρ α) 1 (dens ρ α new) src (by omega) (by omega) (growslice_fits (by omega) hfit)
      refine ⟨_, _, run, setA α n ⟨w.heap.size, grownCap w (N + 1) (α id).ext el, .func 0, #[]⟩, ?_, eff_lst hb hidn ((stays_alloc_drew _ _).mono fun _ _ q => q.elim) ⟨by rw [hn1]; omega, fun q => ?_, fun _ => ?_⟩ fun _ => .inr (Nat.le_refl _)⟩
      · simp [SV.den, SCl.den, setA_same, Pl.isNil, hn1]
      · rw [setA_same] at q; simp [Pl.isNil] at q
      · have hge := grownCap_ge w (N + 1) (α id).ext el
        rw [setA_same]
        refine ⟨cs.take (N * z) ++ dens ρ α new ++ (Builtin.zeroCells zv.cells (grownCap w (N + 1) (α id).ext el - (N + 1))).toList, ?_, ?_, ?_, fun j c v hj hv => ?_, fun u hu => ?_⟩
        · show (w.heap.push _)[w.heap.size]? = _
          simp [hbe]
        · rw [List.length_append, List.length_append, List.length_take, zeroCells_len hzc, hzl, hnl', ← hzk, Nat.sub_mul, Nat.add_mul]
          have : (N + 1) * z ≤ grownCap w (N + 1) (α id).ext el * z := Nat.mul_le_mul_right _ hge
          rw [Nat.add_mul] at this
          show min (N * z) cs.length + z + (grownCap w (N + 1) (α id).ext el * z - (N * z + 1 * z)) = grownCap w (N + 1) (α id).ext el * z
          omega
        · rw [hn1]; show ((N : Int) + 1) ≤ ((grownCap w (N + 1) (α id).ext el : Nat) : Int); omega
        · rw [hn1] at hj
          rw [vals_new hu] at hv
          exact row_grow (α := α) hu hzk hN (by omega) hnew hcs j c v hj hv
        · simp only [List.mem_append] at hu
          rcases hu with (hu | hu) | hu
          · exact hco u (List.mem_of_mem_take hu)
          · exact hno u hu
          · exact hzo _ u hu
/-- Cells of a list, one after another. -/
theorem flat_get {N z : Nat} {F : Nat → Nat → Value} {j c : Nat} (hj : j < N) (hc : c < z) : ((List.range (N * z)).map fun q => F (q / z) (q % z))[j * z + c]? = some (F j c) := by
  have h2 : (j + 1) * z ≤ N * z := Nat.mul_le_mul_right _ hj
  rw [Nat.add_mul] at h2
  have h0 : 0 < z := by omega
  rw [List.getElem?_map, List.getElem?_range (by omega)]
  simp only [Option.map_some]
  rw [Nat.mul_comm, Nat.mul_add_div h0, Nat.div_eq_of_lt hc, Nat.mul_add_mod, Nat.mod_eq_of_lt hc, Nat.add_zero]
theorem list_cells0 {W0 : World} {L : LD} (hL : LOk ρ W0 L) (hb : Below W0.heap.size W0 w) {j c : Nat} {k : CK} (hj : (j : Int) < ρ.v L.n) (hk : L.ks[c]? = some k) : w.cell? ⟨ρ.a L.i, ρ.o L.i + j * L.ks.length + c, none⟩ = some (CKat ρ L.i j c k) := by
  have hc := hL.cell j c k hj hk
  have hlt : ρ.a L.i < W0.heap.size := by
    unfold World.cell? at hc
    simp only at hc
    by_cases q : ρ.a L.i < W0.heap.size
    · exact q
    · rw [Array.getElem?_eq_none (by omega)] at hc; cases hc
  rw [hb.cell (p := ⟨ρ.a L.i, _, none⟩) hlt, hc]
theorem cellsB_at (i : Nat) (j : Nat) : ∀ (ks : List CK) (c0 c : Nat) (k : CK), ks[c]? = some k → (dens ρ α (cellsB i none (.lit j) c0 ks))[c]? = some (CKat ρ i j (c0 + c) k)
  | [], c0, c, k, h => by simp at h
  | x :: r, c0, 0, k, h => by
    simp at h
    subst h
    simp only [dens, cellsB, List.map_cons, List.getElem?_cons_zero, Nat.add_zero]
    cases x <;> rfl
  | x :: r, c0, c + 1, k, h => by
    simp only [List.getElem?_cons_succ] at h
    have := cellsB_at i j r (c0 + 1) c k h
    simp only [dens, cellsB, List.map_cons, List.getElem?_cons_succ] at this ⊢
    rw [this, show c0 + 1 + c = c0 + (c + 1) by omega]
theorem CKat_one (i j c : Nat) (k : CK) : (CKat ρ i j c k).oneCell' = true := by cases k <;> first | rfl | exact one1_ok _
theorem valsB_len {b : LB} (hu : (b.ups.all fun p => p.2.length.beq b.ks.length) = true) (j : Nat) : (valsB ρ α b j).length = b.ks.length := by
  unfold valsB
  have hb : (dens ρ α (b.base (.lit j))).length = b.ks.length := by simp [dens, LB.base_len]
  generalize dens ρ α (b.base (.lit j)) = base at hb
  generalize b.ups = ups at hu
  induction ups with
  | nil => exact hb
  | cons p r ih =>
    obtain ⟨e, vs⟩ := p
    simp only [List.all_cons, Bool.and_eq_true] at hu
    simp only [upV]
    split
    · simpa [dens] using Nat.eq_of_beq_eq_true hu.1
    · exact ih hu.2
/-- A list as a source. -/
theorem srcC_ok {ls : List LD} {W0 : World} (hls : ∀ L ∈ ls, LOk ρ W0 L) (hw : Below W0.heap.size W0 w) {xv : SCl} {b : LB} {t1 : List Nat} (hs : srcC ls h xv = some (b, t1)) (hat : ∀ id ∈ t1, ∀ o, h id = some o → obAt ρ α w id o) {t2 e' : TypeId} (hk : P.underlying t2 = some (.slice e')) {N z : Nat} (hN : b.n.den ρ = (N : Int)) (hz : b.ks.length = z) (hz0 : 0 < z) :
    ∃ news : List Value, Src P z t2 (xv.den ρ α) N news w ∧ (∀ u ∈ news, u.oneCell' = true) ∧ ∀ (j c : Nat) (v : Value), j < N → (valsB ρ α b j)[c]? = some v → news[j * z + c]? = some v := by
  unfold srcC at hs
  split at hs
  · rename_i L
    split at hs
    · rename_i hm
      cases hs
      obtain ⟨M, hM, e⟩ := List.any_eq_true.1 hm
      have hL := hls M hM
      rw [LD.same_eq e] at hL
      simp only [IE.den] at hN
      simp only at hz
      have hval : ∀ j c : Nat, j < N → c < z → ∃ k, L.ks[c]? = some k ∧ w.cell? ⟨ρ.a L.i, ρ.o L.i + j * L.ks.length + c, none⟩ = some (CKat ρ L.i j c k) := fun j c hj hc => by
        obtain ⟨k, hk2⟩ : ∃ k, L.ks[c]? = some k := ⟨L.ks[c]'(by omega), List.getElem?_eq_getElem (by omega)⟩
        exact ⟨k, hk2, list_cells0 hL hw (by omega) hk2⟩
      refine ⟨(List.range (N * z)).map fun q => CKat ρ L.i (q / z) (q % z) (L.ks.getD (q % z) .bool), ?_, ?_, ?_⟩
      · have hden : (SCl.ssl L).den ρ α = .slice (ρ.p L.i) N (ρ.c L.i) := by simp [SCl.den, hN]
        rw [hden]
        by_cases h0 : N = 0
        · subst h0
          cases hp : ρ.p L.i with
          | none => simpa using Src.ofNil w hk (ρ.c L.i)
          | some a => simpa using Src.ofSlice w hk a 0 (ρ.c L.i) [] (by simp) (fun j u hu => by simp at hu) (fun _ hu => by cases hu)
        · rw [hL.pt (by omega)]
          refine Src.ofSlice w hk ⟨ρ.a L.i, ρ.o L.i, none⟩ N (ρ.c L.i) _ (by simp) (fun q u hu => ?_) (fun u hu => ?_)
          · rw [Addr.add_mid]
            rw [List.getElem?_map] at hu
            obtain ⟨q', hq, rfl⟩ := Option.map_eq_some_iff.1 hu
            have hq2 := (List.getElem?_eq_some_iff.1 hq).1
            simp only [List.length_range] at hq2
            rw [List.getElem?_range hq2] at hq
            cases hq
            have hd : q / z < N := Nat.div_lt_of_lt_mul (by rw [Nat.mul_comm]; exact hq2)
            have hm2 : q % z < z := Nat.mod_lt _ hz0
            obtain ⟨k, k1, k2⟩ := hval (q / z) (q % z) hd hm2
            rw [List.getD_eq_getElem?_getD, k1, Option.getD_some, ← k2, hz, Nat.add_assoc]
            congr 3
            rw [Nat.mul_comm]
            exact (Nat.div_add_mod q z).symm
          · obtain ⟨q, _, rfl⟩ := List.mem_map.1 hu; exact CKat_one _ _ _ _
      · intro u hu; obtain ⟨q, _, rfl⟩ := List.mem_map.1 hu; exact CKat_one _ _ _ _
      · intro j c v hj hv
        have hc : c < z := by
          have := (List.getElem?_eq_some_iff.1 hv).1
          rw [valsB_base rfl] at this
          simp only [dens, List.length_map, LB.base_len] at this
          omega
        obtain ⟨k, k1, _⟩ := hval j c hj hc
        rw [flat_get (F := fun a b => CKat ρ L.i a b (L.ks.getD b .bool)) hj hc, ← hv, valsB_base rfl]
        simp only [List.getD_eq_getElem?_getD, k1, Option.getD_some]
        have := cellsB_at (ρ := ρ) (α := α) L.i j L.ks 0 c k k1
        rw [Nat.zero_add] at this
        exact this.symm
    · cases hs
  · rename_i id len
    split at hs
    · rename_i b' hb
      split at hs
      · rename_i hln
        cases hs
        rw [Bool.and_eq_true] at hln
        obtain ⟨hln, hul⟩ := hln
        have hln := IE.same_eq _ _ hln
        subst hln
        have hl : lstAt ρ α w id b := hat id (by simp) _ hb
        cases hnil : (α id).isNil with
        | true =>
          obtain ⟨h1, A, hA⟩ := hl.nil hnil
          have hN0 : N = 0 := by omega
          subst hN0
          have hden : (SCl.bls id b.n).den ρ α = .slice A 0 0 := by simp [SCl.den, hnil, hA]
          rw [hden]
          refine ⟨[], ?_, (fun _ hu => by cases hu), fun j c v hj => by omega⟩
          cases A with
          | none => exact Src.ofNil w hk 0
          | some a => exact Src.ofSlice w hk a 0 0 [] (by simp) (fun j u hu => by simp at hu) (fun _ hu => by cases hu)
        | false =>
          obtain ⟨cs, hrow, hcl, hNc, hcs⟩ := hl.row hnil
          have hden : (SCl.bls id b.n).den ρ α = .slice (some ⟨(α id).blk, 0, none⟩) N (α id).ext := by simp [SCl.den, hnil, hN]
          rw [hN] at hNc
          have hNc : N ≤ (α id).ext := by omega
          have hcz : N * z ≤ (α id).ext * z := Nat.mul_le_mul_right _ hNc
          rw [hz] at hcl
          rw [hden]
          have hcell : ∀ (q : Nat) (u : Value), (cs.take (N * z))[q]? = some u → cs[q]? = some u := fun q u hu => by
            rw [List.getElem?_take] at hu
            split at hu
            · exact hu
            · cases hu
          obtain ⟨hcs, hco⟩ := hcs
          have hone : ∀ u ∈ cs.take (N * z), u.oneCell' = true := fun u hu => hco u (List.mem_of_mem_take hu)
          refine ⟨cs.take (N * z), Src.ofSlice w hk ⟨(α id).blk, 0, none⟩ N (α id).ext _ (by simp; omega) (fun q u hu => ?_) hone, hone, fun j c v hj hv => ?_⟩
          · rw [Addr.add_mid]
            unfold World.cell?
            simp only [hrow, Option.isSome_none, Bool.false_eq_true, if_false, Nat.zero_add, List.getElem?_toArray]
            exact hcell q u hu
          · have h1 := hcs j c v (by omega) hv
            rw [hz] at h1
            have hc : c < z := by
              have := (List.getElem?_eq_some_iff.1 hv).1
              rw [valsB_len hul] at this
              omega
            have h2 : (j + 1) * z ≤ N * z := Nat.mul_le_mul_right _ hj
            rw [Nat.add_mul] at h2
            rw [List.getElem?_take, if_pos (by omega)]
            exact h1
      · cases hs
    · cases hs
  · cases hs
theorem appC_sound {ls : List LD} {W0 : World} (hls : ∀ L ∈ ls, LOk ρ W0 L) (hw : Below W0.heap.size W0 w) {pc : PC} (hpc : pc.Ok ρ) {el : TypeId} {xv : SCl} {t0 : List Nat} {r : Res} (hr : (appC P ls h n pc el xv t0).pick ρ = some r) {t t2 ty e' : TypeId} (ht : P.underlying t = some (.slice el)) (ht2 : P.underlying t2 = some (.slice e'))
    (hat : ∀ id ∈ r.tch, ∀ o, h id = some o → obAt ρ α w id o) (hlow : LowV n h) (A : Option Addr) : r.pc = pc ∧ ∃ v w', (Builtin.append_ #[t, t2] ty #[.slice A 0 0, xv.den ρ α]).run P w = .ok v w' ∧ EffR ρ n α h w r v w' := by
  unfold appC at hr
  split at hr
  case h_2 => exact (T.bad_some hr).elim
  rename_i z by_ zs b t1 hel hsrc
  obtain ⟨i, zv, hi, hsz, hby, hz0, hzero, hzc, hzl, hzok, hsT, _⟩ := elT_some (ρ := ρ) (α := α) hel
  split at hr
  case isFalse => exact (T.bad_some hr).elim
  rename_i hc
  simp only [Bool.and_eq_true, Nat.ble_eq] at hc
  obtain ⟨hzk, hb100, hrng⟩ := hc
  have hzk := Nat.eq_of_beq_eq_true hzk
  have := T.ret_some hr
  subst this
  have hnn : 0 ≤ b.n.den ρ := by
    unfold srcC at hsrc
    split at hsrc
    · split at hsrc
      · rename_i hm
        cases hsrc
        obtain ⟨M, hM, e⟩ := List.any_eq_true.1 hm
        have hL := hls M hM
        rw [LD.same_eq e] at hL
        exact hL.nn
      · cases hsrc
    · split at hsrc
      · rename_i b' hb
        split at hsrc
        · cases hsrc; exact (show lstAt ρ α w _ b from hat _ (List.mem_append_right _ (by simp)) _ hb).nn
        · cases hsrc
      · cases hsrc
    · cases hsrc
  obtain ⟨N, hN⟩ : ∃ N : Nat, b.n.den ρ = (N : Int) := ⟨(b.n.den ρ).toNat, (Int.toNat_of_nonneg hnn).symm⟩
  obtain ⟨news, src, hno, hvals⟩ := srcC_ok (P := P) hls hw hsrc (fun i hi => hat i (List.mem_append_right _ hi)) ht2 hN hzk.symm hz0
  have hnl : news.length = N * z := src.newsLen
  have hbi : ∀ m ∈ (Ob.lst b).ids, m < n := fun m hm => by
    unfold srcC at hsrc
    split at hsrc
    · split at hsrc
      · cases hsrc; cases hm
      · cases hsrc
    · split at hsrc
      · rename_i b' hb
        split at hsrc
        · cases hsrc; exact (hlow _ _ hb).2 m hm
        · cases hsrc
      · cases hsrc
    · cases hsrc
  rw [← hsz] at src
  have hNm : N ≤ 1000000 := by
    have h2 := (PC.rng_ok hpc b.n).2
    unfold leO at hrng
    split at hrng
    · rename_i x y e1 e2
      cases e2
      have := h2 x e1
      have := of_decide_eq_true hrng
      omega
    · cases hrng
  have hnew : ∀ (p : Pl) (j : Nat), valsB ρ (setA α n p) { b with elem := el } j = valsB ρ α b j := fun p j => valsB_ids (b := { b with elem := el }) (fun m hm => setA_other (by have := hbi m hm; omega) p) j
  refine ⟨rfl, ?_⟩
  by_cases h0 : N = 0
  · subst h0
    refine ⟨_, w, append_nothing ht hi (Nat.le_refl _) src, setA α n ⟨0, 0, .func 0, #[.slice A 0 0]⟩, ?_, eff_new (Stays.refl _ _) ⟨by show 0 ≤ b.n.den ρ; omega, fun _ => ⟨hN, A, by rw [setA_same]; rfl⟩, fun q => by rw [setA_same] at q; simp [Pl.isNil] at q⟩ fun ha => by simp [Ob.adr, Ob.addr, Ob.isL, Pl.isNil] at ha⟩
    simp [SV.den, SCl.den, setA_same, Pl.isNil, Pl.emp, one1, Value.oneCell']
  · have hfit : N * i.bytes ≤ 140737488355328 := by
      rw [hby]
      exact Nat.le_trans (Nat.mul_le_mul (show N ≤ 1000001 by omega) hb100) (by omega)
    have run := run_append_grow_src (P := P) w t t2 ty el i zv ht hi hzero A 0 0 [] (first0 _ _ _) (xv.den ρ α) N news src (by omega) (by omega) (growslice_fits (by omega) (by rw [Nat.zero_add]; exact hfit))
    have hge := grownCap_ge w (0 + N) 0 el
    refine ⟨_, _, run, setA α n ⟨w.heap.size, grownCap w (0 + N) 0 el, .func 0, #[]⟩, ?_, eff_new (stays_alloc_drew _ _) ⟨by show 0 ≤ b.n.den ρ; omega, fun q => by rw [setA_same] at q; simp [Pl.isNil] at q, fun _ => ?_⟩ fun _ => Nat.le_refl _⟩
    · simp [SV.den, SCl.den, setA_same, Pl.isNil, hN]
    · rw [setA_same]
      refine ⟨([] : List Value) ++ news ++ (Builtin.zeroCells zv.cells (grownCap w (0 + N) 0 el - (0 + N))).toList, ?_, ?_, ?_, fun j c v hj hv => ?_, fun u hu => ?_⟩
      · show (w.heap.push _)[w.heap.size]? = _
        simp
      · rw [List.length_append, List.length_append, zeroCells_len hzc, hzl, hnl]
        simp only [List.length_nil, Nat.zero_add] at hge ⊢
        rw [Nat.sub_mul]
        have : N * z ≤ grownCap w N 0 el * z := Nat.mul_le_mul_right _ hge
        show N * z + (grownCap w N 0 el * z - N * z) = grownCap w N 0 el * b.ks.length
        rw [← hzk]
        omega
      · show b.n.den ρ ≤ _; rw [hN]; simp only [Nat.zero_add] at hge ⊢; show (N : Int) ≤ ((grownCap w N 0 el : Nat) : Int); omega
      · have hj : (j : Int) < b.n.den ρ := hj
        rw [hnew] at hv
        have h1 := hvals j c v (by omega) hv
        show (([] : List Value) ++ news ++ _)[j * b.ks.length + c]? = some v
        rw [← hzk, List.nil_append, List.getElem?_append_left (List.getElem?_eq_some_iff.1 h1).1]
        exact h1
      · simp only [List.nil_append, List.mem_append] at hu
        exact hu.elim (hno u) (zero_one hzc hzok (by omega) _ u)
theorem storeVar_row {t : TypeId} {blk : Nat} {elem : TypeId} {cur : List Value} (hb : w.heap[blk]? = some (.cells cur.toArray elem (0, 0))) {off m : Nat} {s : SV} {cs : List SCl} (hc : s.cells = some cs) (hn : sizeT P t = some m) (hl : cs.length = m)
    (hle : off + m ≤ cur.length) (h1 : cs.all SCl.cellOk = true) : (storeVar t ⟨blk, off, none⟩ (s.den ρ α)).run P w = .ok () (w.setRow blk (putL cur off (dens ρ α cs)).toArray) := by
  have hcells := cells_den ρ α hc
  have hone : ∀ v ∈ dens ρ α cs, v.oneCell' = true := by
    intro v hv
    obtain ⟨c, hm, rfl⟩ := List.mem_map.1 hv
    exact cellOk_one ρ α (List.all_eq_true.1 h1 c hm)
  have hst := run_storeCells_at (P := P) blk off elem (dens ρ α cs) 0 cur.toArray w hb (by simp; omega) hone
  simp only [storeVar, Sem.run_bind, sizeOf_run' hn, Result.andThen_ok, hcells]
  have hsz : (dens ρ α cs).toArray.size = m := by simp [hl]
  rw [hsz]
  simp only [ne_eq, not_true_eq_false, if_false]
  rw [hst]
  simp only [Nat.add_zero]
  rfl
theorem putL_get {β : Type} {cs vs : List β} {off q : Nat} (hle : off + vs.length ≤ cs.length) : (putL cs off vs)[q]? = if off ≤ q ∧ q < off + vs.length then vs[q - off]? else cs[q]? := by
  unfold putL
  rw [List.append_assoc]
  have hl : (cs.take off).length = off := by simp; omega
  by_cases h1 : q < off
  · rw [List.getElem?_append_left (by omega), List.getElem?_take, if_pos h1, if_neg (by omega)]
  · rw [List.getElem?_append_right (by omega), hl]
    by_cases h2 : q < off + vs.length
    · rw [List.getElem?_append_left (by omega), if_pos (by omega)]
    · rw [List.getElem?_append_right (by omega), List.getElem?_drop, if_neg (by omega)]
      congr 1
      omega
/-- An element's cells are stored. -/
theorem lst_store {id : Nat} {b : LB} (hid : h id = some (.lst b)) (hb : lstAt ρ α w id b) {pc : PC} (hpc : pc.Ok ρ) {j : IE} (h0 : 0 ≤ j.den ρ) (h1 : j.den ρ < b.n.den ρ) {old : List SCl} (hlook : b.look pc j = some old) (hol : old.length = b.ks.length) {t : TypeId} {s : SV} {cs : List SCl} {c m : Nat} (hc : s.cells = some cs) (hn : sizeT P t = some m) (hl : cs.length = m)
    (hle : c + m ≤ b.ks.length) (hok : cs.all SCl.cellOk = true) (hul : (b.ups.all fun p => p.2.length.beq b.ks.length) = true) : ∃ w', (storeVar t ⟨(α id).blk, (j.den ρ).toNat * b.ks.length + c, none⟩ (s.den ρ α)).run P w = .ok () w' ∧
      Upd (Rg n n) ρ α α h w w' [(id, some (.lst { b with ups := (j, putL old c cs) :: b.ups }))] := by
  have hnil : (α id).isNil = false := by
    cases hq : (α id).isNil with
    | false => rfl
    | true => have := (hb.nil hq).1; omega
  obtain ⟨row, hrow, hrl, hNc, hcs, hco⟩ := hb.row hnil
  obtain ⟨J, hJ⟩ : ∃ J : Nat, j.den ρ = (J : Int) := ⟨(j.den ρ).toNat, (Int.toNat_of_nonneg h0).symm⟩
  have hJe : (j.den ρ).toNat = J := by omega
  rw [hJe]
  have hJx : J < (α id).ext := by omega
  have hmul : (J + 1) * b.ks.length ≤ (α id).ext * b.ks.length := Nat.mul_le_mul_right _ hJx
  rw [Nat.add_mul] at hmul
  have hdl : (dens ρ α cs).length = m := by simp [dens, hl]
  have hfit : J * b.ks.length + c + (dens ρ α cs).length ≤ row.length := by omega
  have hone : ∀ v ∈ dens ρ α cs, v.oneCell' = true := by
    intro v hv
    obtain ⟨x, hm, rfl⟩ := List.mem_map.1 hv
    exact cellOk_one ρ α (List.all_eq_true.1 hok x hm)
  refine ⟨_, storeVar_row hrow hc hn hl (by omega) hok, fun _ _ => rfl, ⟨rfl, rfl, rfl, by simp [World.setRow], fun k _ hx => setRow_other _ _ _ _ fun e => hx ⟨id, .lst b, ?_, fun q => ?_, hid, by simp [Ob.adr, Ob.addr, Ob.isL, hnil], rfl, e.symm⟩⟩, fun i o e => ?_, fun i _ q => by have := q.1; have := q.2; omega, fun i k oi ok hne e1 e2 => ?_⟩
  · rw [Hp.get_cons, if_pos rfl]; rfl
  · have := q.1; have := q.2; omega
  · rw [Hp.get_cons] at e
    split at e
    · rename_i q
      subst q
      cases e
      refine ⟨hb.nn, (fun q => by rw [hnil] at q; cases q), fun _ => ⟨putL row (J * b.ks.length + c) (dens ρ α cs), setRow_heap _ _ _ _ _ _ hrow, by rw [putL_len hfit]; exact hrl, hNc, fun i c' v hi hv => ?_, fun u hu => ?_⟩⟩
      · have hv : (if j.den ρ = (i : Int) then dens ρ α (putL old c cs) else upV ρ α (dens ρ α (b.base (.lit i))) i b.ups)[c']? = some v := hv
        show (putL row _ _)[i * b.ks.length + c']? = some v
        rw [putL_get hfit]
        by_cases hij : i = J
        · subst hij
          rw [if_pos hJ] at hv
          have e2 : dens ρ α (putL old c cs) = putL (dens ρ α old) c (dens ρ α cs) := by simp [putL, dens, List.map_append, List.map_take, List.map_drop]
          have hol2 : c + (dens ρ α cs).length ≤ (dens ρ α old).length := by simp only [dens, List.length_map] at hdl ⊢; omega
          rw [e2, putL_get hol2] at hv
          by_cases hcc : c ≤ c' ∧ c' < c + (dens ρ α cs).length
          · rw [if_pos hcc] at hv
            rw [if_pos (by omega), ← hv]
            congr 1
            omega
          · rw [if_neg hcc] at hv
            rw [if_neg (by omega)]
            exact hcs i c' v hi (by rw [look_den (α := α) hpc hlook hJ]; exact hv)
        · rw [if_neg (by omega)] at hv
          have hv2 : (valsB ρ α b i)[c']? = some v := hv
          have h2 := hcs i c' v hi hv2
          rw [if_neg ?_]
          · exact h2
          · intro hq
            have hc' : c' < b.ks.length := by
              have := (List.getElem?_eq_some_iff.1 hv2).1
              rw [valsB_len hul] at this
              exact this
            rcases Nat.lt_or_gt_of_ne hij with h3 | h3
            · have h4 : (i + 1) * b.ks.length ≤ J * b.ks.length := Nat.mul_le_mul_right _ h3
              rw [Nat.add_mul] at h4
              omega
            · have h4 : (J + 1) * b.ks.length ≤ i * b.ks.length := Nat.mul_le_mul_right _ h3
              rw [Nat.add_mul] at h4
              omega
      · unfold putL at hu
        simp only [List.mem_append] at hu
        rcases hu with (hu | hu) | hu
        · exact hco u (List.mem_of_mem_take hu)
        · exact hone u hu
        · exact hco u (List.mem_of_mem_drop hu)
    · simp [Hp.get_nil] at e
  · rw [Hp.get_cons] at e1 e2
    split at e1
    · split at e2
      · omega
      · simp [Hp.get_nil] at e2
    · simp [Hp.get_nil] at e1
end
end Go.Proofs.Ytmpadjlplgajcaa
