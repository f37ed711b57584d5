/- The executor's laws: objects under their names; what may be done to them; one thing done after another. -/
import Derived.Test.YtmpadjlplgajcaaE4B
namespace Go.Proofs.Ytmpadjlplgajcaa
open Go.RowKit

/-- The world w is as W was, but for the blocks X. -/
structure Stays (X : Nat → Prop) (W w : World) : Prop where
  os : w.os = W.os
  tape : w.tape = W.tape
  output : w.output = W.output
  size : W.heap.size ≤ w.heap.size
  block : ∀ k, k < W.heap.size → ¬ X k → w.heap[k]? = W.heap[k]?
theorem Stays.refl (X : Nat → Prop) (w : World) : Stays X w w := ⟨rfl, rfl, rfl, Nat.le_refl _, fun _ _ _ => rfl⟩
theorem Stays.of_below {X : Nat → Prop} {W w : World} (h : Below W.heap.size W w) : Stays X W w := ⟨h.os, h.tape, h.output, h.size, fun k hk _ => h.block k hk⟩
theorem Stays.mono {X Y : Nat → Prop} {W w : World} (h : Stays X W w) (hXY : ∀ k, k < W.heap.size → X k → Y k) : Stays Y W w := ⟨h.os, h.tape, h.output, h.size, fun k hk hy => h.block k hk fun hx => hy (hXY k hk hx)⟩
theorem Stays.trans {X Y Z : Nat → Prop} {a b c : World} (h : Stays X a b) (k : Stays Y b c) (hX : ∀ i, i < a.heap.size → X i → Z i) (hY : ∀ i, i < a.heap.size → Y i → Z i) : Stays Z a c :=
  ⟨k.os.trans h.os, k.tape.trans h.tape, k.output.trans h.output, Nat.le_trans h.size k.size, fun i hi hz => (k.block i (Nat.lt_of_lt_of_le hi h.size) fun e => hz (hY i hi e)).trans (h.block i hi fun e => hz (hX i hi e))⟩
theorem Stays.below {X : Nat → Prop} {W w : World} {B : Nat} (h : Stays X W w) (hB : B ≤ W.heap.size) (hX : ∀ k, k < B → ¬ X k) : Below B W w := ⟨h.os, h.tape, h.output, h.size, fun k hk => h.block k (by omega) (hX k hk)⟩
section
variable {ρ : EnvS} {α α' : Nat → Pl}
theorem SCl.den_ids {c : SCl} (h : ∀ id, c.id? = some id → α id = α' id) : c.den ρ α = c.den ρ α' := by
  cases c <;> first | rfl | (simp only [SCl.den, h _ rfl])
theorem dens_ids {cs : List SCl} (h : ∀ id ∈ idsL cs, α id = α' id) : dens ρ α cs = dens ρ α' cs :=
  List.map_congr_left fun c hc => SCl.den_ids fun id hi => h id (List.mem_filterMap.2 ⟨c, hc, hi⟩)
theorem S1.den_ids {s : S1} (h : ∀ id ∈ idsL s.cs, α id = α' id) : s.den ρ α = s.den ρ α' := by
  unfold S1.den
  split
  · have := dens_ids (ρ := ρ) h; simp only [dens] at this; rw [this]
  · split
    · rename_i c r e; exact SCl.den_ids fun id hi => h id (List.mem_filterMap.2 ⟨c, by rw [e]; simp, hi⟩)
    · rfl
theorem SV.den_ids {s : SV} (h : ∀ id ∈ s.ids, α id = α' id) : s.den ρ α = s.den ρ α' := by
  cases s with
  | one c => exact SCl.den_ids fun id hi => h id (List.mem_filterMap.2 ⟨c, by simp, hi⟩)
  | agg cs => have := dens_ids (ρ := ρ) (cs := cs) h; simp only [dens] at this; simp only [SV.den, this]
  | tup vs =>
    simp only [SV.den]
    congr 2
    exact List.map_congr_left fun s hs => S1.den_ids fun id hi => h id (List.mem_flatMap.2 ⟨s, hs, hi⟩)
theorem Tm.get_cons (t u : Nat) (s : SV) (r : Tm) : Tm.get t ((u, s) :: r) = if u = t then some s else Tm.get t r := by
  show cond (Nat.beq u t) (some s) (Tm.get t r) = _
  by_cases h : u = t
  · subst h; simp
  · have e : Nat.beq u t = false := by
      cases hq : Nat.beq u t with
      | false => rfl
      | true => exact absurd (Nat.eq_of_beq_eq_true hq) h
    rw [e, if_neg h]
    rfl
theorem Tm.get_nil (t : Nat) : Tm.get t [] = none := rfl
theorem Tm.get_ids {t : Nat} : ∀ {tm : Tm} {s : SV}, tm.get t = some s → ∀ id ∈ s.ids, id ∈ tm.ids
  | [], s, h => by simp [Tm.get_nil] at h
  | (u, x) :: r, s, h => by
    intro id hid
    rw [Tm.get_cons] at h
    simp only [Tm.ids, List.mem_append]
    split at h
    · cases h; exact .inl hid
    · exact .inr (Tm.get_ids h id hid)
theorem cellsB_ids (i : Nat) (k : Option IE) (j : IE) : ∀ (ks : List CK) (c : Nat), idsL (cellsB i k j c ks) = []
  | [], c => rfl
  | x :: r, c => by
    have ih := cellsB_ids i k j r (c + 1)
    simp only [idsL, cellsB] at ih ⊢
    rw [List.filterMap_cons, ih]
    cases x <;> first | rfl | (cases k <;> rfl)
theorem LB.base_ids (b : LB) (j : IE) : idsL (b.base j) = [] := cellsB_ids _ _ _ _ _
theorem upV_ids {base base' : List Value} (hb : base = base') (j : Nat) : ∀ {ups : List (IE × List SCl)}, (∀ m ∈ ups.flatMap (fun p => idsL p.2), α m = α' m) → upV ρ α base j ups = upV ρ α' base' j ups
  | [], _ => hb
  | (e, vs) :: r, h => by
    simp only [upV]
    rw [upV_ids hb j (ups := r) fun m hm => h m (List.mem_append_right _ hm), dens_ids (ρ := ρ) (α' := α') fun m hm => h m (List.mem_append_left _ hm)]
theorem valsB_ids {b : LB} (h : ∀ m ∈ (Ob.lst b).ids, α m = α' m) (j : Nat) : valsB ρ α b j = valsB ρ α' b j :=
  upV_ids (dens_ids fun m hm => by rw [LB.base_ids] at hm; cases hm) j h
theorem adr_kind {p : Pl} {o o' : Ob} (h : o.adr p = true) (ha : o'.addr = true) (hk : o.isL = o'.isL) : o'.adr p = true := by
  unfold Ob.adr at h ⊢
  rw [Bool.and_eq_true] at h
  rw [← hk, ha, h.2]
  rfl
theorem adr_addr {p : Pl} {o : Ob} (h : o.adr p = true) : o.addr = true := by
  unfold Ob.adr at h
  rw [Bool.and_eq_true] at h
  exact h.1
theorem obAt_congr {w w' : World} {id : Nat} {o : Ob} (h : obAt ρ α w id o) (hid : α id = α' id) (hids : ∀ m ∈ o.ids, α m = α' m) (hw : o.adr (α id) = true → ∀ x, w.heap[(α id).blk]? = some x → w'.heap[(α id).blk]? = some x) : obAt ρ α' w' id o := by
  cases o with
  | blk b =>
    obtain ⟨tl, h1, h2, h3⟩ := h
    refine ⟨tl, by rw [← hid]; exact h1, by rw [← hid]; exact h2, ?_⟩
    rw [← hid, ← dens_ids (ρ := ρ) fun m hm => hids m (List.mem_append_left _ hm)]
    exact hw rfl _ h3
  | clo g caps =>
    refine ⟨by rw [← hid]; exact h.1, ?_⟩
    rw [← hid, h.2]
    congr 1
    exact List.map_congr_left fun s hs => S1.den_ids fun m hm => hids m (List.mem_flatMap.2 ⟨s, hs, hm⟩)
  | lst b =>
    refine ⟨h.nn, fun q => by rw [← hid] at q ⊢; exact h.nil q, fun q => ?_⟩
    rw [← hid] at q
    obtain ⟨cs, h1, h2, h3, h4, h5⟩ := h.row q
    refine ⟨cs, ?_, by rw [← hid]; exact h2, by rw [← hid]; exact h3, fun j c v hj hv => h4 j c v hj ?_, h5⟩
    · rw [← hid]; exact hw (by simp [Ob.adr, Ob.addr, Ob.isL, q]) _ h1
    · rw [valsB_ids hids]; exact hv
  | dfr => show w'.heap[(α' id).blk]? = _; rw [← hid]; exact hw rfl _ h
  | yld y =>
    obtain ⟨fn, tmps, h1, h2, h3, h4, h5⟩ := h
    refine ⟨fn, tmps, h1, fun t s hs => ?_, by rw [← hid]; exact h3, by rw [← hid]; exact h4, ?_⟩
    · rw [← SV.den_ids (ρ := ρ) (s := s) fun m hm => hids m (List.mem_cons_of_mem _ (Tm.get_ids hs m hm))]
      exact h2 t s hs
    · rw [← hid, ← hids y.dfr (List.mem_cons_self ..)]
      exact hw rfl _ h5
theorem obAt_lt {w : World} {id : Nat} {o : Ob} (h : obAt ρ α w id o) (ha : o.adr (α id) = true) : (α id).blk < w.heap.size := by
  cases o with
  | blk b => obtain ⟨_, _, _, h3⟩ := h; exact (Array.getElem?_eq_some_iff.1 h3).1
  | clo g caps => cases ha
  | lst b =>
    have q : (α id).isNil = false := by simpa [Ob.adr, Ob.addr, Ob.isL] using ha
    obtain ⟨cs, h1, _⟩ := h.row q
    exact (Array.getElem?_eq_some_iff.1 h1).1
  | dfr => exact (Array.getElem?_eq_some_iff.1 h).1
  | yld y => obtain ⟨_, _, _, _, _, _, h5⟩ := h; exact (Array.getElem?_eq_some_iff.1 h5).1
theorem obAt_drew {w : World} {id : Nat} {o : Ob} (h : obAt ρ α w id o) : obAt ρ α { w with drawn := w.drawn + 1 } id o := obAt_congr h rfl (fun _ _ => rfl) fun _ _ hx => hx
end
/-- The objects stand under their names, at blocks from B on; only a name in 'sib' may stand for the block of another one that may be written. -/
structure Obs (ρ : EnvS) (B : Nat) (α : Nat → Pl) (w : World) (h : Vw) : Prop where
  at_ : ∀ id o, h id = some o → obAt ρ α w id o
  low : ∀ id o, h id = some o → o.adr (α id) = true → B ≤ (α id).blk
  inj : ∀ i j oi oj, i ≠ j → h i = some oi → h j = some oj → oi.adr (α i) = true → oi.ro = false → oj.adr (α j) = true → (α i).blk = (α j).blk → j ∈ oi.sib
/-- The blocks of the old objects that have been written. -/
def Xs (R : Nat → Prop) (α : Nat → Pl) (h : Vw) (d : Hp) (k : Nat) : Prop := ∃ i o, (d.get i).isSome = true ∧ ¬ R i ∧ h i = some o ∧ o.adr (α i) = true ∧ o.ro = false ∧ (α i).blk = k
/-- What has been done, with the new names R. -/
structure Upd (R : Nat → Prop) (ρ : EnvS) (α α' : Nat → Pl) (h : Vw) (w w' : World) (d : Hp) : Prop where
  al : ∀ id, ¬ R id → α' id = α id
  st : Stays (Xs R α h d) w w'
  at_ : ∀ id o, d.get id = some (some o) → obAt ρ α' w' id o
  own : ∀ id o, R id → d.get id = some (some o) → o.adr (α' id) = true → Xs R α h d (α' id).blk ∨ w.heap.size ≤ (α' id).blk
  inj : ∀ i j oi oj, i ≠ j → d.get i = some (some oi) → d.get j = some (some oj) → oi.adr (α' i) = true → oi.ro = false → oj.adr (α' j) = true → (α' i).blk = (α' j).blk → j ∈ oi.sib
/-- What is done is done to new objects, or to old ones that may be written: then to all that may stand for the same block. -/
def DOk (R : Nat → Prop) (h : Vw) (d : Hp) : Prop :=
  ∀ k x, d.get k = some x → R k ∨ ∃ o, h k = some o ∧ (o.addr = true ∧ ∀ o', x = some o' → o'.isL = o.isL) ∧ (o.ro = true → ∀ o', x = some o' → o'.ro = true) ∧ (o.ro = false → ∀ j ∈ o.sib, (d.get j).isSome = true)
/-- The names R are told nowhere. -/
def Fresh (R : Nat → Prop) (h : Vw) : Prop := ∀ id o, h id = some o → ¬ R id ∧ ∀ m ∈ o.ids, ¬ R m
section
variable {ρ : EnvS} {R R1 R2 : Nat → Prop} {α α' α0 α1 α2 : Nat → Pl} {h : Vw} {w w' w0 w1 w2 : World} {d d1 d2 : Hp} {B : Nat}
theorem over_some {d : Hp} {id : Nat} {x : Option Ob} (hd : d.get id = some x) : d.over h id = x := by simp [Hp.over, hd]
theorem over_none {d : Hp} {id : Nat} (hd : d.get id = none) : d.over h id = h id := by simp [Hp.over, hd]
theorem sib_in (hO : Obs ρ B α w h) (D : DOk R h d) {k : Nat} (hk : Xs R α h d k) {j : Nat} {oj : Ob} (hj : h j = some oj) (ha : oj.adr (α j) = true) (he : (α j).blk = k) : (d.get j).isSome = true := by
  obtain ⟨i, o, h1, h2, h3, h4, h5, h6⟩ := hk
  by_cases e : i = j
  · rw [← e]; exact h1
  · obtain ⟨x, hx⟩ := Option.isSome_iff_exists.1 h1
    rcases D i x hx with hR | ⟨o', q1, _, _, q4⟩
    · exact absurd hR h2
    · rw [h3] at q1; cases q1
      exact q4 h5 j (hO.inj i j o oj e h3 hj h4 h5 ha (h6.trans he.symm))
theorem obs_over (hO : Obs ρ B α w h) (hB : B ≤ w.heap.size) (hF : Fresh R h) (U : Upd R ρ α α' h w w' d) (D : DOk R h d) : Obs ρ B α' w' (d.over h) := by
  have keep : ∀ id o, h id = some o → α' id = α id := fun id o ho => U.al id (hF id o ho).1
  have xlow : ∀ k, Xs R α h d k → B ≤ k := by
    rintro k ⟨i, o, _, _, h3, h4, _, rfl⟩
    exact hO.low i o h3 h4
  refine ⟨fun id o ho => ?_, fun id o ho ha => ?_, fun i j oi oj hne hi hj hai hri haj he => ?_⟩
  · cases hd : d.get id with
    | some x => rw [over_some hd] at ho; subst ho; exact U.at_ id o hd
    | none =>
      rw [over_none hd] at ho
      have h0 := hO.at_ id o ho
      have e := keep id o ho
      refine obAt_congr h0 e.symm (fun m hm => (U.al m ((hF id o ho).2 m hm)).symm) fun ha x hx => ?_
      have hlt := obAt_lt h0 ha
      refine (U.st.block _ hlt fun hX => ?_).trans hx
      have := sib_in hO D hX ho ha rfl
      rw [hd] at this
      cases this
  · cases hd : d.get id with
    | some x =>
      rw [over_some hd] at ho
      subst ho
      rcases D id _ hd with hR | ⟨o', q1, q2, _⟩
      · rcases U.own id o hR hd ha with h1 | h1
        · exact xlow _ h1
        · omega
      · rw [keep id o' q1] at ha ⊢; exact hO.low id o' q1 (adr_kind ha q2.1 (q2.2 o rfl))
    | none => rw [over_none hd] at ho; rw [keep id o ho] at ha ⊢; exact hO.low id o ho ha
  · cases hdi : d.get i with
    | some xi =>
      rw [over_some hdi] at hi
      subst hi
      cases hdj : d.get j with
      | some xj => rw [over_some hdj] at hj; subst hj; exact U.inj i j oi oj hne hdi hdj hai hri haj he
      | none =>
        rw [over_none hdj] at hj
        rw [keep j oj hj] at he haj
        have hjlt := obAt_lt (hO.at_ j oj hj) haj
        exfalso
        have no : ¬ Xs R α h d (α j).blk := fun hX => by have := sib_in hO D hX hj haj rfl; rw [hdj] at this; cases this
        rcases D i _ hdi with hR | ⟨o, q1, q2, q3, q4⟩
        · rcases U.own i oi hR hdi hai with h1 | h1
          · rw [he] at h1; exact no h1
          · omega
        · have hro : o.ro = false := by
            cases hq : o.ro with
            | false => rfl
            | true => rw [q3 hq oi rfl] at hri; cases hri
          have hR := (hF i o q1).1
          rw [keep i o q1] at he hai
          exact no ⟨i, o, by simp [hdi], hR, q1, adr_kind hai q2.1 (q2.2 oi rfl), hro, he⟩
    | none =>
      rw [over_none hdi] at hi
      rw [keep i oi hi] at he hai
      have hilt := obAt_lt (hO.at_ i oi hi) hai
      have no : ¬ Xs R α h d (α i).blk := fun hX => by have := sib_in hO D hX hi hai rfl; rw [hdi] at this; cases this
      cases hdj : d.get j with
      | some xj =>
        rw [over_some hdj] at hj
        subst hj
        rcases D j _ hdj with hR | ⟨o, q1, q2, _⟩
        · exfalso
          rcases U.own j oj hR hdj haj with h1 | h1
          · rw [← he] at h1; exact no h1
          · omega
        · rw [keep j o q1] at he haj
          exact hO.inj i j oi o hne hi q1 hai hri (adr_kind haj q2.1 (q2.2 oj rfl)) he
      | none =>
        rw [over_none hdj] at hj
        rw [keep j oj hj] at he haj
        exact hO.inj i j oi oj hne hi hj hai hri haj he
theorem Hp.get_cons (id j : Nat) (b : Option Ob) (r : Hp) : Hp.get id ((j, b) :: r) = if j = id then some b else Hp.get id r := by
  show cond (Nat.beq j id) (some b) (Hp.get id r) = _
  by_cases h : j = id
  · subst h; simp
  · have e : Nat.beq j id = false := by
      cases hq : Nat.beq j id with
      | false => rfl
      | true => exact absurd (Nat.eq_of_beq_eq_true hq) h
    rw [e, if_neg h]
    rfl
theorem Hp.get_nil (id : Nat) : Hp.get id [] = none := rfl
theorem Hp.get_append (f d : Hp) (id : Nat) : Hp.get id (f ++ d) = match f.get id with | some x => some x | none => d.get id := by
  induction f with
  | nil => rfl
  | cons p f ih =>
    obtain ⟨j, b⟩ := p
    rw [List.cons_append, Hp.get_cons, Hp.get_cons]
    split
    · rfl
    · exact ih
theorem Hp.has_get (f : Hp) (id : Nat) : f.has id = (f.get id).isSome := by
  induction f with
  | nil => rfl
  | cons p f ih =>
    obtain ⟨j, b⟩ := p
    simp only [Hp.has] at ih
    simp only [Hp.has, List.any_cons, ih, Hp.get_cons]
    by_cases e : j = id
    · simp [e]
    · simp [e]
theorem Hp.get_drop (f : Hp) (id : Nat) (hf : f.get id = none) : ∀ d : Hp, (Hp.drop f d).get id = d.get id
  | [] => rfl
  | (j, b) :: d => by
    simp only [Hp.drop]
    split
    · rename_i hh
      have : j ≠ id := by rintro rfl; rw [Hp.has_get, hf] at hh; cases hh
      rw [Hp.get_cons, if_neg this, Hp.get_drop f id hf d]
    · rw [Hp.get_cons, Hp.get_cons, Hp.get_drop f id hf d]
theorem Hp.get_app (f d : Hp) (id : Nat) : (Hp.app f d).get id = match f.get id with | some x => some x | none => d.get id := by
  unfold Hp.app
  cases f with
  | nil => rfl
  | cons p r =>
    simp only []
    rw [Hp.get_append]
    cases hf : Hp.get id (p :: r) with
    | some x => rfl
    | none => simp only []; exact Hp.get_drop (p :: r) id hf d
theorem app_over (f d : Hp) (h : Vw) : (Hp.app f d).over h = f.over (d.over h) := by
  funext id
  simp only [Hp.over, Hp.get_app]
  cases f.get id <;> rfl
theorem xs_both (D1 : DOk R1 h d1) (hF1 : Fresh R1 h) (hF2 : ∀ id o, h id = some o → ¬ R2 id) (U1 : Upd R1 ρ α0 α1 h w0 w1 d1) {k : Nat} (hk : Xs R2 α1 (d1.over h) d2 k) :
    Xs (fun i => R1 i ∨ R2 i) α0 h (Hp.app d2 d1) k ∨ w0.heap.size ≤ k := by
  obtain ⟨i, o, h1, h2, h3, h4, h5, h6⟩ := hk
  have hin : ((Hp.app d2 d1).get i).isSome = true := by
    rw [Hp.get_app]; obtain ⟨x, hx⟩ := Option.isSome_iff_exists.1 h1; rw [hx]; rfl
  have old : ∀ o', h i = some o' → o'.adr (α1 i) = true → o'.ro = false → Xs (fun i => R1 i ∨ R2 i) α0 h (Hp.app d2 d1) k := fun o' q1 q2 q3 => by
    have n1 := (hF1 i o' q1).1
    rw [U1.al i n1] at q2
    refine ⟨i, o', hin, fun hr => hr.elim n1 h2, q1, q2, q3, ?_⟩
    rw [← h6, U1.al i n1]
  have x1 : ∀ {k}, Xs R1 α0 h d1 k → Xs (fun i => R1 i ∨ R2 i) α0 h (Hp.app d2 d1) k := by
    rintro k ⟨i, o, q1, q2, q3, q4, q5, q6⟩
    refine ⟨i, o, ?_, fun hr => hr.elim q2 (hF2 i o q3), q3, q4, q5, q6⟩
    rw [Hp.get_app]
    split
    · rfl
    · exact q1
  cases hd : d1.get i with
  | none => rw [over_none hd] at h3; exact .inl (old o h3 h4 h5)
  | some x =>
    rw [over_some hd] at h3
    subst h3
    rcases D1 i _ hd with hR | ⟨o', q1, q2, q3, _⟩
    · rcases U1.own i o hR hd h4 with q | q
      · rw [h6] at q; exact .inl (x1 q)
      · rw [h6] at q; exact .inr q
    · refine .inl (old o' q1 (adr_kind h4 q2.1 (q2.2 o rfl)) ?_)
      cases hq : o'.ro with
      | false => rfl
      | true => rw [q3 hq o rfl] at h5; cases h5
theorem x_first (hF2 : ∀ id o, h id = some o → ¬ R2 id) {k : Nat} (hk : Xs R1 α0 h d1 k) : Xs (fun i => R1 i ∨ R2 i) α0 h (Hp.app d2 d1) k := by
  obtain ⟨i, o, q1, q2, q3, q4, q5, q6⟩ := hk
  refine ⟨i, o, ?_, fun hr => hr.elim q2 (hF2 i o q3), q3, q4, q5, q6⟩
  rw [Hp.get_app]
  split
  · rfl
  · exact q1
/-- **One thing done after another.** -/
theorem upd_trans (hO : Obs ρ B α0 w0 h) (hB : B ≤ w0.heap.size) (hF1 : Fresh R1 h) (hF2 : ∀ id o, h id = some o → ¬ R2 id) (hF12 : Fresh R2 (d1.over h)) (U1 : Upd R1 ρ α0 α1 h w0 w1 d1) (D1 : DOk R1 h d1) (U2 : Upd R2 ρ α1 α2 (d1.over h) w1 w2 d2) (D2 : DOk R2 (d1.over h) d2) :
    Upd (fun i => R1 i ∨ R2 i) ρ α0 α2 h w0 w2 (Hp.app d2 d1) ∧ DOk (fun i => R1 i ∨ R2 i) h (Hp.app d2 d1) := by
  have hO1 := obs_over hO hB hF1 U1 D1
  have hB1 : B ≤ w1.heap.size := Nat.le_trans hB U1.st.size
  have hO2 := obs_over hO1 hB1 hF12 U2 D2
  rw [← app_over] at hO2
  have fin : ∀ id o, (Hp.app d2 d1).get id = some (some o) → (Hp.app d2 d1).over h id = some o := fun id o e => over_some e
  refine ⟨⟨fun id hr => ?_, ?_, fun id o e => hO2.at_ id o (fin id o e), fun id o hr e ha => ?_, fun i j oi oj hne e1 e2 => hO2.inj i j oi oj hne (fin i oi e1) (fin j oj e2)⟩, fun k x hk => ?_⟩
  · rw [U2.al id fun q => hr (.inr q), U1.al id fun q => hr (.inl q)]
  · refine U1.st.trans U2.st (fun i _ hx => x_first hF2 hx) fun i hi hx => ?_
    rcases xs_both D1 hF1 hF2 U1 hx with q | q
    · exact q
    · omega
  · rw [Hp.get_app] at e
    cases hd2 : d2.get id with
    | some x =>
      rw [hd2] at e
      simp only [Option.some.injEq] at e
      subst e
      rcases D2 id _ hd2 with hr2 | ⟨o1, q1, q2, _⟩
      · rcases U2.own id o hr2 hd2 ha with q | q
        · exact xs_both D1 hF1 hF2 U1 q
        · exact .inr (Nat.le_trans U1.st.size q)
      · have n2 := (hF12 id o1 q1).1
        have hr1 : R1 id := hr.resolve_right n2
        cases hd1 : d1.get id with
        | none => rw [over_none hd1] at q1; exact absurd hr1 (hF1 id o1 q1).1
        | some x1 =>
          rw [over_some hd1] at q1
          subst q1
          rw [U2.al id n2] at ha ⊢
          exact (U1.own id o1 hr1 hd1 (adr_kind ha q2.1 (q2.2 o rfl))).imp (x_first hF2) fun q => q
    | none =>
      rw [hd2] at e
      simp only at e
      have n2 := (hF12 id o (over_some e)).1
      rw [U2.al id n2] at ha ⊢
      exact (U1.own id o (hr.resolve_right n2) e ha).imp (x_first hF2) fun q => q
  · have lift : ∀ j, (d1.get j).isSome = true → ((Hp.app d2 d1).get j).isSome = true := fun j hj => by
      rw [Hp.get_app]; split
      · rfl
      · exact hj
    have lift2 : ∀ j, (d2.get j).isSome = true → ((Hp.app d2 d1).get j).isSome = true := fun j hj => by
      rw [Hp.get_app]; obtain ⟨x, hx⟩ := Option.isSome_iff_exists.1 hj; rw [hx]; rfl
    rw [Hp.get_app] at hk
    cases hd2 : d2.get k with
    | some y =>
      rw [hd2] at hk
      simp only [Option.some.injEq] at hk
      subst hk
      rcases D2 k _ hd2 with hr | ⟨o1, q1, q2, q3, q4⟩
      · exact .inl (.inr hr)
      · cases hd1 : d1.get k with
        | none => rw [over_none hd1] at q1; exact .inr ⟨o1, q1, q2, q3, fun hro j hj => lift2 j (q4 hro j hj)⟩
        | some x1 =>
          rw [over_some hd1] at q1
          subst q1
          rcases D1 k _ hd1 with hr | ⟨o, p1, p2, p3, p4⟩
          · exact .inl (.inl hr)
          · exact .inr ⟨o, p1, ⟨p2.1, fun o' e => (q2.2 o' e).trans (p2.2 o1 rfl)⟩, fun hro o' e => q3 (p3 hro o1 rfl) o' e, fun hro j hj => lift j (p4 hro j hj)⟩
    | none =>
      rw [hd2] at hk
      simp only at hk
      rcases D1 k _ hk with hr | ⟨o, p1, p2, p3, p4⟩
      · exact .inl (.inl hr)
      · exact .inr ⟨o, p1, p2, p3, fun hro j hj => lift j (p4 hro j hj)⟩
/-- Nothing done. -/
theorem Upd.nil (hb : Below w.heap.size w w') : Upd R ρ α α h w w' [] :=
  ⟨fun _ _ => rfl, Stays.of_below hb, fun _ _ e => by simp [Hp.get_nil] at e, fun _ _ _ e => by simp [Hp.get_nil] at e, fun _ _ _ _ _ e => by simp [Hp.get_nil] at e⟩
theorem DOk.nil : DOk R h [] := fun _ _ e => by simp [Hp.get_nil] at e
/-- Seen from objects of which these are some. -/
theorem Upd.more {h' : Vw} (U : Upd R ρ α α' h w w' d) (hh : ∀ i o, (d.get i).isSome = true → h i = some o → h' i = some o) : Upd R ρ α α' h' w w' d := by
  have hx : ∀ k, Xs R α h d k → Xs R α h' d k := by
    rintro k ⟨i, o, q1, q2, q3, q4⟩
    exact ⟨i, o, q1, q2, hh i o q1 q3, q4⟩
  exact ⟨U.al, U.st.mono fun k _ q => hx k q, U.at_, fun id o hr e ha => (U.own id o hr e ha).imp (hx _) (fun q => q), U.inj⟩
theorem Upd.names {R' : Nat → Prop} (U : Upd R ρ α α' h w w' d) (D : DOk R h d) (h1 : ∀ i, R i → R' i) (h2 : ∀ i o, h i = some o → ¬ R' i) : Upd R' ρ α α' h w w' d := by
  have hx : ∀ k, Xs R α h d k → Xs R' α h d k := by
    rintro k ⟨i, o, q1, q2, q3, q4⟩
    exact ⟨i, o, q1, h2 i o q3, q3, q4⟩
  refine ⟨fun id hr => U.al id fun q => hr (h1 id q), U.st.mono fun k _ q => hx k q, U.at_, fun id o hr e ha => ?_, U.inj⟩
  rcases D id _ e with q | ⟨o', q, _⟩
  · exact (U.own id o q e ha).imp (hx _) (fun q => q)
  · exact absurd hr (h2 id o' q)
theorem DOk.names {R' : Nat → Prop} (D : DOk R h d) (h1 : ∀ i, R i → R' i) : DOk R' h d := fun k x e => (D k x e).imp (h1 k) id
/-- The same, told in another list. -/
theorem Upd.same {d' : Hp} (U : Upd R ρ α α' h w w' d) (e : ∀ i, d'.get i = d.get i) : Upd R ρ α α' h w w' d' := by
  have hx : ∀ k, Xs R α h d k → Xs R α h d' k := by
    rintro k ⟨i, o, q1, q⟩
    exact ⟨i, o, by rw [e]; exact q1, q⟩
  refine ⟨U.al, U.st.mono fun k _ q => hx k q, fun id o q => U.at_ id o (by rw [← e]; exact q), fun id o hr q ha => (U.own id o hr (by rw [← e]; exact q) ha).imp (hx _) (fun q => q), fun i j oi oj hne q1 q2 => U.inj i j oi oj hne (by rw [← e]; exact q1) (by rw [← e]; exact q2)⟩
theorem DOk.same {d' : Hp} (D : DOk R h d) (e : ∀ i, d'.get i = d.get i) : DOk R h d' := fun k x q => by
  rcases D k x (by rw [← e]; exact q) with r | ⟨o, p1, p2, p3, p4⟩
  · exact .inl r
  · exact .inr ⟨o, p1, p2, p3, fun hro j hj => by rw [e]; exact p4 hro j hj⟩
/-- With new objects left out. -/
theorem Upd.less {d' : Hp} (U : Upd R ρ α α' h w w' d) (e1 : ∀ i x, d'.get i = some x → d.get i = some x) (e2 : ∀ i, ¬ R i → d'.get i = d.get i) : Upd R ρ α α' h w w' d' := by
  have hx : ∀ k, Xs R α h d k → Xs R α h d' k := by
    rintro k ⟨i, o, q1, q2, q⟩
    exact ⟨i, o, by rw [e2 i q2]; exact q1, q2, q⟩
  refine ⟨U.al, U.st.mono fun k _ q => hx k q, fun id o q => U.at_ id o (e1 _ _ q), fun id o hr q ha => (U.own id o hr (e1 _ _ q) ha).imp (hx _) (fun q => q), fun i j oi oj hne q1 q2 => U.inj i j oi oj hne (e1 _ _ q1) (e1 _ _ q2)⟩
theorem Obs.sub {h' : Vw} (hO : Obs ρ B α w h) (hs : ∀ i o, h' i = some o → h i = some o) : Obs ρ B α w h' :=
  ⟨fun id o q => hO.at_ id o (hs id o q), fun id o q => hO.low id o (hs id o q), fun i j oi oj hne q1 q2 => hO.inj i j oi oj hne (hs i oi q1) (hs j oj q2)⟩
theorem Obs.drew (hO : Obs ρ B α w h) : Obs ρ B α { w with drawn := w.drawn + 1 } h := ⟨fun id o q => obAt_drew (hO.at_ id o q), hO.low, hO.inj⟩
theorem Upd.drew (U : Upd R ρ α α' h w w' d) : Upd R ρ α α' h w { w' with drawn := w'.drawn + 1 } d :=
  ⟨U.al, ⟨U.st.os, U.st.tape, U.st.output, U.st.size, U.st.block⟩, fun id o q => obAt_drew (U.at_ id o q), U.own, U.inj⟩
end
end Go.Proofs.Ytmpadjlplgajcaa
