/- Contracts: the common divisor, the product, the sign, the negative, the sum, the bounds of a number of 128 bits. -/
import Derived.Test.YtinnlahmlepeeaaDoorFraA
namespace Go.Proofs.YtinnlahmlepeeaaDoor
open Go.RowKit
theorem cnew (w : World) (cs : Array Value) (t : TypeId) (k : Nat) (v : Value) (h : cs[k]? = some v) : (w.alloc (.cells cs t)).cell? ⟨w.heap.size, k, none⟩ = some v := by
  unfold World.cell? World.alloc
  simp [h]
theorem sz1 (w : World) (o : Obj) : (w.alloc o).heap.size = w.heap.size + 1 := by simp
theorem fnew (w : World) (cs : Array Value) (t : TypeId) (k : Nat) : (w.alloc (.cells cs t)).frozen? ⟨w.heap.size, k, none⟩ = false := by
  unfold World.frozen? World.alloc
  simp
theorem keepfa {w : World} {p : Addr} (h : w.frozen? p = false) (hl : p.block < w.heap.size) (o : Obj) : (w.alloc o).frozen? p = false := by
  unfold World.frozen? World.alloc at *
  simpa [Array.getElem?_push, Nat.ne_of_lt hl] using h
/-- The cells at block b are these, and may be written. -/
def OwnC (w : World) (b : Nat) (cs : Array Value) : Prop :=
  (∀ k v, cs[k]? = some v → w.cell? ⟨b, k, none⟩ = some v) ∧ (∀ k, w.cell? ⟨b, k, none⟩ ≠ none → w.frozen? ⟨b, k, none⟩ = false) ∧ b < w.heap.size
theorem OwnC.new (w : World) (cs : Array Value) (t : TypeId) : OwnC (w.alloc (.cells cs t)) w.heap.size cs :=
  ⟨fun k v h => cnew w cs t k v h, fun k _ => fnew w cs t k, by simp⟩
theorem OwnC.new2 (w : World) (o : Obj) (cs : Array Value) (t : TypeId) : OwnC ((w.alloc o).alloc (.cells cs t)) (w.heap.size + 1) cs := by
  have := OwnC.new (w.alloc o) cs t
  rwa [sz1] at this
theorem OwnC.new3 (w : World) (o o' : Obj) (cs : Array Value) (t : TypeId) : OwnC (((w.alloc o).alloc o').alloc (.cells cs t)) (w.heap.size + 1 + 1) cs := by
  have := OwnC.new2 (w.alloc o) o' cs t
  rwa [sz1] at this
theorem OwnC.new4 (w : World) (o o' o2 : Obj) (cs : Array Value) (t : TypeId) : OwnC ((((w.alloc o).alloc o').alloc o2).alloc (.cells cs t)) (w.heap.size + 1 + 1 + 1) cs := by
  have := OwnC.new3 (w.alloc o) o' o2 cs t
  rwa [sz1] at this
theorem OwnC.old {w : World} {b : Nat} {cs : Array Value} (h : OwnC w b cs) (o : Obj) : OwnC (w.alloc o) b cs :=
  ⟨fun k v e => keepa (h.1 k v e) o, fun k e => keepfa (h.2.1 k (fun e' => e ((World.cell?_alloc_lt w o ⟨b, k, none⟩ h.2.2).trans e'))) h.2.2 o, by have := h.2.2; simp; omega⟩
theorem OwnC.below {w w' : World} {b : Nat} {cs : Array Value} (h : OwnC w b cs) (hb : Below w.heap.size w w') : OwnC w' b cs :=
  ⟨fun k v e => keepc (h.1 k v e) hb, fun k e => (hb.frozen (p := ⟨b, k, none⟩) h.2.2).trans (h.2.1 k (fun e' => e ((hb.cell (p := ⟨b, k, none⟩) h.2.2).trans e'))), Nat.lt_of_lt_of_le h.2.2 hb.size⟩
theorem OwnC.two {w : World} {b : Nat} {x y : Value} (h : OwnC w b #[x, y]) : (w.cell? ⟨b, 0, none⟩ = some x ∧ w.cell? ⟨b, 1, none⟩ = some y) ∧ (w.frozen? ⟨b, 0, none⟩ = false ∧ w.frozen? ⟨b, 1, none⟩ = false) ∧ b < w.heap.size :=
  have c0 := h.1 0 x rfl
  have c1 := h.1 1 y rfl
  ⟨⟨c0, c1⟩, ⟨h.2.1 0 (by rw [c0]; simp), h.2.1 1 (by rw [c1]; simp)⟩, h.2.2⟩
theorem OwnC.three {w : World} {b : Nat} {x y z : Value} (h : OwnC w b #[x, y, z]) : (w.cell? ⟨b, 0, none⟩ = some x ∧ w.cell? ⟨b, 1, none⟩ = some y ∧ w.cell? ⟨b, 2, none⟩ = some z) ∧ (w.frozen? ⟨b, 0, none⟩ = false ∧ w.frozen? ⟨b, 1, none⟩ = false ∧ w.frozen? ⟨b, 2, none⟩ = false) ∧ b < w.heap.size :=
  have c0 := h.1 0 x rfl
  have c1 := h.1 1 y rfl
  have c2 := h.1 2 z rfl
  ⟨⟨c0, c1, c2⟩, ⟨h.2.1 0 (by rw [c0]; simp), h.2.1 1 (by rw [c1]; simp), h.2.1 2 (by rw [c2]; simp)⟩, h.2.2⟩
theorem setB {B b off : Nat} {w w' : World} {v : Value} (h : Below B w w') (hle : B ≤ b) : Below B w (w'.setCell ⟨b, off, none⟩ v) := h.setCell hle _
theorem sz2 {w w' : World} (h : Below w.heap.size w w') : w.heap.size ≤ w'.heap.size := h.size
theorem natAbs_InU {n : Int} (h : In64 n) : InU (n.natAbs : Int) := by obtain ⟨h1, h2⟩ := h; unfold InU; omega
theorem natAbs_In63 {n : Int} (h : In64 n) : (n.natAbs : Int) ≤ 9223372036854775808 := by obtain ⟨h1, h2⟩ := h; omega
theorem divisor_any (n m : Int) (hn : In64 n) (hm : In64 m) (w : World) : Calls Tryd.prog 39 #[.int .i64 n, .int .i64 m] w fun e w' =>
    e = .returned (.int .u64 (Nat.gcd n.natAbs m.natAbs : Int)) ∧ Below w.heap.size w w' := by
  have C1 : Hid (∀ w, Calls Tryd.prog 64 #[.int .i64 n] w fun e w' => e = .returned (.int .u64 (n.natAbs : Int)) ∧ w' = w) := Lib.hid fun w => size_any n hn w
  have C2 : Hid (∀ w, Calls Tryd.prog 64 #[.int .i64 m] w fun e w' => e = .returned (.int .u64 (m.natAbs : Int)) ∧ w' = w) := Lib.hid fun w => size_any m hm w
  have u1 := natAbs_InU hn
  have u2 := natAbs_InU hm
  obtain ⟨a0, ha0⟩ : ∃ a : Int, (n.natAbs : Int) = a := ⟨_, rfl⟩
  obtain ⟨b0, hb0⟩ : ∃ a : Int, (m.natAbs : Int) = a := ⟨_, rfl⟩
  obtain ⟨g, hg⟩ : ∃ g, Nat.gcd n.natAbs m.natAbs = g := ⟨_, rfl⟩
  have HG : Hid (Nat.gcd a0.natAbs b0.natAbs = g) := Lib.hid (by rw [← ha0, ← hb0]; exact hg)
  rw [ha0] at C1 u1
  rw [hb0] at C2 u2
  rw [hg]
  clear ha0 hb0 hg hn hm
  obtain ⟨u1, u1'⟩ := u1
  obtain ⟨u2, u2'⟩ := u2
  go_enter Tryd.func39, Tryd.ntmps39
  go_wp2_with fail
  (with_reducible refine (C1.out _).mono ?_)
  rintro e w1 ⟨rfl, rfl⟩
  go_wp2_with fail
  (with_reducible refine (C2.out _).mono ?_)
  rintro e w2 ⟨rfl, rfl⟩
  go_wp2_with fail
  go_loopw [5, 6] (fun x y wr => ∃ a b : Int, 0 ≤ a ∧ a < 18446744073709551616 ∧ 0 ≤ b ∧ b < 18446744073709551616 ∧ x = .int .u64 a ∧ y = .int .u64 b ∧ Nat.gcd a.natAbs b.natAbs = g ∧ Below w2.heap.size w2 wr) (fun _ y _ => (intOf y).toNat)
  case atStart => exact ⟨a0, b0, u1, u1', u2, u2', rfl, rfl, HG.out, Below.refl _ _⟩
  case round =>
    obtain ⟨a, b, ha, ha', hb, hb', rfl, rfl, hg, hB⟩ := hrel
    have HH := Lib.hid hg
    clear hg
    by_cases hz : b = 0
    · subst hz
      go_wp2
      go_ret
      exact ⟨ret_int (by rw [← HH.out]; simp; omega), hB⟩
    · have h0 : (b != 0) = true := by simpa using hz
      have h1 : 0 ≤ a % b := Int.emod_nonneg _ hz
      have h2 : a % b < b := Int.emod_lt_of_pos _ (by omega)
      have H3 : Hid (Nat.gcd b.natAbs (a % b).natAbs = Nat.gcd a.natAbs b.natAbs) := Lib.hid (by
        rw [Int.natAbs_emod_of_nonneg ha, Nat.gcd_comm, ← Nat.gcd_rec, Nat.gcd_comm])
      have h4 : 1 ≤ b := by omega
      go_wp2
      go_quiet (fail)
      go_wp2
      go_roundw
      case rel => exact ⟨b, a % b, by omega, by omega, h1, by omega, rfl, rfl, by rw [H3.out, HH.out], below_drewN hB _⟩
      case measure => simp [intOf]; omega
theorem wnegated_any (z : Int) (w : World) : Calls Tryd.prog 43 #[.agg #[.int .u64 (whi z), .int .u64 (wlo z)]] w fun e w' =>
    e = .returned (.agg #[.int .u64 (whi (-z)), .int .u64 (wlo (-z))]) ∧ Below w.heap.size w w' := by
  have h1 := sub64_lo z
  obtain ⟨x, h2⟩ := sub64_hi z
  generalize whi (-z) = h' at *
  generalize wlo (-z) = l' at *
  generalize bor (wlo z) = b at *
  generalize whi z = h at *
  generalize wlo z = l at *
  go_enter Tryd.func43, Tryd.ntmps43
  go_wp2_with fail
  refine bodyPost_ret (v := .agg #[.int .u64 h', .int .u64 l']) ?_ rfl ⟨rfl, ?_⟩
  · simp [results, Tryd.results43, go_sem]
  · exact bnew (bnew (Below.refl _ _) _) _
/-- Behind a call that begins in a world with new blocks. -/
theorem bcall {w w1 w2 : World} (h : Below w.heap.size w w1) (hb : Below w1.heap.size w1 w2) : Below w.heap.size w w2 := h.trans (hb.mono h.size)
theorem mul_neg {x y : Int} : (x < 0 ∧ ¬ y < 0 ∨ ¬ x < 0 ∧ y < 0) → -((x.natAbs : Int) * (y.natAbs : Int)) = x * y := by
  rintro (⟨h1, h2⟩ | ⟨h1, h2⟩)
  · rw [show (x.natAbs : Int) = -x by omega, show (y.natAbs : Int) = y by omega, Int.neg_mul, Int.neg_neg]
  · rw [show (x.natAbs : Int) = x by omega, show (y.natAbs : Int) = -y by omega, Int.mul_neg, Int.neg_neg]
theorem mul_pos' {x y : Int} : (x < 0 ∧ y < 0 ∨ ¬ x < 0 ∧ ¬ y < 0) → ((x.natAbs : Int) * (y.natAbs : Int)) = x * y := by
  rintro (⟨h1, h2⟩ | ⟨h1, h2⟩)
  · rw [show (x.natAbs : Int) = -x by omega, show (y.natAbs : Int) = -y by omega, Int.neg_mul_neg]
  · rw [show (x.natAbs : Int) = x by omega, show (y.natAbs : Int) = y by omega]
theorem product_any (x y : Int) (hx : In64 x) (hy : In64 y) (w : World) : Calls Tryd.prog 40 #[.int .i64 x, .int .i64 y] w fun e w' =>
    e = .returned (.agg #[.int .u64 (whi (x * y)), .int .u64 (wlo (x * y))]) ∧ Below w.heap.size w w' := by
  have C1 : Hid (∀ w, Calls Tryd.prog 64 #[.int .i64 x] w fun e w' => e = .returned (.int .u64 (x.natAbs : Int)) ∧ w' = w) := Lib.hid fun w => size_any x hx w
  have C2 : Hid (∀ w, Calls Tryd.prog 64 #[.int .i64 y] w fun e w' => e = .returned (.int .u64 (y.natAbs : Int)) ∧ w' = w) := Lib.hid fun w => size_any y hy w
  have CM : Hid (∀ w, Calls Tryd.prog 65 #[.int .u64 (x.natAbs : Int), .int .u64 (y.natAbs : Int)] w fun e w' => e = .returned (.tuple #[.int .u64 (whi ((x.natAbs : Int) * (y.natAbs : Int))), .int .u64 (wlo ((x.natAbs : Int) * (y.natAbs : Int)))]) ∧ w' = w) := Lib.hid fun w => mul64_any _ _ (natAbs_InU hx) (natAbs_InU hy) w
  have CN : Hid (∀ w, Calls Tryd.prog 43 #[.agg #[.int .u64 (whi ((x.natAbs : Int) * (y.natAbs : Int))), .int .u64 (wlo ((x.natAbs : Int) * (y.natAbs : Int)))]] w fun e w' => e = .returned (.agg #[.int .u64 (whi (-((x.natAbs : Int) * (y.natAbs : Int)))), .int .u64 (wlo (-((x.natAbs : Int) * (y.natAbs : Int))))]) ∧ Below w.heap.size w w') := Lib.hid fun w => wnegated_any _ w
  have HS := Lib.hid (@mul_neg x y)
  have HP := Lib.hid (@mul_pos' x y)
  have D1 : ∀ b : Bool, decide (x < 0) = b → (b = true ↔ x < 0) := by intro b h; rw [← h]; simp
  have D2 : ∀ b : Bool, decide (y < 0) = b → (b = true ↔ y < 0) := by intro b h; rw [← h]; simp
  obtain ⟨b1, hb1⟩ : ∃ b, decide (x < 0) = b := ⟨_, rfl⟩
  obtain ⟨b2, hb2⟩ : ∃ b, decide (y < 0) = b := ⟨_, rfl⟩
  have DD := Lib.hid (⟨D1 b1 hb1, D2 b2 hb2⟩ : _ ∧ _)
  clear D1 D2 hx hy
  generalize (x.natAbs : Int) = p at *
  generalize (y.natAbs : Int) = q at *
  obtain ⟨h, hh⟩ : ∃ h, whi (p * q) = h := ⟨_, rfl⟩
  obtain ⟨l, hl⟩ : ∃ h, wlo (p * q) = h := ⟨_, rfl⟩
  rw [hh, hl] at CM CN
  have HH := Lib.hid hh
  have HL := Lib.hid hl
  clear hh hl
  obtain ⟨r, hr⟩ : ∃ r, x * y = r := ⟨_, rfl⟩
  rw [hr] at HS HP
  rw [hr]
  clear hr
  rcases b1 with _ | _ <;> rcases b2 with _ | _
  all_goals
    go_enter Tryd.func40, Tryd.ntmps40
    go_wp2_with fail
    (with_reducible refine (C1.out _).mono ?_)
    rintro e w1 ⟨rfl, rfl⟩
    go_wp2_with fail
    (with_reducible refine (C2.out _).mono ?_)
    rintro e w2 ⟨rfl, rfl⟩
    go_wp2_with fail
    (with_reducible refine (CM.out _).mono ?_)
    rintro e w3 ⟨rfl, rfl⟩
    go_wp2_with fail
  · have e : p * q = r := HP.out (.inr ⟨by have := DD.out.1; simpa using this, by have := DD.out.2; simpa using this⟩)
    refine bodyPost_ret (v := .agg #[.int .u64 h, .int .u64 l]) ?_ rfl ⟨by rw [← e, HH.out, HL.out], bnew (bnew (Below.refl _ _) _) _⟩
    simp [results, Tryd.results40, go_sem]
  · have e : -(p * q) = r := HS.out (.inr ⟨by have := DD.out.1; simpa using this, by have := DD.out.2; simpa using this⟩)
    (with_reducible refine (CN.out _).mono ?_)
    rintro e w4 ⟨rfl, hb⟩
    obtain ⟨⟨c0, c1⟩, ⟨c2, c3⟩, c4⟩ := ((((OwnC.new w #[.int .u64 0, .int .u64 0] 48).old (.cells #[.int .u64 h, .int .u64 l] 48)).below hb)).two
    have hbb := bcall (bnew (bnew (Below.refl _ w) _) _) hb
    clear hb
    rw [e]
    go_wp2_with fail
    refine bodyPost_ret (v := .agg #[.int .u64 (whi r), .int .u64 (wlo r)]) ?_ rfl ⟨rfl, ?_⟩
    · simp [results, Tryd.results40, go_sem, *]
    · repeat' first | (with_reducible assumption) | (with_reducible exact Nat.le_refl _) | (with_reducible refine setB ?_ ?_)
  · have e : -(p * q) = r := HS.out (.inl ⟨by have := DD.out.1; simpa using this, by have := DD.out.2; simpa using this⟩)
    (with_reducible refine (CN.out _).mono ?_)
    rintro e w4 ⟨rfl, hb⟩
    obtain ⟨⟨c0, c1⟩, ⟨c2, c3⟩, c4⟩ := ((((OwnC.new w #[.int .u64 0, .int .u64 0] 48).old (.cells #[.int .u64 h, .int .u64 l] 48)).below hb)).two
    have hbb := bcall (bnew (bnew (Below.refl _ w) _) _) hb
    clear hb
    rw [e]
    go_wp2_with fail
    refine bodyPost_ret (v := .agg #[.int .u64 (whi r), .int .u64 (wlo r)]) ?_ rfl ⟨rfl, ?_⟩
    · simp [results, Tryd.results40, go_sem, *]
    · repeat' first | (with_reducible assumption) | (with_reducible exact Nat.le_refl _) | (with_reducible refine setB ?_ ?_)
  · have e : p * q = r := HP.out (.inl ⟨by have := DD.out.1; simpa using this, by have := DD.out.2; simpa using this⟩)
    refine bodyPost_ret (v := .agg #[.int .u64 h, .int .u64 l]) ?_ rfl ⟨by rw [← e, HH.out, HL.out], bnew (bnew (Below.refl _ _) _) _⟩
    simp [results, Tryd.results40, go_sem]
theorem negative_any (z : Int) (hz : In127 z) (w : World) : Calls Tryd.prog 42 #[.agg #[.int .u64 (whi z), .int .u64 (wlo z)]] w fun e w' =>
    e = .returned (.bool (decide (z < 0))) ∧ Below w.heap.size w w' := by
  have hb := whi_bd z
  have HZ := Lib.hid (w_sgn hz)
  clear hz
  generalize whi z = h at *
  generalize wlo z = l at *
  go_enter Tryd.func42, Tryd.ntmps42
  go_wp2_with fail
  go_ret
  exact ⟨ret_bool (by rw [Bool.eq_iff_iff]; simpa using HZ.out), bnew (Below.refl _ _) _⟩
theorem wplus_any (y z : Int) (w : World) : Calls Tryd.prog 50 #[.agg #[.int .u64 (whi y), .int .u64 (wlo y)], .agg #[.int .u64 (whi z), .int .u64 (wlo z)]] w fun e w' =>
    e = .returned (.agg #[.int .u64 (whi (y + z)), .int .u64 (wlo (y + z))]) ∧ Below w.heap.size w w' := by
  have h1 := add64_lo y z
  obtain ⟨x, h2⟩ := add64_hi y z
  generalize whi (y + z) = h' at *
  generalize wlo (y + z) = l' at *
  generalize (wlo y + wlo z) / 18446744073709551616 = b at *
  generalize whi z = h at *
  generalize wlo z = l at *
  generalize whi y = i at *
  generalize wlo y = k at *
  go_enter Tryd.func50, Tryd.ntmps50
  go_wp2_with fail
  refine bodyPost_ret (v := .agg #[.int .u64 h', .int .u64 l']) ?_ rfl ⟨rfl, ?_⟩
  · simp [results, Tryd.results50, go_sem]
  · exact bnew (bnew (bnew (Below.refl _ _) _) _) _
theorem narrow_any (z : Int) (h1 : -1000000000000000000 < z) (h2 : z < 1000000000000000000) (w : World) : Calls Tryd.prog 70 #[.agg #[.int .u64 (whi z), .int .u64 (wlo z)]] w fun e w' =>
    e = .returned (.int .i64 z) ∧ Below w.heap.size w w' := by
  have hw : IntKind.i64.wrap (wlo z) = z := by
    have := w_narrow h1 h2
    have hb := wlo_bd z
    rw [IntKind.wrap_i64]
    split at this <;> omega
  clear h1 h2
  generalize whi z = h at *
  generalize wlo z = l at *
  go_enter Tryd.func70, Tryd.ntmps70
  go_wp2_with fail
  go_ret
  exact ⟨rfl, bnew (Below.refl _ _) _⟩
theorem wsize_any (z : Int) (hz : In127 z) (w : World) : Calls Tryd.prog 66 #[.agg #[.int .u64 (whi z), .int .u64 (wlo z)]] w fun e w' =>
    e = .returned (.agg #[.int .u64 (whi (z.natAbs : Int)), .int .u64 (wlo (z.natAbs : Int))]) ∧ Below w.heap.size w w' := by
  have C1 : Hid (∀ w, Calls Tryd.prog 42 #[.agg #[.int .u64 (whi z), .int .u64 (wlo z)]] w fun e w' => e = .returned (.bool (decide (z < 0))) ∧ Below w.heap.size w w') := Lib.hid fun w => negative_any z hz w
  have CN : Hid (∀ w, Calls Tryd.prog 43 #[.agg #[.int .u64 (whi z), .int .u64 (wlo z)]] w fun e w' => e = .returned (.agg #[.int .u64 (whi (-z)), .int .u64 (wlo (-z))]) ∧ Below w.heap.size w w') := Lib.hid fun w => wnegated_any z w
  have A0 := Lib.hid ((OwnC.new w #[.int .u64 (whi z), .int .u64 (wlo z)] 48).old (.cells #[.int .u64 0, .int .u64 0] 48))
  have A1 := Lib.hid (OwnC.new2 w (.cells #[.int .u64 (whi z), .int .u64 (wlo z)] 48) #[.int .u64 0, .int .u64 0] 48)
  by_cases h0 : z < 0
  · have e1 : (z.natAbs : Int) = -z := by omega
    rw [e1]
    rw [show decide (z < 0) = true by simpa using h0] at C1
    clear h0 e1 hz
    generalize whi (-z) = h' at *
    generalize wlo (-z) = l' at *
    generalize whi z = h at *
    generalize wlo z = l at *
    go_enter Tryd.func66, Tryd.ntmps66
    go_wp2_with fail
    (with_reducible refine (C1.out _).mono ?_)
    rintro e w1 ⟨rfl, hb⟩
    have B0 := Lib.hid (A0.out.below hb)
    have B1 := Lib.hid (A1.out.below hb)
    obtain ⟨⟨q0, q1⟩, ⟨q2, q3⟩, q4⟩ := B0.out.two
    have hbb := bcall (bnew (bnew (Below.refl _ w) _) _) hb
    clear hb A0 A1
    go_wp2_with fail
    (with_reducible refine (CN.out _).mono ?_)
    rintro e w2 ⟨rfl, hb⟩
    obtain ⟨⟨c0, c1⟩, ⟨c2, c3⟩, c4⟩ := (B1.out.below hb).two
    have hbc := bcall hbb hb
    clear hb B0 B1 q0 q1 q2 q3 q4
    go_wp2_with fail
    refine bodyPost_ret (v := .agg #[.int .u64 h', .int .u64 l']) ?_ rfl ⟨rfl, ?_⟩
    · simp [results, Tryd.results66, go_sem, *]
    · repeat' first | (with_reducible assumption) | (with_reducible exact Nat.le_refl _) | (with_reducible refine setB ?_ ?_) | omega
  · have e1 : (z.natAbs : Int) = z := by omega
    rw [e1]
    rw [show decide (z < 0) = false by simpa using h0] at C1
    clear h0 e1 hz CN
    generalize whi z = h at *
    generalize wlo z = l at *
    go_enter Tryd.func66, Tryd.ntmps66
    go_wp2_with fail
    (with_reducible refine (C1.out _).mono ?_)
    rintro e w1 ⟨rfl, hb⟩
    obtain ⟨⟨q0, q1⟩, ⟨q2, q3⟩, q4⟩ := (A0.out.below hb).two
    obtain ⟨⟨c0, c1⟩, ⟨c2, c3⟩, c4⟩ := (A1.out.below hb).two
    have hbb := bcall (bnew (bnew (Below.refl _ w) _) _) hb
    clear hb A0 A1
    go_wp2_with fail
    refine bodyPost_ret (v := .agg #[.int .u64 h, .int .u64 l]) ?_ rfl ⟨rfl, ?_⟩
    · simp [results, Tryd.results66, go_sem, *]
    · repeat' first | (with_reducible assumption) | (with_reducible exact Nat.le_refl _) | (with_reducible refine setB ?_ ?_) | omega
theorem fits_any (z : Int) (hz : In127 z) (hm : -170141183460469231731687303715884105728 < z) (w : World) : Calls Tryd.prog 69 #[.agg #[.int .u64 (whi z), .int .u64 (wlo z)]] w fun e w' =>
    e = .returned (.bool (decide (-1000000000000000000 < z ∧ z < 1000000000000000000))) ∧ Below w.heap.size w w' := by
  have C1 : Hid (∀ w, Calls Tryd.prog 66 #[.agg #[.int .u64 (whi z), .int .u64 (wlo z)]] w fun e w' => e = .returned (.agg #[.int .u64 (whi (z.natAbs : Int)), .int .u64 (wlo (z.natAbs : Int))]) ∧ Below w.heap.size w w') := Lib.hid fun w => wsize_any z hz w
  have HF : Hid (decide (-1000000000000000000 < z ∧ z < 1000000000000000000) = (whi (z.natAbs : Int) == 0 && decide (wlo (z.natAbs : Int) < 1000000000000000000))) := Lib.hid (by
    have := w_fits (z := (z.natAbs : Int)) (by omega) (by obtain ⟨h1, h2⟩ := hz; unfold In127; omega)
    rw [Bool.eq_iff_iff]
    simp only [Bool.and_eq_true, beq_iff_eq, decide_eq_true_eq]
    rw [this]
    omega)
  generalize decide (-1000000000000000000 < z ∧ z < 1000000000000000000) = r at *
  generalize whi (z.natAbs : Int) = h' at *
  generalize wlo (z.natAbs : Int) = l' at *
  clear hz hm
  generalize whi z = h at *
  generalize wlo z = l at *
  rcases hh : (h' == 0) with _ | _
  all_goals
    rw [hh] at HF
    go_enter Tryd.func69, Tryd.ntmps69
    go_wp2_with fail
    (with_reducible refine (C1.out _).mono ?_)
    rintro e w1 ⟨rfl, hb⟩
    go_wp2_with fail
    go_ret
    exact ⟨ret_bool (by rw [HF.out]; simp), bnew (bcall (bnew (Below.refl _ _) _) hb) _⟩
end Go.Proofs.YtinnlahmlepeeaaDoor
