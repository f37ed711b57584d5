/- Contracts: bounded, Valid, New. -/
import Derived.Test.YtinnlahmlepeeaaDoorFraC
namespace Go.Proofs.YtinnlahmlepeeaaDoor
open Go.RowKit
abbrev SU2 (w3 : World) (n m : Nat) (x y u v : Value) (w' : World) : Prop := w'.cell? ⟨n, 0, none⟩ = some x ∧ w'.cell? ⟨n, 1, none⟩ = some y ∧ w'.cell? ⟨m, 0, none⟩ = some u ∧ w'.cell? ⟨m, 1, none⟩ = some v ∧ Below w3.heap.size w3 w'
theorem mkU2 {w3 w' : World} {n m : Nat} {x y u v : Value} (h : Hid (OwnC w3 n #[x, y])) (h' : Hid (OwnC w3 m #[u, v])) (hb : Below w3.heap.size w3 w') : SU2 w3 n m x y u v w' :=
  have h := (h.out.below hb).two
  have h' := (h'.out.below hb).two
  ⟨h.1.1, h.1.2, h'.1.1, h'.1.2, hb⟩
theorem getU2 {w3 w' : World} {n m : Nat} {x y u v : Value} (h : SU2 w3 n m x y u v w') : Below w3.heap.size w3 w' := h.2.2.2.2
/-- All blocks but r read as they did. -/
def Bx (r : Nat) (w w' : World) : Prop := w.heap.size ≤ w'.heap.size ∧ ∀ b k, b < w.heap.size → b ≠ r → w'.cell? ⟨b, k, none⟩ = w.cell? ⟨b, k, none⟩
theorem Bx.refl (r : Nat) (w : World) : Bx r w w := ⟨Nat.le_refl _, fun _ _ _ _ => rfl⟩
theorem Bx.drew {r : Nat} {w w' : World} (h : Bx r w w') : Bx r w w'.drew := h
theorem Bx.call {r : Nat} {w w1 w2 : World} (h : Bx r w w1) (hb : Below w1.heap.size w1 w2) : Bx r w w2 :=
  ⟨Nat.le_trans h.1 hb.size, fun b k hl hr => (hb.cell (p := ⟨b, k, none⟩) (Nat.lt_of_lt_of_le hl h.1)).trans (h.2 b k hl hr)⟩
theorem Bx.set {r k : Nat} {v : Value} {w w' : World} (h : Bx r w w') : Bx r w (w'.setCell ⟨r, k, none⟩ v) := by
  refine ⟨?_, fun b j hl hr => (World.cell?_setCell_other w' _ _ _ (fun e => hr ?_)).trans (h.2 b j hl hr)⟩
  · have := h.1; simpa using this
  · first | exact congrArg Addr.block e | exact (congrArg Addr.block e).symm
abbrev SX (w2 : World) (r n m : Nat) (x y u v : Value) (w' : World) : Prop := w'.cell? ⟨n, 0, none⟩ = some x ∧ w'.cell? ⟨n, 1, none⟩ = some y ∧ w'.cell? ⟨m, 0, none⟩ = some u ∧ w'.cell? ⟨m, 1, none⟩ = some v ∧ Bx r w2 w'
theorem mkX {w2 w' : World} {r n m : Nat} {x y u v : Value} (h : Hid (OwnC w2 n #[x, y])) (h' : Hid (OwnC w2 m #[u, v])) (hn : n ≠ r) (hm : m ≠ r) (hb : Bx r w2 w') : SX w2 r n m x y u v w' :=
  have a := h.out.two
  have b := h'.out.two
  ⟨(hb.2 n 0 a.2.2 hn).trans a.1.1, (hb.2 n 1 a.2.2 hn).trans a.1.2, (hb.2 m 0 b.2.2 hm).trans b.1.1, (hb.2 m 1 b.2.2 hm).trans b.1.2, hb⟩
theorem getX {w2 w' : World} {r n m : Nat} {x y u v : Value} (h : SX w2 r n m x y u v w') : Bx r w2 w' := h.2.2.2.2
theorem OwnC.drew {w : World} {b : Nat} {cs : Array Value} (h : OwnC w b cs) : OwnC w.drew b cs := h
theorem bounded_any (n d : Int) (hn : In127 n) (hn' : -170141183460469231731687303715884105728 < n) (hd : In127 d) (hd' : -170141183460469231731687303715884105728 < d) (w : World) :
    Calls Tryd.prog 44 #[.agg #[.int .u64 (whi n), .int .u64 (wlo n)], .agg #[.int .u64 (whi d), .int .u64 (wlo d)]] w fun e w' =>
    e = .returned (.tuple #[if (-1000000000000000000 < n ∧ n < 1000000000000000000) ∧ (-1000000000000000000 < d ∧ d < 1000000000000000000) then .agg #[.int .i64 n, .int .i64 d] else .agg #[.int .i64 0, .int .i64 0],
      if (-1000000000000000000 < n ∧ n < 1000000000000000000) ∧ (-1000000000000000000 < d ∧ d < 1000000000000000000) then .int .i64 0 else .int .i64 6]) ∧ Below w.heap.size w w' := by
  have F1 : Hid (∀ w, Calls Tryd.prog 69 #[.agg #[.int .u64 (whi n), .int .u64 (wlo n)]] w fun e w' => e = .returned (.bool (decide (-1000000000000000000 < n ∧ n < 1000000000000000000))) ∧ Below w.heap.size w w') := Lib.hid fun w => fits_any n hn hn' w
  have F2 : Hid (∀ w, Calls Tryd.prog 69 #[.agg #[.int .u64 (whi d), .int .u64 (wlo d)]] w fun e w' => e = .returned (.bool (decide (-1000000000000000000 < d ∧ d < 1000000000000000000))) ∧ Below w.heap.size w w') := Lib.hid fun w => fits_any d hd hd' w
  have N1 := Lib.hid (fun (h : -1000000000000000000 < n ∧ n < 1000000000000000000) w => narrow_any n h.1 h.2 w)
  have N2 := Lib.hid (fun (h : -1000000000000000000 < d ∧ d < 1000000000000000000) w => narrow_any d h.1 h.2 w)
  have A0 := Lib.hid ((((OwnC.new w #[.int .u64 (whi n), .int .u64 (wlo n)] 48).old (.cells #[.int .u64 (whi d), .int .u64 (wlo d)] 48)).old (.cells #[.int .i64 0, .int .i64 0] 23)))
  have A1 := Lib.hid ((OwnC.new2 w (.cells #[.int .u64 (whi n), .int .u64 (wlo n)] 48) #[.int .u64 (whi d), .int .u64 (wlo d)] 48).old (.cells #[.int .i64 0, .int .i64 0] 23))
  have A2 := Lib.hid (OwnC.new3 w (.cells #[.int .u64 (whi n), .int .u64 (wlo n)] 48) (.cells #[.int .u64 (whi d), .int .u64 (wlo d)] 48) #[.int .i64 0, .int .i64 0] 23)
  clear hn hn' hd hd'
  generalize whi n = nh at *
  generalize wlo n = nl at *
  generalize whi d = dh at *
  generalize wlo d = dl at *
  by_cases h1 : -1000000000000000000 < n ∧ n < 1000000000000000000
  · rw [show decide (-1000000000000000000 < n ∧ n < 1000000000000000000) = true by simpa using h1] at F1
    have M1 := Lib.hid (N1.out h1)
    by_cases h2 : -1000000000000000000 < d ∧ d < 1000000000000000000
    · rw [show decide (-1000000000000000000 < d ∧ d < 1000000000000000000) = true by simpa using h2] at F2
      have M2 := Lib.hid (N2.out h2)
      rw [if_pos ⟨h1, h2⟩, if_pos ⟨h1, h2⟩]
      clear h1 h2 N1 N2
      go_enter Tryd.func44, Tryd.ntmps44
      go_wp2_with fail
      (with_reducible refine (F1.out _).mono ?_)
      rintro e w1 ⟨rfl, hb⟩
      have B0 := Lib.hid (A0.out.below hb)
      have B1 := Lib.hid (A1.out.below hb)
      have B2 := Lib.hid (A2.out.below hb)
      have hbb := bcall (bnew (bnew (bnew (Below.refl _ w) _) _) _) hb
      obtain ⟨⟨b0, b1⟩, ⟨b2, b3⟩, b4⟩ := B1.out.two
      clear hb A0 A1 A2 F1
      go_wp2_with fail
      (with_reducible refine (F2.out _).mono ?_)
      rintro e w2 ⟨rfl, hb⟩
      have D0 := Lib.hid (B0.out.below hb)
      have D1 := Lib.hid (B1.out.below hb)
      have D2 := Lib.hid (B2.out.below hb)
      have hbc := bcall hbb hb
      clear hb B0 B1 B2 F2 hbb b0 b1 b2 b3 b4
      go_wp2_with fail
      have n02 : w.heap.size ≠ w.heap.size + 1 + 1 := by omega
      have n12 : w.heap.size + 1 ≠ w.heap.size + 1 + 1 := by omega
      go_region_held3 (fun w' => w'.cell? ⟨w.heap.size, 0, none⟩ = some (.int .u64 nh) ∧ w'.cell? ⟨w.heap.size, 1, none⟩ = some (.int .u64 nl) ∧ w'.cell? ⟨w.heap.size + 1, 0, none⟩ = some (.int .u64 dh) ∧ w'.cell? ⟨w.heap.size + 1, 1, none⟩ = some (.int .u64 dl) ∧ Bx (w.heap.size + 1 + 1) w2 w')
        ((refine mkX D0 D1 n02 n12 ?_; repeat' first | (with_reducible assumption) | (with_reducible exact Bx.refl _ _) | (with_reducible refine Bx.drew ?_) | (with_reducible refine Bx.set ?_)))
        ((first | (go_at_call 70; (with_reducible refine (M1.out _).mono ?_); rintro e w' ⟨rfl, hb⟩; have hx := Bx.call (getX (by assumption)) hb; (first | (have D2 := Lib.hid (D2.out.below hb)) | (have D2 := Lib.hid ((OwnC.drew D2.out).below hb))); (first | (have hbc := bcall hbc hb) | (have hbc := bcall (Below.drew hbc) hb)); clear hb; obtain ⟨⟨r0, r1⟩, ⟨r2, r3⟩, r4⟩ := D2.out.two) | (go_at_call 70; (with_reducible refine (M2.out _).mono ?_); rintro e w' ⟨rfl, hb⟩; have hx := Bx.call (getX (by assumption)) hb; (first | (have D2 := Lib.hid (D2.out.below hb)) | (have D2 := Lib.hid ((OwnC.drew D2.out).below hb))); (first | (have hbc := bcall hbc hb) | (have hbc := bcall (Below.drew hbc) hb)); clear hb; obtain ⟨⟨r0, r1⟩, ⟨r2, r3⟩, r4⟩ := D2.out.two)))
      all_goals go_wp2_with fail
      refine bodyPost_ret (v := .tuple #[.agg #[.int .i64 n, .int .i64 d], .int .i64 0]) ?_ rfl ⟨rfl, ?_⟩
      · simp [results, Tryd.results44, go_sem, *]
      · repeat' first | (with_reducible assumption) | (with_reducible refine setB ?_ ?_) | omega
    · rw [show decide (-1000000000000000000 < d ∧ d < 1000000000000000000) = false by simpa using h2] at F2
      rw [if_neg (fun e => h2 e.2), if_neg (fun e => h2 e.2)]
      clear h1 h2 N1 N2 M1
      go_enter Tryd.func44, Tryd.ntmps44
      go_wp2_with fail
      (with_reducible refine (F1.out _).mono ?_)
      rintro e w1 ⟨rfl, hb⟩
      have B1 := Lib.hid (A1.out.below hb)
      have B2 := Lib.hid (A2.out.below hb)
      have hbb := bcall (bnew (bnew (bnew (Below.refl _ w) _) _) _) hb
      obtain ⟨⟨b0, b1⟩, ⟨b2, b3⟩, b4⟩ := B1.out.two
      clear hb A0 A1 A2 F1
      go_wp2_with fail
      (with_reducible refine (F2.out _).mono ?_)
      rintro e w2 ⟨rfl, hb⟩
      obtain ⟨⟨r0, r1⟩, ⟨r2, r3⟩, r4⟩ := (B2.out.below hb).two
      have hbc := bcall hbb hb
      clear hb B1 B2 F2 hbb b0 b1 b2 b3 b4
      go_wp2_with fail
      refine bodyPost_ret (v := .tuple #[.agg #[.int .i64 0, .int .i64 0], .int .i64 6]) ?_ rfl ⟨rfl, ?_⟩
      · simp [results, Tryd.results44, go_sem, *]
      · repeat' first | (with_reducible assumption) | (with_reducible refine setB ?_ ?_) | omega
  · rw [show decide (-1000000000000000000 < n ∧ n < 1000000000000000000) = false by simpa using h1] at F1
    rw [if_neg (fun e => h1 e.1), if_neg (fun e => h1 e.1)]
    clear h1 N1 N2 F2
    go_enter Tryd.func44, Tryd.ntmps44
    go_wp2_with fail
    (with_reducible refine (F1.out _).mono ?_)
    rintro e w1 ⟨rfl, hb⟩
    obtain ⟨⟨r0, r1⟩, ⟨r2, r3⟩, r4⟩ := (A2.out.below hb).two
    have hbb := bcall (bnew (bnew (bnew (Below.refl _ w) _) _) _) hb
    clear hb A0 A1 A2 F1
    go_wp2_with fail
    refine bodyPost_ret (v := .tuple #[.agg #[.int .i64 0, .int .i64 0], .int .i64 6]) ?_ rfl ⟨rfl, ?_⟩
    · simp [results, Tryd.results44, go_sem, *]
    · repeat' first | (with_reducible assumption) | (with_reducible refine setB ?_ ?_) | omega
theorem valid_any (f : F2) (h1 : In64 f.1) (h2 : In64 f.2) (w : World) : Calls Tryd.prog 14 #[.agg #[.int .i64 f.1, .int .i64 f.2]] w fun e w' => e = .returned (.bool (validF f)) ∧ Below w.heap.size w w' := by
  have CG : Hid (∀ w, Calls Tryd.prog 39 #[.int .i64 f.1, .int .i64 f.2] w fun e w' => e = .returned (.int .u64 (Nat.gcd f.1.natAbs f.2.natAbs : Int)) ∧ Below w.heap.size w w') := Lib.hid fun w => divisor_any _ _ h1 h2 w
  have HV := Lib.hid (validF_iff f)
  generalize validF f = v at *
  obtain ⟨g, hg⟩ : ∃ g : Nat, Nat.gcd f.1.natAbs f.2.natAbs = g := ⟨_, rfl⟩
  rw [hg] at CG HV
  obtain ⟨n, d⟩ := f
  dsimp only at *
  clear hg h1 h2
  go_enter Tryd.func14, Tryd.ntmps14
  go_wp2_with fail
  all_goals first
    | ((with_reducible refine (CG.out _).mono ?_); rintro e w1 ⟨rfl, hb⟩; go_wp2_with fail; go_ret; exact ⟨ret_bool (by rw [Bool.eq_iff_iff, HV.out]; simp only [beq_iff_eq]; omega), bcall (bnew (Below.refl _ _) _) hb⟩)
    | (go_ret; exact ⟨ret_bool (by rcases v with _ | _; · rfl
                                   · exfalso; have := HV.out.1 rfl; omega), bnew (Below.refl _ _) _⟩)
end Go.Proofs.YtinnlahmlepeeaaDoor
