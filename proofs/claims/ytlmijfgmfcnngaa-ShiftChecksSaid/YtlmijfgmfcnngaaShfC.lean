/- Calendars: Check of both sides. -/
import Derived.Test.YtlmijfgmfcnngaaShfB
namespace Go.Proofs.Ytlmijfgmfcnngaa
open Go.RowKit
theorem first_of (P : Int → Prop) (n : Int) (hn : 0 ≤ n) : ∃ k : Int, 0 ≤ k ∧ k ≤ n ∧ (∀ j, 0 ≤ j → j < k → P j) ∧ (k = n ∨ (k < n ∧ ¬ P k)) := by
  have key : ∀ m : Nat, (m : Int) ≤ n → (∃ k : Int, 0 ≤ k ∧ k ≤ n ∧ (∀ j, 0 ≤ j → j < k → P j) ∧ (k = n ∨ (k < n ∧ ¬ P k))) ∨ ∀ j : Int, 0 ≤ j → j < m → P j := by
    intro m
    induction m with
    | zero => intro _; right; intro j h1 h2; omega
    | succ m ih =>
      intro hm
      rcases ih (by omega) with h | h
      · exact .inl h
      · by_cases hp : P m
        · right
          intro j h1 h2
          by_cases e : j = m
          · rw [e]; exact hp
          · exact h j h1 (by omega)
        · left
          exact ⟨m, by omega, by omega, h, .inr ⟨by omega, hp⟩⟩
  rcases key n.toNat (by omega) with h | h
  · exact h
  · exact ⟨n, hn, Int.le_refl _, fun j h1 h2 => h j h1 (by omega), .inl rfl⟩
section
variable {S : C0} {y z : Lay} {W : World} {be k0 k1 k2 k3 k4 : Int}
def CVal (S : C0) (y z : Lay) : Value := .agg #[.slice y.p S.n1.toNat y.c, .slice z.p S.n2.toNat z.c]
def InR (S : C0) : Prop := (∀ j, 0 ≤ j → j < S.n1 → S.Rt j) ∧ (∀ j, 0 ≤ j → j < S.n2 → S.Rd j)
def InO (S : C0) : Prop := (∀ j, 0 ≤ j → j + 1 < S.n1 → S.Os j) ∧ (∀ j, 0 ≤ j → j + 1 < S.n2 → S.Od j)
def FL : T SV := .ret (.one (.bool (.lit false)))
def TR : T SV := .ret (.one (.bool (.lit true)))
def CD (v : Int) : T SV := .ret (.one (i8 (.lit v)))
theorem base0 (hL : Lies S y z W) : Fam (Bs Try.prog W [] [L0, L1]) [] (ES S y z be k0 k1 k2 k3 k4) := ⟨.nil, esl hL⟩
theorem ir_w0 : treeL Try.prog [] [L0, L1] [A1 (kIn 10 1 ++ w0 (.at 10))] pn 300 20 37 [CV] = FL := by kernel_rfl
theorem rc_w0 : treeL Try.prog [] [L0, L1] [B1 (kIn 10 1 ++ w0 (.at 10))] pn 300 20 16 [CV] = CD 6 := by kernel_rfl
theorem ir_w1 : treeL Try.prog [] [L0, L1] [A1 (kIn 10 1 ++ w1 (.at 10))] pn 300 20 37 [CV] = FL := by kernel_rfl
theorem rc_w1 : treeL Try.prog [] [L0, L1] [B1 (kIn 10 1 ++ w1 (.at 10))] pn 300 20 16 [CV] = CD 6 := by kernel_rfl
theorem ir_w2 : treeL Try.prog [] [L0, L1] [A1 (kIn 10 1 ++ w2 (.at 10))] pn 300 20 37 [CV] = FL := by kernel_rfl
theorem rc_w2 : treeL Try.prog [] [L0, L1] [B1 (kIn 10 1 ++ w2 (.at 10))] pn 300 20 16 [CV] = CD 6 := by kernel_rfl
theorem ir_w3 : treeL Try.prog [] [L0, L1] [A1 (kIn 10 1 ++ w3 (.at 10))] pn 300 20 37 [CV] = FL := by kernel_rfl
theorem rc_w3 : treeL Try.prog [] [L0, L1] [B1 (kIn 10 1 ++ w3 (.at 10))] pn 300 20 16 [CV] = CD 6 := by kernel_rfl
theorem ir_w4 : treeL Try.prog [] [L0, L1] [A1 (kIn 10 1 ++ w4 (.at 10))] pn 300 20 37 [CV] = FL := by kernel_rfl
theorem rc_w4 : treeL Try.prog [] [L0, L1] [B1 (kIn 10 1 ++ w4 (.at 10))] pn 300 20 16 [CV] = CD 6 := by kernel_rfl
theorem ir_d0 : treeL Try.prog [] [L0, L1] [A1 (kOut 10 1), A2 (kIn 11 2 ++ d0 (.at 11))] pn 300 20 37 [CV] = .ret (.one (.bool (.not (.le (.lit 0) (.at 11))))) := by kernel_rfl
theorem rc_d0 : treeL Try.prog [] [L0, L1] [B1 (kOut 10 1), B2 (kIn 11 2 ++ d0 (.at 11))] pn 300 20 16 [CV] = CD 6 := by kernel_rfl
theorem ir_d1 : treeL Try.prog [] [L0, L1] [A1 (kOut 10 1), A2 (kIn 11 2 ++ d1 (.at 11))] pn 300 20 37 [CV] = .ret (.one (.bool (.not (.le (.lit 0) (.at 11))))) := by kernel_rfl
theorem rc_d1 : treeL Try.prog [] [L0, L1] [B1 (kOut 10 1), B2 (kIn 11 2 ++ d1 (.at 11))] pn 300 20 16 [CV] = CD 6 := by kernel_rfl
theorem ir_yes : treeL Try.prog [] [L0, L1] [A1 (kOut 10 1), A2 (kOut 11 2)] pn 300 20 37 [CV] = TR := by kernel_rfl
theorem io_x : treeL Try.prog [] [L0, L1] [A3 (kInC 12 1 ++ oX (.at 12))] pn 300 20 38 [CV] = FL := by kernel_rfl
theorem io_y : treeL Try.prog [] [L0, L1] [A3 (kInC 12 1 ++ oY (.at 12))] pn 300 20 38 [CV] = FL := by kernel_rfl
theorem io_d : treeL Try.prog [] [L0, L1] [A3 (kOutC 12 1), A4 (kInC 13 2 ++ dX (.at 13))] pn 300 20 38 [CV] = FL := by kernel_rfl
theorem io_yes : treeL Try.prog [] [L0, L1] [A3 (kOutC 12 1), A4 (kOutC 13 2)] pn 300 20 38 [CV] = TR := by kernel_rfl
theorem rc_x : treeL Try.prog [] [L0, L1] [B1 (kOut 10 1), B2 (kOut 11 2), B3 (kInC 12 1 ++ oX (.at 12))] pn 300 20 16 [CV] = CD 5 := by kernel_rfl
theorem rc_y : treeL Try.prog [] [L0, L1] [B1 (kOut 10 1), B2 (kOut 11 2), B3 (kInC 12 1 ++ oY (.at 12))] pn 300 20 16 [CV] = CD 5 := by kernel_rfl
theorem rc_e : treeL Try.prog [] [L0, L1] [B1 (kOut 10 1), B2 (kOut 11 2), B3 (kOutC 12 1), B4 (kInC 13 2 ++ dX (.at 13))] pn 300 20 16 [CV] = CD 5 := by kernel_rfl
theorem rc_yes : treeL Try.prog [] [L0, L1] [B1 (kOut 10 1), B2 (kOut 11 2), B3 (kOutC 12 1), B4 (kOutC 13 2)] pn 300 20 16 [CV] = CD 0 := by kernel_rfl
def many1 : PC := [(.lt (.lit 64) (.at 1), true)]
def many2 : PC := [(.lt (.lit 64) (.at 1), false), (.lt (.lit 64) (.at 2), true)]
def cR (b : Bool) : Con := [(37, [CV], .one (.bool (.lit b)))]
def cRO (b : Bool) : Con := (38, [CV], .one (.bool (.lit b))) :: cR true
theorem ck_m1 : treeL Try.prog [] [L0, L1] [] many1 300 20 17 [CV] = CD 7 := by kernel_rfl
theorem ck_m2 : treeL Try.prog [] [L0, L1] [] many2 300 20 17 [CV] = CD 7 := by kernel_rfl
theorem rc_m1 : treeL Try.prog [] [L0, L1] [] many1 300 20 16 [CV] = CD 7 := by kernel_rfl
theorem rc_m2 : treeL Try.prog [] [L0, L1] [] many2 300 20 16 [CV] = CD 7 := by kernel_rfl
theorem ck_r : treeL Try.prog (cR false) [L0, L1] [] pn 300 20 17 [CV] = CD 6 := by kernel_rfl
theorem ck_o : treeL Try.prog (cRO false) [L0, L1] [] pn 300 20 17 [CV] = CD 5 := by kernel_rfl
theorem ck_yes : treeL Try.prog (cRO true) [L0, L1] [] pn 300 20 17 [CV] = CD 0 := by kernel_rfl
theorem mk1 (h : 64 < S.n1) : many1.Ok (ES S y z be k0 k1 k2 k3 k4) := .cons' h .nil
theorem mk2 (h : S.n1 ≤ 64) (h' : 64 < S.n2) : many2.Ok (ES S y z be k0 k1 k2 k3 k4) := .cons' h (.cons' h' .nil)
def CallsI (f : FuncId) (v : Value) (S : C0) (y z : Lay) (W : World) : Prop := Calls Try.prog f #[CVal S y z] W fun e w' => e = .returned v ∧ Below W.heap.size W w'
theorem run {con : Con} {lps : List LAnn} {pc : PC} {f : FuncId} {t : T SV} {u : Value} (hF : Fam (Bs Try.prog W con [L0, L1]) lps (ES S y z be k0 k1 k2 k3 k4)) (hpc : pc.Ok (ES S y z be k0 k1 k2 k3 k4)) (ht : treeL Try.prog con [L0, L1] lps pc 300 20 f [CV] = t) (hcb : callable Try.prog f = true)
    (hg : t.All (ES S y z be k0 k1 k2 k3 k4) (· = u)) : CallsI f u S y z W := by
  have h := tree_funL hF hpc wide ht hcb rfl hg
  exact h
/-- What is wrong with a shift. -/
theorem wr_cases (h : ¬ S.Rt k0) : (w0 (.at 10)).Ok (ES S y z be k0 k1 k2 k3 k4) ∨ (w1 (.at 10)).Ok (ES S y z be k0 k1 k2 k3 k4) ∨ (w2 (.at 10)).Ok (ES S y z be k0 k1 k2 k3 k4) ∨ (w3 (.at 10)).Ok (ES S y z be k0 k1 k2 k3 k4) ∨ (w4 (.at 10)).Ok (ES S y z be k0 k1 k2 k3 k4) := by
  by_cases c0 : S.wd k0 < 1
  · exact .inl (.cons' c0 .nil)
  have c0 := Int.not_lt.1 c0
  by_cases c1 : 7 < S.wd k0
  · exact .inr (.inl (.cons' c0 (.cons' c1 .nil)))
  have c1 := Int.not_lt.1 c1
  by_cases c2 : S.fr k0 < 0
  · exact .inr (.inr (.inl (.cons' c0 (.cons' c1 (.cons' c2 .nil)))))
  have c2 := Int.not_lt.1 c2
  by_cases c3 : S.to k0 ≤ S.fr k0
  · exact .inr (.inr (.inr (.inl (.cons' c0 (.cons' c1 (.cons' c2 (.cons' c3 .nil)))))))
  have c3 := Int.not_le.1 c3
  by_cases c4 : 1440 < S.to k0
  · exact .inr (.inr (.inr (.inr (.cons' c0 (.cons' c1 (.cons' c2 (.cons' c3 (.cons' c4 .nil))))))))
  · exact absurd ⟨c0, c1, c2, c3, Int.not_lt.1 c4⟩ h
theorem wd_cases (h : ¬ S.Rd k1) : (d0 (.at 11)).Ok (ES S y z be k0 k1 k2 k3 k4) ∨ (d1 (.at 11)).Ok (ES S y z be k0 k1 k2 k3 k4) := by
  by_cases c0 : S.fd k1 < 0
  · exact .inl (.cons' c0 .nil)
  have c0 := Int.not_lt.1 c0
  exact .inr (.cons' c0 (.cons' (Int.not_lt.1 fun c => h ⟨c0, c⟩) .nil))
theorem kO1 (h : S.n1 ≤ k0) : (kOut 10 1).Ok (ES S y z be k0 k1 k2 k3 k4) := .cons' h .nil
theorem kO2 (h : S.n2 ≤ k1) : (kOut 11 2).Ok (ES S y z be k0 k1 k2 k3 k4) := .cons' h .nil
theorem kO3 (h0 : 0 ≤ k2) (h1 : k2 ≤ 64) (h : S.n1 ≤ k2 + 1) : (kOutC 12 1).Ok (ES S y z be k0 k1 k2 k3 k4) := .cons' h (.cons' h0 (.cons' h1 .nil))
theorem kO4 (h0 : 0 ≤ k3) (h1 : k3 ≤ 64) (h : S.n2 ≤ k3 + 1) : (kOutC 13 2).Ok (ES S y z be k0 k1 k2 k3 k4) := .cons' h (.cons' h0 (.cons' h1 .nil))
theorem ir_no (hL : Lies S y z W) (h : Few S) (hn : ¬ InR S) : CallsI 37 (.bool false) S y z W := by
  obtain ⟨k, k0, k1, k2, k3⟩ := first_of S.Rt S.n1 h.a
  rcases k3 with rfl | ⟨k3, k4⟩
  · obtain ⟨i, i0, i1, i2, i3⟩ := first_of S.Rd S.n2 h.c
    rcases i3 with rfl | ⟨i3, i4⟩
    · exact absurd ⟨k2, i2⟩ hn
    · have f2 : ∀ {ex : PC}, (∀ a : Int, ex.Ok (ES S y z 0 a i 0 0 0)) → ∀ a, Fam (Bs Try.prog W [] [L0, L1]) [A2 (kIn 11 2 ++ ex)] (ES S y z 0 a i 0 0 0) := fun hex a => fam2 h (fun _ => base0 hL) i0 i1 i2 ((kIn2 h i0 i3).app (hex a))
      have fin : (T.ret (.one (.bool (.not (.le (.lit 0) (.at 11)))))).All (ES S y z 0 S.n1 i 0 0 0) (· = .bool false) := All.ret (by show Value.bool (!decide (0 ≤ i)) = _; simp [i0])
      by_cases c0 : S.fd i < 0
      · have q : ∀ a, (d0 (.at 11)).Ok (ES S y z 0 a i 0 0 0) := fun _ => .cons' c0 .nil
        exact run (fam1 h (f2 q) h.a (Int.le_refl _) k2 (kO1 (Int.le_refl _))) (pn_ok h) ir_d0 (by kernel_rfl) fin
      · have c0 := Int.not_lt.1 c0
        have q : ∀ a, (d1 (.at 11)).Ok (ES S y z 0 a i 0 0 0) := fun _ => .cons' c0 (.cons' (Int.not_lt.1 fun c => i4 ⟨c0, c⟩) .nil)
        exact run (fam1 h (f2 q) h.a (Int.le_refl _) k2 (kO1 (Int.le_refl _))) (pn_ok h) ir_d1 (by kernel_rfl) fin
  · have fm : ∀ {ex : PC}, ex.Ok (ES S y z 0 k 0 0 0 0) → Fam (Bs Try.prog W [] [L0, L1]) [A1 (kIn 10 1 ++ ex)] (ES S y z 0 k 0 0 0 0) := fun hex => fam1 h (fun _ => base0 hL) k0 k1 k2 ((kIn1 h k0 k3).app hex)
    rcases wr_cases (y := y) (z := z) (be := 0) (k1 := 0) (k2 := 0) (k3 := 0) (k4 := 0) k4 with g | g | g | g | g
    · exact run (fm g) (pn_ok h) ir_w0 (by kernel_rfl) (All.ret rfl)
    · exact run (fm g) (pn_ok h) ir_w1 (by kernel_rfl) (All.ret rfl)
    · exact run (fm g) (pn_ok h) ir_w2 (by kernel_rfl) (All.ret rfl)
    · exact run (fm g) (pn_ok h) ir_w3 (by kernel_rfl) (All.ret rfl)
    · exact run (fm g) (pn_ok h) ir_w4 (by kernel_rfl) (All.ret rfl)

theorem rc_no (hL : Lies S y z W) (h : Few S) (hn : ¬ InR S) : CallsI 16 (.int .i64 6) S y z W := by
  obtain ⟨k, k0, k1, k2, k3⟩ := first_of S.Rt S.n1 h.a
  rcases k3 with rfl | ⟨k3, k4⟩
  · obtain ⟨i, i0, i1, i2, i3⟩ := first_of S.Rd S.n2 h.c
    rcases i3 with rfl | ⟨i3, i4⟩
    · exact absurd ⟨k2, i2⟩ hn
    · have f2 : ∀ {ex : PC}, (∀ a : Int, ex.Ok (ES S y z 0 a i 0 0 0)) → ∀ a, Fam (Bs Try.prog W [] [L0, L1]) [B2 (kIn 11 2 ++ ex)] (ES S y z 0 a i 0 0 0) := fun hex a => fam2 h (fun _ => base0 hL) i0 i1 i2 ((kIn2 h i0 i3).app (hex a))
      have fin : (CD 6).All (ES S y z 0 S.n1 i 0 0 0) (· = .int .i64 6) := All.ret rfl
      by_cases c0 : S.fd i < 0
      · have q : ∀ a, (d0 (.at 11)).Ok (ES S y z 0 a i 0 0 0) := fun _ => .cons' c0 .nil
        exact run (fam1 h (f2 q) h.a (Int.le_refl _) k2 (kO1 (Int.le_refl _))) (pn_ok h) rc_d0 (by kernel_rfl) fin
      · have c0 := Int.not_lt.1 c0
        have q : ∀ a, (d1 (.at 11)).Ok (ES S y z 0 a i 0 0 0) := fun _ => .cons' c0 (.cons' (Int.not_lt.1 fun c => i4 ⟨c0, c⟩) .nil)
        exact run (fam1 h (f2 q) h.a (Int.le_refl _) k2 (kO1 (Int.le_refl _))) (pn_ok h) rc_d1 (by kernel_rfl) fin
  · have fm : ∀ {ex : PC}, ex.Ok (ES S y z 0 k 0 0 0 0) → Fam (Bs Try.prog W [] [L0, L1]) [B1 (kIn 10 1 ++ ex)] (ES S y z 0 k 0 0 0 0) := fun hex => fam1 h (fun _ => base0 hL) k0 k1 k2 ((kIn1 h k0 k3).app hex)
    rcases wr_cases (y := y) (z := z) (be := 0) (k1 := 0) (k2 := 0) (k3 := 0) (k4 := 0) k4 with g | g | g | g | g
    · exact run (fm g) (pn_ok h) rc_w0 (by kernel_rfl) (All.ret rfl)
    · exact run (fm g) (pn_ok h) rc_w1 (by kernel_rfl) (All.ret rfl)
    · exact run (fm g) (pn_ok h) rc_w2 (by kernel_rfl) (All.ret rfl)
    · exact run (fm g) (pn_ok h) rc_w3 (by kernel_rfl) (All.ret rfl)
    · exact run (fm g) (pn_ok h) rc_w4 (by kernel_rfl) (All.ret rfl)

theorem ir_ok (hL : Lies S y z W) (h : Few S) (hn : InR S) : CallsI 37 (.bool true) S y z W :=
  run (be := 0) (k2 := 0) (k3 := 0) (k4 := 0) (fam1 h (fun _ => fam2 h (fun _ => base0 hL) h.c (Int.le_refl _) hn.2 (kO2 (Int.le_refl _))) h.a (Int.le_refl _) hn.1 (kO1 (Int.le_refl _))) (pn_ok h) ir_yes (by kernel_rfl) (All.ret rfl)
theorem top (n : Int) (h : 0 ≤ n) (h' : n ≤ 64) : ∃ N : Int, 0 ≤ N ∧ N ≤ 64 ∧ n ≤ N + 1 ∧ (N = 0 ∨ N + 1 ≤ n) := by
  by_cases c : n = 0
  · exact ⟨0, by omega, by omega, by omega, .inl rfl⟩
  · exact ⟨n - 1, by omega, by omega, by omega, .inr (by omega)⟩

theorem oXY_all (h : ¬ S.Os k2) : (∀ a b c d : Int, (oX (.at 12)).Ok (ES S y z be a b k2 c d)) ∨ (∀ a b c d : Int, (oY (.at 12)).Ok (ES S y z be a b k2 c d)) := by
  unfold C0.Os at h
  by_cases c : S.wd (k2 + 1) < S.wd k2
  · exact .inl (fun a b c' d => .cons' (by show S.wd (k2 + 1) < S.wd (k2 + 1 - 1); rw [pvE]; omega) .nil)
  · exact .inr (fun a b c' d => .cons' (by show S.wd (k2 + 1 - 1) ≤ S.wd (k2 + 1); rw [pvE]; omega) (.cons' (by show S.wd (k2 + 1 - 1) = S.wd (k2 + 1); rw [pvE]; omega) (.cons' (by show S.fr (k2 + 1) < S.to (k2 + 1 - 1); rw [pvE]; omega) .nil)))
theorem io_not (hL : Lies S y z W) (h : Few S) (hn : ¬ InO S) : CallsI 38 (.bool false) S y z W := by
  obtain ⟨N, n0, n1, n2, n3⟩ := top S.n1 h.a h.b
  obtain ⟨M, m0, m1, m2, m3⟩ := top S.n2 h.c h.d
  obtain ⟨k, k0, k1, k2, k3⟩ := first_of S.Os N n0
  rcases k3 with rfl | ⟨k3, k4⟩
  · obtain ⟨i, i0, i1, i2, i3⟩ := first_of S.Od M m0
    rcases i3 with rfl | ⟨i3, i4⟩
    · exact absurd ⟨fun j a b => k2 j a (by omega), fun j a b => i2 j a (by omega)⟩ hn
    · exact run (be := 0) (k0 := 0) (k1 := 0) (k2 := k) (k3 := i) (k4 := 0) (fam3 h (fun _ => fam4 h (fun _ => base0 hL) i0 (by omega) i2 ((kIn4 h i0 (by omega)).app (dX_ok i4))) k0 n3 k2 (kO3 k0 n1 n2)) (pn_ok h) io_d (by kernel_rfl) (All.ret rfl)
  · rcases oXY_all (y := y) (z := z) (be := 0) k4 with g | g
    · exact run (be := 0) (k0 := 0) (k1 := 0) (k2 := k) (k3 := 0) (k4 := 0) (fam3 h (fun _ => base0 hL) k0 (by omega) k2 ((kIn3 h k0 (by omega)).app (g _ _ _ _))) (pn_ok h) io_x (by kernel_rfl) (All.ret rfl)
    · exact run (be := 0) (k0 := 0) (k1 := 0) (k2 := k) (k3 := 0) (k4 := 0) (fam3 h (fun _ => base0 hL) k0 (by omega) k2 ((kIn3 h k0 (by omega)).app (g _ _ _ _))) (pn_ok h) io_y (by kernel_rfl) (All.ret rfl)
theorem io_ok (hL : Lies S y z W) (h : Few S) (hn : InO S) : CallsI 38 (.bool true) S y z W := by
  obtain ⟨N, n0, n1, n2, n3⟩ := top S.n1 h.a h.b
  obtain ⟨M, m0, m1, m2, m3⟩ := top S.n2 h.c h.d
  exact run (be := 0) (k0 := 0) (k1 := 0) (k2 := N) (k3 := M) (k4 := 0) (fam3 h (fun _ => fam4 h (fun _ => base0 hL) m0 m3 (fun j a b => hn.2 j a (by omega)) (kO4 m0 m1 m2)) n0 n3 (fun j a b => hn.1 j a (by omega)) (kO3 n0 n1 n2)) (pn_ok h) io_yes (by kernel_rfl) (All.ret rfl)

theorem rc_bad (hL : Lies S y z W) (h : Few S) (hr : InR S) (hn : ¬ InO S) : CallsI 16 (.int .i64 5) S y z W := by
  obtain ⟨N, n0, n1, n2, n3⟩ := top S.n1 h.a h.b
  obtain ⟨M, m0, m1, m2, m3⟩ := top S.n2 h.c h.d
  obtain ⟨k, k0, k1, k2, k3⟩ := first_of S.Os N n0
  rcases k3 with rfl | ⟨k3, k4⟩
  · obtain ⟨i, i0, i1, i2, i3⟩ := first_of S.Od M m0
    rcases i3 with rfl | ⟨i3, i4⟩
    · exact absurd ⟨fun j a b => k2 j a (by omega), fun j a b => i2 j a (by omega)⟩ hn
    · exact run (be := 0) (k0 := S.n1) (k1 := S.n2) (k2 := k) (k3 := i) (k4 := 0) (fam1 h (fun _ => fam2 h (fun _ => fam3 h (fun _ => fam4 h (fun _ => base0 hL) i0 (by omega) i2 ((kIn4 h i0 (by omega)).app (dX_ok i4))) k0 n3 k2 (kO3 k0 n1 n2)) h.c (Int.le_refl _) hr.2 (kO2 (Int.le_refl _))) h.a (Int.le_refl _) hr.1 (kO1 (Int.le_refl _))) (pn_ok h) rc_e (by kernel_rfl) (All.ret rfl)
  · rcases oXY_all (y := y) (z := z) (be := 0) k4 with g | g
    · exact run (be := 0) (k0 := S.n1) (k1 := S.n2) (k2 := k) (k3 := 0) (k4 := 0) (fam1 h (fun a => fam2 h (fun b => fam3 h (fun _ => base0 hL) k0 (by omega) k2 ((kIn3 h k0 (by omega)).app (g _ _ _ _))) h.c (Int.le_refl _) hr.2 (kO2 (Int.le_refl _))) h.a (Int.le_refl _) hr.1 (kO1 (Int.le_refl _))) (pn_ok h) rc_x (by kernel_rfl) (All.ret rfl)
    · exact run (be := 0) (k0 := S.n1) (k1 := S.n2) (k2 := k) (k3 := 0) (k4 := 0) (fam1 h (fun a => fam2 h (fun b => fam3 h (fun _ => base0 hL) k0 (by omega) k2 ((kIn3 h k0 (by omega)).app (g _ _ _ _))) h.c (Int.le_refl _) hr.2 (kO2 (Int.le_refl _))) h.a (Int.le_refl _) hr.1 (kO1 (Int.le_refl _))) (pn_ok h) rc_y (by kernel_rfl) (All.ret rfl)
theorem rc_fine (hL : Lies S y z W) (h : Few S) (hr : InR S) (hn : InO S) : CallsI 16 (.int .i64 0) S y z W := by
  obtain ⟨N, n0, n1, n2, n3⟩ := top S.n1 h.a h.b
  obtain ⟨M, m0, m1, m2, m3⟩ := top S.n2 h.c h.d
  exact run (be := 0) (k0 := S.n1) (k1 := S.n2) (k2 := N) (k3 := M) (k4 := 0) (fam1 h (fun _ => fam2 h (fun _ => fam3 h (fun _ => fam4 h (fun _ => base0 hL) m0 m3 (fun j a b => hn.2 j a (by omega)) (kO4 m0 m1 m2)) n0 n3 (fun j a b => hn.1 j a (by omega)) (kO3 n0 n1 n2)) h.c (Int.le_refl _) hr.2 (kO2 (Int.le_refl _))) h.a (Int.le_refl _) hr.1 (kO1 (Int.le_refl _))) (pn_ok h) rc_yes (by kernel_rfl) (All.ret rfl)

/-- The code of a calendar. -/
def Ck (S : C0) (v : Int) : Prop := ((64 < S.n1 ∨ 64 < S.n2) ∧ v = 7) ∨ (Few S ∧ ¬ InR S ∧ v = 6) ∨ (Few S ∧ InR S ∧ ¬ InO S ∧ v = 5) ∨ (Few S ∧ InR S ∧ InO S ∧ v = 0)
theorem ck_ex (h1 : 0 ≤ S.n1) (h2 : 0 ≤ S.n2) : ∃ v, Ck S v := by
  by_cases c : 64 < S.n1 ∨ 64 < S.n2
  · exact ⟨_, .inl ⟨c, rfl⟩⟩
  have f : Few S := ⟨h1, by omega, h2, by omega⟩
  by_cases r : InR S
  · by_cases q : InO S
    · exact ⟨_, .inr (.inr (.inr ⟨f, r, q, rfl⟩))⟩
    · exact ⟨_, .inr (.inr (.inl ⟨f, r, q, rfl⟩))⟩
  · exact ⟨_, .inr (.inl ⟨f, r, rfl⟩)⟩
theorem cR_ok {b : Bool} (h : ∀ w, Below W.heap.size W w → CallsI 37 (.bool b) S y z w) : ConOkW Try.prog (ES S y z be k0 k1 k2 k3 k4) W (cR b) := .cons (fun _ w hb => h w hb) .nil
theorem cRO_ok {b : Bool} (h : ∀ w, Below W.heap.size W w → CallsI 37 (.bool true) S y z w) (h' : ∀ w, Below W.heap.size W w → CallsI 38 (.bool b) S y z w) : ConOkW Try.prog (ES S y z be k0 k1 k2 k3 k4) W (cRO b) := .cons (fun _ w hb => h' w hb) (cR_ok h)
theorem check_any {v : Int} (hL : Lies S y z W) (h : Ck S v) : CallsI 17 (.int .i64 v) S y z W := by
  rcases h with ⟨c, rfl⟩ | ⟨f, r, rfl⟩ | ⟨f, r, q, rfl⟩ | ⟨f, r, q, rfl⟩
  · by_cases c1 : 64 < S.n1
    · exact run (be := 0) (k0 := 0) (k1 := 0) (k2 := 0) (k3 := 0) (k4 := 0) (base0 hL) (mk1 c1) ck_m1 (by kernel_rfl) (All.ret rfl)
    · exact run (be := 0) (k0 := 0) (k1 := 0) (k2 := 0) (k3 := 0) (k4 := 0) (base0 hL) (mk2 (Int.not_lt.1 c1) (by omega)) ck_m2 (by kernel_rfl) (All.ret rfl)
  · exact run (be := 0) (k0 := 0) (k1 := 0) (k2 := 0) (k3 := 0) (k4 := 0) (lps := []) ⟨cR_ok fun w hb => ir_no (hL.mono hb) f r, esl hL⟩ (pn_ok f) ck_r (by kernel_rfl) (All.ret rfl)
  · exact run (be := 0) (k0 := 0) (k1 := 0) (k2 := 0) (k3 := 0) (k4 := 0) (lps := []) ⟨cRO_ok (fun w hb => ir_ok (hL.mono hb) f r) (fun w hb => io_not (hL.mono hb) f q), esl hL⟩ (pn_ok f) ck_o (by kernel_rfl) (All.ret rfl)
  · exact run (be := 0) (k0 := 0) (k1 := 0) (k2 := 0) (k3 := 0) (k4 := 0) (lps := []) ⟨cRO_ok (fun w hb => ir_ok (hL.mono hb) f r) (fun w hb => io_ok (hL.mono hb) f q), esl hL⟩ (pn_ok f) ck_yes (by kernel_rfl) (All.ret rfl)
theorem rcheck_any {v : Int} (hL : Lies S y z W) (h : Ck S v) : CallsI 16 (.int .i64 v) S y z W := by
  rcases h with ⟨c, rfl⟩ | ⟨f, r, rfl⟩ | ⟨f, r, q, rfl⟩ | ⟨f, r, q, rfl⟩
  · by_cases c1 : 64 < S.n1
    · exact run (be := 0) (k0 := 0) (k1 := 0) (k2 := 0) (k3 := 0) (k4 := 0) (base0 hL) (mk1 c1) rc_m1 (by kernel_rfl) (All.ret rfl)
    · exact run (be := 0) (k0 := 0) (k1 := 0) (k2 := 0) (k3 := 0) (k4 := 0) (base0 hL) (mk2 (Int.not_lt.1 c1) (by omega)) rc_m2 (by kernel_rfl) (All.ret rfl)
  · exact rc_no hL f r
  · exact rc_bad hL f r q
  · exact rc_fine hL f r q
end
end Go.Proofs.Ytlmijfgmfcnngaa
