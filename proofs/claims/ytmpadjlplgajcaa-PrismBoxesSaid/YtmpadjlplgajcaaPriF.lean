/- Over the base and a box: Overlaps, Covers, Separator, Hull of valid ones: what they hand back. -/
import Derived.Test.YtmpadjlplgajcaaPriE
namespace Go.Proofs.Ytmpadjlplgajcaa
open Go.RowKit
section
variable {S : S0} {y : Lay} {W : World}
def AR : List SV := [prismV, .agg (iv 2 6)]
def yes : S1 := ⟨false, [.bool (.lit true)]⟩
def no : S1 := ⟨false, [.bool (.lit false)]⟩
def e0 : S1 := ⟨false, [i8 (.lit 0)]⟩
def z1 : PC := pcA ++ [(.lt (.at 0) (.at 7), false)]
def z2 : PC := pcA ++ [(.lt (.at 0) (.at 7), true), (.lt (.at 4) (.at 1), false)]
def zA : PC := pcA ++ zOk
theorem ov_z1 : treeL Try.prog conA [L0] [] z1 300 20 17 AR = .ret (.tup [no, e0]) := by kernel_rfl
theorem ov_z2 : treeL Try.prog conA [L0] [] z2 300 20 17 AR = .ret (.tup [no, e0]) := by kernel_rfl
theorem ov_1 : treeL Try.prog conA [L0] [A6 (kr 14 ++ none4)] zA 300 20 17 AR = .ret (.tup [no, e0]) := by kernel_rfl
theorem ov_20 : treeL Try.prog conA [L0] [A6 (kOut 14), A7 0 27 (kOut 15)] zA 300 20 17 AR = .ret (.tup [no, e0]) := by kernel_rfl
theorem ov_21 : treeL Try.prog conA [L0] [A6 (kOut 14), A7 0 27 (fnd 0), A7 1 34 (kOut 16)] zA 300 20 17 AR = .ret (.tup [no, e0]) := by kernel_rfl
theorem ov_22 : treeL Try.prog conA [L0] [A6 (kOut 14), A7 0 27 (fnd 0), A7 1 34 (fnd 1), A7 2 41 (kOut 17)] zA 300 20 17 AR = .ret (.tup [no, e0]) := by kernel_rfl
theorem ov_23 : treeL Try.prog conA [L0] [A6 (kOut 14), A7 0 27 (fnd 0), A7 1 34 (fnd 1), A7 2 41 (fnd 2), A7 3 48 (kOut 18)] zA 300 20 17 AR = .ret (.tup [no, e0]) := by kernel_rfl
theorem ov_3 : treeL Try.prog conA [L0] [A6 (kOut 14), A7 0 27 (fnd 0), A7 1 34 (fnd 1), A7 2 41 (fnd 2), A7 3 48 (fnd 3)] zA 300 20 17 AR = .ret (.tup [yes, e0]) := by kernel_rfl
def cz : PC := pcA ++ [(.lt (.at 4) (.at 0), false), (.lt (.at 1) (.at 7), false)]
def cz1 : PC := pcA ++ [(.lt (.at 4) (.at 0), true)]
def cz2 : PC := pcA ++ [(.lt (.at 4) (.at 0), false), (.lt (.at 1) (.at 7), true)]
theorem co_z1 : treeL Try.prog conA [L0] [] cz1 300 20 18 AR = .ret (.tup [no, e0]) := by kernel_rfl
theorem co_z2 : treeL Try.prog conA [L0] [] cz2 300 20 18 AR = .ret (.tup [no, e0]) := by kernel_rfl
theorem co_yes : treeL Try.prog conA [L0] [A9 (kOut 19)] cz 300 20 18 AR = .ret (.tup [yes, e0]) := by kernel_rfl
theorem co_0 : treeL Try.prog conA [L0] [A9 (kr 19 ++ gl 0 true)] cz 300 20 18 AR = .ret (.tup [no, e0]) := by kernel_rfl
theorem co_1 : treeL Try.prog conA [L0] [A9 (kr 19 ++ (gl 0 false ++ gl 1 true))] cz 300 20 18 AR = .ret (.tup [no, e0]) := by kernel_rfl
theorem co_2 : treeL Try.prog conA [L0] [A9 (kr 19 ++ (gl 0 false ++ gl 1 false ++ gl 2 true))] cz 300 20 18 AR = .ret (.tup [no, e0]) := by kernel_rfl
theorem co_3 : treeL Try.prog conA [L0] [A9 (kr 19 ++ (gl 0 false ++ gl 1 false ++ gl 2 false ++ gl 3 true))] cz 300 20 18 AR = .ret (.tup [no, e0]) := by kernel_rfl
theorem se_1 : treeL Try.prog conA [L0] [A8 (kr 14 ++ none4)] pcA 300 20 19 AR = .ret (.tup [⟨false, [i8 (.at 14)]⟩, e0]) := by kernel_rfl
theorem se_2 : treeL Try.prog conA [L0] [A8 (kOut 14)] pcA 300 20 19 AR = .br (.le (.at 22) (.at 2)) (.ret (.tup [⟨false, [i8 (.lit 1000)]⟩, e0])) (.br (.le (.at 5) (.at 20)) (.ret (.tup [⟨false, [i8 (.lit 1001)]⟩, e0])) (.br (.le (.at 23) (.at 3)) (.ret (.tup [⟨false, [i8 (.lit 1002)]⟩, e0])) (.br (.le (.at 6) (.at 21)) (.ret (.tup [⟨false, [i8 (.lit 1003)]⟩, e0])) (.ret (.tup [⟨false, [i8 (.lit (-1))]⟩, e0]))))) := by kernel_rfl
theorem hu_1 : treeL Try.prog conA [L0] [] pcA 300 20 12 [prismV] = .ret (.tup [⟨true, [i8 (.at 20), i8 (.at 21), i8 (.at 0), i8 (.at 22), i8 (.at 23), i8 (.at 1)]⟩, e0]) := by kernel_rfl
def NO : Value := .tuple #[.bool false, .int .i64 0]
def YES : Value := .tuple #[.bool true, .int .i64 0]
theorem baseF (V : Val S y W) {be k0 k1 k2 k3 k4 k5 k6 k7 k8 k9 : Int} : Fam (Bs Try.prog W conA [L0]) [] (EB S y be k0 k1 k2 k3 k4 k5 k6 k7 k8 k9) := baseA V
theorem kO14 {be k0 k1 k2 k3 k5 k6 k7 k8 k9 : Int} : (kOut 14).Ok (EB S y be k0 k1 k2 k3 S.n k5 k6 k7 k8 k9) := kOut_ok (i := 14) (Int.le_refl _)
theorem kO15 {be k0 k1 k2 k3 k4 k6 k7 k8 k9 : Int} : (kOut 15).Ok (EB S y be k0 k1 k2 k3 k4 S.n k6 k7 k8 k9) := kOut_ok (i := 15) (Int.le_refl _)
theorem kO16 {be k0 k1 k2 k3 k4 k5 k7 k8 k9 : Int} : (kOut 16).Ok (EB S y be k0 k1 k2 k3 k4 k5 S.n k7 k8 k9) := kOut_ok (i := 16) (Int.le_refl _)
theorem kO17 {be k0 k1 k2 k3 k4 k5 k6 k8 k9 : Int} : (kOut 17).Ok (EB S y be k0 k1 k2 k3 k4 k5 k6 S.n k8 k9) := kOut_ok (i := 17) (Int.le_refl _)
theorem kO18 {be k0 k1 k2 k3 k4 k5 k6 k7 k9 : Int} : (kOut 18).Ok (EB S y be k0 k1 k2 k3 k4 k5 k6 k7 S.n k9) := kOut_ok (i := 18) (Int.le_refl _)
theorem kO19 {be k0 k1 k2 k3 k4 k5 k6 k7 k8 : Int} : (kOut 19).Ok (EB S y be k0 k1 k2 k3 k4 k5 k6 k7 k8 S.n) := kOut_ok (i := 19) (Int.le_refl _)
theorem Ov_z (V : Val S y W) (hz : ¬ (S.lo < S.r ∧ S.w < S.hi)) : Calls Try.prog 17 #[PV S y, BV S] W fun e w' => e = .returned NO ∧ Below W.heap.size W w' := by
  have hF : Fam (Bs Try.prog W conA [L0]) [] (EB S y 0 0 0 0 0 0 0 0 0 0 0) := baseF V
  by_cases c : S.lo < S.r
  · have q : PC.Ok (EB S y 0 0 0 0 0 0 0 0 0 0 0) z2 := (pcA_ok V).app (.cons' c (.cons' (Int.not_lt.1 fun q => hz ⟨c, q⟩) .nil))
    exact tree_funL hF q wide ov_z2 (by kernel_rfl) rfl (u := NO) (All.ret rfl)
  · have q : PC.Ok (EB S y 0 0 0 0 0 0 0 0 0 0 0) z1 := (pcA_ok V).app (.cons' (Int.not_lt.1 c) .nil)
    exact tree_funL hF q wide ov_z1 (by kernel_rfl) rfl (u := NO) (All.ret rfl)
theorem zA_ok (V : Val S y W) (h1 : S.lo < S.r) (h2 : S.w < S.hi) {be k0 k1 k2 k3 k4 k5 k6 k7 k8 k9 : Int} : zA.Ok (EB S y be k0 k1 k2 k3 k4 k5 k6 k7 k8 k9) := (pcA_ok V).app (.cons' h1 (.cons' h2 .nil))
/-- An edge of the base with no corner of the rectangle on its left. -/
theorem Ov_1 (V : Val S y W) {k : Int} (h0 : 0 ≤ k) (h1 : k < S.n) (hl : ∀ j, 0 ≤ j → j < k → Lf S j) (hn : ¬ Lf S k) : Calls Try.prog 17 #[PV S y, BV S] W fun e w' => e = .returned NO ∧ Below W.heap.size W w' := by
  by_cases hz : S.lo < S.r ∧ S.w < S.hi
  · have hk : PC.Ok (EB S y 0 0 0 0 0 k 0 0 0 0 0) (kr 14) := kr_ok V.h h0 h1
    exact tree_funL (famE V (fun _ => baseF V) h0 (by omega) hl (hk.app (none4_ok hn))) (zA_ok V hz.1 hz.2) wide ov_1 (by kernel_rfl) rfl (u := NO) (All.ret rfl)
  · exact Ov_z V hz
/-- No corner of the base on the left of edge r of the rectangle. -/
def Nr (S : S0) (r : Int) : Prop := ∀ j, 0 ≤ j → j < S.n → ¬ 0 < S.se j r
theorem Ov_2 (V : Val S y W) (hl : ∀ j, 0 ≤ j → j < S.n → Lf S j) (hz : S.lo < S.r ∧ S.w < S.hi) (hr : Nr S 0 ∨ Nr S 1 ∨ Nr S 2 ∨ Nr S 3) : Calls Try.prog 17 #[PV S y, BV S] W fun e w' => e = .returned NO ∧ Below W.heap.size W w' := by
  have n0 := V.L.nn
  obtain ⟨a, a0, a1, a2, a3⟩ := first_of (fun j => ¬ 0 < S.se j 0) S.n n0
  rcases a3 with rfl | ⟨a3, a4⟩
  · exact tree_funL (ρ := EB S y 0 0 0 0 0 S.n S.n 0 0 0 0) (famE V (fun _ => fam7_0 V (fun _ => baseF V) a0 a1 a2 kO15) n0 (Int.le_refl _) hl kO14) (zA_ok V hz.1 hz.2) wide ov_20 (by kernel_rfl) rfl (u := NO) (All.ret rfl)
  have a4 := Decidable.not_not.1 a4
  obtain ⟨b, b0, b1, b2, b3⟩ := first_of (fun j => ¬ 0 < S.se j 1) S.n n0
  rcases b3 with rfl | ⟨b3, b4⟩
  · exact tree_funL (ρ := EB S y 0 0 0 0 0 S.n a S.n 0 0 0) (famE V (fun _ => fam7_0 V (fun _ => fam7_1 V (fun _ => baseF V) b0 b1 b2 kO16) a0 a1 a2 (fnd0_ok V a0 a3 a4)) n0 (Int.le_refl _) hl kO14) (zA_ok V hz.1 hz.2) wide ov_21 (by kernel_rfl) rfl (u := NO) (All.ret rfl)
  have b4 := Decidable.not_not.1 b4
  obtain ⟨c, c0, c1, c2, c3⟩ := first_of (fun j => ¬ 0 < S.se j 2) S.n n0
  rcases c3 with rfl | ⟨c3, c4⟩
  · exact tree_funL (ρ := EB S y 0 0 0 0 0 S.n a b S.n 0 0) (famE V (fun _ => fam7_0 V (fun _ => fam7_1 V (fun _ => fam7_2 V (fun _ => baseF V) c0 c1 c2 kO17) b0 b1 b2 (fnd1_ok V b0 b3 b4)) a0 a1 a2 (fnd0_ok V a0 a3 a4)) n0 (Int.le_refl _) hl kO14) (zA_ok V hz.1 hz.2) wide ov_22 (by kernel_rfl) rfl (u := NO) (All.ret rfl)
  have c4 := Decidable.not_not.1 c4
  have d2 : Nr S 3 := by
    rcases hr with q | q | q | q
    · exact absurd a4 (q a a0 a3)
    · exact absurd b4 (q b b0 b3)
    · exact absurd c4 (q c c0 c3)
    · exact q
  exact tree_funL (ρ := EB S y 0 0 0 0 0 S.n a b c S.n 0) (famE V (fun _ => fam7_0 V (fun _ => fam7_1 V (fun _ => fam7_2 V (fun _ => fam7_3 V (fun _ => baseF V) n0 (Int.le_refl _) d2 kO18) c0 c1 c2 (fnd2_ok V c0 c3 c4)) b0 b1 b2 (fnd1_ok V b0 b3 b4)) a0 a1 a2 (fnd0_ok V a0 a3 a4)) n0 (Int.le_refl _) hl kO14) (zA_ok V hz.1 hz.2) wide ov_23 (by kernel_rfl) rfl (u := NO) (All.ret rfl)
theorem Ov_3 (V : Val S y W) (hl : ∀ j, 0 ≤ j → j < S.n → Lf S j) (hz : S.lo < S.r ∧ S.w < S.hi) (r0 : ¬ Nr S 0) (r1 : ¬ Nr S 1) (r2 : ¬ Nr S 2) (r3 : ¬ Nr S 3) : Calls Try.prog 17 #[PV S y, BV S] W fun e w' => e = .returned YES ∧ Below W.heap.size W w' := by
  have n0 := V.L.nn
  have key : ∀ r, ¬ Nr S r → ∃ k, 0 ≤ k ∧ k < S.n ∧ (∀ j, 0 ≤ j → j < k → ¬ 0 < S.se j r) ∧ 0 < S.se k r := fun r hr => by
    obtain ⟨a, a0, a1, a2, a3⟩ := first_of (fun j => ¬ 0 < S.se j r) S.n n0
    rcases a3 with rfl | ⟨a3, a4⟩
    · exact absurd a2 hr
    · exact ⟨a, a0, a3, a2, Decidable.not_not.1 a4⟩
  obtain ⟨a, a0, a1, a2, a3⟩ := key 0 r0
  obtain ⟨b, b0, b1, b2, b3⟩ := key 1 r1
  obtain ⟨c, c0, c1, c2, c3⟩ := key 2 r2
  obtain ⟨d, d0, d1, d2, d3⟩ := key 3 r3
  exact tree_funL (ρ := EB S y 0 0 0 0 0 S.n a b c d 0) (famE V (fun _ => fam7_0 V (fun _ => fam7_1 V (fun _ => fam7_2 V (fun _ => fam7_3 V (fun _ => baseF V) d0 (by omega) d2 (fnd3_ok V d0 d1 d3)) c0 (by omega) c2 (fnd2_ok V c0 c1 c3)) b0 (by omega) b2 (fnd1_ok V b0 b1 b3)) a0 (by omega) a2 (fnd0_ok V a0 a1 a3)) n0 (Int.le_refl _) hl kO14) (zA_ok V hz.1 hz.2) wide ov_3 (by kernel_rfl) rfl (u := YES) (All.ret rfl)
/-! Covers -/
def Rt (S : S0) (k : Int) : Prop := S.sd k 0 < 0 ∨ S.sd k 1 < 0 ∨ S.sd k 2 < 0 ∨ S.sd k 3 < 0
theorem gN {be k0 k1 k2 k3 k4 k5 k6 k7 k8 j : Int} (m : Nat) (h : ¬ S.sd j m < 0) : (gl m false).Ok (EB S y be k0 k1 k2 k3 k4 k5 k6 k7 k8 j) := .cons' (notlt h) .nil
theorem gT {be k0 k1 k2 k3 k4 k5 k6 k7 k8 j : Int} (m : Nat) (h : S.sd j m < 0) : (gl m true).Ok (EB S y be k0 k1 k2 k3 k4 k5 k6 k7 k8 j) := .cons' (sgn_lt.2 h) .nil
theorem fam9 (V : Val S y W) {ex : PC} {k : Int} (hk : 0 ≤ k) (hkn : k ≤ S.n) (hl : ∀ j, 0 ≤ j → j < k → ¬ Rt S j) (hex : ex.Ok (EB S y 0 0 0 0 0 0 0 0 0 0 k)) : Fam (Bs Try.prog W conA [L0]) [A9 ex] (EB S y 0 0 0 0 0 0 0 0 0 0 k) := by
  refine ⟨baseF V, hk, ⟨hex, .nil⟩, fun j h0 h1 => ?_⟩
  have e : (EB S y 0 0 0 0 0 0 0 0 0 0 k).upd (A9 ex).i j = EB S y 0 0 0 0 0 0 0 0 0 0 j := EB_19
  rw [e]
  have h1 : j < k := h1
  have hr : PC.Ok (EB S y 0 0 0 0 0 0 0 0 0 0 j) (kr 19) := kr_ok V.h h0 (by show j < S.n; omega)
  have hn := hl j h0 h1
  exact ⟨⟨⟨_, List.mem_singleton.2 rfl, hr.app ((((gN 0 fun q => hn (.inl q)).app (gN 1 fun q => hn (.inr (.inl q)))).app (gN 2 fun q => hn (.inr (.inr (.inl q))))).app (gN 3 fun q => hn (.inr (.inr (.inr q)))))⟩, .nil⟩, baseA V⟩
theorem cz_ok (V : Val S y W) (h1 : ¬ S.w < S.lo) (h2 : ¬ S.hi < S.r) {be k0 k1 k2 k3 k4 k5 k6 k7 k8 k9 : Int} : cz.Ok (EB S y be k0 k1 k2 k3 k4 k5 k6 k7 k8 k9) := (pcA_ok V).app (.cons' (Int.not_lt.1 h1) (.cons' (Int.not_lt.1 h2) .nil))
/-- The box is covered. -/
def Cov (S : S0) : Prop := ¬ S.w < S.lo ∧ ¬ S.hi < S.r ∧ ∀ j, 0 ≤ j → j < S.n → ¬ Rt S j
theorem Co_yes (V : Val S y W) (h : Cov S) : Calls Try.prog 18 #[PV S y, BV S] W fun e w' => e = .returned YES ∧ Below W.heap.size W w' :=
  tree_funL (fam9 V V.L.nn (Int.le_refl _) h.2.2 kO19) (cz_ok V h.1 h.2.1) wide co_yes (by kernel_rfl) rfl (u := YES) (All.ret rfl)
theorem Co_no (V : Val S y W) (h : ¬ Cov S) : Calls Try.prog 18 #[PV S y, BV S] W fun e w' => e = .returned NO ∧ Below W.heap.size W w' := by
  have hF : Fam (Bs Try.prog W conA [L0]) [] (EB S y 0 0 0 0 0 0 0 0 0 0 0) := baseF V
  by_cases c1 : S.w < S.lo
  · have q : PC.Ok (EB S y 0 0 0 0 0 0 0 0 0 0 0) cz1 := (pcA_ok V).app (.cons' c1 .nil)
    exact tree_funL hF q wide co_z1 (by kernel_rfl) rfl (u := NO) (All.ret rfl)
  by_cases c2 : S.hi < S.r
  · have q : PC.Ok (EB S y 0 0 0 0 0 0 0 0 0 0 0) cz2 := (pcA_ok V).app (.cons' (Int.not_lt.1 c1) (.cons' c2 .nil))
    exact tree_funL hF q wide co_z2 (by kernel_rfl) rfl (u := NO) (All.ret rfl)
  obtain ⟨k, a0, a1, a2, a3⟩ := first_of (fun j => ¬ Rt S j) S.n V.L.nn
  rcases a3 with rfl | ⟨a3, a4⟩
  · exact absurd ⟨c1, c2, a2⟩ h
  have hr : PC.Ok (EB S y 0 0 0 0 0 0 0 0 0 0 k) (kr 19) := kr_ok V.h a0 a3
  by_cases d0 : S.sd k 0 < 0
  · exact tree_funL (fam9 V a0 a1 a2 (hr.app (gT 0 d0))) (cz_ok V c1 c2) wide co_0 (by kernel_rfl) rfl (u := NO) (All.ret rfl)
  by_cases d1 : S.sd k 1 < 0
  · exact tree_funL (fam9 V a0 a1 a2 (hr.app ((gN 0 d0).app (gT 1 d1)))) (cz_ok V c1 c2) wide co_1 (by kernel_rfl) rfl (u := NO) (All.ret rfl)
  by_cases d2 : S.sd k 2 < 0
  · exact tree_funL (fam9 V a0 a1 a2 (hr.app (((gN 0 d0).app (gN 1 d1)).app (gT 2 d2)))) (cz_ok V c1 c2) wide co_2 (by kernel_rfl) rfl (u := NO) (All.ret rfl)
  by_cases d3 : S.sd k 3 < 0
  · exact tree_funL (fam9 V a0 a1 a2 (hr.app ((((gN 0 d0).app (gN 1 d1)).app (gN 2 d2)).app (gT 3 d3)))) (cz_ok V c1 c2) wide co_3 (by kernel_rfl) rfl (u := NO) (All.ret rfl)
  · exact absurd (fun q => by rcases q with q | q | q | q <;> contradiction) a4
/-! Separator, Hull -/
theorem Se_1 (V : Val S y W) {k : Int} (h0 : 0 ≤ k) (h1 : k < S.n) (hl : ∀ j, 0 ≤ j → j < k → Lf S j) (hn : ¬ Lf S k) : Calls Try.prog 19 #[PV S y, BV S] W fun e w' => e = .returned (.tuple #[.int .i64 k, .int .i64 0]) ∧ Below W.heap.size W w' := by
  have hk : PC.Ok (EB S y 0 0 0 0 0 k 0 0 0 0 0) (kr 14) := kr_ok V.h h0 h1
  exact tree_funL (famE V (fun _ => baseF V) h0 (by omega) hl (hk.app (none4_ok hn))) (pcA_ok V) wide se_1 (by kernel_rfl) rfl (u := .tuple #[.int .i64 k, .int .i64 0]) (All.ret rfl)
def sepv (S : S0) : Int := if mxX S ≤ S.u then 1000 else if S.p ≤ lx S then 1001 else if mxY S ≤ S.v then 1002 else if S.q ≤ ly S then 1003 else -1
theorem Se_2 (V : Val S y W) (hl : ∀ j, 0 ≤ j → j < S.n → Lf S j) : Calls Try.prog 19 #[PV S y, BV S] W fun e w' => e = .returned (.tuple #[.int .i64 (sepv S), .int .i64 0]) ∧ Below W.heap.size W w' := by
  refine tree_funL (ρ := EB S y 0 0 0 0 0 S.n 0 0 0 0 0) (famE V (fun _ => baseF V) V.L.nn (Int.le_refl _) hl kO14) (pcA_ok V) wide se_2 (by kernel_rfl) rfl (u := .tuple #[.int .i64 (sepv S), .int .i64 0]) ?_
  have fin : ∀ v : Int, sepv S = v → (T.ret (.tup [⟨false, [i8 (.lit v)]⟩, e0])).All (EB S y 0 0 0 0 0 S.n 0 0 0 0 0) (· = .tuple #[.int .i64 (sepv S), .int .i64 0]) := fun v e => All.ret (by rw [e]; rfl)
  refine All.br' (fun h => fin _ ?_) (fun h => All.br' (fun h' => fin _ ?_) (fun h' => All.br' (fun h2 => fin _ ?_) (fun h2 => All.br' (fun h3 => fin _ ?_) (fun h3 => fin _ ?_))))
  · have h : mxX S ≤ S.u := h
    unfold sepv; rw [if_pos h]
  · have h : S.u < mxX S := h
    have h' : S.p ≤ lx S := h'
    unfold sepv; rw [if_neg (by omega), if_pos h']
  · have h : S.u < mxX S := h
    have h' : lx S < S.p := h'
    have h2 : mxY S ≤ S.v := h2
    unfold sepv; rw [if_neg (by omega), if_neg (by omega), if_pos h2]
  · have h : S.u < mxX S := h
    have h' : lx S < S.p := h'
    have h2 : S.v < mxY S := h2
    have h3 : S.q ≤ ly S := h3
    unfold sepv; rw [if_neg (by omega), if_neg (by omega), if_neg (by omega), if_pos h3]
  · have h : S.u < mxX S := h
    have h' : lx S < S.p := h'
    have h2 : S.v < mxY S := h2
    have h3 : ly S < S.q := h3
    unfold sepv; rw [if_neg (by omega), if_neg (by omega), if_neg (by omega), if_neg (by omega)]
theorem Hu_1 (V : Val S y W) : Calls Try.prog 12 #[PV S y] W fun e w' => e = .returned (.tuple #[.agg #[.int .i64 (lx S), .int .i64 (ly S), .int .i64 S.lo, .int .i64 (mxX S), .int .i64 (mxY S), .int .i64 S.hi], .int .i64 0]) ∧ Below W.heap.size W w' :=
  tree_funL (ρ := EB S y 0 0 0 0 0 0 0 0 0 0 0) (baseF V) (pcA_ok V) wide hu_1 (by kernel_rfl) rfl (u := .tuple #[.agg #[.int .i64 (lx S), .int .i64 (ly S), .int .i64 S.lo, .int .i64 (mxX S), .int .i64 (mxY S), .int .i64 S.hi], .int .i64 0]) (All.ret rfl)
end
end Go.Proofs.Ytmpadjlplgajcaa
