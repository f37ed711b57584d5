/- PrismBoxes. -/
import Derived.Test.YtmpadjlplgajcaaPbxA
import Derived.Test.YtmpadjlplgajcaaPshA
import Derived.Test.YtmpadjlplgajcaaPmvB
namespace Go.Proofs.Ytmpadjlplgajcaa
open Go.RowKit
section
variable {S : S0} {y : Lay} {W : World} {be cb : Int}
def cBb : BE := .lt (.lit 0) (.at 10)
def cLaw (o : Bool) : Con := (17, AR, .tup [⟨false, [.bool (.lit o)]⟩, e0]) :: (18, AR, .tup [⟨false, [.bool cBb]⟩, e0]) :: (19, AR, .tup [⟨false, [i8 (.at 9)]⟩, e0]) :: (11, [prismV], .one (i8 (.lit 0))) :: (23, AR, .one (.bool cBb)) :: (24, AR, .one (i8 (.at 9))) :: con1
def zMb : PC := [(.lt (.at 0) (.at 7), true), (.lt (.at 4) (.at 1), true)]
def zb1 : PC := [(.lt (.at 0) (.at 7), false)]
def zb2 : PC := [(.lt (.at 0) (.at 7), true), (.lt (.at 4) (.at 1), false)]
theorem bx_80 : treeBL Try.prog con1 [L0] [] g80 300 30 4 AR = YT := by kernel_rfl
theorem bx_65 : treeBL Try.prog con1 [L0] [] p65 300 30 4 AR = YT := by kernel_rfl
theorem bx_02 : treeBL Try.prog con1 [L0] [] p02 300 30 4 AR = YT := by kernel_rfl
theorem bx_nr : treeBL Try.prog (ckM 6 (inT false)) [L0] [] pn 300 30 4 AR = YT := by kernel_rfl
theorem bx_lo : treeBL Try.prog (ckM 1 (inT true)) [L0] [] g_lo 300 30 4 AR = YT := by kernel_rfl
theorem bx_cv : treeBL Try.prog (ckM 1 (cvT false)) [L0] [] g_cv 300 30 4 AR = YT := by kernel_rfl
theorem bx_I : treeBL Try.prog (cI okC) [L0] [] (g_cv ++ fI) 300 30 4 AR = YT := by kernel_rfl
theorem bx_z1 : treeBL Try.prog (cLaw false) [L0] [] (pS ++ zb1) 300 30 4 AR = YT := by kernel_rfl
theorem bx_z2 : treeBL Try.prog (cLaw false) [L0] [] (pS ++ zb2) 300 30 4 AR = YT := by kernel_rfl
theorem bx_x : treeBL Try.prog (cLaw false) [L0] [ASp exN] (pS ++ zMb) 300 30 4 AR = YT := by kernel_rfl
theorem bx_0 : treeBL Try.prog (cLaw false) [L0] [ASp (kOut 14), ABy 7 0 10 15 (kOut 15)] (pS ++ zMb) 300 30 4 AR = YT := by kernel_rfl
theorem bx_1 : treeBL Try.prog (cLaw false) [L0] [ASp (kOut 14), ABy 7 0 10 15 (fe 15 0), ABy 7 1 10 16 (kOut 16)] (pS ++ zMb) 300 30 4 AR = YT := by kernel_rfl
theorem bx_2 : treeBL Try.prog (cLaw false) [L0] [ASp (kOut 14), ABy 7 0 10 15 (fe 15 0), ABy 7 1 10 16 (fe 16 1), ABy 7 2 10 17 (kOut 17)] (pS ++ zMb) 300 30 4 AR = YT := by kernel_rfl
theorem bx_3 : treeBL Try.prog (cLaw false) [L0] [ASp (kOut 14), ABy 7 0 10 15 (fe 15 0), ABy 7 1 10 16 (fe 16 1), ABy 7 2 10 17 (fe 17 2), ABy 7 3 10 18 (kOut 18)] (pS ++ zMb) 300 30 4 AR = YT := by kernel_rfl
theorem bx_4 : treeBL Try.prog (cLaw true) [L0] [ASp (kOut 14), ABy 7 0 10 15 (fe 15 0), ABy 7 1 10 16 (fe 16 1), ABy 7 2 10 17 (fe 17 2), ABy 7 3 10 18 (fe 18 3)] (pS ++ zMb) 300 30 4 AR = YT := by kernel_rfl
theorem lawB {con : Con} {lps : List LAnn} {pc : PC} {k14 k15 k16 k17 k18 : Int} (hF : Fam (Bs Try.prog W con [L0]) lps (EW S y be cb k14 k15 k16 k17 k18)) (hpc : pc.Ok (EW S y be cb k14 k15 k16 k17 k18)) (ht : treeBL Try.prog con [L0] lps pc 300 30 4 AR = YT) : Calls Try.prog 4 #[PV S y, BV S] W fun e w' => e = .returned (.bool true) ∧ Below W.heap.size W w' := by
  have h := tree_lawL hF hpc wide ht (by kernel_rfl) rfl Good.yes
  exact h
def cOf (c : Bool) : Int := if c then 1 else 0
/-- The contracts, where prism and box are valid. -/
theorem cLaw_ok {o c : Bool} (V : Val S y W) (ho : o = true ↔ Ans S) (hc : c = true ↔ Cov S) (hs : ∀ w, Below W.heap.size W w → Calls Try.prog 19 #[PV S y, BV S] w (fun e w' => e = .returned (.tuple #[.int .i64 be, .int .i64 0]) ∧ Below w.heap.size w w') ∧ Calls Try.prog 24 #[PV S y, BV S] w (fun e w' => e = .returned (.int .i64 be) ∧ Below w.heap.size w w'))
    (a b d e f : Int) : ConOkW Try.prog (EW S y be (cOf c) a b d e f) W (cLaw o) := by
  have hb : (decide ((0 : Int) < cOf c)) = c := by cases c <;> rfl
  have k1 := ConOkW.cons (ρ := EW S y be (cOf c) a b d e f) (W0 := W) (f := 24) (args := AR) (v := .one (i8 (.at 9))) (fun _ w hb => (hs w hb).2) con1W
  have k2 := ConOkW.cons (ρ := EW S y be (cOf c) a b d e f) (W0 := W) (f := 23) (args := AR) (v := .one (.bool cBb)) (fun _ w hw => by
    show Calls _ _ #[PV S y, BV S] w fun e w' => e = .returned (.bool (decide ((0 : Int) < cOf c))) ∧ Below w.heap.size w w'
    rw [hb]; exact coR (V.mono hw) hc) k1
  have k3 : ConOkW Try.prog (EW S y be (cOf c) a b d e f) W ((11, [prismV], .one (i8 (.lit 0))) :: _) := .cons (fun _ w hw => ckr_ok (V.L.mono hw) V.h V.b.lh V.c) k2
  have k4 := ConOkW.cons (ρ := EW S y be (cOf c) a b d e f) (W0 := W) (f := 19) (args := AR) (v := .tup [⟨false, [i8 (.at 9)]⟩, e0]) (fun _ w hb => (hs w hb).1) k3
  have k5 := ConOkW.cons (ρ := EW S y be (cOf c) a b d e f) (W0 := W) (f := 18) (args := AR) (v := .tup [⟨false, [.bool cBb]⟩, e0]) (fun _ w hw => by
    show Calls _ _ #[PV S y, BV S] w fun e w' => e = .returned (.tuple #[.bool (decide ((0 : Int) < cOf c)), .int .i64 0]) ∧ Below w.heap.size w w'
    rw [hb]
    by_cases q : Cov S
    · rw [hc.2 q]; exact Co_yes (V.mono hw) q
    · have : c = false := by
        cases hq : c
        · rfl
        · exact absurd (hc.1 hq) q
      rw [this]; exact Co_no (V.mono hw) q) k4
  exact .cons (fun _ w hw => Ov_is (V.mono hw) ho) k5
theorem yn (P : Prop) : ∃ o : Bool, o = true ↔ P := by
  by_cases h : P
  · exact ⟨true, fun _ => h, fun _ => rfl⟩
  · exact ⟨false, fun q => (by cases q), fun q => absurd q h⟩
theorem fN {P : Prop} (h : ¬ P) : false = true ↔ P := ⟨fun q => (by cases q), fun q => absurd q h⟩
theorem boxes_valid (V : Val S y W) : Calls Try.prog 4 #[PV S y, BV S] W fun e w' => e = .returned (.bool true) ∧ Below W.heap.size W w' := by
  obtain ⟨c, hc⟩ := yn (Cov S)
  obtain ⟨k, k0, k1, k2, k3⟩ := first_of (fun j => Lf S j) S.n V.L.nn
  rcases k3 with e | ⟨k3, k4⟩
  · subst e
    have hl : ∀ j, 0 ≤ j → j < S.n → Lf S j := k2
    have hs : ∀ w, Below W.heap.size W w → Calls Try.prog 19 #[PV S y, BV S] w (fun e w' => e = .returned (.tuple #[.int .i64 (sepv S), .int .i64 0]) ∧ Below w.heap.size w w') ∧ Calls Try.prog 24 #[PV S y, BV S] w (fun e w' => e = .returned (.int .i64 (sepv S)) ∧ Below w.heap.size w w') := fun w hb => ⟨Se_2 (V.mono hb) k2, spR_2 (V.mono hb) k2⟩
    by_cases z1 : S.lo < S.r
    · by_cases z2 : S.w < S.hi
      · have qz : ∀ {a b d e f : Int}, PC.Ok (EW S y (sepv S) (cOf c) a b d e f) zMb := .cons' z1 (.cons' z2 .nil)
        by_cases n0 : Nr S 0
        · have hK := cLaw_ok (o := false) V (fN fun q => q.2.2.1 n0) hc hs
          have base : ∀ {a b d e f : Int}, Fam (Bs Try.prog W (cLaw false) [L0]) [] (EW S y (sepv S) (cOf c) a b d e f) := ⟨hK _ _ _ _ _, ewl V.L⟩
          exact lawB (be := sepv S) (cb := cOf c) (k14 := S.n) (k15 := S.n) (k16 := 0) (k17 := 0) (k18 := 0) (fam14 (A := ASp (kOut 14)) V rfl rfl rfl rfl (fun _ => (fam15 (o := 7) (e := 0) (nx := 10) V (fun _ => base) V.L.nn (Int.le_refl _) (fun _ => rfl) n0 (kOut_ok (i := 15) (Int.le_refl _)))) V.L.nn (Int.le_refl _) hl (kOut_ok (i := 14) (Int.le_refl _))) ((pS_ok V).app qz) bx_0
        obtain ⟨a0, a00, a01, a02, a05⟩ := first_of (fun j => ¬ 0 < S.se j 0) S.n V.L.nn
        have a06 : a0 < S.n ∧ 0 < S.se a0 0 := by
          rcases a05 with rfl | ⟨q1, q2⟩
          · exact absurd a02 n0
          · exact ⟨q1, Decidable.not_not.1 q2⟩
        have a03 := a06.1
        have a04 := a06.2
        by_cases n1 : Nr S 1
        · have hK := cLaw_ok (o := false) V (fN fun q => q.2.2.2.1 n1) hc hs
          have base : ∀ {a b d e f : Int}, Fam (Bs Try.prog W (cLaw false) [L0]) [] (EW S y (sepv S) (cOf c) a b d e f) := ⟨hK _ _ _ _ _, ewl V.L⟩
          exact lawB (be := sepv S) (cb := cOf c) (k14 := S.n) (k15 := a0) (k16 := S.n) (k17 := 0) (k18 := 0) (fam14 (A := ASp (kOut 14)) V rfl rfl rfl rfl (fun _ => (fam15 (o := 7) (e := 0) (nx := 10) V (fun _ => (fam16 (o := 7) (e := 1) (nx := 10) V (fun _ => base) V.L.nn (Int.le_refl _) (fun _ => rfl) n1 (kOut_ok (i := 16) (Int.le_refl _)))) a00 a01 (fun _ => rfl) a02 (fe_ok (i := 15) (e := 0) V ew_lk a00 a03 a04))) V.L.nn (Int.le_refl _) hl (kOut_ok (i := 14) (Int.le_refl _))) ((pS_ok V).app qz) bx_1
        obtain ⟨a1, a10, a11, a12, a15⟩ := first_of (fun j => ¬ 0 < S.se j 1) S.n V.L.nn
        have a16 : a1 < S.n ∧ 0 < S.se a1 1 := by
          rcases a15 with rfl | ⟨q1, q2⟩
          · exact absurd a12 n1
          · exact ⟨q1, Decidable.not_not.1 q2⟩
        have a13 := a16.1
        have a14 := a16.2
        by_cases n2 : Nr S 2
        · have hK := cLaw_ok (o := false) V (fN fun q => q.2.2.2.2.1 n2) hc hs
          have base : ∀ {a b d e f : Int}, Fam (Bs Try.prog W (cLaw false) [L0]) [] (EW S y (sepv S) (cOf c) a b d e f) := ⟨hK _ _ _ _ _, ewl V.L⟩
          exact lawB (be := sepv S) (cb := cOf c) (k14 := S.n) (k15 := a0) (k16 := a1) (k17 := S.n) (k18 := 0) (fam14 (A := ASp (kOut 14)) V rfl rfl rfl rfl (fun _ => (fam15 (o := 7) (e := 0) (nx := 10) V (fun _ => (fam16 (o := 7) (e := 1) (nx := 10) V (fun _ => (fam17 (o := 7) (e := 2) (nx := 10) V (fun _ => base) V.L.nn (Int.le_refl _) (fun _ => rfl) n2 (kOut_ok (i := 17) (Int.le_refl _)))) a10 a11 (fun _ => rfl) a12 (fe_ok (i := 16) (e := 1) V ew_lk a10 a13 a14))) a00 a01 (fun _ => rfl) a02 (fe_ok (i := 15) (e := 0) V ew_lk a00 a03 a04))) V.L.nn (Int.le_refl _) hl (kOut_ok (i := 14) (Int.le_refl _))) ((pS_ok V).app qz) bx_2
        obtain ⟨a2, a20, a21, a22, a25⟩ := first_of (fun j => ¬ 0 < S.se j 2) S.n V.L.nn
        have a26 : a2 < S.n ∧ 0 < S.se a2 2 := by
          rcases a25 with rfl | ⟨q1, q2⟩
          · exact absurd a22 n2
          · exact ⟨q1, Decidable.not_not.1 q2⟩
        have a23 := a26.1
        have a24 := a26.2
        by_cases n3 : Nr S 3
        · have hK := cLaw_ok (o := false) V (fN fun q => q.2.2.2.2.2 n3) hc hs
          have base : ∀ {a b d e f : Int}, Fam (Bs Try.prog W (cLaw false) [L0]) [] (EW S y (sepv S) (cOf c) a b d e f) := ⟨hK _ _ _ _ _, ewl V.L⟩
          exact lawB (be := sepv S) (cb := cOf c) (k14 := S.n) (k15 := a0) (k16 := a1) (k17 := a2) (k18 := S.n) (fam14 (A := ASp (kOut 14)) V rfl rfl rfl rfl (fun _ => (fam15 (o := 7) (e := 0) (nx := 10) V (fun _ => (fam16 (o := 7) (e := 1) (nx := 10) V (fun _ => (fam17 (o := 7) (e := 2) (nx := 10) V (fun _ => (fam18 (o := 7) (e := 3) (nx := 10) V (fun _ => base) V.L.nn (Int.le_refl _) (fun _ => rfl) n3 (kOut_ok (i := 18) (Int.le_refl _)))) a20 a21 (fun _ => rfl) a22 (fe_ok (i := 17) (e := 2) V ew_lk a20 a23 a24))) a10 a11 (fun _ => rfl) a12 (fe_ok (i := 16) (e := 1) V ew_lk a10 a13 a14))) a00 a01 (fun _ => rfl) a02 (fe_ok (i := 15) (e := 0) V ew_lk a00 a03 a04))) V.L.nn (Int.le_refl _) hl (kOut_ok (i := 14) (Int.le_refl _))) ((pS_ok V).app qz) bx_3
        obtain ⟨a3, a30, a31, a32, a35⟩ := first_of (fun j => ¬ 0 < S.se j 3) S.n V.L.nn
        have a36 : a3 < S.n ∧ 0 < S.se a3 3 := by
          rcases a35 with rfl | ⟨q1, q2⟩
          · exact absurd a32 n3
          · exact ⟨q1, Decidable.not_not.1 q2⟩
        have a33 := a36.1
        have a34 := a36.2
        have hK := cLaw_ok (o := true) V (⟨fun _ => ⟨⟨z1, z2⟩, hl, n0, n1, n2, n3⟩, fun _ => rfl⟩) hc hs
        have base : ∀ {a b d e f : Int}, Fam (Bs Try.prog W (cLaw true) [L0]) [] (EW S y (sepv S) (cOf c) a b d e f) := ⟨hK _ _ _ _ _, ewl V.L⟩
        exact lawB (be := sepv S) (cb := cOf c) (k14 := S.n) (k15 := a0) (k16 := a1) (k17 := a2) (k18 := a3) (fam14 (A := ASp (kOut 14)) V rfl rfl rfl rfl (fun _ => (fam15 (o := 7) (e := 0) (nx := 10) V (fun _ => (fam16 (o := 7) (e := 1) (nx := 10) V (fun _ => (fam17 (o := 7) (e := 2) (nx := 10) V (fun _ => (fam18 (o := 7) (e := 3) (nx := 10) V (fun _ => base) a30 a31 (fun _ => rfl) a32 (fe_ok (i := 18) (e := 3) V ew_lk a30 a33 a34))) a20 a21 (fun _ => rfl) a22 (fe_ok (i := 17) (e := 2) V ew_lk a20 a23 a24))) a10 a11 (fun _ => rfl) a12 (fe_ok (i := 16) (e := 1) V ew_lk a10 a13 a14))) a00 a01 (fun _ => rfl) a02 (fe_ok (i := 15) (e := 0) V ew_lk a00 a03 a04))) V.L.nn (Int.le_refl _) hl (kOut_ok (i := 14) (Int.le_refl _))) ((pS_ok V).app qz) bx_4
      · have q : PC.Ok (EW S y (sepv S) (cOf c) 0 0 0 0 0) zb2 := .cons' z1 (.cons' (Int.not_lt.1 z2) .nil)
        exact lawB (con := cLaw false) (lps := []) (be := sepv S) (cb := cOf c) (k14 := 0) (k15 := 0) (k16 := 0) (k17 := 0) (k18 := 0) ⟨cLaw_ok (o := false) V (fN fun q => z2 q.1.2) hc hs _ _ _ _ _, ewl V.L⟩ ((pS_ok V).app q) bx_z2
    · have q : PC.Ok (EW S y (sepv S) (cOf c) 0 0 0 0 0) zb1 := .cons' (Int.not_lt.1 z1) .nil
      exact lawB (con := cLaw false) (lps := []) (be := sepv S) (cb := cOf c) (k14 := 0) (k15 := 0) (k16 := 0) (k17 := 0) (k18 := 0) ⟨cLaw_ok (o := false) V (fN fun q => z1 q.1.1) hc hs _ _ _ _ _, ewl V.L⟩ ((pS_ok V).app q) bx_z1
  · have hs : ∀ w, Below W.heap.size W w → Calls Try.prog 19 #[PV S y, BV S] w (fun e w' => e = .returned (.tuple #[.int .i64 k, .int .i64 0]) ∧ Below w.heap.size w w') ∧ Calls Try.prog 24 #[PV S y, BV S] w (fun e w' => e = .returned (.int .i64 k) ∧ Below w.heap.size w w') := fun w hb => ⟨Se_1 (V.mono hb) k0 k3 k2 k4, spR_1 (V.mono hb) k0 k3 k2 k4⟩
    have hK := cLaw_ok (o := false) V (fN fun q => k4 (q.2.1 k k0 k3)) hc hs
    by_cases z1 : S.lo < S.r
    · by_cases z2 : S.w < S.hi
      · have qz : PC.Ok (EW S y k (cOf c) k 0 0 0 0) zMb := .cons' z1 (.cons' z2 .nil)
        exact lawB (be := k) (cb := cOf c) (k14 := k) (k15 := 0) (k16 := 0) (k17 := 0) (k18 := 0) (fam14 (con := cLaw false) (tl := []) (A := ASp exN) V rfl rfl rfl rfl (fun _ => ⟨hK _ _ _ _ _, ewl V.L⟩) k0 k1 k2 (exN_ok V k0 k3 k4)) ((pS_ok V).app qz) bx_x
      · have q : PC.Ok (EW S y k (cOf c) 0 0 0 0 0) zb2 := .cons' z1 (.cons' (Int.not_lt.1 z2) .nil)
        exact lawB (con := cLaw false) (lps := []) (be := k) (cb := cOf c) (k14 := 0) (k15 := 0) (k16 := 0) (k17 := 0) (k18 := 0) ⟨hK _ _ _ _ _, ewl V.L⟩ ((pS_ok V).app q) bx_z2
    · have q : PC.Ok (EW S y k (cOf c) 0 0 0 0 0) zb1 := .cons' (Int.not_lt.1 z1) .nil
      exact lawB (con := cLaw false) (lps := []) (be := k) (cb := cOf c) (k14 := 0) (k15 := 0) (k16 := 0) (k17 := 0) (k18 := 0) ⟨hK _ _ _ _ _, ewl V.L⟩ ((pS_ok V).app q) bx_z1
theorem boxes_walk (hL : Lies S y W) (h0 : ∀ k, (k < 0 ∨ S.n ≤ k) → S.X k = 0 ∧ S.Y k = 0) : Calls Try.prog 4 #[PV S y, BV S] W fun e w' => e = .returned (.bool true) ∧ Below W.heap.size W w' := by
  have nn := hL.nn
  have B : ∀ {be : Int} {con : Con}, ConOkW Try.prog (EW S y be 0 0 0 0 0 0) W con → Fam (Bs Try.prog W con [L0]) [] (EW S y be 0 0 0 0 0 0) := fun h => ⟨h, ewl hL⟩
  have hc1 : ConOkW Try.prog (EW S y 0 0 0 0 0 0 0) W con1 := con1W
  by_cases c1 : 80 < S.n
  · have q : PC.Ok (EW S y 0 0 0 0 0 0 0) g80 := .cons' c1 .nil
    exact lawB (B hc1) q bx_80
  by_cases c2 : 64 < S.n
  · have q : PC.Ok (EW S y 0 0 0 0 0 0 0) p65 := rg_ok (show 65 ≤ S.n by omega) (show S.n ≤ 80 by omega)
    exact lawB (B hc1) q bx_65
  by_cases c3 : S.n < 3
  · have q : PC.Ok (EW S y 0 0 0 0 0 0 0) p02 := rg_ok (show 0 ≤ S.n by omega) (show S.n ≤ 2 by omega)
    exact lawB (B hc1) q bx_02
  have n3 : 3 ≤ S.n := by omega
  have n64 : S.n ≤ 64 := by omega
  have hn : ∀ {be : Int}, pn.Ok (EW S y be 0 0 0 0 0 0) := rg_ok n3 n64
  by_cases hR : Rng S
  · have hI : ∀ {be : Int}, ConOkW Try.prog (EW S y be 0 0 0 0 0 0) W (inT true) := .cons (fun _ w hb => in_yes (hL.mono hb) hR) con1W
    by_cases c4 : S.lo < S.hi
    · have qs : ∀ {be : Int}, PC.Ok (EW S y be 0 0 0 0 0 0) (lt01 true) := .cons' c4 .nil
      by_cases hc : Cv S
      · by_cases hb : bcode S = 0
        · exact boxes_valid ⟨hL, hR, hc, bcode_zero hb c4⟩
        · have q : PC.Ok (EW S y (bcode S) 0 0 0 0 0 0) fI := .cons' hb .nil
          have k0 : ConOkW Try.prog (EW S y (bcode S) 0 0 0 0 0 0) W okC := .cons (fun _ w hb => ckr_ok (hL.mono hb) hR c4 hc) (.cons (fun _ w hb => cv_yes (hL.mono hb) hR hc) hI)
          have k1 : ConOkW Try.prog (EW S y (bcode S) 0 0 0 0 0 0) W ((27, [.agg (iv 2 6)], .one (.bool (.lit false))) :: okC) := .cons (fun _ w _ => valid_no hb w) k0
          have k2 : ConOkW Try.prog (EW S y (bcode S) 0 0 0 0 0 0) W (cI okC) := .cons (fun _ w _ => bc_any w) k1
          exact lawB (B k2) ((hn.app qs).app q) bx_I
      · have k0 : ConOkW Try.prog (EW S y 0 0 0 0 0 0 0) W (ckM 1 (cvT false)) := .cons (fun _ w hb => ckr_cv (hL.mono hb) hR c4 hc) (.cons (fun _ w hb => cv_no (hL.mono hb) hR hc) hI)
        exact lawB (B k0) (hn.app qs) bx_cv
    · have qs : PC.Ok (EW S y 0 0 0 0 0 0 0) (lt01 false) := .cons' (Int.not_lt.1 c4) .nil
      have k0 : ConOkW Try.prog (EW S y 0 0 0 0 0 0 0) W (ckM 1 (inT true)) := .cons (fun _ w hb => ckr_lo (hL.mono hb) hR (Int.not_lt.1 c4)) hI
      exact lawB (B k0) (hn.app qs) bx_lo
  · have k0 : ConOkW Try.prog (EW S y 0 0 0 0 0 0 0) W (ckM 6 (inT false)) := .cons (fun _ w hb => ckr_no (hL.mono hb) n3 n64 h0 hR) (.cons (fun _ w hb => in_no (hL.mono hb) n3 n64 h0 hR) con1W)
    exact lawB (B k0) hn bx_nr
end
end Go.Proofs.Ytmpadjlplgajcaa
