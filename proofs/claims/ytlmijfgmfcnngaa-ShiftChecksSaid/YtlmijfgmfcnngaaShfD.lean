/- Calendars: Week and Open of both sides. -/
import Derived.Test.YtlmijfgmfcnngaaShfC
import Derived.Test.YtlmijfgmfcnngaaShfLay
namespace Go.Proofs.Ytlmijfgmfcnngaa
open Go.RowKit
section
variable {S : C0} {y z : Lay} {W : World} {be k0 k1 k2 k3 k4 : Int}
def kC : Con := [(17, [CV], .one (i8 (.lit 0)))]
theorem kC_ok (hL : Lies S y z W) (h : Ck S 0) : ConOkW Try.prog (ES S y z be k0 k1 k2 k3 k4) W kC := .cons (fun _ _ hb => check_any (hL.mono hb) h) .nil
def rngE (e : IE) (l h : Int) : PC := [(.lt e (.lit l), false), (.lt (.lit h) e, false)]
theorem rngE_ok {ρ : EnvS} {e : IE} {l h : Int} (h1 : l ≤ e.den ρ) (h2 : e.den ρ ≤ h) : PC.Ok ρ (rngE e l h) := .cons' h1 (.cons' h2 .nil)
/-! Week -/
def wkE (k : IE) : IE := .ap 6 k (.lit 0)
def lnE : IE := .sub (s0 (.at 14) 2) (s0 (.at 14) 1)
def rW : PC := pn ++ kIn 14 1 ++ rngE (s0 (.at 14) 1) 0 1440 ++ rngE (s0 (.at 14) 2) 0 1440 ++ rngE (wkE (.at 14)) 0 92160 ++ rngE (.add (wkE (.at 14)) lnE) 0 92160 ++ [(.eq (wkE (nx (.at 14))) (.add (wkE (.at 14)) lnE), true)]
def st6 : PC := [(.eq (wkE (.lit 0)) (.lit 0), true)]
def W1 : LAnn := ⟨560433, 14, [(16, .one (i8 (.at 14))), (15, .one (i8 (.at 1))), (14, .one (.ssl L0)), (5, .one (i8 (wkE (.at 14)))), (2, .one (i8 (.lit 0))), (3, .one (i8 (.lit 0)))], [], [], kOut 14 1, [rW], 1⟩
def W2 : LAnn := ⟨214682, 14, [(4, .one (i8 (.at 14))), (3, .one (i8 (wkE (.at 14)))), (2, .one (i8 (.lit 0))), (1, .one (.ptr 0 0)), (0, CV)], [], [0], kOut 14 1, [rW], 1⟩
theorem wk_tree : treeL Try.prog kC [L0, L1] [W1] (pn ++ st6) 300 30 15 [CV] = .ret (.tup [⟨false, [i8 (wkE (.at 14))]⟩, ⟨false, [i8 (.lit 0)]⟩]) := by kernel_rfl
theorem rwk_tree : treeL Try.prog [] [L0, L1] [W2] (pn ++ st6) 300 30 18 [CV] = .ret (.one (i8 (wkE (.at 14)))) := by kernel_rfl
theorem wk_bd (h : ∀ j, 0 ≤ j → j < S.n1 → S.Rt j) : ∀ k : Nat, (k : Int) ≤ S.n1 → 0 ≤ S.wk k ∧ S.wk k ≤ 1440 * k
  | 0, _ => ⟨Int.le_refl _, Int.le_refl _⟩
  | k + 1, hk => by
    have a := wk_bd h k (by omega)
    have b := h k (by omega) (by omega)
    obtain ⟨_, _, b1, b2, b3⟩ := b
    show 0 ≤ S.wk k + (S.to k - S.fr k) ∧ S.wk k + (S.to k - S.fr k) ≤ 1440 * ((k + 1 : Nat) : Int)
    omega
theorem toN {k : Int} (h : 0 ≤ k) : (k + 1).toNat = k.toNat + 1 ∧ ((k.toNat : Nat) : Int) = k := by omega
theorem wk_succ {k : Int} (h : 0 ≤ k) : S.wk (k + 1).toNat = S.wk k.toNat + (S.to k - S.fr k) := by
  obtain ⟨a, b⟩ := toN h
  rw [a]
  show S.wk k.toNat + (S.to (k.toNat : Int) - S.fr (k.toNat : Int)) = _
  rw [b]
theorem kIn5 (h : Few S) (h0 : 0 ≤ k4) (h1 : k4 < S.n1) : (kIn 14 1).Ok (ES S y z be k0 k1 k2 k3 k4) := .cons' h1 (.cons' h0 (.cons' h0 (.cons' (by show k4 ≤ 64; have := h.b; omega) .nil)))
theorem rW_ok (h : Few S) (hr : ∀ j, 0 ≤ j → j < S.n1 → S.Rt j) (h0 : 0 ≤ k4) (h1 : k4 < S.n1) : rW.Ok (ES S y z be k0 k1 k2 k3 k4) := by
  obtain ⟨_, _, b1, b2, b3⟩ := hr k4 h0 h1
  obtain ⟨t1, t2⟩ := toN h0
  have a := wk_bd hr k4.toNat (by omega)
  have a' := wk_bd hr (k4 + 1).toNat (by omega)
  have e := wk_succ (S := S) h0
  have hn := h.b
  have q0 : PC.Ok (ES S y z be k0 k1 k2 k3 k4) (rngE (s0 (.at 14) 1) 0 1440) := rngE_ok (e := s0 (.at 14) 1) b1 (show S.fr k4 ≤ 1440 by omega)
  have q1 : PC.Ok (ES S y z be k0 k1 k2 k3 k4) (rngE (s0 (.at 14) 2) 0 1440) := rngE_ok (e := s0 (.at 14) 2) (show 0 ≤ S.to k4 by omega) b3
  have q2 : PC.Ok (ES S y z be k0 k1 k2 k3 k4) (rngE (wkE (.at 14)) 0 92160) := rngE_ok (e := wkE (.at 14)) a.1 (show S.wk k4.toNat ≤ 92160 by omega)
  have q3 : PC.Ok (ES S y z be k0 k1 k2 k3 k4) (rngE (.add (wkE (.at 14)) lnE) 0 92160) := rngE_ok (e := .add (wkE (.at 14)) lnE) (show 0 ≤ S.wk k4.toNat + (S.to k4 - S.fr k4) by omega) (show S.wk k4.toNat + (S.to k4 - S.fr k4) ≤ 92160 by omega)
  exact ((((((pn_ok h).app (kIn5 h h0 h1)).app q0).app q1).app q2).app q3).app (.cons' e .nil)
theorem st6_ok : st6.Ok (ES S y z be k0 k1 k2 k3 k4) := .cons' (show S.wk 0 = 0 from rfl) .nil
theorem famW {con : Con} (hcon : ∀ j, Fam (Bs Try.prog W con [L0, L1]) [] (ES S y z be 0 0 0 0 j)) (h : Few S) (hr : ∀ j, 0 ≤ j → j < S.n1 → S.Rt j) {A : LAnn} (hi : A.i = 14) (hp : A.pc = kOut 14 1) (hR : A.pcR = [rW]) : Fam (Bs Try.prog W con [L0, L1]) [A] (ES S y z be 0 0 0 0 S.n1) := by
  refine ⟨hcon _, by rw [hi]; exact h.a, by rw [hp]; exact .cons' (Int.le_refl _) .nil, fun j a b => ?_⟩
  rw [hi] at b ⊢
  have b : j < S.n1 := b
  rw [ES_14, hR]
  exact ⟨⟨_, List.mem_singleton.2 rfl, rW_ok h hr a b⟩, hcon _⟩
theorem week_any (hL : Lies S y z W) (h : Few S) (hr : InR S) (hc : Ck S 0) : CallsI 15 (.tuple #[.int .i64 (S.wk S.n1.toNat), .int .i64 0]) S y z W := by
  have h' := tree_funL (famW (be := 0) (fun j => ⟨kC_ok hL hc, esl hL⟩) h hr.1 (A := W1) rfl rfl rfl) ((pn_ok h).app st6_ok) wide wk_tree (by kernel_rfl) rfl (u := .tuple #[.int .i64 (S.wk S.n1.toNat), .int .i64 0]) (All.ret rfl)
  exact h'
theorem rweek_any (hL : Lies S y z W) (h : Few S) (hr : InR S) : CallsI 18 (.int .i64 (S.wk S.n1.toNat)) S y z W := by
  have h' := tree_funL (famW (be := 0) (fun j => base0 hL) h hr.1 (A := W2) rfl rfl rfl) ((pn_ok h).app st6_ok) wide rwk_tree (by kernel_rfl) rfl (u := .int .i64 (S.wk S.n1.toNat)) (All.ret rfl)
  exact h'
/-! Free days -/
def day : IE := .quo (.at 0) (.lit 1440)
def FreeDay (S : C0) : Prop := ∃ j, 0 ≤ j ∧ j < S.n2 ∧ S.fd j = S.day
def fF (b : Bool) : PC := [(.eq (f0 (.at 13)) day, b)]
def Fr (ex : PC) : LAnn := ⟨756943, 13, [(5, .one (i8 (.at 13))), (4, .one (.bool (.lit false))), (2, .one (.ptr 0 0)), (0, CV), (1, .one (i8 day))], [], [0], ex, [pn ++ kIn 13 2 ++ fF false], 1⟩
theorem fr_yes : treeL Try.prog [] [L0, L1] [Fr (kIn 13 2 ++ fF true)] pn 300 30 39 [CV, .one (i8 day)] = TR := by kernel_rfl
theorem fr_no : treeL Try.prog [] [L0, L1] [Fr (kOut 13 2)] pn 300 30 39 [CV, .one (i8 day)] = FL := by kernel_rfl
theorem kIn6 (h : Few S) (h0 : 0 ≤ k3) (h1 : k3 < S.n2) : (kIn 13 2).Ok (ES S y z be k0 k1 k2 k3 k4) := .cons' h1 (.cons' h0 (.cons' h0 (.cons' (by show k3 ≤ 64; have := h.d; omega) .nil)))
theorem famF {ex : PC} (hL : Lies S y z W) (h : Few S) (h0 : 0 ≤ k3) (h1 : k3 ≤ S.n2) (hc : ∀ j, 0 ≤ j → j < k3 → S.fd j ≠ S.day) (hex : ex.Ok (ES S y z 0 0 0 0 k3 0)) : Fam (Bs Try.prog W [] [L0, L1]) [Fr ex] (ES S y z 0 0 0 0 k3 0) := by
  refine ⟨base0 hL, h0, hex, fun j a b => ?_⟩
  have b : j < k3 := b
  have e : (ES S y z 0 0 0 0 k3 0).upd (Fr ex).i j = ES S y z 0 0 0 0 j 0 := ES_13
  rw [e]
  exact ⟨⟨_, List.mem_singleton.2 rfl, ((pn_ok h).app (kIn6 h a (by omega))).app (.cons' (hc j a b) .nil)⟩, base0 hL⟩
def FArgs (S : C0) (y z : Lay) : Array Value := #[CVal S y z, .int .i64 S.day]
theorem free_any (hL : Lies S y z W) (h : Few S) : (FreeDay S → Calls Try.prog 39 (FArgs S y z) W fun e w' => e = .returned (.bool true) ∧ Below W.heap.size W w') ∧ (¬ FreeDay S → Calls Try.prog 39 (FArgs S y z) W fun e w' => e = .returned (.bool false) ∧ Below W.heap.size W w') := by
  obtain ⟨k, a0, a1, a2, a3⟩ := first_of (fun j => S.fd j ≠ S.day) S.n2 h.c
  rcases a3 with rfl | ⟨a3, a4⟩
  · refine ⟨fun ⟨j, b0, b1, b2⟩ => absurd b2 (a2 j b0 b1), fun _ => ?_⟩
    have q : (kOut 13 2).Ok (ES S y z 0 0 0 0 S.n2 0) := .cons' (Int.le_refl _) .nil
    have h' := tree_funL (famF hL h a0 a1 a2 q) (pn_ok h) wide fr_no (by kernel_rfl) rfl (u := .bool false) (All.ret rfl)
    exact h'
  · have e : S.fd k = S.day := Classical.byContradiction a4
    refine ⟨fun _ => ?_, fun hn => absurd ⟨k, a0, a3, e⟩ hn⟩
    have q : (fF true).Ok (ES S y z 0 0 0 0 k 0) := .cons' e .nil
    have h' := tree_funL (famF hL h a0 a1 a2 ((kIn6 h a0 a3).app q)) (pn_ok h) wide fr_yes (by kernel_rfl) rfl (u := .bool true) (All.ret rfl)
    exact h'
/-! The reference's Open -/
def rg0 : PC := rg 0 0 14400000
def pm : PC := pn ++ rg0
def wdE : IE := .add (.rem day (.lit 7)) (.lit 1)
def mr : IE := .rem (.at 0) (.lit 1440)
def uA : PC := [(.eq (s0 (.at 14) 0) wdE, false)]
def uB : PC := [(.eq (s0 (.at 14) 0) wdE, true), (.le (s0 (.at 14) 1) mr, false)]
def uC : PC := [(.eq (s0 (.at 14) 0) wdE, true), (.le (s0 (.at 14) 1) mr, true), (.lt mr (s0 (.at 14) 2), false)]
def uX : PC := [(.eq (s0 (.at 14) 0) wdE, true), (.le (s0 (.at 14) 1) mr, true), (.lt mr (s0 (.at 14) 2), true)]
def pmm : PC := pm ++ [(.lt (.at 0) (.lit 14400000), true), (.le (.lit 14400000) (.at 0), false)]
def pmx : PC := pm ++ [(.le (.lit 14400000) (.at 0), true)]
def U (ex : PC) : LAnn := ⟨121073, 14, [(5, .one (i8 (.at 14))), (4, .one (.bool (.lit false))), (2, .one (.ptr 0 0)), (0, CV), (1, .one (i8 (.at 0)))], [], [0], ex, [pmm ++ kIn 14 1 ++ uA, pmm ++ kIn 14 1 ++ uB, pmm ++ kIn 14 1 ++ uC], 1⟩
def kF (b : Bool) : Con := [(39, [CV, .one (i8 day)], .one (.bool (.lit b)))]
def AO : List SV := [CV, .one (i8 (.at 0))]
theorem ro_x : treeL Try.prog (kF false) [L0, L1] [U (kIn 14 1 ++ uX)] pmm 300 30 20 AO = TR := by kernel_rfl
theorem ro_n : treeL Try.prog (kF false) [L0, L1] [U (kOut 14 1)] pmm 300 30 20 AO = FL := by kernel_rfl
theorem ro_f : treeL Try.prog (kF true) [L0, L1] [] pmm 300 30 20 AO = FL := by kernel_rfl
theorem ro_m : treeL Try.prog [] [L0, L1] [] pmx 300 30 20 AO = FL := by kernel_rfl
def Hit (S : C0) (k : Int) : Prop := S.wd k = S.day.tmod 7 + 1 ∧ S.fr k ≤ S.m.tmod 1440 ∧ S.m.tmod 1440 < S.to k
/-- Whether there is work. -/
def Opn (S : C0) : Prop := S.m < 14400000 ∧ ¬ FreeDay S ∧ ∃ k, 0 ≤ k ∧ k < S.n1 ∧ Hit S k
def OArgs (S : C0) (y z : Lay) : Array Value := #[CVal S y z, .int .i64 S.m]
def CallsO (f : FuncId) (v : Value) (S : C0) (y z : Lay) (W : World) : Prop := Calls Try.prog f (OArgs S y z) W fun e w' => e = .returned v ∧ Below W.heap.size W w'
theorem runO {con : Con} {lps : List LAnn} {pc : PC} {f : FuncId} {t : T SV} {u : Value} (hF : Fam (Bs Try.prog W con [L0, L1]) lps (ES S y z be k0 k1 k2 k3 k4)) (hpc : pc.Ok (ES S y z be k0 k1 k2 k3 k4)) (ht : treeL Try.prog con [L0, L1] lps pc 300 30 f AO = t) (hcb : callable Try.prog f = true)
    (hg : t.All (ES S y z be k0 k1 k2 k3 k4) (· = u)) : CallsO f u S y z W := by
  have h := tree_funL hF hpc wide ht hcb rfl hg
  exact h
theorem pm_ok (h : Few S) (m0 : 0 ≤ S.m) (m1 : S.m ≤ 14400000) : pm.Ok (ES S y z be k0 k1 k2 k3 k4) := (pn_ok h).app (rg_ok (i := 0) m0 m1)
theorem pmm_ok (h : Few S) (m0 : 0 ≤ S.m) (m1 : S.m < 14400000) : pmm.Ok (ES S y z be k0 k1 k2 k3 k4) := (pm_ok h m0 (by omega)).app (.cons' m1 (.cons' m1 .nil))
theorem kF_ok {b : Bool} (h : ∀ w, Below W.heap.size W w → Calls Try.prog 39 (FArgs S y z) w fun e w' => e = .returned (.bool b) ∧ Below w.heap.size w w') : ConOkW Try.prog (ES S y z be k0 k1 k2 k3 k4) W (kF b) := .cons (fun _ w hb => h w hb) .nil
theorem hit_no (h : ¬ Hit S k4) : uA.Ok (ES S y z be k0 k1 k2 k3 k4) ∨ uB.Ok (ES S y z be k0 k1 k2 k3 k4) ∨ uC.Ok (ES S y z be k0 k1 k2 k3 k4) := by
  by_cases c0 : S.wd k4 = S.day.tmod 7 + 1
  · by_cases c1 : S.fr k4 ≤ S.m.tmod 1440
    · exact .inr (.inr (.cons' c0 (.cons' c1 (.cons' (Int.not_lt.1 fun c => h ⟨c0, c1, c⟩) .nil))))
    · exact .inr (.inl (.cons' c0 (.cons' (Int.not_le.1 c1) .nil)))
  · exact .inl (.cons' c0 .nil)
theorem famU {con : Con} {ex : PC} (hb : ∀ j, Fam (Bs Try.prog W con [L0, L1]) [] (ES S y z 0 0 0 0 0 j)) (h : Few S) (m0 : 0 ≤ S.m) (m1 : S.m < 14400000) (h0 : 0 ≤ k4) (h1 : k4 ≤ S.n1) (hc : ∀ j, 0 ≤ j → j < k4 → ¬ Hit S j) (hex : ex.Ok (ES S y z 0 0 0 0 0 k4)) : Fam (Bs Try.prog W con [L0, L1]) [U ex] (ES S y z 0 0 0 0 0 k4) := by
  refine ⟨hb _, h0, hex, fun j a b => ?_⟩
  have b : j < k4 := b
  have e : (ES S y z 0 0 0 0 0 k4).upd (U ex).i j = ES S y z 0 0 0 0 0 j := ES_14
  rw [e]
  have q := (pmm_ok (y := y) (z := z) (be := 0) (k0 := 0) (k1 := 0) (k2 := 0) (k3 := 0) (k4 := j) h m0 m1).app (kIn5 h a (by omega))
  refine ⟨?_, hb _⟩
  rcases hit_no (y := y) (z := z) (be := 0) (k0 := 0) (k1 := 0) (k2 := 0) (k3 := 0) (hc j a b) with g | g | g
  · exact ⟨_, List.mem_cons_self .., q.app g⟩
  · exact ⟨_, List.mem_cons_of_mem _ (List.mem_cons_self ..), q.app g⟩
  · exact ⟨_, List.mem_cons_of_mem _ (List.mem_cons_of_mem _ (List.mem_cons_self ..)), q.app g⟩
theorem ropen_any (hL : Lies S y z W) (h : Few S) (m0 : 0 ≤ S.m) (m1 : S.m ≤ 14400000) : (Opn S → CallsO 20 (.bool true) S y z W) ∧ (¬ Opn S → CallsO 20 (.bool false) S y z W) := by
  by_cases c : S.m < 14400000
  · by_cases f : FreeDay S
    · refine ⟨fun q => absurd f q.2.1, fun _ => ?_⟩
      exact runO (be := 0) (k0 := 0) (k1 := 0) (k2 := 0) (k3 := 0) (k4 := 0) (lps := []) ⟨kF_ok fun w hb => (free_any (hL.mono hb) h).1 f, esl hL⟩ (pmm_ok h m0 c) ro_f (by kernel_rfl) (All.ret rfl)
    · have hb : ∀ j, Fam (Bs Try.prog W (kF false) [L0, L1]) [] (ES S y z 0 0 0 0 0 j) := fun j => ⟨kF_ok fun w hb => (free_any (hL.mono hb) h).2 f, esl hL⟩
      obtain ⟨k, a0, a1, a2, a3⟩ := first_of (fun j => ¬ Hit S j) S.n1 h.a
      rcases a3 with rfl | ⟨a3, a4⟩
      · refine ⟨fun ⟨_, _, j, b0, b1, b2⟩ => absurd b2 (a2 j b0 b1), fun _ => ?_⟩
        have q : (kOut 14 1).Ok (ES S y z 0 0 0 0 0 S.n1) := .cons' (Int.le_refl _) .nil
        exact runO (famU hb h m0 c a0 a1 a2 q) (pmm_ok h m0 c) ro_n (by kernel_rfl) (All.ret rfl)
      · have e : Hit S k := Classical.byContradiction a4
        refine ⟨fun _ => ?_, fun hn => absurd ⟨c, f, k, a0, a3, e⟩ hn⟩
        have q : uX.Ok (ES S y z 0 0 0 0 0 k) := .cons' e.1 (.cons' e.2.1 (.cons' e.2.2 .nil))
        exact runO (famU hb h m0 c a0 a1 a2 ((kIn5 h a0 a3).app q)) (pmm_ok h m0 c) ro_x (by kernel_rfl) (All.ret rfl)
  · refine ⟨fun q => absurd q.1 c, fun _ => ?_⟩
    have q : PC.Ok (ES S y z 0 0 0 0 0 0) [(.le (.lit 14400000) (.at 0), true)] := .cons' (Int.not_lt.1 c) .nil
    exact runO (be := 0) (k0 := 0) (k1 := 0) (k2 := 0) (k3 := 0) (k4 := 0) (lps := []) (base0 hL) ((pm_ok h m0 m1).app q) ro_m (by kernel_rfl) (All.ret rfl)
end
end Go.Proofs.Ytlmijfgmfcnngaa
