/- Calendars: Open; ShiftChecks. -/
import Derived.Test.YtlmijfgmfcnngaaShfE
namespace Go.Proofs.Ytlmijfgmfcnngaa
open Go.RowKit
section
variable {S : C0} {y z : Lay} {W : World} {be k0 k1 k2 k3 k4 : Int}
def toE : IE := .mn (.add (.at 0) (.lit 1)) (.lit 14400000)
def dR : PC := [(.lt day (.lit 0), false), (.lt (.lit 10000) day, false)]
def dF : PC := [(.lt (.mul day (.lit 1440)) toE, true), (.lt (.mul (nx day) (.lit 1440)) toE, false)]
def dM : PC := [(.lt (.mul day (.lit 1440)) toE, false)]
def lt0 : PC := [(.lt (.at 0) (.lit 14400000), true)]
def kBS (b : Bool) : Con := (60, [.one (.ssl L1), .one (i8 day)], .tup [⟨false, [i8 (.at 9)]⟩, ⟨false, [.bool (.lit b)]⟩]) :: kC
def sm (k : IE) : IE := .ap 7 k (.lit 0)
def loX (k : IE) : IE := .mx (.at 0) (.add (.mul day (.lit 1440)) (s0 k 1))
def hiX (k : IE) : IE := .mn toE (.add (.mul day (.lit 1440)) (s0 k 2))
def pO : PC := pm ++ dR ++ dF
def rS : PC := rngE (s0 (.at 14) 1) 0 1440 ++ rngE (s0 (.at 14) 2) 0 1440 ++ rngE (sm (.at 14)) 0 64
def sA : PC := [(.eq (s0 (.at 14) 0) wdE, false), (.eq (sm (nx (.at 14))) (sm (.at 14)), true)]
def sB : PC := [(.eq (s0 (.at 14) 0) wdE, true), (.lt (loX (.at 14)) (hiX (.at 14)), false), (.eq (sm (nx (.at 14))) (sm (.at 14)), true)]
def sC : PC := [(.eq (s0 (.at 14) 0) wdE, true), (.lt (loX (.at 14)) (hiX (.at 14)), true), (.eq (sm (nx (.at 14))) (.add (sm (.at 14)) (.sub (hiX (.at 14)) (loX (.at 14)))), true)]
def pS : PC := pO ++ kIn 14 1 ++ rS
def A5 : LAnn := ⟨646609, 14, [(19, .one (i8 (.at 14))), (18, .one (i8 (.at 1))), (17, .one (.ssl L0)), (0, .one (.nm 17)), (1, .one (.ptr 13 0)), (2, .one (.ptr 14 0))], [(4, ⟨3, [i8 (sm (.at 14))], 0, false, []⟩)], [6, 7, 9, 10, 11, 12, 13, 14, 15, 16, 17], kOut 14 1, [pS ++ sA, pS ++ sB, pS ++ sC], 18⟩
def st7 : PC := [(.eq (sm (.lit 0)) (.lit 0), true)]
def pOn : PC := pO ++ (st7 ++ lt0)
def pOm : PC := pm ++ dR ++ dM
def FT : T SV := .ret (.tup [⟨false, [.bool (.lit false)]⟩, ⟨false, [i8 (.lit 0)]⟩])
theorem op_n : treeL Try.prog (kBS false) [L0, L1] [A5] pOn 300 30 13 AO = .ret (.tup [⟨false, [.bool (.eq (sm (.at 14)) (.lit 1))]⟩, ⟨false, [i8 (.lit 0)]⟩]) := by kernel_rfl
theorem op_f : treeL Try.prog (kBS true) [L0, L1] [] pOn 300 30 13 AO = FT := by kernel_rfl
theorem op_m : treeL Try.prog kC [L0, L1] [] pOm 300 30 13 AO = FT := by kernel_rfl
theorem kBS_ok {b : Bool} (hL : Lies S y z W) (h : Few S) (hc : Ck S 0) (ho : ∀ j, 0 ≤ j → j + 1 < S.n2 → S.Od j) (hb : b = true ↔ FreeDay S) : ConOkW Try.prog (ES S y z (idx S) k0 k1 k2 k3 k4) W (kBS b) := .cons (fun _ _ hw => bs_any (hL.mono hw) h ho hb) (kC_ok hL hc)
theorem toM (m1 : S.m < 14400000) : mnI (S.m + 1) 14400000 = S.m + 1 := by unfold mnI; rw [if_neg (by omega)]
theorem dR_ok (m0 : 0 ≤ S.m) (m1 : S.m ≤ 14400000) : dR.Ok (ES S y z be k0 k1 k2 k3 k4) := by
  obtain ⟨d0, d1, d2, d3⟩ := dayE m0
  exact .cons' d0 (.cons' (show S.day ≤ 10000 by omega) .nil)
theorem pO_ok (h : Few S) (m0 : 0 ≤ S.m) (m1 : S.m < 14400000) : pO.Ok (ES S y z be k0 k1 k2 k3 k4) := by
  obtain ⟨d0, d1, d2, d3⟩ := dayE m0
  have e := toM m1
  refine ((pm_ok h m0 (by omega)).app (dR_ok m0 (by omega))).app (.cons' ?_ (.cons' ?_ .nil))
  · show S.day * 1440 < mnI (S.m + 1) 14400000
    omega
  · show mnI (S.m + 1) 14400000 ≤ (S.day + 1) * 1440
    omega
theorem pOn_ok (h : Few S) (m0 : 0 ≤ S.m) (m1 : S.m < 14400000) : pOn.Ok (ES S y z be k0 k1 k2 k3 k4) := (pO_ok h m0 m1).app (.cons' (show S.sm 0 = 0 from rfl) (.cons' m1 .nil))
theorem pOm_ok (h : Few S) (m0 : 0 ≤ S.m) (m1 : S.m ≤ 14400000) (mx : ¬ S.m < 14400000) : pOm.Ok (ES S y z be k0 k1 k2 k3 k4) := by
  obtain ⟨d0, d1, d2, d3⟩ := dayE m0
  refine ((pm_ok h m0 m1).app (dR_ok m0 m1)).app (.cons' ?_ .nil)
  show mnI (S.m + 1) 14400000 ≤ S.day * 1440
  have := mnI_spec (S.m + 1) 14400000
  omega
theorem famO (hL : Lies S y z W) (h : Few S) (hc : Ck S 0) (hr : InR S) (ho : InO S) (m0 : 0 ≤ S.m) (m1 : S.m < 14400000) (hf : false = true ↔ FreeDay S) : Fam (Bs Try.prog W (kBS false) [L0, L1]) [A5] (ES S y z (idx S) 0 0 0 0 S.n1) := by
  have base : ∀ j, Fam (Bs Try.prog W (kBS false) [L0, L1]) [] (ES S y z (idx S) 0 0 0 0 j) := fun j => ⟨kBS_ok hL h hc ho.2 hf, esl hL⟩
  refine ⟨base _, h.a, .cons' (Int.le_refl _) .nil, fun j a b => ?_⟩
  have b : j < S.n1 := b
  have e : (ES S y z (idx S) 0 0 0 0 S.n1).upd A5.i j = ES S y z (idx S) 0 0 0 0 j := ES_14
  rw [e]
  refine ⟨?_, base _⟩
  obtain ⟨_, _, b1, b2, b3⟩ := hr.1 j a b
  obtain ⟨s1, s2⟩ := sm_bd hr.1 ho.1 m0 m1 j.toNat (by omega)
  have es := sm_succ (S := S) a
  have q0 : PC.Ok (ES S y z (idx S) 0 0 0 0 j) (rngE (s0 (.at 14) 1) 0 1440) := rngE_ok (e := s0 (.at 14) 1) b1 (show S.fr j ≤ 1440 by omega)
  have q1 : PC.Ok (ES S y z (idx S) 0 0 0 0 j) (rngE (s0 (.at 14) 2) 0 1440) := rngE_ok (e := s0 (.at 14) 2) (show 0 ≤ S.to j by omega) b3
  have q2 : PC.Ok (ES S y z (idx S) 0 0 0 0 j) (rngE (sm (.at 14)) 0 64) := rngE_ok (e := sm (.at 14)) s1 (show S.sm j.toNat ≤ 64 by omega)
  have q3 : PC.Ok (ES S y z (idx S) 0 0 0 0 j) rS := (q0.app q1).app q2
  have q : PC.Ok (ES S y z (idx S) 0 0 0 0 j) pS := ((pO_ok h m0 m1).app (kIn5 h a b)).app q3
  by_cases c0 : S.wd j = S.day.tmod 7 + 1
  · rw [if_pos c0] at es
    by_cases c1 : S.lo j < S.hi j
    · rw [if_pos c1] at es
      have g : PC.Ok (ES S y z (idx S) 0 0 0 0 j) sC := .cons' c0 (.cons' c1 (.cons' es .nil))
      exact ⟨_, List.mem_cons_of_mem _ (List.mem_cons_of_mem _ (List.mem_cons_self ..)), q.app g⟩
    · rw [if_neg c1, Int.add_zero] at es
      have g : PC.Ok (ES S y z (idx S) 0 0 0 0 j) sB := .cons' c0 (.cons' (Int.not_lt.1 c1) (.cons' es .nil))
      exact ⟨_, List.mem_cons_of_mem _ (List.mem_cons_self ..), q.app g⟩
  · rw [if_neg c0, Int.add_zero] at es
    have g : PC.Ok (ES S y z (idx S) 0 0 0 0 j) sA := .cons' c0 (.cons' es .nil)
    exact ⟨_, List.mem_cons_self .., q.app g⟩
theorem open_any (hL : Lies S y z W) (h : Few S) (hc : Ck S 0) (hr : InR S) (ho : InO S) (m0 : 0 ≤ S.m) (m1 : S.m ≤ 14400000) : (Opn S → CallsO 13 (.tuple #[.bool true, .int .i64 0]) S y z W) ∧ (¬ Opn S → CallsO 13 (.tuple #[.bool false, .int .i64 0]) S y z W) := by
  by_cases c : S.m < 14400000
  · by_cases f : FreeDay S
    · refine ⟨fun q => absurd f q.2.1, fun _ => ?_⟩
      have hf : true = true ↔ FreeDay S := ⟨fun _ => f, fun _ => rfl⟩
      exact runO (be := idx S) (k0 := 0) (k1 := 0) (k2 := 0) (k3 := 0) (k4 := 0) (lps := []) ⟨kBS_ok hL h hc ho.2 hf, esl hL⟩ (pOn_ok h m0 c) op_f (by kernel_rfl) (All.ret rfl)
    · have hf : false = true ↔ FreeDay S := ⟨fun e => (by cases e), fun e => absurd e f⟩
      obtain ⟨p, q⟩ := sm_is hr.1 ho.1 m0 c S.n1.toNat (by have := h.a; omega)
      have fin : ∀ v : Bool, decide (S.sm S.n1.toNat = 1) = v → CallsO 13 (.tuple #[.bool v, .int .i64 0]) S y z W := fun v e =>
        runO (famO hL h hc hr ho m0 c hf) (pOn_ok h m0 c) op_n (by kernel_rfl) (All.ret (by rw [← e]; rfl))
      have ha := h.a
      constructor
      · rintro ⟨_, _, k, g0, g1, g2⟩
        exact fin true (decide_eq_true (p ⟨k, g0, by omega, g2⟩))
      · intro hn
        exact fin false (decide_eq_false (by rw [q fun i a b d => hn ⟨c, f, i, a, by omega, d⟩]; decide))
  · refine ⟨fun q => absurd q.1 c, fun _ => ?_⟩
    exact runO (be := 0) (k0 := 0) (k1 := 0) (k2 := 0) (k3 := 0) (k4 := 0) (lps := []) ⟨kC_ok hL hc, esl hL⟩ (pOm_ok h m0 m1 c) op_m (by kernel_rfl) (All.ret rfl)
/-! The law -/
def kK (v : IE) : Con := (17, [CV], .one (i8 v)) :: (16, [CV], .one (i8 v)) :: con1
def kK9 : Con := kK (.at 9)
def kW : Con := (15, [CV], .tup [⟨false, [i8 (.at 14)]⟩, ⟨false, [i8 (.lit 0)]⟩]) :: (18, [CV], .one (i8 (.at 14))) :: kK (.lit 0)
def kO (o : Bool) : Con := (13, AO, .tup [⟨false, [.bool (.lit o)]⟩, ⟨false, [i8 (.lit 0)]⟩]) :: (20, AO, .one (.bool (.lit o))) :: kW
def l1 : PC := [(.lt (.lit 70) (.at 1), true)]
def l2 : PC := [(.lt (.lit 70) (.at 1), false), (.lt (.lit 70) (.at 2), true)]
def l3 : PC := [(.lt (.lit 70) (.at 1), false), (.lt (.lit 70) (.at 2), false), (.eq (.at 9) (.lit 0), false)]
def l4 : PC := pn ++ [(.lt (.at 0) (.lit 0), true)]
def l5 : PC := pn ++ [(.lt (.at 0) (.lit 0), false), (.lt (.lit 14400000) (.at 0), true)]
theorem law_1 : treeBL Try.prog kK9 [L0, L1] [] l1 300 30 3 AO = TR := by kernel_rfl
theorem law_2 : treeBL Try.prog kK9 [L0, L1] [] l2 300 30 3 AO = TR := by kernel_rfl
theorem law_3 : treeBL Try.prog kK9 [L0, L1] [] l3 300 30 3 AO = TR := by kernel_rfl
theorem law_4 : treeBL Try.prog kW [L0, L1] [] l4 300 30 3 AO = TR := by kernel_rfl
theorem law_5 : treeBL Try.prog kW [L0, L1] [] l5 300 30 3 AO = TR := by kernel_rfl
theorem law_6 : treeBL Try.prog (kO true) [L0, L1] [] pm 300 30 3 AO = TR := by kernel_rfl
theorem law_7 : treeBL Try.prog (kO false) [L0, L1] [] pm 300 30 3 AO = TR := by kernel_rfl
def LawS (S : C0) (y z : Lay) (W : World) : Prop := Calls Try.prog 3 (OArgs S y z) W fun e w' => e = .returned (.bool true) ∧ Below W.heap.size W w'
theorem lawC {con : Con} {pc : PC} (hL : Lies S y z W) (hcon : ConOkW Try.prog (ES S y z be k0 k1 k2 k3 k4) W con) (hpc : pc.Ok (ES S y z be k0 k1 k2 k3 k4)) (ht : treeBL Try.prog con [L0, L1] [] pc 300 30 3 AO = TR) : LawS S y z W := by
  have hB : Bs Try.prog W con [L0, L1] (ES S y z be k0 k1 k2 k3 k4) := ⟨hcon, esl hL⟩
  have hF : Fam (Bs Try.prog W con [L0, L1]) [] (ES S y z be k0 k1 k2 k3 k4) := hB
  have h := tree_lawL hF hpc wide ht (by kernel_rfl) rfl Good.yes
  exact h
theorem kK_ok {v : IE} {n : Int} (hL : Lies S y z W) (hc : Ck S n) (hv : v.den (ES S y z be k0 k1 k2 k3 k4) = n) : ConOkW Try.prog (ES S y z be k0 k1 k2 k3 k4) W (kK v) :=
  .cons (fun _ _ hb => by have := check_any (hL.mono hb) hc; rw [← hv] at this; exact this) (.cons (fun _ _ hb => by have := rcheck_any (hL.mono hb) hc; rw [← hv] at this; exact this) ((con1_ok _).at W))
theorem kW_ok (hL : Lies S y z W) (h : Few S) (hr : InR S) (hc : Ck S 0) : ConOkW Try.prog (ES S y z be k0 k1 k2 k3 (S.wk S.n1.toNat)) W kW :=
  .cons (fun _ _ hb => week_any (hL.mono hb) h hr hc) (.cons (fun _ _ hb => rweek_any (hL.mono hb) h hr) (kK_ok hL hc rfl))
theorem checks_walk (hL : Lies S y z W) : LawS S y z W := by
  obtain ⟨v, hc⟩ := ck_ex hL.n1 hL.n2
  have k9 : ConOkW Try.prog (ES S y z v 0 0 0 0 0) W kK9 := kK_ok hL hc rfl
  by_cases c1 : 70 < S.n1
  · have q : l1.Ok (ES S y z v 0 0 0 0 0) := .cons' c1 .nil
    exact lawC hL k9 q law_1
  by_cases c2 : 70 < S.n2
  · have q : l2.Ok (ES S y z v 0 0 0 0 0) := .cons' (Int.not_lt.1 c1) (.cons' c2 .nil)
    exact lawC hL k9 q law_2
  by_cases c3 : v = 0
  case neg =>
    have q : l3.Ok (ES S y z v 0 0 0 0 0) := .cons' (Int.not_lt.1 c1) (.cons' (Int.not_lt.1 c2) (.cons' c3 .nil))
    exact lawC hL k9 q law_3
  subst c3
  have hc' := hc
  rcases hc with ⟨_, e⟩ | ⟨_, _, e⟩ | ⟨_, _, _, e⟩ | ⟨h, hr, ho, _⟩
  · cases e
  · cases e
  · cases e
  have kw : ConOkW Try.prog (ES S y z 0 0 0 0 0 (S.wk S.n1.toNat)) W kW := kW_ok hL h hr hc'
  by_cases m0 : S.m < 0
  · have q : PC.Ok (ES S y z 0 0 0 0 0 (S.wk S.n1.toNat)) [(.lt (.at 0) (.lit 0), true)] := .cons' m0 .nil
    exact lawC hL kw ((pn_ok h).app q) law_4
  have m0 := Int.not_lt.1 m0
  by_cases m1 : 14400000 < S.m
  · have q : PC.Ok (ES S y z 0 0 0 0 0 (S.wk S.n1.toNat)) [(.lt (.at 0) (.lit 0), false), (.lt (.lit 14400000) (.at 0), true)] := .cons' m0 (.cons' m1 .nil)
    exact lawC hL kw ((pn_ok h).app q) law_5
  have m1 := Int.not_lt.1 m1
  by_cases o : Opn S
  · have ko : ConOkW Try.prog (ES S y z 0 0 0 0 0 (S.wk S.n1.toNat)) W (kO true) := .cons (fun _ _ hb => (open_any (hL.mono hb) h hc' hr ho m0 m1).1 o) (.cons (fun _ _ hb => (ropen_any (hL.mono hb) h m0 m1).1 o) kw)
    exact lawC hL ko (pm_ok h m0 m1) law_6
  · have ko : ConOkW Try.prog (ES S y z 0 0 0 0 0 (S.wk S.n1.toNat)) W (kO false) := .cons (fun _ _ hb => (open_any (hL.mono hb) h hc' hr ho m0 m1).2 o) (.cons (fun _ _ hb => (ropen_any (hL.mono hb) h m0 m1).2 o) kw)
    exact lawC hL ko (pm_ok h m0 m1) law_7
end
end Go.Proofs.Ytlmijfgmfcnngaa
