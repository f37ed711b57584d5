/- Areas; the law. -/
import Derived.Test.YtmpadjlplgajcaaPckC
namespace Go.Proofs.Ytmpadjlplgajcaa
open Go.RowKit
section
variable {S : S0} {y : Lay} {W : World} {K k14 k15 k16 k17 k18 k19 : Int}
theorem mul_abs {a b : Int} {m : Nat} (ha : a.natAbs ≤ m) (hb : b.natAbs ≤ m) : (a * b).natAbs ≤ m * m := by
  rw [Int.natAbs_mul]; exact Nat.mul_le_mul ha hb
theorem crs_abs {a b c d e f : Int} (ha : InM a) (hb : InM b) (hc : InM c) (hd : InM d) (he : InM e) (hf : InM f) : (crs a b c d e f).natAbs ≤ 8000000000000 := by
  unfold InM at *
  have h1 := mul_abs (a := c - a) (b := f - b) (m := 2000000) (by omega) (by omega)
  have h2 := mul_abs (a := d - b) (b := e - a) (m := 2000000) (by omega) (by omega)
  unfold crs
  omega
theorem sP_abs (h : Rng S) : ∀ k : Nat, (S.sP k).natAbs ≤ k * 2000000000000
  | 0 => by show (0 : Int).natAbs ≤ _; simp
  | k + 1 => by
    have ih := sP_abs h k
    have x0 := h.X k
    have y0 := h.Y k
    have x1 := h.X (S.nx k)
    have y1 := h.Y (S.nx k)
    unfold InM at x0 y0 x1 y1
    have h1 := mul_abs (a := S.X k) (b := S.Y (S.nx k)) (m := 1000000) (by omega) (by omega)
    have h2 := mul_abs (a := S.X (S.nx k)) (b := S.Y k) (m := 1000000) (by omega) (by omega)
    simp only [S0.sP]
    omega
theorem sR_abs (h : Rng S) : ∀ k : Nat, (S.sR k).natAbs ≤ k * 8000000000000
  | 0 => by show (0 : Int).natAbs ≤ _; simp
  | k + 1 => by
    have ih := sR_abs h k
    have := crs_abs (h.X 0) (h.Y 0) (h.X ((k : Int) + 1)) (h.Y ((k : Int) + 1)) (h.X ((k : Int) + 1 + 1)) (h.Y ((k : Int) + 1 + 1))
    simp only [S0.sR]
    omega
theorem sum_eq : ∀ k : Nat, (k : Int) + 2 ≤ S.n → S.sR k = S.sP (k + 1) - S.X 0 * S.Y ((k : Int) + 1) + S.Y 0 * S.X ((k : Int) + 1)
  | 0, h => by
    have e : S.nx 0 = 1 := by
      rcases nx_cases (S := S) (i := 0) (by omega) (by omega) with q | q <;> omega
    have e0 : S.nx ((0 : Nat) : Int) = 1 := e
    have z : ((0 : Nat) : Int) + 1 = 1 := rfl
    simp only [S0.sP, S0.sR, e0, z]
    show (0 : Int) = 0 + (S.X 0 * S.Y 1 - S.X 1 * S.Y 0) - S.X 0 * S.Y 1 + S.Y 0 * S.X 1
    grind
  | k + 1, h => by
    have ih := sum_eq k (by omega)
    have e : S.nx ((k + 1 : Nat) : Int) = (k : Int) + 1 + 1 := by
      rcases nx_cases (S := S) (i := ((k + 1 : Nat) : Int)) (by omega) (by omega) with q | q <;> omega
    have e1 : ((k + 1 : Nat) : Int) = (k : Int) + 1 := by omega
    have s1 : S.sR (k + 1) = S.sR k + crs (S.X 0) (S.Y 0) (S.X ((k : Int) + 1)) (S.Y ((k : Int) + 1)) (S.X ((k : Int) + 1 + 1)) (S.Y ((k : Int) + 1 + 1)) := rfl
    have s2 : S.sP (k + 1 + 1) = S.sP (k + 1) + (S.X ((k + 1 : Nat) : Int) * S.Y (S.nx ((k + 1 : Nat) : Int)) - S.X (S.nx ((k + 1 : Nat) : Int)) * S.Y ((k + 1 : Nat) : Int)) := rfl
    rw [s1, s2, ih, e, e1]
    unfold crs
    grind
theorem sums (n3 : 3 ≤ S.n) : S.sR (S.n - 2).toNat = S.sP S.n.toNat := by
  have h := sum_eq (S := S) (S.n - 2).toNat (by omega)
  obtain ⟨m, hm⟩ : ∃ m : Nat, S.n = (m : Int) + 2 := ⟨(S.n - 2).toNat, by omega⟩
  have e1 : (S.n - 2).toNat = m := by omega
  have e2 : S.n.toNat = m + 1 + 1 := by omega
  rw [e1] at h ⊢
  rw [e2]
  have s2 : S.sP (m + 1 + 1) = S.sP (m + 1) + (S.X ((m + 1 : Nat) : Int) * S.Y (S.nx ((m + 1 : Nat) : Int)) - S.X (S.nx ((m + 1 : Nat) : Int)) * S.Y ((m + 1 : Nat) : Int)) := rfl
  have e : S.nx ((m + 1 : Nat) : Int) = 0 := by
    rcases nx_cases (S := S) (i := ((m + 1 : Nat) : Int)) (by omega) (by omega) with q | q <;> omega
  have e3 : ((m + 1 : Nat) : Int) = (m : Int) + 1 := by omega
  rw [s2, h, e, e3]
  grind
/-! Area2. -/
def sRE (k : IE) : IE := .ap 42 k (.lit 0)
def sPE (k : IE) : IE := .ap 43 k (.lit 0)
def big : Int := 1000000000000000
def u1 : IE := .add (.at 18) (.lit 1)
def u2 : IE := .add u1 (.lit 1)
def kB : PC := [(.lt (.at 18) (.lit 0), false), (.lt (.lit 64) (.at 18), false), (.lt (.lit 0) (.at 8), true)]
def rdR : PC := pcn ++ inX u1 ++ inX u2 ++ kB ++ inR (.lit 0) ++ inR u1 ++ inR u2 ++ rngE (sRE (.at 18)) (-big) big ++ [(.eq (sRE u1) (.add (sRE (.at 18)) (crsE (.lit 0) u1 u2)), true)]
def ARa : LAnn := ⟨458458, 18, [(4, .one (i8 u1)), (3, .one (i8 (sRE (.at 18)))), (2, .one (i8 (.lit 0))), (1, .one (.ptr 0 0))], [], [0], [(.lt u2 (.at 8), false), (.lt (.lit 64) (.at 18), false), (.lt (.at 18) (.lit 0), false)], [rdR], 1, [], [], []⟩
def rdP : PC := pcn ++ rowF (.at 18) ++ rngE (sPE (.at 18)) (-big) big ++ [(.eq (sPE u1) (.add (sPE (.at 18)) (.sub (.mul (px (.at 18)) (py (nE (.at 18)))) (.mul (px (nE (.at 18))) (py (.at 18))))), true)]
def AA : LAnn := ⟨908228, 18, [(7, .one (i8 (.at 18))), (6, .one (i8 (.at 8))), (5, .one (.ssl L0)), (0, .one (.nm 4)), (1, .one (.ptr 1 0))], [(0, ⟨2, [i8 (sPE (.at 18))], 0, false, []⟩)], [1, 2, 3, 4], kOut 18, [rdP], 5, [], [], []⟩
theorem ar_tree : treeL Try.prog [] [L0] [ARa] (pcn ++ [(.eq (sRE (.lit 0)) (.lit 0), true)]) 300 20 16 [prismV] = .ret (.one (i8 (sRE (.at 18)))) := by kernel_rfl
theorem ap_tree : treeL Try.prog [] [L0] [AA] (pcn ++ [(.eq (sPE (.lit 0)) (.lit 0), true)]) 300 20 55 [.one (.ssl L0)] = .ret (.one (i8 (sPE (.at 18)))) := by kernel_rfl
theorem arR_is (hL : Lies S y W) (h : Rng S) : Calls Try.prog 16 #[PV S y] W fun e w' => e = .returned (.int .i64 (S.sP S.n.toNat)) ∧ Below W.heap.size W w' := by
  have n3 := h.n3
  have n64 := h.n64
  have hF : Fam (Bs Try.prog W [] [L0]) [ARa] (EC S y 0 0 0 0 0 (S.n - 2) 0) := by
    refine ⟨⟨.nil, ecl hL⟩, (show 0 ≤ S.n - 2 by omega), ⟨.cons' (show S.n ≤ S.n - 2 + 1 + 1 by omega) (.cons' (show S.n - 2 ≤ 64 by omega) (.cons' (show 0 ≤ S.n - 2 by omega) .nil)), .nil⟩, fun j h0 h1 => ?_⟩
    have e : (EC S y 0 0 0 0 0 (S.n - 2) 0).upd ARa.i j = EC S y 0 0 0 0 0 j 0 := EC_18
    rw [e]
    have h1 : j < S.n - 2 := h1
    have e1 : (j + 1).toNat = j.toNat + 1 := by omega
    have e2 : ((j.toNat : Nat) : Int) = j := by omega
    have ab := sR_abs h j.toNat
    have q1 : PC.Ok (EC S y 0 0 0 0 0 j 0) kB := .cons' h0 (.cons' (show j ≤ 64 by omega) (.cons' (show 0 < S.n by omega) .nil))
    have q2 : PC.Ok (EC S y 0 0 0 0 0 j 0) (rngE (sRE (.at 18)) (-big) big) := rngE_ok (e := sRE (.at 18)) (show -1000000000000000 ≤ S.sR j.toNat by omega) (show S.sR j.toNat ≤ 1000000000000000 by omega)
    have q3 : PC.Ok (EC S y 0 0 0 0 0 j 0) [(.eq (sRE u1) (.add (sRE (.at 18)) (crsE (.lit 0) u1 u2)), true)] := by
      refine .cons' ?_ .nil
      show S.sR (j + 1).toNat = S.sR j.toNat + (crsE (.lit 0) u1 u2).den (EC S y 0 0 0 0 0 j 0)
      rw [ec_lk.crs, e1]
      simp only [S0.sR, e2]
      rfl
    exact ⟨⟨⟨_, List.mem_singleton.2 rfl, ((((((((ec_lk.pcn h).app (ec_lk.inX h (e := u1) (show 0 ≤ j + 1 by omega) (show j + 1 < S.n by omega))).app (ec_lk.inX h (e := u2) (show 0 ≤ j + 1 + 1 by omega) (show j + 1 + 1 < S.n by omega))).app q1).app (ec_lk.inR h _)).app (ec_lk.inR h _)).app (ec_lk.inR h _)).app q2).app q3⟩, .nil⟩, ⟨.nil, ecl hL⟩⟩
  have q : PC.Ok (EC S y 0 0 0 0 0 (S.n - 2) 0) [(.eq (sRE (.lit 0)) (.lit 0), true)] := .cons' (show S.sR 0 = 0 from rfl) .nil
  refine tree_funL hF ((ec_lk.pcn h).app q) wide ar_tree (by kernel_rfl) rfl (u := .int .i64 (S.sP S.n.toNat)) (All.ret ?_)
  show Value.int .i64 (S.sR (S.n - 2).toNat) = _
  rw [sums n3]
theorem arP_in (hL : Lies S y W) (h : Rng S) : Calls Try.prog 55 #[LV S y] W fun e w' => e = .returned (.int .i64 (S.sP S.n.toNat)) ∧ Below W.heap.size W w' := by
  have n64 := h.n64
  have hF : Fam (Bs Try.prog W [] [L0]) [AA] (EC S y 0 0 0 0 0 S.n 0) := by
    refine ⟨⟨.nil, ecl hL⟩, hL.nn, ⟨kOut_ok (i := 18) (Int.le_refl _), .nil⟩, fun j h0 h1 => ?_⟩
    have e : (EC S y 0 0 0 0 0 S.n 0).upd AA.i j = EC S y 0 0 0 0 0 j 0 := EC_18
    rw [e]
    have h1 : j < S.n := h1
    have e1 : (j + 1).toNat = j.toNat + 1 := by omega
    have e2 : ((j.toNat : Nat) : Int) = j := by omega
    have ab := sP_abs h j.toNat
    have q2 : PC.Ok (EC S y 0 0 0 0 0 j 0) (rngE (sPE (.at 18)) (-big) big) := rngE_ok (e := sPE (.at 18)) (show -1000000000000000 ≤ S.sP j.toNat by omega) (show S.sP j.toNat ≤ 1000000000000000 by omega)
    have q3 : PC.Ok (EC S y 0 0 0 0 0 j 0) [(.eq (sPE u1) (.add (sPE (.at 18)) (.sub (.mul (px (.at 18)) (py (nE (.at 18)))) (.mul (px (nE (.at 18))) (py (.at 18))))), true)] := by
      refine .cons' ?_ .nil
      show S.sP (j + 1).toNat = S.sP j.toNat + (S.X j * S.Y (S.nx j) - S.X (S.nx j) * S.Y j)
      rw [e1]
      simp only [S0.sP, e2]
    exact ⟨⟨⟨_, List.mem_singleton.2 rfl, (((ec_lk.pcn h).app (ec_lk.rowF h (e := .at 18) h0 h1)).app q2).app q3⟩, .nil⟩, ⟨.nil, ecl hL⟩⟩
  have q : PC.Ok (EC S y 0 0 0 0 0 S.n 0) [(.eq (sPE (.lit 0)) (.lit 0), true)] := .cons' (show S.sP 0 = 0 from rfl) .nil
  exact tree_funL hF ((ec_lk.pcn h).app q) wide ap_tree (by kernel_rfl) rfl (u := .int .i64 (S.sP S.n.toNat)) (All.ret rfl)
/-! polygon's Area2: its own look at the corners first. -/
def ED (S : S0) (y : Lay) (k10 k12 : Int) : EnvS := EP [S.lo, S.hi, S.u, S.v, S.w, S.p, S.q, S.r, S.n, 0, k10, 0, k12, 0, 0, 0, 0, 0, 0, 0, S.bd 0 S.n.toNat, S.bd 1 S.n.toNat, S.bd 2 S.n.toNat, S.bd 3 S.n.toNat, S.sP S.n.toNat] S.F y
variable {k10 k12 : Int}
theorem ED_10 {j : Int} : (ED S y k10 k12).upd 10 j = ED S y j k12 := EP_upd (by simp)
theorem ED_12 {j : Int} : (ED S y k10 k12).upd 12 j = ED S y k10 j := EP_upd (by simp)
theorem ed_lk : Lk S (ED S y k10 k12) := ⟨fun _ => rfl, fun _ => rfl, rfl, rfl, rfl⟩
theorem edl (h : Lies S y W) : ∀ L ∈ [L0], LOk (ED S y k10 k12) W L := lols h rfl
def conAr : Con := [(55, [.one (.ssl L0)], .one (i8 (.at 24)))]
def A3a : LAnn := ⟨20210, 10, [(8, .one (i8 (.at 10))), (7, .one (i8 (.at 8))), (6, .one (.ssl L0)), (3, .one (.raw (.func (.func 71) #[] #[]))), (2, .one (.bool (.lit false))), (0, .one (.ssl L0))], [], [], kOut 10, [pcn ++ kIn 10 ++ inR (.at 10)], 1, [], [], []⟩
def A4a : LAnn := ⟨908228, 12, [(7, .one (i8 (.at 12))), (6, .one (i8 (.at 8))), (5, .one (.ssl L0)), (0, .one (.nm 4)), (1, .one (.ptr 1 0))], [], [0, 1, 2, 3, 4], kOut 12, [dA, dB], 5, [], [], []⟩
theorem pa_tree : treeL Try.prog conAr [L0] [A3a, A4a] pcn 300 20 38 [.one (.ssl L0)] = .ret (.tup [⟨false, [i8 (.at 24)]⟩, ⟨false, [i8 (.lit 0)]⟩]) := by kernel_rfl
theorem conAr_ok (hL : Lies S y W) (h : Rng S) : ConOkW Try.prog (ED S y k10 k12) W conAr := .cons (fun _ w hb => arP_in (hL.mono hb) h) .nil
theorem famA4 (hL : Lies S y W) (h : Rng S) (ht : ∀ j, 0 ≤ j → j < S.n → 0 < S.tn j) : Fam (Bs Try.prog W conAr [L0]) [A4a] (ED S y k10 S.n) := by
  refine ⟨⟨conAr_ok hL h, edl hL⟩, hL.nn, ⟨kOut_ok (i := 12) (Int.le_refl _), .nil⟩, fun j h0 h1 => ?_⟩
  have e : (ED S y k10 S.n).upd A4a.i j = ED S y k10 j := ED_12
  rw [e]
  have h1 : j < S.n := h1
  refine ⟨⟨?_, .nil⟩, ⟨conAr_ok hL h, edl hL⟩⟩
  have hk : PC.Ok (ED S y k10 j) (kr 12) := ((ed_lk.pcn h).app (kIn_ok (i := 12) h0 h1 h.n64)).app (ed_lk.remF h (e := .add (.at 12) (.lit 1)) (show 0 ≤ j + 1 by omega))
  have hd := tn_dif h0 h1 (ht j h0 h1)
  by_cases c : S.X j = S.X (S.nx j)
  · have c2 : S.Y j ≠ S.Y (S.nx j) := fun q => hd ⟨c, q⟩
    have q1 : PC.Ok (ED S y k10 j) (dif true) := .cons' c .nil
    have q2 : PC.Ok (ED S y k10 j) difY := .cons' c2 .nil
    exact ⟨dB, by simp [A4a], (hk.app q1).app q2⟩
  · have q1 : PC.Ok (ED S y k10 j) (dif false) := .cons' c .nil
    exact ⟨dA, by simp [A4a], hk.app q1⟩
theorem arP_is (hL : Lies S y W) (h : Rng S) (ht : ∀ j, 0 ≤ j → j < S.n → 0 < S.tn j) : Calls Try.prog 38 #[LV S y] W fun e w' => e = .returned (.tuple #[.int .i64 (S.sP S.n.toNat), .int .i64 0]) ∧ Below W.heap.size W w' := by
  have hF : Fam (Bs Try.prog W conAr [L0]) [A3a, A4a] (ED S y S.n S.n) := by
    refine ⟨famA4 hL h ht, hL.nn, ⟨kOut_ok (i := 10) (Int.le_refl _), .nil⟩, fun j h0 h1 => ?_⟩
    have e : (ED S y S.n S.n).upd A3a.i j = ED S y j S.n := ED_10
    rw [e]
    exact ⟨⟨⟨_, List.mem_singleton.2 rfl, ((ed_lk.pcn h).app (kIn_ok (i := 10) h0 h1 h.n64)).app (ed_lk.inR h _)⟩, .nil⟩, famA4 hL h ht⟩
  exact tree_funL hF (ed_lk.pcn h) wide pa_tree (by kernel_rfl) rfl (u := .tuple #[.int .i64 (S.sP S.n.toNat), .int .i64 0]) (All.ret rfl)
/-! The law. -/
def ckC (c : Int) (r : Con) : Con := (11, [prismV], .one (i8 (.lit c))) :: r
def boxS : SV := .agg [i8 (.at 20), i8 (.at 21), i8 (.at 0), i8 (.at 22), i8 (.at 23), i8 (.at 1)]
def allT : Con := (37, [.one (.ssl L0)], .tup [⟨true, [i8 (.at 20), i8 (.at 21)]⟩, ⟨true, [i8 (.at 22), i8 (.at 23)]⟩, ⟨false, [i8 (.lit 0)]⟩]) :: (38, [.one (.ssl L0)], .tup [⟨false, [i8 (.at 24)]⟩, ⟨false, [i8 (.lit 0)]⟩]) :: (15, [prismV], boxS) :: (16, [prismV], .one (i8 (.at 24))) :: cvT true
theorem pk_1 : treeBL Try.prog con1 [L0] [] g80 300 30 3 [prismV] = YT := by kernel_rfl
theorem pk_2 : treeBL Try.prog con1 [L0] [] p65 300 30 3 [prismV] = YT := by kernel_rfl
theorem pk_3 : treeBL Try.prog con1 [L0] [] p02 300 30 3 [prismV] = YT := by kernel_rfl
theorem pk_4 : treeBL Try.prog (ckC 6 (inT false)) [L0] [] pn 300 30 3 [prismV] = YT := by kernel_rfl
theorem pk_5 : treeBL Try.prog (ckC 1 (inT true)) [L0] [] (pn ++ lt01 false) 300 30 3 [prismV] = YT := by kernel_rfl
theorem pk_6 : treeBL Try.prog (ckC 1 (cvT false)) [L0] [] (pn ++ lt01 true) 300 30 3 [prismV] = YT := by kernel_rfl
theorem pk_7 : treeBL Try.prog (ckC 0 allT) [L0] [] (pn ++ lt01 true) 300 30 3 [prismV] = YT := by kernel_rfl
theorem lawK {con : Con} {pc : PC} (hL : Lies S y W) (hcon : ConOkW Try.prog (ED S y 0 0) W con) (hpc : pc.Ok (ED S y 0 0)) (ht : treeBL Try.prog con [L0] [] pc 300 30 3 [prismV] = YT) : Calls Try.prog 3 #[PV S y] W fun e w' => e = .returned (.bool true) ∧ Below W.heap.size W w' := by
  have hF : Fam (Bs Try.prog W con [L0]) [] (ED S y 0 0) := ⟨hcon, edl hL⟩
  have h := tree_lawL hF hpc wide ht (by kernel_rfl) rfl Good.yes
  exact h
theorem checks_walk (hL : Lies S y W) (h0 : ∀ k, (k < 0 ∨ S.n ≤ k) → S.X k = 0 ∧ S.Y k = 0) : Calls Try.prog 3 #[PV S y] W fun e w' => e = .returned (.bool true) ∧ Below W.heap.size W w' := by
  have nn := hL.nn
  have hc1 : ConOkW Try.prog (ED S y 0 0) W con1 := con1W
  by_cases c1 : 80 < S.n
  · have q : PC.Ok (ED S y 0 0) g80 := .cons' c1 .nil
    exact lawK hL hc1 q pk_1
  by_cases c2 : 64 < S.n
  · have q : PC.Ok (ED S y 0 0) p65 := rg_ok (show 65 ≤ S.n by omega) (show S.n ≤ 80 by omega)
    exact lawK hL hc1 q pk_2
  by_cases c3 : S.n < 3
  · have q : PC.Ok (ED S y 0 0) p02 := rg_ok (show 0 ≤ S.n by omega) (show S.n ≤ 2 by omega)
    exact lawK hL hc1 q pk_3
  have n3 : 3 ≤ S.n := by omega
  have n64 : S.n ≤ 64 := by omega
  have hn : pn.Ok (ED S y 0 0) := rg_ok n3 n64
  have hI : Rng S → ConOkW Try.prog (ED S y 0 0) W (inT true) := fun hR => .cons (fun _ w hb => in_yes (hL.mono hb) hR) con1W
  by_cases hR : Rng S
  · by_cases c4 : S.lo < S.hi
    · have qs : PC.Ok (ED S y 0 0) (lt01 true) := .cons' c4 .nil
      by_cases hc : Cv S
      · have k0 : ConOkW Try.prog (ED S y 0 0) W (cvT true) := .cons (fun _ w hb => cv_yes (hL.mono hb) hR hc) (hI hR)
        have k1 := ConOkW.cons (ρ := ED S y 0 0) (W0 := W) (f := 16) (args := [prismV]) (v := .one (i8 (.at 24))) (fun _ w hb => arR_is (hL.mono hb) hR) k0
        have k2 := ConOkW.cons (ρ := ED S y 0 0) (W0 := W) (f := 15) (args := [prismV]) (v := boxS) (fun _ w hb => hull_is (hL.mono hb) hR) k1
        have k3 := ConOkW.cons (ρ := ED S y 0 0) (W0 := W) (f := 38) (args := [.one (.ssl L0)]) (v := .tup [⟨false, [i8 (.at 24)]⟩, ⟨false, [i8 (.lit 0)]⟩]) (fun _ w hb => arP_is (hL.mono hb) hR hc.1) k2
        have k4 : ConOkW Try.prog (ED S y 0 0) W allT := .cons (fun _ w hb => bounds_of (hL.mono hb) hR hc.1) k3
        have k5 : ConOkW Try.prog (ED S y 0 0) W (ckC 0 allT) := .cons (fun _ w hb => ckr_ok (hL.mono hb) hR c4 hc) k4
        exact lawK hL k5 (hn.app qs) pk_7
      · have k0 : ConOkW Try.prog (ED S y 0 0) W (cvT false) := .cons (fun _ w hb => cv_no (hL.mono hb) hR hc) (hI hR)
        have k1 : ConOkW Try.prog (ED S y 0 0) W (ckC 1 (cvT false)) := .cons (fun _ w hb => ckr_cv (hL.mono hb) hR c4 hc) k0
        exact lawK hL k1 (hn.app qs) pk_6
    · have qs : PC.Ok (ED S y 0 0) (lt01 false) := .cons' (Int.not_lt.1 c4) .nil
      have k1 : ConOkW Try.prog (ED S y 0 0) W (ckC 1 (inT true)) := .cons (fun _ w hb => ckr_lo (hL.mono hb) hR (Int.not_lt.1 c4)) (hI hR)
      exact lawK hL k1 (hn.app qs) pk_5
  · have k0 : ConOkW Try.prog (ED S y 0 0) W (inT false) := .cons (fun _ w hb => in_no (hL.mono hb) n3 n64 h0 hR) con1W
    have k1 : ConOkW Try.prog (ED S y 0 0) W (ckC 6 (inT false)) := .cons (fun _ w hb => ckr_no (hL.mono hb) n3 n64 h0 hR) k0
    exact lawK hL k1 hn pk_4
end
end Go.Proofs.Ytmpadjlplgajcaa
