/- Contracts of the divisors, of Normal and of Value. -/
import Derived.Test.YtdcblfibkoiflaaProg
import Derived.Test.YtdcblfibkoiflaaKit
import Derived.Test.YtdcblfibkoiflaaVecG
import Derived.Test.YtdcblfibkoiflaaPlaE
import Derived.Deep.DrawnRows
import Derived.Deep.DeepCutAuto
namespace Go.Proofs.Ytdcblfibkoiflaa
open Go.RowKit
section
attribute [local go_sem ↓] Go.wp_at_zero Go.wp_at_succ
/-- The greatest common divisor of two numbers that are not negative. -/
theorem divisor_is (g : Nat) (n m : Int) (HG : Hid (Nat.gcd n.natAbs m.natAbs = g)) (w : World) (hn : 0 ≤ n) (hm : 0 ≤ m) (hn' : n ≤ 4000000) (hm' : m ≤ 4000000) : Calls Try.prog 60 #[.int .i64 n, .int .i64 m] w fun e w' =>
    e = .returned (.int .i64 (g : Int)) ∧ Below w.heap.size w w' := by
  go_enter Try.func60, Try.ntmps60
  go_wp2
  go_loopw [0, 1] (fun x y wr => ∃ a b : Int, 0 ≤ a ∧ a ≤ 4000000 ∧ 0 ≤ b ∧ b ≤ 4000000 ∧ x = .int .i64 a ∧ y = .int .i64 b ∧ Nat.gcd a.natAbs b.natAbs = g ∧ Below w.heap.size w wr) (fun _ y _ => (intOf y).toNat)
  case atStart => exact ⟨n, m, hn, hn', hm, hm', rfl, rfl, HG.out, Below.refl _ _⟩
  case round =>
    obtain ⟨a, b, ha, ha', hb, hb', rfl, rfl, hg, hB⟩ := hrel
    have HH := Lib.hid hg
    clear hg
    by_cases hz : b = 0
    · subst hz
      go_wp2
      go_ret
      exact ⟨ret_int (by rw [← HH.out]; simp; omega), hB⟩
    · have h0 : (b != 0) = true := by simpa using hz
      have h1 : 0 ≤ a % b := Int.emod_nonneg _ hz
      have h2 : a % b < b := Int.emod_lt_of_pos _ (by omega)
      have H3 : Hid (Nat.gcd b.natAbs (a % b).natAbs = Nat.gcd a.natAbs b.natAbs) := Lib.hid (by
        rw [Int.natAbs_emod_of_nonneg ha, Nat.gcd_comm, ← Nat.gcd_rec, Nat.gcd_comm])
      have h4 : 1 ≤ b := by omega
      go_wp2
      go_quiet (fail)
      go_wp2
      go_roundw
      case rel => exact ⟨b, a % b, by omega, by omega, h1, by omega, rfl, rfl, by rw [H3.out, HH.out], below_drewN hB _⟩
      case measure => simp [intOf]; omega
theorem rDivisor_is (g : Nat) (n m : Int) (HG : Hid (Nat.gcd n.natAbs m.natAbs = g)) (w : World) (hn : 0 ≤ n) (hm : 0 ≤ m) (hn' : n ≤ 4000000) (hm' : m ≤ 4000000) : Calls Try.prog 45 #[.int .i64 n, .int .i64 m] w fun e w' =>
    e = .returned (.int .i64 (g : Int)) ∧ Below w.heap.size w w' := by
  go_enter Try.func45, Try.ntmps45
  go_wp2
  go_loopw [0, 1] (fun x y wr => ∃ a b : Int, 0 ≤ a ∧ a ≤ 4000000 ∧ 0 ≤ b ∧ b ≤ 4000000 ∧ x = .int .i64 a ∧ y = .int .i64 b ∧ Nat.gcd a.natAbs b.natAbs = g ∧ Below w.heap.size w wr) (fun _ y _ => (intOf y).toNat)
  case atStart => exact ⟨n, m, hn, hn', hm, hm', rfl, rfl, HG.out, Below.refl _ _⟩
  case round =>
    obtain ⟨a, b, ha, ha', hb, hb', rfl, rfl, hg, hB⟩ := hrel
    have HH := Lib.hid hg
    clear hg
    by_cases hz : b = 0
    · subst hz
      go_wp2
      go_ret
      exact ⟨ret_int (by rw [← HH.out]; simp; omega), hB⟩
    · have h1 : 0 ≤ a % b := Int.emod_nonneg _ hz
      have h2 : a % b < b := Int.emod_lt_of_pos _ (by omega)
      have H3 : Hid (Nat.gcd b.natAbs (a % b).natAbs = Nat.gcd a.natAbs b.natAbs) := Lib.hid (by
        rw [Int.natAbs_emod_of_nonneg ha, Nat.gcd_comm, ← Nat.gcd_rec, Nat.gcd_comm])
      have h4 : 1 ≤ b := by omega
      have h0 : (b != 0) = true := by simpa using hz
      go_wp2
      go_quiet (fail)
      go_wp2
      go_roundw
      case rel => exact ⟨b, a % b, by omega, by omega, h1, by omega, rfl, rfl, by rw [H3.out, HH.out], below_drewN hB _⟩
      case measure => simp [intOf]; omega
end
def li' (n : Int) : SV := .one (.int .i64 (.lit n))
def absE (i : Nat) : IE := .mx (.at i) (.sub (.lit 0) (.at i))
theorem mx_abs (n : Int) : mxI n (0 - n) = (n.natAbs : Int) := by unfold mxI; split <;> omega
theorem absT : tree Try.prog [] rH 300 20 46 [i1 0] = .br (.lt (.at 0) (.lit 0)) (.ret (.one (.int .i64 (.sub (.lit 0) (.at 0))))) (.ret (.one (.int .i64 (.at 0)))) := by kernel_rfl
theorem rH_env {a b c d : Int} {ys : List Int} (h1 : -1000 ≤ a ∧ a ≤ 1000) (h2 : -1000 ≤ b ∧ b ≤ 1000) (h3 : -1000 ≤ c ∧ c ≤ 1000) (h4 : -4000000000 ≤ d ∧ d ≤ 4000000000) (xs : List Int) : PC.Ok (envX (a :: b :: c :: d :: xs) ys) rH :=
  (((rg_ok h1.1 h1.2).app (rg_ok h2.1 h2.2)).app (rg_ok h3.1 h3.2)).app (rg_ok h4.1 h4.2)
theorem rAbs_any {n : Int} (h : -1000 ≤ n ∧ n ≤ 1000) (W : World) : Calls Try.prog 46 #[.int .i64 n] W fun e w' => e = .returned (.int .i64 (mxI n (0 - n))) ∧ Below W.heap.size W w' := by
  refine tree_fun (ρ := envX [n, 0, 0, 0] []) .nil (rH_env h (by omega) (by omega) (by omega) []) wide absT (by kernel_rfl) rfl ?_ W
  refine All.br' (fun (h1 : n < 0) => ?_) (fun (h1 : 0 ≤ n) => ?_)
  · exact All.ret (R := (· = _)) (congrArg (Value.int .i64) (show 0 - n = mxI n (0 - n) by unfold mxI; split <;> omega))
  · exact All.ret (R := (· = _)) (congrArg (Value.int .i64) (show n = mxI n (0 - n) by unfold mxI; split <;> omega))
def rG : PC := rg 24 0 1000 ++ rg 25 0 1000 ++ rg 26 1 1000
def flTree : T SV := .br (.lt (.rem (.at 3) (.at 26)) (.lit 0)) (.ret (.one (.int .i64 (.sub (.quo (.at 3) (.at 26)) (.lit 1))))) (.ret (.one (.int .i64 (.quo (.at 3) (.at 26)))))
theorem flT1 : tree Try.prog [] (rH ++ rG) 300 20 43 [i1 3, i1 26] = flTree := by kernel_rfl
theorem flT2 : tree Try.prog [] (rH ++ rG) 300 20 47 [i1 3, i1 26] = flTree := by kernel_rfl
theorem flAll {d g : Int} (hg : 1 ≤ g) : flTree.All (envX [0, 0, 0, d] [0, 0, 0, 0, 0, 0, g]) (· = .int .i64 (d / g)) := by
  have e := floorT_eq (q := d) (m := g) (by omega)
  unfold floorT at e
  unfold flTree
  refine All.br' (fun (h1 : Int.tmod d g < 0) => ?_) (fun (h1 : 0 ≤ Int.tmod d g) => ?_)
  · rw [if_pos h1] at e
    exact All.ret (R := (· = _)) (congrArg (Value.int .i64) e)
  · rw [if_neg (by omega)] at e
    exact All.ret (R := (· = _)) (congrArg (Value.int .i64) e)
theorem flOk {d g : Int} (hd : -4000000000 ≤ d ∧ d ≤ 4000000000) (hg : 1 ≤ g ∧ g ≤ 1000) : PC.Ok (envX [0, 0, 0, d] [0, 0, 0, 0, 0, 0, g]) (rH ++ rG) :=
  (rH_env (by omega) (by omega) (by omega) hd []).app (((rg_ok (show (0 : Int) ≤ 0 by omega) (show (0 : Int) ≤ 1000 by omega)).app (rg_ok (show (0 : Int) ≤ 0 by omega) (show (0 : Int) ≤ 1000 by omega))).app (rg_ok hg.1 hg.2))
theorem pFloor_any {d g : Int} (hd : -4000000000 ≤ d ∧ d ≤ 4000000000) (hg : 1 ≤ g ∧ g ≤ 1000) (W : World) : Calls Try.prog 43 #[.int .i64 d, .int .i64 g] W fun e w' => e = .returned (.int .i64 (d / g)) ∧ Below W.heap.size W w' :=
  tree_fun (ρ := envX [0, 0, 0, d] [0, 0, 0, 0, 0, 0, g]) .nil (flOk hd hg) wide flT1 (by kernel_rfl) rfl (flAll hg.1) W
theorem rFloor_any {d g : Int} (hd : -4000000000 ≤ d ∧ d ≤ 4000000000) (hg : 1 ≤ g ∧ g ≤ 1000) (W : World) : Calls Try.prog 47 #[.int .i64 d, .int .i64 g] W fun e w' => e = .returned (.int .i64 (d / g)) ∧ Below W.heap.size W w' :=
  tree_fun (ρ := envX [0, 0, 0, d] [0, 0, 0, 0, 0, 0, g]) .nil (flOk hd hg) wide flT2 (by kernel_rfl) rfl (flAll hg.1) W
def gC : Con := [(43, [i1 3, i1 26], i1 27), (47, [i1 3, i1 26], i1 27), (60, [li' 0, .one (.int .i64 (absE 0))], i1 24), (60, [i1 24, .one (.int .i64 (absE 1))], i1 25), (60, [i1 25, .one (.int .i64 (absE 2))], i1 26),
  (46, [i1 0], .one (.int .i64 (absE 0))), (46, [i1 1], .one (.int .i64 (absE 1))), (46, [i1 2], .one (.int .i64 (absE 2))),
  (45, [.one (.int .i64 (absE 0)), .one (.int .i64 (absE 1))], i1 25), (45, [i1 25, .one (.int .i64 (absE 2))], i1 26), (14, [.agg (iv 0 4)], i1 20)]
theorem gcd_le {m n k : Nat} (h1 : m ≤ k) (h2 : n ≤ k) : Nat.gcd m n ≤ k := by
  rcases Nat.eq_zero_or_pos m with h | h
  · subst h; simpa using h2
  · exact Nat.le_trans (Nat.gcd_le_left n h) h1
abbrev gH (a b c : Int) : Int := gcdV (a, b, c)
def g2H (a b : Int) : Int := (Nat.gcd a.natAbs b.natAbs : Nat)
theorem g2H_bd {a b : Int} (h1 : -1000 ≤ a ∧ a ≤ 1000) (h2 : -1000 ≤ b ∧ b ≤ 1000) : 0 ≤ g2H a b ∧ g2H a b ≤ 1000 := by
  unfold g2H
  have := gcd_le (m := a.natAbs) (n := b.natAbs) (k := 1000) (by omega) (by omega)
  omega
theorem gH_bd {a b c : Int} (h1 : -1000 ≤ a ∧ a ≤ 1000) (h2 : -1000 ≤ b ∧ b ≤ 1000) (h3 : -1000 ≤ c ∧ c ≤ 1000) (hz : ¬ (a = 0 ∧ b = 0 ∧ c = 0)) : 1 ≤ gH a b c ∧ gH a b c ≤ 1000 := by
  refine ⟨gcdV_pos (fun h => hz ?_), ?_⟩
  · simp only [Prod.mk.injEq] at h
    exact h
  · unfold gH gcdV
    have := gcd_le (m := a.natAbs) (n := b.natAbs) (k := 1000) (by omega) (by omega)
    have := gcd_le (m := Nat.gcd a.natAbs b.natAbs) (n := c.natAbs) (k := 1000) this (by omega)
    simp only
    omega
abbrev envN (a b c d : Int) : Env := envX [a, b, c, d] [chkH a b c d, 0, 0, 0, (a.natAbs : Int), g2H a b, gH a b c, d / gH a b c]
theorem gC_ok {a b c d : Int} (h : chkH a b c d = 0) : ConOk Try.prog (envN a b c d) gC := by
  obtain ⟨ha, hb, hc, hd, hz⟩ := chkH_ok h
  have G := gH_bd ha hb hc hz
  have G2 := g2H_bd ha hb
  have D1 : ∀ W, Calls Try.prog 60 #[.int .i64 0, .int .i64 (mxI a (0 - a))] W fun e w' => e = .returned (.int .i64 (a.natAbs : Int)) ∧ Below W.heap.size W w' := by
    intro W; rw [mx_abs]; exact divisor_is a.natAbs 0 (a.natAbs : Int) (Lib.hid (by simp)) W (by omega) (by omega) (by omega) (by omega)
  have D2 : ∀ W, Calls Try.prog 60 #[.int .i64 (a.natAbs : Int), .int .i64 (mxI b (0 - b))] W fun e w' => e = .returned (.int .i64 (g2H a b)) ∧ Below W.heap.size W w' := by
    intro W; rw [mx_abs]; exact divisor_is (Nat.gcd a.natAbs b.natAbs) (a.natAbs : Int) (b.natAbs : Int) (Lib.hid (by simp)) W (by omega) (by omega) (by omega) (by omega)
  have D3 : ∀ W, Calls Try.prog 60 #[.int .i64 (g2H a b), .int .i64 (mxI c (0 - c))] W fun e w' => e = .returned (.int .i64 (gH a b c)) ∧ Below W.heap.size W w' := by
    intro W; rw [mx_abs]; exact divisor_is (Nat.gcd (Nat.gcd a.natAbs b.natAbs) c.natAbs) (g2H a b) (c.natAbs : Int) (Lib.hid (by simp [g2H])) W (by omega) (by omega) (by omega) (by omega)
  have R1 : ∀ W, Calls Try.prog 45 #[.int .i64 (mxI a (0 - a)), .int .i64 (mxI b (0 - b))] W fun e w' => e = .returned (.int .i64 (g2H a b)) ∧ Below W.heap.size W w' := by
    intro W; rw [mx_abs, mx_abs]; exact rDivisor_is (Nat.gcd a.natAbs b.natAbs) (a.natAbs : Int) (b.natAbs : Int) (Lib.hid (by simp)) W (by omega) (by omega) (by omega) (by omega)
  have R2 : ∀ W, Calls Try.prog 45 #[.int .i64 (g2H a b), .int .i64 (mxI c (0 - c))] W fun e w' => e = .returned (.int .i64 (gH a b c)) ∧ Below W.heap.size W w' := by
    intro W; rw [mx_abs]; exact rDivisor_is (Nat.gcd (Nat.gcd a.natAbs b.natAbs) c.natAbs) (g2H a b) (c.natAbs : Int) (Lib.hid (by simp [g2H])) W (by omega) (by omega) (by omega) (by omega)
  exact .cons (fun _ W => pFloor_any hd G W) (.cons (fun _ W => rFloor_any hd G W) (.cons (fun _ W => D1 W) (.cons (fun _ W => D2 W) (.cons (fun _ W => D3 W) (.cons (fun _ W => rAbs_any ha W) (.cons (fun _ W => rAbs_any hb W) (.cons (fun _ W => rAbs_any hc W)
    (.cons (fun _ W => R1 W) (.cons (fun _ W => R2 W) (.cons (fun _ W => pCheckH_any a b c d W) .nil))))))))))
def okN : PC := [(.eq (.at 20) (.lit 0), true)] ++ (rG ++ rH)
theorem okN_ok {a b c d : Int} (h : chkH a b c d = 0) : PC.Ok (envN a b c d) okN := by
  obtain ⟨ha, hb, hc, hd, hz⟩ := chkH_ok h
  have G := gH_bd ha hb hc hz
  have G2 := g2H_bd ha hb
  have e : PC.Ok (envN a b c d) [(.eq (.at 20) (.lit 0), true)] := .cons' h .nil
  exact e.app ((((rg_ok (show (0 : Int) ≤ (a.natAbs : Int) by omega) (show (a.natAbs : Int) ≤ 1000 by omega)).app (rg_ok G2.1 G2.2)).app (rg_ok G.1 G.2)).app (rH_env ha hb hc hd []))
def nrL : List SC := [.int .i64 (.quo (.at 0) (.at 26)), .int .i64 (.quo (.at 1) (.at 26)), .int .i64 (.quo (.at 2) (.at 26)), .int .i64 (.at 27)]
def nrLeaf : T SV := .ret (.tup [⟨true, nrL⟩, ⟨false, [.int .i64 (.lit 0)]⟩])
theorem nrT : tree Try.prog gC okN 300 20 23 [.agg (iv 0 4)] = .br (.eq (.at 0) (.lit 0)) (.br (.eq (.at 1) (.lit 0)) (.br (.eq (.at 2) (.lit 0)) (.bad 9) nrLeaf) nrLeaf) nrLeaf := by kernel_rfl
theorem rnT : tree Try.prog gC okN 300 20 26 [.agg (iv 0 4)] = .ret (.agg nrL) := by kernel_rfl
def nrV (a b c d : Int) : Value := .agg #[.int .i64 (a.tdiv (gH a b c)), .int .i64 (b.tdiv (gH a b c)), .int .i64 (c.tdiv (gH a b c)), .int .i64 (d / gH a b c)]
theorem pNormal_ok {a b c d : Int} (h : chkH a b c d = 0) (W : World) : Calls Try.prog 23 #[.agg #[.int .i64 a, .int .i64 b, .int .i64 c, .int .i64 d]] W fun e w' => e = .returned (.tuple #[nrV a b c d, .int .i64 0]) ∧ Below W.heap.size W w' := by
  obtain ⟨_, _, _, _, hz⟩ := chkH_ok h
  refine tree_fun (gC_ok h) (okN_ok h) wide nrT (by kernel_rfl) rfl ?_ W
  refine All.br' (fun (h1 : a = 0) => ?_) (fun (h1 : ¬ a = 0) => All.ret (R := (· = _)) rfl)
  refine All.br' (fun (h2 : b = 0) => ?_) (fun (h2 : ¬ b = 0) => All.ret (R := (· = _)) rfl)
  refine All.br' (fun (h3 : c = 0) => ?_) (fun (h3 : ¬ c = 0) => All.ret (R := (· = _)) rfl)
  exact absurd ⟨h1, h2, h3⟩ hz
theorem rNormal_ok {a b c d : Int} (h : chkH a b c d = 0) (W : World) : Calls Try.prog 26 #[.agg #[.int .i64 a, .int .i64 b, .int .i64 c, .int .i64 d]] W fun e w' => e = .returned (nrV a b c d) ∧ Below W.heap.size W w' :=
  tree_fun (gC_ok h) (okN_ok h) wide rnT (by kernel_rfl) rfl (All.ret rfl) W
def conN : Con := [(14, [.agg (iv 0 4)], i1 20)]
def nrX : SV := .tup [⟨true, [.int .i64 (.lit 0), .int .i64 (.lit 0), .int .i64 (.lit 0), .int .i64 (.lit 0)]⟩, ⟨false, [.int .i64 (.at 20)]⟩]
theorem nrTX : tree Try.prog conN badH 300 20 23 [.agg (iv 0 4)] = .ret nrX := by kernel_rfl
theorem pNormal_bad {a b c d : Int} (h : ¬ chkH a b c d = 0) (W : World) : Calls Try.prog 23 #[.agg #[.int .i64 a, .int .i64 b, .int .i64 c, .int .i64 d]] W fun e w' => e = .returned (.tuple #[.agg #[.int .i64 0, .int .i64 0, .int .i64 0, .int .i64 0], .int .i64 (chkH a b c d)]) ∧ Below W.heap.size W w' :=
  tree_fun (ρ := envX [a, b, c, d] [chkH a b c d]) (con := conN) (pc := badH) (.cons (fun _ W => pCheckH_any a b c d W) .nil) (.cons' h .nil) wide nrTX (by kernel_rfl) rfl (All.ret rfl) W
end Go.Proofs.Ytdcblfibkoiflaa
