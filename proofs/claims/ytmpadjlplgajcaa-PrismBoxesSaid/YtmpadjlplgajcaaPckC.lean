/- The reference's Check, Hull, Area2; polygon's Area2. -/
import Derived.Test.YtmpadjlplgajcaaPckB
namespace Go.Proofs.Ytmpadjlplgajcaa
open Go.RowKit
section
variable {S : S0} {y : Lay} {W : World} {K k14 k15 k16 k17 k18 k19 : Int}
/-! Check. -/
def AC (ex : PC) : LAnn := ⟨562446, 14, [(3, .one (i8 (.at 14))), (2, .one (i8 (.lit 0))), (1, .one (.ptr 0 0))], [], [0], ex, [pn ++ inX (.at 14) ++ inR (.at 14)], 1, [], [], []⟩
def cvK (b : Bool) : Con := [(35, [.one (.ssl L0)], .one (.bool (.lit b)))]
def qX1 : PC := [(.lt (px (.at 14)) (.lit (-1000000)), true)]
def qX2 : PC := [(.lt (px (.at 14)) (.lit (-1000000)), false), (.lt (.lit 1000000) (px (.at 14)), true)]
def qY1 : PC := rngE (px (.at 14)) (-1000000) 1000000 ++ [(.lt (py (.at 14)) (.lit (-1000000)), true)]
def qY2 : PC := rngE (px (.at 14)) (-1000000) 1000000 ++ [(.lt (py (.at 14)) (.lit (-1000000)), false), (.lt (.lit 1000000) (py (.at 14)), true)]
def rI (c : Int) : T SV := .ret (.one (i8 (.lit c)))
theorem rk_1 : treeL Try.prog (cvK true) [L0] [AC (kOut 14)] (pcn ++ lt01 true) 300 20 11 [prismV] = rI 0 := by kernel_rfl
theorem rk_2 : treeL Try.prog (cvK false) [L0] [AC (kOut 14)] (pcn ++ lt01 true) 300 20 11 [prismV] = rI 1 := by kernel_rfl
theorem rk_3 : treeL Try.prog [] [L0] [AC (kOut 14)] (pcn ++ lt01 false) 300 20 11 [prismV] = rI 1 := by kernel_rfl
theorem rk_4 : treeL Try.prog [] [L0] [AC (inX (.at 14) ++ qX1)] pn 300 20 11 [prismV] = rI 6 := by kernel_rfl
theorem rk_5 : treeL Try.prog [] [L0] [AC (inX (.at 14) ++ qX2)] pn 300 20 11 [prismV] = rI 6 := by kernel_rfl
theorem rk_6 : treeL Try.prog [] [L0] [AC (inX (.at 14) ++ qY1)] pn 300 20 11 [prismV] = rI 6 := by kernel_rfl
theorem rk_7 : treeL Try.prog [] [L0] [AC (inX (.at 14) ++ qY2)] pn 300 20 11 [prismV] = rI 6 := by kernel_rfl
theorem rk_8 : treeL Try.prog [] [L0] [AC (kOut 14)] ir1 300 20 11 [prismV] = rI 6 := by kernel_rfl
theorem rk_9 : treeL Try.prog [] [L0] [AC (kOut 14)] ir2 300 20 11 [prismV] = rI 6 := by kernel_rfl
theorem rk_10 : treeL Try.prog [] [L0] [AC (kOut 14)] ir3 300 20 11 [prismV] = rI 6 := by kernel_rfl
theorem rk_11 : treeL Try.prog [] [L0] [AC (kOut 14)] ir4 300 20 11 [prismV] = rI 6 := by kernel_rfl
theorem famC {con : Con} {ex : PC} (hc : ∀ {k14 : Int}, ConOkW Try.prog (EC S y 0 k14 0 0 0 0 0) W con) (hL : Lies S y W) (n3 : 3 ≤ S.n) (n64 : S.n ≤ 64) {k : Int} (k0 : 0 ≤ k) (kn : k ≤ S.n) (hr : ∀ j, 0 ≤ j → j < k → InM (S.X j) ∧ InM (S.Y j)) (hex : ex.Ok (EC S y 0 k 0 0 0 0 0)) : Fam (Bs Try.prog W con [L0]) [AC ex] (EC S y 0 k 0 0 0 0 0) := by
  refine ⟨⟨hc, ecl hL⟩, k0, ⟨hex, .nil⟩, fun j h0 h1 => ?_⟩
  have e : (EC S y 0 k 0 0 0 0 0).upd (AC ex).i j = EC S y 0 j 0 0 0 0 0 := EC_14
  rw [e]
  have h1 : j < k := h1
  have p1 : pn.Ok (EC S y 0 j 0 0 0 0 0) := rg_ok n3 n64
  have p2 : PC.Ok (EC S y 0 j 0 0 0 0 0) (inX (.at 14)) := .cons' (show j < S.n by omega) (.cons' h0 (.cons' h0 (.cons' (show j ≤ 64 by omega) .nil)))
  exact ⟨⟨⟨_, List.mem_singleton.2 rfl, (p1.app p2).app (inR_ok (k := .at 14) (hr j h0 h1).1 (hr j h0 h1).2)⟩, .nil⟩, ⟨hc, ecl hL⟩⟩
theorem ck_in (hL : Lies S y W) (h : Rng S) {con : Con} (hc : ∀ {k14 : Int}, ConOkW Try.prog (EC S y 0 k14 0 0 0 0 0) W con) : Fam (Bs Try.prog W con [L0]) [AC (kOut 14)] (EC S y 0 S.n 0 0 0 0 0) :=
  famC hc hL h.n3 h.n64 hL.nn (Int.le_refl _) (fun j _ _ => ⟨h.X j, h.Y j⟩) (kOut_ok (i := 14) (Int.le_refl _))
theorem ckr_ok (hL : Lies S y W) (h : Rng S) (c4 : S.lo < S.hi) (hc : Cv S) : Calls Try.prog 11 #[PV S y] W fun e w' => e = .returned (.int .i64 0) ∧ Below W.heap.size W w' := by
  have q : PC.Ok (EC S y 0 S.n 0 0 0 0 0) (lt01 true) := .cons' c4 .nil
  exact tree_funL (ck_in hL h (con := cvK true) (.cons (fun _ w hb => crv_of (hL.mono hb) h (b := true) ⟨fun _ => hc, fun _ => rfl⟩) .nil)) ((ec_lk.pcn h).app q) wide rk_1 (by kernel_rfl) rfl (u := .int .i64 0) (All.ret rfl)
theorem ckr_cv (hL : Lies S y W) (h : Rng S) (c4 : S.lo < S.hi) (hc : ¬ Cv S) : Calls Try.prog 11 #[PV S y] W fun e w' => e = .returned (.int .i64 1) ∧ Below W.heap.size W w' := by
  have q : PC.Ok (EC S y 0 S.n 0 0 0 0 0) (lt01 true) := .cons' c4 .nil
  exact tree_funL (ck_in hL h (con := cvK false) (.cons (fun _ w hb => crv_of (hL.mono hb) h (b := false) ⟨fun q => (by cases q), fun q => absurd q hc⟩) .nil)) ((ec_lk.pcn h).app q) wide rk_2 (by kernel_rfl) rfl (u := .int .i64 1) (All.ret rfl)
theorem ckr_lo (hL : Lies S y W) (h : Rng S) (c4 : S.hi ≤ S.lo) : Calls Try.prog 11 #[PV S y] W fun e w' => e = .returned (.int .i64 1) ∧ Below W.heap.size W w' := by
  have q : PC.Ok (EC S y 0 S.n 0 0 0 0 0) (lt01 false) := .cons' c4 .nil
  exact tree_funL (ck_in hL h (con := []) .nil) ((ec_lk.pcn h).app q) wide rk_3 (by kernel_rfl) rfl (u := .int .i64 1) (All.ret rfl)
theorem ckr_no (hL : Lies S y W) (h3 : 3 ≤ S.n) (h64 : S.n ≤ 64) (h0 : ∀ k, (k < 0 ∨ S.n ≤ k) → S.X k = 0 ∧ S.Y k = 0) (hno : ¬ Rng S) : Calls Try.prog 11 #[PV S y] W fun e w' => e = .returned (.int .i64 6) ∧ Below W.heap.size W w' := by
  have hp : ∀ {k}, pn.Ok (EC S y 0 k 0 0 0 0 0) := rg_ok h3 h64
  obtain ⟨k, k0, k1, k2, k3⟩ := first_of (fun j => InM (S.X j) ∧ InM (S.Y j)) S.n hL.nn
  rcases k3 with rfl | ⟨k3, k4⟩
  · have hF := famC (con := []) .nil hL h3 h64 hL.nn (Int.le_refl _) k2 (ex := kOut 14) (kOut_ok (i := 14) (Int.le_refl _))
    by_cases c1 : S.lo < -1000000
    · have q : PC.Ok (EC S y 0 S.n 0 0 0 0 0) ir1 := hp.app (.cons' c1 .nil)
      exact tree_funL hF q wide rk_8 (by kernel_rfl) rfl (u := .int .i64 6) (All.ret rfl)
    have c1 := Int.not_lt.1 c1
    by_cases c2 : 1000000 < S.lo
    · have q : PC.Ok (EC S y 0 S.n 0 0 0 0 0) ir2 := hp.app (.cons' c1 (.cons' c2 .nil))
      exact tree_funL hF q wide rk_9 (by kernel_rfl) rfl (u := .int .i64 6) (All.ret rfl)
    have c2 := Int.not_lt.1 c2
    by_cases c3 : S.hi < -1000000
    · have q : PC.Ok (EC S y 0 S.n 0 0 0 0 0) ir3 := (hp.app (rg_ok c1 c2)).app (.cons' c3 .nil)
      exact tree_funL hF q wide rk_10 (by kernel_rfl) rfl (u := .int .i64 6) (All.ret rfl)
    have c3 := Int.not_lt.1 c3
    by_cases c4 : 1000000 < S.hi
    · have q : PC.Ok (EC S y 0 S.n 0 0 0 0 0) ir4 := (hp.app (rg_ok c1 c2)).app (.cons' c3 (.cons' c4 .nil))
      exact tree_funL hF q wide rk_11 (by kernel_rfl) rfl (u := .int .i64 6) (All.ret rfl)
    have c4 := Int.not_lt.1 c4
    refine absurd ⟨h3, h64, ⟨c1, c2⟩, ⟨c3, c4⟩, fun j => ?_, fun j => ?_⟩ hno
    · by_cases c : 0 ≤ j ∧ j < S.n
      · exact (k2 j c.1 c.2).1
      · rw [(h0 j (by omega)).1]; exact ⟨by decide, by decide⟩
    · by_cases c : 0 ≤ j ∧ j < S.n
      · exact (k2 j c.1 c.2).2
      · rw [(h0 j (by omega)).2]; exact ⟨by decide, by decide⟩
  · have hx : PC.Ok (EC S y 0 k 0 0 0 0 0) (inX (.at 14)) := .cons' k3 (.cons' k0 (.cons' k0 (.cons' (show k ≤ 64 by omega) .nil)))
    have fam : ∀ {ex : PC}, ex.Ok (EC S y 0 k 0 0 0 0 0) → Fam (Bs Try.prog W [] [L0]) [AC (inX (.at 14) ++ ex)] (EC S y 0 k 0 0 0 0 0) := fun {ex} he => famC (con := []) .nil hL h3 h64 k0 k1 k2 (hx.app he)
    by_cases d1 : S.X k < -1000000
    · have q : PC.Ok (EC S y 0 k 0 0 0 0 0) qX1 := .cons' d1 .nil
      exact tree_funL (fam q) hp wide rk_4 (by kernel_rfl) rfl (u := .int .i64 6) (All.ret rfl)
    have d1 := Int.not_lt.1 d1
    by_cases d2 : 1000000 < S.X k
    · have q : PC.Ok (EC S y 0 k 0 0 0 0 0) qX2 := .cons' d1 (.cons' d2 .nil)
      exact tree_funL (fam q) hp wide rk_5 (by kernel_rfl) rfl (u := .int .i64 6) (All.ret rfl)
    have d2 := Int.not_lt.1 d2
    have hx : PC.Ok (EC S y 0 k 0 0 0 0 0) (rngE (px (.at 14)) (-1000000) 1000000) := rngE_ok (e := px (.at 14)) d1 d2
    by_cases d3 : S.Y k < -1000000
    · have q : PC.Ok (EC S y 0 k 0 0 0 0 0) qY1 := hx.app (.cons' d3 .nil)
      exact tree_funL (fam q) hp wide rk_6 (by kernel_rfl) rfl (u := .int .i64 6) (All.ret rfl)
    have d3 := Int.not_lt.1 d3
    by_cases d4 : 1000000 < S.Y k
    · have q : PC.Ok (EC S y 0 k 0 0 0 0 0) qY2 := hx.app (.cons' d3 (.cons' d4 .nil))
      exact tree_funL (fam q) hp wide rk_7 (by kernel_rfl) rfl (u := .int .i64 6) (All.ret rfl)
    · exact absurd ⟨⟨d1, d2⟩, ⟨d3, Int.not_lt.1 d4⟩⟩ k4
/-! Hull. -/
def bdQ (i : Nat) : PC := [(.eq (bdE (.add (.at i) (.lit 1)) 0) (.mn (bdE (.at i) 0) (px (.at i))), true), (.eq (bdE (.add (.at i) (.lit 1)) 1) (.mn (bdE (.at i) 1) (py (.at i))), true), (.eq (bdE (.add (.at i) (.lit 1)) 2) (.mx (bdE (.at i) 2) (px (.at i))), true), (.eq (bdE (.add (.at i) (.lit 1)) 3) (.mx (bdE (.at i) 3) (py (.at i))), true)]
def AH : LAnn := ⟨656346, 19, [(4, .one (i8 (.at 19))), (3, .one (.ptr 2 0)), (2, .one (.ptr 1 0)), (1, .one (.ptr 0 0))], [(2, ⟨32, [i8 (bdE (.at 19) 0), i8 (bdE (.at 19) 1), i8 (.at 0), i8 (bdE (.at 19) 2), i8 (bdE (.at 19) 3), i8 (.at 1)], 0, false, []⟩)], [0, 1], kOut 19, [pcn ++ inX (.at 19) ++ bdQ 19], 3, [], [], []⟩
theorem hu_tree : treeL Try.prog [] [L0] [AH] (pcn ++ bd0) 300 20 15 [prismV] = .ret (.agg [i8 (bdE (.at 19) 0), i8 (bdE (.at 19) 1), i8 (.at 0), i8 (bdE (.at 19) 2), i8 (bdE (.at 19) 3), i8 (.at 1)]) := by kernel_rfl
def boxV (S : S0) : Value := .agg #[.int .i64 (lx S), .int .i64 (ly S), .int .i64 S.lo, .int .i64 (mxX S), .int .i64 (mxY S), .int .i64 S.hi]
theorem hull_is (hL : Lies S y W) (h : Rng S) : Calls Try.prog 15 #[PV S y] W fun e w' => e = .returned (boxV S) ∧ Below W.heap.size W w' := by
  have hF : Fam (Bs Try.prog W [] [L0]) [AH] (EC S y 0 0 0 0 0 0 S.n) := by
    refine ⟨⟨.nil, ecl hL⟩, hL.nn, ⟨kOut_ok (i := 19) (Int.le_refl _), .nil⟩, fun j h0 h1 => ?_⟩
    have e : (EC S y 0 0 0 0 0 0 S.n).upd AH.i j = EC S y 0 0 0 0 0 0 j := EC_19
    rw [e]
    have h1 : j < S.n := h1
    have q : PC.Ok (EC S y 0 0 0 0 0 0 j) (bdQ 19) := .cons' (bd_succ (c := 0) h0) (.cons' (bd_succ (c := 1) h0) (.cons' (bd_succ (c := 2) h0) (.cons' (bd_succ (c := 3) h0) .nil)))
    exact ⟨⟨⟨_, List.mem_singleton.2 rfl, ((ec_lk.pcn h).app (ec_lk.inX h (e := .at 19) h0 h1)).app q⟩, .nil⟩, ⟨.nil, ecl hL⟩⟩
  have q : PC.Ok (EC S y 0 0 0 0 0 0 S.n) bd0 := .cons' (show 0 < S.n by have := h.n3; omega) (.cons' (show S.bd 0 0 = S.X 0 from rfl) (.cons' (show S.bd 1 0 = S.Y 0 from rfl) (.cons' (show S.bd 2 0 = S.X 0 from rfl) (.cons' (show S.bd 3 0 = S.Y 0 from rfl) .nil))))
  exact tree_funL hF ((ec_lk.pcn h).app q) wide hu_tree (by kernel_rfl) rfl (u := boxV S) (All.ret rfl)
end
end Go.Proofs.Ytmpadjlplgajcaa
