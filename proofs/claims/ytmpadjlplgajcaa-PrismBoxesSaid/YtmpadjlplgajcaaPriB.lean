/- The base of a prism as a list, and a box: what is told of them; turns; what is known in loops. -/
import Derived.Test.YtmpadjlplgajcaaPriA
import Derived.Test.YtmpadjlplgajcaaE4W
namespace Go.Proofs.Ytmpadjlplgajcaa
open Go.RowKit
/-- Where a list lies. -/
structure Lay where
  p : Option Addr
  a : Nat
  o : Nat
  c : Nat
def EP (xs : List Int) (F : Nat → Int → Int → Int) (y : Lay) : EnvS := ⟨fun i => xs.getD i 0, F, fun _ _ _ => undef, fun _ => y.a, fun _ => y.o, fun _ => y.p, fun _ => y.c⟩
theorem EP_upd {xs : List Int} {F : Nat → Int → Int → Int} {y : Lay} {i : Nat} {j : Int} (h : i < xs.length) : (EP xs F y).upd i j = EP (xs.set i j) F y := by
  unfold EnvS.upd EP
  simp only
  congr 1
  funext k
  by_cases e : k = i
  · subst e; simp [List.getD_eq_getElem?_getD, h]
  · simp [List.getD_eq_getElem?_getD, e, Ne.symm e]
def InM (x : Int) : Prop := -1000000 ≤ x ∧ x ≤ 1000000
def sgn (t : Int) : Int := if t < 0 then -1 else if 0 < t then 1 else 0
def crs (ax ay bx by_ cx cy : Int) : Int := (bx - ax) * (cy - ay) - (by_ - ay) * (cx - ax)
theorem sgn_pos {t : Int} (h : sgn t = 1) : 0 < t := by unfold sgn at h; split at h; · omega
                                                        split at h <;> omega
theorem sgn_gt {t : Int} : 0 < sgn t ↔ 0 < t := by unfold sgn; constructor <;> (intro h; (repeat' split at h) <;> (repeat' split) <;> omega)
theorem sgn_lt {t : Int} : sgn t < 0 ↔ t < 0 := by unfold sgn; constructor <;> (intro h; (repeat' split at h) <;> (repeat' split) <;> omega)
/-- A base and a box. -/
structure S0 where
  n : Int
  X : Int → Int
  Y : Int → Int
  lo : Int
  hi : Int
  u : Int
  v : Int
  w : Int
  p : Int
  q : Int
  r : Int
namespace S0
variable (S : S0)
def nx (k : Int) : Int := (k + 1).tmod S.n
/-- The edge in front of corner k. -/
def bf (k c : Int) : Int :=
  if k ≤ 0 then (if c = 0 then S.X (S.n - 1) else if c = 1 then S.Y (S.n - 1) else if c = 2 then S.X 0 else S.Y 0)
  else (if c = 0 then S.X (k - 1) else if c = 1 then S.Y (k - 1) else if c = 2 then S.X (S.nx (k - 1)) else S.Y (S.nx (k - 1)))
/-- How often the way begins to rise in front of corner k. -/
def rc : Nat → Int
  | 0 => 0
  | k + 1 => rc k + (if S.bf k 1 < S.bf k 3 then 0 else if S.Y k < S.Y (S.nx k) then 1 else 0)
def tn (k : Int) : Int := crs (S.bf k 0) (S.bf k 1) (S.bf k 2) (S.bf k 3) (S.X (S.nx k)) (S.Y (S.nx k))
/-- The bounds of the first k corners (and of the first one). -/
def bd (c : Int) : Nat → Int
  | 0 => if c = 0 then S.X 0 else if c = 1 then S.Y 0 else if c = 2 then S.X 0 else S.Y 0
  | k + 1 => if c = 0 then mnI (bd c k) (S.X k) else if c = 1 then mnI (bd c k) (S.Y k) else if c = 2 then mxI (bd c k) (S.X k) else mxI (bd c k) (S.Y k)
def cx (c : Int) : Int := if c = 0 then S.u else if c = 1 then S.p else if c = 2 then S.p else S.u
def cy (c : Int) : Int := if c = 0 then S.v else if c = 1 then S.v else if c = 2 then S.q else S.q
/-- On which side of edge k corner c of the rectangle lies. -/
def sd (k c : Int) : Int := crs (S.X k) (S.Y k) (S.X (S.nx k)) (S.Y (S.nx k)) (S.cx c) (S.cy c)
/-- On which side of edge c of the rectangle corner k lies. -/
def se (k c : Int) : Int := crs (S.cx c) (S.cy c) (S.cx ((c + 1) % 4)) (S.cy ((c + 1) % 4)) (S.X k) (S.Y k)
def F (f : Nat) (k c : Int) : Int :=
  if f = 0 then (if c = 0 then S.X k else S.Y k)
  else if f = 9 then (if c = 4 then S.rc k.toNat else S.bf k c)
  else if f = 12 then sgn (S.tn k)
  else if f = 13 then S.bd c k.toNat
  else if f = 30 then sgn (S.sd k c)
  else if f = 31 then sgn (S.se k c)
  else 0
end S0
/-- The list lies in w, its numbers are in range (outside of the list they are 0). -/
structure Lies (S : S0) (y : Lay) (w : World) : Prop where
  nn : 0 ≤ S.n
  pt : 0 < S.n → y.p = some ⟨y.a, y.o, none⟩
  cx : ∀ j : Nat, (j : Int) < S.n → w.cell? ⟨y.a, y.o + j * 2, none⟩ = some (.int .i64 (S.X j))
  cy : ∀ j : Nat, (j : Int) < S.n → w.cell? ⟨y.a, y.o + j * 2 + 1, none⟩ = some (.int .i64 (S.Y j))
def L0 : LD := ⟨0, 8, 60, [.int .i64, .int .i64]⟩
theorem lok {S : S0} {y : Lay} {w : World} (h : Lies S y w) {xs : List Int} (hn : xs.getD 8 0 = S.n) : LOk (EP xs S.F y) w L0 := by
  refine ⟨by show 0 ≤ xs.getD 8 0; rw [hn]; exact h.nn, fun q => h.pt (by have : 0 < xs.getD 8 0 := q; rwa [hn] at this), fun j c k hj hk => ?_⟩
  have hj' : (j : Int) < S.n := by have : (j : Int) < xs.getD 8 0 := hj; rwa [hn] at this
  match c, hk with
  | 0, hk => cases hk; exact h.cx j hj'
  | 1, hk => cases hk; exact h.cy j hj'
  | c + 2, hk => simp [L0] at hk
theorem lols {S : S0} {y : Lay} {w : World} (h : Lies S y w) {xs : List Int} (hn : xs.getD 8 0 = S.n) : ∀ L ∈ [L0], LOk (EP xs S.F y) w L := fun L hL => by
  rw [List.mem_singleton.1 hL]; exact lok h hn
theorem Lies.mono {S : S0} {y : Lay} {w w' : World} (h : Lies S y w) (hb : Below w.heap.size w w') : Lies S y w' := by
  have key : ∀ {o : Nat} {v : Value}, w.cell? ⟨y.a, o, none⟩ = some v → w'.cell? ⟨y.a, o, none⟩ = some v := fun {o v} e => by
    have hlt : y.a < w.heap.size := by
      unfold World.cell? at e
      simp only at e
      by_cases q : y.a < w.heap.size
      · exact q
      · rw [Array.getElem?_eq_none (by omega)] at e; cases e
    rw [hb.cell (p := ⟨y.a, o, none⟩) hlt, e]
  exact ⟨h.nn, h.pt, fun j hj => key (h.cx j hj), fun j hj => key (h.cy j hj)⟩
/-- All numbers at once. -/
def EB (S : S0) (y : Lay) (be k0 k1 k2 k3 k4 k5 k6 k7 k8 k9 : Int) : EnvS := EP [S.lo, S.hi, S.u, S.v, S.w, S.p, S.q, S.r, S.n, be, k0, k1, k2, k3, k4, k5, k6, k7, k8, k9, S.bd 0 S.n.toNat, S.bd 1 S.n.toNat, S.bd 2 S.n.toNat, S.bd 3 S.n.toNat] S.F y
/-! What is known. -/
def rngE (e : IE) (l h : Int) : PC := [(.lt e (.lit l), false), (.lt (.lit h) e, false)]
def pcn : PC := rg 8 3 64 ++ rg 0 (-1000000) 1000000 ++ rg 1 (-1000000) 1000000 ++ [(.lt (.sub (.at 8) (.lit 1)) (.at 8), true)]
def inR (k : IE) : PC := rngE (.ap 0 k (.lit 0)) (-1000000) 1000000 ++ rngE (.ap 0 k (.lit 1)) (-1000000) 1000000
def kIn (i : Nat) : PC := [(.lt (.at i) (.at 8), true), (.le (.lit 0) (.at i), true), (.lt (.at i) (.lit 0), false), (.lt (.lit 64) (.at i), false)]
def kOut (i : Nat) : PC := [(.lt (.at i) (.at 8), false)]
def remF (e : IE) : PC := [(.lt (.rem e (.at 8)) (.at 8), true), (.le (.lit 0) (.rem e (.at 8)), true)]
def i8 (e : IE) : SCl := .int .i64 e
def ptS (k : IE) : SV := .agg [i8 (.ap 0 k (.lit 0)), i8 (.ap 0 k (.lit 1))]
def nxt (i : Nat) : IE := .rem (.add (.at i) (.lit 1)) (.at 8)
section
variable {ρ : EnvS}
theorem rngE_ok {e : IE} {l h : Int} (h1 : l ≤ e.den ρ) (h2 : e.den ρ ≤ h) : PC.Ok ρ (rngE e l h) := .cons' h1 (.cons' h2 .nil)
theorem pcn_ok (h1 : 3 ≤ ρ.v 8) (h2 : ρ.v 8 ≤ 64) (h3 : InM (ρ.v 0)) (h4 : InM (ρ.v 1)) : pcn.Ok ρ :=
  (((rg_ok h1 h2).app (rg_ok h3.1 h3.2)).app (rg_ok h4.1 h4.2)).app (.cons' (by show ρ.v 8 - 1 < ρ.v 8; omega) .nil)
theorem inR_ok {k : IE} (h1 : InM (ρ.f 0 (k.den ρ) 0)) (h2 : InM (ρ.f 0 (k.den ρ) 1)) : (inR k).Ok ρ := (rngE_ok h1.1 h1.2).app (rngE_ok h2.1 h2.2)
theorem kIn_ok {i : Nat} (h1 : 0 ≤ ρ.v i) (h2 : ρ.v i < ρ.v 8) (h3 : ρ.v 8 ≤ 64) : (kIn i).Ok ρ := .cons' h2 (.cons' h1 (.cons' h1 (.cons' (by show ρ.v i ≤ 64; omega) .nil)))
theorem kOut_ok {i : Nat} (h1 : ρ.v 8 ≤ ρ.v i) : (kOut i).Ok ρ := .cons' h1 .nil
theorem remF_ok {e : IE} (h1 : 0 ≤ e.den ρ) (h2 : 0 < ρ.v 8) : (remF e).Ok ρ := .cons' (Int.tmod_lt_of_pos _ h2) (.cons' (Int.tmod_nonneg _ h1) .nil)
end
/-! Turns. -/
def p6 : PC := rg 0 (-1000000) 1000000 ++ rg 1 (-1000000) 1000000 ++ rg 2 (-1000000) 1000000 ++ rg 3 (-1000000) 1000000 ++ rg 4 (-1000000) 1000000 ++ rg 5 (-1000000) 1000000
def dE : IE := .sub (.mul (.sub (.at 2) (.at 0)) (.sub (.at 5) (.at 1))) (.mul (.sub (.at 3) (.at 1)) (.sub (.at 4) (.at 0)))
theorem orient_tree : tree Try.prog [] p6 300 20 67 [.agg (iv 0 2), .agg (iv 2 2), .agg (iv 4 2)] = .br (.lt dE (.lit 0)) (.ret (.one (i8 (.lit (-1))))) (.br (.lt (.lit 0) dE) (.ret (.one (i8 (.lit 1)))) (.ret (.one (i8 (.lit 0))))) := by kernel_rfl
theorem orient_at {a b c d e f : Int} (ha : InM a) (hb : InM b) (hc : InM c) (hd : InM d) (he : InM e) (hf : InM f) (W : World) : Calls Try.prog 67 #[.agg #[.int .i64 a, .int .i64 b], .agg #[.int .i64 c, .int .i64 d], .agg #[.int .i64 e, .int .i64 f]] W
    fun x w' => x = .returned (.int .i64 (sgn (crs a b c d e f))) ∧ Below W.heap.size W w' := by
  have hp : PC.Ok (envX [a, b, c, d, e, f] []) p6 := (((((rg_ok ha.1 ha.2).app (rg_ok hb.1 hb.2)).app (rg_ok hc.1 hc.2)).app (rg_ok hd.1 hd.2)).app (rg_ok he.1 he.2)).app (rg_ok hf.1 hf.2)
  refine tree_fun (ρ := envX [a, b, c, d, e, f] []) .nil hp wide orient_tree (by kernel_rfl) rfl (u := .int .i64 (sgn (crs a b c d e f))) ?_ W
  refine All.br' (fun h => All.ret ?_) (fun h => All.br' (fun h' => All.ret ?_) (fun h' => All.ret ?_))
  · have h : crs a b c d e f < 0 := h
    show Value.int .i64 (-1) = _
    unfold sgn; rw [if_pos h]
  · have h : 0 ≤ crs a b c d e f := h
    have h' : 0 < crs a b c d e f := h'
    show Value.int .i64 1 = _
    unfold sgn; rw [if_neg (by omega), if_pos h']
  · have h : 0 ≤ crs a b c d e f := h
    have h' : crs a b c d e f ≤ 0 := h'
    show Value.int .i64 0 = _
    unfold sgn; rw [if_neg (by omega), if_neg (by omega)]
/-! The first round in which a loop is left. -/
theorem first_of (P : Int → Prop) (n : Int) (hn : 0 ≤ n) : ∃ k : Int, 0 ≤ k ∧ k ≤ n ∧ (∀ j, 0 ≤ j → j < k → P j) ∧ (k = n ∨ (k < n ∧ ¬ P k)) := by
  have key : ∀ m : Nat, (m : Int) ≤ n → (∃ k : Int, 0 ≤ k ∧ k ≤ n ∧ (∀ j, 0 ≤ j → j < k → P j) ∧ (k = n ∨ (k < n ∧ ¬ P k))) ∨ ∀ j : Int, 0 ≤ j → j < m → P j := by
    intro m
    induction m with
    | zero => intro _; right; intro j h1 h2; omega
    | succ m ih =>
      intro hm
      rcases ih (by omega) with h | h
      · exact .inl h
      · by_cases hp : P m
        · right
          intro j h1 h2
          by_cases e : j = m
          · rw [e]; exact hp
          · exact h j h1 (by omega)
        · left
          exact ⟨m, by omega, by omega, h, .inr ⟨by omega, hp⟩⟩
  rcases key n.toNat (by omega) with h | h
  · exact h
  · exact ⟨n, hn, Int.le_refl _, fun j h1 h2 => h j h1 (by omega), .inl rfl⟩
end Go.Proofs.Ytmpadjlplgajcaa
