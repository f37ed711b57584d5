/- What is known of calls over a half-space and a box; the walk of PlaneCorners. -/
import Derived.Test.YtdcblfibkoiflaaPlaC
namespace Go.Proofs.Ytdcblfibkoiflaa
open Go.RowKit
def conC : Con := [(12, [], .one (.bool (.lit true))), (14, [.agg (iv 0 4)], i1 20), (15, [.agg (iv 0 4)], i1 20), (57, [.agg (iv 4 6)], i1 21), (40, [.agg (iv 4 6)], i1 21)]
theorem conC_ok (a b c d x y z u v w : Int) (xs ys : List Int) : ConOk Try.prog (envX (a :: b :: c :: d :: x :: y :: z :: u :: v :: w :: xs) (chkH a b c d :: chkB x y z u v w :: ys)) conC :=
  .cons (fun _ W => awake_any W) (.cons (fun _ W => pCheckH_any a b c d W) (.cons (fun _ W => rCheckH_any a b c d W) (.cons (fun _ W => bCheckB_any x y z u v w W) (.cons (fun _ W => rCheckB_any x y z u v w W) .nil))))
def conX : Con := (39, [.agg (iv 0 4), .agg (iv 4 6)], .tup [⟨false, [.int .i64 (.at 22)]⟩, ⟨false, [.int .i64 (.at 23)]⟩]) :: conC
theorem conX_ok {a b c d x y z u v w : Int} (h1 : chkH a b c d = 0) (h2 : chkB x y z u v w = 0) (xs ys : List Int) :
    ConOk Try.prog (envX (a :: b :: c :: d :: x :: y :: z :: u :: v :: w :: xs) (chkH a b c d :: chkB x y z u v w :: loE a b c d x y z u v w :: hiE a b c d x y z u v w :: ys)) conX :=
  .cons (fun _ W => pExtremes_any h1 h2 W) (conC_ok _ _ _ _ _ _ _ _ _ _ _ _)
def badH : PC := [(.eq (.at 20) (.lit 0), false)]
def badB : PC := [(.eq (.at 20) (.lit 0), true), (.eq (.at 21) (.lit 0), false)]
def okS : PC := [(.eq (.at 20) (.lit 0), true), (.eq (.at 21) (.lit 0), true)] ++ rH ++ rB
theorem okS_ok {a b c d x y z u v w : Int} (h1 : chkH a b c d = 0) (h2 : chkB x y z u v w = 0) (xs ys : List Int) : PC.Ok (envX (a :: b :: c :: d :: x :: y :: z :: u :: v :: w :: xs) (chkH a b c d :: chkB x y z u v w :: ys)) okS :=
  have e : PC.Ok (envX (a :: b :: c :: d :: x :: y :: z :: u :: v :: w :: xs) (chkH a b c d :: chkB x y z u v w :: ys)) [(.eq (.at 20) (.lit 0), true), (.eq (.at 21) (.lit 0), true)] := .cons' h1 (.cons' h2 .nil)
  (e.app (rH_ok h1)).app (rB_ok h2)
def inF : PC := [(.le (.at 23) (.lit 0), true), (.lt (.at 22) (.lit 0), true), (.lt (.at 22) (.at 23), true)]
def outF : PC := [(.lt (.lit 0) (.at 23), true), (.le (.lit 0) (.at 22), true), (.lt (.at 22) (.at 23), true)]
def acF : PC := [(.lt (.lit 0) (.at 23), true), (.lt (.at 22) (.lit 0), true), (.lt (.at 22) (.at 23), true)]
theorem mul_cmp (a : Int) {x u : Int} (h : x < u) : (a = 0 ∧ a * x = 0 ∧ a * u = 0) ∨ (0 < a ∧ a * x < a * u) ∨ (a < 0 ∧ a * u < a * x) := by
  rcases Int.lt_trichotomy a 0 with h1 | h1 | h1
  · exact .inr (.inr ⟨h1, Int.mul_lt_mul_of_neg_left h h1⟩)
  · exact .inl ⟨h1, by simp [h1], by simp [h1]⟩
  · exact .inr (.inl ⟨h1, Int.mul_lt_mul_of_pos_left h h1⟩)
theorem lo_lt_hi {a b c d x y z u v w : Int} (h1 : chkH a b c d = 0) (h2 : chkB x y z u v w = 0) : loE a b c d x y z u v w < hiE a b c d x y z u v w := by
  obtain ⟨_, _, _, _, hz⟩ := chkH_ok h1
  obtain ⟨⟨_, q1, _⟩, ⟨_, q2, _⟩, _, q3, _⟩ := chkB_ok h2
  have m1 := mul_cmp a q1
  have m2 := mul_cmp b q2
  have m3 := mul_cmp c q3
  have e1 := mnI_spec (a * x) (a * u)
  have e2 := mnI_spec (b * y) (b * v)
  have e3 := mnI_spec (c * z) (c * w)
  have g1 := mxI_spec (a * x) (a * u)
  have g2 := mxI_spec (b * y) (b * v)
  have g3 := mxI_spec (c * z) (c * w)
  unfold loE hiE
  omega
/-- The three positions of a box. -/
theorem parts (lo hi : Int) (h : lo < hi) (xs : List Int) (p q : Int) (ys : List Int) : PC.Ok (envX xs (p :: q :: lo :: hi :: ys)) inF ∨ PC.Ok (envX xs (p :: q :: lo :: hi :: ys)) outF ∨ PC.Ok (envX xs (p :: q :: lo :: hi :: ys)) acF := by
  by_cases h1 : hi ≤ 0
  · exact .inl (.cons' h1 (.cons' (show lo < 0 by omega) (.cons' h .nil)))
  · by_cases h2 : 0 ≤ lo
    · exact .inr (.inl (.cons' (show 0 < hi by omega) (.cons' h2 (.cons' h .nil))))
    · exact .inr (.inr (.cons' (show 0 < hi by omega) (.cons' (show lo < 0 by omega) (.cons' h .nil))))
def cval (p q r : Nat) : IE := .sub (.add (.add (.mul (.at 0) (.at p)) (.mul (.at 1) (.at q))) (.mul (.at 2) (.at r))) (.at 3)
def cor (p q r : Nat) : PC := [(.le (.at 22) (cval p q r), true), (.le (cval p q r) (.at 23), true)]
def corners : PC := cor 4 5 6 ++ cor 4 5 9 ++ cor 4 8 6 ++ cor 4 8 9 ++ cor 7 5 6 ++ cor 7 5 9 ++ cor 7 8 6 ++ cor 7 8 9
theorem corners_ok (a b c d x y z u v w p q : Int) (xs ys : List Int) : PC.Ok (envX (a :: b :: c :: d :: x :: y :: z :: u :: v :: w :: xs) (p :: q :: loE a b c d x y z u v w :: hiE a b c d x y z u v w :: ys)) corners := by
  have e1 := mnI_spec (a * x) (a * u)
  have e2 := mnI_spec (b * y) (b * v)
  have e3 := mnI_spec (c * z) (c * w)
  have g1 := mxI_spec (a * x) (a * u)
  have g2 := mxI_spec (b * y) (b * v)
  have g3 := mxI_spec (c * z) (c * w)
  have one : ∀ px py pz : Int, (px = x ∨ px = u) → (py = y ∨ py = v) → (pz = z ∨ pz = w) → loE a b c d x y z u v w ≤ a * px + b * py + c * pz - d ∧ a * px + b * py + c * pz - d ≤ hiE a b c d x y z u v w := by
    intro px py pz h1 h2 h3
    unfold loE hiE
    rcases h1 with rfl | rfl <;> rcases h2 with rfl | rfl <;> rcases h3 with rfl | rfl <;> omega
  have two : ∀ i j k px py pz, (envX (a :: b :: c :: d :: x :: y :: z :: u :: v :: w :: xs) (p :: q :: loE a b c d x y z u v w :: hiE a b c d x y z u v w :: ys)).v i = px → (envX (a :: b :: c :: d :: x :: y :: z :: u :: v :: w :: xs) (p :: q :: loE a b c d x y z u v w :: hiE a b c d x y z u v w :: ys)).v j = py →
      (envX (a :: b :: c :: d :: x :: y :: z :: u :: v :: w :: xs) (p :: q :: loE a b c d x y z u v w :: hiE a b c d x y z u v w :: ys)).v k = pz → (px = x ∨ px = u) → (py = y ∨ py = v) → (pz = z ∨ pz = w) → PC.Ok (envX (a :: b :: c :: d :: x :: y :: z :: u :: v :: w :: xs) (p :: q :: loE a b c d x y z u v w :: hiE a b c d x y z u v w :: ys)) (cor i j k) := by
    intro i j k px py pz e1 e2 e3 h1 h2 h3
    have := one px py pz h1 h2 h3
    subst e1
    subst e2
    subst e3
    exact .cons' this.1 (.cons' this.2 .nil)
  exact (((((((two 4 5 6 x y z rfl rfl rfl (.inl rfl) (.inl rfl) (.inl rfl)).app (two 4 5 9 x y w rfl rfl rfl (.inl rfl) (.inl rfl) (.inr rfl))).app (two 4 8 6 x v z rfl rfl rfl (.inl rfl) (.inr rfl) (.inl rfl))).app (two 4 8 9 x v w rfl rfl rfl (.inl rfl) (.inr rfl) (.inr rfl))).app
    (two 7 5 6 u y z rfl rfl rfl (.inr rfl) (.inl rfl) (.inl rfl))).app (two 7 5 9 u y w rfl rfl rfl (.inr rfl) (.inl rfl) (.inr rfl))).app (two 7 8 6 u v z rfl rfl rfl (.inr rfl) (.inr rfl) (.inl rfl))).app (two 7 8 9 u v w rfl rfl rfl (.inr rfl) (.inr rfl) (.inr rfl))
theorem corT1 : treeB Try.prog conC badH 300 20 9 [.agg (iv 0 4), .agg (iv 4 6), i1 10] = .ret (.one (.bool (.lit true))) := by kernel_rfl
theorem corT2 : treeB Try.prog conC badB 300 20 9 [.agg (iv 0 4), .agg (iv 4 6), i1 10] = .ret (.one (.bool (.lit true))) := by kernel_rfl
theorem corT3 : treeB Try.prog conX (corners ++ (inF ++ okS)) 300 20 9 [.agg (iv 0 4), .agg (iv 4 6), i1 10] = .ret (.one (.bool (.lit true))) := by kernel_rfl
theorem corT4 : treeB Try.prog conX (corners ++ (outF ++ okS)) 300 20 9 [.agg (iv 0 4), .agg (iv 4 6), i1 10] = .ret (.one (.bool (.lit true))) := by kernel_rfl
theorem corT5 : treeB Try.prog conX (corners ++ (acF ++ okS)) 300 20 9 [.agg (iv 0 4), .agg (iv 4 6), i1 10] = .ret (.one (.bool (.lit true))) := by kernel_rfl
theorem corners_walk (a b c d x y z u v w k : Int) (W : World) : Calls Try.prog 9 #[.agg #[.int .i64 a, .int .i64 b, .int .i64 c, .int .i64 d], .agg #[.int .i64 x, .int .i64 y, .int .i64 z, .int .i64 u, .int .i64 v, .int .i64 w], .int .i64 k] W fun e w' => e = .returned (.bool true) ∧ Below W.heap.size W w' := by
  by_cases h1 : chkH a b c d = 0
  · by_cases h2 : chkB x y z u v w = 0
    · have hc := conX_ok h1 h2 [k] []
      have ho := okS_ok h1 h2 [k] [loE a b c d x y z u v w, hiE a b c d x y z u v w]
      have hk := corners_ok a b c d x y z u v w (chkH a b c d) (chkB x y z u v w) [k] []
      rcases parts _ _ (lo_lt_hi h1 h2) [a, b, c, d, x, y, z, u, v, w, k] (chkH a b c d) (chkB x y z u v w) [] with h | h | h
      · exact tree_law hc (hk.app (h.app ho)) wide corT3 (by kernel_rfl) rfl Good.yes W
      · exact tree_law hc (hk.app (h.app ho)) wide corT4 (by kernel_rfl) rfl Good.yes W
      · exact tree_law hc (hk.app (h.app ho)) wide corT5 (by kernel_rfl) rfl Good.yes W
    · exact tree_law (conC_ok a b c d x y z u v w [k] []) (pc := badB) (.cons' h1 (.cons' h2 .nil)) wide corT2 (by kernel_rfl) rfl Good.yes W
  · exact tree_law (conC_ok a b c d x y z u v w [k] []) (pc := badH) (.cons' h1 .nil) wide corT1 (by kernel_rfl) rfl Good.yes W
end Go.Proofs.Ytdcblfibkoiflaa
