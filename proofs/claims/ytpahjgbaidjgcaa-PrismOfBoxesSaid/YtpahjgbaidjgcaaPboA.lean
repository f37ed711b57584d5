/- PrismOfBoxes: the turns at the corners of two boxes; what is known of them. -/
import Derived.Test.YtpahjgbaidjgcaaPriH
namespace Go.Proofs.Ytpahjgbaidjgcaa
open Go.RowKit
theorem sgn_mul {a b : Int} (h : 0 < a) : sgn (a * b) = sgn b := by
  unfold sgn
  rcases Int.lt_trichotomy b 0 with hb | hb | hb
  · have : a * b < 0 := Int.mul_neg_of_pos_of_neg h hb
    rw [if_pos this, if_pos hb]
  · subst hb; rw [Int.mul_zero]
  · have : 0 < a * b := Int.mul_pos h hb
    rw [if_neg (show ¬ a * b < 0 by omega), if_pos this, if_neg (show ¬ b < 0 by omega), if_pos hb]
theorem or0 {a b c x y : Int} (h : a < c) : sgn (crs a b c b x y) = sgn (y - b) := by
  rw [← sgn_mul (a := c - a) (b := y - b) (by omega)]; congr 1; unfold crs; grind
theorem or1 {a b d x y : Int} (h : b < d) : sgn (crs a b a d x y) = sgn (a - x) := by
  rw [← sgn_mul (a := d - b) (b := a - x) (by omega)]; congr 1; unfold crs; grind
theorem or2 {a b c x y : Int} (h : a < c) : sgn (crs c b a b x y) = sgn (b - y) := by
  rw [← sgn_mul (a := c - a) (b := b - y) (by omega)]; congr 1; unfold crs; grind
theorem or3 {a b d x y : Int} (h : b < d) : sgn (crs a d a b x y) = sgn (x - a) := by
  rw [← sgn_mul (a := d - b) (b := x - a) (by omega)]; congr 1; unfold crs; grind
theorem posT {x : Int} (h : 0 < x) : 0 < sgn x := sgn_gt.2 h
theorem posF {x : Int} (h : x ≤ 0) : sgn x ≤ 0 := Int.not_lt.1 fun c => absurd (sgn_gt.1 c) (by omega)
theorem negT {x : Int} (h : x < 0) : sgn x < 0 := sgn_lt.2 h
theorem negF {x : Int} (h : 0 ≤ x) : 0 ≤ sgn x := Int.not_lt.1 fun c => absurd (sgn_lt.1 c) (by omega)
def bS (u v w p q r : Int) : S0 := ⟨0, fun _ => 0, fun _ => 0, 0, 1, u, v, w, p, q, r⟩
def EV (u v w p q r U V W P Q R be : Int) : EnvS := envX [u, v, w, p, q, r, U, V, W, P, Q, R, 0, 0, 0, 0, 0, 0, 0, be] [sgn (U - u), sgn (p - P), sgn (V - v), sgn (q - Q), sgn (P - u), sgn (p - U), sgn (Q - v), sgn (q - V), sgn (u - U), sgn (P - p), sgn (v - V), sgn (Q - q)]
section
variable {u v w p q r U V W P Q R be : Int}
def conV : Con := [(67, [.agg [i8 (.at 0), i8 (.at 4)], .agg [i8 (.at 0), i8 (.at 1)], .agg [i8 (.at 3), i8 (.at 1)]], .one (i8 (.lit 1))),
  (67, [.agg [i8 (.at 0), i8 (.at 1)], .agg [i8 (.at 3), i8 (.at 1)], .agg [i8 (.at 3), i8 (.at 4)]], .one (i8 (.lit 1))),
  (67, [.agg [i8 (.at 3), i8 (.at 1)], .agg [i8 (.at 3), i8 (.at 4)], .agg [i8 (.at 0), i8 (.at 4)]], .one (i8 (.lit 1))),
  (67, [.agg [i8 (.at 3), i8 (.at 4)], .agg [i8 (.at 0), i8 (.at 4)], .agg [i8 (.at 0), i8 (.at 1)]], .one (i8 (.lit 1)))] ++ con1
def conO : Con := [(67, [.agg [i8 (.at 0), i8 (.at 1)], .agg [i8 (.at 3), i8 (.at 1)], .agg [i8 (.at 6), i8 (.at 7)]], .one (i8 (.at 22))),
  (67, [.agg [i8 (.at 0), i8 (.at 1)], .agg [i8 (.at 3), i8 (.at 1)], .agg [i8 (.at 9), i8 (.at 7)]], .one (i8 (.at 22))),
  (67, [.agg [i8 (.at 0), i8 (.at 1)], .agg [i8 (.at 3), i8 (.at 1)], .agg [i8 (.at 9), i8 (.at 10)]], .one (i8 (.at 26))),
  (67, [.agg [i8 (.at 0), i8 (.at 1)], .agg [i8 (.at 3), i8 (.at 1)], .agg [i8 (.at 6), i8 (.at 10)]], .one (i8 (.at 26))),
  (67, [.agg [i8 (.at 3), i8 (.at 1)], .agg [i8 (.at 3), i8 (.at 4)], .agg [i8 (.at 6), i8 (.at 7)]], .one (i8 (.at 25))),
  (67, [.agg [i8 (.at 3), i8 (.at 1)], .agg [i8 (.at 3), i8 (.at 4)], .agg [i8 (.at 9), i8 (.at 7)]], .one (i8 (.at 21))),
  (67, [.agg [i8 (.at 3), i8 (.at 1)], .agg [i8 (.at 3), i8 (.at 4)], .agg [i8 (.at 9), i8 (.at 10)]], .one (i8 (.at 21))),
  (67, [.agg [i8 (.at 3), i8 (.at 1)], .agg [i8 (.at 3), i8 (.at 4)], .agg [i8 (.at 6), i8 (.at 10)]], .one (i8 (.at 25))),
  (67, [.agg [i8 (.at 3), i8 (.at 4)], .agg [i8 (.at 0), i8 (.at 4)], .agg [i8 (.at 6), i8 (.at 7)]], .one (i8 (.at 27))),
  (67, [.agg [i8 (.at 3), i8 (.at 4)], .agg [i8 (.at 0), i8 (.at 4)], .agg [i8 (.at 9), i8 (.at 7)]], .one (i8 (.at 27))),
  (67, [.agg [i8 (.at 3), i8 (.at 4)], .agg [i8 (.at 0), i8 (.at 4)], .agg [i8 (.at 9), i8 (.at 10)]], .one (i8 (.at 23))),
  (67, [.agg [i8 (.at 3), i8 (.at 4)], .agg [i8 (.at 0), i8 (.at 4)], .agg [i8 (.at 6), i8 (.at 10)]], .one (i8 (.at 23))),
  (67, [.agg [i8 (.at 0), i8 (.at 4)], .agg [i8 (.at 0), i8 (.at 1)], .agg [i8 (.at 6), i8 (.at 7)]], .one (i8 (.at 20))),
  (67, [.agg [i8 (.at 0), i8 (.at 4)], .agg [i8 (.at 0), i8 (.at 1)], .agg [i8 (.at 9), i8 (.at 7)]], .one (i8 (.at 24))),
  (67, [.agg [i8 (.at 0), i8 (.at 4)], .agg [i8 (.at 0), i8 (.at 1)], .agg [i8 (.at 9), i8 (.at 10)]], .one (i8 (.at 24))),
  (67, [.agg [i8 (.at 0), i8 (.at 4)], .agg [i8 (.at 0), i8 (.at 1)], .agg [i8 (.at 6), i8 (.at 10)]], .one (i8 (.at 20))),
  (67, [.agg [i8 (.at 6), i8 (.at 7)], .agg [i8 (.at 9), i8 (.at 7)], .agg [i8 (.at 0), i8 (.at 1)]], .one (i8 (.at 30))),
  (67, [.agg [i8 (.at 6), i8 (.at 7)], .agg [i8 (.at 9), i8 (.at 7)], .agg [i8 (.at 3), i8 (.at 1)]], .one (i8 (.at 30))),
  (67, [.agg [i8 (.at 6), i8 (.at 7)], .agg [i8 (.at 9), i8 (.at 7)], .agg [i8 (.at 3), i8 (.at 4)]], .one (i8 (.at 27))),
  (67, [.agg [i8 (.at 6), i8 (.at 7)], .agg [i8 (.at 9), i8 (.at 7)], .agg [i8 (.at 0), i8 (.at 4)]], .one (i8 (.at 27))),
  (67, [.agg [i8 (.at 9), i8 (.at 7)], .agg [i8 (.at 9), i8 (.at 10)], .agg [i8 (.at 0), i8 (.at 1)]], .one (i8 (.at 24))),
  (67, [.agg [i8 (.at 9), i8 (.at 7)], .agg [i8 (.at 9), i8 (.at 10)], .agg [i8 (.at 3), i8 (.at 1)]], .one (i8 (.at 29))),
  (67, [.agg [i8 (.at 9), i8 (.at 7)], .agg [i8 (.at 9), i8 (.at 10)], .agg [i8 (.at 3), i8 (.at 4)]], .one (i8 (.at 29))),
  (67, [.agg [i8 (.at 9), i8 (.at 7)], .agg [i8 (.at 9), i8 (.at 10)], .agg [i8 (.at 0), i8 (.at 4)]], .one (i8 (.at 24))),
  (67, [.agg [i8 (.at 9), i8 (.at 10)], .agg [i8 (.at 6), i8 (.at 10)], .agg [i8 (.at 0), i8 (.at 1)]], .one (i8 (.at 26))),
  (67, [.agg [i8 (.at 9), i8 (.at 10)], .agg [i8 (.at 6), i8 (.at 10)], .agg [i8 (.at 3), i8 (.at 1)]], .one (i8 (.at 26))),
  (67, [.agg [i8 (.at 9), i8 (.at 10)], .agg [i8 (.at 6), i8 (.at 10)], .agg [i8 (.at 3), i8 (.at 4)]], .one (i8 (.at 31))),
  (67, [.agg [i8 (.at 9), i8 (.at 10)], .agg [i8 (.at 6), i8 (.at 10)], .agg [i8 (.at 0), i8 (.at 4)]], .one (i8 (.at 31))),
  (67, [.agg [i8 (.at 6), i8 (.at 10)], .agg [i8 (.at 6), i8 (.at 7)], .agg [i8 (.at 0), i8 (.at 1)]], .one (i8 (.at 28))),
  (67, [.agg [i8 (.at 6), i8 (.at 10)], .agg [i8 (.at 6), i8 (.at 7)], .agg [i8 (.at 3), i8 (.at 1)]], .one (i8 (.at 25))),
  (67, [.agg [i8 (.at 6), i8 (.at 10)], .agg [i8 (.at 6), i8 (.at 7)], .agg [i8 (.at 3), i8 (.at 4)]], .one (i8 (.at 25))),
  (67, [.agg [i8 (.at 6), i8 (.at 10)], .agg [i8 (.at 6), i8 (.at 7)], .agg [i8 (.at 0), i8 (.at 4)]], .one (i8 (.at 28)))] ++ conV
theorem conV_ok (ha : Bx (bS u v w p q r)) : ConOk Try.prog (EV u v w p q r U V W P Q R be) conV :=
  .cons (fun _ w0 => by have h := orient_at (a := u) (b := q) (c := u) (d := v) (e := p) (f := v) ha.u ha.q ha.u ha.v ha.p ha.v w0; rw [or3 (by exact ha.vq), sgn_one (show 0 < p - u by have := ha.up; have := ha.vq; simp only [bS] at *; omega)] at h; exact h) (
  .cons (fun _ w0 => by have h := orient_at (a := u) (b := v) (c := p) (d := v) (e := p) (f := q) ha.u ha.v ha.p ha.v ha.p ha.q w0; rw [or0 (by exact ha.up), sgn_one (show 0 < q - v by have := ha.up; have := ha.vq; simp only [bS] at *; omega)] at h; exact h) (
  .cons (fun _ w0 => by have h := orient_at (a := p) (b := v) (c := p) (d := q) (e := u) (f := q) ha.p ha.v ha.p ha.q ha.u ha.q w0; rw [or1 (by exact ha.vq), sgn_one (show 0 < p - u by have := ha.up; have := ha.vq; simp only [bS] at *; omega)] at h; exact h) (
  .cons (fun _ w0 => by have h := orient_at (a := p) (b := q) (c := u) (d := q) (e := u) (f := v) ha.p ha.q ha.u ha.q ha.u ha.v w0; rw [or2 (by exact ha.up), sgn_one (show 0 < q - v by have := ha.up; have := ha.vq; simp only [bS] at *; omega)] at h; exact h) (
  con1_ok _))))
theorem conO_ok (ha : Bx (bS u v w p q r)) (hb : Bx (bS U V W P Q R)) : ConOk Try.prog (EV u v w p q r U V W P Q R be) conO :=
  .cons (fun _ w0 => by have h := orient_at (a := u) (b := v) (c := p) (d := v) (e := U) (f := V) ha.u ha.v ha.p ha.v hb.u hb.v w0; rw [or0 (by exact ha.up)] at h; exact h) (
  .cons (fun _ w0 => by have h := orient_at (a := u) (b := v) (c := p) (d := v) (e := P) (f := V) ha.u ha.v ha.p ha.v hb.p hb.v w0; rw [or0 (by exact ha.up)] at h; exact h) (
  .cons (fun _ w0 => by have h := orient_at (a := u) (b := v) (c := p) (d := v) (e := P) (f := Q) ha.u ha.v ha.p ha.v hb.p hb.q w0; rw [or0 (by exact ha.up)] at h; exact h) (
  .cons (fun _ w0 => by have h := orient_at (a := u) (b := v) (c := p) (d := v) (e := U) (f := Q) ha.u ha.v ha.p ha.v hb.u hb.q w0; rw [or0 (by exact ha.up)] at h; exact h) (
  .cons (fun _ w0 => by have h := orient_at (a := p) (b := v) (c := p) (d := q) (e := U) (f := V) ha.p ha.v ha.p ha.q hb.u hb.v w0; rw [or1 (by exact ha.vq)] at h; exact h) (
  .cons (fun _ w0 => by have h := orient_at (a := p) (b := v) (c := p) (d := q) (e := P) (f := V) ha.p ha.v ha.p ha.q hb.p hb.v w0; rw [or1 (by exact ha.vq)] at h; exact h) (
  .cons (fun _ w0 => by have h := orient_at (a := p) (b := v) (c := p) (d := q) (e := P) (f := Q) ha.p ha.v ha.p ha.q hb.p hb.q w0; rw [or1 (by exact ha.vq)] at h; exact h) (
  .cons (fun _ w0 => by have h := orient_at (a := p) (b := v) (c := p) (d := q) (e := U) (f := Q) ha.p ha.v ha.p ha.q hb.u hb.q w0; rw [or1 (by exact ha.vq)] at h; exact h) (
  .cons (fun _ w0 => by have h := orient_at (a := p) (b := q) (c := u) (d := q) (e := U) (f := V) ha.p ha.q ha.u ha.q hb.u hb.v w0; rw [or2 (by exact ha.up)] at h; exact h) (
  .cons (fun _ w0 => by have h := orient_at (a := p) (b := q) (c := u) (d := q) (e := P) (f := V) ha.p ha.q ha.u ha.q hb.p hb.v w0; rw [or2 (by exact ha.up)] at h; exact h) (
  .cons (fun _ w0 => by have h := orient_at (a := p) (b := q) (c := u) (d := q) (e := P) (f := Q) ha.p ha.q ha.u ha.q hb.p hb.q w0; rw [or2 (by exact ha.up)] at h; exact h) (
  .cons (fun _ w0 => by have h := orient_at (a := p) (b := q) (c := u) (d := q) (e := U) (f := Q) ha.p ha.q ha.u ha.q hb.u hb.q w0; rw [or2 (by exact ha.up)] at h; exact h) (
  .cons (fun _ w0 => by have h := orient_at (a := u) (b := q) (c := u) (d := v) (e := U) (f := V) ha.u ha.q ha.u ha.v hb.u hb.v w0; rw [or3 (by exact ha.vq)] at h; exact h) (
  .cons (fun _ w0 => by have h := orient_at (a := u) (b := q) (c := u) (d := v) (e := P) (f := V) ha.u ha.q ha.u ha.v hb.p hb.v w0; rw [or3 (by exact ha.vq)] at h; exact h) (
  .cons (fun _ w0 => by have h := orient_at (a := u) (b := q) (c := u) (d := v) (e := P) (f := Q) ha.u ha.q ha.u ha.v hb.p hb.q w0; rw [or3 (by exact ha.vq)] at h; exact h) (
  .cons (fun _ w0 => by have h := orient_at (a := u) (b := q) (c := u) (d := v) (e := U) (f := Q) ha.u ha.q ha.u ha.v hb.u hb.q w0; rw [or3 (by exact ha.vq)] at h; exact h) (
  .cons (fun _ w0 => by have h := orient_at (a := U) (b := V) (c := P) (d := V) (e := u) (f := v) hb.u hb.v hb.p hb.v ha.u ha.v w0; rw [or0 (by exact hb.up)] at h; exact h) (
  .cons (fun _ w0 => by have h := orient_at (a := U) (b := V) (c := P) (d := V) (e := p) (f := v) hb.u hb.v hb.p hb.v ha.p ha.v w0; rw [or0 (by exact hb.up)] at h; exact h) (
  .cons (fun _ w0 => by have h := orient_at (a := U) (b := V) (c := P) (d := V) (e := p) (f := q) hb.u hb.v hb.p hb.v ha.p ha.q w0; rw [or0 (by exact hb.up)] at h; exact h) (
  .cons (fun _ w0 => by have h := orient_at (a := U) (b := V) (c := P) (d := V) (e := u) (f := q) hb.u hb.v hb.p hb.v ha.u ha.q w0; rw [or0 (by exact hb.up)] at h; exact h) (
  .cons (fun _ w0 => by have h := orient_at (a := P) (b := V) (c := P) (d := Q) (e := u) (f := v) hb.p hb.v hb.p hb.q ha.u ha.v w0; rw [or1 (by exact hb.vq)] at h; exact h) (
  .cons (fun _ w0 => by have h := orient_at (a := P) (b := V) (c := P) (d := Q) (e := p) (f := v) hb.p hb.v hb.p hb.q ha.p ha.v w0; rw [or1 (by exact hb.vq)] at h; exact h) (
  .cons (fun _ w0 => by have h := orient_at (a := P) (b := V) (c := P) (d := Q) (e := p) (f := q) hb.p hb.v hb.p hb.q ha.p ha.q w0; rw [or1 (by exact hb.vq)] at h; exact h) (
  .cons (fun _ w0 => by have h := orient_at (a := P) (b := V) (c := P) (d := Q) (e := u) (f := q) hb.p hb.v hb.p hb.q ha.u ha.q w0; rw [or1 (by exact hb.vq)] at h; exact h) (
  .cons (fun _ w0 => by have h := orient_at (a := P) (b := Q) (c := U) (d := Q) (e := u) (f := v) hb.p hb.q hb.u hb.q ha.u ha.v w0; rw [or2 (by exact hb.up)] at h; exact h) (
  .cons (fun _ w0 => by have h := orient_at (a := P) (b := Q) (c := U) (d := Q) (e := p) (f := v) hb.p hb.q hb.u hb.q ha.p ha.v w0; rw [or2 (by exact hb.up)] at h; exact h) (
  .cons (fun _ w0 => by have h := orient_at (a := P) (b := Q) (c := U) (d := Q) (e := p) (f := q) hb.p hb.q hb.u hb.q ha.p ha.q w0; rw [or2 (by exact hb.up)] at h; exact h) (
  .cons (fun _ w0 => by have h := orient_at (a := P) (b := Q) (c := U) (d := Q) (e := u) (f := q) hb.p hb.q hb.u hb.q ha.u ha.q w0; rw [or2 (by exact hb.up)] at h; exact h) (
  .cons (fun _ w0 => by have h := orient_at (a := U) (b := Q) (c := U) (d := V) (e := u) (f := v) hb.u hb.q hb.u hb.v ha.u ha.v w0; rw [or3 (by exact hb.vq)] at h; exact h) (
  .cons (fun _ w0 => by have h := orient_at (a := U) (b := Q) (c := U) (d := V) (e := p) (f := v) hb.u hb.q hb.u hb.v ha.p ha.v w0; rw [or3 (by exact hb.vq)] at h; exact h) (
  .cons (fun _ w0 => by have h := orient_at (a := U) (b := Q) (c := U) (d := V) (e := p) (f := q) hb.u hb.q hb.u hb.v ha.p ha.q w0; rw [or3 (by exact hb.vq)] at h; exact h) (
  .cons (fun _ w0 => by have h := orient_at (a := U) (b := Q) (c := U) (d := V) (e := u) (f := q) hb.u hb.q hb.u hb.v ha.u ha.q w0; rw [or3 (by exact hb.vq)] at h; exact h) (
  conV_ok ha))))))))))))))))))))))))))))))))
def mn5 (a b c d e : Nat) : IE := .mn (.mn (.mn (.mn (.at a) (.at b)) (.at c)) (.at d)) (.at e)
def mx5 (a b c d e : Nat) : IE := .mx (.mx (.mx (.mx (.at a) (.at b)) (.at c)) (.at d)) (.at e)
def ml2 (a b : Nat) : IE := .mul (.at a) (.at b)
def arS : IE := .add (.add (.add (.sub (ml2 0 1) (ml2 3 1)) (.sub (ml2 3 4) (ml2 3 1))) (.sub (ml2 3 4) (ml2 0 4))) (.sub (ml2 0 1) (ml2 0 4))
def pA0 : PC := rg 0 (-1000000) 1000000 ++ rg 1 (-1000000) 1000000 ++ rg 2 (-1000000) 1000000 ++ rg 3 (-1000000) 1000000 ++ rg 4 (-1000000) 1000000 ++ rg 5 (-1000000) 1000000 ++ [(.lt (.at 0) (.at 3), true), (.lt (.at 1) (.at 4), true), (.lt (.at 2) (.at 5), true)]
def pH0 : PC := [(.eq (mn5 0 0 3 3 0) (.at 0), true), (.eq (mn5 1 1 1 4 4) (.at 1), true), (.eq (mx5 0 0 3 3 0) (.at 3), true), (.eq (mx5 1 1 1 4 4) (.at 4), true), (.eq arS (.mul (.mul (.lit (2)) (.sub (.at 3) (.at 0))) (.sub (.at 4) (.at 1))), true)]
def pB0 : PC := rg 6 (-1000000) 1000000 ++ rg 7 (-1000000) 1000000 ++ rg 8 (-1000000) 1000000 ++ rg 9 (-1000000) 1000000 ++ rg 10 (-1000000) 1000000 ++ rg 11 (-1000000) 1000000 ++ [(.lt (.at 6) (.at 9), true), (.lt (.at 7) (.at 10), true), (.lt (.at 8) (.at 11), true)]
theorem pA0_ok (ha : Bx (bS u v w p q r)) : pA0.Ok (EV u v w p q r U V W P Q R be) := ((((((rg_ok ha.u.1 ha.u.2).app (rg_ok ha.v.1 ha.v.2)).app (rg_ok ha.w.1 ha.w.2)).app (rg_ok ha.p.1 ha.p.2)).app (rg_ok ha.q.1 ha.q.2)).app (rg_ok ha.r.1 ha.r.2)).app (.cons' ha.up (.cons' ha.vq (.cons' ha.wr .nil)))
theorem pB0_ok (hb : Bx (bS U V W P Q R)) : pB0.Ok (EV u v w p q r U V W P Q R be) := ((((((rg_ok hb.u.1 hb.u.2).app (rg_ok hb.v.1 hb.v.2)).app (rg_ok hb.w.1 hb.w.2)).app (rg_ok hb.p.1 hb.p.2)).app (rg_ok hb.q.1 hb.q.2)).app (rg_ok hb.r.1 hb.r.2)).app (.cons' hb.up (.cons' hb.vq (.cons' hb.wr .nil)))
theorem mn_l {a b : Int} (h : a ≤ b) : mnI a b = a := by unfold mnI; rw [if_neg (by omega)]
theorem mx_l {a b : Int} (h : b ≤ a) : mxI a b = a := by unfold mxI; rw [if_neg (by omega)]
theorem mx_r {a b : Int} (h : a < b) : mxI a b = b := by unfold mxI; rw [if_pos (by omega)]
theorem pH0_ok (ha : Bx (bS u v w p q r)) : pH0.Ok (EV u v w p q r U V W P Q R be) := by
  have h1 : u < p := ha.up
  have h2 : v < q := ha.vq
  refine .cons' ?_ (.cons' ?_ (.cons' ?_ (.cons' ?_ (.cons' ?_ .nil))))
  · show mnI (mnI (mnI (mnI u u) p) p) u = u
    rw [mn_l (Int.le_refl u), mn_l (show u ≤ p by omega), mn_l (show u ≤ p by omega), mn_l (Int.le_refl u)]
  · show mnI (mnI (mnI (mnI v v) v) q) q = v
    rw [mn_l (Int.le_refl v), mn_l (Int.le_refl v), mn_l (show v ≤ q by omega), mn_l (show v ≤ q by omega)]
  · show mxI (mxI (mxI (mxI u u) p) p) u = p
    rw [mx_l (Int.le_refl u), mx_r h1, mx_l (Int.le_refl p), mx_l (show u ≤ p by omega)]
  · show mxI (mxI (mxI (mxI v v) v) q) q = q
    rw [mx_l (Int.le_refl v), mx_l (Int.le_refl v), mx_r h2, mx_l (Int.le_refl q)]
  · show u * v - p * v + (p * q - p * v) + (p * q - u * q) + (u * v - u * q) = 2 * (p - u) * (q - v)
    grind
end
end Go.Proofs.Ytpahjgbaidjgcaa
