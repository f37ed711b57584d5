/- How a prism among the arguments is opened. -/
import Derived.Test.YtmpadjlplgajcaaE4V
import Derived.Test.YtmpadjlplgajcaaPriB
namespace Go.Proofs.Ytmpadjlplgajcaa
open Go.RowKit Go.Joins Go.Deep Go.ChangeShapes Go.WideShapes
section
variable {H : Type} {enc : TypeId × Value → H} {w : World} {base : Nat} {spare : Nat → Bool} {held : Bool}
set_option maxRecDepth 100000 in
theorem open_prism {r : Reach} {b0 : Nat} {v : Value} {d : DataW H} {p : List MemPlace} (hv : Value.okWide Try.prog w r b0 25 v) (h : DataW.Trod enc Try.prog w base spare held 25 v d p) :
    ∃ (q : Option Addr) (a o n c : Nat) (f : Int → Int → Int) (lo hi : Int), v = .agg #[.slice q n c, .int .i64 lo, .int .i64 hi] ∧ n ≤ maxLen ∧ (0 < n → q = some ⟨a, o, none⟩) ∧ (∀ j k : Nat, j < n → k < 2 → w.cell? ⟨a, o + j * 2 + k, none⟩ = some (.int .i64 (f j k))) ∧ ∀ j k, (j < 0 ∨ (n : Int) ≤ j) → f j k = 0 := by
  obtain ⟨cs, rfl, _⟩ := okWide_struct Try.underlying25 hv
  obtain ⟨fuel, hf⟩ := h
  obtain ⟨xs, m, _, _, hl, hlen, hfi⟩ := DataW.trod_struct Try.underlying25 hf
  have e3 : Try.prog.cellsOf 25 = 3 := by kernel_rfl
  rw [e3] at hl
  obtain ⟨l⟩ := cs
  simp only [Value.cells] at hl hfi
  match l, hl with
  | [c0, c1, c2], _ =>
    have k0 : Try.prog.cellsOf 23 = 1 := by kernel_rfl
    have k1 : Try.prog.cellsOf 3 = 1 := by kernel_rfl
    have hx : xs.length = 3 := hlen
    match xs, hx with
    | [y0, y1, y2], _ =>
      have g0 : DataW.trod enc Try.prog w base spare held m 23 (([c0, c1, c2].drop 0).take (Try.prog.cellsOf 23)) = some y0 := hfi 0 _ rfl
      rw [k0] at g0
      have g1 : DataW.trod enc Try.prog w base spare held m 3 (([c0, c1, c2].drop 1).take (Try.prog.cellsOf 3)) = some y1 := hfi 1 _ rfl
      rw [k1] at g1
      have g2 : DataW.trod enc Try.prog w base spare held m 3 (([c0, c1, c2].drop 2).take (Try.prog.cellsOf 3)) = some y2 := hfi 2 _ rfl
      rw [k1] at g2
      obtain ⟨q, a, o, n, c, f, e0, h1, h2, h3, h4⟩ := open_list (d := 10) (z := 2) Try.underlying23 (by kernel_rfl) (by kernel_rfl) (by decide) g0
      obtain ⟨lo, e1, _⟩ := DataW.trod_int Try.underlying3 g1
      obtain ⟨hi, e2, _⟩ := DataW.trod_int Try.underlying3 g2
      cases e0
      cases e1
      cases e2
      exact ⟨q, a, o, n, c, f, lo, hi, rfl, h1, h2, h3, h4⟩
end
theorem lies_of {w : World} {q : Option Addr} {a o n c : Nat} {f : Int → Int → Int} {lo hi b0 b1 b2 b3 b4 b5 : Int} (h1 : 0 < n → q = some ⟨a, o, none⟩) (h2 : ∀ j k : Nat, j < n → k < 2 → w.cell? ⟨a, o + j * 2 + k, none⟩ = some (.int .i64 (f j k))) :
    Lies ⟨n, fun j => f j 0, fun j => f j 1, lo, hi, b0, b1, b2, b3, b4, b5⟩ ⟨q, a, o, c⟩ w :=
  ⟨Int.natCast_nonneg _, fun h => h1 (by have : (0 : Int) < n := h; omega), fun j hj => h2 j 0 (by have : (j : Int) < n := hj; omega) (by decide), fun j hj => h2 j 1 (by have : (j : Int) < n := hj; omega) (by decide)⟩
end Go.Proofs.Ytmpadjlplgajcaa
