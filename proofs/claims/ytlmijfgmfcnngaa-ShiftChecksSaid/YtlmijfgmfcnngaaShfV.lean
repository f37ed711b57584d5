/- How a calendar among the arguments is opened. -/
import Derived.Test.YtlmijfgmfcnngaaEzV
import Derived.Test.YtlmijfgmfcnngaaShfB
namespace Go.Proofs.Ytlmijfgmfcnngaa
open Go.RowKit Go.Joins Go.Deep Go.ChangeShapes Go.WideShapes
section
variable {H : Type} {enc : TypeId × Value → H} {w : World} {base : Nat} {spare : Nat → Bool} {held : Bool}
set_option maxRecDepth 100000 in
theorem open_cal {r : Reach} {b0 : Nat} {v : Value} {d : DataW H} {p : List MemPlace} (hv : Value.okWide Try.prog w r b0 25 v) (h : DataW.Trod enc Try.prog w base spare held 25 v d p) :
    ∃ (q : Option Addr) (a o n c : Nat) (f : Int → Int → Int) (q' : Option Addr) (a' o' n' c' : Nat) (f' : Int → Int → Int), v = .agg #[.slice q n c, .slice q' n' c'] ∧ (0 < n → q = some ⟨a, o, none⟩) ∧ (∀ j k : Nat, j < n → k < 3 → w.cell? ⟨a, o + j * 3 + k, none⟩ = some (.int .i64 (f j k))) ∧
      (0 < n' → q' = some ⟨a', o', none⟩) ∧ (∀ j k : Nat, j < n' → k < 1 → w.cell? ⟨a', o' + j * 1 + k, none⟩ = some (.int .i64 (f' j k))) := by
  obtain ⟨cs, rfl, _⟩ := okWide_struct Try.underlying25 hv
  obtain ⟨fuel, hf⟩ := h
  obtain ⟨xs, m, _, _, hl, hlen, hfi⟩ := DataW.trod_struct Try.underlying25 hf
  have e3 : Try.prog.cellsOf 25 = 2 := by kernel_rfl
  rw [e3] at hl
  obtain ⟨l⟩ := cs
  simp only [Value.cells] at hl hfi
  match l, hl with
  | [c0, c1], _ =>
    have k0 : Try.prog.cellsOf 22 = 1 := by kernel_rfl
    have k1 : Try.prog.cellsOf 23 = 1 := by kernel_rfl
    have hx : xs.length = 2 := hlen
    match xs, hx with
    | [y0, y1], _ =>
      have g0 : DataW.trod enc Try.prog w base spare held m 22 (([c0, c1].drop 0).take (Try.prog.cellsOf 22)) = some y0 := hfi 0 _ rfl
      rw [k0] at g0
      have g1 : DataW.trod enc Try.prog w base spare held m 23 (([c0, c1].drop 1).take (Try.prog.cellsOf 23)) = some y1 := hfi 1 _ rfl
      rw [k1] at g1
      obtain ⟨q, a, o, n, c, f, e0, _, h2, h3, _⟩ := open_list (d := 10) (z := 3) Try.underlying22 (by kernel_rfl) (by kernel_rfl) (by decide) g0
      obtain ⟨q', a', o', n', c', f', e1, _, h2', h3', _⟩ := open_list (d := 10) (z := 1) Try.underlying23 (by kernel_rfl) (by kernel_rfl) (by decide) g1
      cases e0
      cases e1
      exact ⟨q, a, o, n, c, f, q', a', o', n', c', f', rfl, h2, h3, h2', h3'⟩
end
theorem lies_of {w : World} {q q' : Option Addr} {a o n c a' o' n' c' : Nat} {f f' : Int → Int → Int} {m : Int} (h1 : 0 < n → q = some ⟨a, o, none⟩) (h2 : ∀ j k : Nat, j < n → k < 3 → w.cell? ⟨a, o + j * 3 + k, none⟩ = some (.int .i64 (f j k)))
    (h1' : 0 < n' → q' = some ⟨a', o', none⟩) (h2' : ∀ j k : Nat, j < n' → k < 1 → w.cell? ⟨a', o' + j * 1 + k, none⟩ = some (.int .i64 (f' j k))) :
    Lies ⟨n, n', fun j => f j 0, fun j => f j 1, fun j => f j 2, fun j => f' j 0, m⟩ ⟨q, a, o, c⟩ ⟨q', a', o', c'⟩ w :=
  ⟨Int.natCast_nonneg _, Int.natCast_nonneg _, fun h => h1 (by have : (0 : Int) < n := h; omega), fun h => h1' (by have : (0 : Int) < n' := h; omega),
    fun j hj => h2 j 0 (by have : (j : Int) < n := hj; omega) (by decide), fun j hj => h2 j 1 (by have : (j : Int) < n := hj; omega) (by decide), fun j hj => h2 j 2 (by have : (j : Int) < n := hj; omega) (by decide),
    fun j hj => h2' j 0 (by have : (j : Int) < n' := hj; omega) (by decide)⟩
end Go.Proofs.Ytlmijfgmfcnngaa
