/- How the arguments of a law over plain data are opened: structs of integers, however nested, are lists of integers. -/
import Derived.Test.YtmpadjlplgajcaaProg
import Derived.WalkKit
import Derived.Lib.SmallJoins
import Derived.Carry
import Derived.OpenShut
import Derived.ChangeOld
namespace Go.Proofs.Ytmpadjlplgajcaa
open Go.RowKit Go.Joins Go.Deep Go.ChangeShapes Go.WideShapes
/-- All cells are of kind int64: how many. -/
def intF (P : Program) (rec : TypeId → Option Nat) : List Field → Nat → Option Nat
  | [], _ => some 0
  | f :: r, n => match rec f.type with
    | some m => if f.offset.beq n && (P.cellsOf f.type).beq m then (intF P rec r (n + m)).map (m + ·) else none
    | none => none
def intT (P : Program) : Nat → TypeId → Option Nat
  | 0, _ => none
  | d + 1, t => match P.underlying t with
    | some (.int .i64) => some 1
    | some (.struct fs) => match intF P (intT P d) fs.toList 0 with
      | some n => if (P.cellsOf t).beq n then some n else none
      | none => none
    | _ => none
section
variable {H : Type} {enc : TypeId × Value → H} {P : Program} {w : World} {base : Nat} {spare : Nat → Bool} {held : Bool}
theorem trod_fields {d : Nat} {fuel : Nat} {cs : List Value} (ih : ∀ {t : TypeId} {n : Nat}, intT P d t = some n → ∀ {cs : List Value} {x : DataW H × List MemPlace}, DataW.trod enc P w base spare held fuel t cs = some x → ∃ xs : List Int, cs = xs.map (.int .i64) ∧ xs.length = n) :
    ∀ {fs : List Field} {off m : Nat}, intF P (intT P d) fs off = some m → (∀ f ∈ fs, ∃ y, DataW.trod enc P w base spare held fuel f.type ((cs.drop f.offset).take (P.cellsOf f.type)) = some y) → ∃ xs : List Int, (cs.drop off).take m = xs.map (.int .i64) ∧ xs.length = m
  | [], off, m, h, _ => by simp [intF] at h; subst h; exact ⟨[], by simp, rfl⟩
  | f :: fs, off, m, h, hf => by
    simp only [intF] at h
    split at h
    · rename_i m1 hm
      split at h
      · rename_i hc
        simp only [Bool.and_eq_true] at hc
        have e1 := Nat.eq_of_beq_eq_true hc.1
        have e2 := Nat.eq_of_beq_eq_true hc.2
        rw [Option.map_eq_some_iff] at h
        obtain ⟨m2, hm2, rfl⟩ := h
        obtain ⟨y, hy⟩ := hf f (List.mem_cons_self ..)
        rw [e1, e2] at hy
        obtain ⟨xs, h1, h2⟩ := ih hm hy
        obtain ⟨ys, h3, h4⟩ := trod_fields ih hm2 (fun g hg => hf g (List.mem_cons_of_mem _ hg))
        refine ⟨xs ++ ys, ?_, by simp [h2, h4]⟩
        rw [List.take_add, h1, List.drop_drop, h3, List.map_append]
      · cases h
    · cases h
theorem trod_ints : ∀ {d : Nat} {t : TypeId} {n : Nat}, intT P d t = some n → ∀ (fuel : Nat) (cs : List Value) (x : DataW H × List MemPlace), DataW.trod enc P w base spare held fuel t cs = some x → ∃ xs : List Int, cs = xs.map (.int .i64) ∧ xs.length = n
  | 0, t, n, h => by simp [intT] at h
  | d + 1, t, n, h => by
    intro fuel cs x hx
    simp only [intT] at h
    split at h
    · rename_i hu
      cases h
      obtain ⟨a, rfl, _⟩ := DataW.trod_int hu hx
      exact ⟨[a], rfl, rfl⟩
    · rename_i fs hu
      split at h
      · rename_i m hm
        split at h
        · rename_i hc
          cases h
          have e := Nat.eq_of_beq_eq_true hc
          obtain ⟨xs, k, _, _, hl, hlen, hf⟩ := DataW.trod_struct hu hx
          obtain ⟨ys, h1, h2⟩ := trod_fields (fun {t n} h {cs x} hx => trod_ints h _ cs x hx) hm (cs := cs) (fun f hfm => by
            obtain ⟨i, hi, hfi⟩ := List.getElem_of_mem hfm
            have hi' : i < fs.size := by simpa using hi
            have := hf i f (by rw [← Array.getElem?_toList, List.getElem?_eq_getElem hi, hfi])
            rw [List.getElem?_eq_getElem (by omega)] at this
            exact ⟨_, this⟩)
          refine ⟨ys, ?_, h2⟩
          rw [← h1, List.drop_zero, List.take_of_length_le (by omega)]
        · cases h
      · cases h
    · cases h
/-- A struct of integers. -/
theorem open_ints_agg {d : Nat} {t : TypeId} {n : Nat} {fs : Array Field} (hu : P.underlying t = some (.struct fs)) (h : intT P d t = some n) {r : Reach} {b0 : Nat} {v : Value} {dt : DataW H} {p : List MemPlace} (hv : Value.okWide P w r b0 t v)
    (ht : DataW.Trod enc P w base spare held t v dt p) : ∃ xs : List Int, v = .agg (xs.map (.int .i64)).toArray ∧ xs.length = n := by
  obtain ⟨cs, rfl, _⟩ := okWide_struct hu hv
  obtain ⟨fuel, hf⟩ := ht
  obtain ⟨xs, h1, h2⟩ := trod_ints h _ _ _ hf
  exact ⟨xs, by rw [← h1]; simp [Value.cells], h2⟩
/-- A list of structs of integers: where it lies, how long it is, its numbers. -/
theorem open_list {d : Nat} {t e : TypeId} {z : Nat} (hu : P.underlying t = some (.slice e)) (he : intT P d e = some z) (hc : P.cellsOf e = z) (hz : 0 < z) {fuel : Nat} {cs : List Value} {x : DataW H × List MemPlace} (hx : DataW.trod enc P w base spare held fuel t cs = some x) :
    ∃ (p : Option Addr) (a o n c : Nat) (f : Int → Int → Int), cs = [.slice p n c] ∧ n ≤ maxLen ∧ (0 < n → p = some ⟨a, o, none⟩) ∧ (∀ j k : Nat, j < n → k < z → w.cell? ⟨a, o + j * z + k, none⟩ = some (.int .i64 (f j k))) ∧ ∀ j k, (j < 0 ∨ (n : Int) ≤ j) → f j k = 0 := by
  rcases DataW.trod_slice hu hx with ⟨rfl, _⟩ | ⟨a, len, cap, elems, rest, m, _, rfl, _, _, hlc, hcm, _, hel, _⟩
  · exact ⟨none, 0, 0, 0, 0, fun _ _ => 0, rfl, Nat.zero_le _, fun h => absurd h (Nat.lt_irrefl _), fun j k h => absurd h (Nat.not_lt_zero _), fun _ _ _ => rfl⟩
  · have hcell : ∀ j k : Nat, j < len → k < z → ∃ y : Int, w.cell? ((a.add (j * z)).add k) = some (.int .i64 y) := by
      intro j k hj hk
      have h1 := hel j hj
      rw [hc] at h1
      obtain ⟨y, hy⟩ : ∃ y, elems[j]? = some y := ⟨elems[j]'(by omega), List.getElem?_eq_getElem (by omega)⟩
      rw [hy, Option.bind_eq_some_iff] at h1
      obtain ⟨cs', hcs, htr⟩ := h1
      obtain ⟨ys, e1, e2⟩ := trod_ints he _ _ _ htr
      obtain ⟨_, hl, hat⟩ := World.cells?_some hcs
      have := hat k hk
      rw [e1] at this
      refine ⟨ys[k]'(by omega), this.trans ?_⟩
      simp [show k < ys.length by omega]
    by_cases hn : 0 < len
    · have hsp : a.spot = none := by
        obtain ⟨y, hy⟩ := hcell 0 0 hn hz
        have := World.cell?_spot hy
        simpa [Addr.add] using this
      obtain ⟨b, off, spot⟩ := a
      simp only at hsp
      subst hsp
      refine ⟨some ⟨b, off, none⟩, b, off, len, cap, fun j k => if 0 ≤ j ∧ j < len then intOf ((w.cell? ⟨b, off + j.toNat * z + k.toNat, none⟩).getD undef) else 0, rfl, by omega, fun _ => rfl, fun j k hj hk => ?_, fun j k h => if_neg (by omega)⟩
      obtain ⟨y, hy⟩ := hcell j k hj hk
      rw [Go.WideShapes.add_plain, Go.WideShapes.add_plain] at hy
      have e : (0 : Int) ≤ (j : Int) ∧ (j : Int) < (len : Int) := by omega
      simp only [e, and_self, if_true, Int.toNat_natCast]
      rw [hy]
      rfl
    · obtain rfl : len = 0 := by omega
      exact ⟨some a, 0, 0, 0, cap, fun _ _ => 0, rfl, Nat.zero_le _, fun h => absurd h (Nat.lt_irrefl _), fun j k h => absurd h (Nat.not_lt_zero _), fun _ _ _ => rfl⟩
theorem list2 {xs : List Int} (h : xs.length = 2) : ∃ a b, xs = [a, b] := by
  match xs, h with
  | [a, b], _ => exact ⟨a, b, rfl⟩
theorem list3 {xs : List Int} (h : xs.length = 3) : ∃ a b c, xs = [a, b, c] := by
  match xs, h with
  | [a, b, c], _ => exact ⟨a, b, c, rfl⟩
theorem list4 {xs : List Int} (h : xs.length = 4) : ∃ a b c d, xs = [a, b, c, d] := by
  match xs, h with
  | [a, b, c, d], _ => exact ⟨a, b, c, d, rfl⟩
theorem list6 {xs : List Int} (h : xs.length = 6) : ∃ a b c d e f, xs = [a, b, c, d, e, f] := by
  match xs, h with
  | [a, b, c, d, e, f], _ => exact ⟨a, b, c, d, e, f, rfl⟩
end
end Go.Proofs.Ytmpadjlplgajcaa
