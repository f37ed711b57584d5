/- How the arguments of the laws are opened: an interval, a list of intervals, a list of integers. -/
import Derived.Test.YtekjhdpadddkpaaSpanA
import Derived.Lib.SmallJoins
import Derived.Deep.Slices
import Derived.Carry
import Derived.OpenShut
import Derived.ChangeOld
namespace Go.Proofs.Ytekjhdpadddkpaa
open Go.RowKit Go.Joins Go.Deep Go.ChangeShapes Go.WideShapes

theorem Try.cellsIv : Try.prog.cellsOf 23 = 2 := by kernel_rfl

section
variable {H : Type} {enc : TypeId × Value → H} {w : World} {base : Nat} {spare : Nat → Bool} {held : Bool}
theorem open_iv {r : Reach} {b0 : Nat} {v : Value} {d : DataW H} {p : List MemPlace} (hv : Value.okWide Try.prog w r b0 23 v) (h : DataW.Trod enc Try.prog w base spare held 23 v d p) :
    ∃ x : Int × Int, v = .agg #[.int .i64 x.1, .int .i64 x.2] := by
  obtain ⟨c0, c1, y0, y1, m, rfl, rfl, rfl, hy0, hy1⟩ := open_agg2 Try.underlying23 (by kernel_rfl) Try.cellsIv hv h
  obtain ⟨a, e0, rfl, wa⟩ := DataW.trod_int Try.underlying3 hy0
  obtain ⟨b, e1, rfl, wb⟩ := DataW.trod_int Try.underlying3 hy1
  simp at e0 e1
  subst e0 e1
  exact ⟨(a, b), rfl⟩

theorem open_ivs {r : Reach} {b0 : Nat} {v : Value} {d : DataW H} {p : List MemPlace} (hv : Value.okWide Try.prog w r b0 33 v) (h : DataW.Trod enc Try.prog w base spare held 33 v d p) :
    ∃ A n c xs, v = .slice A n c ∧ Hid (n = xs.length) ∧ xs.length ≤ maxLen ∧ RdI w w.heap.size A xs := by
  obtain ⟨A, n, c, rfl⟩ := okWide_slice Try.underlying33 hv
  obtain ⟨fuel, hf⟩ := h
  rcases open_slice Try.underlying33 hf with ⟨hcs, _⟩ | ⟨a, len, cap, m, k, D, Pl, hcs, _, hl, hm, hmm, _, hi⟩
  · simp [Value.cells] at hcs
    obtain ⟨rfl, rfl, rfl⟩ := hcs
    exact ⟨none, 0, 0, [], rfl, Lib.hid rfl, Nat.zero_le _, RdI.nil _ _ _⟩
  · simp [Value.cells] at hcs
    obtain ⟨rfl, rfl, rfl⟩ := hcs
    have hlm : n ≤ m := by rw [hmm]; split <;> omega
    have hel : ∀ i, i < n → ∃ x : Int × Int, w.cell? (a.add (i * 2)) = some (.int .i64 x.1) ∧ w.cell? (a.add (i * 2 + 1)) = some (.int .i64 x.2) := by
      intro i hin
      obtain ⟨cs', hc, ht⟩ := hi i (by omega)
      rw [Try.cellsIv] at hc
      obtain ⟨_, hcl, hat⟩ := World.cells?_some hc
      obtain ⟨y0, y1, k', _, _, f0, f1⟩ := trod_struct2 Try.underlying23 ht
      obtain ⟨p0, e0, _, _⟩ := DataW.trod_int Try.underlying3 f0
      obtain ⟨p1, e1, _, _⟩ := DataW.trod_int Try.underlying3 f1
      have cI : Try.prog.cellsOf 3 = 1 := by kernel_rfl
      match cs', hcl with
      | [c0, c1], _ =>
        rw [cI] at e0 e1
        simp at e0 e1
        subst e0 e1
        have h0 := hat 0 (by omega)
        have h1 := hat 1 (by omega)
        rw [add_add] at h0 h1
        exact ⟨(p0, p1), by simpa using h0, by simpa using h1⟩
    let f : Nat → Int × Int := fun i => (intOf ((w.cell? (a.add (i * 2))).getD undef), intOf ((w.cell? (a.add (i * 2 + 1))).getD undef))
    refine ⟨some a, n, c, (List.range n).map f, rfl, Lib.hid (by simp), by simp; omega, fun k hk => ?_⟩
    have hkn : k < n := by simpa using hk
    obtain ⟨x, h1, h2⟩ := hel k hkn
    have hfx : f k = x := by
      show (intOf ((w.cell? (a.add (k * 2))).getD undef), intOf ((w.cell? (a.add (k * 2 + 1))).getD undef)) = x
      rw [h1, h2]
      rfl
    have hsp : a.spot = none := by
      obtain ⟨x0, h0, _⟩ := hel 0 (by omega)
      have := World.cell?_spot h0
      rwa [Nat.zero_mul, Addr.add_zero'] at this
    obtain ⟨b, off, spot⟩ := a
    simp only at hsp
    subst hsp
    rw [Addr.add_lit] at h1 h2
    exact ⟨b, off, x, rfl, lt_of_cell h1, by rw [List.getElem?_map, List.getElem?_range hkn]; simp [hfx], h1, by rw [Nat.add_assoc]; exact h2⟩

theorem open_ints_rd {r : Reach} {b0 : Nat} {v : Value} {d : DataW H} {p : List MemPlace} (hv : Value.okWide Try.prog w r b0 36 v) (h : DataW.Trod enc Try.prog w base spare held 36 v d p) :
    ∃ (A : Option Addr) (n c : Nat) (zs : List Int), v = .slice A n c ∧ Hid (n = zs.length) ∧ zs.length ≤ maxLen ∧ RdC w w.heap.size A (zs.map (Value.int .i64)) ∧ ∀ z ∈ zs, -9223372036854775808 ≤ z ∧ z ≤ 9223372036854775807 := by
  obtain ⟨A, n, c, rfl⟩ := okWide_slice Try.underlying36 hv
  obtain ⟨fuel, hf⟩ := h
  rcases open_ints Try.underlying36 Try.underlying3 (by kernel_rfl) hf with ⟨hcs, _⟩ | ⟨a, len, cap, zs, hcs, _, hl, hm, hz, _, hcell, hwz⟩
  · simp [Value.cells] at hcs
    obtain ⟨rfl, rfl, rfl⟩ := hcs
    exact ⟨none, 0, 0, [], rfl, Lib.hid rfl, Nat.zero_le _, .inl rfl, by simp⟩
  · simp [Value.cells] at hcs
    obtain ⟨rfl, rfl, rfl⟩ := hcs
    have hlz : n ≤ zs.length := by rw [hz]; split <;> omega
    refine ⟨some a, n, c, zs.take n, rfl, Lib.hid (by simp; omega), by simp; omega, ?_, fun z hz => ?_⟩
    · rcases Nat.eq_zero_or_pos n with h0 | h0
      · subst h0; exact .inl (by simp)
      · have c0 := hcell 0 (by omega)
        have hsp : a.spot = none := by
          have := World.cell?_spot c0
          rwa [Addr.add_zero'] at this
        obtain ⟨b, off, spot⟩ := a
        simp only at hsp
        subst hsp
        refine .inr ⟨b, off, rfl, by have := lt_of_cell c0; rwa [Addr.add_lit] at this, fun j u hu => ?_⟩
        have hj : j < n := by have := (List.getElem?_eq_some_iff.1 hu).1; simp at this; omega
        have cj := hcell j (by omega)
        rw [Addr.add_lit] at cj
        rw [cj]
        rw [List.getElem?_map, List.getElem?_take_of_lt hj] at hu
        rw [List.getElem?_eq_getElem (by omega)] at hu
        simp at hu
        rw [← hu, List.getD_eq_getElem?_getD, List.getElem?_eq_getElem (by omega)]; rfl
    · have := hwz z (List.mem_of_mem_take hz)
      simp [Lit.wf, IntKind.min, IntKind.max, IntKind.signed, IntKind.bits] at this
      omega
end
end Go.Proofs.Ytekjhdpadddkpaa
