/- Contracts: the text of a fraction; Parse at one text. -/
import Derived.Test.YtinnlahmlepeeaaDoorFraK
import Derived.Shelf.Strconv.Itoa4
import Derived.Shelf.Strconv.ParseIntPublic10
import Derived.Shelf.Strings.Cut
import Derived.Lib.AppendIntMem
import Derived.Lib.SmallJoins
import Derived.Lib.ItoaLen
namespace Go.Proofs.YtinnlahmlepeeaaDoor
open Go.RowKit
/-- What the library's tables hold. -/
def Env (w : World) : Prop := Lib.TabIs Tryd.prog w "internal/strconv.uint64pow10" .u64 Lib.pow10Tab ∧ ∃ m, w.cell? ⟨2, 0, none⟩ = some (.int .i64 m)
theorem tab_below {n : String} {g : Nat} {k : IntKind} {zs : List Int} {w w' : World} (hg : Tryd.prog.globalNamed n = some g) (h : Lib.TabIs Tryd.prog w n k zs) (hb : Below w.heap.size w w') : Lib.TabIs Tryd.prog w' n k zs := by
  unfold Lib.TabIs World.var? at h ⊢
  rw [hg] at h ⊢
  simp only [Option.bind_some] at h ⊢
  have hlt : g < w.heap.size := by
    rcases Nat.lt_or_ge g w.heap.size with h' | h'
    · exact h'
    · rw [Array.getElem?_eq_none h'] at h; cases h
  rw [hb.block g hlt]
  exact h
theorem Env.below {w w' : World} (h : Env w) (hb : Below w.heap.size w w') : Env w' :=
  ⟨tab_below (g := 5) (by kernel_rfl) h.1 hb, by obtain ⟨m, hm⟩ := h.2; exact ⟨m, keepc hm hb⟩⟩
theorem format_any (n : Int) (h : In64 n) (w : World) (he : Env w) : Calls Tryd.prog 63 #[.int .i64 n, .int .i64 10] w fun e w' => e = .returned (.string ⟨(Lib.itoa n).toArray⟩) ∧ Below w.heap.size w w' := by
  refine (Go.Proofs.Any.strconv_FormatInt_10 Tryd.fmtL n h.1 (by have := h.2; omega) w he.1).mono ?_
  rintro e w' ⟨rfl, k, os, rfl⟩
  exact ⟨rfl, Lib.below_grow _ w (Nat.le_refl _) k os⟩
theorem cut_any (s sep : ByteArray) (hs : s.size < 4294967281) (w : World) (he : Env w) : Calls Tryd.prog 61 #[.string s, .string sep] w fun e w' =>
    e = .returned (.tuple #[.string ⟨(Lib.cut s.data.toList sep.data.toList).1.toArray⟩, .string ⟨(Lib.cut s.data.toList sep.data.toList).2.1.toArray⟩, .bool (Lib.cut s.data.toList sep.data.toList).2.2]) ∧ Below w.heap.size w w' := by
  obtain ⟨m, hm⟩ := he.2
  refine (Go.Proofs.Any.strings_Cut Tryd.cutL s sep m w hs hm).mono ?_
  rintro e w' ⟨rfl, n, rfl⟩
  exact ⟨rfl, below_drewN (Below.refl _ _) n⟩
theorem parse_ok (s : ByteArray) (hmax : s.size ≤ 9223372036854775806) (v : Int) (h : Lib.parseIntB 64 s.data.toList = .ok v) (w : World) : Calls Tryd.prog 62 #[.string s, .int .i64 10, .int .i64 64] w fun e w' =>
    e = .returned (.tuple #[.int .i64 v, .nilIface]) ∧ Below w.heap.size w w' := by
  refine (Go.Proofs.Any.strconv_ParseInt_10_at64_ok Tryd.parL s hmax v h w).mono ?_
  rintro e w' ⟨rfl, h | ⟨t, h⟩⟩
  · exact ⟨rfl, h ▸ Below.refl _ _⟩
  · exact ⟨rfl, h ▸ Go.Joins.below_bytesWorld _ w _ t (Nat.le_refl _)⟩
def textB (f : F2) : ByteArray := if f.2 = 1 then ⟨(Lib.itoa f.1).toArray⟩ else ⟨(Lib.itoa f.1).toArray⟩ ++ (⟨#[47]⟩ ++ ⟨(Lib.itoa f.2).toArray⟩)
def textR (f : F2) : ByteArray × Int := if validF f then (textB f, 0) else (⟨#[]⟩, 1)
theorem text_any (f : F2) (hf : In64 f.1 ∧ In64 f.2) (w : World) (he : Env w) : Calls Tryd.prog 37 #[.agg #[.int .i64 f.1, .int .i64 f.2]] w fun e w' => e = .returned (.tuple #[.string (textR f).1, .int .i64 (textR f).2]) ∧ Below w.heap.size w w' := by
  have VA : Hid (∀ w, Calls Tryd.prog 14 #[.agg #[.int .i64 f.1, .int .i64 f.2]] w fun e w' => e = .returned (.bool (validF f)) ∧ Below w.heap.size w w') := Lib.hid fun w => valid_any f hf.1 hf.2 w
  have C1 := Lib.hid (format_any f.1 hf.1)
  have C2 := Lib.hid (format_any f.2 hf.2)
  have EV := Lib.hid he
  have l1 := Lib.itoa_length_le f.1 hf.1.1 (by have := hf.1.2; omega)
  have l2 := Lib.itoa_length_le f.2 hf.2.1 (by have := hf.2.2; omega)
  have s1 : ¬ 9223372036854775807 < 1 + (Lib.itoa f.2).length := by omega
  have s2 : ¬ 9223372036854775807 < (Lib.itoa f.1).length + (1 + (Lib.itoa f.2).length) := by omega
  clear l1 l2
  rcases h1 : validF f with _ | _
  · rw [show textR f = (⟨#[]⟩, 1) by unfold textR; rw [h1]; rfl]
    rw [h1] at VA
    clear h1 hf he
    obtain ⟨a1, a2⟩ := f
    dsimp only at *
    go_enter Tryd.func37, Tryd.ntmps37
    go_wp2_with fail
    (with_reducible refine (VA.out _).mono ?_)
    rintro e w1 ⟨rfl, hb⟩
    have H2 := Lib.hid ((OwnC.new w #[.int .i64 a1, .int .i64 a2] 23).below hb)
    have hb3 := bcall (bnew (Below.refl _ w) (.cells #[.int .i64 a1, .int .i64 a2] 23)) hb
    clear hb
    go_wp2_with fail
    refine bodyPost_ret (v := .tuple #[.string ⟨#[]⟩, .int .i64 1]) ?_ rfl ⟨rfl, hb3⟩
    simp [results, Tryd.results37, go_sem]
  · rw [show textR f = (textB f, 0) by unfold textR; rw [h1]; rfl]
    rw [h1] at VA
    clear h1 hf he
    obtain ⟨a1, a2⟩ := f
    dsimp only at *
    by_cases hd : a2 = 1
    · have dd : (a2 != 1) = false := by simpa using hd
      have e : textB (a1, a2) = ⟨(Lib.itoa a1).toArray⟩ := by unfold textB; rw [if_pos hd]
      rw [e]
      clear e hd
      go_enter Tryd.func37, Tryd.ntmps37
      go_wp2_with fail
      (with_reducible refine (VA.out _).mono ?_)
      rintro e w4 ⟨rfl, hb⟩
      have H5 := Lib.hid ((OwnC.new w #[.int .i64 a1, .int .i64 a2] 23).below hb)
      have hb6 := bcall (bnew (Below.refl _ w) (.cells #[.int .i64 a1, .int .i64 a2] 23)) hb
      clear hb
      obtain ⟨⟨c7, c8⟩, ⟨c9, c10⟩, c11⟩ := H5.out.two
      have EV1 := Lib.hid (EV.out.below hb6)
      have D1 := Lib.hid fun w1 he => C1.out w1 he
      go_wp2_with fail
      (with_reducible refine (C1.out _ EV1.out).mono ?_)
      rintro e wz ⟨rfl, hb⟩
      have H12 := Lib.hid ((H5.out).below hb)
      have hb13 := bcall hb6 hb
      clear hb hb6 H5 c7 c8 c9 c10 c11
      obtain ⟨⟨c14, c15⟩, ⟨c16, c17⟩, c18⟩ := H12.out.two
      go_wp2_with fail
      refine bodyPost_ret (v := .tuple #[.string (⟨(Lib.itoa a1).toArray⟩), .int .i64 0]) ?_ rfl ⟨rfl, hb13⟩
      simp [results, Tryd.results37, go_sem]
    · have dd : (a2 != 1) = true := by simpa using hd
      have e : textB (a1, a2) = ⟨(Lib.itoa a1).toArray⟩ ++ (⟨#[47]⟩ ++ ⟨(Lib.itoa a2).toArray⟩) := by unfold textB; rw [if_neg hd]
      rw [e]
      clear e hd
      go_enter Tryd.func37, Tryd.ntmps37
      go_wp2_with fail
      (with_reducible refine (VA.out _).mono ?_)
      rintro e w19 ⟨rfl, hb⟩
      have H20 := Lib.hid ((OwnC.new w #[.int .i64 a1, .int .i64 a2] 23).below hb)
      have hb21 := bcall (bnew (Below.refl _ w) (.cells #[.int .i64 a1, .int .i64 a2] 23)) hb
      clear hb
      obtain ⟨⟨c22, c23⟩, ⟨c24, c25⟩, c26⟩ := H20.out.two
      have EV1 := Lib.hid (EV.out.below hb21)
      have D1 := Lib.hid fun w1 he => C1.out w1 he
      go_wp2_with fail
      (with_reducible refine (C1.out _ EV1.out).mono ?_)
      rintro e wz ⟨rfl, hb⟩
      have H27 := Lib.hid ((H20.out).below hb)
      have hb28 := bcall hb21 hb
      clear hb hb21 H20 c22 c23 c24 c25 c26
      obtain ⟨⟨c29, c30⟩, ⟨c31, c32⟩, c33⟩ := H27.out.two
      have EV2 := Lib.hid (EV.out.below hb28)
      go_wp2_with fail
      (with_reducible refine (C2.out _ EV2.out).mono ?_)
      rintro e wy ⟨rfl, hb⟩
      have H34 := Lib.hid ((H27.out).below hb)
      have hb35 := bcall hb28 hb
      clear hb hb28 H27 c29 c30 c31 c32 c33
      go_wp2_with fail
      refine bodyPost_ret (v := .tuple #[.string (⟨(Lib.itoa a1).toArray⟩ ++ (⟨#[47]⟩ ++ ⟨(Lib.itoa a2).toArray⟩)), .int .i64 0]) ?_ rfl ⟨rfl, hb35⟩
      simp [results, Tryd.results37, go_sem]
theorem cut24 : Lib.cut [50, 47, 52] [47] = ([50], [52], true) := by decide
theorem par2 : Lib.parseIntB 64 [50] = .ok 2 := by decide
theorem par4 : Lib.parseIntB 64 [52] = .ok 4 := by decide
theorem parse24 (w : World) (he : Env w) : Calls Tryd.prog 35 #[.string ⟨#[50, 47, 52]⟩] w fun e w' => e = .returned (.tuple #[.agg #[.int .i64 0, .int .i64 0], .int .i64 2]) ∧ Below w.heap.size w w' := by
  have C1 : Hid (∀ w, Env w → Calls Tryd.prog 61 #[.string ⟨#[50, 47, 52]⟩, .string ⟨#[47]⟩] w fun e w' => e = .returned (.tuple #[.string ⟨#[50]⟩, .string ⟨#[52]⟩, .bool true]) ∧ Below w.heap.size w w') := Lib.hid fun w he => by
    have := cut_any ⟨#[50, 47, 52]⟩ ⟨#[47]⟩ (by decide) w he
    have e : Lib.cut (⟨#[50, 47, 52]⟩ : ByteArray).data.toList (⟨#[47]⟩ : ByteArray).data.toList = ([50], [52], true) := cut24
    rwa [e] at this
  have C2 : Hid (∀ w, Calls Tryd.prog 62 #[.string ⟨#[50]⟩, .int .i64 10, .int .i64 64] w fun e w' => e = .returned (.tuple #[.int .i64 2, .nilIface]) ∧ Below w.heap.size w w') := Lib.hid fun w => parse_ok ⟨#[50]⟩ (by decide) 2 par2 w
  have C4 : Hid (∀ w, Calls Tryd.prog 62 #[.string ⟨#[52]⟩, .int .i64 10, .int .i64 64] w fun e w' => e = .returned (.tuple #[.int .i64 4, .nilIface]) ∧ Below w.heap.size w w') := Lib.hid fun w => parse_ok ⟨#[52]⟩ (by decide) 4 par4 w
  have CT : Hid (∀ w, Env w → Calls Tryd.prog 37 #[.agg #[.int .i64 2, .int .i64 4]] w fun e w' => e = .returned (.tuple #[.string ⟨#[]⟩, .int .i64 1]) ∧ Below w.heap.size w w') := Lib.hid fun w he => by
    have := text_any (2, 4) ⟨⟨by decide, by decide⟩, ⟨by decide, by decide⟩⟩ w he
    have e : textR (2, 4) = (⟨#[]⟩, 1) := by unfold textR; rw [show validF (2, 4) = false by decide]; rfl
    rwa [e] at this
  have EV := Lib.hid he
  clear he
  go_enter Tryd.func35, Tryd.ntmps35
  go_wp2_with fail
  have EVn := Lib.hid (EV.out.below (bnew (Below.refl _ w) (.cells #[.int .i64 0, .int .i64 0] 23)))
  (with_reducible refine (C1.out _ EVn.out).mono ?_)
  rintro e w36 ⟨rfl, hb⟩
  have H37 := Lib.hid ((OwnC.new w #[.int .i64 0, .int .i64 0] 23).below hb)
  have hb38 := bcall (bnew (Below.refl _ w) (.cells #[.int .i64 0, .int .i64 0] 23)) hb
  clear hb
  clear EVn
  go_wp2_with fail
  (with_reducible refine (C2.out _).mono ?_)
  rintro e w39 ⟨rfl, hb⟩
  have H40 := Lib.hid ((H37.out).below hb)
  have hb41 := bcall hb38 hb
  clear hb hb38 H37
  go_wp2_with fail
  (with_reducible refine (C4.out _).mono ?_)
  rintro e w42 ⟨rfl, hb⟩
  have H43 := Lib.hid ((H40.out).below hb)
  have hb44 := bcall hb41 hb
  clear hb hb41 H40
  go_wp2_with fail
  have EVn := Lib.hid (EV.out.below (bnew hb44 (.cells #[.int .i64 2, .int .i64 4] 23)))
  (with_reducible refine (CT.out _ EVn.out).mono ?_)
  rintro e wz ⟨rfl, hb⟩
  have H45 := Lib.hid (((H43.out).old (.cells #[.int .i64 2, .int .i64 4] 23)).below hb)
  have H46 := Lib.hid ((OwnC.new w42 #[.int .i64 2, .int .i64 4] 23).below hb)
  have hb47 := bcall (bnew hb44 (.cells #[.int .i64 2, .int .i64 4] 23)) hb
  clear hb hb44 H43
  obtain ⟨⟨c48, c49⟩, ⟨c50, c51⟩, c52⟩ := H45.out.two
  go_wp2_with fail
  refine bodyPost_ret (v := .tuple #[.agg #[.int .i64 0, .int .i64 0], .int .i64 2]) ?_ rfl ⟨rfl, ?_⟩
  · simp [results, Tryd.results35, go_sem, *]
  · have hBB := hb47
    clear c48 c49 c50 c51 c52
    repeat' first | (with_reducible assumption) | (with_reducible exact Nat.le_refl _) | (with_reducible refine setB ?_ ?_) | (with_reducible refine Below.drew ?_) | (with_reducible refine bnew ?_ _) | omega
end Go.Proofs.YtinnlahmlepeeaaDoor
