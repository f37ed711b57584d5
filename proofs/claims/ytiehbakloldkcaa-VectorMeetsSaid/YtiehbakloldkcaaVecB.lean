/- The difference of two vectors: a statement that calls twice and makes two arrays, in every order. -/
import Derived.Test.YtiehbakloldkcaaVecA
import Derived.Deep.DeepCutAuto
import Derived.Deep.RegionWith
import Derived.Deep.DrawnRows
import Derived.RegionTactic
namespace Go.Proofs.Ytiehbakloldkcaa
open Go.RowKit
attribute [local go_sem ↓] Go.wp_at_zero Go.wp_at_succ
theorem coordinates_is (v : V3) (w : World) : Calls Try.prog 37 #[.agg #[.int .i64 v.1, .int .i64 v.2.1, .int .i64 v.2.2]] w fun e w' =>
    e = .returned (.agg #[.int .i64 v.1, .int .i64 v.2.1, .int .i64 v.2.2]) ∧ (w.alloc (.cells #[.int .i64 v.1, .int .i64 v.2.1, .int .i64 v.2.2] 23)).alloc (.cells #[.int .i64 v.1, .int .i64 v.2.1, .int .i64 v.2.2] 36) = w' := by
  go_enter Try.func37, Try.ntmps37
  go_wp2
  refine bodyPost_ret (v := .agg #[.int .i64 v.1, .int .i64 v.2.1, .int .i64 v.2.2]) ?_ rfl ⟨rfl, rfl⟩
  simp [results, Try.results37, go_sem]
theorem b6 (w : World) (o o' o2 o3 o4 o5 : Obj) : Below w.heap.size w ((((((w.alloc o).alloc o').alloc o2).alloc o3).alloc o4).alloc o5) := bnew (b5 w o o' o2 o3 o4) o5
theorem cnew (w : World) (cs : Array Value) (t : TypeId) (k : Nat) (v : Value) (h : cs[k]? = some v) : (w.alloc (.cells cs t)).cell? ⟨w.heap.size, k, none⟩ = some v := by
  unfold World.cell? World.alloc
  simp [h]
theorem sz1 (w : World) (o : Obj) : (w.alloc o).heap.size = w.heap.size + 1 := by simp
theorem cnew2 (w : World) (o : Obj) (cs : Array Value) (t : TypeId) (k : Nat) (v : Value) (h : cs[k]? = some v) : ((w.alloc o).alloc (.cells cs t)).cell? ⟨w.heap.size + 1, k, none⟩ = some v := by
  have := cnew (w.alloc o) cs t k v h
  rwa [sz1] at this
theorem fnew (w : World) (cs : Array Value) (t : TypeId) (k : Nat) : (w.alloc (.cells cs t)).frozen? ⟨w.heap.size, k, none⟩ = false := by
  unfold World.frozen? World.alloc
  simp
theorem fnew2 (w : World) (o : Obj) (cs : Array Value) (t : TypeId) (k : Nat) : ((w.alloc o).alloc (.cells cs t)).frozen? ⟨w.heap.size + 1, k, none⟩ = false := by
  have := fnew (w.alloc o) cs t k
  rwa [sz1] at this
theorem keepfa {w : World} {p : Addr} (h : w.frozen? p = false) (hl : p.block < w.heap.size) (o : Obj) : (w.alloc o).frozen? p = false := by
  unfold World.frozen? World.alloc at *
  simpa [Array.getElem?_push, Nat.ne_of_lt hl] using h
theorem ltn {w1 w2 : World} {o : Obj} (hb : Below (w1.alloc o).heap.size (w1.alloc o) w2) : w1.heap.size < w2.heap.size := by have := hb.size; simp at this; omega
theorem ltn2 {w1 w2 : World} {o o' : Obj} (hb : Below ((w1.alloc o).alloc o').heap.size ((w1.alloc o).alloc o') w2) : w1.heap.size < w2.heap.size ∧ w1.heap.size + 1 < w2.heap.size := by have := hb.size; simp at this; omega
theorem setB {B b off : Nat} {w w' : World} {v : Value} (h : Below B w w') (hle : B ≤ b) : Below B w (w'.setCell ⟨b, off, none⟩ v) := h.setCell hle _
def Zed (w : World) (b : Nat) : Prop := (w.cell? ⟨b, 0, none⟩ = some (.int .i64 0) ∧ w.cell? ⟨b, 1, none⟩ = some (.int .i64 0) ∧ w.cell? ⟨b, 2, none⟩ = some (.int .i64 0)) ∧ (w.frozen? ⟨b, 0, none⟩ = false ∧ w.frozen? ⟨b, 1, none⟩ = false ∧ w.frozen? ⟨b, 2, none⟩ = false) ∧ b < w.heap.size
theorem Zed.new (w : World) (t : TypeId) : Zed (w.alloc (.cells #[.int .i64 0, .int .i64 0, .int .i64 0] t)) w.heap.size :=
  ⟨⟨cnew w _ t 0 _ rfl, cnew w _ t 1 _ rfl, cnew w _ t 2 _ rfl⟩, ⟨fnew w _ t 0, fnew w _ t 1, fnew w _ t 2⟩, by simp⟩
theorem Zed.new2 (w : World) (o : Obj) (t : TypeId) : Zed ((w.alloc o).alloc (.cells #[.int .i64 0, .int .i64 0, .int .i64 0] t)) (w.heap.size + 1) :=
  ⟨⟨cnew2 w o _ t 0 _ rfl, cnew2 w o _ t 1 _ rfl, cnew2 w o _ t 2 _ rfl⟩, ⟨fnew2 w o _ t 0, fnew2 w o _ t 1, fnew2 w o _ t 2⟩, by simp⟩
theorem Zed.old {w : World} {b : Nat} (h : Zed w b) (o : Obj) : Zed (w.alloc o) b :=
  ⟨⟨keepa h.1.1 o, keepa h.1.2.1 o, keepa h.1.2.2 o⟩, ⟨keepfa h.2.1.1 h.2.2 o, keepfa h.2.1.2.1 h.2.2 o, keepfa h.2.1.2.2 h.2.2 o⟩, by have := h.2.2; simp; omega⟩
theorem Zed.drew {w : World} {b : Nat} (h : Zed w b) : Zed w.drew b := h
theorem Zed.below {w w' : World} {b : Nat} (h : Zed w b) (hb : Below w.heap.size w w') : Zed w' b :=
  ⟨⟨keepc h.1.1 hb, keepc h.1.2.1 hb, keepc h.1.2.2 hb⟩, ⟨keepf h.1.1 h.2.1.1 hb, keepf h.1.2.1 h.2.1.2.1 hb, keepf h.1.2.2 h.2.1.2.2 hb⟩, Nat.lt_of_lt_of_le h.2.2 hb.size⟩
theorem Zed.new3 (w : World) (o o' : Obj) (t : TypeId) : Zed (((w.alloc o).alloc o').alloc (.cells #[.int .i64 0, .int .i64 0, .int .i64 0] t)) (w.heap.size + 1 + 1) := by
  have := Zed.new2 (w.alloc o) o' t
  rwa [sz1] at this
def Six (w' : World) (n : Nat) (p q : V3) : Prop := w'.cell? ⟨n, 0, none⟩ = some (.int .i64 p.1) ∧ w'.cell? ⟨n, 1, none⟩ = some (.int .i64 p.2.1) ∧ w'.cell? ⟨n, 2, none⟩ = some (.int .i64 p.2.2) ∧ w'.cell? ⟨n + 1, 0, none⟩ = some (.int .i64 q.1) ∧ w'.cell? ⟨n + 1, 1, none⟩ = some (.int .i64 q.2.1) ∧ w'.cell? ⟨n + 1, 2, none⟩ = some (.int .i64 q.2.2)
theorem st2 (w : World) (p q : V3) (t : TypeId) (o : Obj) : Six (((w.alloc (.cells #[.int .i64 p.1, .int .i64 p.2.1, .int .i64 p.2.2] t)).alloc (.cells #[.int .i64 q.1, .int .i64 q.2.1, .int .i64 q.2.2] t)).alloc o) w.heap.size p q := by
  have e : w.heap.size + 1 = (w.alloc (.cells #[.int .i64 p.1, .int .i64 p.2.1, .int .i64 p.2.2] t)).heap.size := by simp
  refine ⟨keepa (keepa (cnew w _ t 0 _ rfl) _) _, keepa (keepa (cnew w _ t 1 _ rfl) _) _, keepa (keepa (cnew w _ t 2 _ rfl) _) _, ?_, ?_, ?_⟩
  · rw [e]; exact keepa (cnew _ _ t 0 _ rfl) _
  · rw [e]; exact keepa (cnew _ _ t 1 _ rfl) _
  · rw [e]; exact keepa (cnew _ _ t 2 _ rfl) _
theorem Six.below {w w' : World} {n : Nat} {p q : V3} (h : Six w n p q) (hb : Below w.heap.size w w') : Six w' n p q :=
  ⟨keepc h.1 hb, keepc h.2.1 hb, keepc h.2.2.1 hb, keepc h.2.2.2.1 hb, keepc h.2.2.2.2.1 hb, keepc h.2.2.2.2.2 hb⟩
/-- What a drawn region carries along: the six cells, and that all old ones stand. -/
abbrev S6 (w3 : World) (n : Nat) (p q : V3) (w' : World) : Prop := w'.cell? ⟨n, 0, none⟩ = some (.int .i64 p.1) ∧ w'.cell? ⟨n, 1, none⟩ = some (.int .i64 p.2.1) ∧ w'.cell? ⟨n, 2, none⟩ = some (.int .i64 p.2.2) ∧ w'.cell? ⟨n + 1, 0, none⟩ = some (.int .i64 q.1) ∧ w'.cell? ⟨n + 1, 1, none⟩ = some (.int .i64 q.2.1) ∧ w'.cell? ⟨n + 1, 2, none⟩ = some (.int .i64 q.2.2) ∧ Below w3.heap.size w3 w'
theorem mk6 {w3 w' : World} {n : Nat} {p q : V3} (h : Hid (Six w3 n p q)) (hb : Below w3.heap.size w3 w') : S6 w3 n p q w' :=
  have h := h.out.below hb
  ⟨h.1, h.2.1, h.2.2.1, h.2.2.2.1, h.2.2.2.2.1, h.2.2.2.2.2, hb⟩
theorem get6 {w3 w' : World} {n : Nat} {p q : V3} (h : S6 w3 n p q w') : Below w3.heap.size w3 w' := h.2.2.2.2.2.2
def Pq (w3 : World) (p q : V3) (s t : Value) (wx : World) : Prop :=
  ∃ g h : Nat, s = .pointer (some ⟨g, 0, none⟩) ∧ t = .pointer (some ⟨h, 0, none⟩) ∧ g ≠ h ∧ (wx.cell? ⟨g, 0, none⟩ = some (.int .i64 p.1) ∧ wx.cell? ⟨g, 1, none⟩ = some (.int .i64 p.2.1) ∧ wx.cell? ⟨g, 2, none⟩ = some (.int .i64 p.2.2)) ∧
    (wx.cell? ⟨h, 0, none⟩ = some (.int .i64 q.1) ∧ wx.cell? ⟨h, 1, none⟩ = some (.int .i64 q.2.1) ∧ wx.cell? ⟨h, 2, none⟩ = some (.int .i64 q.2.2)) ∧ (wx.frozen? ⟨g, 0, none⟩ = false ∧ wx.frozen? ⟨g, 1, none⟩ = false ∧ wx.frozen? ⟨g, 2, none⟩ = false) ∧ w3.heap.size ≤ g ∧ Below w3.heap.size w3 wx
set_option maxHeartbeats 1000000 in
theorem difference_any (p q : V3) (w : World) (h1 : -4000000 ≤ p.1 - q.1 ∧ p.1 - q.1 ≤ 4000000) (h2 : -4000000 ≤ p.2.1 - q.2.1 ∧ p.2.1 - q.2.1 ≤ 4000000) (h3 : -4000000 ≤ p.2.2 - q.2.2 ∧ p.2.2 - q.2.2 ≤ 4000000) :
    Calls Try.prog 39 #[.agg #[.int .i64 p.1, .int .i64 p.2.1, .int .i64 p.2.2], .agg #[.int .i64 q.1, .int .i64 q.2.1, .int .i64 q.2.2]] w fun e w' =>
    e = .returned (.agg #[.int .i64 (p.1 - q.1), .int .i64 (p.2.1 - q.2.1), .int .i64 (p.2.2 - q.2.2)]) ∧ Below w.heap.size w w' := by
  have H := Lib.hid (st2 w p q 23 (.cells #[.int .i64 0, .int .i64 0, .int .i64 0] 36))
  have hz : w.heap.size + 3 ≤ (((w.alloc (.cells #[.int .i64 p.1, .int .i64 p.2.1, .int .i64 p.2.2] 23)).alloc (.cells #[.int .i64 q.1, .int .i64 q.2.1, .int .i64 q.2.2] 23)).alloc (.cells #[.int .i64 0, .int .i64 0, .int .i64 0] 36)).heap.size := by simp
  have hb0 := b3 w (.cells #[.int .i64 p.1, .int .i64 p.2.1, .int .i64 p.2.2] 23) (.cells #[.int .i64 q.1, .int .i64 q.2.1, .int .i64 q.2.2] 23) (.cells #[.int .i64 0, .int .i64 0, .int .i64 0] 36)
  have Z0 := Lib.hid (Zed.new3 w (.cells #[.int .i64 p.1, .int .i64 p.2.1, .int .i64 p.2.2] 23) (.cells #[.int .i64 q.1, .int .i64 q.2.1, .int .i64 q.2.2] 23) 36)
  go_enter Try.func39, Try.ntmps39
  go_upto_region 1 with fail
  generalize (((w.alloc (.cells #[.int .i64 p.1, .int .i64 p.2.1, .int .i64 p.2.2] 23)).alloc (.cells #[.int .i64 q.1, .int .i64 q.2.1, .int .i64 q.2.2] 23)).alloc (.cells #[.int .i64 0, .int .i64 0, .int .i64 0] 36)) = w3 at *
  go_cut [5, 6] (fun s t wx => Pq w3 p q s t wx)
  case first =>
    go_region_held3 (fun w' => w'.cell? ⟨w.heap.size, 0, none⟩ = some (.int .i64 p.1) ∧ w'.cell? ⟨w.heap.size, 1, none⟩ = some (.int .i64 p.2.1) ∧ w'.cell? ⟨w.heap.size, 2, none⟩ = some (.int .i64 p.2.2) ∧ w'.cell? ⟨w.heap.size + 1, 0, none⟩ = some (.int .i64 q.1) ∧ w'.cell? ⟨w.heap.size + 1, 1, none⟩ = some (.int .i64 q.2.1) ∧ w'.cell? ⟨w.heap.size + 1, 2, none⟩ = some (.int .i64 q.2.2) ∧ Below w3.heap.size w3 w')
      ((refine mk6 H ?_; repeat' first | (with_reducible assumption) | (with_reducible exact Below.refl _ _) | (with_reducible refine bnew ?_ _) | (with_reducible refine Below.drew ?_) | (with_reducible refine setB ?_ ?_) | omega))
      ((go_at_call 37; (with_reducible refine (coordinates_any _ _).mono ?_); rintro e w' ⟨rfl, hb⟩; have hbb := bcall (get6 (by assumption)) hb; have hbs := hbb.size; (first | (have ZB := Lib.hid (Zed.below (Zed.new2 _ _ _) hb); have ZA := Lib.hid (Zed.below (Zed.old (Zed.new _ _) _) hb)) | (have ZB := Lib.hid (Zed.below (Zed.drew (Zed.new2 _ _ _)) hb); have ZA := Lib.hid (Zed.below (Zed.drew (Zed.old (Zed.new _ _) _)) hb)) | (have ZB := Lib.hid (Zed.below (Zed.new _ _) hb); (try (have ZA := Lib.hid (Zed.below (Zed.old ZA.out _) hb)))) | (have ZA := Lib.hid (Zed.below (Zed.drew (Zed.new _ _)) hb)) | (have ZA := Lib.hid (Zed.below ZA.out hb); (try (have ZB := Lib.hid (Zed.below ZB.out hb)))) | skip); (try (have rA := ZA.out; obtain ⟨⟨ra0, ra1, ra2⟩, ⟨ra3, ra4, ra5⟩, ra6⟩ := rA)); (try (have rB := ZB.out; obtain ⟨⟨rb0, rb1, rb2⟩, ⟨rb3, rb4, rb5⟩, rb6⟩ := rB)); clear hb))
    all_goals go_wp2_with fail
    all_goals go_meet
    all_goals
      refine ⟨_, _, rfl, rfl, ?_, ⟨?_, ?_, ?_⟩, ⟨?_, ?_, ?_⟩, ⟨?_, ?_, ?_⟩, ?_, ?_⟩
      all_goals first | omega | (go_simp; done) | (repeat' first | (with_reducible assumption) | (with_reducible exact Below.refl _ _) | (with_reducible refine bnew ?_ _) | (with_reducible refine Below.drew ?_) | (with_reducible refine setB ?_ ?_) | omega)
  case rest =>
    obtain ⟨g, h, rfl, rfl, hne, ⟨g0, g1, g2⟩, ⟨k0, k1, k2⟩, ⟨f0, f1, f2⟩, hg0, hbc⟩ := hcut
    obtain ⟨⟨ra0, ra1, ra2⟩, ⟨ra3, ra4, ra5⟩, ra6⟩ := Zed.below Z0.out hbc
    have hne1 : g ≠ w.heap.size + 1 + 1 := by omega
    have hne2 : w.heap.size + 1 + 1 ≠ g := by omega
    have hne3 : h ≠ g := fun e => hne e.symm
    have hbw := bcall hb0 hbc
    have e1 : IntKind.i64.wrap (p.1 - q.1) = p.1 - q.1 := wrap_in (by omega) (by omega)
    have e2 : IntKind.i64.wrap (p.2.1 - q.2.1) = p.2.1 - q.2.1 := wrap_in (by omega) (by omega)
    have e3 : IntKind.i64.wrap (p.2.2 - q.2.2) = p.2.2 - q.2.2 := wrap_in (by omega) (by omega)
    clear h1 h2 h3 hb0 Z0 H hbc
    go_wp2
    refine wp_loop_rounds 4 ?_
    rw [rounds_succ]
    go_wp2
    go_region
    all_goals go_wp2
    all_goals rw [rounds_succ]
    all_goals go_wp2
    all_goals go_region
    all_goals go_wp2
    all_goals rw [rounds_succ]
    all_goals go_wp2
    all_goals go_region
    all_goals go_wp2
    all_goals rw [rounds_succ]
    all_goals go_wp2
    refine bodyPost_ret (v := .agg #[.int .i64 (p.1 - q.1), .int .i64 (p.2.1 - q.2.1), .int .i64 (p.2.2 - q.2.2)]) ?_ rfl ⟨rfl, ?_⟩
    · simp [results, Try.results39, go_sem, *]
    · repeat' first | (with_reducible assumption) | (with_reducible refine setB ?_ ?_) | (with_reducible refine Below.drew ?_) | omega
end Go.Proofs.Ytiehbakloldkcaa
