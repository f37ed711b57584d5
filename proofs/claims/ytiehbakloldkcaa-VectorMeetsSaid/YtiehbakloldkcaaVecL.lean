/- Turn, On and Meet of points of a plane. -/
import Derived.Test.YtiehbakloldkcaaVecK
namespace Go.Proofs.Ytiehbakloldkcaa
open Go.RowKit
attribute [local go_sem ↓] Go.wp_at_zero Go.wp_at_succ
def At2 (w : World) (b : Nat) (x : P2) : Prop := w.cell? ⟨b, 0, none⟩ = some (.int .i64 x.1) ∧ w.cell? ⟨b, 1, none⟩ = some (.int .i64 x.2)
theorem At2.new (w : World) (t : TypeId) (x : P2) : At2 (w.alloc (.cells #[.int .i64 x.1, .int .i64 x.2] t)) w.heap.size x := ⟨cnew w _ t 0 _ rfl, cnew w _ t 1 _ rfl⟩
theorem At2.new2 (w : World) (o : Obj) (t : TypeId) (x : P2) : At2 ((w.alloc o).alloc (.cells #[.int .i64 x.1, .int .i64 x.2] t)) (w.heap.size + 1) x := ⟨cnew2 w o _ t 0 _ rfl, cnew2 w o _ t 1 _ rfl⟩
theorem At2.new3 (w : World) (o o' : Obj) (t : TypeId) (x : P2) : At2 (((w.alloc o).alloc o').alloc (.cells #[.int .i64 x.1, .int .i64 x.2] t)) (w.heap.size + 1 + 1) x := by
  have := At2.new2 (w.alloc o) o' t x
  rwa [sz1] at this
theorem At2.new4 (w : World) (o o' o2 : Obj) (t : TypeId) (x : P2) : At2 ((((w.alloc o).alloc o').alloc o2).alloc (.cells #[.int .i64 x.1, .int .i64 x.2] t)) (w.heap.size + 1 + 1 + 1) x := by
  have := At2.new3 (w.alloc o) o' o2 t x
  rwa [sz1] at this
theorem At2.old {w : World} {b : Nat} {x : P2} (h : At2 w b x) (o : Obj) : At2 (w.alloc o) b x := ⟨keepa h.1 o, keepa h.2 o⟩
theorem At2.below {w w' : World} {b : Nat} {x : P2} (h : At2 w b x) (hb : Below w.heap.size w w') : At2 w' b x := ⟨keepc h.1 hb, keepc h.2 hb⟩
theorem meetV_flt (a b c d : P2) : meetV (flt a) (flt b) (flt c) (flt d) = meetC a b c d := by
  have e1 : ∀ a b : P2, fstV (flt a) (flt b) = flt (fst2 a b) := fun a b => by unfold fstV fst2; rw [befV_flt]; split <;> rfl
  have e2 : ∀ a b : P2, lstV (flt a) (flt b) = flt (lst2 a b) := fun a b => by unfold lstV lst2; rw [befV_flt]; split <;> rfl
  unfold meetV meetC onLine
  simp only [e1, e2, cmpV_flt]
  rfl

theorem chk3 (a b c : P2) (w : World) : Calls Try.prog 36 #[.slice (some ⟨w.heap.size, 0, none⟩) 3 3] (w.alloc (.cells #[.int .i64 a.1, .int .i64 a.2, .int .i64 0, .int .i64 b.1, .int .i64 b.2, .int .i64 0, .int .i64 c.1, .int .i64 c.2, .int .i64 0] 23)) fun e w' =>
    e = .returned (.int .i64 (errV [flt a, flt b, flt c])) ∧ Below (w.alloc (.cells #[.int .i64 a.1, .int .i64 a.2, .int .i64 0, .int .i64 b.1, .int .i64 b.2, .int .i64 0, .int .i64 c.1, .int .i64 c.2, .int .i64 0] 23)).heap.size (w.alloc (.cells #[.int .i64 a.1, .int .i64 a.2, .int .i64 0, .int .i64 b.1, .int .i64 b.2, .int .i64 0, .int .i64 c.1, .int .i64 c.2, .int .i64 0] 23)) w' :=
  checkAll_any _ _ _ [flt a, flt b, flt c] _ (w.heap.size + 1) (by simp) (RdV.new3 w _ rfl 23 (flt a) (flt b) (flt c)) (Lib.hid rfl) (by simp)
theorem errF3 (a b c : P2) : errV [flt a, flt b, flt c] = if inP a && (inP b && inP c) then 0 else 6 := by
  have e : ∀ p : P2, inV (flt p) = inP p := inV_flt
  simp only [errV, List.all_cons, List.all_nil, e, Bool.and_true]
theorem mkf3 {w3 w' : World} {n : Nat} {a b c : P2} (h : Hid (At2 w3 n a ∧ At2 w3 (n + 1) b ∧ At2 w3 (n + 1 + 1) c)) (hb : Below w3.heap.size w3 w') :
    w'.cell? ⟨n, 0, none⟩ = some (.int .i64 a.1) ∧ w'.cell? ⟨n, 1, none⟩ = some (.int .i64 a.2) ∧ w'.cell? ⟨(n + 1), 0, none⟩ = some (.int .i64 b.1) ∧ w'.cell? ⟨(n + 1), 1, none⟩ = some (.int .i64 b.2) ∧ w'.cell? ⟨(n + 1 + 1), 0, none⟩ = some (.int .i64 c.1) ∧ w'.cell? ⟨(n + 1 + 1), 1, none⟩ = some (.int .i64 c.2) ∧ Below w3.heap.size w3 w' :=
  have h := h.out
  ⟨(h.1.below hb).1, (h.1.below hb).2, (h.2.1.below hb).1, (h.2.1.below hb).2, (h.2.2.below hb).1, (h.2.2.below hb).2, hb⟩
theorem bcf3 {w3 X w' : World} {p0 p1 p2 p3 p4 p5 : Prop} (h : p0 ∧ p1 ∧ p2 ∧ p3 ∧ p4 ∧ p5 ∧ Below w3.heap.size w3 X) (hb : Below X.heap.size X w') : Below w3.heap.size w3 w' := bcall h.2.2.2.2.2.2 hb

theorem chk4 (a b c d : P2) (w : World) : Calls Try.prog 36 #[.slice (some ⟨w.heap.size, 0, none⟩) 4 4] (w.alloc (.cells #[.int .i64 a.1, .int .i64 a.2, .int .i64 0, .int .i64 b.1, .int .i64 b.2, .int .i64 0, .int .i64 c.1, .int .i64 c.2, .int .i64 0, .int .i64 d.1, .int .i64 d.2, .int .i64 0] 23)) fun e w' =>
    e = .returned (.int .i64 (errV [flt a, flt b, flt c, flt d])) ∧ Below (w.alloc (.cells #[.int .i64 a.1, .int .i64 a.2, .int .i64 0, .int .i64 b.1, .int .i64 b.2, .int .i64 0, .int .i64 c.1, .int .i64 c.2, .int .i64 0, .int .i64 d.1, .int .i64 d.2, .int .i64 0] 23)).heap.size (w.alloc (.cells #[.int .i64 a.1, .int .i64 a.2, .int .i64 0, .int .i64 b.1, .int .i64 b.2, .int .i64 0, .int .i64 c.1, .int .i64 c.2, .int .i64 0, .int .i64 d.1, .int .i64 d.2, .int .i64 0] 23)) w' :=
  checkAll_any _ _ _ [flt a, flt b, flt c, flt d] _ (w.heap.size + 1) (by simp) (RdV.new4 w _ rfl 23 (flt a) (flt b) (flt c) (flt d)) (Lib.hid rfl) (by simp)
theorem errF4 (a b c d : P2) : errV [flt a, flt b, flt c, flt d] = if inP a && (inP b && (inP c && inP d)) then 0 else 6 := by
  have e : ∀ p : P2, inV (flt p) = inP p := inV_flt
  simp only [errV, List.all_cons, List.all_nil, e, Bool.and_true]
theorem mkf4 {w3 w' : World} {n : Nat} {a b c d : P2} (h : Hid (At2 w3 n a ∧ At2 w3 (n + 1) b ∧ At2 w3 (n + 1 + 1) c ∧ At2 w3 (n + 1 + 1 + 1) d)) (hb : Below w3.heap.size w3 w') :
    w'.cell? ⟨n, 0, none⟩ = some (.int .i64 a.1) ∧ w'.cell? ⟨n, 1, none⟩ = some (.int .i64 a.2) ∧ w'.cell? ⟨(n + 1), 0, none⟩ = some (.int .i64 b.1) ∧ w'.cell? ⟨(n + 1), 1, none⟩ = some (.int .i64 b.2) ∧ w'.cell? ⟨(n + 1 + 1), 0, none⟩ = some (.int .i64 c.1) ∧ w'.cell? ⟨(n + 1 + 1), 1, none⟩ = some (.int .i64 c.2) ∧ w'.cell? ⟨(n + 1 + 1 + 1), 0, none⟩ = some (.int .i64 d.1) ∧ w'.cell? ⟨(n + 1 + 1 + 1), 1, none⟩ = some (.int .i64 d.2) ∧ Below w3.heap.size w3 w' :=
  have h := h.out
  ⟨(h.1.below hb).1, (h.1.below hb).2, (h.2.1.below hb).1, (h.2.1.below hb).2, (h.2.2.1.below hb).1, (h.2.2.1.below hb).2, (h.2.2.2.below hb).1, (h.2.2.2.below hb).2, hb⟩
theorem bcf4 {w3 X w' : World} {p0 p1 p2 p3 p4 p5 p6 p7 : Prop} (h : p0 ∧ p1 ∧ p2 ∧ p3 ∧ p4 ∧ p5 ∧ p6 ∧ p7 ∧ Below w3.heap.size w3 X) (hb : Below X.heap.size X w') : Below w3.heap.size w3 w' := bcall h.2.2.2.2.2.2.2.2 hb

def metR (a b c d : P2) : Int × Int := if inP a && (inP b && (inP c && inP d)) then (meetC a b c d, 0) else (0, 6)
set_option maxHeartbeats 1000000 in
theorem vMeet_any (a b c d : P2) (w : World) : Calls Try.prog 34 #[.agg #[.int .i64 a.1, .int .i64 a.2], .agg #[.int .i64 b.1, .int .i64 b.2], .agg #[.int .i64 c.1, .int .i64 c.2], .agg #[.int .i64 d.1, .int .i64 d.2]] w fun e w' => e = .returned (.tuple #[.int .i64 (metR a b c d).1, .int .i64 (metR a b c d).2]) ∧ Below w.heap.size w w' := by
  have H : Hid (At2 ((((w.alloc (.cells #[.int .i64 a.1, .int .i64 a.2] 46)).alloc (.cells #[.int .i64 b.1, .int .i64 b.2] 46)).alloc (.cells #[.int .i64 c.1, .int .i64 c.2] 46)).alloc (.cells #[.int .i64 d.1, .int .i64 d.2] 46)) (w.heap.size) a ∧ At2 ((((w.alloc (.cells #[.int .i64 a.1, .int .i64 a.2] 46)).alloc (.cells #[.int .i64 b.1, .int .i64 b.2] 46)).alloc (.cells #[.int .i64 c.1, .int .i64 c.2] 46)).alloc (.cells #[.int .i64 d.1, .int .i64 d.2] 46)) (w.heap.size + 1) b ∧ At2 ((((w.alloc (.cells #[.int .i64 a.1, .int .i64 a.2] 46)).alloc (.cells #[.int .i64 b.1, .int .i64 b.2] 46)).alloc (.cells #[.int .i64 c.1, .int .i64 c.2] 46)).alloc (.cells #[.int .i64 d.1, .int .i64 d.2] 46)) (w.heap.size + 1 + 1) c ∧ At2 ((((w.alloc (.cells #[.int .i64 a.1, .int .i64 a.2] 46)).alloc (.cells #[.int .i64 b.1, .int .i64 b.2] 46)).alloc (.cells #[.int .i64 c.1, .int .i64 c.2] 46)).alloc (.cells #[.int .i64 d.1, .int .i64 d.2] 46)) (w.heap.size + 1 + 1 + 1) d) := Lib.hid ⟨(((At2.new w 46 a).old _).old _).old _, ((At2.new2 w _ 46 b).old _).old _, (At2.new3 w _ _ 46 c).old _, At2.new4 w _ _ _ 46 d⟩
  have hb0 := b4 w (.cells #[.int .i64 a.1, .int .i64 a.2] 46) (.cells #[.int .i64 b.1, .int .i64 b.2] 46) (.cells #[.int .i64 c.1, .int .i64 c.2] 46) (.cells #[.int .i64 d.1, .int .i64 d.2] 46)
  have HE := Lib.hid (errF4 a b c d)
  rcases hin : inP a && (inP b && (inP c && inP d)) with _ | _
  · have HI := Lib.hid hin
    have HF : Hid (errV [flt a, flt b, flt c, flt d] = 6) := Lib.hid (by rw [HE.out, hin]; rfl)
    have t1 := t_no HF rfl
    clear hin HE
    go_enter Try.func34, Try.ntmps34
    go_upto_region 1 with fail
    generalize ((((w.alloc (.cells #[.int .i64 a.1, .int .i64 a.2] 46)).alloc (.cells #[.int .i64 b.1, .int .i64 b.2] 46)).alloc (.cells #[.int .i64 c.1, .int .i64 c.2] 46)).alloc (.cells #[.int .i64 d.1, .int .i64 d.2] 46)) = w3 at *
    go_region_held3 (fun w' => w'.cell? ⟨(w.heap.size), 0, none⟩ = some (.int .i64 a.1) ∧ w'.cell? ⟨(w.heap.size), 1, none⟩ = some (.int .i64 a.2) ∧ w'.cell? ⟨(w.heap.size + 1), 0, none⟩ = some (.int .i64 b.1) ∧ w'.cell? ⟨(w.heap.size + 1), 1, none⟩ = some (.int .i64 b.2) ∧ w'.cell? ⟨(w.heap.size + 1 + 1), 0, none⟩ = some (.int .i64 c.1) ∧ w'.cell? ⟨(w.heap.size + 1 + 1), 1, none⟩ = some (.int .i64 c.2) ∧ w'.cell? ⟨(w.heap.size + 1 + 1 + 1), 0, none⟩ = some (.int .i64 d.1) ∧ w'.cell? ⟨(w.heap.size + 1 + 1 + 1), 1, none⟩ = some (.int .i64 d.2) ∧ Below w3.heap.size w3 w')
      ((refine mkf4 H ?_; repeat' first | (with_reducible assumption) | (with_reducible exact Below.refl _ _) | (with_reducible refine bnew ?_ _) | (with_reducible refine Below.drew ?_)))
      ((first | (go_at_call 49; (with_reducible refine (flat_any _ _).mono ?_); rintro e w' ⟨rfl, hb⟩; have hbb := bcf4 (by assumption) hb; clear hb) | (go_at_call 36; (with_reducible refine (chk4 a b c d _).mono ?_); rintro e w' ⟨rfl, hb⟩; have hbb := bcf4 (by assumption) hb; clear hb)))
    rename_i hHl
    have hbb := bcf4 hHl (Below.refl _ _)
    clear hHl
    go_wp2_with fail
    go_ret2
    exact ⟨by simp [metR, HI.out, HF.out], bcall hb0 hbb⟩
  · have HI := Lib.hid hin
    have HF : Hid (errV [flt a, flt b, flt c, flt d] = 0) := Lib.hid (by rw [HE.out, hin]; rfl)
    have t1 := t_ok HF
    have hi : inP a = true ∧ inP b = true ∧ inP c = true ∧ inP d = true := by simpa using hin
    have HM : Hid (∀ w, Calls Try.prog 51 #[.agg #[.int .i64 a.1, .int .i64 a.2, .int .i64 0], .agg #[.int .i64 b.1, .int .i64 b.2, .int .i64 0], .agg #[.int .i64 c.1, .int .i64 c.2, .int .i64 0], .agg #[.int .i64 d.1, .int .i64 d.2, .int .i64 0]] w fun e w' => e = .returned (.int .i64 (meetC a b c d)) ∧ Below w.heap.size w w') := Lib.hid fun w => by
      have := meet_any (flt a) (flt b) (flt c) (flt d) (by rw [inV_flt]; exact hi.1) (by rw [inV_flt]; exact hi.2.1) (by rw [inV_flt]; exact hi.2.2.1) (by rw [inV_flt]; exact hi.2.2.2) w
      rw [meetV_flt] at this
      exact this
    clear hin HE hi
    go_enter Try.func34, Try.ntmps34
    go_upto_region 1 with fail
    generalize ((((w.alloc (.cells #[.int .i64 a.1, .int .i64 a.2] 46)).alloc (.cells #[.int .i64 b.1, .int .i64 b.2] 46)).alloc (.cells #[.int .i64 c.1, .int .i64 c.2] 46)).alloc (.cells #[.int .i64 d.1, .int .i64 d.2] 46)) = w3 at *
    go_region_held3 (fun w' => w'.cell? ⟨(w.heap.size), 0, none⟩ = some (.int .i64 a.1) ∧ w'.cell? ⟨(w.heap.size), 1, none⟩ = some (.int .i64 a.2) ∧ w'.cell? ⟨(w.heap.size + 1), 0, none⟩ = some (.int .i64 b.1) ∧ w'.cell? ⟨(w.heap.size + 1), 1, none⟩ = some (.int .i64 b.2) ∧ w'.cell? ⟨(w.heap.size + 1 + 1), 0, none⟩ = some (.int .i64 c.1) ∧ w'.cell? ⟨(w.heap.size + 1 + 1), 1, none⟩ = some (.int .i64 c.2) ∧ w'.cell? ⟨(w.heap.size + 1 + 1 + 1), 0, none⟩ = some (.int .i64 d.1) ∧ w'.cell? ⟨(w.heap.size + 1 + 1 + 1), 1, none⟩ = some (.int .i64 d.2) ∧ Below w3.heap.size w3 w')
      ((refine mkf4 H ?_; repeat' first | (with_reducible assumption) | (with_reducible exact Below.refl _ _) | (with_reducible refine bnew ?_ _) | (with_reducible refine Below.drew ?_)))
      ((first | (go_at_call 49; (with_reducible refine (flat_any _ _).mono ?_); rintro e w' ⟨rfl, hb⟩; have hbb := bcf4 (by assumption) hb; clear hb) | (go_at_call 36; (with_reducible refine (chk4 a b c d _).mono ?_); rintro e w' ⟨rfl, hb⟩; have hbb := bcf4 (by assumption) hb; clear hb)))
    rename_i hHl
    have hbb := bcf4 hHl (Below.refl _ _)
    clear hHl
    go_wp2_with fail
    go_region_held3 (fun w' => w'.cell? ⟨(w.heap.size), 0, none⟩ = some (.int .i64 a.1) ∧ w'.cell? ⟨(w.heap.size), 1, none⟩ = some (.int .i64 a.2) ∧ w'.cell? ⟨(w.heap.size + 1), 0, none⟩ = some (.int .i64 b.1) ∧ w'.cell? ⟨(w.heap.size + 1), 1, none⟩ = some (.int .i64 b.2) ∧ w'.cell? ⟨(w.heap.size + 1 + 1), 0, none⟩ = some (.int .i64 c.1) ∧ w'.cell? ⟨(w.heap.size + 1 + 1), 1, none⟩ = some (.int .i64 c.2) ∧ w'.cell? ⟨(w.heap.size + 1 + 1 + 1), 0, none⟩ = some (.int .i64 d.1) ∧ w'.cell? ⟨(w.heap.size + 1 + 1 + 1), 1, none⟩ = some (.int .i64 d.2) ∧ Below w3.heap.size w3 w')
      ((refine mkf4 H ?_; repeat' first | (with_reducible assumption) | (with_reducible exact Below.refl _ _) | (with_reducible refine bnew ?_ _) | (with_reducible refine Below.drew ?_)))
      ((first | (go_at_call 49; (with_reducible refine (flat_any _ _).mono ?_); rintro e w' ⟨rfl, hb⟩; have hbb := bcf4 (by assumption) hb; clear hb) | (go_at_call 51; (with_reducible refine (HM.out _).mono ?_); rintro e w' ⟨rfl, hb⟩; have hbb := bcf4 (by assumption) hb; clear hb)))
    rename_i hHl
    have hbb2 := bcf4 hHl (Below.refl _ _)
    clear hHl
    go_wp2_with fail
    go_ret2
    exact ⟨by simp [metR, HI.out], bcall hb0 hbb2⟩

def trnR (a b c : P2) : Int × Int := if inP a && (inP b && inP c) then (trn a b c, 0) else (0, 6)
set_option maxHeartbeats 1000000 in
theorem vTurn_any (a b c : P2) (w : World) : Calls Try.prog 29 #[.agg #[.int .i64 a.1, .int .i64 a.2], .agg #[.int .i64 b.1, .int .i64 b.2], .agg #[.int .i64 c.1, .int .i64 c.2]] w fun e w' => e = .returned (.tuple #[.int .i64 (trnR a b c).1, .int .i64 (trnR a b c).2]) ∧ Below w.heap.size w w' := by
  have H : Hid (At2 (((w.alloc (.cells #[.int .i64 a.1, .int .i64 a.2] 46)).alloc (.cells #[.int .i64 b.1, .int .i64 b.2] 46)).alloc (.cells #[.int .i64 c.1, .int .i64 c.2] 46)) (w.heap.size) a ∧ At2 (((w.alloc (.cells #[.int .i64 a.1, .int .i64 a.2] 46)).alloc (.cells #[.int .i64 b.1, .int .i64 b.2] 46)).alloc (.cells #[.int .i64 c.1, .int .i64 c.2] 46)) (w.heap.size + 1) b ∧ At2 (((w.alloc (.cells #[.int .i64 a.1, .int .i64 a.2] 46)).alloc (.cells #[.int .i64 b.1, .int .i64 b.2] 46)).alloc (.cells #[.int .i64 c.1, .int .i64 c.2] 46)) (w.heap.size + 1 + 1) c) := Lib.hid ⟨((At2.new w 46 a).old _).old _, (At2.new2 w _ 46 b).old _, At2.new3 w _ _ 46 c⟩
  have hb0 := b3 w (.cells #[.int .i64 a.1, .int .i64 a.2] 46) (.cells #[.int .i64 b.1, .int .i64 b.2] 46) (.cells #[.int .i64 c.1, .int .i64 c.2] 46)
  have HE := Lib.hid (errF3 a b c)
  rcases hin : inP a && (inP b && inP c) with _ | _
  · have HI := Lib.hid hin
    have HF : Hid (errV [flt a, flt b, flt c] = 6) := Lib.hid (by rw [HE.out, hin]; rfl)
    have t1 := t_no HF rfl
    clear hin HE
    go_enter Try.func29, Try.ntmps29
    go_upto_region 1 with fail
    generalize (((w.alloc (.cells #[.int .i64 a.1, .int .i64 a.2] 46)).alloc (.cells #[.int .i64 b.1, .int .i64 b.2] 46)).alloc (.cells #[.int .i64 c.1, .int .i64 c.2] 46)) = w3 at *
    go_region_held3 (fun w' => w'.cell? ⟨(w.heap.size), 0, none⟩ = some (.int .i64 a.1) ∧ w'.cell? ⟨(w.heap.size), 1, none⟩ = some (.int .i64 a.2) ∧ w'.cell? ⟨(w.heap.size + 1), 0, none⟩ = some (.int .i64 b.1) ∧ w'.cell? ⟨(w.heap.size + 1), 1, none⟩ = some (.int .i64 b.2) ∧ w'.cell? ⟨(w.heap.size + 1 + 1), 0, none⟩ = some (.int .i64 c.1) ∧ w'.cell? ⟨(w.heap.size + 1 + 1), 1, none⟩ = some (.int .i64 c.2) ∧ Below w3.heap.size w3 w')
      ((refine mkf3 H ?_; repeat' first | (with_reducible assumption) | (with_reducible exact Below.refl _ _) | (with_reducible refine bnew ?_ _) | (with_reducible refine Below.drew ?_)))
      ((first | (go_at_call 49; (with_reducible refine (flat_any _ _).mono ?_); rintro e w' ⟨rfl, hb⟩; have hbb := bcf3 (by assumption) hb; clear hb) | (go_at_call 36; (with_reducible refine (chk3 a b c _).mono ?_); rintro e w' ⟨rfl, hb⟩; have hbb := bcf3 (by assumption) hb; clear hb)))
    rename_i hHl
    have hbb := bcf3 hHl (Below.refl _ _)
    clear hHl
    go_wp2_with fail
    go_ret2
    exact ⟨by simp [trnR, HI.out, HF.out], bcall hb0 hbb⟩
  · have HI := Lib.hid hin
    have HF : Hid (errV [flt a, flt b, flt c] = 0) := Lib.hid (by rw [HE.out, hin]; rfl)
    have t1 := t_ok HF
    have hi : inP a = true ∧ inP b = true ∧ inP c = true := by simpa using hin
    have HM : Hid (∀ w, Calls Try.prog 50 #[.agg #[.int .i64 a.1, .int .i64 a.2, .int .i64 0], .agg #[.int .i64 b.1, .int .i64 b.2, .int .i64 0], .agg #[.int .i64 c.1, .int .i64 c.2, .int .i64 0]] w fun e w' => e = .returned (.int .i64 (trn a b c)) ∧ Below w.heap.size w w') := Lib.hid fun w => turn_any (flt a) (flt b) (flt c) (by rw [inV_flt]; exact hi.1) (by rw [inV_flt]; exact hi.2.1) (by rw [inV_flt]; exact hi.2.2) w
    clear hin HE hi
    go_enter Try.func29, Try.ntmps29
    go_upto_region 1 with fail
    generalize (((w.alloc (.cells #[.int .i64 a.1, .int .i64 a.2] 46)).alloc (.cells #[.int .i64 b.1, .int .i64 b.2] 46)).alloc (.cells #[.int .i64 c.1, .int .i64 c.2] 46)) = w3 at *
    go_region_held3 (fun w' => w'.cell? ⟨(w.heap.size), 0, none⟩ = some (.int .i64 a.1) ∧ w'.cell? ⟨(w.heap.size), 1, none⟩ = some (.int .i64 a.2) ∧ w'.cell? ⟨(w.heap.size + 1), 0, none⟩ = some (.int .i64 b.1) ∧ w'.cell? ⟨(w.heap.size + 1), 1, none⟩ = some (.int .i64 b.2) ∧ w'.cell? ⟨(w.heap.size + 1 + 1), 0, none⟩ = some (.int .i64 c.1) ∧ w'.cell? ⟨(w.heap.size + 1 + 1), 1, none⟩ = some (.int .i64 c.2) ∧ Below w3.heap.size w3 w')
      ((refine mkf3 H ?_; repeat' first | (with_reducible assumption) | (with_reducible exact Below.refl _ _) | (with_reducible refine bnew ?_ _) | (with_reducible refine Below.drew ?_)))
      ((first | (go_at_call 49; (with_reducible refine (flat_any _ _).mono ?_); rintro e w' ⟨rfl, hb⟩; have hbb := bcf3 (by assumption) hb; clear hb) | (go_at_call 36; (with_reducible refine (chk3 a b c _).mono ?_); rintro e w' ⟨rfl, hb⟩; have hbb := bcf3 (by assumption) hb; clear hb)))
    rename_i hHl
    have hbb := bcf3 hHl (Below.refl _ _)
    clear hHl
    go_wp2_with fail
    go_region_held3 (fun w' => w'.cell? ⟨(w.heap.size), 0, none⟩ = some (.int .i64 a.1) ∧ w'.cell? ⟨(w.heap.size), 1, none⟩ = some (.int .i64 a.2) ∧ w'.cell? ⟨(w.heap.size + 1), 0, none⟩ = some (.int .i64 b.1) ∧ w'.cell? ⟨(w.heap.size + 1), 1, none⟩ = some (.int .i64 b.2) ∧ w'.cell? ⟨(w.heap.size + 1 + 1), 0, none⟩ = some (.int .i64 c.1) ∧ w'.cell? ⟨(w.heap.size + 1 + 1), 1, none⟩ = some (.int .i64 c.2) ∧ Below w3.heap.size w3 w')
      ((refine mkf3 H ?_; repeat' first | (with_reducible assumption) | (with_reducible exact Below.refl _ _) | (with_reducible refine bnew ?_ _) | (with_reducible refine Below.drew ?_)))
      ((first | (go_at_call 49; (with_reducible refine (flat_any _ _).mono ?_); rintro e w' ⟨rfl, hb⟩; have hbb := bcf3 (by assumption) hb; clear hb) | (go_at_call 50; (with_reducible refine (HM.out _).mono ?_); rintro e w' ⟨rfl, hb⟩; have hbb := bcf3 (by assumption) hb; clear hb)))
    rename_i hHl
    have hbb2 := bcf3 hHl (Below.refl _ _)
    clear hHl
    go_wp2_with fail
    go_ret2
    exact ⟨by simp [trnR, HI.out], bcall hb0 hbb2⟩

def onvR (a b c : P2) : Bool × Int := (decide (0 < (metR a b c c).1), (metR a b c c).2)
theorem vOn_any (a b c : P2) (w : World) : Calls Try.prog 30 #[.agg #[.int .i64 a.1, .int .i64 a.2], .agg #[.int .i64 b.1, .int .i64 b.2], .agg #[.int .i64 c.1, .int .i64 c.2]] w fun e w' => e = .returned (.tuple #[.bool (onvR a b c).1, .int .i64 (onvR a b c).2]) ∧ Below w.heap.size w w' := by
  go_enter Try.func30, Try.ntmps30
  go_wp2_with fail
  (with_reducible refine (vMeet_any _ _ _ _ _).mono ?_)
  rintro e w1 ⟨rfl, hb⟩
  have hbb := bcall (b3 _ _ _ _) hb
  clear hb
  go_wp2_with fail
  go_ret2
  exact ⟨rfl, hbb⟩
end Go.Proofs.Ytiehbakloldkcaa
