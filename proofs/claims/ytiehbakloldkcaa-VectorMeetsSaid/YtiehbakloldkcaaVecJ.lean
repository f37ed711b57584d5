/- The common points of two segments of one line. -/
import Derived.Test.YtiehbakloldkcaaVecI
import Derived.Deep.DeepCutAuto
namespace Go.Proofs.Ytiehbakloldkcaa
open Go.RowKit
attribute [local go_sem ↓] Go.wp_at_zero Go.wp_at_succ
theorem wp_call_v {P : Program} {o : Oper} {a : Act} {w : World} {K : Act → World → Prop} {Q : Exit → Act → World → Prop} {f : FuncId} {v sv : Value} {R : World → Prop} (t s : Operand) (ts : Array TypeId)
    (ho : o.op = .call { callee := .value t, args := #[s], argTypes := ts }) (hf : a.eval t = .func (.func f) #[] #[]) (hs : a.eval s = sv) (hcf : ∀ args w, (callFunc f args).run P w = .ok (.enter f args) w)
    (hc : Calls P f #[sv] w fun e w' => e = .returned v ∧ R w') (h : ∀ w', R w' → K (a.put o.dst v) w') : o.wp P a w K Q := by
  have e0 : ∀ ρ : Operand → Value, ρ t = .func (.func f) #[] #[] → ρ s = sv → (execOp ρ o).run P w = .ok (.enter f #[sv]) w := by
    intro ρ h1 h2
    unfold execOp
    simp [go_sem, ho, h1, h2, hcf]
  have e := e0 a.eval hf hs
  unfold Oper.wp
  rw [e, Oper.upon_enter]
  refine hc.mono ?_
  rintro e w' ⟨rfl, hR⟩
  exact h w' hR
theorem cf1 : ∀ args w, (callFunc 57 args).run Try.prog w = .ok (.enter 57 args) w := by
  intro args w
  have hb : Try.f57.body.isSome = true := by kernel_rfl
  have hb' : ¬ Try.f57.body = none := fun e => by rw [e] at hb; cases hb
  simp [go_sem, callFunc, Try.func57]
  rw [if_neg (by decide +kernel), if_neg hb']
theorem cf2 : ∀ args w, (callFunc 59 args).run Try.prog w = .ok (.enter 59 args) w := by
  intro args w
  have hb : Try.f59.body.isSome = true := by kernel_rfl
  have hb' : ¬ Try.f59.body = none := fun e => by rw [e] at hb; cases hb
  simp [go_sem, callFunc, Try.func59]
  rw [if_neg (by decide +kernel), if_neg hb']
theorem wp_first {o : Oper} {a : Act} {w : World} {K : Act → World → Prop} {Q : Exit → Act → World → Prop} (t s : Operand) (ts : Array TypeId) (p q : V3)
    (ho : o.op = .call { callee := .value t, args := #[s], argTypes := ts }) (hf : a.eval t = .func (.func 57) #[] #[]) (hs : ∃ m c, a.eval s = .slice (some ⟨m, 0, none⟩) 2 c ∧ At6 w m p q)
    (h : ∀ w', Below w.heap.size w w' → K (a.put o.dst (.agg #[.int .i64 (fstV p q).1, .int .i64 (fstV p q).2.1, .int .i64 (fstV p q).2.2])) w') : o.wp Try.prog a w K Q := by
  obtain ⟨m, c, hs, h6⟩ := hs
  exact wp_call_v t s ts ho hf hs cf1 (fstV_any m c p q w h6) h
theorem wp_last {o : Oper} {a : Act} {w : World} {K : Act → World → Prop} {Q : Exit → Act → World → Prop} (t s : Operand) (ts : Array TypeId) (p q : V3)
    (ho : o.op = .call { callee := .value t, args := #[s], argTypes := ts }) (hf : a.eval t = .func (.func 59) #[] #[]) (hs : ∃ m c, a.eval s = .slice (some ⟨m, 0, none⟩) 2 c ∧ At6 w m p q)
    (h : ∀ w', Below w.heap.size w w' → K (a.put o.dst (.agg #[.int .i64 (lstV p q).1, .int .i64 (lstV p q).2.1, .int .i64 (lstV p q).2.2])) w') : o.wp Try.prog a w K Q := by
  obtain ⟨m, c, hs, h6⟩ := hs
  exact wp_call_v t s ts ho hf hs cf2 (lstV_any m c p q w h6) h
theorem At6.new1 (w : World) (o : Obj) (t : TypeId) (p q : V3) : At6 ((w.alloc o).alloc (.cells #[.int .i64 p.1, .int .i64 p.2.1, .int .i64 p.2.2, .int .i64 q.1, .int .i64 q.2.1, .int .i64 q.2.2] t)) (w.heap.size + 1) p q := by
  have := At6.new (w.alloc o) t p q
  rwa [sz1] at this
theorem At6.new2 (w : World) (o o' : Obj) (t : TypeId) (p q : V3) : At6 (((w.alloc o).alloc o').alloc (.cells #[.int .i64 p.1, .int .i64 p.2.1, .int .i64 p.2.2, .int .i64 q.1, .int .i64 q.2.1, .int .i64 q.2.2] t)) (w.heap.size + 1 + 1) p q := by
  have := At6.new1 (w.alloc o) o' t p q
  rwa [sz1] at this
def Four (w3 : World) (n : Nat) (a b c d : V3) : Prop := At3 w3 n a ∧ At3 w3 (n + 1) b ∧ At3 w3 (n + 1 + 1) c ∧ At3 w3 (n + 1 + 1 + 1) d
theorem Four.new (w : World) (t : TypeId) (a b c d : V3) : Four ((((w.alloc (.cells #[.int .i64 a.1, .int .i64 a.2.1, .int .i64 a.2.2] t)).alloc (.cells #[.int .i64 b.1, .int .i64 b.2.1, .int .i64 b.2.2] t)).alloc (.cells #[.int .i64 c.1, .int .i64 c.2.1, .int .i64 c.2.2] t)).alloc (.cells #[.int .i64 d.1, .int .i64 d.2.1, .int .i64 d.2.2] t)) w.heap.size a b c d :=
  ⟨(((At3.new w t a).old _).old _).old _, ((At3.new2 w _ t b).old _).old _, (At3.new3 w _ _ t c).old _, At3.new4 w _ _ _ t d⟩
theorem Four.below {w w' : World} {n : Nat} {a b c d : V3} (h : Four w n a b c d) (hb : Below w.heap.size w w') : Four w' n a b c d := ⟨h.1.below hb, h.2.1.below hb, h.2.2.1.below hb, h.2.2.2.below hb⟩
theorem bcall12 {w3 X w' : World} {a b c d e f g h i j k l : Prop} (h12 : a ∧ b ∧ c ∧ d ∧ e ∧ f ∧ g ∧ h ∧ i ∧ j ∧ k ∧ l ∧ Below w3.heap.size w3 X) (hb : Below X.heap.size X w') : Below w3.heap.size w3 w' := bcall h12.2.2.2.2.2.2.2.2.2.2.2.2 hb
theorem mk12 {w3 w' : World} {n : Nat} {a b c d : V3} (h : Hid (Four w3 n a b c d)) (hb : Below w3.heap.size w3 w') :
    w'.cell? ⟨n, 0, none⟩ = some (.int .i64 a.1) ∧ w'.cell? ⟨n, 1, none⟩ = some (.int .i64 a.2.1) ∧ w'.cell? ⟨n, 2, none⟩ = some (.int .i64 a.2.2) ∧ w'.cell? ⟨(n + 1), 0, none⟩ = some (.int .i64 b.1) ∧ w'.cell? ⟨(n + 1), 1, none⟩ = some (.int .i64 b.2.1) ∧ w'.cell? ⟨(n + 1), 2, none⟩ = some (.int .i64 b.2.2) ∧ w'.cell? ⟨(n + 1 + 1), 0, none⟩ = some (.int .i64 c.1) ∧ w'.cell? ⟨(n + 1 + 1), 1, none⟩ = some (.int .i64 c.2.1) ∧ w'.cell? ⟨(n + 1 + 1), 2, none⟩ = some (.int .i64 c.2.2) ∧ w'.cell? ⟨(n + 1 + 1 + 1), 0, none⟩ = some (.int .i64 d.1) ∧ w'.cell? ⟨(n + 1 + 1 + 1), 1, none⟩ = some (.int .i64 d.2.1) ∧ w'.cell? ⟨(n + 1 + 1 + 1), 2, none⟩ = some (.int .i64 d.2.2) ∧ Below w3.heap.size w3 w' :=
  have h := h.out.below hb
  ⟨h.1.1, h.1.2.1, h.1.2.2, h.2.1.1, h.2.1.2.1, h.2.1.2.2, h.2.2.1.1, h.2.2.1.2.1, h.2.2.1.2.2, h.2.2.2.1, h.2.2.2.2.1, h.2.2.2.2.2, hb⟩
def One3 (w3 : World) (x : V3) (s : Value) (wx : World) : Prop := ∃ g : Nat, s = .pointer (some ⟨g, 0, none⟩) ∧ At3 wx g x ∧ Below w3.heap.size w3 wx

def onLine (a b c d : V3) : Int := 1 - cmpV (lstV (fstV a b) (fstV c d)) (fstV (lstV a b) (lstV c d))
set_option maxHeartbeats 20000000 in
theorem meetOnLine_any (a b c d : V3) (w : World) : Calls Try.prog 55 #[.agg #[.int .i64 a.1, .int .i64 a.2.1, .int .i64 a.2.2], .agg #[.int .i64 b.1, .int .i64 b.2.1, .int .i64 b.2.2], .agg #[.int .i64 c.1, .int .i64 c.2.1, .int .i64 c.2.2], .agg #[.int .i64 d.1, .int .i64 d.2.1, .int .i64 d.2.2]] w fun e w' =>
    e = .returned (.int .i64 (onLine a b c d)) ∧ Below w.heap.size w w' := by
  have H := Lib.hid (Four.new w 23 a b c d)
  have hb0 := b4 w (.cells #[.int .i64 a.1, .int .i64 a.2.1, .int .i64 a.2.2] 23) (.cells #[.int .i64 b.1, .int .i64 b.2.1, .int .i64 b.2.2] 23) (.cells #[.int .i64 c.1, .int .i64 c.2.1, .int .i64 c.2.2] 23) (.cells #[.int .i64 d.1, .int .i64 d.2.1, .int .i64 d.2.2] 23)
  go_enter Try.func55, Try.ntmps55
  go_upto_region 3 with fail
  generalize ((((w.alloc (.cells #[.int .i64 a.1, .int .i64 a.2.1, .int .i64 a.2.2] 23)).alloc (.cells #[.int .i64 b.1, .int .i64 b.2.1, .int .i64 b.2.2] 23)).alloc (.cells #[.int .i64 c.1, .int .i64 c.2.1, .int .i64 c.2.2] 23)).alloc (.cells #[.int .i64 d.1, .int .i64 d.2.1, .int .i64 d.2.2] 23)) = w3 at *
  go_cut [11] (fun s wx => One3 w3 (lstV (fstV a b) (fstV c d)) s wx)
  case first =>
    go_region_held3 (fun w' => w'.cell? ⟨(w.heap.size), 0, none⟩ = some (.int .i64 a.1) ∧ w'.cell? ⟨(w.heap.size), 1, none⟩ = some (.int .i64 a.2.1) ∧ w'.cell? ⟨(w.heap.size), 2, none⟩ = some (.int .i64 a.2.2) ∧ w'.cell? ⟨(w.heap.size + 1), 0, none⟩ = some (.int .i64 b.1) ∧ w'.cell? ⟨(w.heap.size + 1), 1, none⟩ = some (.int .i64 b.2.1) ∧ w'.cell? ⟨(w.heap.size + 1), 2, none⟩ = some (.int .i64 b.2.2) ∧ w'.cell? ⟨(w.heap.size + 1 + 1), 0, none⟩ = some (.int .i64 c.1) ∧ w'.cell? ⟨(w.heap.size + 1 + 1), 1, none⟩ = some (.int .i64 c.2.1) ∧ w'.cell? ⟨(w.heap.size + 1 + 1), 2, none⟩ = some (.int .i64 c.2.2) ∧ w'.cell? ⟨(w.heap.size + 1 + 1 + 1), 0, none⟩ = some (.int .i64 d.1) ∧ w'.cell? ⟨(w.heap.size + 1 + 1 + 1), 1, none⟩ = some (.int .i64 d.2.1) ∧ w'.cell? ⟨(w.heap.size + 1 + 1 + 1), 2, none⟩ = some (.int .i64 d.2.2) ∧ Below w3.heap.size w3 w')
      ((refine mk12 H ?_; repeat' first | (with_reducible assumption) | (with_reducible exact Below.refl _ _) | (with_reducible refine bnew ?_ _) | (with_reducible refine Below.drew ?_) | (with_reducible refine setB ?_ ?_) | omega))
      ((first | ((refine wp_first (.tmp 14) (.tmp 17) #[76] a b ?_ ?_ ?_ ?_); (· rfl); (· rfl); (· ((refine ⟨_, _, rfl, ?_⟩); (repeat' first | (with_reducible exact SB.out) | (with_reducible exact At6.new _ _ _ _) | (with_reducible exact At6.new1 _ _ _ _ _) | (with_reducible exact At6.new2 _ _ _ _ _ _) | (with_reducible refine At6.drew ?_) | (with_reducible refine At6.old ?_ _)))); intro w' hb; have hbb := bcall12 (by assumption) hb; have hbs := hbb.size; (first | (with_reducible have SB := Lib.hid (At6.below (At6.drew (At6.old (At6.old (At6.new _ _ c d) _) _)) hb)) | (with_reducible have SB := Lib.hid (At6.below (At6.drew (At6.old (At6.new1 _ _ _ c d) _)) hb)) | (with_reducible have SB := Lib.hid (At6.below (At6.drew (At6.new2 _ _ _ _ c d)) hb)) | (with_reducible have SB := Lib.hid (At6.below (At6.drew (At6.old (At6.new _ _ c d) _)) hb)) | (with_reducible have SB := Lib.hid (At6.below (At6.drew (At6.new1 _ _ _ c d)) hb)) | skip); (first | (with_reducible have ZA := Lib.hid (Zed.below (Zed.drew (Zed.old (Zed.old (Zed.new _ _) _) _)) hb)) | (with_reducible have ZA := Lib.hid (Zed.below (Zed.drew (Zed.old (Zed.new2 _ _ _) _)) hb)) | (with_reducible have ZA := Lib.hid (Zed.below (Zed.drew (Zed.new3 _ _ _ _)) hb)) | (with_reducible have ZA := Lib.hid (Zed.below (Zed.drew (Zed.old (Zed.new _ _) _)) hb)) | (with_reducible have ZA := Lib.hid (Zed.below (Zed.drew (Zed.new2 _ _ _)) hb)) | (with_reducible have ZA := Lib.hid (Zed.below (Zed.drew (Zed.new _ _)) hb)) | (with_reducible have ZA := Lib.hid (Zed.below (ZA.out) hb)) | (with_reducible have ZA := Lib.hid (Zed.below (Zed.old ZA.out _) hb)) | (with_reducible have ZA := Lib.hid (Zed.below (Zed.old (Zed.old ZA.out _) _) hb)) | (with_reducible have ZA := Lib.hid (Zed.below (Zed.new2 _ _ _) hb)) | (with_reducible have ZA := Lib.hid (Zed.below (Zed.old (Zed.new _ _) _) hb)) | (with_reducible have ZA := Lib.hid (Zed.below (Zed.new _ _) hb)) | skip); (try (have rA := ZA.out; obtain ⟨⟨ra0, ra1, ra2⟩, ⟨ra3, ra4, ra5⟩, ra6⟩ := rA)); clear hb) | ((refine wp_first (.tmp 19) (.tmp 22) #[76] c d ?_ ?_ ?_ ?_); (· rfl); (· rfl); (· ((refine ⟨_, _, rfl, ?_⟩); (repeat' first | (with_reducible exact SB.out) | (with_reducible exact At6.new _ _ _ _) | (with_reducible exact At6.new1 _ _ _ _ _) | (with_reducible exact At6.new2 _ _ _ _ _ _) | (with_reducible refine At6.drew ?_) | (with_reducible refine At6.old ?_ _)))); intro w' hb; have hbb := bcall12 (by assumption) hb; have hbs := hbb.size; (first | (with_reducible have ZA := Lib.hid (Zed.below (Zed.drew (Zed.old (Zed.old (Zed.new _ _) _) _)) hb)) | (with_reducible have ZA := Lib.hid (Zed.below (Zed.drew (Zed.old (Zed.new2 _ _ _) _)) hb)) | (with_reducible have ZA := Lib.hid (Zed.below (Zed.drew (Zed.new3 _ _ _ _)) hb)) | (with_reducible have ZA := Lib.hid (Zed.below (Zed.drew (Zed.old (Zed.new _ _) _)) hb)) | (with_reducible have ZA := Lib.hid (Zed.below (Zed.drew (Zed.new2 _ _ _)) hb)) | (with_reducible have ZA := Lib.hid (Zed.below (Zed.drew (Zed.new _ _)) hb)) | (with_reducible have ZA := Lib.hid (Zed.below (ZA.out) hb)) | (with_reducible have ZA := Lib.hid (Zed.below (Zed.old ZA.out _) hb)) | (with_reducible have ZA := Lib.hid (Zed.below (Zed.old (Zed.old ZA.out _) _) hb)) | (with_reducible have ZA := Lib.hid (Zed.below (Zed.new2 _ _ _) hb)) | (with_reducible have ZA := Lib.hid (Zed.below (Zed.old (Zed.new _ _) _) hb)) | (with_reducible have ZA := Lib.hid (Zed.below (Zed.new _ _) hb)) | skip); (try (have rA := ZA.out; obtain ⟨⟨ra0, ra1, ra2⟩, ⟨ra3, ra4, ra5⟩, ra6⟩ := rA)); clear hb) | ((refine wp_last (.tmp 13) (.tmp 24) #[76] (fstV a b) (fstV c d) ?_ ?_ ?_ ?_); (· rfl); (· rfl); (· ((refine ⟨_, _, rfl, ?_⟩); (repeat' first | (with_reducible exact SB.out) | (with_reducible exact At6.new _ _ _ _) | (with_reducible exact At6.new1 _ _ _ _ _) | (with_reducible exact At6.new2 _ _ _ _ _ _) | (with_reducible refine At6.drew ?_) | (with_reducible refine At6.old ?_ _)))); intro w' hb; have hbb := bcall12 (by assumption) hb; have hbs := hbb.size; (first | (with_reducible have ZA := Lib.hid (Zed.below (Zed.drew (Zed.old (Zed.old (Zed.new _ _) _) _)) hb)) | (with_reducible have ZA := Lib.hid (Zed.below (Zed.drew (Zed.old (Zed.new2 _ _ _) _)) hb)) | (with_reducible have ZA := Lib.hid (Zed.below (Zed.drew (Zed.new3 _ _ _ _)) hb)) | (with_reducible have ZA := Lib.hid (Zed.below (Zed.drew (Zed.old (Zed.new _ _) _)) hb)) | (with_reducible have ZA := Lib.hid (Zed.below (Zed.drew (Zed.new2 _ _ _)) hb)) | (with_reducible have ZA := Lib.hid (Zed.below (Zed.drew (Zed.new _ _)) hb)) | (with_reducible have ZA := Lib.hid (Zed.below (ZA.out) hb)) | (with_reducible have ZA := Lib.hid (Zed.below (Zed.old ZA.out _) hb)) | (with_reducible have ZA := Lib.hid (Zed.below (Zed.old (Zed.old ZA.out _) _) hb)) | (with_reducible have ZA := Lib.hid (Zed.below (Zed.new2 _ _ _) hb)) | (with_reducible have ZA := Lib.hid (Zed.below (Zed.old (Zed.new _ _) _) hb)) | (with_reducible have ZA := Lib.hid (Zed.below (Zed.new _ _) hb)) | skip); (try (have rA := ZA.out; obtain ⟨⟨ra0, ra1, ra2⟩, ⟨ra3, ra4, ra5⟩, ra6⟩ := rA)); clear hb)))
    all_goals go_wp2_with fail
    all_goals go_meet
    all_goals
      refine ⟨_, rfl, ⟨by go_simp, by go_simp, by go_simp⟩, ?_⟩
      (repeat' first | (with_reducible assumption) | (with_reducible exact Below.refl _ _) | (with_reducible refine bnew ?_ _) | (with_reducible refine Below.drew ?_) | (with_reducible refine setB ?_ ?_) | omega)
  case rest =>
    obtain ⟨g, rfl, hg, hbc⟩ := hcut
    have H5 := Lib.hid (H.out.below hbc)
    have hb5 := bcall hb0 hbc
    have HG := Lib.hid hg
    clear H hb0 hbc hg
    obtain ⟨w5, rfl⟩ : ∃ w5 : World, w5 = wc := ⟨_, rfl⟩
    go_wp2_with fail
    go_cut [12] (fun s wx => One3 w5 (fstV (lstV a b) (lstV c d)) s wx)
    case first =>
      go_region_held3 (fun w' => w'.cell? ⟨(w.heap.size), 0, none⟩ = some (.int .i64 a.1) ∧ w'.cell? ⟨(w.heap.size), 1, none⟩ = some (.int .i64 a.2.1) ∧ w'.cell? ⟨(w.heap.size), 2, none⟩ = some (.int .i64 a.2.2) ∧ w'.cell? ⟨(w.heap.size + 1), 0, none⟩ = some (.int .i64 b.1) ∧ w'.cell? ⟨(w.heap.size + 1), 1, none⟩ = some (.int .i64 b.2.1) ∧ w'.cell? ⟨(w.heap.size + 1), 2, none⟩ = some (.int .i64 b.2.2) ∧ w'.cell? ⟨(w.heap.size + 1 + 1), 0, none⟩ = some (.int .i64 c.1) ∧ w'.cell? ⟨(w.heap.size + 1 + 1), 1, none⟩ = some (.int .i64 c.2.1) ∧ w'.cell? ⟨(w.heap.size + 1 + 1), 2, none⟩ = some (.int .i64 c.2.2) ∧ w'.cell? ⟨(w.heap.size + 1 + 1 + 1), 0, none⟩ = some (.int .i64 d.1) ∧ w'.cell? ⟨(w.heap.size + 1 + 1 + 1), 1, none⟩ = some (.int .i64 d.2.1) ∧ w'.cell? ⟨(w.heap.size + 1 + 1 + 1), 2, none⟩ = some (.int .i64 d.2.2) ∧ Below w5.heap.size w5 w')
        ((refine mk12 H5 ?_; repeat' first | (with_reducible assumption) | (with_reducible exact Below.refl _ _) | (with_reducible refine bnew ?_ _) | (with_reducible refine Below.drew ?_) | (with_reducible refine setB ?_ ?_) | omega))
        ((first | ((refine wp_last (.tmp 27) (.tmp 30) #[76] a b ?_ ?_ ?_ ?_); (· rfl); (· rfl); (· ((refine ⟨_, _, rfl, ?_⟩); (repeat' first | (with_reducible exact SB.out) | (with_reducible exact At6.new _ _ _ _) | (with_reducible exact At6.new1 _ _ _ _ _) | (with_reducible exact At6.new2 _ _ _ _ _ _) | (with_reducible refine At6.drew ?_) | (with_reducible refine At6.old ?_ _)))); intro w' hb; have hbb := bcall12 (by assumption) hb; have hbs := hbb.size; (first | (with_reducible have SB := Lib.hid (At6.below (At6.drew (At6.old (At6.old (At6.new _ _ c d) _) _)) hb)) | (with_reducible have SB := Lib.hid (At6.below (At6.drew (At6.old (At6.new1 _ _ _ c d) _)) hb)) | (with_reducible have SB := Lib.hid (At6.below (At6.drew (At6.new2 _ _ _ _ c d)) hb)) | (with_reducible have SB := Lib.hid (At6.below (At6.drew (At6.old (At6.new _ _ c d) _)) hb)) | (with_reducible have SB := Lib.hid (At6.below (At6.drew (At6.new1 _ _ _ c d)) hb)) | skip); (first | (with_reducible have ZA := Lib.hid (Zed.below (Zed.drew (Zed.old (Zed.old (Zed.new _ _) _) _)) hb)) | (with_reducible have ZA := Lib.hid (Zed.below (Zed.drew (Zed.old (Zed.new2 _ _ _) _)) hb)) | (with_reducible have ZA := Lib.hid (Zed.below (Zed.drew (Zed.new3 _ _ _ _)) hb)) | (with_reducible have ZA := Lib.hid (Zed.below (Zed.drew (Zed.old (Zed.new _ _) _)) hb)) | (with_reducible have ZA := Lib.hid (Zed.below (Zed.drew (Zed.new2 _ _ _)) hb)) | (with_reducible have ZA := Lib.hid (Zed.below (Zed.drew (Zed.new _ _)) hb)) | (with_reducible have ZA := Lib.hid (Zed.below (ZA.out) hb)) | (with_reducible have ZA := Lib.hid (Zed.below (Zed.old ZA.out _) hb)) | (with_reducible have ZA := Lib.hid (Zed.below (Zed.old (Zed.old ZA.out _) _) hb)) | (with_reducible have ZA := Lib.hid (Zed.below (Zed.new2 _ _ _) hb)) | (with_reducible have ZA := Lib.hid (Zed.below (Zed.old (Zed.new _ _) _) hb)) | (with_reducible have ZA := Lib.hid (Zed.below (Zed.new _ _) hb)) | skip); (try (have rA := ZA.out; obtain ⟨⟨ra0, ra1, ra2⟩, ⟨ra3, ra4, ra5⟩, ra6⟩ := rA)); clear hb) | ((refine wp_last (.tmp 32) (.tmp 35) #[76] c d ?_ ?_ ?_ ?_); (· rfl); (· rfl); (· ((refine ⟨_, _, rfl, ?_⟩); (repeat' first | (with_reducible exact SB.out) | (with_reducible exact At6.new _ _ _ _) | (with_reducible exact At6.new1 _ _ _ _ _) | (with_reducible exact At6.new2 _ _ _ _ _ _) | (with_reducible refine At6.drew ?_) | (with_reducible refine At6.old ?_ _)))); intro w' hb; have hbb := bcall12 (by assumption) hb; have hbs := hbb.size; (first | (with_reducible have ZA := Lib.hid (Zed.below (Zed.drew (Zed.old (Zed.old (Zed.new _ _) _) _)) hb)) | (with_reducible have ZA := Lib.hid (Zed.below (Zed.drew (Zed.old (Zed.new2 _ _ _) _)) hb)) | (with_reducible have ZA := Lib.hid (Zed.below (Zed.drew (Zed.new3 _ _ _ _)) hb)) | (with_reducible have ZA := Lib.hid (Zed.below (Zed.drew (Zed.old (Zed.new _ _) _)) hb)) | (with_reducible have ZA := Lib.hid (Zed.below (Zed.drew (Zed.new2 _ _ _)) hb)) | (with_reducible have ZA := Lib.hid (Zed.below (Zed.drew (Zed.new _ _)) hb)) | (with_reducible have ZA := Lib.hid (Zed.below (ZA.out) hb)) | (with_reducible have ZA := Lib.hid (Zed.below (Zed.old ZA.out _) hb)) | (with_reducible have ZA := Lib.hid (Zed.below (Zed.old (Zed.old ZA.out _) _) hb)) | (with_reducible have ZA := Lib.hid (Zed.below (Zed.new2 _ _ _) hb)) | (with_reducible have ZA := Lib.hid (Zed.below (Zed.old (Zed.new _ _) _) hb)) | (with_reducible have ZA := Lib.hid (Zed.below (Zed.new _ _) hb)) | skip); (try (have rA := ZA.out; obtain ⟨⟨ra0, ra1, ra2⟩, ⟨ra3, ra4, ra5⟩, ra6⟩ := rA)); clear hb) | ((refine wp_first (.tmp 26) (.tmp 37) #[76] (lstV a b) (lstV c d) ?_ ?_ ?_ ?_); (· rfl); (· rfl); (· ((refine ⟨_, _, rfl, ?_⟩); (repeat' first | (with_reducible exact SB.out) | (with_reducible exact At6.new _ _ _ _) | (with_reducible exact At6.new1 _ _ _ _ _) | (with_reducible exact At6.new2 _ _ _ _ _ _) | (with_reducible refine At6.drew ?_) | (with_reducible refine At6.old ?_ _)))); intro w' hb; have hbb := bcall12 (by assumption) hb; have hbs := hbb.size; (first | (with_reducible have ZA := Lib.hid (Zed.below (Zed.drew (Zed.old (Zed.old (Zed.new _ _) _) _)) hb)) | (with_reducible have ZA := Lib.hid (Zed.below (Zed.drew (Zed.old (Zed.new2 _ _ _) _)) hb)) | (with_reducible have ZA := Lib.hid (Zed.below (Zed.drew (Zed.new3 _ _ _ _)) hb)) | (with_reducible have ZA := Lib.hid (Zed.below (Zed.drew (Zed.old (Zed.new _ _) _)) hb)) | (with_reducible have ZA := Lib.hid (Zed.below (Zed.drew (Zed.new2 _ _ _)) hb)) | (with_reducible have ZA := Lib.hid (Zed.below (Zed.drew (Zed.new _ _)) hb)) | (with_reducible have ZA := Lib.hid (Zed.below (ZA.out) hb)) | (with_reducible have ZA := Lib.hid (Zed.below (Zed.old ZA.out _) hb)) | (with_reducible have ZA := Lib.hid (Zed.below (Zed.old (Zed.old ZA.out _) _) hb)) | (with_reducible have ZA := Lib.hid (Zed.below (Zed.new2 _ _ _) hb)) | (with_reducible have ZA := Lib.hid (Zed.below (Zed.old (Zed.new _ _) _) hb)) | (with_reducible have ZA := Lib.hid (Zed.below (Zed.new _ _) hb)) | skip); (try (have rA := ZA.out; obtain ⟨⟨ra0, ra1, ra2⟩, ⟨ra3, ra4, ra5⟩, ra6⟩ := rA)); clear hb)))
      all_goals go_wp2_with fail
      all_goals go_meet
      all_goals
        refine ⟨_, rfl, ⟨by go_simp, by go_simp, by go_simp⟩, ?_⟩
        (repeat' first | (with_reducible assumption) | (with_reducible exact Below.refl _ _) | (with_reducible refine bnew ?_ _) | (with_reducible refine Below.drew ?_) | (with_reducible refine setB ?_ ?_) | omega)
    case rest =>
      obtain ⟨h, rfl, hh, hbc⟩ := hcut
      obtain ⟨g0, g1, g2⟩ := HG.out.below hbc
      obtain ⟨k0, k1, k2⟩ := hh
      have hbw := bcall hb5 hbc
      have hx := cmpV_bd (lstV (fstV a b) (fstV c d)) (fstV (lstV a b) (lstV c d))
      obtain ⟨hx1, hx2⟩ := hx
      clear H5 HG hb5 hbc
      go_wp2_with fail
      (with_reducible refine (vCompare_any _ _ _).mono ?_)
      rintro e w6 ⟨rfl, hb⟩
      have hbb := bcall hbw hb
      clear hb hbw g0 g1 g2 k0 k1 k2
      go_wp2_with fail
      go_ret
      exact ⟨ret_int rfl, hbb⟩

end Go.Proofs.Ytiehbakloldkcaa
