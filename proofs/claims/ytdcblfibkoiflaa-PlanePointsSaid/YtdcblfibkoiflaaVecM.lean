/- Plain arithmetic of points of a plane: turns, the order of points, how many points two segments have in common. -/
import Derived.Below
namespace Go.Proofs.Ytdcblfibkoiflaa

def sgn (n : Int) : Int := if n < 0 then -1 else if 0 < n then 1 else 0
theorem sgn_zero {n : Int} : sgn n = 0 ↔ n = 0 := by unfold sgn; split <;> (try split) <;> omega
theorem sgn_neg (n : Int) : sgn (-n) = -sgn n := by unfold sgn; repeat' split <;> omega
theorem sgn_cases (n : Int) : sgn n = -1 ∨ sgn n = 0 ∨ sgn n = 1 := by unfold sgn; split <;> (try split) <;> simp

abbrev P2 := Int × Int
def det (a b c : P2) : Int := (b.1 - a.1) * (c.2 - a.2) - (b.2 - a.2) * (c.1 - a.1)
def trn (a b c : P2) : Int := sgn (det a b c)
theorem det_swap (a b c : P2) : det a c b = -det a b c := by unfold det; grind
theorem det_rot (a b c : P2) : det b c a = det a b c := by unfold det; grind
theorem trn_swap (a b c : P2) : trn a c b = -trn a b c := by unfold trn; rw [det_swap, sgn_neg]
theorem trn_rot (a b c : P2) : trn b c a = trn a b c := by unfold trn; rw [det_rot]
theorem trn_flip (a b c : P2) : trn b a c = -trn a b c := by rw [← trn_rot b a c, trn_swap]
theorem trn_aab (a b : P2) : trn a a b = 0 := by unfold trn det; simp [sgn]
theorem trn_aba (a b : P2) : trn a b a = 0 := by rw [trn_swap, trn_aab]; rfl
theorem trn_abb (a b : P2) : trn a b b = 0 := by rw [← trn_rot, trn_swap, trn_rot, trn_aab]; rfl

/-- a stands before b. -/
def bef (a b : P2) : Bool := decide (a.1 < b.1) || (decide (a.1 = b.1) && decide (a.2 < b.2))
def cmp2 (a b : P2) : Int := if bef a b then -1 else if bef b a then 1 else 0
def fst2 (a b : P2) : P2 := if bef b a then b else a
def lst2 (a b : P2) : P2 := if bef a b then b else a
theorem bef_iff (a b : P2) : bef a b = true ↔ (a.1 < b.1 ∨ (a.1 = b.1 ∧ a.2 < b.2)) := by simp [bef]
theorem bef_no (a b : P2) : bef a b = false ↔ ¬ (a.1 < b.1 ∨ (a.1 = b.1 ∧ a.2 < b.2)) := by rw [← bef_iff]; simp

/-- How the program counts. -/
def meetC (a b c d : P2) : Int :=
  if trn a b c = 0 ∧ trn a b d = 0 ∧ trn c d a = 0 ∧ trn c d b = 0 then 1 - cmp2 (lst2 (fst2 a b) (fst2 c d)) (fst2 (lst2 a b) (lst2 c d))
  else if 0 < trn a b c * trn a b d ∨ 0 < trn c d a * trn c d b then 0 else 1

def box2 (a b p : P2) : Prop := (min a.1 b.1 ≤ p.1 ∧ p.1 ≤ max a.1 b.1) ∧ (min a.2 b.2 ≤ p.2 ∧ p.2 ≤ max a.2 b.2)
instance (a b p : P2) : Decidable (box2 a b p) := by unfold box2; infer_instance
def onR (a b p : P2) : Bool := decide (trn a b p = 0 ∧ box2 a b p)
/-- How the reference counts. -/
def meetR (a b c d : P2) : Int :=
  if a = b ∨ c = d then (if (a = b ∧ onR c d a = true) ∨ (c = d ∧ onR a b c = true) then 1 else 0)
  else if trn a b c = 0 ∧ trn a b d = 0 then
    (if bef (lst2 (fst2 a b) (fst2 c d)) (fst2 (lst2 a b) (lst2 c d)) then 2 else if lst2 (fst2 a b) (fst2 c d) = fst2 (lst2 a b) (lst2 c d) then 1 else 0)
  else if trn a b c * trn a b d ≤ 0 ∧ trn c d a * trn c d b ≤ 0 then 1 else 0

theorem mul_z {u x : Int} (h : u * x = 0) (hu : u ≠ 0) : x = 0 := by
  rcases Int.mul_eq_zero.1 h with h | h
  · exact absurd h hu
  · exact h
/-- Two points on the line through two others: all four lie on one line. -/
theorem det_line {a b c d : P2} (hne : a ≠ b) (h1 : det a b c = 0) (h2 : det a b d = 0) : det c d a = 0 := by
  by_cases hu : b.1 - a.1 = 0
  · have hv : b.2 - a.2 ≠ 0 := fun e => hne (Prod.ext (by omega) (by omega))
    refine mul_z (u := b.2 - a.2) ?_ hv
    unfold det at *
    grind
  · refine mul_z (u := b.1 - a.1) ?_ hu
    unfold det at *
    grind
theorem trn_line {a b c d : P2} (hne : a ≠ b) (h1 : trn a b c = 0) (h2 : trn a b d = 0) : trn c d a = 0 ∧ trn c d b = 0 := by
  have h1' := sgn_zero.1 h1
  have h2' := sgn_zero.1 h2
  refine ⟨sgn_zero.2 (det_line hne h1' h2'), ?_⟩
  have e1 : det b a c = 0 := by unfold det at *; grind
  have e2 : det b a d = 0 := by unfold det at *; grind
  exact sgn_zero.2 (det_line (Ne.symm hne) e1 e2)

def lexin (a b p : P2) : Prop := bef p (fst2 a b) = false ∧ bef (lst2 a b) p = false
/-- U > 0, U * Q = W * P, 0 <= P <= U : Q lies between 0 and W. -/
theorem between {U Q W P : Int} (hU : 0 < U) (h : U * Q = W * P) (h0 : 0 ≤ P) (h1 : P ≤ U) : min 0 W ≤ Q ∧ Q ≤ max 0 W := by
  rcases Int.le_total 0 W with hW | hW
  · have g1 : 0 ≤ W * P := Int.mul_nonneg hW h0
    have g2 : W * P ≤ W * U := Int.mul_le_mul_of_nonneg_left h1 hW
    have g3 : 0 ≤ Q := by
      rcases Int.lt_or_le Q 0 with hq | hq
      · exfalso
        have := Int.mul_lt_mul_of_pos_left hq hU
        omega
      · exact hq
    have g4 : Q ≤ W := by
      rcases Int.lt_or_le W Q with hq | hq
      · exfalso
        have := Int.mul_lt_mul_of_pos_left hq hU
        rw [Int.mul_comm U W] at this
        omega
      · exact hq
    omega
  · have g1 : W * P ≤ 0 := Int.mul_nonpos_of_nonpos_of_nonneg hW h0
    have g2 : W * U ≤ W * P := Int.mul_le_mul_of_nonpos_left hW h1
    have g3 : Q ≤ 0 := by
      rcases Int.lt_or_le 0 Q with hq | hq
      · exfalso
        have := Int.mul_lt_mul_of_pos_left hq hU
        omega
      · exact hq
    have g4 : W ≤ Q := by
      rcases Int.lt_or_le Q W with hq | hq
      · exfalso
        have := Int.mul_lt_mul_of_pos_left hq hU
        rw [Int.mul_comm U W] at this
        omega
      · exact hq
    omega
theorem box_lex0 {a b p : P2} (hab : bef a b = true) (h : det a b p = 0) : box2 a b p ↔ (bef p a = false ∧ bef b p = false) := by
  obtain ⟨a1, a2⟩ := a
  obtain ⟨b1, b2⟩ := b
  obtain ⟨p1, p2⟩ := p
  rw [bef_iff] at hab
  rw [bef_no, bef_no]
  unfold det at h
  unfold box2
  dsimp only at *
  rcases hab with hx | ⟨hx, hy⟩
  · have hU : 0 < b1 - a1 := by omega
    have he : (b1 - a1) * (p2 - a2) = (b2 - a2) * (p1 - a1) := by omega
    constructor
    · rintro ⟨⟨q1, q2⟩, q3, q4⟩
      have z1 : p1 = a1 → p2 = a2 := fun e => by
        have : (b1 - a1) * (p2 - a2) = 0 := by rw [he, e]; simp
        have := mul_z this (by omega)
        omega
      have z2 : p1 = b1 → p2 = b2 := fun e => by
        have : (b1 - a1) * (p2 - b2) = 0 := by
          have e1 : (b1 - a1) * (p2 - a2) = (b2 - a2) * (b1 - a1) := by rw [he, e]
          have e2 : (b1 - a1) * (p2 - b2) = (b1 - a1) * (p2 - a2) - (b2 - a2) * (b1 - a1) := by grind
          omega
        have := mul_z this (by omega)
        omega
      omega
    · rintro ⟨q1, q2⟩
      have := between hU he (by omega) (by omega)
      omega
  · have he : (b2 - a2) * (p1 - a1) = 0 := by
      have : (b1 - a1) * (p2 - a2) = 0 := by rw [show b1 - a1 = 0 by omega]; simp
      omega
    have := mul_z he (by omega)
    omega
theorem box_lex {a b p : P2} (h : trn a b p = 0) : box2 a b p ↔ lexin a b p := by
  have h := sgn_zero.1 h
  unfold lexin fst2 lst2
  rcases h1 : bef a b with _ | _
  · rcases h2 : bef b a with _ | _
    · have : a = b := by rw [bef_no] at h1 h2; exact Prod.ext (by omega) (by omega)
      subst this
      simp only [Bool.false_eq_true, if_false]
      rw [bef_no, bef_no]
      unfold box2
      omega
    · rw [if_pos rfl, if_neg (by decide), ← box_lex0 h2 (by unfold det at *; grind)]
      unfold box2
      omega
  · have h2 : bef b a = false := by rw [bef_iff] at h1; rw [bef_no]; omega
    rw [h2, if_neg (by decide), if_pos rfl]
    exact box_lex0 h1 h

theorem cmp2_cases (a b : P2) : (bef a b = true ∧ cmp2 a b = -1) ∨ (bef b a = true ∧ bef a b = false ∧ cmp2 a b = 1) ∨ (a = b ∧ bef a b = false ∧ cmp2 a b = 0) := by
  unfold cmp2
  rcases h1 : bef a b with _ | _
  · rcases h2 : bef b a with _ | _
    · have : a = b := by rw [bef_no] at h1 h2; exact Prod.ext (by omega) (by omega)
      simp [this]
    · simp
  · simp
theorem cmp2_self (a : P2) : cmp2 a a = 0 := by simp [cmp2, bef]

/-- A single point against a segment. -/
theorem point_line (a c d : P2) : 1 - cmp2 (lst2 a (fst2 c d)) (fst2 a (lst2 c d)) = if bef a (fst2 c d) = false ∧ bef (lst2 c d) a = false then 1 else 0 := by
  have hord : bef (lst2 c d) (fst2 c d) = false := by
    unfold fst2 lst2
    rcases h1 : bef c d with _ | _ <;> rcases h2 : bef d c with _ | _ <;> simp <;> (simp only [bef_no, bef_iff] at *; omega)
  generalize fst2 c d = f at *
  generalize lst2 c d = l at *
  unfold lst2 fst2
  rcases h1 : bef a f with _ | _ <;> rcases h2 : bef l a with _ | _ <;> simp
  · rw [cmp2_self]; rfl
  · rcases cmp2_cases a l with ⟨h, e⟩ | ⟨h, h', e⟩ | ⟨h, h', e⟩ <;> rw [e] <;> (try (simp only [bef_iff, bef_no] at *; omega))
    · subst h; rw [h'] at h2; cases h2
  · rcases cmp2_cases f a with ⟨h, e⟩ | ⟨h, h', e⟩ | ⟨h, h', e⟩ <;> rw [e] <;> (try (simp only [bef_iff, bef_no] at *; omega))
    · subst h; rw [h'] at h1; cases h1
  · exfalso
    simp only [bef_iff, bef_no] at *
    omega
theorem lst2_self (a : P2) : lst2 a a = a := by simp [lst2]
theorem fst2_self (a : P2) : fst2 a a = a := by simp [fst2]
theorem lst2_comm (a b : P2) : lst2 a b = lst2 b a := by
  unfold lst2
  rcases h1 : bef a b with _ | _ <;> rcases h2 : bef b a with _ | _ <;> simp
  · rw [bef_no] at h1 h2; exact Prod.ext (by omega) (by omega)
  · rw [bef_iff] at h1 h2; omega
theorem fst2_comm (a b : P2) : fst2 a b = fst2 b a := by
  unfold fst2
  rcases h1 : bef a b with _ | _ <;> rcases h2 : bef b a with _ | _ <;> simp
  · rw [bef_no] at h1 h2; exact Prod.ext (by omega) (by omega)
  · rw [bef_iff] at h1 h2; omega

theorem sgn_sq (n : Int) (h : sgn n ≠ 0) : 0 < sgn n * sgn n := by rcases sgn_cases n with e | e | e <;> rw [e] at h ⊢ <;> simp at *

theorem meetC_point (a c d : P2) : meetC a a c d = if onR c d a = true then 1 else 0 := by
  unfold meetC onR
  rw [trn_aab, trn_aab]
  by_cases h : trn c d a = 0
  · rw [if_pos ⟨rfl, rfl, h, h⟩, fst2_self, lst2_self, point_line]
    have hb := box_lex h
    unfold lexin at hb
    simp only [h, true_and, decide_eq_true_eq, hb]
  · rw [if_neg (fun e => h e.2.2.1), if_pos (.inr (by unfold trn at *; exact sgn_sq _ h)), if_neg (by simp [h])]
theorem meetC_comm (a b c d : P2) : meetC a b c d = meetC c d a b := by
  unfold meetC
  rw [lst2_comm (fst2 a b), fst2_comm (lst2 a b)]
  simp only [and_assoc, and_left_comm, and_comm, or_comm]
theorem meetC_flip (a b c d : P2) : meetC a b c d = meetC b a d c := by
  have e : ∀ x y : Int, -x * -y = x * y := fun x y => Int.neg_mul_neg x y
  unfold meetC
  rw [trn_flip b a d, trn_flip b a c, trn_flip d c b, trn_flip d c a, e, e, lst2_comm a b, fst2_comm a b, lst2_comm c d, fst2_comm c d, Int.mul_comm (trn b a d), Int.mul_comm (trn d c b)]
  congr 1
  · apply propext; constructor <;> (rintro ⟨h1, h2, h3, h4⟩; simp at *; simp [h1, h2, h3, h4])
theorem meetC_flip1 (a b c d : P2) : meetC a b c d = meetC a b d c := by
  have e : ∀ x y : Int, -x * -y = x * y := fun x y => Int.neg_mul_neg x y
  unfold meetC
  rw [trn_flip d c a, trn_flip d c b, e, lst2_comm c d, fst2_comm c d, Int.mul_comm (trn a b c)]
  congr 1
  · apply propext; constructor <;> (rintro ⟨h1, h2, h3, h4⟩; simp at *; simp [h1, h2, h3, h4])
theorem meetC_single (a b c : P2) : meetC a b c c = if onR a b c = true then 1 else 0 := by rw [meetC_comm, meetC_point]
theorem meetC_self (a b : P2) : meetC a b a b = if a = b then 1 else 2 := by
  unfold meetC
  rw [trn_aba, trn_abb, if_pos ⟨rfl, rfl, rfl, rfl⟩, fst2_self, lst2_self]
  by_cases h : a = b
  · subst h; simp [fst2_self, lst2_self, cmp2_self]
  · rw [if_neg h]
    rcases cmp2_cases (fst2 a b) (lst2 a b) with ⟨g, e⟩ | ⟨g, g', e⟩ | ⟨g, g', e⟩ <;> rw [e] <;> (try rfl) <;> exfalso
    · unfold fst2 lst2 at *
      rcases h1 : bef a b with _ | _ <;> rcases h2 : bef b a with _ | _ <;> simp [h1, h2] at * <;> simp only [bef_iff, bef_no] at * <;> omega
    · apply h
      unfold fst2 lst2 at g
      rcases h1 : bef a b with _ | _ <;> rcases h2 : bef b a with _ | _ <;> rw [h1, h2] at g <;> simp at g
      · simp only [bef_no] at *
        exact Prod.ext (by omega) (by omega)
      · exact g.symm
      · exact g
      · rw [bef_iff] at h1 h2
        omega

theorem meet_same (a b c d : P2) : meetC a b c d = meetR a b c d := by
  unfold meetR
  by_cases h1 : a = b
  · subst h1
    rw [if_pos (.inl rfl), meetC_point]
    by_cases h2 : onR c d a = true
    · rw [if_pos h2, if_pos (.inl ⟨rfl, h2⟩)]
    · rw [if_neg h2, if_neg]
      rintro (⟨_, h⟩ | ⟨h, h'⟩)
      · exact h2 h
      · subst h
        apply h2
        unfold onR at *
        simp only [trn_aab, true_and, decide_eq_true_eq] at *
        unfold box2 at *
        omega
  · by_cases h2 : c = d
    · subst h2
      rw [if_pos (.inr rfl), meetC_single]
      by_cases h2 : onR a b c = true
      · rw [if_pos h2, if_pos (.inr ⟨rfl, h2⟩)]
      · rw [if_neg h2, if_neg]
        rintro (⟨h, h'⟩ | ⟨_, h⟩)
        · exact h1 h
        · exact h2 h
    · rw [if_neg (by simp [h1, h2])]
      unfold meetC
      by_cases h3 : trn a b c = 0 ∧ trn a b d = 0
      · obtain ⟨h5, h6⟩ := trn_line h1 h3.1 h3.2
        rw [if_pos ⟨h3.1, h3.2, h5, h6⟩, if_pos h3]
        rcases cmp2_cases (lst2 (fst2 a b) (fst2 c d)) (fst2 (lst2 a b) (lst2 c d)) with ⟨g, e⟩ | ⟨g, g', e⟩ | ⟨g, g', e⟩ <;> rw [e]
        · rw [if_pos g]; rfl
        · rw [if_neg (by simp [g']), if_neg]
          · rfl
          · intro e'; rw [e'] at g; simp only [bef_iff] at g; omega
        · rw [if_neg (by simp [g']), if_pos g]; rfl
      · rw [if_neg (fun e => h3 ⟨e.1, e.2.1⟩), if_neg h3]
        by_cases h4 : 0 < trn a b c * trn a b d ∨ 0 < trn c d a * trn c d b
        · rw [if_pos h4, if_neg (by omega)]
        · rw [if_neg h4, if_pos (by omega)]
end Go.Proofs.Ytdcblfibkoiflaa
