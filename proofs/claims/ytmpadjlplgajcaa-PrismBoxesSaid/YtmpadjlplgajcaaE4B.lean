/- The executor's laws: expressions, what is known, values and blocks. -/
import Derived.Test.YtmpadjlplgajcaaE4A
import Derived.Laws.CopyRow
import Derived.Deep.MidRow
namespace Go.Proofs.Ytmpadjlplgajcaa
open Go.RowKit

theorem same_kind {j k : IntKind} (h : IntKind.same j k = true) : j = k := by cases j <;> cases k <;> first | rfl | (simp [IntKind.same] at h)
theorem kind_same (k : IntKind) : IntKind.same k k = true := by cases k <;> rfl
theorem IE.same_eq : ∀ (a b : IE), a.same b = true → a = b := by
  intro a
  induction a with
  | «at» i => intro b h; cases b <;> simp [IE.same] at h; rw [h]
  | lit n => intro b h; cases b <;> simp [IE.same] at h; rw [h]
  | wr k a ih => intro b h; cases b <;> simp [IE.same] at h; rw [same_kind h.1, ih _ h.2]
  | ap f a b iha ihb => intro c h; cases c <;> simp [IE.same] at h; rw [h.1, iha _ h.2.1, ihb _ h.2.2]
  | fx f a b iha ihb => intro c h; cases c <;> simp [IE.same] at h; rw [h.1, iha _ h.2.1, ihb _ h.2.2]
  | _ a b iha ihb => intro c h; cases c <;> simp [IE.same] at h; rw [iha _ h.1, ihb _ h.2]
theorem BE.same_eq : ∀ (a b : BE), a.same b = true → a = b := by
  intro a
  induction a with
  | lit n => intro b h; cases b <;> simp [BE.same] at h; rw [h]
  | not a ih => intro b h; cases b <;> simp [BE.same] at h; rw [ih _ h]
  | and a b iha ihb => intro c h; cases c <;> simp [BE.same] at h; rw [iha _ h.1, ihb _ h.2]
  | lt a b => intro c h; cases c <;> simp [BE.same] at h; rw [IE.same_eq _ _ h.1, IE.same_eq _ _ h.2]
  | le a b => intro c h; cases c <;> simp [BE.same] at h; rw [IE.same_eq _ _ h.1, IE.same_eq _ _ h.2]
  | eq a b => intro c h; cases c <;> simp [BE.same] at h; rw [IE.same_eq _ _ h.1, IE.same_eq _ _ h.2]

/-! Strings as numbers. -/
theorem enc_dec : ∀ (f n : Nat), n < 2 ^ f → encN (decN f n) = n
  | 0, n, h => by
    have : n = 0 := by simpa using h
    subst this
    rfl
  | f + 1, n, h => by
    show encN (cond (n.beq 0) [] (((n - 1) % 256) :: decN f ((n - 1) / 256))) = n
    cases hq : n.beq 0 with
    | true => rw [Nat.eq_of_beq_eq_true hq]; rfl
    | false =>
      have h0 := Nat.ne_of_beq_eq_false hq
      have hp : 0 < 2 ^ f := Nat.pow_pos (by omega)
      rw [Nat.pow_succ] at h
      show 1 + (n - 1) % 256 + 256 * encN (decN f ((n - 1) / 256)) = n
      rw [enc_dec f _ (by omega)]
      omega
theorem dec_enc : ∀ (l : List Nat) (f : Nat), (∀ b ∈ l, b < 256) → encN l < 2 ^ f → decN f (encN l) = l
  | [], f, _, _ => by cases f <;> rfl
  | b :: r, 0, _, h => by simp only [encN, Nat.pow_zero] at h; omega
  | b :: r, f + 1, hb, h => by
    have h1 := hb b (List.mem_cons_self ..)
    rw [Nat.pow_succ] at h
    simp only [encN] at h
    show cond ((1 + b + 256 * encN r).beq 0) [] (((1 + b + 256 * encN r - 1) % 256) :: decN f ((1 + b + 256 * encN r - 1) / 256)) = b :: r
    have e : (1 + b + 256 * encN r).beq 0 = false := by
      cases hq : (1 + b + 256 * encN r).beq 0 with
      | false => rfl
      | true => have := Nat.eq_of_beq_eq_true hq; omega
    rw [e, show (1 + b + 256 * encN r - 1) % 256 = b by omega, show (1 + b + 256 * encN r - 1) / 256 = encN r by omega]
    show b :: decN f (encN r) = b :: r
    rw [dec_enc r f (fun c hc => hb c (List.mem_cons_of_mem _ hc)) (by omega)]
theorem zz_unzz (m : Nat) : zz (unzz m) = m := by
  unfold unzz
  cases hq : (m % 2).beq 0 with
  | true => have := Nat.eq_of_beq_eq_true hq; simp only [cond, zz]; omega
  | false => have := Nat.ne_of_beq_eq_false hq; simp only [cond, zz]; omega
theorem unzz_zz (a : Int) : unzz (zz a) = a := by
  cases a with
  | ofNat n => show cond ((2 * n % 2).beq 0) (Int.ofNat (2 * n / 2)) _ = _; rw [show 2 * n % 2 = 0 by omega, show 2 * n / 2 = n by omega]; rfl
  | negSucc n => show cond (((2 * n + 1) % 2).beq 0) _ (Int.negSucc ((2 * n + 1) / 2)) = _; rw [show (2 * n + 1) % 2 = 1 by omega, show (2 * n + 1) / 2 = n by omega]; rfl
theorem codeN_strN (a : Int) : codeN (strN a) = a := by
  unfold codeN strN
  rw [enc_dec _ _ Nat.lt_log2_self, unzz_zz]
theorem strN_codeN {l : List Nat} (h : ∀ b ∈ l, b < 256) : strN (codeN l) = l := by
  unfold codeN strN
  rw [zz_unzz, dec_enc l _ h Nat.lt_log2_self]
theorem decN_lt : ∀ (f n : Nat), ∀ b ∈ decN f n, b < 256
  | 0, n, b, hb => by cases hb
  | f + 1, n, b, hb => by
    have hb : b ∈ cond (n.beq 0) [] (((n - 1) % 256) :: decN f ((n - 1) / 256)) := hb
    cases hq : n.beq 0 with
    | true => rw [hq] at hb; cases hb
    | false =>
      rw [hq] at hb
      rcases List.mem_cons.1 hb with rfl | hb
      · omega
      · exact decN_lt f _ b hb
theorem strN_lt (a : Int) : ∀ b ∈ strN a, b < 256 := decN_lt _ _
theorem strB_codeB (s : ByteArray) : strB (codeB s) = s := by
  unfold strB codeB
  rw [strN_codeN (fun b hb => by obtain ⟨u, _, rfl⟩ := List.mem_map.1 hb; exact u.toNat_lt)]
  rw [List.map_map, show (UInt8.ofNat ∘ UInt8.toNat) = id by funext u; simp]
  simp
theorem strB_toNat (a : Int) : (strB a).data.toList.map UInt8.toNat = strN a := by
  unfold strB
  simp only [List.map_map]
  have : ∀ b ∈ strN a, (UInt8.toNat ∘ UInt8.ofNat) b = b := fun b hb => by
    have := strN_lt a b hb
    simp only [Function.comp, UInt8.toNat_ofNat']
    omega
  rw [List.map_congr_left this]
  simp
theorem strB_inj {a b : Int} (h : strB a = strB b) : a = b := by
  rw [← codeN_strN a, ← codeN_strN b, ← strB_toNat, ← strB_toNat, h]
theorem strB_list (a : Int) : (strB a).toList = (strN a).map UInt8.ofNat := by
  rw [ByteArray.toList_eq]
  rfl
theorem strB_beq (a b : Int) : ((strB a).toList == (strB b).toList) = (a == b) := by
  by_cases h : a = b
  · subst h; rw [beq_self_eq_true, beq_self_eq_true]
  · have : (strB a).toList ≠ (strB b).toList := fun e => h (by
      refine strB_inj ?_
      rw [ByteArray.toList_eq, ByteArray.toList_eq] at e
      show ByteArray.mk (strB a).data = ByteArray.mk (strB b).data
      rw [Array.toList_inj.1 e])
    rw [beq_eq_false_iff_ne.2 h, beq_eq_false_iff_ne.2 this]
theorem less_ltN : ∀ (x y : List Nat), (∀ b ∈ x, b < 256) → (∀ b ∈ y, b < 256) → Op.bytesLess (x.map UInt8.ofNat) (y.map UInt8.ofNat) = ltN x y
  | [], [], _, _ => rfl
  | [], _ :: _, _, _ => rfl
  | _ :: _, [], _, _ => rfl
  | a :: r, b :: s, hx, hy => by
    have ha := hx a (List.mem_cons_self ..)
    have hb := hy b (List.mem_cons_self ..)
    have ih := less_ltN r s (fun c hc => hx c (List.mem_cons_of_mem _ hc)) (fun c hc => hy c (List.mem_cons_of_mem _ hc))
    have ea : (UInt8.ofNat a).toNat = a := by rw [UInt8.toNat_ofNat']; omega
    have eb : (UInt8.ofNat b).toNat = b := by rw [UInt8.toNat_ofNat']; omega
    have e1 : decide (UInt8.ofNat a < UInt8.ofNat b) = decide (a < b) := by
      congr 1
      rw [UInt8.lt_iff_toNat_lt, ea, eb]
    have e2 : (UInt8.ofNat a == UInt8.ofNat b) = (a == b) := by
      by_cases h : a = b
      · subst h; rw [beq_self_eq_true, beq_self_eq_true]
      · have : UInt8.ofNat a ≠ UInt8.ofNat b := fun e => h (by rw [← ea, ← eb, e])
        rw [beq_eq_false_iff_ne.2 h, beq_eq_false_iff_ne.2 this]
    simp only [List.map_cons, Op.bytesLess, ih, e1, e2, ltN]
    by_cases h1 : a < b
    · have : a.blt b = true := by rw [Nat.blt_eq]; exact h1
      simp [h1, this]
    · have q1 : a.blt b = false := by
        cases hq : a.blt b with
        | false => rfl
        | true => rw [Nat.blt_eq] at hq; omega
      by_cases h2 : a = b
      · subst h2; simp [q1]
      · have : b.blt a = true := by rw [Nat.blt_eq]; omega
        simp [h1, h2, q1, this]
theorem strB_less (a b : Int) : Op.bytesLess (strB a).toList (strB b).toList = ltN (strN a) (strN b) := by
  rw [strB_list, strB_list]
  exact less_ltN _ _ (strN_lt a) (strN_lt b)
theorem strB_size (a : Int) : (strB a).size = (strN a).length := by
  show ((strN a).map UInt8.ofNat).toArray.size = _
  rw [List.size_toArray, List.length_map]

section
variable (ρ : EnvS)
theorem IE.bin_den (f : Int → Int → Int) (g : IE → IE → IE) (hg : ∀ a b, (g a b).den ρ = f (a.den ρ) (b.den ρ)) (a b : IE) : (IE.bin f g a b).den ρ = f (a.den ρ) (b.den ρ) := by
  cases a <;> cases b <;> simp [IE.bin, hg, IE.den]
theorem wrap_idem (k : IntKind) (n : Int) : k.wrap (k.wrap n) = k.wrap n := by
  cases k <;> simp [IntKind.wrap, IntKind.bits, IntKind.signed] <;> (repeat' split) <;> omega
theorem IE.wrap_den (k : IntKind) (a : IE) : (IE.wrap k a).den ρ = k.wrap (a.den ρ) := by
  cases a with
  | wr j a =>
    simp only [IE.wrap]
    split
    · rename_i h; rw [← same_kind h]; simp [IE.den, wrap_idem]
    · rfl
  | _ => rfl
theorem BE.ltS_den (a b : IE) : (BE.ltS a b).den ρ = decide (a.den ρ < b.den ρ) := by
  unfold BE.ltS
  split
  · rfl
  · split
    · rename_i h; rw [IE.same_eq _ _ h]; simp [BE.den]
    · rfl
theorem BE.leS_den (a b : IE) : (BE.leS a b).den ρ = decide (a.den ρ ≤ b.den ρ) := by
  unfold BE.leS
  split
  · rfl
  · split
    · rename_i h; rw [IE.same_eq _ _ h]; simp [BE.den]
    · rfl
theorem BE.eqS_den (a b : IE) : (BE.eqS a b).den ρ = (a.den ρ == b.den ρ) := by
  unfold BE.eqS
  split
  · rfl
  · split
    · rename_i h; rw [IE.same_eq _ _ h]; simp [BE.den]
    · rfl
theorem IE.addS_den (a b : IE) : (IE.addS a b).den ρ = a.den ρ + b.den ρ := by
  unfold IE.addS
  split <;> (try split) <;> simp_all [IE.den]
theorem IE.subS_den (a b : IE) : (IE.subS a b).den ρ = a.den ρ - b.den ρ := by
  unfold IE.subS
  split <;> (try split) <;> simp_all [IE.den]
theorem IE.mulS_den (a b : IE) : (IE.mulS a b).den ρ = a.den ρ * b.den ρ := by
  unfold IE.mulS
  split <;> (try split) <;> (try split) <;> simp_all [IE.den]
theorem IE.fxS_den (f : Nat) (a b : IE) : (IE.fxS f a b).den ρ = fixF f (a.den ρ) (b.den ρ) := IE.bin_den ρ _ _ (fun _ _ => rfl) a b
theorem BE.notS_den (a : BE) : (BE.notS a).den ρ = !a.den ρ := by cases a <;> simp [BE.notS, BE.den]
theorem BE.andS_den (a b : BE) : (BE.andS a b).den ρ = (a.den ρ && b.den ρ) := by
  unfold BE.andS
  split <;> simp [BE.den]

def PC.Ok (pc : PC) : Prop := ∀ c v, (c, v) ∈ pc → c.den ρ = v
variable {ρ}
theorem PC.Ok.cons {pc : PC} (h : pc.Ok ρ) {c : BE} {v : Bool} (hc : c.den ρ = v) : PC.Ok ρ ((c, v) :: pc) := by
  intro d u hm
  rcases List.mem_cons.1 hm with e | e
  · cases e; exact hc
  · exact h d u e
theorem PC.find_ok {c : BE} : ∀ {pc : PC}, pc.Ok ρ → ∀ {v}, PC.find c pc = some v → c.den ρ = v
  | [], _, v, h => by simp [PC.find] at h
  | (d, u) :: r, hok, v, h => by
    simp only [PC.find] at h
    split at h
    · rename_i hs
      cases h
      rw [BE.same_eq _ _ hs]
      exact hok d u (List.mem_cons_self ..)
    · exact PC.find_ok (fun c v hm => hok c v (List.mem_cons_of_mem _ hm)) h
theorem maxO_le {l : Option Int} {x n : Int} (h1 : ∀ y, l = some y → y ≤ n) (h2 : x ≤ n) : ∀ y, maxO l x = some y → y ≤ n := by
  intro y hy
  cases l with
  | none => simp [maxO] at hy; omega
  | some z => have := h1 z rfl; simp [maxO] at hy; split at hy <;> omega
theorem minO_le {l : Option Int} {x n : Int} (h1 : ∀ y, l = some y → n ≤ y) (h2 : n ≤ x) : ∀ y, minO l x = some y → n ≤ y := by
  intro y hy
  cases l with
  | none => simp [minO] at hy; omega
  | some z => have := h1 z rfl; simp [minO] at hy; split at hy <;> omega
theorem PC.bnd_ok {e : IE} : ∀ {pc : PC} {l h : Option Int}, pc.Ok ρ → (∀ y, l = some y → y ≤ e.den ρ) → (∀ y, h = some y → e.den ρ ≤ y) →
    (∀ y, (PC.bnd e pc l h).1 = some y → y ≤ e.den ρ) ∧ (∀ y, (PC.bnd e pc l h).2 = some y → e.den ρ ≤ y)
  | [], l, h, _, hl, hh => ⟨hl, hh⟩
  | (c, v) :: r, l, h, hok, hl, hh => by
    have hc := hok c v (List.mem_cons_self ..)
    have hr : PC.Ok ρ r := fun c v hm => hok c v (List.mem_cons_of_mem _ hm)
    simp only [PC.bnd]
    split
    · split
      · rename_i hs
        rw [IE.same_eq _ _ hs] at hc
        simp only [BE.den, IE.den] at hc
        cases v
        · have hc := of_decide_eq_false hc
          exact PC.bnd_ok hr (maxO_le hl (by omega)) hh
        · have hc := of_decide_eq_true hc
          exact PC.bnd_ok hr hl (minO_le hh (by omega))
      · exact PC.bnd_ok hr hl hh
    · split
      · rename_i hs
        rw [IE.same_eq _ _ hs] at hc
        simp only [BE.den, IE.den] at hc
        cases v
        · have hc := of_decide_eq_false hc
          exact PC.bnd_ok hr hl (minO_le hh (by omega))
        · have hc := of_decide_eq_true hc
          exact PC.bnd_ok hr (maxO_le hl (by omega)) hh
      · exact PC.bnd_ok hr hl hh
    · split
      · rename_i hs
        rw [IE.same_eq _ _ hs] at hc
        simp only [BE.den, IE.den] at hc
        cases v
        · have hc := of_decide_eq_false hc
          exact PC.bnd_ok hr (maxO_le hl (by omega)) hh
        · have hc := of_decide_eq_true hc
          exact PC.bnd_ok hr hl (minO_le hh (by omega))
      · exact PC.bnd_ok hr hl hh
    · split
      · rename_i hs
        rw [IE.same_eq _ _ hs] at hc
        simp only [BE.den, IE.den] at hc
        cases v
        · have hc := of_decide_eq_false hc
          exact PC.bnd_ok hr hl (minO_le hh (by omega))
        · have hc := of_decide_eq_true hc
          exact PC.bnd_ok hr (maxO_le hl (by omega)) hh
      · exact PC.bnd_ok hr hl hh
    · split
      · rename_i hs
        simp only [Bool.and_eq_true] at hs
        rw [IE.same_eq _ _ hs.2, hs.1] at hc
        simp only [BE.den, IE.den, beq_iff_eq] at hc
        exact PC.bnd_ok hr (maxO_le hl (by omega)) (minO_le hh (by omega))
      · exact PC.bnd_ok hr hl hh
    · exact PC.bnd_ok hr hl hh
theorem mul_between {x l h c : Int} (h1 : l ≤ x) (h2 : x ≤ h) : minI (l * c) (h * c) ≤ x * c ∧ x * c ≤ maxI (l * c) (h * c) := by
  unfold minI maxI
  rcases Int.le_total 0 c with hc | hc
  · have a1 := Int.mul_le_mul_of_nonneg_right h1 hc
    have a2 := Int.mul_le_mul_of_nonneg_right h2 hc
    constructor <;> split <;> omega
  · have a1 := Int.mul_le_mul_of_nonpos_right h1 hc
    have a2 := Int.mul_le_mul_of_nonpos_right h2 hc
    constructor <;> split <;> omega
theorem tdiv_abs (x y : Int) : -x.natAbs ≤ x.tdiv y ∧ x.tdiv y ≤ x.natAbs := by
  have := Int.natAbs_tdiv_le_natAbs x y
  omega
theorem tmod_abs (x y : Int) : -x.natAbs ≤ x.tmod y ∧ x.tmod y ≤ x.natAbs := by
  have h : (x.tmod y).natAbs = x.natAbs % y.natAbs := by rw [Int.natAbs_tmod]
  have := Nat.mod_le x.natAbs y.natAbs
  omega
theorem PC.rng0_ok {pc : PC} (hok : pc.Ok ρ) : ∀ (e : IE) {l h : Int}, PC.rng0 pc e = some (l, h) → l ≤ e.den ρ ∧ e.den ρ ≤ h := by
  intro e
  induction e with
  | lit n => intro l h hh; simp [PC.rng0] at hh; simp [IE.den]; omega
  | «at» i =>
    intro l h hh
    simp only [PC.rng0] at hh
    split at hh
    · rename_i l' h' hb
      cases hh
      have := PC.bnd_ok (e := .at i) (l := none) (h := none) hok (fun _ h => by cases h) (fun _ h => by cases h)
      rw [hb] at this
      exact ⟨this.1 _ rfl, this.2 _ rfl⟩
    · cases hh
  | ap f a b =>
    intro l h hh
    simp only [PC.rng0] at hh
    split at hh
    · rename_i l' h' hb
      cases hh
      have := PC.bnd_ok (e := .ap f a b) (l := none) (h := none) hok (fun _ h => by cases h) (fun _ h => by cases h)
      rw [hb] at this
      exact ⟨this.1 _ rfl, this.2 _ rfl⟩
    · cases hh
  | fx f a b =>
    intro l h hh
    simp only [PC.rng0] at hh
    split at hh
    · rename_i l' h' hb
      cases hh
      have := PC.bnd_ok (e := .fx f a b) (l := none) (h := none) hok (fun _ h => by cases h) (fun _ h => by cases h)
      rw [hb] at this
      exact ⟨this.1 _ rfl, this.2 _ rfl⟩
    · cases hh
  | wr k a _ =>
    intro l h hh
    simp [PC.rng0] at hh
    obtain ⟨rfl, rfl⟩ := hh
    simp only [IE.den]
    cases k <;> simp [IntKind.wrap, IntKind.bits, IntKind.signed, IntKind.min, IntKind.max] <;> (try split) <;> omega
  | quo a b iha _ =>
    intro l h hh
    simp only [PC.rng0] at hh
    split at hh
    · rename_i m k hm
      cases hh
      have := iha hm
      have q := tdiv_abs (a.den ρ) (b.den ρ)
      simp only [IE.den, minI, maxI]
      constructor <;> (repeat' split) <;> omega
    · cases hh
  | rem a b iha _ =>
    intro l h hh
    simp only [PC.rng0] at hh
    split at hh
    · rename_i m k hm
      cases hh
      have := iha hm
      have q := tmod_abs (a.den ρ) (b.den ρ)
      simp only [IE.den, minI, maxI]
      constructor <;> (repeat' split) <;> omega
    · cases hh
  | mul a b iha ihb =>
    intro l h hh
    simp only [PC.rng0] at hh
    split at hh
    · rename_i l1 h1 l2 h2 e1 e2
      cases hh
      obtain ⟨a1, a2⟩ := iha e1
      obtain ⟨b1, b2⟩ := ihb e2
      simp only [IE.den]
      have q := mul_between (c := a.den ρ) b1 b2
      have q1 := mul_between (c := l2) a1 a2
      have q2 := mul_between (c := h2) a1 a2
      rw [Int.mul_comm l2, Int.mul_comm h2, Int.mul_comm (b.den ρ)] at q
      simp only [minI, maxI] at *
      constructor <;> (repeat' split) <;> (repeat' split at q) <;> (repeat' split at q1) <;> (repeat' split at q2) <;> omega
    · cases hh
  | add a b iha ihb =>
    intro l h hh
    simp only [PC.rng0] at hh
    split at hh
    · rename_i l1 h1 l2 h2 e1 e2; cases hh; have := iha e1; have := ihb e2; simp only [IE.den]; omega
    · cases hh
  | sub a b iha ihb =>
    intro l h hh
    simp only [PC.rng0] at hh
    split at hh
    · rename_i l1 h1 l2 h2 e1 e2; cases hh; have := iha e1; have := ihb e2; simp only [IE.den]; omega
    · cases hh
  | mn a b iha ihb =>
    intro l h hh
    simp only [PC.rng0] at hh
    split at hh
    · rename_i l1 h1 l2 h2 e1 e2
      cases hh; have := iha e1; have := ihb e2; simp only [IE.den, minI]
      constructor <;> (repeat' split) <;> omega
    · cases hh
  | mx a b iha ihb =>
    intro l h hh
    simp only [PC.rng0] at hh
    split at hh
    · rename_i l1 h1 l2 h2 e1 e2
      cases hh; have := iha e1; have := ihb e2; simp only [IE.den, maxI]
      constructor <;> (repeat' split) <;> omega
    · cases hh
theorem PC.rng_ok {pc : PC} (hok : pc.Ok ρ) (e : IE) : (∀ y, (PC.rng pc e).1 = some y → y ≤ e.den ρ) ∧ (∀ y, (PC.rng pc e).2 = some y → e.den ρ ≤ y) := by
  unfold PC.rng
  split
  · rename_i l h hr
    have := PC.rng0_ok hok e hr
    exact PC.bnd_ok hok (fun y hy => by cases hy; exact this.1) (fun y hy => by cases hy; exact this.2)
  · exact PC.bnd_ok hok (fun _ h => by cases h) (fun _ h => by cases h)
theorem wrap_fits (k : IntKind) (n : Int) (h1 : k.min ≤ n) (h2 : n ≤ k.max) : k.wrap n = n := by
  cases k <;> simp [IntKind.wrap, IntKind.bits, IntKind.signed, IntKind.min, IntKind.max] at * <;> (try split) <;> omega
theorem IE.wrapP_den {pc : PC} (hok : pc.Ok ρ) (k : IntKind) (e : IE) : (IE.wrapP pc k e).den ρ = k.wrap (e.den ρ) := by
  unfold IE.wrapP
  split
  · rfl
  split
  · rename_i l h hr
    split
    · rename_i hc
      simp only [Bool.and_eq_true, decide_eq_true_eq] at hc
      have := PC.rng_ok hok e
      rw [hr] at this
      have q1 := this.1 l rfl
      have q2 := this.2 h rfl
      exact (wrap_fits k _ (by omega) (by omega)).symm
    · exact IE.wrap_den ρ k e
  · exact IE.wrap_den ρ k e
theorem ltO_some {a b : Option Int} (h : ltO a b = true) : ∃ x y, a = some x ∧ b = some y ∧ x < y := by
  cases a <;> cases b <;> simp [ltO] at h
  exact ⟨_, _, rfl, rfl, h⟩
theorem leO_some {a b : Option Int} (h : leO a b = true) : ∃ x y, a = some x ∧ b = some y ∧ x ≤ y := by
  cases a <;> cases b <;> simp [leO] at h
  exact ⟨_, _, rfl, rfl, h⟩
theorem PC.decLt_ok {pc : PC} (hok : pc.Ok ρ) {a b : IE} {v : Bool} (h : PC.decLt pc a b = some v) : decide (a.den ρ < b.den ρ) = v := by
  unfold PC.decLt at h
  have qa := PC.rng_ok hok a
  have qb := PC.rng_ok hok b
  split at h
  · rename_i hc
    cases h
    obtain ⟨x, y, e1, e2, hlt⟩ := ltO_some hc
    have := qa.2 x e1
    have := qb.1 y e2
    simp; omega
  · split at h
    · rename_i hc
      cases h
      obtain ⟨x, y, e1, e2, hlt⟩ := leO_some hc
      have := qb.2 x e1
      have := qa.1 y e2
      simp; omega
    · cases h
theorem PC.dec0_ok {pc : PC} (hok : pc.Ok ρ) (b : BE) {v} (h : PC.dec0 pc b = some v) : b.den ρ = v := by
  cases b with
  | lit x => simp [PC.dec0] at h
  | not a => simp [PC.dec0] at h
  | and a b => simp [PC.dec0] at h
  | lt a b =>
    simp only [PC.dec0] at h
    split at h
    · rename_i e; cases h; exact PC.find_ok hok e
    · split at h
      · rename_i e; cases h; have := PC.find_ok hok e; simp [BE.den] at this ⊢; omega
      · split at h
        · rename_i e; cases h; have := PC.find_ok hok e; simp only [BE.den] at this ⊢; rw [← this]; by_cases hq : b.den ρ ≤ a.den ρ <;> simp [hq] <;> omega
        · split at h
          · rename_i e; cases h; have := PC.find_ok hok e; simp [BE.den] at this ⊢; omega
          · exact PC.decLt_ok hok h
  | le a b =>
    simp only [PC.dec0] at h
    split at h
    · rename_i e; cases h; exact PC.find_ok hok e
    · split at h
      · rename_i e; cases h; have := PC.find_ok hok e; simp only [BE.den] at this ⊢; rw [← this]; by_cases hq : b.den ρ < a.den ρ <;> simp [hq] <;> omega
      · split at h
        · rename_i e; cases h; have := PC.find_ok hok e; simp [BE.den] at this ⊢; omega
        · rw [Option.map_eq_some_iff] at h
          obtain ⟨u, hu, rfl⟩ := h
          have := PC.decLt_ok hok hu
          simp only [BE.den]
          rw [← this]
          by_cases hq : b.den ρ < a.den ρ <;> simp [hq] <;> omega
  | eq a b =>
    simp only [PC.dec0] at h
    split at h
    · rename_i e; cases h; exact PC.find_ok hok e
    · split at h
      · rename_i e; cases h; have := PC.find_ok hok e; simp [BE.den] at this ⊢; omega
      · rename_i e _; cases h; have := PC.find_ok hok e; simp [BE.den] at this ⊢; omega
      · rename_i e1 e2; cases h; have h1 := PC.find_ok hok e1; have h2 := PC.find_ok hok e2; simp [BE.den] at h1 h2 ⊢; omega
      · split at h
        · rename_i e; cases h; have := PC.decLt_ok hok e; simp [BE.den] at this ⊢; omega
        · rename_i e _; cases h; have := PC.decLt_ok hok e; simp [BE.den] at this ⊢; omega
        · rename_i e1 e2; cases h; have h1 := PC.decLt_ok hok e1; have h2 := PC.decLt_ok hok e2; simp [BE.den] at h1 h2 ⊢; omega
        · cases h
theorem PC.dec_ok {pc : PC} (hok : pc.Ok ρ) : ∀ (b : BE) {v}, PC.dec pc b = some v → b.den ρ = v := by
  intro b
  induction b with
  | lit x => intro v h; simp [PC.dec] at h; simp [BE.den, h]
  | not a ih =>
    intro v h
    simp only [PC.dec, Option.map_eq_some_iff] at h
    obtain ⟨u, hu, rfl⟩ := h
    simp [BE.den, ih hu]
  | and a b iha ihb =>
    intro v h
    simp only [PC.dec] at h
    split at h
    · rename_i e; cases h; simp [BE.den, iha e]
    · rename_i e; simp [BE.den, iha e, ihb h]
    · split at h
      · rename_i e; cases h; simp [BE.den, ihb e]
      · cases h
  | lt a b => intro v h; exact PC.dec0_ok hok _ h
  | le a b => intro v h; exact PC.dec0_ok hok _ h
  | eq a b => intro v h; exact PC.dec0_ok hok _ h

theorem T.bind_pick {α β : Type} (t : T α) (k : α → T β) : (t.bind k).pick ρ = (t.pick ρ).bind fun a => (k a).pick ρ := by
  induction t with
  | ret a => rfl
  | br c t e iht ihe =>
    show (T.br c (t.bind k) (e.bind k)).pick ρ = _
    simp only [T.pick]
    split <;> assumption
  | bad n => rfl
theorem T.bind_some {α β : Type} {t : T α} {k : α → T β} {b : β} (h : (t.bind k).pick ρ = some b) : ∃ a, t.pick ρ = some a ∧ (k a).pick ρ = some b := by
  rw [T.bind_pick] at h
  exact Option.bind_eq_some_iff.1 h
theorem T.ret_some {α : Type} {a b : α} (h : (T.ret a).pick ρ = some b) : a = b := by simpa [T.pick] using h
theorem T.bad_some {α : Type} {n : Nat} {b : α} (h : (T.bad n : T α).pick ρ = some b) : False := by simp [T.pick] at h
theorem T.condB_some {α : Type} {r : α} : ∀ (b : BE) {pc : PC} {k : PC → Bool → T α}, pc.Ok ρ → (T.condB b pc k).pick ρ = some r → ∃ pc', pc'.Ok ρ ∧ (k pc' (b.den ρ)).pick ρ = some r := by
  have leaf : ∀ (c : BE) {pc : PC} {k : PC → Bool → T α}, pc.Ok ρ → (match PC.dec0 pc c with | some v => k pc v | none => .br c (k ((c, true) :: pc) true) (k ((c, false) :: pc) false) : T α).pick ρ = some r →
      ∃ pc', pc'.Ok ρ ∧ (k pc' (c.den ρ)).pick ρ = some r := by
    intro c pc k hok h
    split at h
    · rename_i v e
      exact ⟨pc, hok, by rw [PC.dec0_ok hok c e]; exact h⟩
    · simp only [T.pick] at h
      by_cases hc : c.den ρ = true
      · simp only [hc, if_true] at h; exact ⟨_, hok.cons hc, by simpa [hc] using h⟩
      · simp only [hc] at h; exact ⟨_, hok.cons (by simpa using hc), by simpa [hc] using h⟩
  intro b
  induction b with
  | lit b => intro pc k hok h; exact ⟨pc, hok, h⟩
  | not c ih => intro pc k hok h; exact ih (k := fun pc v => k pc (!v)) hok h
  | and c d ihc ihd =>
    intro pc k hok h
    obtain ⟨pc1, h1, h2⟩ := ihc (k := fun pc v => if v then T.condB d pc k else k pc false) hok h
    cases hc : c.den ρ
    · rw [hc] at h2
      exact ⟨pc1, h1, by simpa [BE.den, hc] using h2⟩
    · rw [hc] at h2
      obtain ⟨pc2, h3, h4⟩ := ihd h1 h2
      exact ⟨pc2, h3, by simpa [BE.den, hc] using h4⟩
  | lt a b => intro pc k hok h; exact leaf (.lt a b) hok h
  | le a b => intro pc k hok h; exact leaf (.le a b) hok h
  | eq a b => intro pc k hok h; exact leaf (.eq a b) hok h
theorem T.cond_some {α : Type} {pc : PC} (hok : pc.Ok ρ) {b : BE} {k : PC → Bool → T α} {r : α} (h : (T.cond pc b k).pick ρ = some r) :
    ∃ pc', pc'.Ok ρ ∧ (k pc' (b.den ρ)).pick ρ = some r := by
  unfold T.cond at h
  split at h
  · exact ⟨pc, hok, h⟩
  · exact T.condB_some b hok h
end

section
variable (ρ : EnvS) (α : Nat → Pl)
abbrev dens (cs : List SCl) : List Value := cs.map (SCl.den ρ α)
theorem cst1_den {v : Value} {c : SCl} (h : cst1 v = some c) : c.den ρ α = v := by
  cases v <;> simp [cst1] at h <;> subst h <;> first | rfl | simp [SCl.den, IE.den, strB_codeB]
theorem cstL_den : ∀ {vs : List Value} {cs : List SCl}, cstL vs = some cs → dens ρ α cs = vs
  | [], cs, h => by simp [cstL] at h; subst h; rfl
  | v :: vs, cs, h => by
    simp only [cstL] at h
    split at h
    · rename_i c cs' h1 h2
      cases h
      simp [cst1_den ρ α h1]
      exact cstL_den h2
    · cases h
theorem cst_den {v : Value} {s : SV} (h : cst v = some s) : s.den ρ α = v := by
  unfold cst at h
  split at h
  · rename_i cs
    rw [Option.map_eq_some_iff] at h
    obtain ⟨l, hl, rfl⟩ := h
    simp [SV.den]
    exact cstL_den ρ α hl
  · cases h; rfl
  · rw [Option.map_eq_some_iff] at h
    obtain ⟨l, hl, rfl⟩ := h
    exact cst1_den ρ α hl
theorem one1_ok (v : Value) : (one1 v).oneCell' = true := by
  unfold one1
  split
  · assumption
  · rfl
theorem one1_cells (v : Value) : (one1 v).cells = #[one1 v] := by
  have := one1_ok v
  generalize one1 v = u at this
  cases u <;> first | rfl | (simp [Value.oneCell'] at this)
theorem cells_den {s : SV} {cs : List SCl} (h : s.cells = some cs) : (s.den ρ α).cells = (dens ρ α cs).toArray := by
  cases s with
  | one c =>
    simp only [SV.cells] at h
    split at h
    · rename_i hc
      cases h
      cases c with
      | raw v => cases v <;> first | rfl | (simp [SCl.cellOk, Value.oneCell'] at hc)
      | bls id n => simp only [SV.den, SCl.den, List.map_cons, List.map_nil]; split <;> first | rfl | exact one1_cells _
      | blc id _ _ _ n _ => simp only [SV.den, SCl.den, List.map_cons, List.map_nil]; split <;> first | rfl | exact one1_cells _
      | empB id => simp only [SV.den, SCl.den, List.map_cons, List.map_nil]; split <;> first | rfl | exact one1_cells _
      | opq i j c => simp [SV.den, SCl.den, one1_cells]
      | _ => rfl
    · cases h
  | agg c => simp [SV.cells] at h; subst h; rfl
  | tup _ => simp [SV.cells] at h
theorem cellOk_one {c : SCl} (h : c.cellOk = true) : (c.den ρ α).oneCell' = true := by
  cases c with
  | raw v => exact h
  | opq i j c => exact one1_ok _
  | bls id n => simp only [SCl.den]; split <;> first | rfl | exact one1_ok _
  | blc id _ _ _ n _ => simp only [SCl.den]; split <;> first | rfl | exact one1_ok _
  | empB id => simp only [SCl.den]; split <;> first | rfl | exact one1_ok _
  | _ => rfl

/-- Block b stands under its name. -/
def blkAt (w : World) (id : Nat) (b : Blk) : Prop :=
  ∃ tl : List Value, tl.length = (α id).ext * b.sz ∧ (b.sz = 0 → (α id).ext = 0) ∧ w.heap[(α id).blk]? = some (.cells (dens ρ α b.cs ++ tl).toArray b.elem (0, 0))
def lst : Nat → LoopState
  | 0 => .ready
  | 1 => .busy
  | _ => .done
/-- A loop's record stands under its name. -/
def ylAt (w : World) (id : Nat) (y : Yl) : Prop :=
  ∃ (fn : FuncId) (tmps : Array Value), tmps.size = y.nt ∧ (∀ t s, y.tm.get t = some s → tmps[t]? = some (s.den ρ α)) ∧ (α id).fn = .yield (α id).blk ∧ (α id).caps = #[] ∧
    w.heap[(α id).blk]? = some (.loop { state := lst y.st, pending := y.pend, fn := fn, tmps := tmps, params := y.ps.toArray, assign := y.asg, body := y.body, defers := (α y.dfr).blk })
/-- The values of element number j. -/
def upV (base : List Value) (j : Nat) : List (IE × List SCl) → List Value
  | [] => base
  | (e, vs) :: r => if e.den ρ = (j : Int) then dens ρ α vs else upV base j r
def valsB (b : LB) (j : Nat) : List Value := upV ρ α (dens ρ α (b.base (.lit j))) j b.ups
/-- A list of the call's own stands under its name. -/
structure lstAt (w : World) (id : Nat) (b : LB) : Prop where
  nn : 0 ≤ b.n.den ρ
  nil : (α id).isNil = true → b.n.den ρ = 0 ∧ ∃ A, (α id).emp = .slice A 0 0
  row : (α id).isNil = false → ∃ cs : List Value, w.heap[(α id).blk]? = some (.cells cs.toArray b.elem (0, 0)) ∧ cs.length = (α id).ext * b.ks.length ∧ b.n.den ρ ≤ (α id).ext ∧
    (∀ (j c : Nat) (v : Value), (j : Int) < b.n.den ρ → (valsB ρ α b j)[c]? = some v → cs[j * b.ks.length + c]? = some v) ∧ ∀ u ∈ cs, u.oneCell' = true
/-- An object stands under its name. -/
def obAt (w : World) (id : Nat) : Ob → Prop
  | .blk b => blkAt ρ α w id b
  | .lst b => lstAt ρ α w id b
  | .clo g caps => (α id).fn = .func g ∧ (α id).caps = (caps.map (S1.den ρ α)).toArray
  | .dfr => w.heap[(α id).blk]? = some (.deferred (some []))
  | .yld y => ylAt ρ α w id y

variable {P : Program} {ρ α}
theorem isAgg_run {t : TypeId} {b : Bool} (h : isAggT P t = some b) (w : World) : (isAgg t).run P w = .ok b w := by
  unfold isAggT at h
  unfold isAgg
  cases e : P.underlying t with
  | none => simp [e] at h
  | some d =>
    rw [Sem.run_bind, run_underlying e w]
    rw [e] at h
    cases d <;> (cases h; rfl)
theorem sizeOf_run' {t : TypeId} {n : Nat} (h : sizeT P t = some n) (w : World) : (sizeOf t).run P w = .ok n w := by
  unfold sizeT at h
  rw [Option.map_eq_some_iff] at h
  obtain ⟨i, hi, rfl⟩ := h
  simp [sizeOf, typeInfo, hi]
theorem zero_run {t : TypeId} {z : SV} (h : zeroT P t = some z) (w : World) : (zeroValue t).run P w = .ok (z.den ρ α) w := by
  unfold zeroT at h
  split at h
  · rename_i i hi
    split at h
    · rename_i v hv
      simp [zeroValue, typeInfo, hi, hv, cst_den ρ α h]
    · cases h
  · cases h
theorem partS_run {t : TypeId} {cs : List SCl} {off : Nat} {s : SV} (h : partS P t cs off = some s) (w : World) : (part t (dens ρ α cs).toArray off).run P w = .ok (s.den ρ α) w := by
  unfold partS at h
  split at h
  · rename_i n h1 h2
    split at h
    · rename_i hle
      cases h
      simp only [part, Sem.run_bind, isAgg_run h1, Result.andThen_ok, if_true, sizeOf_run' h2, Sem.run_pure, SV.den]
      have hle' : off + n ≤ cs.length := by simpa using hle
      congr 2
      simp [List.extract_toArray, List.map_take, List.map_drop, List.extract_eq_take_drop]
    · cases h
  · rename_i n h1 h2
    rw [Option.map_eq_some_iff] at h
    obtain ⟨c, hc, rfl⟩ := h
    have e : (dens ρ α cs).toArray[off]? = some (c.den ρ α) := by simp [hc]
    simp only [part, Sem.run_bind, isAgg_run h1, Result.andThen_ok, Bool.false_eq_true, if_false, e, Sem.run_pure, SV.den]
  · cases h
theorem cell_of_blk {w : World} {id : Nat} {b : Blk} (hb : blkAt ρ α w id b) {k : Nat} {v : Value} (hk : (dens ρ α b.cs)[k]? = some v) : w.cell? ⟨(α id).blk, k, none⟩ = some v := by
  obtain ⟨tl, _, _, hb⟩ := hb
  unfold World.cell?
  simp only [hb]
  have hlt : k < (dens ρ α b.cs).length := (List.getElem?_eq_some_iff.1 hk).1
  simp only [Option.isSome_none, Bool.false_eq_true, if_false, List.getElem?_toArray]
  rw [List.getElem?_append_left hlt]
  exact hk
theorem loadVar_cells {t : TypeId} {w : World} {blk base : Nat} {cs : List SCl} (hcell : ∀ k v, (dens ρ α cs)[k]? = some v → w.cell? ⟨blk, base + k, none⟩ = some v) {off : Nat} {s : SV} (h : partS P t cs off = some s) :
    (loadVar t ⟨blk, base + off, none⟩).run P w = .ok (s.den ρ α) w := by
  unfold partS at h
  split at h
  · rename_i n h1 h2
    split at h
    · rename_i hle
      cases h
      have hle' : off + n ≤ cs.length := by simpa using hle
      have hl : (loadCells ⟨blk, base + off, none⟩ n).run P w = .ok (((cs.drop off).take n).map (SCl.den ρ α)).toArray w := by
        have := run_loadCells_list (P := P) w ⟨blk, base + off, none⟩ (((cs.drop off).take n).map (SCl.den ρ α)) (fun j v hv => by
          rw [Addr.add_mid, Nat.add_assoc]
          refine hcell _ _ ?_
          simp only [List.map_take, List.map_drop, List.getElem?_take, List.getElem?_drop] at hv
          split at hv
          · exact hv
          · cases hv)
        have e : (((cs.drop off).take n).map (SCl.den ρ α)).length = n := by simp; omega
        rw [e] at this
        exact this
      simp only [loadVar, Sem.run_bind, isAgg_run h1, Result.andThen_ok, if_true, sizeOf_run' h2, hl, Sem.run_pure, SV.den]
    · cases h
  · rename_i n h1 h2
    rw [Option.map_eq_some_iff] at h
    obtain ⟨c, hc, rfl⟩ := h
    have e := hcell off (c.den ρ α) (by simp [hc])
    simp only [loadVar, Sem.run_bind, isAgg_run h1, Result.andThen_ok, Bool.false_eq_true, if_false]
    rw [run_load]
    simp [e, SV.den]
  · cases h
theorem loadVar_run {t : TypeId} {w : World} {id : Nat} {b : Blk} (hb : blkAt ρ α w id b) {off : Nat} {s : SV} (h : partS P t b.cs off = some s) :
    (loadVar t ⟨(α id).blk, off, none⟩).run P w = .ok (s.den ρ α) w := by
  have hcell : ∀ k v, (dens ρ α b.cs)[k]? = some v → w.cell? ⟨(α id).blk, k, none⟩ = some v := fun k v hk => cell_of_blk hb hk
  unfold partS at h
  split at h
  · rename_i n h1 h2
    split at h
    · rename_i hle
      cases h
      have hle' : off + n ≤ b.cs.length := by simpa using hle
      have hl : (loadCells ⟨(α id).blk, off, none⟩ n).run P w = .ok (((b.cs.drop off).take n).map (SCl.den ρ α)).toArray w := by
        have := run_loadCells_list (P := P) w ⟨(α id).blk, off, none⟩ (((b.cs.drop off).take n).map (SCl.den ρ α)) (fun j v hv => by
          rw [Addr.add_mid]
          refine hcell _ _ ?_
          simp only [List.map_take, List.map_drop, List.getElem?_take, List.getElem?_drop] at hv
          split at hv
          · exact hv
          · cases hv)
        have e : (((b.cs.drop off).take n).map (SCl.den ρ α)).length = n := by simp; omega
        rw [e] at this
        exact this
      simp only [loadVar, Sem.run_bind, isAgg_run h1, Result.andThen_ok, if_true, sizeOf_run' h2, hl, Sem.run_pure, SV.den]
    · cases h
  · rename_i n h1 h2
    rw [Option.map_eq_some_iff] at h
    obtain ⟨c, hc, rfl⟩ := h
    have e := hcell off (c.den ρ α) (by simp [hc])
    simp only [loadVar, Sem.run_bind, isAgg_run h1, Result.andThen_ok, Bool.false_eq_true, if_false]
    rw [run_load]
    simp [e, SV.den]
  · cases h
theorem putL_len {β : Type} {cs : List β} {off : Nat} {vs : List β} (h : off + vs.length ≤ cs.length) : (putL cs off vs).length = cs.length := by
  simp only [putL, List.length_append, List.length_take, List.length_drop]
  omega
theorem putL_tail {β : Type} {cs tl : List β} {off : Nat} {vs : List β} (h : off + vs.length ≤ cs.length) : (cs ++ tl).take off ++ vs ++ (cs ++ tl).drop (off + vs.length) = putL cs off vs ++ tl := by
  unfold putL
  rw [List.take_append_of_le_length (by omega), List.drop_append_of_le_length h]
  simp
theorem storeVar_run {t : TypeId} {w : World} {id : Nat} {b : Blk} {tl : List Value} (hb : w.heap[(α id).blk]? = some (.cells (dens ρ α b.cs ++ tl).toArray b.elem (0, 0))) {off n : Nat} {s : SV} {cs : List SCl} (hc : s.cells = some cs) (hn : sizeT P t = some n) (hl : cs.length = n)
    (hle : off + n ≤ b.cs.length) (h1 : cs.all SCl.cellOk = true) :
    (storeVar t ⟨(α id).blk, off, none⟩ (s.den ρ α)).run P w = .ok () (w.setRow (α id).blk (dens ρ α (putL b.cs off cs) ++ tl).toArray) := by
  have hcells := cells_den ρ α hc
  have hone : ∀ v ∈ dens ρ α cs, v.oneCell' = true := by
    intro v hv
    obtain ⟨c, hm, rfl⟩ := List.mem_map.1 hv
    exact cellOk_one ρ α (List.all_eq_true.1 h1 c hm)
  have hst := run_storeCells_at (P := P) (α id).blk off b.elem (dens ρ α cs) 0 (dens ρ α b.cs ++ tl).toArray w hb (by simp; omega) hone
  simp only [storeVar, Sem.run_bind, sizeOf_run' hn, Result.andThen_ok, hcells]
  have hsz : (dens ρ α cs).toArray.size = n := by simp [hl]
  rw [hsz]
  simp only [ne_eq, not_true_eq_false, if_false]
  rw [hst]
  congr 2
  have := putL_tail (cs := dens ρ α b.cs) (tl := tl) (off := off) (vs := dens ρ α cs) (by simp; omega)
  simp only [Nat.add_zero]
  rw [this]
  simp [putL, List.map_append, List.map_take, List.map_drop]
end
end Go.Proofs.Ytmpadjlplgajcaa
