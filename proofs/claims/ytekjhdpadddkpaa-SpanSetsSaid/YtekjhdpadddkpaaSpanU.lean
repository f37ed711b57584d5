/- Union, Minus, Common. -/
import Derived.Test.YtekjhdpadddkpaaSpanT
namespace Go.Proofs.Ytekjhdpadddkpaa
open Go.RowKit

theorem errLists_two (A : Option Addr) (c : Nat) (xs : List (Int × Int)) (A' : Option Addr) (c' : Nat) (ys : List (Int × Int)) : errLists [(A, c, xs), (A', c', ys)] = err2 xs ys := by
  simp [errLists, err2, longB]
theorem err2_ok {xs ys : List (Int × Int)} (h : err2 xs ys = 0) : err1 xs = 0 ∧ err1 ys = 0 ∧ ValidI (xs ++ ys) ∧ xs.length ≤ 10000 ∧ ys.length ≤ 10000 := by
  unfold err2 at h
  by_cases hl : 10000 < xs.length ∨ 10000 < ys.length
  · rw [if_pos hl] at h; omega
  · rw [if_neg hl] at h
    unfold errAll at h
    by_cases h2 : (xs ++ ys).all inR = true
    · rw [if_pos h2] at h
      by_cases h3 : (xs ++ ys).all leB = true
      · have hv : ValidI (xs ++ ys) := fun x hx => by
          have := (inR_iff x).1 (List.all_eq_true.1 h2 x hx)
          have := (leB_iff x).1 (List.all_eq_true.1 h3 x hx)
          omega
        rw [List.all_append, Bool.and_eq_true] at h2 h3
        refine ⟨?_, ?_, hv, by omega, by omega⟩
        · simp [err1, errAll, h2.1, h3.1]; omega
        · simp [err1, errAll, h2.2, h3.2]; omega
      · rw [if_neg h3] at h; omega
    · rw [if_neg h2] at h; omega
theorem ValidI.left {xs ys : List (Int × Int)} (h : ValidI (xs ++ ys)) : ValidI xs := fun x hx => h x (by simp [hx])
theorem ValidI.right {xs ys : List (Int × Int)} (h : ValidI (xs ++ ys)) : ValidI ys := fun x hx => h x (by simp [hx])

/-- A normal form is no longer than any list of its set. -/
theorem NFof.len {xs zs : List (Int × Int)} (h : NFof xs zs) (hv : ValidI xs) : zs.length ≤ xs.length := by
  have hp := List.mergeSort_perm xs (fun a b => decide (a.1 ≤ b.1))
  have hs := List.pairwise_mergeSort (le := fun a b : Int × Int => decide (a.1 ≤ b.1)) (fun a b c h1 h2 => by simp at *; omega) (fun a b => by simp; omega) xs
  generalize xs.mergeSort (fun a b => decide (a.1 ≤ b.1)) = ys at hp hs
  have hvy : ∀ y ∈ ys, -1000000000000 ≤ y.1 ∧ y.1 ≤ y.2 ∧ y.2 ≤ 1000000000000 := fun y hy => hv y (hp.mem_iff.1 hy)
  have hj := mrg_joined ys (fun y hy => (hvy y hy).2.1) (hs.imp fun h => by simpa using h) 1000000000000 (fun y hy => by have := hvy y hy; omega)
  have : zs = mrg ys := NF.unique h.1 hj.nf fun n => by rw [h.2 n, hj.same n, InI_perm hp]
  rw [this, ← hp.length_eq]
  exact mrg_len ys
theorem OwnI.form {w : World} {base : Nat} {v : Value} {xs : List (Int × Int)} (h : OwnI w base v xs) : ∃ A c, v = .slice A xs.length c ∧ xs.length ≤ c ∧ c ≤ maxLen ∧ RdI w w.heap.size A xs := by
  obtain ⟨A, c, hv, hr⟩ := h.rd
  refine ⟨A, c, hv, ?_, ?_, hr⟩
  · rcases h.2 with ⟨h1, h2⟩ | ⟨g, cap, cur, h1, _, _, h2, h3, _⟩
    · rw [h2]; omega
    · rw [hv] at h1; cases h1; exact h2
  · rcases h.2 with ⟨h1, h2⟩ | ⟨g, cap, cur, h1, _, _, h2, h3, _⟩
    · rw [hv] at h1; injection h1 with _ _ h1; rw [h1]; exact Nat.zero_le _
    · rw [hv] at h1; cases h1; exact h3

theorem RdL.two {w : World} {g : Nat} {A : Option Addr} {c : Nat} {xs : List (Int × Int)} {A' : Option Addr} {c' : Nat} {ys : List (Int × Int)} (h : w.cell? ⟨g, 0, none⟩ = some (.slice A xs.length c)) (hx : RdI w w.heap.size A xs)
    (h' : w.cell? ⟨g, 1, none⟩ = some (.slice A' ys.length c')) (hy : RdI w w.heap.size A' ys) : RdL w w.heap.size g [(A, c, xs), (A', c', ys)] := by
  intro i p hp
  match i, hp with
  | 0, hp => simp at hp; subst hp; exact ⟨h, hx⟩
  | 1, hp => simp at hp; subst hp; exact ⟨h', hy⟩
  | i + 2, hp => simp at hp

theorem checkTwo_any (g c : Nat) (A : Option Addr) (n k : Nat) (xs : List (Int × Int)) (A' : Option Addr) (n' k' : Nat) (ys : List (Int × Int)) (w : World) (hc : w.cell? ⟨g, 0, none⟩ = some (.slice A n k)) (hc' : w.cell? ⟨g, 1, none⟩ = some (.slice A' n' k'))
    (hx : RdI w w.heap.size A xs) (hn : Hid (n = xs.length)) (hy : RdI w w.heap.size A' ys) (hn' : Hid (n' = ys.length)) :
    Calls Try.prog 45 #[.slice (some ⟨g, 0, none⟩) 2 c] w fun e w' => e = .returned (.int .i64 (err2 xs ys)) ∧ Below w.heap.size w w' := by
  obtain rfl := hn.out
  obtain rfl := hn'.out
  have := checkLists_any g c [(A, k, xs), (A', k', ys)] w (lt_of_cell hc) (RdL.two hc hx hc' hy) (by simp)
  rw [errLists_two] at this
  exact this

theorem concatTwo_any (g c : Nat) (A : Option Addr) (n k : Nat) (xs : List (Int × Int)) (A' : Option Addr) (n' k' : Nat) (ys : List (Int × Int)) (w : World) (hc : w.cell? ⟨g, 0, none⟩ = some (.slice A n k)) (hc' : w.cell? ⟨g, 1, none⟩ = some (.slice A' n' k'))
    (hx : RdI w w.heap.size A xs) (hn : Hid (n = xs.length)) (hy : RdI w w.heap.size A' ys) (hn' : Hid (n' = ys.length)) (hl : xs.length + ys.length ≤ 1099511627776) :
    Calls Try.prog 47 #[.slice (some ⟨g, 0, none⟩) 2 c] w (RetOwn w fun zs => zs = xs ++ ys) := by
  obtain rfl := hn.out
  obtain rfl := hn'.out
  have := concat_any g c [(A, k, xs), (A', k', ys)] w (lt_of_cell hc) (RdL.two hc hx hc' hy) (by simp) (by simpa using hl)
  refine this.mono fun e w' ⟨v, he, hv, hb⟩ => ⟨v, _, he, hv, by simp, hb⟩

/-- What the three functions hand back: an error and nothing; or a list of their own, of which Q holds. -/
def RetSet (w : World) (err : Int) (Q : List (Int × Int) → Prop) (e : Ending) (w' : World) : Prop :=
  Below w.heap.size w w' ∧ ((err ≠ 0 ∧ e = .returned (.tuple #[.slice none 0 0, .int .i64 err])) ∨ (err = 0 ∧ ∃ v zs, e = .returned (.tuple #[v, .int .i64 0]) ∧ OwnI w' w.heap.size v zs ∧ Q zs))

set_option maxHeartbeats 1600000 in
theorem union_any (A : Option Addr) (n c : Nat) (xs : List (Int × Int)) (A' : Option Addr) (n' c' : Nat) (ys : List (Int × Int)) (w : World) (hx : RdI w w.heap.size A xs) (hn : Hid (n = xs.length)) (hy : RdI w w.heap.size A' ys) (hn' : Hid (n' = ys.length)) :
    Calls Try.prog 31 #[.slice A n c, .slice A' n' c'] w (RetSet w (err2 xs ys) (NFof (xs ++ ys))) := by
  have ha : ∀ o, Below w.heap.size w (w.alloc o) := fun o => bnew (Below.refl _ _) o
  by_cases he : err2 xs ys = 0
  · obtain ⟨_, _, hv, hl, hl'⟩ := err2_ok he
    have HE := Lib.hid he
    clear he
    go_enter Try.func31, Try.ntmps31
    go_wp2_with fail
    refine (checkTwo_any _ _ A n c xs A' n' c' ys _ ?_ ?_ ?_ hn ?_ hn').mono ?_
    · go_simp
    · go_simp
    · exact (hx.below (ha _)).more (ha _).size
    · exact (hy.below (ha _)).more (ha _).size
    rintro e w1 ⟨rfl, hb1⟩
    rw [HE.out]
    have hb1' := bthen (ha _) hb1
    have hx1 := (hx.below hb1').more hb1'.size
    have hy1 := (hy.below hb1').more hb1'.size
    have hc1 : ∀ o, Below w1.heap.size w1 (w1.alloc o) := fun o => bnew (Below.refl _ _) o
    go_wp2_with fail
    refine (concatTwo_any _ _ A n c xs A' n' c' ys _ ?_ ?_ ?_ hn ?_ hn' (by omega)).mono ?_
    · go_simp
    · go_simp
    · exact (hx1.below (hc1 _)).more (hc1 _).size
    · exact (hy1.below (hc1 _)).more (hc1 _).size
    rintro e w2 ⟨v, zs, rfl, hv2, hzs, hb2⟩
    have hb2' := bthen (bnew hb1' _) hb2
    obtain ⟨A2, c2, rfl, hr2⟩ := hv2.rd
    have HZ := Lib.hid hzs
    have hlz : zs.length ≤ 20000 := by rw [hzs, List.length_append]; omega
    have hvz : ValidI zs := by rw [hzs]; exact hv
    clear hzs
    go_wp2_with fail
    refine (normal_any A2 _ c2 zs _ hr2 (Lib.hid rfl) hvz (by omega)).mono ?_
    rintro e w3 ⟨v3, us, rfl, hv3, hnf, hb3⟩
    go_wp2_with fail
    go_ret2
    exact ⟨bthen hb2' hb3, .inr ⟨HE.out, _, us, rfl, own_base hv3 hb2'.size, by rw [← HZ.out]; exact hnf⟩⟩
  · have hne : (err2 xs ys != 0) = true := by simpa using he
    have hne' : (err2 xs ys == 0) = false := by simpa using he
    have HE : Hid (err2 xs ys ≠ 0) := Lib.hid he
    clear he
    go_enter Try.func31, Try.ntmps31
    go_wp2_with fail
    refine (checkTwo_any _ _ A n c xs A' n' c' ys _ ?_ ?_ ?_ hn ?_ hn').mono ?_
    · go_simp
    · go_simp
    · exact (hx.below (ha _)).more (ha _).size
    · exact (hy.below (ha _)).more (ha _).size
    rintro e w1 ⟨rfl, hb1⟩
    go_wp2_with fail
    go_ret2
    exact ⟨bthen (ha _) hb1, .inl ⟨HE.out, rfl⟩⟩

/-- zs is the normal form of the numbers of xs that are not in ys. -/
def LessOf (xs ys zs : List (Int × Int)) : Prop := NF zs ∧ ∀ n, InI zs n ↔ InI xs n ∧ ¬ InI ys n
theorem LessOf.of {xs ys a b g zs : List (Int × Int)} (hv : ValidI xs) (h1 : NFof xs a) (h2 : NFof ys b) (h3 : GapsOf b g) (h4 : CutOf a g zs) : LessOf xs ys zs := by
  refine ⟨h4.1, fun n => ?_⟩
  rw [h4.2 n, h1.2 n, h3.2.2 n, h2.2 n]
  constructor
  · rintro ⟨a, _, _, b⟩; exact ⟨a, b⟩
  · rintro ⟨⟨x, hx, hn⟩, b⟩
    have := hv x hx
    exact ⟨⟨x, hx, hn⟩, by omega, by omega, b⟩
theorem CutOf.of {xs ys a b zs : List (Int × Int)} (h1 : NFof xs a) (h2 : NFof ys b) (h4 : CutOf a b zs) : CutOf xs ys zs :=
  ⟨h4.1, fun n => by rw [h4.2 n, h1.2 n, h2.2 n]⟩

set_option maxHeartbeats 1600000 in
theorem common2_any (A : Option Addr) (n c : Nat) (xs : List (Int × Int)) (A' : Option Addr) (n' c' : Nat) (ys : List (Int × Int)) (w : World) (hx : RdI w w.heap.size A xs) (hn : Hid (n = xs.length)) (hy : RdI w w.heap.size A' ys) (hn' : Hid (n' = ys.length)) :
    Calls Try.prog 33 #[.slice A n c, .slice A' n' c'] w (RetSet w (err2 xs ys) fun zs => CutOf xs ys zs ∧ zs.length ≤ xs.length + ys.length) := by
  have ha : ∀ o, Below w.heap.size w (w.alloc o) := fun o => bnew (Below.refl _ _) o
  by_cases he : err2 xs ys = 0
  · obtain ⟨_, _, hv, hl, hl'⟩ := err2_ok he
    have HE := Lib.hid he
    clear he
    go_enter Try.func33, Try.ntmps33
    go_wp2_with fail
    refine (checkTwo_any _ _ A n c xs A' n' c' ys _ ?_ ?_ ?_ hn ?_ hn').mono ?_
    · go_simp
    · go_simp
    · exact (hx.below (ha _)).more (ha _).size
    · exact (hy.below (ha _)).more (ha _).size
    rintro e w1 ⟨rfl, hb1⟩
    rw [HE.out]
    have hb1' := bthen (ha _) hb1
    have hx1 := (hx.below hb1').more hb1'.size
    go_wp2_with fail
    refine (normal_any A n c xs _ hx1 hn hv.left (by omega)).mono ?_
    rintro e w2 ⟨v2, a, rfl, hv2, hna, hb2⟩
    have hb2' := bthen hb1' hb2
    have hy2 := (hy.below hb2').more hb2'.size
    obtain ⟨P1, k1, rfl, q1, q2, hr1⟩ := hv2.form
    go_wp2_with fail
    refine (normal_any A' n' c' ys _ hy2 hn' hv.right (by omega)).mono ?_
    rintro e w3 ⟨v3, b, rfl, hv3, hnb, hb3⟩
    have hb3' := bthen hb2' hb3
    obtain ⟨P2, k2, rfl, q3, q4, hr2⟩ := hv3.form
    have hr1' := (hr1.below hb3).more hb3.size
    have hla := hna.len hv.left
    have hlb := hnb.len hv.right
    go_wp2_with fail
    refine (common_any P1 a.length k1 a P2 b.length k2 b _ hr1' (Lib.hid rfl) q1 hr2 (Lib.hid rfl) q3 hna.1 hnb.1 (by omega) q2 q4).mono ?_
    rintro e w4 ⟨v4, zs, rfl, hv4, ⟨hcut, hzl⟩, hb4⟩
    go_wp2_with fail
    go_ret2
    exact ⟨bthen hb3' hb4, .inr ⟨HE.out, _, zs, rfl, own_base hv4 hb3'.size, CutOf.of hna hnb hcut, by omega⟩⟩
  · have hne : (err2 xs ys != 0) = true := by simpa using he
    have hne' : (err2 xs ys == 0) = false := by simpa using he
    have HE : Hid (err2 xs ys ≠ 0) := Lib.hid he
    clear he
    go_enter Try.func33, Try.ntmps33
    go_wp2_with fail
    refine (checkTwo_any _ _ A n c xs A' n' c' ys _ ?_ ?_ ?_ hn ?_ hn').mono ?_
    · go_simp
    · go_simp
    · exact (hx.below (ha _)).more (ha _).size
    · exact (hy.below (ha _)).more (ha _).size
    rintro e w1 ⟨rfl, hb1⟩
    go_wp2_with fail
    go_ret2
    exact ⟨bthen (ha _) hb1, .inl ⟨HE.out, rfl⟩⟩

set_option maxHeartbeats 1600000 in
theorem minus_any (A : Option Addr) (n c : Nat) (xs : List (Int × Int)) (A' : Option Addr) (n' c' : Nat) (ys : List (Int × Int)) (w : World) (hx : RdI w w.heap.size A xs) (hn : Hid (n = xs.length)) (hy : RdI w w.heap.size A' ys) (hn' : Hid (n' = ys.length)) :
    Calls Try.prog 32 #[.slice A n c, .slice A' n' c'] w (RetSet w (err2 xs ys) fun zs => LessOf xs ys zs ∧ zs.length ≤ xs.length + ys.length + 1) := by
  have ha : ∀ o, Below w.heap.size w (w.alloc o) := fun o => bnew (Below.refl _ _) o
  by_cases he : err2 xs ys = 0
  · obtain ⟨_, _, hv, hl, hl'⟩ := err2_ok he
    have HE := Lib.hid he
    clear he
    go_enter Try.func32, Try.ntmps32
    go_wp2_with fail
    refine (checkTwo_any _ _ A n c xs A' n' c' ys _ ?_ ?_ ?_ hn ?_ hn').mono ?_
    · go_simp
    · go_simp
    · exact (hx.below (ha _)).more (ha _).size
    · exact (hy.below (ha _)).more (ha _).size
    rintro e w1 ⟨rfl, hb1⟩
    rw [HE.out]
    have hb1' := bthen (ha _) hb1
    have hx1 := (hx.below hb1').more hb1'.size
    go_wp2_with fail
    refine (normal_any A n c xs _ hx1 hn hv.left (by omega)).mono ?_
    rintro e w2 ⟨v2, a, rfl, hv2, hna, hb2⟩
    have hb2' := bthen hb1' hb2
    have hy2 := (hy.below hb2').more hb2'.size
    obtain ⟨P1, k1, rfl, q1, q2, hr1⟩ := hv2.form
    go_wp2_with fail
    refine (normal_any A' n' c' ys _ hy2 hn' hv.right (by omega)).mono ?_
    rintro e w3 ⟨v3, b, rfl, hv3, hnb, hb3⟩
    have hb3' := bthen hb2' hb3
    obtain ⟨P2, k2, rfl, q3, q4, hr2⟩ := hv3.form
    have hr1' := (hr1.below hb3).more hb3.size
    have hla := hna.len hv.left
    have hlb := hnb.len hv.right
    go_wp2_with fail
    refine (gaps_any P2 b.length k2 b _ hr2 (Lib.hid rfl) hnb.1 (hnb.bounds hv.right) (by omega)).mono ?_
    rintro e w4 ⟨v4, g, rfl, hv4, ⟨hgap, hgl⟩, hb4⟩
    have hb4' := bthen hb3' hb4
    obtain ⟨P3, k3, rfl, q5, q6, hr3⟩ := hv4.form
    have hr1' := (hr1'.below hb4).more hb4.size
    go_wp2_with fail
    refine (common_any P1 a.length k1 a P3 g.length k3 g _ hr1' (Lib.hid rfl) q1 hr3 (Lib.hid rfl) q5 hna.1 hgap.1 (by omega) q2 q6).mono ?_
    rintro e w5 ⟨v5, zs, rfl, hv5, ⟨hcut, hzl⟩, hb5⟩
    go_wp2_with fail
    go_ret2
    exact ⟨bthen hb4' hb5, .inr ⟨HE.out, _, zs, rfl, own_base hv5 hb4'.size, LessOf.of hv.left hna hnb hgap hcut, by omega⟩⟩
  · have hne : (err2 xs ys != 0) = true := by simpa using he
    have hne' : (err2 xs ys == 0) = false := by simpa using he
    have HE : Hid (err2 xs ys ≠ 0) := Lib.hid he
    clear he
    go_enter Try.func32, Try.ntmps32
    go_wp2_with fail
    refine (checkTwo_any _ _ A n c xs A' n' c' ys _ ?_ ?_ ?_ hn ?_ hn').mono ?_
    · go_simp
    · go_simp
    · exact (hx.below (ha _)).more (ha _).size
    · exact (hy.below (ha _)).more (ha _).size
    rintro e w1 ⟨rfl, hb1⟩
    go_wp2_with fail
    go_ret2
    exact ⟨bthen (ha _) hb1, .inl ⟨HE.out, rfl⟩⟩
end Go.Proofs.Ytekjhdpadddkpaa
