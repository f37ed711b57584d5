/- The reference's Set and Count; the four lists of the law, one form for both sides. -/
import Derived.Test.YtekjhdpadddkpaaSpanYd
import Derived.Test.YtekjhdpadddkpaaSpanU
namespace Go.Proofs.Ytekjhdpadddkpaa
open Go.RowKit

def listN (k : Int) (xs ys : List (Int × Int)) (er : Int) : List (Int × Int) := if er = 0 then formN k xs ys else []
/-- A list of the function's own and an error. -/
def RetPair (w : World) (L : List (Int × Int)) (er : Int) (e : Ending) (w' : World) : Prop := ∃ v, e = .returned (.tuple #[v, .int .i64 er]) ∧ OwnI w' w.heap.size v L ∧ Below w.heap.size w w'
theorem form_unique {k : Int} {xs ys zs : List (Int × Int)} (hz : NF zs) (h : ∀ n, InI zs n ↔ kindB k (inAny xs n) (inAny ys n) = true) : zs = formN k xs ys :=
  NF.unique hz (form_of (k := k) (xs := xs) (ys := ys)).1 fun n => (h n).trans ((form_of (k := k) (xs := xs) (ys := ys)).2 n).symm
theorem RetSet.pair {w w' : World} {er k : Int} {xs ys : List (Int × Int)} {Q : List (Int × Int) → Prop} {e : Ending} (h : RetSet w er Q e w') (hq : ∀ zs, Q zs → zs = formN k xs ys) : RetPair w (listN k xs ys er) er e w' := by
  rcases h.2 with ⟨h1, rfl⟩ | ⟨h1, v, zs, rfl, hv, hz⟩
  · refine ⟨_, rfl, ?_, h.1⟩
    rw [listN, if_neg h1]
    exact World.ownsRow_nil _ _ _ _
  · obtain rfl := hq zs hz
    subst h1
    exact ⟨v, rfl, by rw [listN, if_pos rfl]; exact hv, h.1⟩
theorem union_pair {xs ys zs : List (Int × Int)} (h : NFof (xs ++ ys) zs) : zs = formN 1 xs ys :=
  form_unique h.1 fun n => by rw [h.2 n, InI_append, ← inAny_iff, ← inAny_iff]; cases inAny xs n <;> cases inAny ys n <;> simp [kindB]
theorem minus_pair {xs ys zs : List (Int × Int)} (h : LessOf xs ys zs) : zs = formN 2 xs ys :=
  form_unique h.1 fun n => by rw [h.2 n, ← inAny_iff, ← inAny_iff]; cases inAny xs n <;> cases inAny ys n <;> simp [kindB]
theorem common_pair {xs ys zs : List (Int × Int)} (h : CutOf xs ys zs) : zs = formN 3 xs ys :=
  form_unique h.1 fun n => by rw [h.2 n, ← inAny_iff, ← inAny_iff]; cases inAny xs n <;> cases inAny ys n <;> simp [kindB]

section
variable (A : Option Addr) (n c : Nat) (xs : List (Int × Int)) (A' : Option Addr) (n' c' : Nat) (ys : List (Int × Int)) (w : World)
theorem union_p (hx : RdI w w.heap.size A xs) (hn : Hid (n = xs.length)) (hy : RdI w w.heap.size A' ys) (hn' : Hid (n' = ys.length)) :
    Calls Try.prog 31 #[.slice A n c, .slice A' n' c'] w (RetPair w (listN 1 xs ys (err2 xs ys)) (err2 xs ys)) :=
  (union_any A n c xs A' n' c' ys w hx hn hy hn').mono fun _ _ h => h.pair fun _ => union_pair
theorem minus_p (hx : RdI w w.heap.size A xs) (hn : Hid (n = xs.length)) (hy : RdI w w.heap.size A' ys) (hn' : Hid (n' = ys.length)) :
    Calls Try.prog 32 #[.slice A n c, .slice A' n' c'] w (RetPair w (listN 2 xs ys (err2 xs ys)) (err2 xs ys)) :=
  (minus_any A n c xs A' n' c' ys w hx hn hy hn').mono fun _ _ h => h.pair fun _ hz => minus_pair hz.1
theorem common_p (hx : RdI w w.heap.size A xs) (hn : Hid (n = xs.length)) (hy : RdI w w.heap.size A' ys) (hn' : Hid (n' = ys.length)) :
    Calls Try.prog 33 #[.slice A n c, .slice A' n' c'] w (RetPair w (listN 3 xs ys (err2 xs ys)) (err2 xs ys)) :=
  (common2_any A n c xs A' n' c' ys w hx hn hy hn').mono fun _ _ h => h.pair fun _ hz => common_pair hz.1
theorem normalize_p (hx : RdI w w.heap.size A xs) (hn : Hid (n = xs.length)) :
    Calls Try.prog 30 #[.slice A n c] w (RetPair w (listN 1 xs [] (err1 xs)) (err1 xs)) := by
  by_cases he : err1 xs = 0
  · refine (normalize_ok A n c xs w hx hn he).mono ?_
    rintro e w' ⟨v, zs, rfl, hv, hz, hb⟩
    obtain rfl := union_pair (xs := xs) (ys := []) (zs := zs) (by simpa using hz)
    exact ⟨v, by rw [he], by rw [listN, if_pos he]; exact hv, hb⟩
  · refine (normalize_err A n c xs w hx hn he).mono ?_
    rintro e w' ⟨rfl, hb⟩
    exact ⟨_, rfl, by rw [listN, if_neg he]; exact World.ownsRow_nil _ _ _ _, hb⟩
end

set_option maxHeartbeats 800000 in
theorem count_err (A : Option Addr) (n c : Nat) (xs : List (Int × Int)) (w : World) (hx : RdI w w.heap.size A xs) (hn : Hid (n = xs.length)) (he : err1 xs ≠ 0) :
    Calls Try.prog 34 #[.slice A n c] w fun e w' => e = .returned (.tuple #[.int .i64 0, .int .i64 (err1 xs)]) ∧ Below w.heap.size w w' := by
  have hne : (err1 xs != 0) = true := by simpa using he
  have hne' : (err1 xs == 0) = false := by simpa using he
  clear he
  go_enter Try.func34, Try.ntmps34
  go_wp2_with fail
  refine (checkOne_any _ _ A n c xs _ ?_ ?_ hn).mono ?_
  · go_simp
  · exact (hx.below ((Below.refl _ _).alloc (Nat.le_refl _) _)).more (by simp)
  rintro e w1 ⟨rfl, hb1⟩
  go_wp2_with fail
  go_ret2
  exact ⟨rfl, ((Below.refl _ _).alloc (Nat.le_refl _) _).trans (hb1.mono (by simp))⟩
theorem count_p (A : Option Addr) (n c : Nat) (xs : List (Int × Int)) (w : World) (hx : RdI w w.heap.size A xs) (hn : Hid (n = xs.length)) :
    Calls Try.prog 34 #[.slice A n c] w fun e w' => e = .returned (.tuple #[.int .i64 (cntN (listN 1 xs [] (err1 xs))), .int .i64 (err1 xs)]) ∧ Below w.heap.size w w' := by
  by_cases he : err1 xs = 0
  · refine (count_ok A n c xs w hx hn he).mono ?_
    rintro e w' ⟨zs, rfl, hz, hb⟩
    obtain rfl := union_pair (xs := xs) (ys := []) (zs := zs) (by simpa using hz)
    exact ⟨by rw [listN, if_pos he, he], hb⟩
  · refine (count_err A n c xs w hx hn he).mono ?_
    rintro e w' ⟨rfl, hb⟩
    exact ⟨by rw [listN, if_neg he]; rfl, hb⟩

set_option maxHeartbeats 1600000 in
theorem rSet_p (A : Option Addr) (n c : Nat) (xs : List (Int × Int)) (A' : Option Addr) (n' c' : Nat) (ys : List (Int × Int)) (kd : Int) (w : World) (hx : RdI w w.heap.size A xs) (hn : Hid (n = xs.length)) (hy : RdI w w.heap.size A' ys) (hn' : Hid (n' = ys.length)) (hkd : kd = 1 ∨ kd = 2 ∨ kd = 3) :
    Calls Try.prog 35 #[.slice A n c, .slice A' n' c', .int .i64 kd] w (RetPair w (listN kd xs ys (err2 xs ys)) (err2 xs ys)) := by
  by_cases he : err2 xs ys = 0
  · obtain ⟨_, _, hv, hl, hl'⟩ := err2_ok he
    have HE := Lib.hid he
    clear he
    go_enter Try.func35, Try.ntmps35
    go_wp2_with fail
    refine (rLists_any A n c xs A' n' c' ys _ hx hn hy hn').mono ?_
    rintro e w1 ⟨rfl, hb1⟩
    rw [HE.out]
    go_wp2_with fail
    refine (rform_any A n c xs A' n' c' ys kd _ ((hx.below hb1).more hb1.size) hn ((hy.below hb1).more hb1.size) hn' hkd hv (by omega) (by omega)).mono ?_
    rintro e w2 ⟨v, zs, rfl, hv2, rfl, hb2⟩
    go_wp2_with fail
    go_ret2
    exact ⟨v, by rw [HE.out]; rfl, by rw [listN, if_pos HE.out]; exact own_base hv2 hb1.size, bthen hb1 hb2⟩
  · have hne : (err2 xs ys != 0) = true := by simpa using he
    have hne' : (err2 xs ys == 0) = false := by simpa using he
    have HE := Lib.hid he
    clear he
    go_enter Try.func35, Try.ntmps35
    go_wp2_with fail
    refine (rLists_any A n c xs A' n' c' ys _ hx hn hy hn').mono ?_
    rintro e w1 ⟨rfl, hb1⟩
    go_wp2_with fail
    go_ret2
    exact ⟨_, rfl, by rw [listN, if_neg HE.out]; exact World.ownsRow_nil _ _ _ _, hb1⟩

theorem listN_nf (k : Int) (xs ys : List (Int × Int)) (er : Int) : NF (listN k xs ys er) := by
  unfold listN
  split
  · exact (form_of (k := k) (xs := xs) (ys := ys)).1
  · exact NF.nil
theorem listN_valid (xs : List (Int × Int)) : ValidI (listN 1 xs [] (err1 xs)) := by
  unfold listN
  split
  · rename_i he
    have hf := form_of (k := 1) (xs := xs) (ys := [])
    refine NFof.bounds (xs := xs) ⟨hf.1, fun n => (hf.2 n).trans ?_⟩ (err1_valid he)
    rw [← inAny_iff]
    simp [kindB, inAny]
  · intro x hx; simp at hx

set_option maxHeartbeats 1600000 in
theorem rCount_p (A : Option Addr) (n c : Nat) (zs : List (Int × Int)) (w : World) (hx : RdI w w.heap.size A zs) (hn : Hid (n = zs.length)) (hnf : NF zs) (hzv : ValidI zs) (hlen : zs.length ≤ maxLen) :
    Calls Try.prog 37 #[.slice A n c] w fun e w' => e = .returned (.int .i64 (cntN zs)) ∧ Below w.heap.size w w' := by
  obtain rfl := hn.out
  clear hn
  unfold maxLen at hlen
  go_enter Try.func37, Try.ntmps37
  go_wp2
  go_loopw [3, 4] (fun s i wr => ∃ k : Nat, k ≤ zs.length ∧ i = .int .i64 k ∧ s = .int .i64 (cntN (zs.take k)) ∧ Below w.heap.size w wr) (fun _ i _ => zs.length - (intOf i).toNat)
  case atStart => exact ⟨0, Nat.zero_le _, rfl, rfl, Below.refl _ _⟩
  case round =>
    obtain ⟨k, hk, rfl, rfl, hb⟩ := hrel
    by_cases hlt : k < zs.length
    · obtain ⟨b, off, x, rfl, hB, hx', h1, h2⟩ := (hx.below hb) k hlt
      have hxb := hzv x (List.mem_of_getElem? hx')
      have hs := cntN_bd (zs.take k) (-1000000000000) 1000000000000 (hnf.take k) (fun z hz => by have := hzv z (List.mem_of_mem_take hz); omega)
      have HS : Hid (cntN (zs.take (k + 1)) = cntN (zs.take k) + (x.2 - x.1 + 1)) := Lib.hid (by rw [take_snocI hx', cntN_snoc])
      clear hx'
      generalize cntN (zs.take k) = S at hs HS ⊢
      have hki : (k : Int) < (zs.length : Int) := by omega
      have hk0 : (0 : Int) ≤ (k : Int) := by omega
      go_wp2
      go_quiet (fail)
      go_wp2
      go_roundw
      case rel => exact ⟨k + 1, by omega, by go_num, by rw [HS.out], below_drewN hb _⟩
      case measure => simp [intOf]; omega
    · have hk' : k = zs.length := by omega
      subst hk'
      have HT : Hid (cntN (zs.take zs.length) = cntN zs) := Lib.hid (by rw [List.take_length])
      go_wp2
      go_ret
      exact ⟨by rw [HT.out]; rfl, hb⟩
end Go.Proofs.Ytekjhdpadddkpaa
