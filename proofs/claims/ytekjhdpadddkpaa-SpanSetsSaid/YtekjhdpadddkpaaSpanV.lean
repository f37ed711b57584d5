/- The reference's In; the statements' normal; the walk of SpanMembers. -/
import Derived.Test.YtekjhdpadddkpaaSpanU
import Derived.Test.YtekjhdpadddkpaaSpanN
namespace Go.Proofs.Ytekjhdpadddkpaa
open Go.RowKit

def inAny (xs : List (Int × Int)) (n : Int) : Bool := xs.any fun x => inB x n
theorem inAny_iff (xs : List (Int × Int)) (n : Int) : inAny xs n = true ↔ InI xs n := by
  simp only [inAny, List.any_eq_true, InI, inB, Bool.and_eq_true, decide_eq_true_eq]

set_option maxHeartbeats 800000 in
theorem rIn_any (A : Option Addr) (n c : Nat) (xs : List (Int × Int)) (m : Int) (w : World) (hx : RdI w w.heap.size A xs) (hn : Hid (n = xs.length)) (hlen : xs.length ≤ maxLen) :
    Calls Try.prog 38 #[.slice A n c, .int .i64 m] w fun e w' => e = .returned (.bool (inAny xs m)) ∧ Below w.heap.size w w' := by
  obtain rfl := hn.out
  clear hn
  unfold maxLen at hlen
  go_enter Try.func38, Try.ntmps38
  go_wp2
  go_loopw [5] (fun i wr => ∃ k : Nat, k ≤ xs.length ∧ i = .int .i64 k ∧ Upto (fun x => !inB x m) xs k ∧ Below w.heap.size w wr) (fun i _ => xs.length - (intOf i).toNat)
  case atStart => exact ⟨0, Nat.zero_le _, rfl, Upto.zero _ _, Below.refl _ _⟩
  case round =>
    obtain ⟨k, hk, rfl, hu, hb⟩ := hrel
    by_cases hlt : k < xs.length
    · obtain ⟨b, off, x, rfl, hB, hx', h1, h2⟩ := (hx.below hb) k hlt
      have hcon := fun w => rContains_any x m w
      have HX := Lib.hid hx'
      clear hx'
      rcases hin : inB x m with _ | _
      · have HI : Hid ((!inB x m) = true) := Lib.hid (by simp [hin])
        rw [hin] at hcon
        have HC := Lib.hid hcon
        clear hin hcon
        go_wp2_with (go_at_call 14; refine (HC.out _).mono ?_; rintro e w' ⟨rfl, hb2⟩)
        go_roundw
        case rel => exact ⟨k + 1, by omega, by go_num, hu.succ HX HI, bthen hb hb2⟩
        case measure => simp [intOf]; omega
      · have HI : Hid (inAny xs m = true) := Lib.hid (by
          rw [inAny, List.any_eq_true]
          exact ⟨x, List.mem_of_getElem? HX.out, hin⟩)
        rw [hin] at hcon
        have HC := Lib.hid hcon
        clear hin hcon
        go_wp2_with (go_at_call 14; refine (HC.out _).mono ?_; rintro e w' ⟨rfl, hb2⟩)
        go_ret
        exact ⟨ret_bool HI.out.symm, bthen hb hb2⟩
    · have HI : Hid (inAny xs m = false) := Lib.hid (by
        have h := hu.all (by omega)
        rw [inAny, List.any_eq_false]
        intro x hx
        have := List.all_eq_true.1 h x hx
        simpa using this)
      clear hu
      go_wp2
      go_ret
      exact ⟨ret_bool HI.out.symm, hb⟩

set_option maxHeartbeats 1600000 in
theorem lawNormal_any (A : Option Addr) (n c : Nat) (xs : List (Int × Int)) (w : World) (hx : RdI w w.heap.size A xs) (hn : Hid (n = xs.length)) (hnf : NF xs) (hv : ValidI xs) (hlen : xs.length ≤ maxLen) :
    Calls Try.prog 39 #[.slice A n c] w fun e w' => e = .returned (.bool true) ∧ Below w.heap.size w w' := by
  obtain rfl := hn.out
  clear hn
  unfold maxLen at hlen
  go_enter Try.func39, Try.ntmps39
  go_wp2
  go_loopw [3] (fun i wr => ∃ k : Nat, k ≤ xs.length ∧ i = .int .i64 k ∧ Below w.heap.size w wr) (fun i _ => xs.length - (intOf i).toNat)
  case atStart => exact ⟨0, Nat.zero_le _, rfl, Below.refl _ _⟩
  case round =>
    obtain ⟨k, hk, rfl, hb⟩ := hrel
    by_cases hlt : k < xs.length
    · obtain ⟨b, off, x, rfl, hB, hx', h1, h2⟩ := (hx.below hb) k hlt
      have hxv := hnf.valid x (List.mem_of_getElem? hx')
      have hle : ¬ x.2 < x.1 := by omega
      have hkx : (k : Int) < (xs.length : Int) := by omega
      have hd1 : decide (x.2 < x.1) = false := by simp; omega
      rcases k with _ | k
      · clear hx'
        simp only [Nat.zero_mul, Nat.add_zero] at h1 h2
        go_wp2
        go_quiet (fail)
        go_wp2
        go_roundw
        case rel => exact ⟨1, by omega, by go_num, below_drewN hb _⟩
        case measure => simp [intOf]; omega
      · have hk' : k < xs.length := by omega
        obtain ⟨b', off', y, hA, hB', hy', h1', h2'⟩ := (hx.below hb) k hk'
        cases hA
        have hap : y.2 + 2 ≤ x.1 := by
          have := List.pairwise_iff_getElem.1 hnf.apart k (k + 1) hk' hlt (by omega)
          obtain ⟨_, e1⟩ := List.getElem?_eq_some_iff.1 hx'
          obtain ⟨_, e2⟩ := List.getElem?_eq_some_iff.1 hy'
          rw [e1, e2] at this
          exact this
        have hyv := hv y (List.mem_of_getElem? hy')
        clear hx' hy'
        have hd2 : decide (x.1 < y.2 + 2) = false := by simp; omega
        have hd3 : (0 : Int) < (k : Int) + 1 := by omega
        have hd4 : (k : Int) < (xs.length : Int) := by omega
        go_wp2
        go_quiet (fail)
        go_wp2
        go_roundw
        case rel => exact ⟨k + 1 + 1, by omega, by go_num, below_drewN hb _⟩
        case measure => simp [intOf]; omega
    · go_wp2
      go_ret
      exact ⟨rfl, hb⟩

theorem RetSet.ok {w : World} {err : Int} {Q : List (Int × Int) → Prop} {e : Ending} {w' : World} (h : RetSet w err Q e w') (he : err = 0) : ∃ v zs, e = .returned (.tuple #[v, .int .i64 0]) ∧ OwnI w' w.heap.size v zs ∧ Q zs ∧ Below w.heap.size w w' := by
  obtain ⟨hb, ⟨h1, _⟩ | ⟨_, v, zs, h1, h2, h3⟩⟩ := h
  · exact absurd he h1
  · exact ⟨v, zs, h1, h2, h3, hb⟩
theorem RetSet.bad {w : World} {err : Int} {Q : List (Int × Int) → Prop} {e : Ending} {w' : World} (h : RetSet w err Q e w') (he : err ≠ 0) : e = .returned (.tuple #[.slice none 0 0, .int .i64 err]) ∧ Below w.heap.size w w' := by
  obtain ⟨hb, ⟨_, h1⟩ | ⟨h1, _⟩⟩ := h
  · exact ⟨h1, hb⟩
  · exact absurd h1 he

theorem boolIff {a b : Bool} (h : a = true ↔ b = true) : a = b := by cases a <;> cases b <;> simp_all

set_option maxHeartbeats 4000000 in
theorem members_walk (A : Option Addr) (n c : Nat) (xs : List (Int × Int)) (A' : Option Addr) (n' c' : Nat) (ys : List (Int × Int)) (m : Int) (w : World) (hn : Hid (n = xs.length)) (hl : xs.length ≤ maxLen) (hx : RdI w w.heap.size A xs)
    (hn' : Hid (n' = ys.length)) (hl' : ys.length ≤ maxLen) (hy : RdI w w.heap.size A' ys) :
    Calls Try.prog 8 #[.slice A n c, .slice A' n' c', .int .i64 m] w fun e w' => e = .returned (.bool true) ∧ Below w.heap.size w w' := by
  obtain rfl := hn.out
  obtain rfl := hn'.out
  have hm := hl
  have hm' := hl'
  unfold maxLen at hl hl'
  by_cases h30 : 30 < xs.length
  · have h30' : (30 : Int) < (xs.length : Int) := by omega
    go_enter Try.func8, Try.ntmps8
    go_wp2_with fail
    refine (awake_any _).mono ?_
    rintro e w1 ⟨rfl, hb1⟩
    go_wp2
    go_ret
    exact ⟨rfl, hb1⟩
  · have h30' : ¬ (30 : Int) < (xs.length : Int) := by omega
    by_cases h31 : 30 < ys.length
    · have h31' : (30 : Int) < (ys.length : Int) := by omega
      go_enter Try.func8, Try.ntmps8
      go_wp2_with fail
      refine (awake_any _).mono ?_
      rintro e w1 ⟨rfl, hb1⟩
      go_wp2
      go_ret
      exact ⟨rfl, hb1⟩
    · have h31' : ¬ (30 : Int) < (ys.length : Int) := by omega
      by_cases he : err2 xs ys = 0
      · obtain ⟨_, _, hv, hl1, hl2⟩ := err2_ok he
        have HE := Lib.hid he
        clear he
        have hbx : ∃ bx, inAny xs m = bx := ⟨_, rfl⟩
        have hby : ∃ b, inAny ys m = b := ⟨_, rfl⟩
        obtain ⟨bx, hbx⟩ := hbx
        obtain ⟨b2, hby⟩ := hby
        have hcx := fun (W : World) (h : RdI W W.heap.size A xs) => rIn_any A xs.length c xs m W h (Lib.hid rfl) hm
        have hcy := fun (W : World) (h : RdI W W.heap.size A' ys) => rIn_any A' ys.length c' ys m W h (Lib.hid rfl) hm'
        rw [hbx] at hcx
        rw [hby] at hcy
        have HX := Lib.hid hbx
        have HY := Lib.hid hby
        have CX := Lib.hid hcx
        have CY := Lib.hid hcy
        clear hbx hby hcx hcy
        -- the results' In, as a function of the two answers
        have CU : Hid (∀ (P : Option Addr) (k : Nat) (us : List (Int × Int)) (W : World), RdI W W.heap.size P us → NFof (xs ++ ys) us → us.length ≤ maxLen → Calls Try.prog 38 #[.slice P us.length k, .int .i64 m] W fun e w' => e = .returned (.bool (bx || b2)) ∧ Below W.heap.size W w') := Lib.hid fun P k us W h hnf hl => by
          have := rIn_any P us.length k us m W h (Lib.hid rfl) hl
          rwa [show inAny us m = (bx || b2) from boolIff (by rw [inAny_iff, hnf.2 m, InI_append, ← inAny_iff, ← inAny_iff, HX.out, HY.out]; simp)] at this
        have CM : Hid (∀ (P : Option Addr) (k : Nat) (us : List (Int × Int)) (W : World), RdI W W.heap.size P us → LessOf xs ys us → us.length ≤ maxLen → Calls Try.prog 38 #[.slice P us.length k, .int .i64 m] W fun e w' => e = .returned (.bool (bx && !b2)) ∧ Below W.heap.size W w') := Lib.hid fun P k us W h hnf hl => by
          have := rIn_any P us.length k us m W h (Lib.hid rfl) hl
          rwa [show inAny us m = (bx && !b2) from boolIff (by rw [inAny_iff, hnf.2 m, ← inAny_iff, ← inAny_iff, HX.out, HY.out]; simp)] at this
        have CC : Hid (∀ (P : Option Addr) (k : Nat) (us : List (Int × Int)) (W : World), RdI W W.heap.size P us → CutOf xs ys us → us.length ≤ maxLen → Calls Try.prog 38 #[.slice P us.length k, .int .i64 m] W fun e w' => e = .returned (.bool (bx && b2)) ∧ Below W.heap.size W w') := Lib.hid fun P k us W h hnf hl => by
          have := rIn_any P us.length k us m W h (Lib.hid rfl) hl
          rwa [show inAny us m = (bx && b2) from boolIff (by rw [inAny_iff, hnf.2 m, ← inAny_iff, ← inAny_iff, HX.out, HY.out]; simp)] at this
        go_enter Try.func8, Try.ntmps8
        go_wp2_with fail
        refine (awake_any _).mono ?_
        rintro e w1 ⟨rfl, hb1⟩
        have hx1 := (hx.below hb1).more hb1.size
        have hy1 := (hy.below hb1).more hb1.size
        go_wp2_with fail
        refine (union_any A xs.length c xs A' ys.length c' ys _ hx1 (Lib.hid rfl) hy1 (Lib.hid rfl)).mono ?_
        rintro e w2 hr
        obtain ⟨vu, us, rfl, hu, hqu, hb2⟩ := hr.ok HE.out
        clear hr
        obtain ⟨Pu, ku, rfl, hu0, hu1, hru⟩ := hu.form
        have hx2 := (hx1.below hb2).more hb2.size
        have hy2 := (hy1.below hb2).more hb2.size
        have hbw2 := bthen hb1 hb2
        clear hb1 hb2 hx1 hy1 hu
        go_wp2_with fail
        refine (minus_any A xs.length c xs A' ys.length c' ys _ hx2 (Lib.hid rfl) hy2 (Lib.hid rfl)).mono ?_
        rintro e w3 hr
        obtain ⟨vm, ms, rfl, hmm, ⟨hqm, _⟩, hb3⟩ := hr.ok HE.out
        clear hr
        obtain ⟨Pm, km, rfl, hm0, hm1, hrm⟩ := hmm.form
        have hx3 := (hx2.below hb3).more hb3.size
        have hy3 := (hy2.below hb3).more hb3.size
        replace hru := (hru.below hb3).more hb3.size
        have hbw3 := bthen hbw2 hb3
        clear hbw2 hb3 hx2 hy2 hmm
        go_wp2_with fail
        refine (common2_any A xs.length c xs A' ys.length c' ys _ hx3 (Lib.hid rfl) hy3 (Lib.hid rfl)).mono ?_
        rintro e w4 hr
        obtain ⟨vc, cs, rfl, hcc, ⟨hqc, _⟩, hb4⟩ := hr.ok HE.out
        clear hr
        obtain ⟨Pc, kc, rfl, hc0, hc1, hrc⟩ := hcc.form
        have hx4 := (hx3.below hb4).more hb4.size
        have hy4 := (hy3.below hb4).more hb4.size
        replace hru := (hru.below hb4).more hb4.size
        replace hrm := (hrm.below hb4).more hb4.size
        have hbw4 := bthen hbw3 hb4
        clear hbw3 hb4 hx3 hy3 hcc
        have hvu := hqu.bounds hv
        have hvm : ValidI ms := fun z hz => by
          have h1 := hqm.1.valid z hz
          obtain ⟨x, hx, p⟩ := ((hqm.2 z.1).1 ⟨z, hz, Int.le_refl _, h1⟩).1
          obtain ⟨y, hy, q⟩ := ((hqm.2 z.2).1 ⟨z, hz, h1, Int.le_refl _⟩).1
          have := hv x (by simp [hx]); have := hv y (by simp [hy]); omega
        have hvc : ValidI cs := fun z hz => by
          have h1 := hqc.1.valid z hz
          obtain ⟨x, hx, p⟩ := ((hqc.2 z.1).1 ⟨z, hz, Int.le_refl _, h1⟩).1
          obtain ⟨y, hy, q⟩ := ((hqc.2 z.2).1 ⟨z, hz, h1, Int.le_refl _⟩).1
          have := hv x (by simp [hx]); have := hv y (by simp [hy]); omega
        have Lu := Nat.le_trans hu0 hu1
        have Lm := Nat.le_trans hm0 hm1
        have Lc := Nat.le_trans hc0 hc1
        clear HX HY
        cases bx <;> cases b2
        all_goals
          go_wp2_with fail
          refine (CX.out _ hx4).mono ?_
          rintro e w5 ⟨rfl, hb5⟩
          have ry := (hy4.below hb5).more hb5.size
          go_wp2_with fail
          refine (CY.out _ ry).mono ?_
          rintro e w6 ⟨rfl, hb6⟩
          have hb46 := bthen hb5 hb6
          have ru := (hru.below hb46).more hb46.size
          go_wp2_with fail
          refine (CU.out _ _ us _ ru hqu Lu).mono ?_
          rintro e w7 ⟨rfl, hb7⟩
          have hb47 := bthen hb46 hb7
          have rm := (hrm.below hb47).more hb47.size
          go_wp2_with fail
          refine (CM.out _ _ ms _ rm hqm Lm).mono ?_
          rintro e w8 ⟨rfl, hb8⟩
          have hb48 := bthen hb47 hb8
          have rc := (hrc.below hb48).more hb48.size
          go_wp2_with fail
          refine (CC.out _ _ cs _ rc hqc Lc).mono ?_
          rintro e w9 ⟨rfl, hb9⟩
          have hb49 := bthen hb48 hb9
          have ru9 := (hru.below hb49).more hb49.size
          go_wp2_with fail
          refine (lawNormal_any Pu us.length ku us _ ru9 (Lib.hid rfl) hqu.1 hvu Lu).mono ?_
          rintro e w10 ⟨rfl, hb10⟩
          have hb410 := bthen hb49 hb10
          have rm10 := (hrm.below hb410).more hb410.size
          go_wp2_with fail
          refine (lawNormal_any Pm ms.length km ms _ rm10 (Lib.hid rfl) hqm.1 hvm Lm).mono ?_
          rintro e w11 ⟨rfl, hb11⟩
          have hb411 := bthen hb410 hb11
          have rc11 := (hrc.below hb411).more hb411.size
          go_wp2_with fail
          refine (lawNormal_any Pc cs.length kc cs _ rc11 (Lib.hid rfl) hqc.1 hvc Lc).mono ?_
          rintro e w12 ⟨rfl, hb12⟩
          go_wp2_with fail
          go_ret
          exact ⟨rfl, bthen hbw4 (bthen hb411 hb12)⟩
      · have HE := Lib.hid he
        have hu := fun (W : World) (h : RdI W W.heap.size A xs) (h' : RdI W W.heap.size A' ys) => (union_any A xs.length c xs A' ys.length c' ys W h (Lib.hid rfl) h' (Lib.hid rfl)).mono fun e w' hr => hr.bad he
        have hmi := fun (W : World) (h : RdI W W.heap.size A xs) (h' : RdI W W.heap.size A' ys) => (minus_any A xs.length c xs A' ys.length c' ys W h (Lib.hid rfl) h' (Lib.hid rfl)).mono fun e w' hr => hr.bad he
        have hco := fun (W : World) (h : RdI W W.heap.size A xs) (h' : RdI W W.heap.size A' ys) => (common2_any A xs.length c xs A' ys.length c' ys W h (Lib.hid rfl) h' (Lib.hid rfl)).mono fun e w' hr => hr.bad he
        have hne : (err2 xs ys != 0) = true := by simpa using he
        have hne' : (err2 xs ys == 0) = false := by simpa using he
        generalize err2 xs ys = er at *
        have HU := Lib.hid hu
        have HM := Lib.hid hmi
        have HC := Lib.hid hco
        clear hu hmi hco he
        go_enter Try.func8, Try.ntmps8
        go_wp2_with fail
        refine (awake_any _).mono ?_
        rintro e w1 ⟨rfl, hb1⟩
        have hx1 := (hx.below hb1).more hb1.size
        have hy1 := (hy.below hb1).more hb1.size
        go_wp2_with fail
        refine (HU.out _ hx1 hy1).mono ?_
        rintro e w2 ⟨rfl, hb2⟩
        have hx2 := (hx1.below hb2).more hb2.size
        have hy2 := (hy1.below hb2).more hb2.size
        go_wp2_with fail
        refine (HM.out _ hx2 hy2).mono ?_
        rintro e w3 ⟨rfl, hb3⟩
        have hx3 := (hx2.below hb3).more hb3.size
        have hy3 := (hy2.below hb3).more hb3.size
        go_wp2_with fail
        refine (HC.out _ hx3 hy3).mono ?_
        rintro e w4 ⟨rfl, hb4⟩
        go_wp2_with fail
        go_ret
        exact ⟨rfl, bthen hb1 (bthen hb2 (bthen hb3 hb4))⟩
end Go.Proofs.Ytekjhdpadddkpaa
