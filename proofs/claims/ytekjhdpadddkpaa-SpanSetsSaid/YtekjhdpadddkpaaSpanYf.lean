/- The walk of SpanSets. -/
import Derived.Test.YtekjhdpadddkpaaSpanYe
import Derived.Test.YtekjhdpadddkpaaSpanN
namespace Go.Proofs.Ytekjhdpadddkpaa
open Go.RowKit

theorem same_p (L : List (Int × Int)) (hl : L.length ≤ maxLen) (P : Option Addr) (k : Nat) (P' : Option Addr) (k' : Nat) (W : World) (h : RdI W W.heap.size P L) (h' : RdI W W.heap.size P' L) :
    Calls Try.prog 36 #[.slice P L.length k, .slice P' L.length k'] W fun e w' => e = .returned (.bool true) ∧ Below W.heap.size W w' := by
  have := same_any P L.length k L P' L.length k' L W h (Lib.hid rfl) h' (Lib.hid rfl) hl
  rwa [decide_eq_true (rfl : L = L)] at this

set_option maxRecDepth 100000 in
set_option maxHeartbeats 6400000 in
theorem sets_walk (A : Option Addr) (n c : Nat) (xs : List (Int × Int)) (A' : Option Addr) (n' c' : Nat) (ys : List (Int × Int)) (w : World) (hx : RdI w w.heap.size A xs) (hn : Hid (n = xs.length)) (hy : RdI w w.heap.size A' ys) (hn' : Hid (n' = ys.length)) :
    Calls Try.prog 7 #[.slice A n c, .slice A' n' c'] w fun e w' => e = .returned (.bool true) ∧ Below w.heap.size w w' := by
  obtain rfl := hn.out
  obtain rfl := hn'.out
  clear hn hn'
  by_cases h30 : 30 < xs.length
  · have h30' : (30 : Int) < (xs.length : Int) := by omega
    go_enter Try.func7, Try.ntmps7
    go_wp2_with fail
    refine (awake_any _).mono ?_
    rintro e w1 ⟨rfl, hb1⟩
    go_wp2
    go_ret
    exact ⟨rfl, hb1⟩
  · have h30' : ¬ (30 : Int) < (xs.length : Int) := by omega
    by_cases h31 : 30 < ys.length
    · have h31' : (30 : Int) < (ys.length : Int) := by omega
      go_enter Try.func7, Try.ntmps7
      go_wp2_with fail
      refine (awake_any _).mono ?_
      rintro e w1 ⟨rfl, hb1⟩
      go_wp2
      go_ret
      exact ⟨rfl, hb1⟩
    · have h31' : ¬ (30 : Int) < (ys.length : Int) := by omega
      have cN := fun (W : World) (h : RdI W W.heap.size A xs) => normalize_p A xs.length c xs W h (Lib.hid rfl)
      have cU := fun (W : World) (h : RdI W W.heap.size A xs) (h' : RdI W W.heap.size A' ys) => union_p A xs.length c xs A' ys.length c' ys W h (Lib.hid rfl) h' (Lib.hid rfl)
      have cM := fun (W : World) (h : RdI W W.heap.size A xs) (h' : RdI W W.heap.size A' ys) => minus_p A xs.length c xs A' ys.length c' ys W h (Lib.hid rfl) h' (Lib.hid rfl)
      have cC := fun (W : World) (h : RdI W W.heap.size A xs) (h' : RdI W W.heap.size A' ys) => common_p A xs.length c xs A' ys.length c' ys W h (Lib.hid rfl) h' (Lib.hid rfl)
      have cK := fun (W : World) (h : RdI W W.heap.size A xs) => count_p A xs.length c xs W h (Lib.hid rfl)
      have cX : ∀ (W : World) (h : RdI W W.heap.size A xs), Calls Try.prog 35 #[.slice A xs.length c, .slice none 0 0, .int .i64 1] W (RetPair W (listN 1 xs [] (err1 xs)) (err1 xs)) := fun W h => by
        have := rSet_p A xs.length c xs none 0 0 [] 1 W h (Lib.hid rfl) (RdI.nil _ _ _) (Lib.hid rfl) (.inl rfl)
        rwa [err1_two] at this
      have cY := fun (W : World) (h : RdI W W.heap.size A xs) (h' : RdI W W.heap.size A' ys) => rSet_p A xs.length c xs A' ys.length c' ys 1 W h (Lib.hid rfl) h' (Lib.hid rfl) (.inl rfl)
      have cZ := fun (W : World) (h : RdI W W.heap.size A xs) (h' : RdI W W.heap.size A' ys) => rSet_p A xs.length c xs A' ys.length c' ys 2 W h (Lib.hid rfl) h' (Lib.hid rfl) (.inr (.inl rfl))
      have cW := fun (W : World) (h : RdI W W.heap.size A xs) (h' : RdI W W.heap.size A' ys) => rSet_p A xs.length c xs A' ys.length c' ys 3 W h (Lib.hid rfl) h' (Lib.hid rfl) (.inr (.inr rfl))
      have l1 := listN_nf 1 xs [] (err1 xs)
      have l2 := listN_valid xs
      generalize listN 1 xs [] (err1 xs) = L1 at *
      generalize listN 1 xs ys (err2 xs ys) = L2 at *
      generalize listN 2 xs ys (err2 xs ys) = L3 at *
      generalize listN 3 xs ys (err2 xs ys) = L4 at *
      generalize err1 xs = e1 at *
      generalize err2 xs ys = e2 at *
      generalize hcn : cntN L1 = S1 at *
      have HCN := Lib.hid hcn
      have CN := Lib.hid cN
      have CU := Lib.hid cU
      have CM := Lib.hid cM
      have CC := Lib.hid cC
      have CK := Lib.hid cK
      have CX := Lib.hid cX
      have CY := Lib.hid cY
      have CZ := Lib.hid cZ
      have CW := Lib.hid cW
      have HL1 := Lib.hid l1
      have HL2 := Lib.hid l2
      clear cN cU cM cC cK cX cY cZ cW l1 l2 hcn
      go_enter Try.func7, Try.ntmps7
      go_wp2_with fail
      refine (awake_any _).mono ?_
      rintro e w1 ⟨rfl, hb1⟩
      replace hx := (hx.below hb1).more hb1.size
      replace hy := (hy.below hb1).more hb1.size

      go_wp2_with fail
      refine (CN.out _ hx).mono ?_
      rintro e w2 ⟨v, rfl, hv, hb2⟩
      obtain ⟨P2, k2, rfl, a2, m2, r2⟩ := hv.form
      clear hv
      replace hx := (hx.below hb2).more hb2.size
      replace hy := (hy.below hb2).more hb2.size
      have hbw2 := bthen hb1 hb2
      clear hb1 hb2
      go_wp2_with fail
      refine (CU.out _ hx hy).mono ?_
      rintro e w3 ⟨v, rfl, hv, hb3⟩
      obtain ⟨P3, k3, rfl, a3, m3, r3⟩ := hv.form
      clear hv
      replace hx := (hx.below hb3).more hb3.size
      replace hy := (hy.below hb3).more hb3.size
      replace r2 := (r2.below hb3).more hb3.size
      have hbw3 := bthen hbw2 hb3
      clear hbw2 hb3
      go_wp2_with fail
      refine (CM.out _ hx hy).mono ?_
      rintro e w4 ⟨v, rfl, hv, hb4⟩
      obtain ⟨P4, k4, rfl, a4, m4, r4⟩ := hv.form
      clear hv
      replace hx := (hx.below hb4).more hb4.size
      replace hy := (hy.below hb4).more hb4.size
      replace r2 := (r2.below hb4).more hb4.size
      replace r3 := (r3.below hb4).more hb4.size
      have hbw4 := bthen hbw3 hb4
      clear hbw3 hb4
      go_wp2_with fail
      refine (CC.out _ hx hy).mono ?_
      rintro e w5 ⟨v, rfl, hv, hb5⟩
      obtain ⟨P5, k5, rfl, a5, m5, r5⟩ := hv.form
      clear hv
      replace hx := (hx.below hb5).more hb5.size
      replace hy := (hy.below hb5).more hb5.size
      replace r2 := (r2.below hb5).more hb5.size
      replace r3 := (r3.below hb5).more hb5.size
      replace r4 := (r4.below hb5).more hb5.size
      have hbw5 := bthen hbw4 hb5
      clear hbw4 hb5
      go_wp2_with fail
      refine (CK.out _ hx).mono ?_
      rintro e w6 ⟨rfl, hb6⟩
      replace hx := (hx.below hb6).more hb6.size
      replace hy := (hy.below hb6).more hb6.size
      replace r2 := (r2.below hb6).more hb6.size
      replace r3 := (r3.below hb6).more hb6.size
      replace r4 := (r4.below hb6).more hb6.size
      replace r5 := (r5.below hb6).more hb6.size
      have hbw6 := bthen hbw5 hb6
      clear hbw5 hb6
      go_wp2_with fail
      refine (CX.out _ hx).mono ?_
      rintro e w7 ⟨v, rfl, hv, hb7⟩
      obtain ⟨P7, k7, rfl, a7, m7, r7⟩ := hv.form
      clear hv
      replace hx := (hx.below hb7).more hb7.size
      replace hy := (hy.below hb7).more hb7.size
      replace r2 := (r2.below hb7).more hb7.size
      replace r3 := (r3.below hb7).more hb7.size
      replace r4 := (r4.below hb7).more hb7.size
      replace r5 := (r5.below hb7).more hb7.size
      have hbw7 := bthen hbw6 hb7
      clear hbw6 hb7
      go_wp2_with fail
      refine (CY.out _ hx hy).mono ?_
      rintro e w8 ⟨v, rfl, hv, hb8⟩
      obtain ⟨P8, k8, rfl, a8, m8, r8⟩ := hv.form
      clear hv
      replace hx := (hx.below hb8).more hb8.size
      replace hy := (hy.below hb8).more hb8.size
      replace r2 := (r2.below hb8).more hb8.size
      replace r3 := (r3.below hb8).more hb8.size
      replace r4 := (r4.below hb8).more hb8.size
      replace r5 := (r5.below hb8).more hb8.size
      replace r7 := (r7.below hb8).more hb8.size
      have hbw8 := bthen hbw7 hb8
      clear hbw7 hb8
      go_wp2_with fail
      refine (CZ.out _ hx hy).mono ?_
      rintro e w9 ⟨v, rfl, hv, hb9⟩
      obtain ⟨P9, k9, rfl, a9, m9, r9⟩ := hv.form
      clear hv
      replace hx := (hx.below hb9).more hb9.size
      replace hy := (hy.below hb9).more hb9.size
      replace r2 := (r2.below hb9).more hb9.size
      replace r3 := (r3.below hb9).more hb9.size
      replace r4 := (r4.below hb9).more hb9.size
      replace r5 := (r5.below hb9).more hb9.size
      replace r7 := (r7.below hb9).more hb9.size
      replace r8 := (r8.below hb9).more hb9.size
      have hbw9 := bthen hbw8 hb9
      clear hbw8 hb9
      go_wp2_with fail
      refine (CW.out _ hx hy).mono ?_
      rintro e w10 ⟨v, rfl, hv, hb10⟩
      obtain ⟨P10, k10, rfl, a10, m10, r10⟩ := hv.form
      clear hv
      replace hx := (hx.below hb10).more hb10.size
      replace hy := (hy.below hb10).more hb10.size
      replace r2 := (r2.below hb10).more hb10.size
      replace r3 := (r3.below hb10).more hb10.size
      replace r4 := (r4.below hb10).more hb10.size
      replace r5 := (r5.below hb10).more hb10.size
      replace r7 := (r7.below hb10).more hb10.size
      replace r8 := (r8.below hb10).more hb10.size
      replace r9 := (r9.below hb10).more hb10.size
      have hbw10 := bthen hbw9 hb10
      clear hbw9 hb10
      go_wp2_with fail
      refine (same_p L1 (by omega) P2 k2 P7 k7 _ r2 r7).mono ?_
      rintro e w11 ⟨rfl, hb11⟩
      replace hx := (hx.below hb11).more hb11.size
      replace hy := (hy.below hb11).more hb11.size
      replace r2 := (r2.below hb11).more hb11.size
      replace r3 := (r3.below hb11).more hb11.size
      replace r4 := (r4.below hb11).more hb11.size
      replace r5 := (r5.below hb11).more hb11.size
      replace r7 := (r7.below hb11).more hb11.size
      replace r8 := (r8.below hb11).more hb11.size
      replace r9 := (r9.below hb11).more hb11.size
      replace r10 := (r10.below hb11).more hb11.size
      have hbw11 := bthen hbw10 hb11
      clear hbw10 hb11
      go_wp2_with fail
      refine (same_p L2 (by omega) P3 k3 P8 k8 _ r3 r8).mono ?_
      rintro e w12 ⟨rfl, hb12⟩
      replace hx := (hx.below hb12).more hb12.size
      replace hy := (hy.below hb12).more hb12.size
      replace r2 := (r2.below hb12).more hb12.size
      replace r3 := (r3.below hb12).more hb12.size
      replace r4 := (r4.below hb12).more hb12.size
      replace r5 := (r5.below hb12).more hb12.size
      replace r7 := (r7.below hb12).more hb12.size
      replace r8 := (r8.below hb12).more hb12.size
      replace r9 := (r9.below hb12).more hb12.size
      replace r10 := (r10.below hb12).more hb12.size
      have hbw12 := bthen hbw11 hb12
      clear hbw11 hb12
      go_wp2_with fail
      refine (same_p L3 (by omega) P4 k4 P9 k9 _ r4 r9).mono ?_
      rintro e w13 ⟨rfl, hb13⟩
      replace hx := (hx.below hb13).more hb13.size
      replace hy := (hy.below hb13).more hb13.size
      replace r2 := (r2.below hb13).more hb13.size
      replace r3 := (r3.below hb13).more hb13.size
      replace r4 := (r4.below hb13).more hb13.size
      replace r5 := (r5.below hb13).more hb13.size
      replace r7 := (r7.below hb13).more hb13.size
      replace r8 := (r8.below hb13).more hb13.size
      replace r9 := (r9.below hb13).more hb13.size
      replace r10 := (r10.below hb13).more hb13.size
      have hbw13 := bthen hbw12 hb13
      clear hbw12 hb13
      go_wp2_with fail
      refine (same_p L4 (by omega) P5 k5 P10 k10 _ r5 r10).mono ?_
      rintro e w14 ⟨rfl, hb14⟩
      replace hx := (hx.below hb14).more hb14.size
      replace hy := (hy.below hb14).more hb14.size
      replace r2 := (r2.below hb14).more hb14.size
      replace r3 := (r3.below hb14).more hb14.size
      replace r4 := (r4.below hb14).more hb14.size
      replace r5 := (r5.below hb14).more hb14.size
      replace r7 := (r7.below hb14).more hb14.size
      replace r8 := (r8.below hb14).more hb14.size
      replace r9 := (r9.below hb14).more hb14.size
      replace r10 := (r10.below hb14).more hb14.size
      have hbw14 := bthen hbw13 hb14
      clear hbw13 hb14
      go_wp2_with fail
      refine (rCount_p P7 L1.length k7 L1 _ r7 (Lib.hid rfl) HL1.out HL2.out (by omega)).mono ?_
      rintro e w15 ⟨rfl, hb15⟩
      rw [HCN.out]
      go_wp2_with fail
      go_ret
      exact ⟨rfl, bthen hbw14 hb15⟩
end Go.Proofs.Ytekjhdpadddkpaa
