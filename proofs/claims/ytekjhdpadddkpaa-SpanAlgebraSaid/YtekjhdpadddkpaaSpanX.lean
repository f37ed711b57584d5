/- The walk of SpanAlgebra. -/
import Derived.Test.YtekjhdpadddkpaaSpanW
namespace Go.Proofs.Ytekjhdpadddkpaa
open Go.RowKit

theorem rev_step {xs : List (Int × Int)} {r : Nat} {x : Int × Int} (h : xs[r]? = some x) : (xs.drop r).reverse = (xs.drop (r + 1)).reverse ++ [x] := by
  rw [drop_consI h, List.reverse_cons]

set_option maxRecDepth 100000 in
set_option maxHeartbeats 8000000 in
theorem algebra_walk (A : Option Addr) (n c : Nat) (xs : List (Int × Int)) (A' : Option Addr) (n' c' : Nat) (ys : List (Int × Int)) (w : World) (hn : Hid (n = xs.length)) (hl : xs.length ≤ maxLen) (hx : RdI w w.heap.size A xs)
    (hn' : Hid (n' = ys.length)) (hl' : ys.length ≤ maxLen) (hy : RdI w w.heap.size A' ys) :
    Calls Try.prog 9 #[.slice A n c, .slice A' n' c'] w fun e w' => e = .returned (.bool true) ∧ Below w.heap.size w w' := by
  obtain rfl := hn.out
  obtain rfl := hn'.out
  unfold maxLen at hl hl'
  by_cases h30 : 30 < xs.length
  · have h30' : (30 : Int) < (xs.length : Int) := by omega
    go_enter Try.func9, Try.ntmps9
    go_wp2_with fail
    refine (awake_any _).mono ?_
    rintro e w1 ⟨rfl, hb1⟩
    go_wp2
    go_ret
    exact ⟨rfl, hb1⟩
  · have h30' : ¬ (30 : Int) < (xs.length : Int) := by omega
    by_cases h31 : 30 < ys.length
    · have h31' : (30 : Int) < (ys.length : Int) := by omega
      go_enter Try.func9, Try.ntmps9
      go_wp2_with fail
      refine (awake_any _).mono ?_
      rintro e w1 ⟨rfl, hb1⟩
      go_wp2
      go_ret
      exact ⟨rfl, hb1⟩
    · have h31' : ¬ (30 : Int) < (ys.length : Int) := by omega
      by_cases he : err2 xs ys = 0
      · obtain ⟨hex, hey, hv, _, _⟩ := err2_ok he
        have HE := Lib.hid he
        have HEX := Lib.hid hex
        have HEY := Lib.hid hey
        have HVR : Hid (err1 xs.reverse = 0) := Lib.hid (err1_of (fun x hx => hv.left x (List.mem_reverse.1 hx)) (by rw [List.length_reverse]; omega))
        clear he hex hey
        obtain ⟨i0, hi0, hz0, hz1, hz2⟩ := info_parts Try.infoIv
        go_enter Try.func9, Try.ntmps9
        go_wp2_with fail
        refine (awake_any _).mono ?_
        rintro e w1 ⟨rfl, hb⟩
        have hx1 := (hx.below hb).more hb.size
        have hy1 := (hy.below hb).more hb.size
        go_wp2_with fail
        refine (normalize_ok A xs.length c xs _ hx1 (Lib.hid rfl) HEX.out).mono ?_
        rintro e w2 ⟨vn, ns, rfl, hvn, hqn, hb2⟩
        obtain ⟨Pn, kn, rfl, hn0, hn1, hrn⟩ := hvn.form
        replace hx1 := (hx1.below hb2).more hb2.size
        replace hy1 := (hy1.below hb2).more hb2.size
        replace hb := bthen hb hb2
        clear hb2 hvn
        go_wp2_with fail
        refine (minus_any A xs.length c xs A' ys.length c' ys _ hx1 (Lib.hid rfl) hy1 (Lib.hid rfl)).mono ?_
        rintro e w3 hr
        obtain ⟨vm, ms, rfl, hmm, ⟨hqm, hml⟩, hb3⟩ := hr.ok HE.out
        clear hr
        obtain ⟨Pm, km, rfl, hm0, hm1, hrm⟩ := hmm.form
        replace hx1 := (hx1.below hb3).more hb3.size
        replace hy1 := (hy1.below hb3).more hb3.size
        replace hrn := (hrn.below hb3).more hb3.size
        replace hb := bthen hb hb3
        clear hb3 hmm
        go_wp2_with fail
        refine (common2_any A xs.length c xs A' ys.length c' ys _ hx1 (Lib.hid rfl) hy1 (Lib.hid rfl)).mono ?_
        rintro e w4 hr
        obtain ⟨vc, cs, rfl, hcc, ⟨hqc, hcl⟩, hb4⟩ := hr.ok HE.out
        clear hr
        obtain ⟨Pc, kc, rfl, hc0, hc1, hrc⟩ := hcc.form
        replace hx1 := (hx1.below hb4).more hb4.size
        replace hy1 := (hy1.below hb4).more hb4.size
        replace hrn := (hrn.below hb4).more hb4.size
        replace hrm := (hrm.below hb4).more hb4.size
        replace hb := bthen hb hb4
        clear hb4 hcc
        go_wp2_with fail
        refine (union_any A xs.length c xs A' ys.length c' ys _ hx1 (Lib.hid rfl) hy1 (Lib.hid rfl)).mono ?_
        rintro e w5 hr
        obtain ⟨vu, us, rfl, huu, hqu, hb5⟩ := hr.ok HE.out
        clear hr
        obtain ⟨Pu, ku, rfl, hu0, hu1, hru⟩ := huu.form
        replace hx1 := (hx1.below hb5).more hb5.size
        replace hy1 := (hy1.below hb5).more hb5.size
        replace hrn := (hrn.below hb5).more hb5.size
        replace hrm := (hrm.below hb5).more hb5.size
        replace hrc := (hrc.below hb5).more hb5.size
        replace hb := bthen hb hb5
        clear hb5 huu
        have hvm := hqm.valid hv.left
        have hvc := hqc.valid hv.left
        have hln := hqn.len hv.left
        have hlu := hqu.len hv
        rw [List.length_append] at hlu
        have hvmc : ValidI (ms ++ cs) := fun z hz => by
          rcases List.mem_append.1 hz with h | h
          · exact hvm z h
          · exact hvc z h
        have HEMC : Hid (err2 ms cs = 0) := Lib.hid (err2_of hvmc (by omega) (by omega))
        have HEN : Hid (err1 ns = 0) := Lib.hid (err1_of (hqn.bounds hv.left) (by omega))
        have HEC : Hid (err1 cs = 0) := Lib.hid (err1_of hvc (by omega))
        have HEU : Hid (err1 us = 0) := Lib.hid (err1_of (hqu.bounds hv) (by omega))
        go_wp2_with fail
        refine (union_any Pm ms.length km ms Pc cs.length kc cs _ hrm (Lib.hid rfl) hrc (Lib.hid rfl)).mono ?_
        rintro e w6 hr
        obtain ⟨vb, bs, rfl, hbb, hqb, hb6⟩ := hr.ok HEMC.out
        clear hr
        have hbs := whole hqm hqc hqn hqb
        subst hbs
        obtain ⟨Pb, kb, rfl, _, _, hrb⟩ := hbb.form
        replace hx1 := (hx1.below hb6).more hb6.size
        replace hy1 := (hy1.below hb6).more hb6.size
        replace hrn := (hrn.below hb6).more hb6.size
        replace hrc := (hrc.below hb6).more hb6.size
        replace hru := (hru.below hb6).more hb6.size
        replace hb := bthen hb hb6
        clear hb6 hbb hqb hrm hvmc
        go_wp2_with fail
        refine (normalize_ok Pn bs.length kn bs _ hrn (Lib.hid rfl) HEN.out).mono ?_
        rintro e w7 ⟨va, ags, rfl, hva, hqa, hb7⟩
        have hags := NFof.self hqn hqa
        subst hags
        obtain ⟨Pa, ka, rfl, _, _, hra⟩ := hva.form
        replace hx1 := (hx1.below hb7).more hb7.size
        replace hy1 := (hy1.below hb7).more hb7.size
        replace hrn := (hrn.below hb7).more hb7.size
        replace hrc := (hrc.below hb7).more hb7.size
        replace hru := (hru.below hb7).more hb7.size
        replace hrb := (hrb.below hb7).more hb7.size
        replace hb := bthen hb hb7
        clear hb7 hva hqa
        go_wp2
        go_loopw [15, 16] (fun v i wr => ∃ r : Nat, r ≤ xs.length ∧ i = .int .i64 ((r : Int) - 1) ∧ OwnI wr w7.heap.size v (xs.drop r).reverse ∧ Below w7.heap.size w7 wr) (fun _ i _ => (intOf i + 1).toNat)
        case atStart => exact ⟨xs.length, Nat.le_refl _, rfl, by rw [List.drop_length]; exact World.ownsRow_made w7 #[] 0 (Nat.le_refl _) (Nat.zero_le _) (by simp), (Below.refl _ _).alloc (Nat.le_refl _) _⟩
        case round =>
          obtain ⟨r, hr, rfl, hvo, hbl⟩ := hrel
          rcases r with _ | r
          · rw [List.drop_zero] at hvo
            rw [show ((0 : Nat) : Int) - 1 = -1 by rfl]
            replace hx1 := (hx1.below hbl).more hbl.size
            replace hy1 := (hy1.below hbl).more hbl.size
            replace hrn := (hrn.below hbl).more hbl.size
            replace hrc := (hrc.below hbl).more hbl.size
            replace hru := (hru.below hbl).more hbl.size
            replace hrb := (hrb.below hbl).more hbl.size
            replace hra := (hra.below hbl).more hbl.size
            replace hb := bthen hb hbl
            obtain ⟨bk, hbk⟩ : ∃ bk, bk = xs.reverse := ⟨_, rfl⟩
            rw [← hbk] at hvo HVR
            have hperm : bk.Perm xs := hbk ▸ List.reverse_perm xs
            clear hbk hbl
            obtain ⟨Pk, kk, rfl, _, _, hrk⟩ := hvo.form
            go_wp2_with fail
            refine (normalize_ok Pk bk.length kk bk _ hrk (Lib.hid rfl) HVR.out).mono ?_
            rintro e w8 ⟨vo, os, rfl, hvo2, hqo, hb8⟩
            have hos := NFof.same hqn hqo fun n => (InI_perm hperm n).symm
            subst hos
            obtain ⟨Po, ko, rfl, _, _, hro⟩ := hvo2.form
            replace hx1 := (hx1.below hb8).more hb8.size
            replace hy1 := (hy1.below hb8).more hb8.size
            replace hrn := (hrn.below hb8).more hb8.size
            replace hrc := (hrc.below hb8).more hb8.size
            replace hru := (hru.below hb8).more hb8.size
            replace hrb := (hrb.below hb8).more hb8.size
            replace hra := (hra.below hb8).more hb8.size
            replace hb := bthen hb hb8
            clear hb8 hvo2 hvo hqo hrk
            go_wp2_with fail
            refine (count_ok A xs.length c xs _ hx1 (Lib.hid rfl) HEX.out).mono ?_
            rintro e w9 ⟨z1, rfl, hz1', hb9⟩
            have hzz := hqn.same hz1' fun _ => Iff.rfl
            subst hzz
            replace hy1 := (hy1.below hb9).more hb9.size
            replace hrn := (hrn.below hb9).more hb9.size
            replace hrc := (hrc.below hb9).more hb9.size
            replace hru := (hru.below hb9).more hb9.size
            replace hrb := (hrb.below hb9).more hb9.size
            replace hra := (hra.below hb9).more hb9.size
            replace hro := (hro.below hb9).more hb9.size
            replace hb := bthen hb hb9
            clear hb9 hx1
            go_wp2_with fail
            refine (count_ok A' ys.length c' ys _ hy1 (Lib.hid rfl) HEY.out).mono ?_
            rintro e w10 ⟨yn, rfl, hyn, hb10⟩
            replace hrn := (hrn.below hb10).more hb10.size
            replace hrc := (hrc.below hb10).more hb10.size
            replace hru := (hru.below hb10).more hb10.size
            replace hrb := (hrb.below hb10).more hb10.size
            replace hra := (hra.below hb10).more hb10.size
            replace hro := (hro.below hb10).more hb10.size
            replace hb := bthen hb hb10
            clear hb10 hy1
            go_wp2_with fail
            refine (count_ok Pc cs.length kc cs _ hrc (Lib.hid rfl) HEC.out).mono ?_
            rintro e w11 ⟨c2, rfl, hc2, hb11⟩
            have hcz : c2 = cs := NF.unique hc2.1 hqc.1 hc2.2
            subst hcz
            replace hrn := (hrn.below hb11).more hb11.size
            replace hru := (hru.below hb11).more hb11.size
            replace hrb := (hrb.below hb11).more hb11.size
            replace hra := (hra.below hb11).more hb11.size
            replace hro := (hro.below hb11).more hb11.size
            replace hb := bthen hb hb11
            clear hb11 hrc
            go_wp2_with fail
            refine (count_ok Pu us.length ku us _ hru (Lib.hid rfl) HEU.out).mono ?_
            rintro e w12 ⟨u2, rfl, hu2, hb12⟩
            have huz : u2 = us := NF.unique hu2.1 hqu.1 hu2.2
            subst huz
            replace hrn := (hrn.below hb12).more hb12.size
            replace hrb := (hrb.below hb12).more hb12.size
            replace hra := (hra.below hb12).more hb12.size
            replace hro := (hro.below hb12).more hb12.size
            replace hb := bthen hb hb12
            clear hb12 hru
            have hadd := counts_add hv hqu hqn hyn hqc
            have hvz := hqn.bounds hv.left
            have hbp := cntN_bd z1 (-1000000000000) 1000000000000 hqn.1 (fun z hz => by have := hvz z hz; omega)
            have hvy := hyn.bounds hv.right
            have hbq := cntN_bd yn (-1000000000000) 1000000000000 hyn.1 (fun z hz => by have := hvy z hz; omega)
            have hbr := cntN_bd c2 (-1000000000000) 1000000000000 hqc.1 (fun z hz => by have := hvc z hz; omega)
            rw [hadd]
            clear hadd hu2 hc2 hz1' HVR HEMC HEC HEU HEN HEX HEY HE
            generalize cntN z1 = p at hbp ⊢
            generalize cntN yn = q at hbq ⊢
            generalize cntN c2 = r at hbr ⊢
            have hs1 : -9223372036854775808 ≤ p + q ∧ p + q ≤ 9223372036854775807 := by omega
            have hs2 : -9223372036854775808 ≤ p + q - r ∧ p + q - r ≤ 9223372036854775807 := by omega
            have hzm : z1.length ≤ maxLen := Nat.le_trans hn0 hn1
            have hS : Hid (∀ (P : Option Addr) (k : Nat) (W : World), RdI W W.heap.size P z1 → RdI W W.heap.size Pn z1 → Calls Try.prog 36 #[.slice P z1.length k, .slice Pn z1.length kn] W fun e w' => e = .returned (.bool true) ∧ Below W.heap.size W w') := Lib.hid fun P k W h h' => by
              have := same_any P z1.length k z1 Pn z1.length kn z1 W h (Lib.hid rfl) h' (Lib.hid rfl) hzm
              simpa using this
            go_wp2_with fail
            refine (hS.out Pb _ _ hrb hrn).mono ?_
            rintro e w13 ⟨rfl, hb13⟩
            replace hrn := (hrn.below hb13).more hb13.size
            replace hra := (hra.below hb13).more hb13.size
            replace hro := (hro.below hb13).more hb13.size
            replace hb := bthen hb hb13
            go_wp2_with fail
            refine (hS.out Pa _ _ hra hrn).mono ?_
            rintro e w14 ⟨rfl, hb14⟩
            replace hrn := (hrn.below hb14).more hb14.size
            replace hro := (hro.below hb14).more hb14.size
            replace hb := bthen hb hb14
            go_wp2_with fail
            refine (hS.out Po _ _ hro hrn).mono ?_
            rintro e w15 ⟨rfl, hb15⟩
            go_wp2_with fail
            go_ret
            exact ⟨rfl, bthen hb hb15⟩
          · rw [show ((r + 1 : Nat) : Int) - 1 = (r : Int) by omega]
            have hrl : r < xs.length := by omega
            obtain ⟨b, off, x, rfl, hB, hx', h1, h2⟩ := (hx1.below hbl) r hrl
            have HR := Lib.hid (rev_step hx')
            clear hx'
            have hge : (0 : Int) ≤ (r : Int) := by omega
            have hlen1 : (xs.drop (r + 1)).reverse.length ≤ 30 := by rw [List.length_reverse, List.length_drop]; omega
            generalize (xs.drop (r + 1)).reverse = out at hvo HR hlen1
            have hlow := hvo.lt
            go_wp2_with (at_builtin; refine wpList_append_rd _ rfl (.tmp 91) (.tmp 96) _ rfl w7.heap.size 23 i0 _ 2 16 Try.underlying33 hi0 hz0 hz1 hz2 rfl (by omega) _ out.length (cellsI out) rfl (World.ownsRow.alloc hvo _) (wr.heap.size + 1) (some ⟨wr.heap.size, 0, none⟩) 1 1 (cellsI [x]) rfl rfl ?c3 cellsI_one (by simp only [maxLen]; omega) (by omega) ?c7 ?_)
            case c3 => show RdC _ _ _ [.int .i64 x.1, .int .i64 x.2]; exact RdC.two (by go_simp) (by go_simp) (by omega)
            case c7 => have := hbl.size; simp; omega
            intro v1 wA hown hgr hat
            have hbA : Below w7.heap.size w7 wA := (bnew hbl _).grown hgr (bnew hbl _).size (fun g h => (hlow g h).1)
            go_wp2
            go_roundw
            case rel => exact ⟨r, by omega, rfl, by rw [HR.out]; unfold OwnI; rw [cellsI_append, List.length_append]; exact hown, hbA⟩
            case measure => simp [intOf]
      · have HE := Lib.hid he
        have hu := fun (W : World) (h : RdI W W.heap.size A xs) (h' : RdI W W.heap.size A' ys) => (union_any A xs.length c xs A' ys.length c' ys W h (Lib.hid rfl) h' (Lib.hid rfl)).mono fun e w' hr => hr.bad he
        have hmi := fun (W : World) (h : RdI W W.heap.size A xs) (h' : RdI W W.heap.size A' ys) => (minus_any A xs.length c xs A' ys.length c' ys W h (Lib.hid rfl) h' (Lib.hid rfl)).mono fun e w' hr => hr.bad he
        have hco := fun (W : World) (h : RdI W W.heap.size A xs) (h' : RdI W W.heap.size A' ys) => (common2_any A xs.length c xs A' ys.length c' ys W h (Lib.hid rfl) h' (Lib.hid rfl)).mono fun e w' hr => hr.bad he
        have hno : ∀ (W : World), RdI W W.heap.size A xs → Calls Try.prog 30 #[.slice A xs.length c] W fun e w' => (∃ v k, e = .returned (.tuple #[v, .int .i64 k])) ∧ Below W.heap.size W w' := fun W h => by
          by_cases h1 : err1 xs = 0
          · exact (normalize_ok A xs.length c xs W h (Lib.hid rfl) h1).mono fun e w' ⟨v, zs, he, _, _, hb⟩ => ⟨⟨v, 0, he⟩, hb⟩
          · exact (normalize_err A xs.length c xs W h (Lib.hid rfl) h1).mono fun e w' ⟨he, hb⟩ => ⟨⟨_, _, he⟩, hb⟩
        have hne : (err2 xs ys != 0) = true := by simpa using he
        have hne' : (err2 xs ys == 0) = false := by simpa using he
        generalize err2 xs ys = er at *
        have HU := Lib.hid hu
        have HM := Lib.hid hmi
        have HC := Lib.hid hco
        have HN := Lib.hid hno
        clear hu hmi hco hno he
        go_enter Try.func9, Try.ntmps9
        go_wp2_with fail
        refine (awake_any _).mono ?_
        rintro e w1 ⟨rfl, hb1⟩
        have hx1 := (hx.below hb1).more hb1.size
        have hy1 := (hy.below hb1).more hb1.size
        go_wp2_with fail
        refine (HN.out _ hx1).mono ?_
        rintro e w2 ⟨⟨v, k, rfl⟩, hb2⟩
        have hx2 := (hx1.below hb2).more hb2.size
        have hy2 := (hy1.below hb2).more hb2.size
        go_wp2_with fail
        refine (HM.out _ hx2 hy2).mono ?_
        rintro e w3 ⟨rfl, hb3⟩
        have hx3 := (hx2.below hb3).more hb3.size
        have hy3 := (hy2.below hb3).more hb3.size
        go_wp2_with fail
        refine (HC.out _ hx3 hy3).mono ?_
        rintro e w4 ⟨rfl, hb4⟩
        have hx4 := (hx3.below hb4).more hb4.size
        have hy4 := (hy3.below hb4).more hb4.size
        go_wp2_with fail
        refine (HU.out _ hx4 hy4).mono ?_
        rintro e w5 ⟨rfl, hb5⟩
        by_cases hk : k = 0
        · subst hk
          go_wp2_with fail
          go_ret
          exact ⟨rfl, bthen hb1 (bthen hb2 (bthen hb3 (bthen hb4 hb5)))⟩
        · have hk1 : (k != 0) = true := by simpa using hk
          have hk2 : (k == 0) = false := by simpa using hk
          go_wp2_with fail
          go_ret
          exact ⟨rfl, bthen hb1 (bthen hb2 (bthen hb3 (bthen hb4 hb5)))⟩
end Go.Proofs.Ytekjhdpadddkpaa
