/- The walk of SpanSound. -/
import Derived.Test.YtekjhdpadddkpaaSpanN
import Derived.IntWalk
namespace Go.Proofs.Ytekjhdpadddkpaa
open Go.RowKit

/-- The number that a choice picks. -/
def pickN (c : Int) (x : Int × Int) : Int := (c % 18446744073709551616) % (x.2 - x.1 + 1)
def pickAll : List (Int × Int) → List Int → Int
  | x :: xs, c :: cs => x.1 + pickN c x + pickAll xs cs
  | _, _ => 0
theorem pick_bd {c : Int} {x : Int × Int} (h : x.1 ≤ x.2) : 0 ≤ pickN c x ∧ pickN c x ≤ x.2 - x.1 := by
  unfold pickN
  have h1 := Int.emod_nonneg (c % 18446744073709551616) (show x.2 - x.1 + 1 ≠ 0 by omega)
  have h2 := Int.emod_lt_of_pos (c % 18446744073709551616) (show 0 < x.2 - x.1 + 1 by omega)
  omega

theorem pick_walk {c S d : Int} {x : Int × Int} (hd : d = x.2 - x.1 + 1) (h : x.1 ≤ x.2) (hx : -1000000000000 ≤ x.1 ∧ x.2 ≤ 1000000000000) (hS : -9000000000000000000 ≤ S ∧ S ≤ 9000000000000000000) :
    IntKind.i64.wrap (S + IntKind.i64.wrap (x.1 + IntKind.i64.wrap ((IntKind.u64.wrap c).tmod d))) = S + (x.1 + pickN c x) := by
  have hp := pick_bd (c := c) h
  have h0 : 0 ≤ IntKind.u64.wrap c := by rw [IntKind.wrap_u64]; omega
  have e : (IntKind.u64.wrap c).tmod d = pickN c x := by
    rw [Int.tmod_eq_emod_of_nonneg h0, IntKind.wrap_u64, hd]
    rfl
  rw [e]
  generalize pickN c x = r at hp ⊢
  simp only [IntKind.wrap_i64]
  omega

/-- A sum of picked numbers, as far as k, lies between the sums of the ends. -/
def Picked (xs : List (Int × Int)) (k : Nat) (s : Int) : Prop := loN (xs.take k) ≤ s ∧ s ≤ hiN (xs.take k)

theorem keep3 {w0 w1 w2 : World} {p1 p2 p3 : Addr} {v1 v2 v3 : Value} (h : w1.cell? p1 = some v1 ∧ w1.cell? p2 = some v2 ∧ w1.cell? p3 = some v3 ∧ Below w0.heap.size w0 w1) (hb : Below w1.heap.size w1 w2) :
    w2.cell? p1 = some v1 ∧ w2.cell? p2 = some v2 ∧ w2.cell? p3 = some v3 ∧ Below w0.heap.size w0 w2 :=
  ⟨keepc h.1 hb, keepc h.2.1 hb, keepc h.2.2.1 hb, h.2.2.2.trans (hb.mono h.2.2.2.size)⟩

set_option maxHeartbeats 4000000 in
theorem sound_walk (A : Option Addr) (n c : Nat) (xs : List (Int × Int)) (A' : Option Addr) (n' c' : Nat) (cs : List Int) (w : World) (hn : Hid (n = xs.length)) (hl : xs.length ≤ maxLen) (hx : RdI w w.heap.size A xs)
    (hn' : Hid (n' = cs.length)) (hl' : cs.length ≤ maxLen) (hc : RdC w w.heap.size A' (cs.map (Value.int .i64))) (hcb : ∀ z ∈ cs, -9223372036854775808 ≤ z ∧ z ≤ 9223372036854775807) :
    Calls Try.prog 6 #[.slice A n c, .slice A' n' c'] w fun e w' => e = .returned (.bool true) ∧ Below w.heap.size w w' := by
  obtain rfl := hn.out
  obtain rfl := hn'.out
  clear hn hn'
  unfold maxLen at hl hl'
  by_cases h30 : 30 < xs.length
  · have h30' : (30 : Int) < (xs.length : Int) := by omega
    go_enter Try.func6, Try.ntmps6
    go_wp2_with fail
    refine (awake_any _).mono ?_
    rintro e w1 ⟨rfl, hb1⟩
    go_wp2
    go_ret
    exact ⟨rfl, hb1⟩
  · have h30' : ¬ (30 : Int) < (xs.length : Int) := by omega
    by_cases hsh : cs.length < xs.length
    · have hsh' : (cs.length : Int) < (xs.length : Int) := by omega
      go_enter Try.func6, Try.ntmps6
      go_wp2_with fail
      refine (awake_any _).mono ?_
      rintro e w1 ⟨rfl, hb1⟩
      go_wp2
      go_ret
      exact ⟨rfl, hb1⟩
    · have hsh' : ¬ (cs.length : Int) < (xs.length : Int) := by omega
      have hsum := fun (W : World) (h : RdI W W.heap.size A xs) => sSum_any A xs.length c xs W h (Lib.hid rfl)
      by_cases hok : (sumR xs).2 = 0
      · obtain ⟨he, hr⟩ : err1 xs = 0 ∧ sumR xs = ((loN xs, hiN xs), 0) := by
          unfold sumR at hok ⊢
          by_cases he : err1 xs = 0
          · rw [if_pos he] at hok ⊢
            unfold rngd at hok ⊢
            by_cases hi : inR (loN xs, hiN xs) = true
            · rw [if_pos hi]; exact ⟨he, rfl⟩
            · rw [if_neg hi] at hok; cases hok
          · rw [if_neg he] at hok; exact absurd hok he
        rw [hr] at hsum
        have HS := Lib.hid hsum
        clear hsum hok hr
        have hlists := fun (W : World) (h : RdI W W.heap.size A xs) => rListsN_any A xs.length c xs W h (Lib.hid rfl)
        rw [he] at hlists
        have HL := Lib.hid hlists
        obtain ⟨_, hin, hle⟩ := err1_ok he
        clear hlists he
        go_enter Try.func6, Try.ntmps6
        go_wp2_with fail
        refine (awake_any _).mono ?_
        rintro e w1 ⟨rfl, hb1⟩
        go_wp2_with fail
        refine (HS.out _ ((hx.below hb1).more hb1.size)).mono ?_
        rintro e w2 ⟨rfl, hb2⟩
        have hb := bthen hb1 hb2
        clear hb1 hb2
        go_wp2_with fail
        refine (HL.out _ ((hx.below (bnew hb _)).more (bnew hb _).size)).mono ?_
        rintro e w3 ⟨rfl, hb3⟩
        have k1 := keepc (p := ⟨w2.heap.size, 0, none⟩) (v := .int .i64 (loN xs)) (by go_simp) hb3
        have k2 := keepc (p := ⟨w2.heap.size, 1, none⟩) (v := .int .i64 (hiN xs)) (by go_simp) hb3
        have hb' := bthen (bnew hb _) hb3
        clear hb hb3
        go_wp2
        go_loopw [7, 8, 9, 10] (fun s l h i wr => ∃ (k : Nat) (S : Int), k ≤ xs.length ∧ i = .int .i64 k ∧ s = .int .i64 S ∧ l = .int .i64 (loN (xs.take k)) ∧ h = .int .i64 (hiN (xs.take k)) ∧ Picked xs k S ∧ Below w3.heap.size w3 wr) (fun _ _ _ i _ => xs.length - (intOf i).toNat)
        case atStart => exact ⟨0, 0, Nat.zero_le _, rfl, rfl, rfl, rfl, ⟨Int.le_refl _, Int.le_refl _⟩, Below.refl _ _⟩
        case round =>
          obtain ⟨k, S, hk, rfl, rfl, rfl, rfl, hp, hb⟩ := hrel
          have hsb := sums_bd (xs.take k) (fun y hy => hin y (List.mem_of_mem_take hy))
          rw [List.length_take, Nat.min_eq_left hk] at hsb
          by_cases hlt : k < xs.length
          · obtain ⟨b, off, x, rfl, hB, hx', h1, h2⟩ := ((hx.below hb').more hb'.size |>.below hb) k hlt
            have hxb := (inR_iff x).1 (hin x (List.mem_of_getElem? hx'))
            have hxl := hle x (List.mem_of_getElem? hx')
            have HS' := Lib.hid (sums_snoc (xs.take k) x)
            have HT := Lib.hid (take_snocI hx')
            clear hx'
            have hkc : k < cs.length := by omega
            obtain ⟨b', off', rfl, hB', hcc⟩ : ∃ b' off', A' = some ⟨b', off', none⟩ ∧ b' < w3.heap.size ∧ wr.cell? ⟨b', off' + k, none⟩ = some (.int .i64 cs[k]) := by
              rcases ((hc.below hb').more hb'.size |>.below hb) with h | ⟨b', off', rfl, hB', h⟩
              · simp at h; rw [h] at hkc; simp at hkc
              · exact ⟨b', off', rfl, hB', h k _ (by rw [List.getElem?_map, List.getElem?_eq_getElem hkc]; rfl)⟩
            have hzb := hcb cs[k] (List.getElem_mem hkc)
            generalize cs[k] = z at hcc hzb
            have hpb := pick_bd (c := z) hxl
            obtain ⟨hp1, hp2⟩ := hp
            generalize loN (xs.take k) = lo at hsb HS' hp1 ⊢
            generalize hiN (xs.take k) = hi at hsb HS' hp2 ⊢
            have hkx : (k : Int) < (xs.length : Int) := by omega
            have hkz : (k : Int) < (cs.length : Int) := by omega
            have hlen : ∀ w, Calls Try.prog 18 #[.agg #[.int .i64 x.1, .int .i64 x.2]] w fun e w' => e = .returned (.int .i64 (x.2 - x.1 + 1)) ∧ Below w.heap.size w w' := fun w => by
              have := rLength_any x w
              rwa [lenI_valid ⟨by omega, hxl, by omega⟩] at this
            obtain ⟨d, hd⟩ : ∃ d, d = x.2 - x.1 + 1 := ⟨_, rfl⟩
            rw [← hd] at hlen
            have HLn := Lib.hid hlen
            have hd0 : 0 < d := by omega
            have hd1 : d ≤ 2000000000001 := by omega
            have HD := Lib.hid hd
            clear hlen hd
            have hdz : (d == 0) = false := by simp; omega
            have hdn : d ≠ 0 := by omega
            have hwd : IntKind.u64.wrap d = d := by rw [IntKind.wrap_u64]; omega
            obtain ⟨u, hu⟩ : ∃ u, u = IntKind.u64.wrap z := ⟨_, rfl⟩
            have hu0 : 0 ≤ u ∧ u ≤ 18446744073709551615 := by rw [hu, IntKind.wrap_u64]; omega
            go_wp2
            go_region_held3 (fun w' => w'.cell? ⟨b, off + k * 2, none⟩ = some (.int .i64 x.1) ∧ w'.cell? ⟨b, off + k * 2 + 1, none⟩ = some (.int .i64 x.2) ∧ w'.cell? ⟨b', off' + k, none⟩ = some (.int .i64 z) ∧ Below w3.heap.size w3 w') (first | exact keep3 (by assumption) hbl | exact ⟨h1, h2, hcc, hb.drew⟩) ((go_at_call 18; refine (HLn.out _).mono ?_; rintro e w' ⟨rfl, hbl⟩))
            rename_i hS
            have HP := Lib.hid (pick_walk (c := z) (S := S) HD.out hxl ⟨hxb.1, hxb.2.2.2⟩ (by omega))
            clear hu
            go_wp2
            go_roundw
            case rel =>
              refine ⟨k + 1, S + (x.1 + pickN z x), by omega, by go_num, by rw [HP.out], by rw [HT.out, HS'.out.1], by rw [HT.out, HS'.out.2], ?_, hS.2.2.2⟩
              unfold Picked
              rw [HT.out, HS'.out.1, HS'.out.2]
              omega
            case measure => simp [intOf]; omega
          · have hk' : k = xs.length := by omega
            subst hk'
            unfold Picked at hp
            rw [List.take_length] at hp
            have q1 := keepc k1 hb
            have q2 := keepc k2 hb
            have hcon := fun w => sContains_any (loN xs, hiN xs) S w
            rw [show inB (loN xs, hiN xs) S = true by simp [inB]; omega] at hcon
            have HC := Lib.hid hcon
            have HT1 : Hid (loN (xs.take xs.length) = loN xs) := Lib.hid (by rw [List.take_length])
            have HT2 : Hid (hiN (xs.take xs.length) = hiN xs) := Lib.hid (by rw [List.take_length])
            clear hcon k1 k2 hsb hp
            rw [HT1.out, HT2.out]
            go_wp2_with fail
            refine (HC.out _).mono ?_
            rintro e w4 ⟨rfl, hb4⟩
            have q1 := keepc q1 hb4
            have q2 := keepc q2 hb4
            go_wp2
            go_ret
            exact ⟨rfl, (hb'.trans (hb.mono hb'.size)).trans (hb4.mono (by have := hb'.size; have := hb.size; omega))⟩
      · have hz : (sumR xs).1 = (0, 0) := by
          unfold sumR at hok ⊢
          by_cases he : err1 xs = 0
          · rw [if_pos he] at hok ⊢
            unfold rngd at hok ⊢
            by_cases hi : inR (loN xs, hiN xs) = true
            · rw [if_pos hi] at hok; exact absurd rfl hok
            · rw [if_neg hi]
          · rw [if_neg he]
        rw [hz] at hsum
        generalize (sumR xs).2 = ee at hsum hok
        have HS := Lib.hid hsum
        have hne : (ee != 0) = true := by simpa using hok
        have hne' : (ee == 0) = false := by simpa using hok
        have e1 := fun w => eqIv (0, 0) (0, 0) w
        simp only [decide_true] at e1
        clear hsum hz hok
        go_enter Try.func6, Try.ntmps6
        go_wp2_with fail
        refine (awake_any _).mono ?_
        rintro e w1 ⟨rfl, hb1⟩
        go_wp2_with fail
        refine (HS.out _ ((hx.below hb1).more hb1.size)).mono ?_
        rintro e w2 ⟨rfl, hb2⟩
        have hb := bthen hb1 hb2
        clear hb1 hb2
        go_wp2
        go_ret
        exact ⟨rfl, bnew hb _⟩
end Go.Proofs.Ytekjhdpadddkpaa
