/- The walk of the reference's ends. -/
import Derived.Test.YtekjhdpadddkpaaSpanYb
namespace Go.Proofs.Ytekjhdpadddkpaa
open Go.RowKit

theorem keep2 {w0 w1 w2 : World} {p1 p2 : Addr} {v1 v2 : Value} (h : w1.cell? p1 = some v1 ∧ w1.cell? p2 = some v2 ∧ Below w0.heap.size w0 w1) (hb : Below w1.heap.size w1 w2) :
    w2.cell? p1 = some v1 ∧ w2.cell? p2 = some v2 ∧ Below w0.heap.size w0 w2 :=
  ⟨keepc h.1 hb, keepc h.2.1 hb, h.2.2.trans (hb.mono h.2.2.size)⟩

set_option maxHeartbeats 3200000 in
theorem rends_any (A : Option Addr) (n c : Nat) (xs : List (Int × Int)) (w : World) (hx : RdI w w.heap.size A xs) (hn : Hid (n = xs.length)) (hlen : xs.length ≤ 1000000) (hv : ∀ x ∈ xs, x.2 ≤ 1000000000000000) (hlo : ∀ x ∈ xs, -1000000000000000 ≤ x.2) :
    Calls Try.prog 58 #[.slice A n c] w (RetN w (endsN xs)) := by
  obtain rfl := hn.out
  clear hn
  go_enter Try.func58, Try.ntmps58
  go_wp2
  go_loopw [3, 4] (fun v i wr => ∃ (k b off c : Nat) (ts : List Int), k ≤ xs.length ∧ i = .int .i64 k ∧ v = .slice (some ⟨b, off, none⟩) ts.length c ∧ ts = endsN (xs.take k) ∧ ts.length ≤ c ∧ c ≤ maxLen ∧ RdN wr wr.heap.size (some ⟨b, off, none⟩) ts ∧ Below w.heap.size w wr) (fun _ i _ => xs.length - (intOf i).toNat)
  case atStart => exact ⟨0, w.heap.size, 0, 0, [], Nat.zero_le _, rfl, rfl, rfl, Nat.le_refl _, Nat.zero_le _, RdN.nil _ _ _, bnew (Below.refl _ _) _⟩
  case round =>
    obtain ⟨k, b, off, c', ts, hk, rfl, rfl, hts, hc, hcm, hrt, hb⟩ := hrel
    by_cases hlt : k < xs.length
    · obtain ⟨b0, off0, x, hAA, hB, hx', h1, h2⟩ := (hx.below hb) k hlt
      subst hAA
      have hxb := hv x (List.mem_of_getElem? hx')
      have hne : endsN (xs.take (k + 1)) = insN (insN ts x.1) (x.2 + 1) := by rw [take_snocI hx', endsN_snoc, hts]
      have HN := Lib.hid hne
      have hl0 : ts.length ≤ 2 * k := by rw [hts]; have := len_endsN (xs.take k); simp at this; omega
      have hl1 := len_insN x.1 ts
      have hl2 := len_insN (x.2 + 1) (insN ts x.1)
      have HT := Lib.hid hts
      have HX := Lib.hid hx'
      clear hne hts hx'
      have hrt' : RdN wr.drew wr.drew.heap.size (some ⟨b, off, none⟩) ts := hrt
      have hp0 : ts.length ≤ 1099511627776 := by omega
      have hp1 : (insN ts x.1).length ≤ 1099511627776 := by omega
      have hki : (k : Int) < (xs.length : Int) := by omega
      have hxl := hlo x (List.mem_of_getElem? HX.out)
      have HW : Hid (IntKind.i64.wrap (x.2 + 1) = x.2 + 1) := Lib.hid (by rw [IntKind.wrap_i64]; omega)
      go_wp2_with fail
      go_region_held3 (fun w' => w'.cell? ⟨b0, off0 + k * 2, none⟩ = some (.int .i64 x.1) ∧ w'.cell? ⟨b0, off0 + k * 2 + 1, none⟩ = some (.int .i64 x.2) ∧ Below w.heap.size w w') (first | exact keep2 (by assumption) hbl | exact ⟨h1, h2, hb.drew⟩)
        (first
          | (go_at_call 62; refine (radd_any b1 off1 _ c1 (insN ts x.1) (IntKind.i64.wrap (x.2 + 1)) _ hr1 (Lib.hid rfl) hd1 he1 hp1).mono ?_; rintro e w' ⟨b2, off2, c2, rfl, hd2, he2, hr2, hbl⟩)
          | (go_at_call 62; (fail_if_success have hq := hr1); refine (radd_any b off _ c' ts x.1 _ hrt' (Lib.hid rfl) hc hcm hp0).mono ?_; rintro e w' ⟨b1, off1, c1, rfl, hd1, he1, hr1, hbl⟩))
      rename_i hS
      go_wp2
      go_roundw
      case rel => exact ⟨k + 1, b2, off2, c2, _, by omega, by go_num, rfl, by rw [HW.out, HN.out], hd2, he2, hr2, hS.2.2⟩
      case measure => simp [intOf]; omega
    · have hk' : k = xs.length := by omega
      subst hk'
      have HZ : Hid (endsN xs = ts) := Lib.hid (by rw [hts, List.take_length])
      clear hts
      go_wp2
      go_ret
      exact .mk HZ rfl hc hcm hrt hb
end Go.Proofs.Ytekjhdpadddkpaa
