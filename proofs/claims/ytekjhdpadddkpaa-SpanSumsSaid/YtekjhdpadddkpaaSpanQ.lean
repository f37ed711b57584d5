/- The walk of SpanSums. -/
import Derived.Test.YtekjhdpadddkpaaSpanN
namespace Go.Proofs.Ytekjhdpadddkpaa
open Go.RowKit

set_option maxHeartbeats 1600000 in
theorem sums_walk (A : Option Addr) (n c : Nat) (xs : List (Int × Int)) (w : World) (hn : Hid (n = xs.length)) (hl : xs.length ≤ maxLen) (hx : RdI w w.heap.size A xs) :
    Calls Try.prog 5 #[.slice A n c] w fun e w' => e = .returned (.bool true) ∧ Below w.heap.size w w' := by
  obtain rfl := hn.out
  clear hn
  unfold maxLen at hl
  by_cases h30 : 30 < xs.length
  · have h30' : (30 : Int) < (xs.length : Int) := by omega
    go_enter Try.func5, Try.ntmps5
    go_wp2_with fail
    refine (awake_any _).mono ?_
    rintro e w1 ⟨rfl, hb1⟩
    go_wp2
    go_ret
    exact ⟨rfl, hb1⟩
  · have h30' : ¬ (30 : Int) < (xs.length : Int) := by omega
    have hs := fun (W : World) (h : RdI W W.heap.size A xs) => sSum_any A xs.length c xs W h (Lib.hid rfl)
    have hr := fun (W : World) (h : RdI W W.heap.size A xs) => rSum_any A xs.length c xs W h (Lib.hid rfl)
    generalize sumR xs = R at hs hr
    have HS := Lib.hid hs
    have HR := Lib.hid hr
    clear hs hr
    have e1 := fun w => eqIv R.1 R.1 w
    simp only [decide_true] at e1
    go_enter Try.func5, Try.ntmps5
    go_wp2_with fail
    refine (awake_any _).mono ?_
    rintro e w1 ⟨rfl, hb1⟩
    go_wp2_with fail
    refine (HS.out _ ((hx.below hb1).more hb1.size)).mono ?_
    rintro e w2 ⟨rfl, hb2⟩
    have hb := bthen hb1 hb2
    clear hb1 hb2
    go_wp2_with fail
    refine (HR.out _ ((hx.below (bnew hb _)).more (bnew hb _).size)).mono ?_
    rintro e w3 ⟨rfl, hb3⟩
    have k1 := keepc (p := ⟨w2.heap.size, 0, none⟩) (v := .int .i64 R.1.1) (by go_simp) hb3
    have k2 := keepc (p := ⟨w2.heap.size, 1, none⟩) (v := .int .i64 R.1.2) (by go_simp) hb3
    have z := lt_of_cell k1
    have hb' := bthen (bnew hb _) hb3
    clear hb hb3
    go_wp2
    go_ret
    exact ⟨rfl, bnew hb' _⟩
end Go.Proofs.Ytekjhdpadddkpaa
