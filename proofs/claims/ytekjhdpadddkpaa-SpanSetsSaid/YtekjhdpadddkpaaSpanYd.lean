/- The walk of the reference's form. -/
import Derived.Test.YtekjhdpadddkpaaSpanYc
namespace Go.Proofs.Ytekjhdpadddkpaa
open Go.RowKit

theorem ends_bd {xs : List (Int × Int)} (hv : ValidI xs) : ∀ t ∈ endsN xs, -1000000000000 ≤ t ∧ t ≤ 1000000000001 := by
  intro t ht
  obtain ⟨x, hx, h⟩ := (mem_endsN t xs).1 ht
  have := hv x hx
  omega

theorem own_heap {w w' : World} {base : Nat} {e : TypeId} {size n : Nat} {v : Value} {xs : List Value} (h : w.ownsRow base e size v n xs) (he : w'.heap = w.heap) : w'.ownsRow base e size v n xs := by
  unfold World.ownsRow at h ⊢
  rw [he]; exact h
theorem below_same {B : Nat} {w0 w1 w2 : World} (h : Below B w0 w1) (e1 : w2.os = w1.os) (e2 : w2.tape = w1.tape) (e3 : w2.output = w1.output) (e4 : w2.heap = w1.heap) : Below B w0 w2 :=
  ⟨e1.trans h.os, e2.trans h.tape, e3.trans h.output, by rw [e4]; exact h.size, fun k hk => by rw [e4]; exact h.block k hk⟩
theorem RdC.heap {w w' : World} {B : Nat} {A : Option Addr} {cs : List Value} (h : RdC w B A cs) (he : w'.heap = w.heap) : RdC w' B A cs :=
  h.keep fun b off _ => World.cell?_of_block (a := ⟨b, off, none⟩) (by rw [he])
theorem segsN_len (f : Int → Bool) (ps : List (Int × Int)) : (segsN f ps).length ≤ ps.length := by
  simp [segsN, List.length_filter_le]

set_option maxRecDepth 100000 in
set_option maxHeartbeats 6400000 in
theorem rform_any (A : Option Addr) (n c : Nat) (xs : List (Int × Int)) (A' : Option Addr) (n' c' : Nat) (ys : List (Int × Int)) (kd : Int) (w : World) (hx : RdI w w.heap.size A xs) (hn : Hid (n = xs.length)) (hy : RdI w w.heap.size A' ys) (hn' : Hid (n' = ys.length))
    (hkd : kd = 1 ∨ kd = 2 ∨ kd = 3) (hv : ValidI (xs ++ ys)) (hl : xs.length ≤ 100000) (hl' : ys.length ≤ 100000) :
    Calls Try.prog 50 #[.slice A n c, .slice A' n' c', .int .i64 kd] w (RetOwn w fun zs => zs = formN kd xs ys) := by
  obtain rfl := hn.out
  obtain rfl := hn'.out
  clear hn hn'
  obtain ⟨i0, hi0, hz0, hz1, hz2⟩ := info_parts Try.infoIv
  have ha : Below w.heap.size w (w.alloc (.cells #[] 23)) := (Below.refl _ _).alloc (Nat.le_refl _) _
  have q1 : (w.alloc (.cells #[] 23)).ownsRow w.heap.size 23 2 (.slice (some ⟨w.heap.size, 0, none⟩) 0 0) 0 [] := World.ownsRow_made w #[] 0 (Nat.le_refl _) (Nat.zero_le _) (by simp)
  have qm : 0 + xs.length ≤ maxLen := by simp only [maxLen]; omega
  have qb : (0 + xs.length) * 16 ≤ 140737488355328 := by omega
  have qz : w.heap.size ≤ (w.alloc (.cells #[] 23)).heap.size := by simp
  have qm2 : xs.length + ys.length ≤ maxLen := by simp only [maxLen]; omega
  have qb2 : (xs.length + ys.length) * 16 ≤ 140737488355328 := by omega
  go_enter Try.func50, Try.ntmps50
  go_wp2_with (at_builtin; refine wpList_append_rd _ rfl (.tmp 13) (.tmp 14) _ rfl w.heap.size 23 i0 _ 2 16 Try.underlying33 hi0 hz0 hz1 hz2 rfl (by omega) (.slice (some ⟨w.heap.size, 0, none⟩) 0 0) 0 [] rfl q1 w.heap.size A xs.length c (cellsI xs) rfl (length_cellsI xs) (hx.cells.below ha) cellsI_one qm qb qz ?_)
  intro v1 w1 hown hg hat
  have hown : OwnI w1 w.heap.size v1 xs := by simpa [OwnI] using hown
  have hb1 : Below w.heap.size w w1 := ha.grown hg (by simp) (by intro k hk; simp [Value.ownBlock] at hk; omega)
  clear q1 ha qz hat hg
  go_wp2_with (at_builtin; refine wpList_append_rd _ rfl (.tmp 15) (.tmp 16) _ rfl w.heap.size 23 i0 _ 2 16 Try.underlying33 hi0 hz0 hz1 hz2 rfl (by omega) v1 xs.length (cellsI xs) rfl hown w.heap.size A' ys.length c' (cellsI ys) rfl (length_cellsI ys) (hy.cells.below hb1) cellsI_one qm2 qb2 hb1.size ?_)
  intro v2 w2 hown2 hg2 hat2
  have hlt := hown.lt
  have hb2 : Below w.heap.size w w2 := hb1.grown hg2 hb1.size (fun k hk => (hlt k hk).1)
  have hv2 : OwnI w2 w.heap.size v2 (xs ++ ys) := by simpa [OwnI, cellsI_append] using hown2
  obtain ⟨A2, c2, rfl, hr2⟩ := hv2.rd
  clear hown2 hg2 hat2 hlt hown hb1 qm qb qm2 qb2 hv2
  have hal : (xs ++ ys).length ≤ 1000000 := by simp; omega
  go_wp2_with fail
  refine (rends_any A2 _ c2 (xs ++ ys) _ hr2 (Lib.hid (by simp)) hal (fun x hx => by have := hv x hx; omega) (fun x hx => by have := hv x hx; omega)).mono ?_
  rintro e w3 ⟨b, off, ct, rfl, hct, hcm, hrt, hb3⟩
  have hb3' := bthen hb2 hb3
  have hinc := inc_endsN (xs ++ ys)
  have hbd := ends_bd hv
  have hlen := len_endsN (xs ++ ys)
  have HF : Hid (formN kd xs ys = mrg (segsN (fun n => kindB kd (inAny xs n) (inAny ys n)) (pairsN (endsN (xs ++ ys))))) := Lib.hid rfl
  generalize endsN (xs ++ ys) = ts at hct hrt hinc hbd hlen HF ⊢
  obtain ⟨f, hf⟩ : ∃ f : Int → Bool, f = fun n => kindB kd (inAny xs n) (inAny ys n) := ⟨_, rfl⟩
  rw [← hf] at HF
  have Hf := Lib.hid hf
  have hx3 := (hx.below hb3').more hb3'.size
  have hy3 := (hy.below hb3').more hb3'.size
  clear hf hb2 hb3 hr2 hx hy
  unfold maxLen at hcm
  have htl : ts.length ≤ 1000000 := by simp at hlen; omega
  have hm1 : xs.length ≤ maxLen := by simp only [maxLen]; omega
  have hm2 : ys.length ≤ maxLen := by simp only [maxLen]; omega
  clear hlen
  go_wp2
  go_loopw [8, 9] (fun v i wr => ∃ k : Nat, k ≤ ts.length ∧ i = .int .i64 k ∧ OwnI wr w3.heap.size v (mrg (segsN f ((pairsN ts).take k))) ∧ Below w3.heap.size w3 wr) (fun _ i _ => ts.length - (intOf i).toNat)
  case atStart => exact ⟨0, Nat.zero_le _, rfl, World.ownsRow_made w3 #[] 0 (Nat.le_refl _) (Nat.zero_le _) (by simp), bnew (Below.refl _ _) _⟩
  case round =>
    obtain ⟨k, hk, rfl, hvo, hb⟩ := hrel
    by_cases hlt : k + 1 < ts.length
    · obtain ⟨b0, off0, p, hAA, hB, hp, c1⟩ := (hrt.below hb) k (by omega)
      cases hAA
      obtain ⟨b0, off0, q, hAA, _, hq, c2⟩ := (hrt.below hb) (k + 1) hlt
      cases hAA
      obtain ⟨hlast, hstep⟩ := form_step hinc f hp hq
      have hpb := hbd p (List.mem_of_getElem? hp)
      have hqb := hbd q (List.mem_of_getElem? hq)
      have HS := Lib.hid hstep
      clear hstep hp hq
      have hol : (mrg (segsN f ((pairsN ts).take k))).length ≤ k := by
        have h1 := mrg_len (segsN f ((pairsN ts).take k))
        have h2 := segsN_len f ((pairsN ts).take k)
        have h3 := List.length_take_le k (pairsN ts)
        omega
      generalize mrg (segsN f ((pairsN ts).take k)) = out at hvo hlast HS hol
      have hki : ((k : Int) + 1) < (ts.length : Int) := by omega
      have hki' : (k : Int) < (ts.length : Int) := by omega
      go_wp2_with fail
      refine (rIn_any A xs.length c xs p _ ((hx3.below hb).more hb.size) (Lib.hid rfl) hm1).mono ?_
      rintro e w4 ⟨rfl, hb4⟩
      have c1' := keepc c1 hb4
      have c2' := keepc c2 hb4
      have hvo4 : OwnI w4 w3.heap.size _ out := own_below hvo hb4
      have hb4' := bthen hb hb4
      clear c1 c2 hvo hb hb4
      go_wp2_with fail
      refine (rIn_any A' ys.length c' ys p _ ((hy3.below hb4').more hb4'.size) (Lib.hid rfl) hm2).mono ?_
      rintro e w5 ⟨rfl, hb5⟩
      have c1 := keepc c1' hb5
      have c2 := keepc c2' hb5
      have hvo : OwnI w5 w3.heap.size _ out := own_below hvo4 hb5
      have hb := bthen hb4' hb5
      clear c1' c2' hvo4 hb4' hb5
      have HK : Hid (f p = kindB kd (inAny xs p) (inAny ys p)) := Lib.hid (by rw [Hf.out])
      generalize inAny xs p = X at HK ⊢
      generalize inAny ys p = Y at HK ⊢
      have hwz : IntKind.i64.wrap (q - 1) = q - 1 := by rw [IntKind.wrap_i64]; omega
      have HW := Lib.hid hwz
      clear hwz
      go_upto_region 8 with fail
      go_cut [71] (fun v wx => v = .bool (!(f p)) ∧ wx = w5)
      case first =>
        rcases hkd with rfl | rfl | rfl
        all_goals rcases X with _ | _
        all_goals rcases Y with _ | _
        all_goals go_wp2
        all_goals go_meet
        all_goals
          refine ⟨?_, rfl⟩
          rw [HK.out]
          rfl
      case rest =>
        obtain ⟨rfl, rfl⟩ := hcut
        have hstep := HS.out
        rcases hF : f p with _ | _
        · have hFn : (!f p) = true := by simp [hF]
          simp only [hF, Bool.false_eq_true, if_false] at hstep
          have HS2 := Lib.hid hstep
          clear hstep
          rw [← hF, hFn]
          go_wp2
          go_roundw
          case rel => exact ⟨k + 1, by omega, by go_num, by rw [HS2.out]; exact hvo, hb⟩
          case measure => simp [intOf]; omega
        · have hFn : (!f p) = false := by simp [hF]
          simp only [hF, if_true] at hstep
          rw [← hF, hFn]
          rcases hl : out.getLast? with _ | l
          · obtain rfl : out = [] := by simpa using hl
            simp only [hl, List.nil_append] at hstep
            have HS2 := Lib.hid hstep
            clear hstep hl hlast
            obtain ⟨P4, c4, rfl, -⟩ := hvo.rd
            go_wp2
            go_quiet (fail)
            go_wp2_with fail
            have hvoA : ∀ o, (wc.alloc o).ownsRow w3.heap.size 23 2 (.slice P4 (0) c4) (0) (cellsI []) := fun o => World.ownsRow.alloc (w := wc) (by simpa [OwnI] using hvo) o
            have hbA : ∀ o, Below w3.heap.size w3 (wc.alloc o) := fun o => hb.alloc hb.size o
            have hneb : some b ≠ Value.ownBlock (.slice P4 (0) c4) := fun e => by have := (hvo.lt b e.symm).1; omega
            have hr6 : RdC (wc.alloc (.cells #[.int .i64 p, .int .i64 (IntKind.i64.wrap (q - 1))] 23)) (wc.heap.size + 1) (some ⟨wc.heap.size, 0, none⟩) (cellsI [(p, IntKind.i64.wrap (q - 1))]) := by
              show RdC _ _ _ [.int .i64 p, .int .i64 (IntKind.i64.wrap (q - 1))]
              exact RdC.two (by go_simp) (by go_simp) (by omega)
            have hwk : IntKind.i64.wrap ((k : Int) + 1) = (k : Int) + 1 := by rw [IntKind.wrap_i64]; omega
            have hk1 : (0 : Int) ≤ (k : Int) + 1 := by omega
            go_region_held3 (fun w' => w'.cell? ⟨b, off + k, none⟩ = some (.int .i64 p) ∧ w'.cell? ⟨b, off + (k + 1), none⟩ = some (.int .i64 q)) (first | exact ⟨c1, c2⟩ | exact ⟨keepa c1 _, keepa c2 _⟩ | exact ⟨hgrow6.cell (keepa c1 _) hneb, hgrow6.cell (keepa c2 _) hneb⟩)
              ((refine step_append_rd (by rfl) (.tmp 101) (.tmp 113) _ (by rfl) w3.heap.size 23 i0 _ 2 16 Try.underlying33 hi0 hz0 hz1 hz2 rfl (by omega) _ (0) (cellsI []) (by rfl) (own_heap (hvoA _) rfl) _ _ 1 _ (cellsI [(p, IntKind.i64.wrap (q - 1))]) (by rfl) rfl (hr6.heap rfl) cellsI_one (by simp only [maxLen]; omega) (by omega) (below_same (hbA (.cells #[.int .i64 p, .int .i64 (IntKind.i64.wrap (q - 1))] 23)) rfl rfl rfl rfl).size ?_; intro v6 w6 hown6 hgrow6 hat6))
            have hb6 : Below w3.heap.size w3 w6 := by
              refine Below.grown ?_ hgrow6 ?_ (fun g h => (hvo.lt g h).1)
              · exact below_same (hbA (.cells #[.int .i64 p, .int .i64 (IntKind.i64.wrap (q - 1))] 23)) rfl rfl rfl rfl
              · exact (below_same (hbA (.cells #[.int .i64 p, .int .i64 (IntKind.i64.wrap (q - 1))] 23)) rfl rfl rfl rfl).size
            clear hgrow6 hat6 hwk
            go_wp2
            go_roundw
            case rel => exact ⟨k + 1, by omega, by go_num, by rw [HS2.out, ← HW.out]; exact hown6, hb6⟩
            case measure => simp [intOf]; omega
          · obtain ⟨init, rfl⟩ : ∃ init, out = init ++ [l] := by
              have hne : out ≠ [] := by rintro rfl; simp at hl
              refine ⟨out.dropLast, ?_⟩
              have := List.dropLast_concat_getLast hne
              rw [List.getLast?_eq_some_getLast hne] at hl
              cases hl
              exact this.symm
            obtain ⟨hl1, hl2, t0, ht0, hl3⟩ := hlast l hl
            have ht0' := hbd t0 ht0
            simp only [hl, List.dropLast_concat] at hstep
            obtain ⟨g, cap, rfl, hgb, hgl, k1, k2, k3⟩ := hvo.last
            have hil : init.length + 1 ≤ ts.length := by simp at hol; omega
            clear hl hlast
            have hge : (0 : Int) ≤ (init.length : Int) := by omega
            have hix : (init.length : Int) < (init.length : Int) + 1 := by omega
            have hgt : ((init.length : Int) + 1 > 0) := by omega
            by_cases he : l.2 + 1 = p
            · rw [if_pos he] at hstep
              have HS2 := Lib.hid hstep
              have hcd : (l.2 + 1 == p) = true := by simpa using he
              clear hstep
              go_wp2
              go_quiet (fail)
              go_wp2
              go_roundw
              case rel => exact ⟨k + 1, by omega, by go_num, by rw [HS2.out]; exact hvo.setLast rfl _, (below_drewN hb _).setCell hgb _⟩
              case measure => simp [intOf]; omega
            · rw [if_neg he] at hstep
              have HS2 := Lib.hid hstep
              have hcd : (l.2 + 1 == p) = false := by simpa using he
              clear hstep
              have hlen1 : (init ++ [l]).length = init.length + 1 := by simp
              go_wp2
              go_quiet (fail)
              go_wp2_with fail
              have hvoA : ∀ o, (wc.alloc o).ownsRow w3.heap.size 23 2 (.slice (some ⟨g, 0, none⟩) (init.length + 1) cap) (init.length + 1) (cellsI (init ++ [l])) := fun o => World.ownsRow.alloc (w := wc) (by simpa [OwnI] using hvo) o
              have hbA : ∀ o, Below w3.heap.size w3 (wc.alloc o) := fun o => hb.alloc hb.size o
              have hneb : some b ≠ Value.ownBlock (.slice (some ⟨g, 0, none⟩) (init.length + 1) cap) := fun e => by have := (hvo.lt b e.symm).1; omega
              have hr6 : RdC (wc.alloc (.cells #[.int .i64 p, .int .i64 (IntKind.i64.wrap (q - 1))] 23)) (wc.heap.size + 1) (some ⟨wc.heap.size, 0, none⟩) (cellsI [(p, IntKind.i64.wrap (q - 1))]) := by
                show RdC _ _ _ [.int .i64 p, .int .i64 (IntKind.i64.wrap (q - 1))]
                exact RdC.two (by go_simp) (by go_simp) (by omega)
              have hwk : IntKind.i64.wrap ((k : Int) + 1) = (k : Int) + 1 := by rw [IntKind.wrap_i64]; omega
              have hk1 : (0 : Int) ≤ (k : Int) + 1 := by omega
              go_region_held3 (fun w' => w'.cell? ⟨b, off + k, none⟩ = some (.int .i64 p) ∧ w'.cell? ⟨b, off + (k + 1), none⟩ = some (.int .i64 q)) (first | exact ⟨c1, c2⟩ | exact ⟨keepa c1 _, keepa c2 _⟩ | exact ⟨hgrow6.cell (keepa c1 _) hneb, hgrow6.cell (keepa c2 _) hneb⟩)
                ((refine step_append_rd (by rfl) (.tmp 101) (.tmp 113) _ (by rfl) w3.heap.size 23 i0 _ 2 16 Try.underlying33 hi0 hz0 hz1 hz2 rfl (by omega) _ (init.length + 1) (cellsI (init ++ [l])) (by rfl) (own_heap (hvoA _) rfl) _ _ 1 _ (cellsI [(p, IntKind.i64.wrap (q - 1))]) (by rfl) rfl (hr6.heap rfl) cellsI_one (by simp only [maxLen]; omega) (by omega) (below_same (hbA (.cells #[.int .i64 p, .int .i64 (IntKind.i64.wrap (q - 1))] 23)) rfl rfl rfl rfl).size ?_; intro v6 w6 hown6 hgrow6 hat6))
              have hb6 : Below w3.heap.size w3 w6 := by
                refine Below.grown ?_ hgrow6 ?_ (fun g h => (hvo.lt g h).1)
                · exact below_same (hbA (.cells #[.int .i64 p, .int .i64 (IntKind.i64.wrap (q - 1))] 23)) rfl rfl rfl rfl
                · exact (below_same (hbA (.cells #[.int .i64 p, .int .i64 (IntKind.i64.wrap (q - 1))] 23)) rfl rfl rfl rfl).size
              clear hgrow6 hat6 hwk
              go_wp2
              go_roundw
              case rel => exact ⟨k + 1, by omega, by go_num, by rw [HS2.out, ← HW.out]; unfold OwnI; rw [show (init ++ [l] ++ [(p, IntKind.i64.wrap (q - 1))]).length = init.length + 1 + 1 by simp, cellsI_append (init ++ [l])]; exact hown6, hb6⟩
              case measure => simp [intOf]; omega
    · have hk' : (pairsN ts).take k = pairsN ts := List.take_of_length_le (by rw [len_pairsN]; omega)
      rw [hk'] at hvo
      go_wp2
      go_ret
      exact ⟨_, _, rfl, own_base hvo hb3'.size, HF.out.symm, bthen hb3' hb⟩
end Go.Proofs.Ytekjhdpadddkpaa
