/- The walks of the reference's add and ends. -/
import Derived.Test.YtekjhdpadddkpaaSpanYa
import Derived.Test.YtekjhdpadddkpaaSpanT
import Derived.Deep.AppendLies
import Derived.Deep.RegionHeld3
import Derived.Deep.RegionLaw
namespace Go.Proofs.Ytekjhdpadddkpaa
open Go.RowKit

/-- The function hands back a slice that reads as zs; what was there has not turned. -/
def RetN (w : World) (zs : List Int) (e : Ending) (w' : World) : Prop := ∃ b off c, e = .returned (.slice (some ⟨b, off, none⟩) zs.length c) ∧ zs.length ≤ c ∧ c ≤ maxLen ∧ RdN w' w'.heap.size (some ⟨b, off, none⟩) zs ∧ Below w.heap.size w w'
theorem RetN.mk {w w' : World} {zs ys : List Int} {b off n c : Nat} (hz : Hid (zs = ys)) (hn : n = ys.length) (h1 : ys.length ≤ c) (h2 : c ≤ maxLen) (h3 : RdN w' w'.heap.size (some ⟨b, off, none⟩) ys) (h4 : Below w.heap.size w w') : RetN w zs (.returned (.slice (some ⟨b, off, none⟩) n c)) w' := by
  obtain rfl := hz.out
  subst hn
  exact ⟨b, off, c, rfl, h1, h2, h3, h4⟩
theorem RetN.own {w w' : World} {zs ys : List Int} {v : Value} {n base : Nat} (hz : Hid (zs = ys)) (hn : n = ys.length) (hp : 0 < n) (h : w'.ownsRow base 3 1 v n (cellsN ys)) (h4 : Below w.heap.size w w') : RetN w zs (.returned v) w' := by
  obtain rfl := hz.out
  subst hn
  obtain ⟨A, c, rfl, h1, h2, h3⟩ := OwnN.form (w := w') (base := base) (v := v) (xs := zs) h
  obtain ⟨b, off, _, hA, _⟩ := h3 0 hp
  subst hA
  exact ⟨b, off, c, rfl, h1, h2, h3, h4⟩
theorem RdN.dropIf {w : World} {B b off c : Nat} {xs : List Int} (h : RdN w B (some ⟨b, off, none⟩) xs) (hc : xs.length ≤ c) (k : Nat) : RdC w B (if c = k then some ⟨b, off, none⟩ else some ⟨b, off + k, none⟩) (cellsN (xs.drop k)) := by
  by_cases e : c = k
  · rw [if_pos e, List.drop_eq_nil_of_le (by omega)]; exact .inl rfl
  · rw [if_neg e]; exact h.dropC k

section
variable {P : Program} {w : World}
theorem step_append_rd {ops : Array Oper} {o : Oper} {a : Act} {K : Act → World → Prop} {Q : Exit → Act → World → Prop} {E : Prop} (hgd : o.guard = none) (s x : Operand) (t : TypeId)
    (ho : o.op = .call { callee := .builtin .append, args := #[s, x], argTypes := #[t, t] })
    (base : Nat) (e : TypeId) (i : TypeInfo) (z : Value) (size bytes : Nat) (ht : P.underlying t = some (.slice e)) (hi : P.info? e = some i) (hz : i.zero = some z)
    (hsize : i.size = size) (hby : i.bytes = bytes) (hzs : z.cells.size = size) (hsz : 0 < size)
    (v : Value) (n : Nat) (xs : List Value) (hs : a.eval s = v) (hown : w.ownsRow base e size v n xs)
    (B : Nat) (A : Option Addr) (m c : Nat) (news : List Value) (hx : a.eval x = .slice A m c) (hl : news.length = m * size) (hr : RdC w B A news) (h1 : ∀ u ∈ news, u.oneCell' = true)
    (h63 : n + m ≤ maxLen) (hbytes : (n + m) * bytes ≤ 140737488355328) (hbase : base ≤ w.heap.size)
    (h : ∀ v' w', w'.ownsRow base e size v' (n + m) (xs ++ news) → w.grownBy w' v.ownBlock → (v'.ownBlock = v.ownBlock ∨ v'.ownBlock = some w.heap.size) → K (a.put o.dst v') w') :
    if Region.wanted o (yielded ops a.tmps) = true then Oper.wp P o a w K Q else E := by
  have hw : Region.wanted o (yielded ops a.tmps) = true := by simp [Region.wanted, hgd]
  rw [if_pos hw]
  exact wp_append_rd w s x t ho base e i z size bytes ht hi hz hsize hby hzs hsz v n xs hs hown B A m c news hx hl hr h1 h63 hbytes hbase h
end

theorem own_made0 {w : World} {base : Nat} (hb : base ≤ w.heap.size) (e : TypeId) (size : Nat) : (w.alloc (.cells #[] e)).ownsRow base e size (.slice (some ⟨w.heap.size, 0, none⟩) 0 0) 0 [] := World.ownsRow_made w #[] 0 hb (Nat.zero_le _) (by simp)
theorem own_made1 {w : World} {base : Nat} (hb : base ≤ w.heap.size) (o : Obj) (e : TypeId) (size : Nat) : ((w.alloc o).alloc (.cells #[] e)).ownsRow base e size (.slice (some ⟨w.heap.size + 1, 0, none⟩) 0 0) 0 [] := by
  have := own_made0 (w := w.alloc o) (base := base) (by simp; omega) e size
  rwa [show (w.alloc o).heap.size = w.heap.size + 1 by simp] at this
theorem RdC.oneV {w : World} {B g : Nat} {a : Value} (h1 : w.cell? ⟨g, 0, none⟩ = some a) (hB : g < B) : RdC w B (some ⟨g, 0, none⟩) [a] := by
  refine .inr ⟨g, 0, rfl, hB, fun j u hu => ?_⟩
  match j, hu with
  | 0, hu => simp at hu; subst hu; exact h1
  | j + 1, hu => simp at hu

set_option maxHeartbeats 6400000 in
theorem radd_any (b off n c : Nat) (xs : List Int) (m : Int) (w : World) (hx : RdN w w.heap.size (some ⟨b, off, none⟩) xs) (hn : Hid (n = xs.length)) (hc : n ≤ c) (hcm : c ≤ maxLen) (hlen : xs.length ≤ 1099511627776) :
    Calls Try.prog 62 #[.slice (some ⟨b, off, none⟩) n c, .int .i64 m] w (RetN w (insN xs m)) := by
  obtain rfl := hn.out
  clear hn
  unfold maxLen at hcm
  obtain ⟨i0, hi0, hz0, hz1, hz2⟩ := info_parts Try.infoInt
  go_enter Try.func62, Try.ntmps62
  go_wp2
  go_loopw [5] (fun i wr => ∃ k : Nat, k ≤ xs.length ∧ i = .int .i64 k ∧ (∀ j x, j < k → xs[j]? = some x → x < m) ∧ Below w.heap.size w wr) (fun i _ => xs.length - (intOf i).toNat)
  case atStart => exact ⟨0, Nat.zero_le _, rfl, fun j x h => absurd h (by omega), Below.refl _ _⟩
  case round =>
    obtain ⟨k, hk, rfl, hu, hb⟩ := hrel
    have hkc : (k : Int) ≤ (c : Int) := by omega
    have hk0 : (0 : Int) ≤ (k : Int) := by omega
    have hkn : (k : Int) ≤ (xs.length : Int) := by omega
    by_cases hlt : k < xs.length
    · obtain ⟨b', off', x, hAA, hB, hx', h1⟩ := (hx.below hb) k hlt
      cases hAA
      by_cases hxm : x < m
      · have HU : Hid (∀ j x, j < k + 1 → xs[j]? = some x → x < m) := Lib.hid (fun j y hj hy => by
          by_cases e : j = k
          · subst e; rw [hx'] at hy; cases hy; exact hxm
          · exact hu j y (by omega) hy)
        clear hu hx'
        go_wp2
        go_roundw
        case rel => exact ⟨k + 1, by omega, by go_num, HU.out, hb⟩
        case measure => simp [intOf]; omega
      · have hat := insN_at (n := m) hk hu (fun y hy => by rw [hx'] at hy; cases hy; omega)
        by_cases hxe : x = m
        · subst hxe
          rw [if_pos hx'] at hat
          have HA := Lib.hid hat
          clear hat hx' hu
          go_wp2
          go_ret
          exact .mk HA rfl hc hcm ((hx.below hb).more hb.size) hb
        · rw [if_neg (by rw [hx']; simp; omega)] at hat
          have HA := Lib.hid hat
          clear hat hx' hu
          go_wp2_with fail
          have hsz := hb.size
          have b1 : ∀ o, Below w.heap.size w (wr.drew.alloc o) := fun o => (hb.drew).alloc hsz o
          have b2 : ∀ o o', Below w.heap.size w ((wr.drew.alloc o).alloc o') := fun o o' => (b1 o).alloc (b1 o).size o'
          have c1 : ∀ o, RdC (wr.drew.alloc o) w.heap.size (some ⟨b, off, none⟩) (cellsN (xs.take k)) := fun o => (hx.below (b1 o)).takeC k
          have c2 : ∀ o o', RdC ((wr.drew.alloc o).alloc o') w.heap.size (some ⟨b, off, none⟩) (cellsN (xs.take k)) := fun o o' => (hx.below (b2 o o')).takeC k
          have hB39 : ((wr.drew.alloc (.cells #[] 3)).alloc (.cells #[.int .i64 m] 3)).cell? ⟨wr.heap.size + 1, 0, none⟩ = some (.int .i64 m) := by go_simp
          have hC39 : ((wr.drew.alloc (.cells #[.int .i64 m] 3)).alloc (.cells #[] 3)).cell? ⟨wr.heap.size, 0, none⟩ = some (.int .i64 m) := by go_simp
          have neB : some (wr.heap.size + 1) ≠ some wr.heap.size := by simp
          have neC : some wr.heap.size ≠ some (wr.heap.size + 1) := by simp
          have hlk : (cellsN (xs.take k)).length = k * 1 := by simp [cellsN]; omega
          have hl1 : (cellsN [m]).length = 1 * 1 := rfl
          have hld : (cellsN (xs.drop k)).length = (xs.length - k) * 1 := by simp [cellsN]
          have hfin : cellsN (xs.take k) ++ cellsN [m] ++ cellsN (xs.drop k) = cellsN (xs.take k ++ [m] ++ xs.drop k) := by simp [cellsN]
          have hflen : k + 1 + (xs.length - k) = (xs.take k ++ [m] ++ xs.drop k).length := by simp; omega
          go_region_law (first
            | (refine step_append_rd (by rfl) (.tmp 33) (.tmp 36) _ (by rfl) w.heap.size 3 i0 _ 1 8 Try.underlying36 hi0 hz0 hz1 hz2 rfl (by omega) _ 0 [] (by rfl)
                (by first | exact own_made0 hsz _ _ | exact (own_made0 hsz _ _).alloc _ | exact own_made1 hsz _ _ _) w.heap.size _ k _ (cellsN (xs.take k)) (by rfl) hlk (by first | exact c1 _ | exact c2 _ _) cellsN_one (by simp only [maxLen]; omega) (by omega) (by first | exact (b1 _).size | exact (b2 _ _).size) ?_
               intro v1 w1 hown1 hgrow1 hat1
               replace hown1 : w1.ownsRow w.heap.size 3 1 v1 k (cellsN (xs.take k)) := by simpa using hown1
               have hb1 : Below w.heap.size w w1 := by
                 first
                   | exact (b1 _).grown hgrow1 (b1 _).size (fun g hg => ((own_made0 hsz 3 1).lt g hg).1)
                   | exact (b2 _ _).grown hgrow1 (b2 _ _).size (fun g hg => ((own_made0 hsz 3 1).lt g hg).1)
                   | exact (b2 _ _).grown hgrow1 (b2 _ _).size (fun g hg => ((own_made1 (w := wr.drew) hsz (.cells #[.int .i64 m] 3) 3 1).lt g hg).1)
               first
                 | have hone := hgrow1.cell hB39 neB
                 | have hone := hgrow1.cell hC39 neC
                 | have hone := True.intro
               clear hat1 hgrow1)
            | (refine step_append_rd (by rfl) (.tmp 37) (.tmp 39) _ (by rfl) w.heap.size 3 i0 _ 1 8 Try.underlying36 hi0 hz0 hz1 hz2 rfl (by omega) _ k (cellsN (xs.take k)) (by rfl)
                (by first | exact hown1 | exact hown1.alloc _) _ _ 1 _ (cellsN [m]) (by rfl) hl1 (by first | exact RdC.oneV (by go_simp) (Nat.lt_succ_self _) | exact RdC.oneV hone (Nat.lt_succ_self _)) cellsN_one (by simp only [maxLen]; omega) (by omega) (by first | exact hb1.size | exact (bnew hb1 _).size) ?_
               intro v2 w2 hown2 hgrow2 hat2
               have hb2 : Below w.heap.size w w2 := by
                 first
                   | exact hb1.grown hgrow2 hb1.size (fun g hg => (hown1.lt g hg).1)
                   | exact (bnew hb1 _).grown hgrow2 (bnew hb1 _).size (fun g hg => (hown1.lt g hg).1)
               clear hat2 hgrow2)
            | (refine step_append_rd (by rfl) (.tmp 40) (.tmp 43) _ (by rfl) w.heap.size 3 i0 _ 1 8 Try.underlying36 hi0 hz0 hz1 hz2 rfl (by omega) _ (k + 1) _ (by rfl)
                hown2 w.heap.size _ (xs.length - k) _ (cellsN (xs.drop k)) (by rfl) hld ((hx.below hb2).dropIf hc k) cellsN_one (by simp only [maxLen]; omega) (by omega) hb2.size ?_
               intro v3 w3 hown3 hgrow3 hat3
               replace hown3 : w3.ownsRow w.heap.size 3 1 v3 (k + 1 + (xs.length - k)) (cellsN (xs.take k ++ [m] ++ xs.drop k)) := by rw [← hfin]; exact hown3
               have hb3 : Below w.heap.size w w3 := hb2.grown hgrow3 hb2.size (fun g hg => (hown2.lt g hg).1)
               clear hat3 hgrow3))
          all_goals try go_wp2
          all_goals go_ret
          all_goals exact .own HA hflen (by omega) hown3 hb3
    · have hat := insN_at (n := m) hk hu (fun y hy => by rw [List.getElem?_eq_none (by omega)] at hy; cases hy)
      rw [if_neg (by rw [List.getElem?_eq_none (by omega)]; simp)] at hat
      have HA := Lib.hid hat
      clear hat hu
      go_wp2_with fail
      have hsz := hb.size
      have b1 : ∀ o, Below w.heap.size w (wr.drew.alloc o) := fun o => (hb.drew).alloc hsz o
      have b2 : ∀ o o', Below w.heap.size w ((wr.drew.alloc o).alloc o') := fun o o' => (b1 o).alloc (b1 o).size o'
      have c1 : ∀ o, RdC (wr.drew.alloc o) w.heap.size (some ⟨b, off, none⟩) (cellsN (xs.take k)) := fun o => (hx.below (b1 o)).takeC k
      have c2 : ∀ o o', RdC ((wr.drew.alloc o).alloc o') w.heap.size (some ⟨b, off, none⟩) (cellsN (xs.take k)) := fun o o' => (hx.below (b2 o o')).takeC k
      have hB39 : ((wr.drew.alloc (.cells #[] 3)).alloc (.cells #[.int .i64 m] 3)).cell? ⟨wr.heap.size + 1, 0, none⟩ = some (.int .i64 m) := by go_simp
      have hC39 : ((wr.drew.alloc (.cells #[.int .i64 m] 3)).alloc (.cells #[] 3)).cell? ⟨wr.heap.size, 0, none⟩ = some (.int .i64 m) := by go_simp
      have neB : some (wr.heap.size + 1) ≠ some wr.heap.size := by simp
      have neC : some wr.heap.size ≠ some (wr.heap.size + 1) := by simp
      have hlk : (cellsN (xs.take k)).length = k * 1 := by simp [cellsN]; omega
      have hl1 : (cellsN [m]).length = 1 * 1 := rfl
      have hld : (cellsN (xs.drop k)).length = (xs.length - k) * 1 := by simp [cellsN]
      have hfin : cellsN (xs.take k) ++ cellsN [m] ++ cellsN (xs.drop k) = cellsN (xs.take k ++ [m] ++ xs.drop k) := by simp [cellsN]
      have hflen : k + 1 + (xs.length - k) = (xs.take k ++ [m] ++ xs.drop k).length := by simp; omega
      go_region_law (first
        | (refine step_append_rd (by rfl) (.tmp 33) (.tmp 36) _ (by rfl) w.heap.size 3 i0 _ 1 8 Try.underlying36 hi0 hz0 hz1 hz2 rfl (by omega) _ 0 [] (by rfl)
            (by first | exact own_made0 hsz _ _ | exact (own_made0 hsz _ _).alloc _ | exact own_made1 hsz _ _ _) w.heap.size _ k _ (cellsN (xs.take k)) (by rfl) hlk (by first | exact c1 _ | exact c2 _ _) cellsN_one (by simp only [maxLen]; omega) (by omega) (by first | exact (b1 _).size | exact (b2 _ _).size) ?_
           intro v1 w1 hown1 hgrow1 hat1
           replace hown1 : w1.ownsRow w.heap.size 3 1 v1 k (cellsN (xs.take k)) := by simpa using hown1
           have hb1 : Below w.heap.size w w1 := by
             first
               | exact (b1 _).grown hgrow1 (b1 _).size (fun g hg => ((own_made0 hsz 3 1).lt g hg).1)
               | exact (b2 _ _).grown hgrow1 (b2 _ _).size (fun g hg => ((own_made0 hsz 3 1).lt g hg).1)
               | exact (b2 _ _).grown hgrow1 (b2 _ _).size (fun g hg => ((own_made1 (w := wr.drew) hsz (.cells #[.int .i64 m] 3) 3 1).lt g hg).1)
           first
             | have hone := hgrow1.cell hB39 neB
             | have hone := hgrow1.cell hC39 neC
             | have hone := True.intro
           clear hat1 hgrow1)
        | (refine step_append_rd (by rfl) (.tmp 37) (.tmp 39) _ (by rfl) w.heap.size 3 i0 _ 1 8 Try.underlying36 hi0 hz0 hz1 hz2 rfl (by omega) _ k (cellsN (xs.take k)) (by rfl)
            (by first | exact hown1 | exact hown1.alloc _) _ _ 1 _ (cellsN [m]) (by rfl) hl1 (by first | exact RdC.oneV (by go_simp) (Nat.lt_succ_self _) | exact RdC.oneV hone (Nat.lt_succ_self _)) cellsN_one (by simp only [maxLen]; omega) (by omega) (by first | exact hb1.size | exact (bnew hb1 _).size) ?_
           intro v2 w2 hown2 hgrow2 hat2
           have hb2 : Below w.heap.size w w2 := by
             first
               | exact hb1.grown hgrow2 hb1.size (fun g hg => (hown1.lt g hg).1)
               | exact (bnew hb1 _).grown hgrow2 (bnew hb1 _).size (fun g hg => (hown1.lt g hg).1)
           clear hat2 hgrow2)
        | (refine step_append_rd (by rfl) (.tmp 40) (.tmp 43) _ (by rfl) w.heap.size 3 i0 _ 1 8 Try.underlying36 hi0 hz0 hz1 hz2 rfl (by omega) _ (k + 1) _ (by rfl)
            hown2 w.heap.size _ (xs.length - k) _ (cellsN (xs.drop k)) (by rfl) hld ((hx.below hb2).dropIf hc k) cellsN_one (by simp only [maxLen]; omega) (by omega) hb2.size ?_
           intro v3 w3 hown3 hgrow3 hat3
           replace hown3 : w3.ownsRow w.heap.size 3 1 v3 (k + 1 + (xs.length - k)) (cellsN (xs.take k ++ [m] ++ xs.drop k)) := by rw [← hfin]; exact hown3
           have hb3 : Below w.heap.size w w3 := hb2.grown hgrow3 hb2.size (fun g hg => (hown2.lt g hg).1)
           clear hat3 hgrow3))
      all_goals try go_wp2
      all_goals go_ret
      all_goals exact .own HA hflen (by omega) hown3 hb3

end Go.Proofs.Ytekjhdpadddkpaa
