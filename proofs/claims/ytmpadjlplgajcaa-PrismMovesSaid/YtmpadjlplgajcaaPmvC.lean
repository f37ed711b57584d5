/- PrismMoves: the walk. -/
import Derived.Test.YtmpadjlplgajcaaPmvB
namespace Go.Proofs.Ytmpadjlplgajcaa
open Go.RowKit
section
variable {S : S0} {y : Lay} {W : World} {dx dy dz be k lo hi : Int} {z : Int × Int × Int × Int}
def Goal (S : S0) (y : Lay) (W : World) (dx dy dz lo hi : Int) : Prop := Calls Try.prog 6 #[PV S y, BV S, .agg #[.int .i64 dx, .int .i64 dy, .int .i64 dz], .int .i64 lo, .int .i64 hi] W fun e w' => e = .returned (.bool true) ∧ Below W.heap.size W w'
def E0 (S : S0) (y : Lay) (dx dy dz lo hi be : Int) : EnvS := EV S y dx dy dz (lo, hi, S.n, S.n) be S.n
theorem lawM {con : Con} {lps : List LAnn} {pc : PC} (hF : Fam (Bs Try.prog W con [L0]) lps (E0 S y dx dy dz lo hi be)) (hpc : pc.Ok (E0 S y dx dy dz lo hi be)) (ht : treeBL Try.prog con [L0] lps pc 300 30 6 ARm = YT) : Goal S y W dx dy dz lo hi := by
  have h := tree_lawL hF hpc wide ht (by kernel_rfl) rfl Good.yes
  exact h
def CKm (S : S0) (y : Lay) (W : World) (dx dy dz lo hi be : Int) (con : Con) : Prop := ∀ a b : Int, ConOkW Try.prog (EV S y dx dy dz (lo, hi, a, b) be S.n) W con
theorem rd_ok {i : Nat} {ρ : EnvS} (h : Lk S ρ) (h3 : 3 ≤ S.n) (h64 : S.n ≤ 64) (h0 : 0 ≤ ρ.v i) (h1 : ρ.v i < S.n) : (pn ++ inX (.at i)).Ok ρ := by
  have p1 : pn.Ok ρ := rg_ok (by rw [h.n]; exact h3) (by rw [h.n]; exact h64)
  have p2 : PC.Ok ρ (inX (.at i)) := .cons' (by show ρ.v i < ρ.v 8; rw [h.n]; exact h1) (.cons' h0 (.cons' h0 (.cons' (by show ρ.v i ≤ 64; omega) .nil)))
  exact p1.app p2
theorem famS0 {con : Con} (hL : Lies S y W) (hc : CKm S y W dx dy dz lo hi be con) : Fam (Bs Try.prog W con [L0]) [] (E0 S y dx dy dz lo hi be) := ⟨hc _ _, ev_lols hL⟩
theorem famS1 {con : Con} (hL : Lies S y W) (h3 : 3 ≤ S.n) (h64 : S.n ≤ 64) (hc : CKm S y W dx dy dz lo hi be con) {p q a b nx : Nat} : Fam (Bs Try.prog W con [L0]) [ASm 11 p q a b nx] (E0 S y dx dy dz lo hi be) := by
  refine ⟨famS0 hL hc, hL.nn, ⟨kOut_ok (i := 11) (Int.le_refl _), .nil⟩, fun j h0 h1 => ?_⟩
  have e : (E0 S y dx dy dz lo hi be).upd (ASm 11 p q a b nx).i j = EV S y dx dy dz (lo, hi, j, S.n) be S.n := EV_11
  rw [e]
  exact ⟨⟨⟨_, List.mem_singleton.2 rfl, rd_ok (i := 11) ev_lk h3 h64 h0 h1⟩, .nil⟩, ⟨hc _ _, ev_lols hL⟩⟩
theorem famS2 {con : Con} (hL : Lies S y W) (h3 : 3 ≤ S.n) (h64 : S.n ≤ 64) (hc : CKm S y W dx dy dz lo hi be con) {p q a b nx p' q' a' b' nx' : Nat} : Fam (Bs Try.prog W con [L0]) [ASm 11 p q a b nx, ASm 12 p' q' a' b' nx'] (E0 S y dx dy dz lo hi be) := by
  have f1 : ∀ c : Int, Fam (Bs Try.prog W con [L0]) [ASm 12 p' q' a' b' nx'] (EV S y dx dy dz (lo, hi, c, S.n) be S.n) := fun c => by
    refine ⟨⟨hc _ _, ev_lols hL⟩, hL.nn, ⟨kOut_ok (i := 12) (Int.le_refl _), .nil⟩, fun j h0 h1 => ?_⟩
    have e : (EV S y dx dy dz (lo, hi, c, S.n) be S.n).upd (ASm 12 p' q' a' b' nx').i j = EV S y dx dy dz (lo, hi, c, j) be S.n := EV_12
    rw [e]
    exact ⟨⟨⟨_, List.mem_singleton.2 rfl, rd_ok (i := 12) ev_lk h3 h64 h0 h1⟩, .nil⟩, ⟨hc _ _, ev_lols hL⟩⟩
  refine ⟨f1 _, hL.nn, ⟨kOut_ok (i := 11) (Int.le_refl _), .nil⟩, fun j h0 h1 => ?_⟩
  have e : (E0 S y dx dy dz lo hi be).upd (ASm 11 p q a b nx).i j = EV S y dx dy dz (lo, hi, j, S.n) be S.n := EV_11
  rw [e]
  exact ⟨⟨⟨_, List.mem_singleton.2 rfl, rd_ok (i := 11) ev_lk h3 h64 h0 h1⟩, .nil⟩, f1 _⟩
theorem cI_ok (h : bcode S ≠ 0) {con : Con} (hc : CKm S y W dx dy dz lo hi (bcode S) con) : CKm S y W dx dy dz lo hi (bcode S) (cI con) := fun a b => by
  have k1 : ConOkW Try.prog (EV S y dx dy dz (lo, hi, a, b) (bcode S) S.n) W ((27, [.agg (iv 2 6)], .one (.bool (.lit false))) :: con) := .cons (fun _ w _ => valid_no h w) (hc a b)
  exact .cons (fun _ w _ => bc_any w) k1
theorem okC_ok (hL : Lies S y W) (hR : Rng S) (c4 : S.lo < S.hi) (hc : Cv S) : CKm S y W dx dy dz lo hi be okC := fun _ _ =>
  .cons (fun _ w hb => ckr_ok (hL.mono hb) hR c4 hc) (.cons (fun _ w hb => cv_yes (hL.mono hb) hR hc) (.cons (fun _ w hb => in_yes (hL.mono hb) hR) con1W))
theorem walk_V (hL : Lies S y W) (h0 : ∀ k, (k < 0 ∨ S.n ≤ k) → S.X k = 0 ∧ S.Y k = 0) (hb : Bx6 S) : Goal S y W dx dy dz lo hi := by
  have nn := hL.nn
  have fb : fV.Ok (E0 S y dx dy dz lo hi 0) := fV_ok hb
  have hc1 : CKm S y W dx dy dz lo hi 0 con1 := fun _ _ => con1W
  by_cases c1 : 80 < S.n
  · have q : PC.Ok (E0 S y dx dy dz lo hi 0) g80 := .cons' c1 .nil
    exact lawM (famS0 hL hc1) q pm_80
  by_cases c2 : 64 < S.n
  · have q : PC.Ok (E0 S y dx dy dz lo hi 0) p65 := rg_ok (show 65 ≤ S.n by omega) (show S.n ≤ 80 by omega)
    exact lawM (famS0 hL hc1) (q.app fb) pm_V65
  by_cases c3 : S.n < 3
  · have q : PC.Ok (E0 S y dx dy dz lo hi 0) p02 := rg_ok (show 0 ≤ S.n by omega) (show S.n ≤ 2 by omega)
    exact lawM (famS0 hL hc1) (q.app fb) pm_V02
  have n3 : 3 ≤ S.n := by omega
  have n64 : S.n ≤ 64 := by omega
  have hn : pn.Ok (E0 S y dx dy dz lo hi 0) := rg_ok n3 n64
  by_cases hR : Rng S
  · have hI : CKm S y W dx dy dz lo hi 0 (inT true) := fun _ _ => .cons (fun _ w hb => in_yes (hL.mono hb) hR) con1W
    by_cases c4 : S.lo < S.hi
    · have qs : PC.Ok (E0 S y dx dy dz lo hi 0) (lt01 true) := .cons' c4 .nil
      by_cases hc : Cv S
      · have hK : CKm S y W dx dy dz lo hi 0 okC := okC_ok hL hR c4 hc
        by_cases hm : InM dx ∧ InM dy ∧ InM dz ∧ Rng (mvS S dx dy dz)
        · obtain ⟨hx, hy, hz, hM⟩ := hm
          have hO : CKm S y W dx dy dz lo hi 0 (mO okC) := fun a b => .says (moveV_says hL hR hc c4 h0 hx hy hz hM) (.says (moveR_says hL hR hx hy hz hM) (hK a b))
          have hO := hO
          by_cases s1 : hi ≤ lo
          · have q : PC.Ok (E0 S y dx dy dz lo hi 0) (lhS true) := .cons' s1 .nil
            exact lawM (famS1 hL n3 n64 hO) (((hn.app qs).app q).app fb) pm_VOl
          · have q : PC.Ok (E0 S y dx dy dz lo hi 0) (lhS false) := .cons' (Int.not_le.1 s1) .nil
            by_cases s2 : mnI hi S.hi ≤ mxI lo S.lo
            · have q2 : PC.Ok (E0 S y dx dy dz lo hi 0) (zS true) := .cons' s2 .nil
              exact lawM (famS1 hL n3 n64 hO) ((((hn.app qs).app q).app q2).app fb) pm_VOz
            · have q2 : PC.Ok (E0 S y dx dy dz lo hi 0) (zS false) := .cons' (Int.not_le.1 s2) .nil
              exact lawM (famS2 hL n3 n64 hO) ((((hn.app qs).app q).app q2).app fb) pm_VOs
        · have hB : CKm S y W dx dy dz lo hi 0 (mB okC) := fun a b => .cons (fun _ w hb => move_bad (hL.mono hb) hR hc c4 h0 hm) (.cons (fun _ w hb => moveR_bad (hL.mono hb) hR h0 hm) (hK a b))
          have hB := hB
          by_cases s1 : hi ≤ lo
          · have q : PC.Ok (E0 S y dx dy dz lo hi 0) (lhS true) := .cons' s1 .nil
            exact lawM (famS0 hL hB) (((hn.app qs).app q).app fb) pm_VBl
          · have q : PC.Ok (E0 S y dx dy dz lo hi 0) (lhS false) := .cons' (Int.not_le.1 s1) .nil
            by_cases s2 : mnI hi S.hi ≤ mxI lo S.lo
            · have q2 : PC.Ok (E0 S y dx dy dz lo hi 0) (zS true) := .cons' s2 .nil
              exact lawM (famS0 hL hB) ((((hn.app qs).app q).app q2).app fb) pm_VBz
            · have q2 : PC.Ok (E0 S y dx dy dz lo hi 0) (zS false) := .cons' (Int.not_le.1 s2) .nil
              exact lawM (famS1 hL n3 n64 hB) ((((hn.app qs).app q).app q2).app fb) pm_VBs
      · have hK : CKm S y W dx dy dz lo hi 0 (ckM 1 (cvT false)) := fun a b => .cons (fun _ w hb => ckr_cv (hL.mono hb) hR c4 hc) (.cons (fun _ w hb => cv_no (hL.mono hb) hR hc) (hI a b))
        exact lawM (famS0 hL hK) ((hn.app qs).app fb) pm_Vcv
    · have qs : PC.Ok (E0 S y dx dy dz lo hi 0) (lt01 false) := .cons' (Int.not_lt.1 c4) .nil
      have hK : CKm S y W dx dy dz lo hi 0 (ckM 1 (inT true)) := fun a b => .cons (fun _ w hb => ckr_lo (hL.mono hb) hR (Int.not_lt.1 c4)) (hI a b)
      exact lawM (famS0 hL hK) ((hn.app qs).app fb) pm_Vlo
  · have hK : CKm S y W dx dy dz lo hi 0 (ckM 6 (inT false)) := fun a b => .cons (fun _ w hb => ckr_no (hL.mono hb) n3 n64 h0 hR) (.cons (fun _ w hb => in_no (hL.mono hb) n3 n64 h0 hR) con1W)
    exact lawM (famS0 hL hK) (hn.app fb) pm_Vnr
theorem walk_I (hL : Lies S y W) (h0 : ∀ k, (k < 0 ∨ S.n ≤ k) → S.X k = 0 ∧ S.Y k = 0) (hb : bcode S ≠ 0) : Goal S y W dx dy dz lo hi := by
  have nn := hL.nn
  have fb : fI.Ok (E0 S y dx dy dz lo hi (bcode S)) := .cons' hb .nil
  have hc1 : CKm S y W dx dy dz lo hi (bcode S) con1 := fun _ _ => con1W
  by_cases c1 : 80 < S.n
  · have q : PC.Ok (E0 S y dx dy dz lo hi (bcode S)) g80 := .cons' c1 .nil
    exact lawM (famS0 hL hc1) q pm_80
  by_cases c2 : 64 < S.n
  · have q : PC.Ok (E0 S y dx dy dz lo hi (bcode S)) p65 := rg_ok (show 65 ≤ S.n by omega) (show S.n ≤ 80 by omega)
    exact lawM (famS0 hL (cI_ok hb hc1)) (q.app fb) pm_I65
  by_cases c3 : S.n < 3
  · have q : PC.Ok (E0 S y dx dy dz lo hi (bcode S)) p02 := rg_ok (show 0 ≤ S.n by omega) (show S.n ≤ 2 by omega)
    exact lawM (famS0 hL (cI_ok hb hc1)) (q.app fb) pm_I02
  have n3 : 3 ≤ S.n := by omega
  have n64 : S.n ≤ 64 := by omega
  have hn : pn.Ok (E0 S y dx dy dz lo hi (bcode S)) := rg_ok n3 n64
  by_cases hR : Rng S
  · have hI : CKm S y W dx dy dz lo hi (bcode S) (inT true) := fun _ _ => .cons (fun _ w hb => in_yes (hL.mono hb) hR) con1W
    by_cases c4 : S.lo < S.hi
    · have qs : PC.Ok (E0 S y dx dy dz lo hi (bcode S)) (lt01 true) := .cons' c4 .nil
      by_cases hc : Cv S
      · have hK : CKm S y W dx dy dz lo hi (bcode S) okC := okC_ok hL hR c4 hc
        by_cases hm : InM dx ∧ InM dy ∧ InM dz ∧ Rng (mvS S dx dy dz)
        · obtain ⟨hx, hy, hz, hM⟩ := hm
          have hO : CKm S y W dx dy dz lo hi (bcode S) (mO okC) := fun a b => .says (moveV_says hL hR hc c4 h0 hx hy hz hM) (.says (moveR_says hL hR hx hy hz hM) (hK a b))
          have hO := (cI_ok hb hO)
          by_cases s1 : hi ≤ lo
          · have q : PC.Ok (E0 S y dx dy dz lo hi (bcode S)) (lhS true) := .cons' s1 .nil
            exact lawM (famS1 hL n3 n64 hO) (((hn.app qs).app q).app fb) pm_IOl
          · have q : PC.Ok (E0 S y dx dy dz lo hi (bcode S)) (lhS false) := .cons' (Int.not_le.1 s1) .nil
            by_cases s2 : mnI hi S.hi ≤ mxI lo S.lo
            · have q2 : PC.Ok (E0 S y dx dy dz lo hi (bcode S)) (zS true) := .cons' s2 .nil
              exact lawM (famS1 hL n3 n64 hO) ((((hn.app qs).app q).app q2).app fb) pm_IOz
            · have q2 : PC.Ok (E0 S y dx dy dz lo hi (bcode S)) (zS false) := .cons' (Int.not_le.1 s2) .nil
              exact lawM (famS2 hL n3 n64 hO) ((((hn.app qs).app q).app q2).app fb) pm_IOs
        · have hB : CKm S y W dx dy dz lo hi (bcode S) (mB okC) := fun a b => .cons (fun _ w hb => move_bad (hL.mono hb) hR hc c4 h0 hm) (.cons (fun _ w hb => moveR_bad (hL.mono hb) hR h0 hm) (hK a b))
          have hB := (cI_ok hb hB)
          by_cases s1 : hi ≤ lo
          · have q : PC.Ok (E0 S y dx dy dz lo hi (bcode S)) (lhS true) := .cons' s1 .nil
            exact lawM (famS0 hL hB) (((hn.app qs).app q).app fb) pm_IBl
          · have q : PC.Ok (E0 S y dx dy dz lo hi (bcode S)) (lhS false) := .cons' (Int.not_le.1 s1) .nil
            by_cases s2 : mnI hi S.hi ≤ mxI lo S.lo
            · have q2 : PC.Ok (E0 S y dx dy dz lo hi (bcode S)) (zS true) := .cons' s2 .nil
              exact lawM (famS0 hL hB) ((((hn.app qs).app q).app q2).app fb) pm_IBz
            · have q2 : PC.Ok (E0 S y dx dy dz lo hi (bcode S)) (zS false) := .cons' (Int.not_le.1 s2) .nil
              exact lawM (famS1 hL n3 n64 hB) ((((hn.app qs).app q).app q2).app fb) pm_IBs
      · have hK : CKm S y W dx dy dz lo hi (bcode S) (ckM 1 (cvT false)) := fun a b => .cons (fun _ w hb => ckr_cv (hL.mono hb) hR c4 hc) (.cons (fun _ w hb => cv_no (hL.mono hb) hR hc) (hI a b))
        exact lawM (famS0 hL (cI_ok hb hK)) ((hn.app qs).app fb) pm_Icv
    · have qs : PC.Ok (E0 S y dx dy dz lo hi (bcode S)) (lt01 false) := .cons' (Int.not_lt.1 c4) .nil
      have hK : CKm S y W dx dy dz lo hi (bcode S) (ckM 1 (inT true)) := fun a b => .cons (fun _ w hb => ckr_lo (hL.mono hb) hR (Int.not_lt.1 c4)) (hI a b)
      exact lawM (famS0 hL (cI_ok hb hK)) ((hn.app qs).app fb) pm_Ilo
  · have hK : CKm S y W dx dy dz lo hi (bcode S) (ckM 6 (inT false)) := fun a b => .cons (fun _ w hb => ckr_no (hL.mono hb) n3 n64 h0 hR) (.cons (fun _ w hb => in_no (hL.mono hb) n3 n64 h0 hR) con1W)
    exact lawM (famS0 hL (cI_ok hb hK)) (hn.app fb) pm_Inr
theorem moves_walk (hL : Lies S y W) (h0 : ∀ k, (k < 0 ∨ S.n ≤ k) → S.X k = 0 ∧ S.Y k = 0) : Goal S y W dx dy dz lo hi := by
  by_cases hb : bcode S = 0
  · exact walk_V hL h0 (bx6_of hb)
  · exact walk_I hL h0 hb
end
end Go.Proofs.Ytmpadjlplgajcaa
