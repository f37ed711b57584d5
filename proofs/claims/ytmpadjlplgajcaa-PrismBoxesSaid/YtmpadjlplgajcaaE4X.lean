/- Contracts that tell lists: from a function's tree; of a list that came in to one of the call's own. -/
import Derived.Test.YtmpadjlplgajcaaE4W
namespace Go.Proofs.Ytmpadjlplgajcaa
open Go.RowKit
noncomputable section
def sgV (v0 v : SV) : Sg := v0.blcs.map fun p => (p.1, match sg1 p.1 (v0.fr 0).flat v.flat with | some x => x | none => none)
/-- What a call hands back is what the contract tells. -/
def leafOk (ax : List (LB × LB)) (v0 : SV) (x : SV × Hp × Nat × PC) : Bool :=
  v0.flat.all SCl.onlyB && (SV.eqP x.2.2.2 ((v0.fr 0).rn (sgV v0 x.1)) x.1 && (eqLb x.2.2.2 ax (sgV v0 x.1) v0.blcs (Hp.over x.2.1 fun _ => none) && (ndK (v0.blcs.map (·.1)) && (ndK (sgV v0 x.1).tgts && (sgV v0 x.1).tgts.all fun j => j.blt x.2.2.1))))
variable {ρ : EnvS} {P : Program}
theorem says_tree {con : Con} {ls : List LD} {lps : List LAnn} {W0 : World} (hF : Fam (Bs P W0 con ls) lps ρ) {pc : PC} (hpc : pc.Ok ρ) (hm : P.follows .mixedOrders = true) {fuel d : Nat} {f : FuncId} {args : List SV} {v0 : SV} {ax : List (LB × LB)} (hax : AxOk ρ ax)
    (ht : ((callR P con ls fuel d lps).run (.fn f) args [] 0 pc).all (leafOk ax v0) = true) (hcb : callable P f = true) (hargs : args.all (·.below 0) = true) : ConSays P ρ W0 f args v0 := by
  obtain ⟨⟨v, dd, n', pc'⟩, hr, hl⟩ := T.all_pick (ρ := ρ) ht
  obtain ⟨hpc', hok⟩ := (callR_sound hm fuel d lps ρ hF).2 (.fn f) args [] 0 pc v dd n' pc' hpc hr
  intro α w hw _
  have := hok trivial (fun s hs => List.all_eq_true.1 hargs s hs) (fun id o e => by simp [hv, Hp.over, Hp.get_nil] at e) α w hw obs_none hcb
  refine this.mono ?_
  rintro e w' ⟨α', rfl, U⟩
  simp only [leafOk, Bool.and_eq_true] at hl
  obtain ⟨l1, l2, l3, l4, l5, l6⟩ := hl
  rw [List.all_eq_true] at l1 l6
  generalize hg : sgV v0 v = g at l2 l3 l5 l6
  have hk : ∀ m, AlOk g (alN g α' α') α' m := fun m => alN_ok fun _ => rfl
  have hlb := eqLb_spec hpc' hax l3
  have hXs : ∀ k, ¬ Xs (Rg 0 n') α (hv []) dd k := fun k hx => by
    obtain ⟨i, o, _, _, h3, _⟩ := hx
    simp [hv, Hp.over, Hp.get_nil] at h3
  have tgt : ∀ {p : Nat × LB}, p ∈ v0.blcs → ((alN g α' α') p.1).isNil = false → ∃ t b, g.get p.1 = some (some t) ∧ dd.get t = some (some (.lst b)) ∧ alN g α' α' p.1 = α' t ∧ t < n' := fun {p} hp hn => by
    have hx := hk p.1
    unfold AlOk at hx
    rcases hlb p hp with ⟨h1, _⟩ | ⟨t, b, h1, h2, _⟩
    · rw [h1] at hx; rw [hx] at hn; cases hn
    · rw [h1] at hx
      refine ⟨t, b, h1, ?_, hx, ?_⟩
      · cases hd : dd.get t with
        | some y =>
          have : Hp.over dd (fun _ => none) t = y := over_some hd
          rw [this] at h2
          rw [h2]
        | none =>
          have : Hp.over dd (fun _ => none) t = none := over_none hd
          rw [this] at h2
          cases h2
      · have := l6 t (Sg.mem_tgts (Sg.get_mem h1))
        simpa using this
  refine ⟨alN g α' α', ?_, U.st.below (Nat.le_refl _) fun k _ hx => hXs k hx, ⟨fun p hp => ?_, fun p hp hn => ?_, fun p hp q hq hne h1 h2 hb => ?_⟩⟩
  · rw [← SV.rn_den (αn := alN g α' α') (α' := α') hpc' (fun id _ => hk id) l2, frV_den (α' := alN g α' α') l1 fun k e i h n ks _ => by rw [Nat.zero_add]]
  · obtain ⟨e, i, h, n, ks, _, q⟩ := blcs_mem hp
    refine lb_at (hk p.1) (hlb p hp) (by rw [q]) fun t b ht => ?_
    have : dd.get t = some (some (.lst b)) := by
      cases hd : dd.get t with
      | some y =>
        have : Hp.over dd (fun _ => none) t = y := over_some hd
        rw [this] at ht
        rw [ht]
      | none =>
        have : Hp.over dd (fun _ => none) t = none := over_none hd
        rw [this] at ht
        cases ht
    exact U.at_ t _ this
  · obtain ⟨t, b, h1, h2, h3, h4⟩ := tgt hp hn
    rw [h3] at hn ⊢
    rcases U.own t _ ⟨Nat.zero_le _, h4⟩ h2 (by simp [Ob.adr, Ob.addr, Ob.isL, hn]) with q | q
    · exact (hXs _ q).elim
    · exact q
  · obtain ⟨t, b, a1, a2, a3, a4⟩ := tgt hp h1
    obtain ⟨t', b', c1, c2, c3, c4⟩ := tgt hq h2
    rw [a3] at h1 hb
    rw [c3] at h2 hb
    have htt : t ≠ t' := by
      rintro rfl
      exact hne (Sg.tgts_inj l5 (Sg.get_mem a1) (Sg.get_mem c1))
    have := U.inj t t' _ _ htt a2 c2 (by simp [Ob.adr, Ob.addr, Ob.isL, h1]) rfl (by simp [Ob.adr, Ob.addr, Ob.isL, h2]) hb
    simp only [Ob.sib] at this
    cases this
/-! A list that came in, and one of the call's own. -/
/-- List number i lies elsewhere. -/
def EnvS.lie (ρ : EnvS) (i : Nat) (A : Option Addr) (blk cap : Nat) : EnvS :=
  { ρ with p := fun k => if k = i then A else ρ.p k, a := fun k => if k = i then blk else ρ.a k, o := fun k => if k = i then 0 else ρ.o k, c := fun k => if k = i then cap else ρ.c k }
theorem IE.den_lie {i : Nat} {A : Option Addr} {b c : Nat} (e : IE) : e.den (ρ.lie i A b c) = e.den ρ := by
  induction e with
  | «at» k => rfl
  | lit n => rfl
  | wr k a ih => simp only [IE.den, ih]
  | ap f a b iha ihb => simp only [IE.den, iha, ihb]; rfl
  | fx f a b iha ihb => simp only [IE.den, iha, ihb]
  | _ a b iha ihb => simp only [IE.den, iha, ihb]
theorem BE.den_lie {i : Nat} {A : Option Addr} {b c : Nat} (e : BE) : e.den (ρ.lie i A b c) = e.den ρ := by
  induction e with
  | lit n => rfl
  | not a ih => simp only [BE.den, ih]
  | and a b iha ihb => simp only [BE.den, iha, ihb]
  | _ a b => simp only [BE.den, IE.den_lie]
theorem PC.Ok.lie {i : Nat} {A : Option Addr} {b c : Nat} {pc : PC} (h : pc.Ok ρ) : pc.Ok (ρ.lie i A b c) := fun e v hm => by rw [BE.den_lie]; exact h e v hm
/-- An argument with the list of the call's own in the place of one that came in. -/
def SCl.own (L : LD) (k : Nat) : SCl → SCl
  | .ssl M => if M.same L then .blc k L.elem L.i none (.at L.n) L.ks else .ssl M
  | c => c
def SV.own (L : LD) (k : Nat) : SV → SV
  | .one c => .one (c.own L k)
  | .agg cs => .agg (cs.map (SCl.own L k))
  | .tup vs => .tup (vs.map fun s => ⟨s.agg, s.cs.map (SCl.own L k)⟩)
def SCl.ownOk (L : LD) : SCl → Bool
  | .int _ _ => true
  | .bool _ => true
  | .str _ => true
  | .raw _ => true
  | .ssl M => M.same L || !(M.i.beq L.i)
  | _ => false
def SV.ownOk (L : LD) (v : SV) : Bool := (match v with | .tup _ => false | _ => true) && v.flat.all (SCl.ownOk L)
theorem own_den {α : Nat → Pl} {L : LD} {k : Nat} {A : Option Addr} {b c : Nat} (hv : (SCl.blc k L.elem L.i none (.at L.n) L.ks).den ρ α = .slice A (ρ.v L.n).toNat c) {x : SCl} (hx : x.ownOk L = true) : (x.own L k).den ρ α = x.den (ρ.lie L.i A b c) α := by
  cases x with
  | int _ e => simp only [SCl.own, SCl.den, IE.den_lie]
  | bool e => simp only [SCl.own, SCl.den, BE.den_lie]
  | str e => simp only [SCl.own, SCl.den, IE.den_lie]
  | raw v => rfl
  | ssl M =>
    simp only [SCl.own]
    split
    · rename_i hs
      rw [LD.same_eq hs, hv]
      simp [SCl.den, EnvS.lie]
    · rename_i hs
      simp only [SCl.ownOk, Bool.or_eq_true, Bool.not_eq_true'] at hx
      have hx : M.i.beq L.i = false := hx.resolve_left hs
      have hne := Nat.ne_of_beq_eq_false hx
      simp [SCl.den, EnvS.lie, hne]
  | _ => simp [SCl.ownOk] at hx
theorem ownV_den {α : Nat → Pl} {L : LD} {k : Nat} {A : Option Addr} {b c : Nat} (hv : (SCl.blc k L.elem L.i none (.at L.n) L.ks).den ρ α = .slice A (ρ.v L.n).toNat c) {x : SV} (hx : x.ownOk L = true) : (x.own L k).den ρ α = x.den (ρ.lie L.i A b c) α := by
  cases x with
  | one y => simp only [SV.ownOk, SV.flat, List.all_cons, List.all_nil, Bool.and_true, Bool.true_and] at hx; exact own_den hv hx
  | agg cs =>
    simp only [SV.ownOk, SV.flat, Bool.true_and, List.all_eq_true] at hx
    simp only [SV.own, SV.den, List.map_map]
    congr 2
    exact List.map_congr_left fun y hy => own_den hv (hx y hy)
  | tup _ => simp [SV.ownOk] at hx
theorem own_lok {α : Nat → Pl} {w : World} {L : LD} {k : Nat} (hl : lstAt ρ α w k ⟨L.elem, L.i, none, .at L.n, L.ks, []⟩) : ∃ A b c, (SCl.blc k L.elem L.i none (.at L.n) L.ks).den ρ α = .slice A (ρ.v L.n).toNat c ∧ LOk (ρ.lie L.i A b c) w L := by
  have hnn : 0 ≤ ρ.v L.n := hl.nn
  cases hq : (α k).isNil with
  | true =>
    obtain ⟨h1, A, hA⟩ := hl.nil hq
    have h1 : ρ.v L.n = 0 := h1
    refine ⟨A, 0, 0, by simp [SCl.den, hq, hA, h1], ⟨hnn, fun h => ?_, fun j c x hj => ?_⟩⟩
    · have : (ρ.lie L.i A 0 0).v L.n = ρ.v L.n := rfl
      omega
    · have : (ρ.lie L.i A 0 0).v L.n = ρ.v L.n := rfl
      omega
  | false =>
    obtain ⟨cs, hrow, hcl, hNc, hcs, _⟩ := hl.row hq
    refine ⟨some ⟨(α k).blk, 0, none⟩, (α k).blk, (α k).ext, by simp [SCl.den, hq, IE.den], ⟨hnn, fun _ => by simp [EnvS.lie], fun j c x hj hx => ?_⟩⟩
    have hj : (j : Int) < ρ.v L.n := hj
    have h1 := hcs j c (CKat ρ L.i j c x) hj (by
      rw [valsB_base rfl]
      have := cellsB_at (ρ := ρ) (α := α) L.i j L.ks 0 c x hx
      rwa [Nat.zero_add] at this)
    have e : CKat (ρ.lie L.i (some ⟨(α k).blk, 0, none⟩) (α k).blk (α k).ext) L.i j c x = CKat ρ L.i j c x := by cases x <;> rfl
    rw [e]
    unfold World.cell?
    simp only [EnvS.lie, if_true, hrow, Option.isSome_none, Bool.false_eq_true, if_false, Nat.zero_add, List.getElem?_toArray]
    exact h1
/-- **What is said of a call with a list that came in is so for one of the call's own.** -/
theorem says_own {W0 : World} {f : FuncId} {L : LD} {args : List SV} {v : SV} (hvi : v.ids = []) (hok : args.all (SV.ownOk L) = true) (hin : (0, (⟨L.elem, L.i, none, .at L.n, L.ks, []⟩ : LB)) ∈ insV (args.map (SV.own L 0)))
    (h : ∀ A b c (α : Nat → Pl) (w : World), Below W0.heap.size W0 w → LOk (ρ.lie L.i A b c) w L → Calls P f (args.map (SV.den (ρ.lie L.i A b c) α)).toArray w (fun e w' => e = .returned (v.den ρ α) ∧ Below w.heap.size w w')) : ConSays P ρ W0 f (args.map (SV.own L 0)) v := by
  intro α w hw hO
  have hn : ∀ p ∈ v.blcs, False := fun p hp => by have := blcs_ids hp; rw [hvi] at this; cases this
  have hl : lstAt ρ α w 0 ⟨L.elem, L.i, none, .at L.n, L.ks, []⟩ := by
    -- the first entry of that name
    have key : ∀ (l : List (Nat × LB)), (0, (⟨L.elem, L.i, none, .at L.n, L.ks, []⟩ : LB)) ∈ l → (∀ p ∈ l, p = (0, (⟨L.elem, L.i, none, .at L.n, L.ks, []⟩ : LB))) → hv (lstH l) 0 = some (.lst ⟨L.elem, L.i, none, .at L.n, L.ks, []⟩) := fun l hm ha => by
      cases l with
      | nil => cases hm
      | cons p r =>
        rw [ha p (List.mem_cons_self ..)]
        show Hp.over ((0, some (.lst _)) :: lstH r) (fun _ => none) 0 = _
        exact over_some (by rw [Hp.get_cons, if_pos rfl])
    refine hO.at_ 0 _ (key _ hin fun p hp => ?_)
    obtain ⟨s, hs, hp⟩ := List.mem_flatMap.1 hp
    obtain ⟨a, ha, rfl⟩ := List.mem_map.1 hs
    have hoka := List.all_eq_true.1 hok a ha
    have one : ∀ x : SCl, x.ownOk L = true → ∀ q ∈ (x.own L 0).blcs, q = (0, (⟨L.elem, L.i, none, .at L.n, L.ks, []⟩ : LB)) := fun x hx q hq => by
      cases x with
      | ssl M =>
        simp only [SCl.own] at hq
        split at hq
        · simpa [SCl.blcs] using hq
        · simp [SCl.blcs] at hq
      | blc _ _ _ _ _ _ => simp [SCl.ownOk] at hx
      | _ => simp [SCl.own, SCl.blcs] at hq
    obtain ⟨c, hc, hp⟩ := List.mem_flatMap.1 hp
    cases a with
    | one y =>
      simp only [SV.own, SV.flat, List.mem_singleton] at hc
      subst hc
      simp only [SV.ownOk, SV.flat, List.all_cons, List.all_nil, Bool.and_true, Bool.true_and] at hoka
      exact one y hoka p hp
    | agg cs =>
      obtain ⟨y, hy, rfl⟩ := List.mem_map.1 (show c ∈ cs.map (SCl.own L 0) from hc)
      simp only [SV.ownOk, SV.flat, Bool.true_and, List.all_eq_true] at hoka
      exact one y (hoka y hy) p hp
    | tup _ => simp [SV.ownOk] at hoka
  obtain ⟨A, b, c, e1, hL⟩ := own_lok hl
  have := h A b c α w hw hL
  have e2 : (args.map (SV.own L 0)).map (SV.den ρ α) = args.map (SV.den (ρ.lie L.i A b c) α) := by
    rw [List.map_map]
    exact List.map_congr_left fun a ha => ownV_den e1 (List.all_eq_true.1 hok a ha)
  rw [e2]
  exact this.mono fun e w' ⟨e3, hb⟩ => ⟨α, e3, hb, ⟨fun p hp => (hn p hp).elim, fun p hp => (hn p hp).elim, fun p hp => (hn p hp).elim⟩⟩
end
end Go.Proofs.Ytmpadjlplgajcaa
