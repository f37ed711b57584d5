/- Small tools over the executor: what is known of calls and of numbers, entry by entry. -/
import Derived.Test.YtmpadjlplgajcaaE4M
namespace Go.Proofs.Ytmpadjlplgajcaa
open Go.RowKit
section
variable {ρ : EnvS} {P : Program}
theorem ConOk.nil : ConOk P ρ [] := fun _ _ _ h => by cases h
theorem ConOk.cons {f : FuncId} {args : List SV} {v : SV} {con : Con} (h : ∀ (α : Nat → Pl) (w : World), Calls P f (args.map (SV.den ρ α)).toArray w (fun e w' => e = .returned (v.den ρ α) ∧ Below w.heap.size w w')) (hc : ConOk P ρ con) (hv : v.ids = [] := by rfl) :
    ConOk P ρ ((f, args, v) :: con) := by
  intro g as u hm
  rcases List.mem_cons.1 hm with e | e
  · cases e; exact ⟨hv, h⟩
  · exact hc g as u e
theorem ConOkW.nil {W0 : World} : ConOkW P ρ W0 [] := fun _ _ _ h => by cases h
theorem ConOkW.says {W0 : World} {f : FuncId} {args : List SV} {v : SV} {con : Con} (h : ConSays P ρ W0 f args v) (hc : ConOkW P ρ W0 con) : ConOkW P ρ W0 ((f, args, v) :: con) := by
  intro g as u hm
  rcases List.mem_cons.1 hm with e | e
  · cases e; exact h
  · exact hc g as u e
theorem ConOkW.cons {W0 : World} {f : FuncId} {args : List SV} {v : SV} {con : Con} (h : ∀ (α : Nat → Pl) (w : World), Below W0.heap.size W0 w → Calls P f (args.map (SV.den ρ α)).toArray w (fun e w' => e = .returned (v.den ρ α) ∧ Below w.heap.size w w')) (hc : ConOkW P ρ W0 con) (hv : v.ids = [] := by rfl) :
    ConOkW P ρ W0 ((f, args, v) :: con) := ConOkW.says (says_plain hv h) hc
/-- A condition as a proposition. -/
def BE.Is (ρ : EnvS) : BE → Bool → Prop
  | .lit b, v => b = v
  | .lt a b, true => a.den ρ < b.den ρ
  | .lt a b, false => b.den ρ ≤ a.den ρ
  | .le a b, true => a.den ρ ≤ b.den ρ
  | .le a b, false => b.den ρ < a.den ρ
  | .eq a b, true => a.den ρ = b.den ρ
  | .eq a b, false => a.den ρ ≠ b.den ρ
  | .not a, v => BE.Is ρ a (!v)
  | .and a b, true => BE.Is ρ a true ∧ BE.Is ρ b true
  | .and a b, false => BE.Is ρ a false ∨ BE.Is ρ b false
theorem BE.is_iff : ∀ (c : BE) (v : Bool), c.den ρ = v ↔ BE.Is ρ c v := by
  intro c
  induction c with
  | lit b => intro v; exact Iff.rfl
  | lt a b => intro v; cases v <;> simp [BE.den, BE.Is]
  | le a b => intro v; cases v <;> simp [BE.den, BE.Is]
  | eq a b => intro v; cases v <;> simp [BE.den, BE.Is]
  | not a ih => intro v; simp only [BE.Is, ← ih, BE.den]; cases a.den ρ <;> cases v <;> simp
  | and a b iha ihb => intro v; cases v <;> simp only [BE.Is, ← iha, ← ihb, BE.den] <;> cases a.den ρ <;> cases b.den ρ <;> simp
theorem PC.Ok.cons' {c : BE} {v : Bool} {pc : PC} (h : BE.Is ρ c v) (hr : pc.Ok ρ) : PC.Ok ρ ((c, v) :: pc) := hr.cons ((BE.is_iff c v).2 h)
theorem Good.br' {c : BE} {t e : T SV} (h1 : BE.Is ρ c true → t.Good ρ) (h2 : BE.Is ρ c false → e.Good ρ) : (T.br c t e).Good ρ := Good.br (fun h => h1 ((BE.is_iff c true).1 h)) (fun h => h2 ((BE.is_iff c false).1 h))
theorem Good.ret' {b : BE} (h : BE.Is ρ b true) : (T.ret (.one (.bool b))).Good ρ := Good.ret ((BE.is_iff b true).2 h)
theorem All.br' {R : Value → Prop} {c : BE} {t e : T SV} (h1 : BE.Is ρ c true → t.All ρ R) (h2 : BE.Is ρ c false → e.All ρ R) : (T.br c t e).All ρ R := All.br (fun h => h1 ((BE.is_iff c true).1 h)) (fun h => h2 ((BE.is_iff c false).1 h))
theorem PC.Ok.app {a b : PC} (ha : a.Ok ρ) (hb : b.Ok ρ) : PC.Ok ρ (a ++ b) := by
  intro c v hm
  rcases List.mem_append.1 hm with h | h
  · exact ha c v h
  · exact hb c v h
end
/-- Numbers: those that came in (from 0), those that are told (from 20). -/
def envX (xs ys : List Int) : EnvS := ⟨fun i => if i < 20 then xs.getD i 0 else ys.getD (i - 20) 0, fun _ _ _ => 0, fun _ _ _ => undef, fun _ => 0, fun _ => 0, fun _ => none, fun _ => 0⟩
def iv (a n : Nat) : List SCl := (List.range n).map fun i => SCl.int .i64 (.at (a + i))
def i1 (a : Nat) : SV := .one (.int .i64 (.at a))
def mnI (a b : Int) : Int := if b < a then b else a
def mxI (a b : Int) : Int := if b > a then b else a
theorem ifs {α : Type} : (∀ a b : α, (if True then a else b) = a) ∧ (∀ a b : α, (if False then a else b) = b) := ⟨fun _ _ => rfl, fun _ _ => rfl⟩
theorem mnI_spec (a b : Int) : mnI a b ≤ a ∧ mnI a b ≤ b ∧ (mnI a b = a ∨ mnI a b = b) := by unfold mnI; split <;> omega
theorem mxI_spec (a b : Int) : a ≤ mxI a b ∧ b ≤ mxI a b ∧ (mxI a b = a ∨ mxI a b = b) := by unfold mxI; split <;> omega
def rg (i : Nat) (l h : Int) : PC := [(.lt (.at i) (.lit l), false), (.lt (.lit h) (.at i), false)]
theorem rg_ok {ρ : EnvS} {i : Nat} {l h : Int} (h1 : l ≤ ρ.v i) (h2 : ρ.v i ≤ h) : PC.Ok ρ (rg i l h) := .cons' h1 (.cons' h2 .nil)
end Go.Proofs.Ytmpadjlplgajcaa
