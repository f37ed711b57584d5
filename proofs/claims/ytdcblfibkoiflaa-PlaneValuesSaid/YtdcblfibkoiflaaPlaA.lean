/- The chapter's examples of plane. -/
import Derived.Test.YtdcblfibkoiflaaExI
import Derived.Test.YtdcblfibkoiflaaProg
namespace Go.Proofs.Ytdcblfibkoiflaa
open Go.RowKit
theorem wide : Try.prog.follows .mixedOrders = true := by kernel_rfl
theorem conNil (ρ : Env) : ConOk Try.prog ρ [] := fun _ _ _ h => by cases h
theorem awakeTree : (tree Try.prog [] 300 20 12 []).prune = .ret (.one (.bool (.lit true))) := by kernel_rfl
theorem awake_any (w : World) : Calls Try.prog 12 #[] w fun e w' => e = .returned (.bool true) ∧ Below w.heap.size w w' :=
  tree_law (ρ := ⟨fun _ => 0, fun _ _ _ => 0⟩) (conNil _) wide awakeTree (by kernel_rfl) rfl Good.yes w
/-- What is known of calls: the examples. -/
def con1 : Con := [(12, [], .one (.bool (.lit true)))]
theorem con1_ok (ρ : Env) : ConOk Try.prog ρ con1 := by
  intro f args v hm α w
  simp only [con1, List.mem_singleton, Prod.mk.injEq] at hm
  obtain ⟨rfl, rfl, rfl⟩ := hm
  exact awake_any w
def env (xs : List Int) : Env := ⟨fun i => xs.getD i 0, fun _ _ _ => 0⟩
def iv (a n : Nat) : List SC := (List.range n).map fun i => SC.int .i64 (.at (a + i))
end Go.Proofs.Ytdcblfibkoiflaa
