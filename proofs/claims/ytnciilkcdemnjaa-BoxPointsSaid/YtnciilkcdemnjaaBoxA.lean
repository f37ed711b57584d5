/- The chapter's examples of box. -/
import Derived.Test.YtnciilkcdemnjaaEyW
import Derived.Test.YtnciilkcdemnjaaProg
namespace Go.Proofs.Ytnciilkcdemnjaa
open Go.RowKit
theorem wide : Try.prog.follows .mixedOrders = true := by kernel_rfl
theorem awakeTree : treeB Try.prog [] [] 3000 40 11 [] = .ret (.one (.bool (.lit true))) := by kernel_rfl
theorem awake_any (w : World) : Calls Try.prog 11 #[] w fun e w' => e = .returned (.bool true) ∧ Below w.heap.size w w' :=
  tree_law (ρ := envX [] []) .nil .nil wide awakeTree (by kernel_rfl) rfl Good.yes w
/-- What is known of calls: the examples. -/
def con1 : Con := [(11, [], .one (.bool (.lit true)))]
theorem con1_ok (ρ : EnvS) : ConOk Try.prog ρ con1 := ConOk.cons (fun _ w => awake_any w) .nil
end Go.Proofs.Ytnciilkcdemnjaa
