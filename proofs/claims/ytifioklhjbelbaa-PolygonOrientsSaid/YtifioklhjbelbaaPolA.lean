/- The examples, run by run. -/
import Derived.Test.YtifioklhjbelbaaEzN
import Derived.Test.YtifioklhjbelbaaProg
namespace Go.Proofs.Ytifioklhjbelbaa
open Go.RowKit
theorem wide : Try.prog.follows .mixedOrders = true := by kernel_rfl
def run0 : Run := ⟨14, [(.one (.slc 0 0 4 4 true))], [(0, some (.blk ⟨31, [(.int .i64 (.lit (0))), (.int .i64 (.lit (0))), (.int .i64 (.lit (10))), (.int .i64 (.lit (0))), (.int .i64 (.lit (10))), (.int .i64 (.lit (10))), (.int .i64 (.lit (0))), (.int .i64 (.lit (10)))], 0, false, []⟩))], 1, (.tup [⟨false, [(.int .i64 (.lit (200)))]⟩, ⟨false, [(.int .i64 (.lit (0)))]⟩]), [], 39⟩
theorem run0_is : callE Try.prog [] 3000 39 (.fn run0.f) run0.args run0.hp run0.nx [] = .ret (run0.v, run0.d, run0.n, []) := by kernel_rfl
def run1 : Run := ⟨26, [(.one (.slc 39 0 4 4 true))], [(39, some (.blk ⟨31, [(.int .i64 (.lit (0))), (.int .i64 (.lit (0))), (.int .i64 (.lit (10))), (.int .i64 (.lit (0))), (.int .i64 (.lit (10))), (.int .i64 (.lit (10))), (.int .i64 (.lit (0))), (.int .i64 (.lit (10)))], 0, false, []⟩))], 40, (.tup [⟨false, [(.bool (.lit true))]⟩, ⟨false, [(.int .i64 (.lit (0)))]⟩]), [], 1128⟩
theorem run1_is : callE Try.prog [] 3000 39 (.fn run1.f) run1.args run1.hp run1.nx [] = .ret (run1.v, run1.d, run1.n, []) := by kernel_rfl
def run2 : Run := ⟨31, [(.one (.slc 1128 0 4 4 true)), (.agg [(.int .i64 (.lit (5))), (.int .i64 (.lit (5)))])], [(1128, some (.blk ⟨31, [(.int .i64 (.lit (0))), (.int .i64 (.lit (0))), (.int .i64 (.lit (10))), (.int .i64 (.lit (0))), (.int .i64 (.lit (10))), (.int .i64 (.lit (10))), (.int .i64 (.lit (0))), (.int .i64 (.lit (10)))], 0, false, []⟩))], 1129, (.tup [⟨false, [(.int .i64 (.lit (1)))]⟩, ⟨false, [(.int .i64 (.lit (0)))]⟩]), [], 2686⟩
theorem run2_is : callE Try.prog [] 3000 39 (.fn run2.f) run2.args run2.hp run2.nx [] = .ret (run2.v, run2.d, run2.n, []) := by kernel_rfl
def run3 : Run := ⟨33, [(.one (.slc 2686 0 5 5 true))], [(2686, some (.blk ⟨31, [(.int .i64 (.lit (0))), (.int .i64 (.lit (0))), (.int .i64 (.lit (4))), (.int .i64 (.lit (0))), (.int .i64 (.lit (2))), (.int .i64 (.lit (0))), (.int .i64 (.lit (2))), (.int .i64 (.lit (1))), (.int .i64 (.lit (2))), (.int .i64 (.lit (5)))], 0, false, []⟩))], 2687, (.tup [⟨false, [(.slc 3272 0 3 3 false)]⟩, ⟨false, [(.int .i64 (.lit (0)))]⟩]), [(3272, some (.blk ⟨31, [(.int .i64 (.lit (0))), (.int .i64 (.lit (0))), (.int .i64 (.lit (4))), (.int .i64 (.lit (0))), (.int .i64 (.lit (2))), (.int .i64 (.lit (5)))], 2, false, []⟩))], 3273⟩
theorem run3_is : callE Try.prog [] 3000 39 (.fn run3.f) run3.args run3.hp run3.nx [] = .ret (run3.v, run3.d, run3.n, []) := by kernel_rfl
def run4 : Run := ⟨17, [(.one (.slc 3272 0 3 3 false)), (.one (.slc 3273 0 3 3 true))], [(3273, some (.blk ⟨31, [(.int .i64 (.lit (0))), (.int .i64 (.lit (0))), (.int .i64 (.lit (4))), (.int .i64 (.lit (0))), (.int .i64 (.lit (2))), (.int .i64 (.lit (5)))], 0, false, []⟩)), (3272, some (.blk ⟨31, [(.int .i64 (.lit (0))), (.int .i64 (.lit (0))), (.int .i64 (.lit (4))), (.int .i64 (.lit (0))), (.int .i64 (.lit (2))), (.int .i64 (.lit (5)))], 2, false, []⟩))], 3274, (.one (.bool (.lit true))), [], 3274⟩
theorem run4_is : callE Try.prog [] 3000 39 (.fn run4.f) run4.args run4.hp run4.nx [] = .ret (run4.v, run4.d, run4.n, []) := by kernel_rfl
def runs : List Run := [run0, run1, run2, run3, run4]
theorem runs_ok : ∀ r ∈ runs, r.Is Try.prog [] 3000 39 := List.forall_mem_cons.2 ⟨run0_is, List.forall_mem_cons.2 ⟨run1_is, List.forall_mem_cons.2 ⟨run2_is, List.forall_mem_cons.2 ⟨run3_is, List.forall_mem_cons.2 ⟨run4_is, fun _ h => by cases h⟩⟩⟩⟩⟩
theorem awakeTreeR : treeR Try.prog [] runs [] 3000 39 11 [] = .ret (.one (.bool (.lit true))) := by kernel_rfl
theorem awakeTree : treeB Try.prog [] [] 3000 40 11 [] = .ret (.one (.bool (.lit true))) := (treeR_eq runs_ok).trans awakeTreeR
theorem awake_any (w : World) : Calls Try.prog 11 #[] w fun e w' => e = .returned (.bool true) ∧ Below w.heap.size w w' :=
  tree_law (ρ := envX [] []) .nil .nil wide awakeTree (by kernel_rfl) rfl Good.yes w
/-- What is known of calls: the examples. -/
def con1 : Con := [(11, [], .one (.bool (.lit true)))]
theorem con1_ok (ρ : EnvS) : ConOk Try.prog ρ con1 := ConOk.cons (fun _ w => awake_any w) .nil
end Go.Proofs.Ytifioklhjbelbaa
