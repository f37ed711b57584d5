/- The examples, run by run. -/
import Derived.Test.YtlmijfgmfcnngaaEzN
import Derived.Test.YtlmijfgmfcnngaaProg
namespace Go.Proofs.Ytlmijfgmfcnngaa
open Go.RowKit
theorem wide : Try.prog.follows .mixedOrders = true := by kernel_rfl
def run0 : Run := ⟨21, [(.agg [(.slc 0 0 3 3 true), (.slc 1 0 1 1 true)]), (.one (.int .i64 (.lit (0)))), (.one (.int .i64 (.lit (10080))))], [(1, some (.blk ⟨3, [(.int .i64 (.lit (7)))], 0, false, []⟩)), (0, some (.blk ⟨54, [(.int .i64 (.lit (1))), (.int .i64 (.lit (480))), (.int .i64 (.lit (720))), (.int .i64 (.lit (1))), (.int .i64 (.lit (780))), (.int .i64 (.lit (960))), (.int .i64 (.lit (2))), (.int .i64 (.lit (480))), (.int .i64 (.lit (600)))], 0, false, []⟩))], 3, (.tup [⟨false, [(.int .i64 (.lit (540)))]⟩, ⟨false, [(.int .i64 (.lit (0)))]⟩]), [], 92⟩
theorem run0_is : callE Try.prog [] 3000 39 (.fn run0.f) run0.args run0.hp run0.nx [] = .ret (run0.v, run0.d, run0.n, []) := by kernel_rfl
def run1 : Run := ⟨22, [(.agg [(.slc 0 0 3 3 true), (.slc 1 0 1 1 true)]), (.one (.int .i64 (.lit (960))))], [(1, some (.blk ⟨3, [(.int .i64 (.lit (7)))], 0, false, []⟩)), (0, some (.blk ⟨54, [(.int .i64 (.lit (1))), (.int .i64 (.lit (480))), (.int .i64 (.lit (720))), (.int .i64 (.lit (1))), (.int .i64 (.lit (780))), (.int .i64 (.lit (960))), (.int .i64 (.lit (2))), (.int .i64 (.lit (480))), (.int .i64 (.lit (600)))], 0, false, []⟩))], 92, (.tup [⟨false, [(.int .i64 (.lit (1920)))]⟩, ⟨false, [(.int .i64 (.lit (0)))]⟩]), [], 139⟩
theorem run1_is : callE Try.prog [] 3000 39 (.fn run1.f) run1.args run1.hp run1.nx [] = .ret (run1.v, run1.d, run1.n, []) := by kernel_rfl
def run2 : Run := ⟨25, [(.agg [(.slc 0 0 3 3 true), (.slc 1 0 1 1 true)]), (.one (.int .i64 (.lit (700)))), (.one (.int .i64 (.lit (30))))], [(1, some (.blk ⟨3, [(.int .i64 (.lit (7)))], 0, false, []⟩)), (0, some (.blk ⟨54, [(.int .i64 (.lit (1))), (.int .i64 (.lit (480))), (.int .i64 (.lit (720))), (.int .i64 (.lit (1))), (.int .i64 (.lit (780))), (.int .i64 (.lit (960))), (.int .i64 (.lit (2))), (.int .i64 (.lit (480))), (.int .i64 (.lit (600)))], 0, false, []⟩))], 139, (.tup [⟨false, [(.int .i64 (.lit (790)))]⟩, ⟨false, [(.int .i64 (.lit (0)))]⟩]), [], 172⟩
theorem run2_is : callE Try.prog [] 3000 39 (.fn run2.f) run2.args run2.hp run2.nx [] = .ret (run2.v, run2.d, run2.n, []) := by kernel_rfl
def run3 : Run := ⟨26, [(.agg [(.slc 0 0 3 3 true), (.slc 1 0 1 1 true)]), (.one (.int .i64 (.lit (790)))), (.one (.int .i64 (.lit (30))))], [(1, some (.blk ⟨3, [(.int .i64 (.lit (7)))], 0, false, []⟩)), (0, some (.blk ⟨54, [(.int .i64 (.lit (1))), (.int .i64 (.lit (480))), (.int .i64 (.lit (720))), (.int .i64 (.lit (1))), (.int .i64 (.lit (780))), (.int .i64 (.lit (960))), (.int .i64 (.lit (2))), (.int .i64 (.lit (480))), (.int .i64 (.lit (600)))], 0, false, []⟩))], 172, (.tup [⟨false, [(.int .i64 (.lit (700)))]⟩, ⟨false, [(.int .i64 (.lit (0)))]⟩]), [], 271⟩
theorem run3_is : callE Try.prog [] 3000 39 (.fn run3.f) run3.args run3.hp run3.nx [] = .ret (run3.v, run3.d, run3.n, []) := by kernel_rfl
def run4 : Run := ⟨27, [(.agg [(.slc 0 0 3 3 true), (.slc 1 0 1 1 true)]), (.one (.int .i64 (.lit (800)))), (.one (.int .i64 (.lit (200))))], [(1, some (.blk ⟨3, [(.int .i64 (.lit (7)))], 0, false, []⟩)), (0, some (.blk ⟨54, [(.int .i64 (.lit (1))), (.int .i64 (.lit (480))), (.int .i64 (.lit (720))), (.int .i64 (.lit (1))), (.int .i64 (.lit (780))), (.int .i64 (.lit (960))), (.int .i64 (.lit (2))), (.int .i64 (.lit (480))), (.int .i64 (.lit (600)))], 0, false, []⟩))], 271, (.tup [⟨false, [(.int .i64 (.lit (20640)))]⟩, ⟨false, [(.int .i64 (.lit (0)))]⟩]), [], 431⟩
theorem run4_is : callE Try.prog [] 3000 39 (.fn run4.f) run4.args run4.hp run4.nx [] = .ret (run4.v, run4.d, run4.n, []) := by kernel_rfl
def run5 : Run := ⟨15, [(.agg [(.slc 0 0 3 3 true), (.slc 1 0 1 1 true)])], [(1, some (.blk ⟨3, [(.int .i64 (.lit (7)))], 0, false, []⟩)), (0, some (.blk ⟨54, [(.int .i64 (.lit (1))), (.int .i64 (.lit (480))), (.int .i64 (.lit (720))), (.int .i64 (.lit (1))), (.int .i64 (.lit (780))), (.int .i64 (.lit (960))), (.int .i64 (.lit (2))), (.int .i64 (.lit (480))), (.int .i64 (.lit (600)))], 0, false, []⟩))], 431, (.tup [⟨false, [(.int .i64 (.lit (540)))]⟩, ⟨false, [(.int .i64 (.lit (0)))]⟩]), [], 445⟩
theorem run5_is : callE Try.prog [] 3000 39 (.fn run5.f) run5.args run5.hp run5.nx [] = .ret (run5.v, run5.d, run5.n, []) := by kernel_rfl
def runs : List Run := [run0, run1, run2, run3, run4, run5]
theorem runs_ok : ∀ r ∈ runs, r.Is Try.prog [] 3000 39 := List.forall_mem_cons.2 ⟨run0_is, List.forall_mem_cons.2 ⟨run1_is, List.forall_mem_cons.2 ⟨run2_is, List.forall_mem_cons.2 ⟨run3_is, List.forall_mem_cons.2 ⟨run4_is, List.forall_mem_cons.2 ⟨run5_is, fun _ h => by cases h⟩⟩⟩⟩⟩⟩
theorem awakeTreeR : treeR Try.prog [] runs [] 3000 39 12 [] = .ret (.one (.bool (.lit true))) := by kernel_rfl
theorem awakeTree : treeB Try.prog [] [] 3000 40 12 [] = .ret (.one (.bool (.lit true))) := (treeR_eq runs_ok).trans awakeTreeR
theorem awake_any (w : World) : Calls Try.prog 12 #[] w fun e w' => e = .returned (.bool true) ∧ Below w.heap.size w w' :=
  tree_law (ρ := envX [] []) .nil .nil wide awakeTree (by kernel_rfl) rfl Good.yes w
/-- What is known of calls: the examples. -/
def con1 : Con := [(12, [], .one (.bool (.lit true)))]
theorem con1_ok (ρ : EnvS) : ConOk Try.prog ρ con1 := ConOk.cons (fun _ w => awake_any w) .nil
end Go.Proofs.Ytlmijfgmfcnngaa
