/- Move and Slice hand back prisms with lists of their own. -/
import Derived.Test.YtmpadjlplgajcaaPshA
namespace Go.Proofs.Ytmpadjlplgajcaa
open Go.RowKit
section
variable {S : S0} {y : Lay} {W : World} {dx dy dz z be : Int}
def KS : List CK := [.int .i64, .int .i64]
def byV : SV := .agg [i8 (.at 24), i8 (.at 25), i8 (.at 26)]
def byR : PC := rg 24 (-1000000) 1000000 ++ rg 25 (-1000000) 1000000 ++ rg 26 (-1000000) 1000000
def LBo : LB := ⟨60, 0, none, .at 8, KS, []⟩
def LBm (k : IE) : LB := ⟨60, 41, some k, .at 8, KS, []⟩
def LBf : LB := ⟨60, 40, none, .at 8, KS, []⟩
def LBu : LB := ⟨60, 41, some (.at 10), .at 8, KS, [(.at 10, [i8 (.add (.ap 0 (.at 10) (.lit 0)) (.at 24)), i8 (.add (.ap 0 (.at 10) (.lit 1)) (.at 25))])]⟩
def zsM : List SCl := [i8 (.add (.at 0) (.at 26)), i8 (.add (.at 1) (.at 26))]
def AM : LAnn := ⟨659506, 10, [(44, .one (i8 (.at 10))), (43, .one (i8 (.at 8))), (42, .one (.ssl L0)), (7, .one (.ptr 8 0)), (2, .one (.ptr 0 0)), (3, .one (.ptr 1 0)), (4, .one (.ptr 2 0))], [(8, ⟨25, .bls 9 (.at 8) :: zsM, 0, false, []⟩)], [0, 1],
  kOut 10 ++ [(.eq (.at 8) (.at 10), true)], [pcn ++ byR ++ kIn 10 ++ inR (.at 10)], 10, [(9, LBm (.at 10))], [(LBm (.lit 0), LBo)], [(LBm (.add (.at 10) (.lit 1)), LBu)]⟩
def mvI : SV := .agg (.blc 0 60 41 (some (.at 8)) (.at 8) KS :: zsM)
def conMv (b : Bool) : Con := [(52, [prismV], .one (.bool (.lit true))), (53, [.one (.ssl L0)], .one (.bool (.lit true))), (52, [mvI], .one (.bool (.lit b)))]
def MV : SV := .tup [⟨true, .blc 0 60 40 none (.at 8) KS :: zsM⟩, ⟨false, [i8 (.lit 0)]⟩]
def BADS : SV := .tup [⟨true, [.raw (.slice none 0 0), i8 (.lit 0), i8 (.lit 0)]⟩, ⟨false, [i8 (.lit 6)]⟩]
def axE : List (LB × LB) := [(LBf, LBm (.at 10))]
def pcM : PC := pcn ++ lt01 true ++ byR
theorem move_run : ((callR Try.prog (conMv true) [L0] 300 25 [AM]).run (.fn 29) [prismV, byV] [] 0 pcM).all (leafOk axE MV) = true := by kernel_rfl
theorem move_no : treeL Try.prog (conMv false) [L0] [AM] pcM 300 25 29 [prismV, byV] = .ret BADS := by kernel_rfl
def b1 : PC := [(.lt (.at 24) (.lit (-1000000)), true)]
def b2 : PC := [(.lt (.at 24) (.lit (-1000000)), false), (.lt (.lit 1000000) (.at 24), true)]
def b3 : PC := rg 24 (-1000000) 1000000 ++ [(.lt (.at 25) (.lit (-1000000)), true)]
def b4 : PC := rg 24 (-1000000) 1000000 ++ [(.lt (.at 25) (.lit (-1000000)), false), (.lt (.lit 1000000) (.at 25), true)]
def b5 : PC := rg 24 (-1000000) 1000000 ++ rg 25 (-1000000) 1000000 ++ [(.lt (.at 26) (.lit (-1000000)), true)]
def b6 : PC := rg 24 (-1000000) 1000000 ++ rg 25 (-1000000) 1000000 ++ [(.lt (.at 26) (.lit (-1000000)), false), (.lt (.lit 1000000) (.at 26), true)]
def pcB : PC := pcn ++ lt01 true
def conPl : Con := [(52, [prismV], .one (.bool (.lit true))), (53, [.one (.ssl L0)], .one (.bool (.lit true)))]
theorem mb_1 : treeL Try.prog conPl [L0] [] (pcB ++ b1) 300 25 29 [prismV, byV] = .ret BADS := by kernel_rfl
theorem mb_2 : treeL Try.prog conPl [L0] [] (pcB ++ b2) 300 25 29 [prismV, byV] = .ret BADS := by kernel_rfl
theorem mb_3 : treeL Try.prog conPl [L0] [] (pcB ++ b3) 300 25 29 [prismV, byV] = .ret BADS := by kernel_rfl
theorem mb_4 : treeL Try.prog conPl [L0] [] (pcB ++ b4) 300 25 29 [prismV, byV] = .ret BADS := by kernel_rfl
theorem mb_5 : treeL Try.prog conPl [L0] [] (pcB ++ b5) 300 25 29 [prismV, byV] = .ret BADS := by kernel_rfl
theorem mb_6 : treeL Try.prog conPl [L0] [] (pcB ++ b6) 300 25 29 [prismV, byV] = .ret BADS := by kernel_rfl
def slLo : SV := .tup [⟨true, [.blc 0 60 0 none (.at 8) KS, i8 (.mx (.at 0) (.at 0)), i8 (.mn (.at 27) (.at 1))]⟩, ⟨false, [i8 (.lit 0)]⟩]
def slHi : SV := .tup [⟨true, [.blc 0 60 0 none (.at 8) KS, i8 (.mx (.at 27) (.at 0)), i8 (.mn (.at 1) (.at 1))]⟩, ⟨false, [i8 (.lit 0)]⟩]
def pcLo : PC := pcB ++ [(.le (.at 27) (.at 0), false), (.le (.mn (.at 27) (.at 1)) (.mx (.at 0) (.at 0)), false)]
def pcHi : PC := pcB ++ [(.le (.at 1) (.at 27), false), (.le (.mn (.at 1) (.at 1)) (.mx (.at 27) (.at 0)), false)]
theorem slLo_run : ((callR Try.prog conPl [L0] 300 25 []).run (.fn 30) [prismV, .one (i8 (.at 0)), .one (i8 (.at 27))] [] 0 pcLo).all (leafOk [] slLo) = true := by kernel_rfl
theorem slHi_run : ((callR Try.prog conPl [L0] 300 25 []).run (.fn 30) [prismV, .one (i8 (.at 27)), .one (i8 (.at 1))] [] 0 pcHi).all (leafOk [] slHi) = true := by kernel_rfl
end
end Go.Proofs.Ytmpadjlplgajcaa
