/- Trees of BoxPoints (I). -/
import Derived.Test.YtnciilkcdemnjaaBoxF
namespace Go.Proofs.Ytnciilkcdemnjaa
open Go.RowKit
def ptK_n010 : Con := (25, [.agg [.int .i64 (.at 0), .int .i64 (.at 1), .int .i64 (.at 2), .int .i64 (.at 3), .int .i64 (.at 4), .int .i64 (.at 5)], .agg (iv 12 3)], .one (.bool (.lit true))) :: (25, [.agg [.int .i64 (.at 6), .int .i64 (.at 7), .int .i64 (.at 8), .int .i64 (.at 9), .int .i64 (.at 10), .int .i64 (.at 11)], .agg (iv 12 3)], .one (.bool (.lit false))) :: (25, [.agg [.int .i64 (.mn (.at 0) (.at 6)), .int .i64 (.mn (.at 1) (.at 7)), .int .i64 (.mn (.at 2) (.at 8)), .int .i64 (.mx (.at 3) (.at 9)), .int .i64 (.mx (.at 4) (.at 10)), .int .i64 (.mx (.at 5) (.at 11))], .agg (iv 12 3)], .one (.bool (.lit true))) :: con1
def ptF_n010 : PC := [(.le (.mn (.at 3) (.at 9)) (.mx (.at 0) (.at 6)), true)]
def ptO_n010 : PC := okAB ++ ptF_n010
theorem ptC_n010 : treeB Try.prog ptK_n010 ptO_n010 300 25 7 [.agg (iv 0 6), .agg (iv 6 6), .agg (iv 12 3)] = .ret (.one (.bool (.lit true))) := by kernel_rfl
def ptK_n001 : Con := (25, [.agg [.int .i64 (.at 0), .int .i64 (.at 1), .int .i64 (.at 2), .int .i64 (.at 3), .int .i64 (.at 4), .int .i64 (.at 5)], .agg (iv 12 3)], .one (.bool (.lit false))) :: (25, [.agg [.int .i64 (.at 6), .int .i64 (.at 7), .int .i64 (.at 8), .int .i64 (.at 9), .int .i64 (.at 10), .int .i64 (.at 11)], .agg (iv 12 3)], .one (.bool (.lit true))) :: (25, [.agg [.int .i64 (.mn (.at 0) (.at 6)), .int .i64 (.mn (.at 1) (.at 7)), .int .i64 (.mn (.at 2) (.at 8)), .int .i64 (.mx (.at 3) (.at 9)), .int .i64 (.mx (.at 4) (.at 10)), .int .i64 (.mx (.at 5) (.at 11))], .agg (iv 12 3)], .one (.bool (.lit true))) :: con1
def ptF_n001 : PC := [(.le (.mn (.at 3) (.at 9)) (.mx (.at 0) (.at 6)), true)]
def ptO_n001 : PC := okAB ++ ptF_n001
theorem ptC_n001 : treeB Try.prog ptK_n001 ptO_n001 300 25 7 [.agg (iv 0 6), .agg (iv 6 6), .agg (iv 12 3)] = .ret (.one (.bool (.lit true))) := by kernel_rfl
def ptK_n000 : Con := (25, [.agg [.int .i64 (.at 0), .int .i64 (.at 1), .int .i64 (.at 2), .int .i64 (.at 3), .int .i64 (.at 4), .int .i64 (.at 5)], .agg (iv 12 3)], .one (.bool (.lit false))) :: (25, [.agg [.int .i64 (.at 6), .int .i64 (.at 7), .int .i64 (.at 8), .int .i64 (.at 9), .int .i64 (.at 10), .int .i64 (.at 11)], .agg (iv 12 3)], .one (.bool (.lit false))) :: con1
def ptF_n000 : PC := [(.le (.mn (.at 3) (.at 9)) (.mx (.at 0) (.at 6)), true)]
def ptO_n000 : PC := okAB ++ ptF_n000
theorem ptC_n000 : treeB Try.prog ptK_n000 ptO_n000 300 25 7 [.agg (iv 0 6), .agg (iv 6 6), .agg (iv 12 3)] = .ret (.one (.bool (.lit true))) := by kernel_rfl
def ptK_n110 : Con := (25, [.agg [.int .i64 (.at 0), .int .i64 (.at 1), .int .i64 (.at 2), .int .i64 (.at 3), .int .i64 (.at 4), .int .i64 (.at 5)], .agg (iv 12 3)], .one (.bool (.lit true))) :: (25, [.agg [.int .i64 (.at 6), .int .i64 (.at 7), .int .i64 (.at 8), .int .i64 (.at 9), .int .i64 (.at 10), .int .i64 (.at 11)], .agg (iv 12 3)], .one (.bool (.lit false))) :: (25, [.agg [.int .i64 (.mn (.at 0) (.at 6)), .int .i64 (.mn (.at 1) (.at 7)), .int .i64 (.mn (.at 2) (.at 8)), .int .i64 (.mx (.at 3) (.at 9)), .int .i64 (.mx (.at 4) (.at 10)), .int .i64 (.mx (.at 5) (.at 11))], .agg (iv 12 3)], .one (.bool (.lit true))) :: con1
def ptF_n110 : PC := [(.le (.mn (.at 3) (.at 9)) (.mx (.at 0) (.at 6)), false), (.le (.mn (.at 4) (.at 10)) (.mx (.at 1) (.at 7)), true)]
def ptO_n110 : PC := okAB ++ ptF_n110
theorem ptC_n110 : treeB Try.prog ptK_n110 ptO_n110 300 25 7 [.agg (iv 0 6), .agg (iv 6 6), .agg (iv 12 3)] = .ret (.one (.bool (.lit true))) := by kernel_rfl
def ptK_n101 : Con := (25, [.agg [.int .i64 (.at 0), .int .i64 (.at 1), .int .i64 (.at 2), .int .i64 (.at 3), .int .i64 (.at 4), .int .i64 (.at 5)], .agg (iv 12 3)], .one (.bool (.lit false))) :: (25, [.agg [.int .i64 (.at 6), .int .i64 (.at 7), .int .i64 (.at 8), .int .i64 (.at 9), .int .i64 (.at 10), .int .i64 (.at 11)], .agg (iv 12 3)], .one (.bool (.lit true))) :: (25, [.agg [.int .i64 (.mn (.at 0) (.at 6)), .int .i64 (.mn (.at 1) (.at 7)), .int .i64 (.mn (.at 2) (.at 8)), .int .i64 (.mx (.at 3) (.at 9)), .int .i64 (.mx (.at 4) (.at 10)), .int .i64 (.mx (.at 5) (.at 11))], .agg (iv 12 3)], .one (.bool (.lit true))) :: con1
def ptF_n101 : PC := [(.le (.mn (.at 3) (.at 9)) (.mx (.at 0) (.at 6)), false), (.le (.mn (.at 4) (.at 10)) (.mx (.at 1) (.at 7)), true)]
def ptO_n101 : PC := okAB ++ ptF_n101
theorem ptC_n101 : treeB Try.prog ptK_n101 ptO_n101 300 25 7 [.agg (iv 0 6), .agg (iv 6 6), .agg (iv 12 3)] = .ret (.one (.bool (.lit true))) := by kernel_rfl
def ptK_n100 : Con := (25, [.agg [.int .i64 (.at 0), .int .i64 (.at 1), .int .i64 (.at 2), .int .i64 (.at 3), .int .i64 (.at 4), .int .i64 (.at 5)], .agg (iv 12 3)], .one (.bool (.lit false))) :: (25, [.agg [.int .i64 (.at 6), .int .i64 (.at 7), .int .i64 (.at 8), .int .i64 (.at 9), .int .i64 (.at 10), .int .i64 (.at 11)], .agg (iv 12 3)], .one (.bool (.lit false))) :: con1
def ptF_n100 : PC := [(.le (.mn (.at 3) (.at 9)) (.mx (.at 0) (.at 6)), false), (.le (.mn (.at 4) (.at 10)) (.mx (.at 1) (.at 7)), true)]
def ptO_n100 : PC := okAB ++ ptF_n100
theorem ptC_n100 : treeB Try.prog ptK_n100 ptO_n100 300 25 7 [.agg (iv 0 6), .agg (iv 6 6), .agg (iv 12 3)] = .ret (.one (.bool (.lit true))) := by kernel_rfl
def ptK_n210 : Con := (25, [.agg [.int .i64 (.at 0), .int .i64 (.at 1), .int .i64 (.at 2), .int .i64 (.at 3), .int .i64 (.at 4), .int .i64 (.at 5)], .agg (iv 12 3)], .one (.bool (.lit true))) :: (25, [.agg [.int .i64 (.at 6), .int .i64 (.at 7), .int .i64 (.at 8), .int .i64 (.at 9), .int .i64 (.at 10), .int .i64 (.at 11)], .agg (iv 12 3)], .one (.bool (.lit false))) :: (25, [.agg [.int .i64 (.mn (.at 0) (.at 6)), .int .i64 (.mn (.at 1) (.at 7)), .int .i64 (.mn (.at 2) (.at 8)), .int .i64 (.mx (.at 3) (.at 9)), .int .i64 (.mx (.at 4) (.at 10)), .int .i64 (.mx (.at 5) (.at 11))], .agg (iv 12 3)], .one (.bool (.lit true))) :: con1
def ptF_n210 : PC := [(.le (.mn (.at 3) (.at 9)) (.mx (.at 0) (.at 6)), false), (.le (.mn (.at 4) (.at 10)) (.mx (.at 1) (.at 7)), false), (.le (.mn (.at 5) (.at 11)) (.mx (.at 2) (.at 8)), true)]
def ptO_n210 : PC := okAB ++ ptF_n210
theorem ptC_n210 : treeB Try.prog ptK_n210 ptO_n210 300 25 7 [.agg (iv 0 6), .agg (iv 6 6), .agg (iv 12 3)] = .ret (.one (.bool (.lit true))) := by kernel_rfl
def ptK_n201 : Con := (25, [.agg [.int .i64 (.at 0), .int .i64 (.at 1), .int .i64 (.at 2), .int .i64 (.at 3), .int .i64 (.at 4), .int .i64 (.at 5)], .agg (iv 12 3)], .one (.bool (.lit false))) :: (25, [.agg [.int .i64 (.at 6), .int .i64 (.at 7), .int .i64 (.at 8), .int .i64 (.at 9), .int .i64 (.at 10), .int .i64 (.at 11)], .agg (iv 12 3)], .one (.bool (.lit true))) :: (25, [.agg [.int .i64 (.mn (.at 0) (.at 6)), .int .i64 (.mn (.at 1) (.at 7)), .int .i64 (.mn (.at 2) (.at 8)), .int .i64 (.mx (.at 3) (.at 9)), .int .i64 (.mx (.at 4) (.at 10)), .int .i64 (.mx (.at 5) (.at 11))], .agg (iv 12 3)], .one (.bool (.lit true))) :: con1
def ptF_n201 : PC := [(.le (.mn (.at 3) (.at 9)) (.mx (.at 0) (.at 6)), false), (.le (.mn (.at 4) (.at 10)) (.mx (.at 1) (.at 7)), false), (.le (.mn (.at 5) (.at 11)) (.mx (.at 2) (.at 8)), true)]
def ptO_n201 : PC := okAB ++ ptF_n201
theorem ptC_n201 : treeB Try.prog ptK_n201 ptO_n201 300 25 7 [.agg (iv 0 6), .agg (iv 6 6), .agg (iv 12 3)] = .ret (.one (.bool (.lit true))) := by kernel_rfl
def ptK_n200 : Con := (25, [.agg [.int .i64 (.at 0), .int .i64 (.at 1), .int .i64 (.at 2), .int .i64 (.at 3), .int .i64 (.at 4), .int .i64 (.at 5)], .agg (iv 12 3)], .one (.bool (.lit false))) :: (25, [.agg [.int .i64 (.at 6), .int .i64 (.at 7), .int .i64 (.at 8), .int .i64 (.at 9), .int .i64 (.at 10), .int .i64 (.at 11)], .agg (iv 12 3)], .one (.bool (.lit false))) :: con1
def ptF_n200 : PC := [(.le (.mn (.at 3) (.at 9)) (.mx (.at 0) (.at 6)), false), (.le (.mn (.at 4) (.at 10)) (.mx (.at 1) (.at 7)), false), (.le (.mn (.at 5) (.at 11)) (.mx (.at 2) (.at 8)), true)]
def ptO_n200 : PC := okAB ++ ptF_n200
theorem ptC_n200 : treeB Try.prog ptK_n200 ptO_n200 300 25 7 [.agg (iv 0 6), .agg (iv 6 6), .agg (iv 12 3)] = .ret (.one (.bool (.lit true))) := by kernel_rfl
end Go.Proofs.Ytnciilkcdemnjaa
