/- PrismOfBoxes: the walk, second part. -/
import Derived.Test.YtpahjgbaidjgcaaPboB
namespace Go.Proofs.Ytpahjgbaidjgcaa
open Go.RowKit
theorem tM0111 : treeB Try.prog kG gM0111 400 30 8 ARb = YT := by kernel_rfl
theorem tM0110 : treeB Try.prog kG gM0110 400 30 8 ARb = YT := by kernel_rfl
theorem tM0101 : treeB Try.prog kG gM0101 400 30 8 ARb = YT := by kernel_rfl
theorem tM0100 : treeB Try.prog kG gM0100 400 30 8 ARb = YT := by kernel_rfl
theorem tM0011 : treeB Try.prog kG gM0011 400 30 8 ARb = YT := by kernel_rfl
theorem tM0010 : treeB Try.prog kG gM0010 400 30 8 ARb = YT := by kernel_rfl
theorem tM0001 : treeB Try.prog kG gM0001 400 30 8 ARb = YT := by kernel_rfl
theorem tM0000 : treeB Try.prog kG gM0000 400 30 8 ARb = YT := by kernel_rfl
end Go.Proofs.Ytpahjgbaidjgcaa
