/- PrismShifts: the trees of its cases. -/
import Derived.Test.YtmpadjlplgajcaaPshC
namespace Go.Proofs.Ytmpadjlplgajcaa
open Go.RowKit
section
def ARs : List SV := [prismV, .agg (iv 2 6), byV, .one (i8 (.at 27))]
def cBox : SV := .agg [i8 (.add (.at 2) (.at 24)), i8 (.add (.at 3) (.at 25)), i8 (.add (.at 4) (.at 26)), i8 (.add (.at 5) (.at 24)), i8 (.add (.at 6) (.at 25)), i8 (.add (.at 7) (.at 26))]
def mvA : SV := .agg (.blc 0 60 40 none (.at 8) KS :: zsM)
def loA : SV := .agg [.blc 0 60 0 none (.at 8) KS, i8 (.mx (.at 0) (.at 0)), i8 (.mn (.at 27) (.at 1))]
def hiA : SV := .agg [.blc 0 60 0 none (.at 8) KS, i8 (.mx (.at 27) (.at 0)), i8 (.mn (.at 1) (.at 1))]
def resO (b : Bool) : SV := .tup [⟨false, [.bool (.lit b)]⟩, e0]
def resX : SV := .tup [⟨false, [.bool (.lit false)]⟩, ⟨false, [i8 (.lit 1)]⟩]
def cOv (o : Bool) (r : Con) : Con := (17, AR, resO o) :: r
def cM0 (o : Bool) : Con := (29, [prismV, byV], MV) :: (17, [mvA, cBox], resO o) :: cOv o con1
def cM1 (o : Bool) : Con := (29, [prismV, byV], MV) :: (17, [mvA, cBox], resX) :: cOv o con1
def cM2 (o : Bool) : Con := (29, [prismV, byV], BADS) :: cOv o con1
def cSl (x y : Bool) (r : Con) : Con := (30, [prismV, .one (i8 (.at 0)), .one (i8 (.at 27))], slLo) :: (30, [prismV, .one (i8 (.at 27)), .one (i8 (.at 1))], slHi) :: (17, [loA, .agg (iv 2 6)], resO x) :: (17, [hiA, .agg (iv 2 6)], resO y) :: r
def zAs : PC := [(.le (.at 27) (.at 0), true)]
def zBs : PC := [(.le (.at 27) (.at 0), false), (.le (.at 1) (.at 27), true)]
def zCs : PC := [(.le (.at 27) (.at 0), false), (.le (.at 1) (.at 27), false)]
def pv : PC := pcn ++ VBx
def pM0 : PC := pv ++ byR
def pM1 : PC := pv ++ byR
def pM2 : PC := pv
theorem ps_0tA : treeBL Try.prog (cM0 true) [L0] [] (pM0 ++ zAs) 300 30 9 ARs = YT := by kernel_rfl
theorem ps_0tB : treeBL Try.prog (cM0 true) [L0] [] (pM0 ++ zBs) 300 30 9 ARs = YT := by kernel_rfl
theorem ps_0tCtt : treeBL Try.prog (cSl true true (cM0 true)) [L0] [] (pM0 ++ zCs) 300 30 9 ARs = YT := by kernel_rfl
theorem ps_0tCtf : treeBL Try.prog (cSl true false (cM0 true)) [L0] [] (pM0 ++ zCs) 300 30 9 ARs = YT := by kernel_rfl
theorem ps_0tCft : treeBL Try.prog (cSl false true (cM0 true)) [L0] [] (pM0 ++ zCs) 300 30 9 ARs = YT := by kernel_rfl
theorem ps_0fA : treeBL Try.prog (cM0 false) [L0] [] (pM0 ++ zAs) 300 30 9 ARs = YT := by kernel_rfl
theorem ps_0fB : treeBL Try.prog (cM0 false) [L0] [] (pM0 ++ zBs) 300 30 9 ARs = YT := by kernel_rfl
theorem ps_0fCff : treeBL Try.prog (cSl false false (cM0 false)) [L0] [] (pM0 ++ zCs) 300 30 9 ARs = YT := by kernel_rfl
theorem ps_1tA : treeBL Try.prog (cM1 true) [L0] [] (pM1 ++ zAs) 300 30 9 ARs = YT := by kernel_rfl
theorem ps_1tB : treeBL Try.prog (cM1 true) [L0] [] (pM1 ++ zBs) 300 30 9 ARs = YT := by kernel_rfl
theorem ps_1tCtt : treeBL Try.prog (cSl true true (cM1 true)) [L0] [] (pM1 ++ zCs) 300 30 9 ARs = YT := by kernel_rfl
theorem ps_1tCtf : treeBL Try.prog (cSl true false (cM1 true)) [L0] [] (pM1 ++ zCs) 300 30 9 ARs = YT := by kernel_rfl
theorem ps_1tCft : treeBL Try.prog (cSl false true (cM1 true)) [L0] [] (pM1 ++ zCs) 300 30 9 ARs = YT := by kernel_rfl
theorem ps_1fA : treeBL Try.prog (cM1 false) [L0] [] (pM1 ++ zAs) 300 30 9 ARs = YT := by kernel_rfl
theorem ps_1fB : treeBL Try.prog (cM1 false) [L0] [] (pM1 ++ zBs) 300 30 9 ARs = YT := by kernel_rfl
theorem ps_1fCff : treeBL Try.prog (cSl false false (cM1 false)) [L0] [] (pM1 ++ zCs) 300 30 9 ARs = YT := by kernel_rfl
theorem ps_2tA : treeBL Try.prog (cM2 true) [L0] [] (pM2 ++ zAs) 300 30 9 ARs = YT := by kernel_rfl
theorem ps_2tB : treeBL Try.prog (cM2 true) [L0] [] (pM2 ++ zBs) 300 30 9 ARs = YT := by kernel_rfl
theorem ps_2tCtt : treeBL Try.prog (cSl true true (cM2 true)) [L0] [] (pM2 ++ zCs) 300 30 9 ARs = YT := by kernel_rfl
theorem ps_2tCtf : treeBL Try.prog (cSl true false (cM2 true)) [L0] [] (pM2 ++ zCs) 300 30 9 ARs = YT := by kernel_rfl
theorem ps_2tCft : treeBL Try.prog (cSl false true (cM2 true)) [L0] [] (pM2 ++ zCs) 300 30 9 ARs = YT := by kernel_rfl
theorem ps_2fA : treeBL Try.prog (cM2 false) [L0] [] (pM2 ++ zAs) 300 30 9 ARs = YT := by kernel_rfl
theorem ps_2fB : treeBL Try.prog (cM2 false) [L0] [] (pM2 ++ zBs) 300 30 9 ARs = YT := by kernel_rfl
theorem ps_2fCff : treeBL Try.prog (cSl false false (cM2 false)) [L0] [] (pM2 ++ zCs) 300 30 9 ARs = YT := by kernel_rfl
theorem pi_1 : treeBL Try.prog con1 [L0] [] g80 300 30 9 ARs = YT := by kernel_rfl
theorem pi_2 : treeBL Try.prog con1 [L0] [] p65 300 30 9 ARs = YT := by kernel_rfl
theorem pi_3 : treeBL Try.prog con1 [L0] [] p02 300 30 9 ARs = YT := by kernel_rfl
theorem pi_4 : treeBL Try.prog (inT false) [L0] [] pn 300 30 9 ARs = YT := by kernel_rfl
theorem pi_5 : treeBL Try.prog (inT true) [L0] [] p5 300 30 9 ARs = YT := by kernel_rfl
theorem pi_6 : treeBL Try.prog (cvT false) [L0] [] p6' 300 30 9 ARs = YT := by kernel_rfl
theorem pi_7 : treeBL Try.prog bxT [L0] [] p7 300 30 9 ARs = YT := by kernel_rfl
end
end Go.Proofs.Ytmpadjlplgajcaa
