import Derived.Test.YtobimfnmnkegdaaGreatDoorMA5
set_option maxRecDepth 1000000
set_option maxHeartbeats 8000000
set_option linter.unusedVariables false
set_option linter.unusedSimpArgs false
set_option linter.unnecessarySimpa false
namespace Go.Proofs.YtobimfnmnkegdaaGreatDoor
open Go.RowKit

section
theorem finq_r3_0 (W:World)(hK:RecLib W):YC 87 #[.string (mkS [60,49,46,49,46,48])] W λen w'=>en= .returned (.bool true)/\YB W w':=zI hK λT ht e=>by kernel_rfl
theorem finq_r3_1 (W:World)(hK:RecLib W):YC 87 #[.string (mkS [60,50,46,48,46,48])] W λen w'=>en= .returned (.bool true)/\YB W w':=zI hK λT ht e=>by kernel_rfl
theorem finq_r3_2 (W:World)(hK:RecLib W):YC 87 #[.string (mkS [60,50,46,49,46,48])] W λen w'=>en= .returned (.bool true)/\YB W w':=zI hK λT ht e=>by kernel_rfl
theorem finq_r3_3 (W:World)(hK:RecLib W):YC 87 #[.string (mkS [61,48,46,48,46,48])] W λen w'=>en= .returned (.bool true)/\YB W w':=zI hK λT ht e=>by kernel_rfl
theorem finq_r3_4 (W:World)(hK:RecLib W):YC 87 #[.string (mkS [61,48,46,49,46,48])] W λen w'=>en= .returned (.bool true)/\YB W w':=zI hK λT ht e=>by kernel_rfl
theorem finq_r3_5 (W:World)(hK:RecLib W):YC 87 #[.string (mkS [61,49,46,48,46,48])] W λen w'=>en= .returned (.bool true)/\YB W w':=zI hK λT ht e=>by kernel_rfl
theorem finq_r3_6 (W:World)(hK:RecLib W):YC 87 #[.string (mkS [61,49,46,49,46,48])] W λen w'=>en= .returned (.bool true)/\YB W w':=zI hK λT ht e=>by kernel_rfl
theorem finq_r3_7 (W:World)(hK:RecLib W):YC 87 #[.string (mkS [61,50,46,48,46,48])] W λen w'=>en= .returned (.bool true)/\YB W w':=zI hK λT ht e=>by kernel_rfl
theorem finq_r3 (W:World)(hK:RecLib W):∀ s∈([[60,49,46,49,46,48],[60,50,46,48,46,48],[60,50,46,49,46,48],[61,48,46,48,46,48],[61,48,46,49,46,48],[61,49,46,48,46,48],[61,49,46,49,46,48],[61,50,46,48,46,48]]:List YL),YC 87 #[.string (mkS s)] W λen w'=>en= .returned (.bool true)/\YB W w':=
 List.forall_mem_cons.2 ⟨finq_r3_0 W hK,List.forall_mem_cons.2 ⟨finq_r3_1 W hK,List.forall_mem_cons.2 ⟨finq_r3_2 W hK,List.forall_mem_cons.2 ⟨finq_r3_3 W hK,List.forall_mem_cons.2 ⟨finq_r3_4 W hK,List.forall_mem_cons.2 ⟨finq_r3_5 W hK,List.forall_mem_cons.2 ⟨finq_r3_6 W hK,List.forall_mem_cons.2 ⟨finq_r3_7 W hK,λ_ h=>absurd h List.not_mem_nil⟩⟩⟩⟩⟩⟩⟩⟩
end
section
theorem finq_m1_0 (W:World)(hK:RecLib W):YC 116 #[.string (mkS [])] W λen w'=>en= .returned (.bool true)/\YB W w':=zI hK λT ht e=>by kernel_rfl
theorem finq_m1_1 (W:World)(hK:RecLib W):YC 116 #[.string (mkS [111,115,32,61,32,120])] W λen w'=>en= .returned (.bool true)/\YB W w':=zI hK λT ht e=>by kernel_rfl
theorem finq_m1_2 (W:World)(hK:RecLib W):YC 116 #[.string (mkS [111,115,32,61,32,121])] W λen w'=>en= .returned (.bool true)/\YB W w':=zI hK λT ht e=>by kernel_rfl
theorem finq_m1_3 (W:World)(hK:RecLib W):YC 116 #[.string (mkS [111,115,32,61,32,122])] W λen w'=>en= .returned (.bool true)/\YB W w':=zI hK λT ht e=>by kernel_rfl
theorem finq_m1_4 (W:World)(hK:RecLib W):YC 116 #[.string (mkS [111,115,32,61,32,119,95,49])] W λen w'=>en= .returned (.bool true)/\YB W w':=zI hK λT ht e=>by kernel_rfl
theorem finq_m1_5 (W:World)(hK:RecLib W):YC 116 #[.string (mkS [111,115,32,33,61,32,120])] W λen w'=>en= .returned (.bool true)/\YB W w':=zI hK λT ht e=>by kernel_rfl
theorem finq_m1_6 (W:World)(hK:RecLib W):YC 116 #[.string (mkS [111,115,32,33,61,32,121])] W λen w'=>en= .returned (.bool true)/\YB W w':=zI hK λT ht e=>by kernel_rfl
theorem finq_m1_7 (W:World)(hK:RecLib W):YC 116 #[.string (mkS [111,115,32,33,61,32,122])] W λen w'=>en= .returned (.bool true)/\YB W w':=zI hK λT ht e=>by kernel_rfl
theorem finq_m1 (W:World)(hK:RecLib W):∀ s∈([[],[111,115,32,61,32,120],[111,115,32,61,32,121],[111,115,32,61,32,122],[111,115,32,61,32,119,95,49],[111,115,32,33,61,32,120],[111,115,32,33,61,32,121],[111,115,32,33,61,32,122]]:List YL),YC 116 #[.string (mkS s)] W λen w'=>en= .returned (.bool true)/\YB W w':=
 List.forall_mem_cons.2 ⟨finq_m1_0 W hK,List.forall_mem_cons.2 ⟨finq_m1_1 W hK,List.forall_mem_cons.2 ⟨finq_m1_2 W hK,List.forall_mem_cons.2 ⟨finq_m1_3 W hK,List.forall_mem_cons.2 ⟨finq_m1_4 W hK,List.forall_mem_cons.2 ⟨finq_m1_5 W hK,List.forall_mem_cons.2 ⟨finq_m1_6 W hK,List.forall_mem_cons.2 ⟨finq_m1_7 W hK,λ_ h=>absurd h List.not_mem_nil⟩⟩⟩⟩⟩⟩⟩⟩
end
end Go.Proofs.YtobimfnmnkegdaaGreatDoor
