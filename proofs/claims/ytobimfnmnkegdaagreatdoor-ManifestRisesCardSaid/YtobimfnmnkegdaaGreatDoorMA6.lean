import Derived.Test.YtobimfnmnkegdaaGreatDoorMA5
set_option maxRecDepth 1000000
set_option maxHeartbeats 8000000
set_option linter.unusedVariables false
set_option linter.unusedSimpArgs false
set_option linter.unnecessarySimpa false
namespace Go.Proofs.YtobimfnmnkegdaaGreatDoor
open Go.RowKit

section
theorem finq_r5_0 (W:World)(hK:RecLib W):YC 87 #[.string (mkS [60,50])] W λen w'=>en= .returned (.bool true)/\YB W w':=zI hK λT ht e=>by kernel_rfl
theorem finq_r5 (W:World)(hK:RecLib W):∀ s∈([[60,50]]:List YL),YC 87 #[.string (mkS s)] W λen w'=>en= .returned (.bool true)/\YB W w':=
 List.forall_mem_cons.2 ⟨finq_r5_0 W hK,λ_ h=>absurd h List.not_mem_nil⟩
end
section
theorem finq_m2_0 (W:World)(hK:RecLib W):YC 116 #[.string (mkS [111,115,32,33,61,32,119,95,49])] W λen w'=>en= .returned (.bool true)/\YB W w':=zI hK λT ht e=>by kernel_rfl
theorem finq_m2_1 (W:World)(hK:RecLib W):YC 116 #[.string (mkS [97,114,99,104,32,61,32,120])] W λen w'=>en= .returned (.bool true)/\YB W w':=zI hK λT ht e=>by kernel_rfl
theorem finq_m2_2 (W:World)(hK:RecLib W):YC 116 #[.string (mkS [97,114,99,104,32,61,32,121])] W λen w'=>en= .returned (.bool true)/\YB W w':=zI hK λT ht e=>by kernel_rfl
theorem finq_m2_3 (W:World)(hK:RecLib W):YC 116 #[.string (mkS [97,114,99,104,32,61,32,122])] W λen w'=>en= .returned (.bool true)/\YB W w':=zI hK λT ht e=>by kernel_rfl
theorem finq_m2_4 (W:World)(hK:RecLib W):YC 116 #[.string (mkS [97,114,99,104,32,61,32,119,95,49])] W λen w'=>en= .returned (.bool true)/\YB W w':=zI hK λT ht e=>by kernel_rfl
theorem finq_m2_5 (W:World)(hK:RecLib W):YC 116 #[.string (mkS [97,114,99,104,32,33,61,32,120])] W λen w'=>en= .returned (.bool true)/\YB W w':=zI hK λT ht e=>by kernel_rfl
theorem finq_m2_6 (W:World)(hK:RecLib W):YC 116 #[.string (mkS [97,114,99,104,32,33,61,32,121])] W λen w'=>en= .returned (.bool true)/\YB W w':=zI hK λT ht e=>by kernel_rfl
theorem finq_m2_7 (W:World)(hK:RecLib W):YC 116 #[.string (mkS [97,114,99,104,32,33,61,32,122])] W λen w'=>en= .returned (.bool true)/\YB W w':=zI hK λT ht e=>by kernel_rfl
theorem finq_m2 (W:World)(hK:RecLib W):∀ s∈([[111,115,32,33,61,32,119,95,49],[97,114,99,104,32,61,32,120],[97,114,99,104,32,61,32,121],[97,114,99,104,32,61,32,122],[97,114,99,104,32,61,32,119,95,49],[97,114,99,104,32,33,61,32,120],[97,114,99,104,32,33,61,32,121],[97,114,99,104,32,33,61,32,122]]:List YL),YC 116 #[.string (mkS s)] W λen w'=>en= .returned (.bool true)/\YB W w':=
 List.forall_mem_cons.2 ⟨finq_m2_0 W hK,List.forall_mem_cons.2 ⟨finq_m2_1 W hK,List.forall_mem_cons.2 ⟨finq_m2_2 W hK,List.forall_mem_cons.2 ⟨finq_m2_3 W hK,List.forall_mem_cons.2 ⟨finq_m2_4 W hK,List.forall_mem_cons.2 ⟨finq_m2_5 W hK,List.forall_mem_cons.2 ⟨finq_m2_6 W hK,List.forall_mem_cons.2 ⟨finq_m2_7 W hK,λ_ h=>absurd h List.not_mem_nil⟩⟩⟩⟩⟩⟩⟩⟩
end
section
theorem finq_m4_0 (W:World)(hK:RecLib W):YC 116 #[.string (mkS [97,98,105,32,33,61,32,119,95,49])] W λen w'=>en= .returned (.bool true)/\YB W w':=zI hK λT ht e=>by kernel_rfl
theorem finq_m4 (W:World)(hK:RecLib W):∀ s∈([[97,98,105,32,33,61,32,119,95,49]]:List YL),YC 116 #[.string (mkS s)] W λen w'=>en= .returned (.bool true)/\YB W w':=
 List.forall_mem_cons.2 ⟨finq_m4_0 W hK,λ_ h=>absurd h List.not_mem_nil⟩
end
end Go.Proofs.YtobimfnmnkegdaaGreatDoor
