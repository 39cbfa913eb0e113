import Derived.Test.YtobimfnmnkegdaaGreatDoorMA5
set_option maxRecDepth 1000000
set_option maxHeartbeats 8000000
set_option linter.unusedVariables false
set_option linter.unusedSimpArgs false
set_option linter.unnecessarySimpa false
namespace Go.Proofs.YtobimfnmnkegdaaGreatDoor
open Go.RowKit

section
theorem finq_r2_0 (W:World)(hK:RecLib W):YC 87 #[.string (mkS [62,61,48,46,49,46,48])] W λen w'=>en= .returned (.bool true)/\YB W w':=zI hK λT ht e=>by kernel_rfl
theorem finq_r2_1 (W:World)(hK:RecLib W):YC 87 #[.string (mkS [62,61,49,46,48,46,48])] W λen w'=>en= .returned (.bool true)/\YB W w':=zI hK λT ht e=>by kernel_rfl
theorem finq_r2_2 (W:World)(hK:RecLib W):YC 87 #[.string (mkS [62,61,49,46,49,46,48])] W λen w'=>en= .returned (.bool true)/\YB W w':=zI hK λT ht e=>by kernel_rfl
theorem finq_r2_3 (W:World)(hK:RecLib W):YC 87 #[.string (mkS [62,61,50,46,48,46,48])] W λen w'=>en= .returned (.bool true)/\YB W w':=zI hK λT ht e=>by kernel_rfl
theorem finq_r2_4 (W:World)(hK:RecLib W):YC 87 #[.string (mkS [62,61,50,46,49,46,48])] W λen w'=>en= .returned (.bool true)/\YB W w':=zI hK λT ht e=>by kernel_rfl
theorem finq_r2_5 (W:World)(hK:RecLib W):YC 87 #[.string (mkS [60,48,46,48,46,48])] W λen w'=>en= .returned (.bool true)/\YB W w':=zI hK λT ht e=>by kernel_rfl
theorem finq_r2_6 (W:World)(hK:RecLib W):YC 87 #[.string (mkS [60,48,46,49,46,48])] W λen w'=>en= .returned (.bool true)/\YB W w':=zI hK λT ht e=>by kernel_rfl
theorem finq_r2_7 (W:World)(hK:RecLib W):YC 87 #[.string (mkS [60,49,46,48,46,48])] W λen w'=>en= .returned (.bool true)/\YB W w':=zI hK λT ht e=>by kernel_rfl
theorem finq_r2 (W:World)(hK:RecLib W):∀ s∈([[62,61,48,46,49,46,48],[62,61,49,46,48,46,48],[62,61,49,46,49,46,48],[62,61,50,46,48,46,48],[62,61,50,46,49,46,48],[60,48,46,48,46,48],[60,48,46,49,46,48],[60,49,46,48,46,48]]:List YL),YC 87 #[.string (mkS s)] W λen w'=>en= .returned (.bool true)/\YB W w':=
 List.forall_mem_cons.2 ⟨finq_r2_0 W hK,List.forall_mem_cons.2 ⟨finq_r2_1 W hK,List.forall_mem_cons.2 ⟨finq_r2_2 W hK,List.forall_mem_cons.2 ⟨finq_r2_3 W hK,List.forall_mem_cons.2 ⟨finq_r2_4 W hK,List.forall_mem_cons.2 ⟨finq_r2_5 W hK,List.forall_mem_cons.2 ⟨finq_r2_6 W hK,List.forall_mem_cons.2 ⟨finq_r2_7 W hK,λ_ h=>absurd h List.not_mem_nil⟩⟩⟩⟩⟩⟩⟩⟩
end
section
theorem finq_r4_0 (W:World)(hK:RecLib W):YC 87 #[.string (mkS [61,50,46,49,46,48])] W λen w'=>en= .returned (.bool true)/\YB W w':=zI hK λT ht e=>by kernel_rfl
theorem finq_r4_1 (W:World)(hK:RecLib W):YC 87 #[.string (mkS [33,61,48,46,48,46,48])] W λen w'=>en= .returned (.bool true)/\YB W w':=zI hK λT ht e=>by kernel_rfl
theorem finq_r4_2 (W:World)(hK:RecLib W):YC 87 #[.string (mkS [33,61,48,46,49,46,48])] W λen w'=>en= .returned (.bool true)/\YB W w':=zI hK λT ht e=>by kernel_rfl
theorem finq_r4_3 (W:World)(hK:RecLib W):YC 87 #[.string (mkS [33,61,49,46,48,46,48])] W λen w'=>en= .returned (.bool true)/\YB W w':=zI hK λT ht e=>by kernel_rfl
theorem finq_r4_4 (W:World)(hK:RecLib W):YC 87 #[.string (mkS [33,61,49,46,49,46,48])] W λen w'=>en= .returned (.bool true)/\YB W w':=zI hK λT ht e=>by kernel_rfl
theorem finq_r4_5 (W:World)(hK:RecLib W):YC 87 #[.string (mkS [33,61,50,46,48,46,48])] W λen w'=>en= .returned (.bool true)/\YB W w':=zI hK λT ht e=>by kernel_rfl
theorem finq_r4_6 (W:World)(hK:RecLib W):YC 87 #[.string (mkS [33,61,50,46,49,46,48])] W λen w'=>en= .returned (.bool true)/\YB W w':=zI hK λT ht e=>by kernel_rfl
theorem finq_r4_7 (W:World)(hK:RecLib W):YC 87 #[.string (mkS [60,49])] W λen w'=>en= .returned (.bool true)/\YB W w':=zI hK λT ht e=>by kernel_rfl
theorem finq_r4 (W:World)(hK:RecLib W):∀ s∈([[61,50,46,49,46,48],[33,61,48,46,48,46,48],[33,61,48,46,49,46,48],[33,61,49,46,48,46,48],[33,61,49,46,49,46,48],[33,61,50,46,48,46,48],[33,61,50,46,49,46,48],[60,49]]:List YL),YC 87 #[.string (mkS s)] W λen w'=>en= .returned (.bool true)/\YB W w':=
 List.forall_mem_cons.2 ⟨finq_r4_0 W hK,List.forall_mem_cons.2 ⟨finq_r4_1 W hK,List.forall_mem_cons.2 ⟨finq_r4_2 W hK,List.forall_mem_cons.2 ⟨finq_r4_3 W hK,List.forall_mem_cons.2 ⟨finq_r4_4 W hK,List.forall_mem_cons.2 ⟨finq_r4_5 W hK,List.forall_mem_cons.2 ⟨finq_r4_6 W hK,List.forall_mem_cons.2 ⟨finq_r4_7 W hK,λ_ h=>absurd h List.not_mem_nil⟩⟩⟩⟩⟩⟩⟩⟩
end
end Go.Proofs.YtobimfnmnkegdaaGreatDoor
