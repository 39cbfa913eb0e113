import Derived.Test.YtflhcaljcoekpaaGreatDoorSF9
set_option maxRecDepth 1000000
set_option maxHeartbeats 8000000
set_option linter.unusedVariables false
set_option linter.unusedSimpArgs false
set_option linter.unnecessarySimpa false
namespace Go.Proofs.YtflhcaljcoekpaaGreatDoor
open Go.RowKit

section
theorem finr_r1_0 (W:World):YC 219 #[.string (mkS [42])] W λen w'=>en= .returned (.bool true)/\YB W w':=zF λe=>by kernel_rfl
theorem finr_r1_1 (W:World):YC 219 #[.string (mkS [94,48,46,48,46,48])] W λen w'=>en= .returned (.bool true)/\YB W w':=zF λe=>by kernel_rfl
theorem finr_r1_2 (W:World):YC 219 #[.string (mkS [94,48,46,49,46,48])] W λen w'=>en= .returned (.bool true)/\YB W w':=zF λe=>by kernel_rfl
theorem finr_r1_3 (W:World):YC 219 #[.string (mkS [94,49,46,48,46,48])] W λen w'=>en= .returned (.bool true)/\YB W w':=zF λe=>by kernel_rfl
theorem finr_r1_4 (W:World):YC 219 #[.string (mkS [94,49,46,49,46,48])] W λen w'=>en= .returned (.bool true)/\YB W w':=zF λe=>by kernel_rfl
theorem finr_r1_5 (W:World):YC 219 #[.string (mkS [94,50,46,48,46,48])] W λen w'=>en= .returned (.bool true)/\YB W w':=zF λe=>by kernel_rfl
theorem finr_r1_6 (W:World):YC 219 #[.string (mkS [94,50,46,49,46,48])] W λen w'=>en= .returned (.bool true)/\YB W w':=zF λe=>by kernel_rfl
theorem finr_r1_7 (W:World):YC 219 #[.string (mkS [62,61,48,46,48,46,48])] W λen w'=>en= .returned (.bool true)/\YB W w':=zF λe=>by kernel_rfl
theorem finr_r1 (W:World):∀ s∈([[42],[94,48,46,48,46,48],[94,48,46,49,46,48],[94,49,46,48,46,48],[94,49,46,49,46,48],[94,50,46,48,46,48],[94,50,46,49,46,48],[62,61,48,46,48,46,48]]:List YL),YC 219 #[.string (mkS s)] W λen w'=>en= .returned (.bool true)/\YB W w':=
 List.forall_mem_cons.2 ⟨finr_r1_0 W,List.forall_mem_cons.2 ⟨finr_r1_1 W,List.forall_mem_cons.2 ⟨finr_r1_2 W,List.forall_mem_cons.2 ⟨finr_r1_3 W,List.forall_mem_cons.2 ⟨finr_r1_4 W,List.forall_mem_cons.2 ⟨finr_r1_5 W,List.forall_mem_cons.2 ⟨finr_r1_6 W,List.forall_mem_cons.2 ⟨finr_r1_7 W,λ_ h=>absurd h List.not_mem_nil⟩⟩⟩⟩⟩⟩⟩⟩
end
section
theorem finr_r2_0 (W:World):YC 219 #[.string (mkS [62,61,48,46,49,46,48])] W λen w'=>en= .returned (.bool true)/\YB W w':=zF λe=>by kernel_rfl
theorem finr_r2_1 (W:World):YC 219 #[.string (mkS [62,61,49,46,48,46,48])] W λen w'=>en= .returned (.bool true)/\YB W w':=zF λe=>by kernel_rfl
theorem finr_r2_2 (W:World):YC 219 #[.string (mkS [62,61,49,46,49,46,48])] W λen w'=>en= .returned (.bool true)/\YB W w':=zF λe=>by kernel_rfl
theorem finr_r2_3 (W:World):YC 219 #[.string (mkS [62,61,50,46,48,46,48])] W λen w'=>en= .returned (.bool true)/\YB W w':=zF λe=>by kernel_rfl
theorem finr_r2_4 (W:World):YC 219 #[.string (mkS [62,61,50,46,49,46,48])] W λen w'=>en= .returned (.bool true)/\YB W w':=zF λe=>by kernel_rfl
theorem finr_r2_5 (W:World):YC 219 #[.string (mkS [60,48,46,48,46,48])] W λen w'=>en= .returned (.bool true)/\YB W w':=zF λe=>by kernel_rfl
theorem finr_r2_6 (W:World):YC 219 #[.string (mkS [60,48,46,49,46,48])] W λen w'=>en= .returned (.bool true)/\YB W w':=zF λe=>by kernel_rfl
theorem finr_r2_7 (W:World):YC 219 #[.string (mkS [60,49,46,48,46,48])] W λen w'=>en= .returned (.bool true)/\YB W w':=zF λe=>by kernel_rfl
theorem finr_r2 (W:World):∀ s∈([[62,61,48,46,49,46,48],[62,61,49,46,48,46,48],[62,61,49,46,49,46,48],[62,61,50,46,48,46,48],[62,61,50,46,49,46,48],[60,48,46,48,46,48],[60,48,46,49,46,48],[60,49,46,48,46,48]]:List YL),YC 219 #[.string (mkS s)] W λen w'=>en= .returned (.bool true)/\YB W w':=
 List.forall_mem_cons.2 ⟨finr_r2_0 W,List.forall_mem_cons.2 ⟨finr_r2_1 W,List.forall_mem_cons.2 ⟨finr_r2_2 W,List.forall_mem_cons.2 ⟨finr_r2_3 W,List.forall_mem_cons.2 ⟨finr_r2_4 W,List.forall_mem_cons.2 ⟨finr_r2_5 W,List.forall_mem_cons.2 ⟨finr_r2_6 W,List.forall_mem_cons.2 ⟨finr_r2_7 W,λ_ h=>absurd h List.not_mem_nil⟩⟩⟩⟩⟩⟩⟩⟩
end
end Go.Proofs.YtflhcaljcoekpaaGreatDoor
