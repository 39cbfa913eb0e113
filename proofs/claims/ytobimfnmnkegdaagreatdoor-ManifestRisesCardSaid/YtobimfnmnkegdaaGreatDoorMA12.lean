import Derived.Test.YtobimfnmnkegdaaGreatDoorMA10
set_option maxRecDepth 1000000
set_option maxHeartbeats 8000000
set_option linter.unusedVariables false
set_option linter.unusedSimpArgs false
set_option linter.unnecessarySimpa false
namespace Go.Proofs.YtobimfnmnkegdaaGreatDoor
open Go.RowKit

section
theorem finr_r1_0 (W:World):YC 88 #[.string (mkS [42])] W λen w'=>en= .returned (.bool true)/\YB W w':=zH λe=>by kernel_rfl
theorem finr_r1_1 (W:World):YC 88 #[.string (mkS [94,48,46,48,46,48])] W λen w'=>en= .returned (.bool true)/\YB W w':=zH λe=>by kernel_rfl
theorem finr_r1_2 (W:World):YC 88 #[.string (mkS [94,48,46,49,46,48])] W λen w'=>en= .returned (.bool true)/\YB W w':=zH λe=>by kernel_rfl
theorem finr_r1_3 (W:World):YC 88 #[.string (mkS [94,49,46,48,46,48])] W λen w'=>en= .returned (.bool true)/\YB W w':=zH λe=>by kernel_rfl
theorem finr_r1_4 (W:World):YC 88 #[.string (mkS [94,49,46,49,46,48])] W λen w'=>en= .returned (.bool true)/\YB W w':=zH λe=>by kernel_rfl
theorem finr_r1_5 (W:World):YC 88 #[.string (mkS [94,50,46,48,46,48])] W λen w'=>en= .returned (.bool true)/\YB W w':=zH λe=>by kernel_rfl
theorem finr_r1_6 (W:World):YC 88 #[.string (mkS [94,50,46,49,46,48])] W λen w'=>en= .returned (.bool true)/\YB W w':=zH λe=>by kernel_rfl
theorem finr_r1_7 (W:World):YC 88 #[.string (mkS [62,61,48,46,48,46,48])] W λen w'=>en= .returned (.bool true)/\YB W w':=zH λe=>by kernel_rfl
theorem finr_r1 (W:World):∀ s∈([[42],[94,48,46,48,46,48],[94,48,46,49,46,48],[94,49,46,48,46,48],[94,49,46,49,46,48],[94,50,46,48,46,48],[94,50,46,49,46,48],[62,61,48,46,48,46,48]]:List YL),YC 88 #[.string (mkS s)] W λen w'=>en= .returned (.bool true)/\YB W w':=
 List.forall_mem_cons.2 ⟨finr_r1_0 W,List.forall_mem_cons.2 ⟨finr_r1_1 W,List.forall_mem_cons.2 ⟨finr_r1_2 W,List.forall_mem_cons.2 ⟨finr_r1_3 W,List.forall_mem_cons.2 ⟨finr_r1_4 W,List.forall_mem_cons.2 ⟨finr_r1_5 W,List.forall_mem_cons.2 ⟨finr_r1_6 W,List.forall_mem_cons.2 ⟨finr_r1_7 W,λ_ h=>absurd h List.not_mem_nil⟩⟩⟩⟩⟩⟩⟩⟩
end
section
theorem finr_m3_0 (W:World):YC 169 #[.string (mkS [97,114,99,104,32,33,61,32,119,95,49])] W λen w'=>en= .returned (.bool true)/\YB W w':=zH λe=>by kernel_rfl
theorem finr_m3_1 (W:World):YC 169 #[.string (mkS [97,98,105,32,61,32,120])] W λen w'=>en= .returned (.bool true)/\YB W w':=zH λe=>by kernel_rfl
theorem finr_m3_2 (W:World):YC 169 #[.string (mkS [97,98,105,32,61,32,121])] W λen w'=>en= .returned (.bool true)/\YB W w':=zH λe=>by kernel_rfl
theorem finr_m3_3 (W:World):YC 169 #[.string (mkS [97,98,105,32,61,32,122])] W λen w'=>en= .returned (.bool true)/\YB W w':=zH λe=>by kernel_rfl
theorem finr_m3_4 (W:World):YC 169 #[.string (mkS [97,98,105,32,61,32,119,95,49])] W λen w'=>en= .returned (.bool true)/\YB W w':=zH λe=>by kernel_rfl
theorem finr_m3_5 (W:World):YC 169 #[.string (mkS [97,98,105,32,33,61,32,120])] W λen w'=>en= .returned (.bool true)/\YB W w':=zH λe=>by kernel_rfl
theorem finr_m3_6 (W:World):YC 169 #[.string (mkS [97,98,105,32,33,61,32,121])] W λen w'=>en= .returned (.bool true)/\YB W w':=zH λe=>by kernel_rfl
theorem finr_m3_7 (W:World):YC 169 #[.string (mkS [97,98,105,32,33,61,32,122])] W λen w'=>en= .returned (.bool true)/\YB W w':=zH λe=>by kernel_rfl
theorem finr_m3 (W:World):∀ s∈([[97,114,99,104,32,33,61,32,119,95,49],[97,98,105,32,61,32,120],[97,98,105,32,61,32,121],[97,98,105,32,61,32,122],[97,98,105,32,61,32,119,95,49],[97,98,105,32,33,61,32,120],[97,98,105,32,33,61,32,121],[97,98,105,32,33,61,32,122]]:List YL),YC 169 #[.string (mkS s)] W λen w'=>en= .returned (.bool true)/\YB W w':=
 List.forall_mem_cons.2 ⟨finr_m3_0 W,List.forall_mem_cons.2 ⟨finr_m3_1 W,List.forall_mem_cons.2 ⟨finr_m3_2 W,List.forall_mem_cons.2 ⟨finr_m3_3 W,List.forall_mem_cons.2 ⟨finr_m3_4 W,List.forall_mem_cons.2 ⟨finr_m3_5 W,List.forall_mem_cons.2 ⟨finr_m3_6 W,List.forall_mem_cons.2 ⟨finr_m3_7 W,λ_ h=>absurd h List.not_mem_nil⟩⟩⟩⟩⟩⟩⟩⟩
end
end Go.Proofs.YtobimfnmnkegdaaGreatDoor
