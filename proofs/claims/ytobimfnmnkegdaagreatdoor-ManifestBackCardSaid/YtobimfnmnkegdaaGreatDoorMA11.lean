import Derived.Test.YtobimfnmnkegdaaGreatDoorMA10
set_option maxRecDepth 1000000
set_option maxHeartbeats 8000000
set_option linter.unusedVariables false
set_option linter.unusedSimpArgs false
set_option linter.unnecessarySimpa false
namespace Go.Proofs.YtobimfnmnkegdaaGreatDoor
open Go.RowKit

section
theorem finr_r5_0 (W:World):YC 88 #[.string (mkS [60,50])] W λen w'=>en= .returned (.bool true)/\YB W w':=zH λe=>by kernel_rfl
theorem finr_r5 (W:World):∀ s∈([[60,50]]:List YL),YC 88 #[.string (mkS s)] W λen w'=>en= .returned (.bool true)/\YB W w':=
 List.forall_mem_cons.2 ⟨finr_r5_0 W,λ_ h=>absurd h List.not_mem_nil⟩
end
section
theorem finr_m2_0 (W:World):YC 169 #[.string (mkS [111,115,32,33,61,32,119,95,49])] W λen w'=>en= .returned (.bool true)/\YB W w':=zH λe=>by kernel_rfl
theorem finr_m2_1 (W:World):YC 169 #[.string (mkS [97,114,99,104,32,61,32,120])] W λen w'=>en= .returned (.bool true)/\YB W w':=zH λe=>by kernel_rfl
theorem finr_m2_2 (W:World):YC 169 #[.string (mkS [97,114,99,104,32,61,32,121])] W λen w'=>en= .returned (.bool true)/\YB W w':=zH λe=>by kernel_rfl
theorem finr_m2_3 (W:World):YC 169 #[.string (mkS [97,114,99,104,32,61,32,122])] W λen w'=>en= .returned (.bool true)/\YB W w':=zH λe=>by kernel_rfl
theorem finr_m2_4 (W:World):YC 169 #[.string (mkS [97,114,99,104,32,61,32,119,95,49])] W λen w'=>en= .returned (.bool true)/\YB W w':=zH λe=>by kernel_rfl
theorem finr_m2_5 (W:World):YC 169 #[.string (mkS [97,114,99,104,32,33,61,32,120])] W λen w'=>en= .returned (.bool true)/\YB W w':=zH λe=>by kernel_rfl
theorem finr_m2_6 (W:World):YC 169 #[.string (mkS [97,114,99,104,32,33,61,32,121])] W λen w'=>en= .returned (.bool true)/\YB W w':=zH λe=>by kernel_rfl
theorem finr_m2_7 (W:World):YC 169 #[.string (mkS [97,114,99,104,32,33,61,32,122])] W λen w'=>en= .returned (.bool true)/\YB W w':=zH λe=>by kernel_rfl
theorem finr_m2 (W:World):∀ s∈([[111,115,32,33,61,32,119,95,49],[97,114,99,104,32,61,32,120],[97,114,99,104,32,61,32,121],[97,114,99,104,32,61,32,122],[97,114,99,104,32,61,32,119,95,49],[97,114,99,104,32,33,61,32,120],[97,114,99,104,32,33,61,32,121],[97,114,99,104,32,33,61,32,122]]:List YL),YC 169 #[.string (mkS s)] W λen w'=>en= .returned (.bool true)/\YB W w':=
 List.forall_mem_cons.2 ⟨finr_m2_0 W,List.forall_mem_cons.2 ⟨finr_m2_1 W,List.forall_mem_cons.2 ⟨finr_m2_2 W,List.forall_mem_cons.2 ⟨finr_m2_3 W,List.forall_mem_cons.2 ⟨finr_m2_4 W,List.forall_mem_cons.2 ⟨finr_m2_5 W,List.forall_mem_cons.2 ⟨finr_m2_6 W,List.forall_mem_cons.2 ⟨finr_m2_7 W,λ_ h=>absurd h List.not_mem_nil⟩⟩⟩⟩⟩⟩⟩⟩
end
section
theorem finr_m4_0 (W:World):YC 169 #[.string (mkS [97,98,105,32,33,61,32,119,95,49])] W λen w'=>en= .returned (.bool true)/\YB W w':=zH λe=>by kernel_rfl
theorem finr_m4 (W:World):∀ s∈([[97,98,105,32,33,61,32,119,95,49]]:List YL),YC 169 #[.string (mkS s)] W λen w'=>en= .returned (.bool true)/\YB W w':=
 List.forall_mem_cons.2 ⟨finr_m4_0 W,λ_ h=>absurd h List.not_mem_nil⟩
end
end Go.Proofs.YtobimfnmnkegdaaGreatDoor
