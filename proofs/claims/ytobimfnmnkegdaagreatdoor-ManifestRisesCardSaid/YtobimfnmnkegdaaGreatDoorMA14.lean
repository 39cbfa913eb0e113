import Derived.Test.YtobimfnmnkegdaaGreatDoorMA10
set_option maxRecDepth 1000000
set_option maxHeartbeats 8000000
set_option linter.unusedVariables false
set_option linter.unusedSimpArgs false
set_option linter.unnecessarySimpa false
namespace Go.Proofs.YtobimfnmnkegdaaGreatDoor
open Go.RowKit

section
theorem finr_r2_0 (W:World):YC 88 #[.string (mkS [62,61,48,46,49,46,48])] W λen w'=>en= .returned (.bool true)/\YB W w':=zH λe=>by kernel_rfl
theorem finr_r2_1 (W:World):YC 88 #[.string (mkS [62,61,49,46,48,46,48])] W λen w'=>en= .returned (.bool true)/\YB W w':=zH λe=>by kernel_rfl
theorem finr_r2_2 (W:World):YC 88 #[.string (mkS [62,61,49,46,49,46,48])] W λen w'=>en= .returned (.bool true)/\YB W w':=zH λe=>by kernel_rfl
theorem finr_r2_3 (W:World):YC 88 #[.string (mkS [62,61,50,46,48,46,48])] W λen w'=>en= .returned (.bool true)/\YB W w':=zH λe=>by kernel_rfl
theorem finr_r2_4 (W:World):YC 88 #[.string (mkS [62,61,50,46,49,46,48])] W λen w'=>en= .returned (.bool true)/\YB W w':=zH λe=>by kernel_rfl
theorem finr_r2_5 (W:World):YC 88 #[.string (mkS [60,48,46,48,46,48])] W λen w'=>en= .returned (.bool true)/\YB W w':=zH λe=>by kernel_rfl
theorem finr_r2_6 (W:World):YC 88 #[.string (mkS [60,48,46,49,46,48])] W λen w'=>en= .returned (.bool true)/\YB W w':=zH λe=>by kernel_rfl
theorem finr_r2_7 (W:World):YC 88 #[.string (mkS [60,49,46,48,46,48])] W λen w'=>en= .returned (.bool true)/\YB W w':=zH λe=>by kernel_rfl
theorem finr_r2 (W:World):∀ s∈([[62,61,48,46,49,46,48],[62,61,49,46,48,46,48],[62,61,49,46,49,46,48],[62,61,50,46,48,46,48],[62,61,50,46,49,46,48],[60,48,46,48,46,48],[60,48,46,49,46,48],[60,49,46,48,46,48]]:List YL),YC 88 #[.string (mkS s)] W λen w'=>en= .returned (.bool true)/\YB W w':=
 List.forall_mem_cons.2 ⟨finr_r2_0 W,List.forall_mem_cons.2 ⟨finr_r2_1 W,List.forall_mem_cons.2 ⟨finr_r2_2 W,List.forall_mem_cons.2 ⟨finr_r2_3 W,List.forall_mem_cons.2 ⟨finr_r2_4 W,List.forall_mem_cons.2 ⟨finr_r2_5 W,List.forall_mem_cons.2 ⟨finr_r2_6 W,List.forall_mem_cons.2 ⟨finr_r2_7 W,λ_ h=>absurd h List.not_mem_nil⟩⟩⟩⟩⟩⟩⟩⟩
end
section
theorem finr_r4_0 (W:World):YC 88 #[.string (mkS [61,50,46,49,46,48])] W λen w'=>en= .returned (.bool true)/\YB W w':=zH λe=>by kernel_rfl
theorem finr_r4_1 (W:World):YC 88 #[.string (mkS [33,61,48,46,48,46,48])] W λen w'=>en= .returned (.bool true)/\YB W w':=zH λe=>by kernel_rfl
theorem finr_r4_2 (W:World):YC 88 #[.string (mkS [33,61,48,46,49,46,48])] W λen w'=>en= .returned (.bool true)/\YB W w':=zH λe=>by kernel_rfl
theorem finr_r4_3 (W:World):YC 88 #[.string (mkS [33,61,49,46,48,46,48])] W λen w'=>en= .returned (.bool true)/\YB W w':=zH λe=>by kernel_rfl
theorem finr_r4_4 (W:World):YC 88 #[.string (mkS [33,61,49,46,49,46,48])] W λen w'=>en= .returned (.bool true)/\YB W w':=zH λe=>by kernel_rfl
theorem finr_r4_5 (W:World):YC 88 #[.string (mkS [33,61,50,46,48,46,48])] W λen w'=>en= .returned (.bool true)/\YB W w':=zH λe=>by kernel_rfl
theorem finr_r4_6 (W:World):YC 88 #[.string (mkS [33,61,50,46,49,46,48])] W λen w'=>en= .returned (.bool true)/\YB W w':=zH λe=>by kernel_rfl
theorem finr_r4_7 (W:World):YC 88 #[.string (mkS [60,49])] W λen w'=>en= .returned (.bool true)/\YB W w':=zH λe=>by kernel_rfl
theorem finr_r4 (W:World):∀ s∈([[61,50,46,49,46,48],[33,61,48,46,48,46,48],[33,61,48,46,49,46,48],[33,61,49,46,48,46,48],[33,61,49,46,49,46,48],[33,61,50,46,48,46,48],[33,61,50,46,49,46,48],[60,49]]:List YL),YC 88 #[.string (mkS s)] W λen w'=>en= .returned (.bool true)/\YB W w':=
 List.forall_mem_cons.2 ⟨finr_r4_0 W,List.forall_mem_cons.2 ⟨finr_r4_1 W,List.forall_mem_cons.2 ⟨finr_r4_2 W,List.forall_mem_cons.2 ⟨finr_r4_3 W,List.forall_mem_cons.2 ⟨finr_r4_4 W,List.forall_mem_cons.2 ⟨finr_r4_5 W,List.forall_mem_cons.2 ⟨finr_r4_6 W,List.forall_mem_cons.2 ⟨finr_r4_7 W,λ_ h=>absurd h List.not_mem_nil⟩⟩⟩⟩⟩⟩⟩⟩
end
end Go.Proofs.YtobimfnmnkegdaaGreatDoor
