/- They are the program's. -/
import Derived.Test.YtlbbocbfblohkaaGreatDoorCfA
import Derived.Test.YtlbbocbfblohkaaGreatDoorProg
import Derived.KernelRfl
namespace Go.Proofs.YtlbbocbfblohkaaGreatDoor.Bt
open Go Ev Go.RowKit
set_option linter.unusedVariables false
set_option linter.unusedSimpArgs false
set_option maxRecDepth 10000000
noncomputable def allE (P : Program) : List (Nat × CF) → Prop
  | [] => True
  | p :: l => T.get CF.no (table P) p.1 = p.2 ∧ allE P l
theorem allE_mem {P : Program} : ∀ {l : List (Nat × CF)}, allE P l → ∀ p ∈ l, T.get CF.no (table P) p.1 = p.2
  | _ :: _, h, p, hp => by
    rcases List.mem_cons.1 hp with rfl | hp
    · exact h.1
    · exact allE_mem h.2 p hp
noncomputable def l0 : List (Nat × CF) := [(5, c5), (6, c6), (10, c10), (11, c11), (12, c12), (13, c13), (15, c15), (17, c17), (18, c18), (19, c19), (21, c21), (24, c24)]
theorem q0 : allE Tryz.prog l0 := ⟨by kernel_rfl, by kernel_rfl, by kernel_rfl, by kernel_rfl, by kernel_rfl, by kernel_rfl, by kernel_rfl, by kernel_rfl, by kernel_rfl, by kernel_rfl, by kernel_rfl, by kernel_rfl, trivial⟩
noncomputable def l1 : List (Nat × CF) := [(27, c27), (28, c28), (29, c29), (31, c31), (32, c32), (35, c35), (36, c36), (37, c37), (38, c38), (39, c39), (40, c40), (41, c41)]
theorem q1 : allE Tryz.prog l1 := ⟨by kernel_rfl, by kernel_rfl, by kernel_rfl, by kernel_rfl, by kernel_rfl, by kernel_rfl, by kernel_rfl, by kernel_rfl, by kernel_rfl, by kernel_rfl, by kernel_rfl, by kernel_rfl, trivial⟩
noncomputable def l2 : List (Nat × CF) := [(42, c42), (44, c44), (48, c48), (49, c49), (50, c50), (52, c52), (53, c53), (54, c54), (55, c55), (56, c56), (57, c57), (58, c58)]
theorem q2 : allE Tryz.prog l2 := ⟨by kernel_rfl, by kernel_rfl, by kernel_rfl, by kernel_rfl, by kernel_rfl, by kernel_rfl, by kernel_rfl, by kernel_rfl, by kernel_rfl, by kernel_rfl, by kernel_rfl, by kernel_rfl, trivial⟩
noncomputable def l3 : List (Nat × CF) := [(59, c59), (62, c62), (63, c63), (66, c66), (67, c67), (68, c68), (69, c69), (71, c71), (76, c76), (78, c78), (80, c80), (82, c82)]
theorem q3 : allE Tryz.prog l3 := ⟨by kernel_rfl, by kernel_rfl, by kernel_rfl, by kernel_rfl, by kernel_rfl, by kernel_rfl, by kernel_rfl, by kernel_rfl, by kernel_rfl, by kernel_rfl, by kernel_rfl, by kernel_rfl, trivial⟩
noncomputable def l4 : List (Nat × CF) := [(83, c83), (84, c84), (85, c85), (86, c86), (88, c88), (90, c90), (91, c91), (92, c92), (93, c93), (94, c94), (95, c95), (97, c97)]
theorem q4 : allE Tryz.prog l4 := ⟨by kernel_rfl, by kernel_rfl, by kernel_rfl, by kernel_rfl, by kernel_rfl, by kernel_rfl, by kernel_rfl, by kernel_rfl, by kernel_rfl, by kernel_rfl, by kernel_rfl, by kernel_rfl, trivial⟩
noncomputable def l5 : List (Nat × CF) := [(98, c98), (100, c100), (104, c104), (105, c105), (106, c106), (107, c107), (108, c108), (109, c109), (110, c110), (111, c111), (112, c112), (113, c113)]
theorem q5 : allE Tryz.prog l5 := ⟨by kernel_rfl, by kernel_rfl, by kernel_rfl, by kernel_rfl, by kernel_rfl, by kernel_rfl, by kernel_rfl, by kernel_rfl, by kernel_rfl, by kernel_rfl, by kernel_rfl, by kernel_rfl, trivial⟩
noncomputable def l6 : List (Nat × CF) := [(114, c114), (115, c115), (116, c116), (117, c117), (118, c118), (119, c119), (120, c120), (123, c123), (124, c124), (125, c125), (126, c126), (127, c127)]
theorem q6 : allE Tryz.prog l6 := ⟨by kernel_rfl, by kernel_rfl, by kernel_rfl, by kernel_rfl, by kernel_rfl, by kernel_rfl, by kernel_rfl, by kernel_rfl, by kernel_rfl, by kernel_rfl, by kernel_rfl, by kernel_rfl, trivial⟩
noncomputable def l7 : List (Nat × CF) := [(128, c128), (129, c129), (131, c131), (132, c132), (136, c136), (137, c137), (139, c139), (141, c141), (143, c143), (144, c144), (145, c145), (146, c146)]
theorem q7 : allE Tryz.prog l7 := ⟨by kernel_rfl, by kernel_rfl, by kernel_rfl, by kernel_rfl, by kernel_rfl, by kernel_rfl, by kernel_rfl, by kernel_rfl, by kernel_rfl, by kernel_rfl, by kernel_rfl, by kernel_rfl, trivial⟩
noncomputable def l8 : List (Nat × CF) := [(147, c147), (148, c148), (151, c151), (152, c152), (153, c153), (154, c154), (155, c155), (159, c159), (160, c160), (162, c162), (163, c163), (165, c165)]
theorem q8 : allE Tryz.prog l8 := ⟨by kernel_rfl, by kernel_rfl, by kernel_rfl, by kernel_rfl, by kernel_rfl, by kernel_rfl, by kernel_rfl, by kernel_rfl, by kernel_rfl, by kernel_rfl, by kernel_rfl, by kernel_rfl, trivial⟩
noncomputable def l9 : List (Nat × CF) := [(166, c166), (167, c167), (168, c168), (169, c169), (170, c170), (171, c171), (172, c172), (173, c173), (174, c174), (177, c177), (178, c178), (179, c179)]
theorem q9 : allE Tryz.prog l9 := ⟨by kernel_rfl, by kernel_rfl, by kernel_rfl, by kernel_rfl, by kernel_rfl, by kernel_rfl, by kernel_rfl, by kernel_rfl, by kernel_rfl, by kernel_rfl, by kernel_rfl, by kernel_rfl, trivial⟩
noncomputable def l10 : List (Nat × CF) := [(181, c181), (182, c182), (184, c184), (186, c186), (187, c187), (188, c188), (189, c189), (190, c190), (191, c191), (192, c192), (193, c193), (195, c195)]
theorem q10 : allE Tryz.prog l10 := ⟨by kernel_rfl, by kernel_rfl, by kernel_rfl, by kernel_rfl, by kernel_rfl, by kernel_rfl, by kernel_rfl, by kernel_rfl, by kernel_rfl, by kernel_rfl, by kernel_rfl, by kernel_rfl, trivial⟩
noncomputable def l11 : List (Nat × CF) := [(196, c196), (197, c197), (198, c198), (201, c201), (202, c202), (203, c203), (204, c204), (205, c205), (206, c206), (207, c207), (212, c212), (217, c217)]
theorem q11 : allE Tryz.prog l11 := ⟨by kernel_rfl, by kernel_rfl, by kernel_rfl, by kernel_rfl, by kernel_rfl, by kernel_rfl, by kernel_rfl, by kernel_rfl, by kernel_rfl, by kernel_rfl, by kernel_rfl, by kernel_rfl, trivial⟩
noncomputable def l12 : List (Nat × CF) := [(218, c218), (221, c221), (225, c225), (226, c226), (228, c228), (232, c232), (234, c234), (235, c235), (236, c236), (237, c237), (238, c238), (239, c239)]
theorem q12 : allE Tryz.prog l12 := ⟨by kernel_rfl, by kernel_rfl, by kernel_rfl, by kernel_rfl, by kernel_rfl, by kernel_rfl, by kernel_rfl, by kernel_rfl, by kernel_rfl, by kernel_rfl, by kernel_rfl, by kernel_rfl, trivial⟩
noncomputable def l13 : List (Nat × CF) := [(242, c242), (244, c244), (245, c245), (247, c247), (248, c248), (249, c249), (250, c250), (251, c251), (258, c258), (259, c259), (269, c269), (272, c272)]
theorem q13 : allE Tryz.prog l13 := ⟨by kernel_rfl, by kernel_rfl, by kernel_rfl, by kernel_rfl, by kernel_rfl, by kernel_rfl, by kernel_rfl, by kernel_rfl, by kernel_rfl, by kernel_rfl, by kernel_rfl, by kernel_rfl, trivial⟩
noncomputable def l14 : List (Nat × CF) := [(273, c273), (274, c274), (281, c281), (282, c282), (286, c286), (288, c288), (289, c289), (290, c290), (291, c291), (310, c310), (311, c311), (312, c312)]
theorem q14 : allE Tryz.prog l14 := ⟨by kernel_rfl, by kernel_rfl, by kernel_rfl, by kernel_rfl, by kernel_rfl, by kernel_rfl, by kernel_rfl, by kernel_rfl, by kernel_rfl, by kernel_rfl, by kernel_rfl, by kernel_rfl, trivial⟩
noncomputable def l15 : List (Nat × CF) := [(314, c314), (315, c315), (316, c316), (317, c317), (322, c322), (323, c323), (325, c325), (340, c340), (341, c341), (342, c342), (357, c357), (358, c358)]
theorem q15 : allE Tryz.prog l15 := ⟨by kernel_rfl, by kernel_rfl, by kernel_rfl, by kernel_rfl, by kernel_rfl, by kernel_rfl, by kernel_rfl, by kernel_rfl, by kernel_rfl, by kernel_rfl, by kernel_rfl, by kernel_rfl, trivial⟩
noncomputable def bs : T CF := tabL (tabL (tabL (tabL (tabL (tabL (tabL (tabL (tabL (tabL (tabL (tabL (tabL (tabL (tabL (tabL (table Tryz.prog) l0) l1) l2) l3) l4) l5) l6) l7) l8) l9) l10) l11) l12) l13) l14) l15
theorem bsOK : TbOK Tryz.prog bs := (tabL_ok (tabL_ok (tabL_ok (tabL_ok (tabL_ok (tabL_ok (tabL_ok (tabL_ok (tabL_ok (tabL_ok (tabL_ok (tabL_ok (tabL_ok (tabL_ok (tabL_ok (tabL_ok (fun j => .inr rfl) (allE_mem q0)) (allE_mem q1)) (allE_mem q2)) (allE_mem q3)) (allE_mem q4)) (allE_mem q5)) (allE_mem q6)) (allE_mem q7)) (allE_mem q8)) (allE_mem q9)) (allE_mem q10)) (allE_mem q11)) (allE_mem q12)) (allE_mem q13)) (allE_mem q14)) (allE_mem q15))
end Go.Proofs.YtlbbocbfblohkaaGreatDoor.Bt
