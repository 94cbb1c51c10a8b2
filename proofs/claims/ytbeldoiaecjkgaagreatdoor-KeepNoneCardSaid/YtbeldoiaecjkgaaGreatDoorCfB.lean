/- They are the program's. -/
import Derived.Test.YtbeldoiaecjkgaaGreatDoorCfA
import Derived.Test.YtbeldoiaecjkgaaGreatDoorProg
import Derived.KernelRfl
namespace Go.Proofs.YtbeldoiaecjkgaaGreatDoor.Bt
open Go Ev Go.RowKit
set_option linter.unusedVariables false
set_option linter.unusedSimpArgs false
set_option maxRecDepth 10000000
noncomputable def allE (P : Program) : List (Nat × CF) → Prop
  | [] => True
  | p :: l => T.get CF.no (table P) p.1 = p.2 ∧ allE P l
theorem allE_mem {P : Program} : ∀ {l : List (Nat × CF)}, allE P l → ∀ p ∈ l, T.get CF.no (table P) p.1 = p.2
  | _ :: _, h, p, hp => by
    rcases List.mem_cons.1 hp with rfl | hp
    · exact h.1
    · exact allE_mem h.2 p hp
noncomputable def l0 : List (Nat × CF) := [(4, c4), (5, c5), (6, c6), (7, c7), (8, c8), (9, c9), (11, c11), (12, c12), (13, c13), (14, c14), (16, c16), (17, c17)]
theorem q0 : allE Tryz.prog l0 := ⟨by kernel_rfl, by kernel_rfl, by kernel_rfl, by kernel_rfl, by kernel_rfl, by kernel_rfl, by kernel_rfl, by kernel_rfl, by kernel_rfl, by kernel_rfl, by kernel_rfl, by kernel_rfl, trivial⟩
noncomputable def l1 : List (Nat × CF) := [(18, c18), (19, c19), (20, c20), (21, c21), (22, c22), (23, c23), (24, c24), (25, c25), (29, c29), (30, c30), (31, c31), (32, c32)]
theorem q1 : allE Tryz.prog l1 := ⟨by kernel_rfl, by kernel_rfl, by kernel_rfl, by kernel_rfl, by kernel_rfl, by kernel_rfl, by kernel_rfl, by kernel_rfl, by kernel_rfl, by kernel_rfl, by kernel_rfl, by kernel_rfl, trivial⟩
noncomputable def l2 : List (Nat × CF) := [(33, c33), (34, c34), (35, c35), (36, c36), (37, c37), (38, c38), (39, c39), (40, c40), (41, c41), (42, c42), (43, c43), (45, c45)]
theorem q2 : allE Tryz.prog l2 := ⟨by kernel_rfl, by kernel_rfl, by kernel_rfl, by kernel_rfl, by kernel_rfl, by kernel_rfl, by kernel_rfl, by kernel_rfl, by kernel_rfl, by kernel_rfl, by kernel_rfl, by kernel_rfl, trivial⟩
noncomputable def l3 : List (Nat × CF) := [(46, c46), (47, c47), (48, c48), (49, c49), (50, c50), (51, c51), (52, c52), (53, c53), (54, c54), (55, c55), (56, c56), (57, c57)]
theorem q3 : allE Tryz.prog l3 := ⟨by kernel_rfl, by kernel_rfl, by kernel_rfl, by kernel_rfl, by kernel_rfl, by kernel_rfl, by kernel_rfl, by kernel_rfl, by kernel_rfl, by kernel_rfl, by kernel_rfl, by kernel_rfl, trivial⟩
noncomputable def l4 : List (Nat × CF) := [(58, c58), (61, c61), (62, c62), (63, c63), (65, c65), (66, c66), (68, c68), (71, c71), (72, c72), (73, c73), (74, c74), (75, c75)]
theorem q4 : allE Tryz.prog l4 := ⟨by kernel_rfl, by kernel_rfl, by kernel_rfl, by kernel_rfl, by kernel_rfl, by kernel_rfl, by kernel_rfl, by kernel_rfl, by kernel_rfl, by kernel_rfl, by kernel_rfl, by kernel_rfl, trivial⟩
noncomputable def l5 : List (Nat × CF) := [(76, c76), (77, c77), (78, c78), (79, c79), (80, c80), (81, c81), (82, c82), (83, c83), (84, c84), (85, c85), (86, c86), (87, c87)]
theorem q5 : allE Tryz.prog l5 := ⟨by kernel_rfl, by kernel_rfl, by kernel_rfl, by kernel_rfl, by kernel_rfl, by kernel_rfl, by kernel_rfl, by kernel_rfl, by kernel_rfl, by kernel_rfl, by kernel_rfl, by kernel_rfl, trivial⟩
noncomputable def l6 : List (Nat × CF) := [(88, c88), (89, c89), (91, c91), (92, c92), (94, c94), (95, c95), (96, c96), (97, c97), (98, c98), (99, c99), (100, c100), (101, c101)]
theorem q6 : allE Tryz.prog l6 := ⟨by kernel_rfl, by kernel_rfl, by kernel_rfl, by kernel_rfl, by kernel_rfl, by kernel_rfl, by kernel_rfl, by kernel_rfl, by kernel_rfl, by kernel_rfl, by kernel_rfl, by kernel_rfl, trivial⟩
noncomputable def l7 : List (Nat × CF) := [(102, c102), (104, c104), (105, c105), (106, c106), (107, c107), (108, c108), (109, c109), (110, c110), (111, c111), (112, c112), (113, c113), (114, c114)]
theorem q7 : allE Tryz.prog l7 := ⟨by kernel_rfl, by kernel_rfl, by kernel_rfl, by kernel_rfl, by kernel_rfl, by kernel_rfl, by kernel_rfl, by kernel_rfl, by kernel_rfl, by kernel_rfl, by kernel_rfl, by kernel_rfl, trivial⟩
noncomputable def l8 : List (Nat × CF) := [(115, c115), (116, c116), (117, c117), (118, c118), (119, c119), (120, c120), (122, c122), (123, c123), (124, c124), (125, c125), (129, c129), (130, c130)]
theorem q8 : allE Tryz.prog l8 := ⟨by kernel_rfl, by kernel_rfl, by kernel_rfl, by kernel_rfl, by kernel_rfl, by kernel_rfl, by kernel_rfl, by kernel_rfl, by kernel_rfl, by kernel_rfl, by kernel_rfl, by kernel_rfl, trivial⟩
noncomputable def l9 : List (Nat × CF) := [(132, c132), (133, c133), (134, c134), (135, c135), (136, c136), (137, c137), (138, c138), (139, c139), (143, c143), (144, c144), (145, c145), (146, c146)]
theorem q9 : allE Tryz.prog l9 := ⟨by kernel_rfl, by kernel_rfl, by kernel_rfl, by kernel_rfl, by kernel_rfl, by kernel_rfl, by kernel_rfl, by kernel_rfl, by kernel_rfl, by kernel_rfl, by kernel_rfl, by kernel_rfl, trivial⟩
noncomputable def l10 : List (Nat × CF) := [(147, c147), (148, c148), (150, c150), (151, c151), (153, c153), (154, c154), (156, c156), (157, c157), (158, c158), (159, c159), (160, c160), (161, c161)]
theorem q10 : allE Tryz.prog l10 := ⟨by kernel_rfl, by kernel_rfl, by kernel_rfl, by kernel_rfl, by kernel_rfl, by kernel_rfl, by kernel_rfl, by kernel_rfl, by kernel_rfl, by kernel_rfl, by kernel_rfl, by kernel_rfl, trivial⟩
noncomputable def l11 : List (Nat × CF) := [(162, c162), (163, c163), (164, c164), (165, c165), (166, c166), (167, c167), (168, c168), (169, c169), (170, c170), (171, c171), (175, c175), (176, c176)]
theorem q11 : allE Tryz.prog l11 := ⟨by kernel_rfl, by kernel_rfl, by kernel_rfl, by kernel_rfl, by kernel_rfl, by kernel_rfl, by kernel_rfl, by kernel_rfl, by kernel_rfl, by kernel_rfl, by kernel_rfl, by kernel_rfl, trivial⟩
noncomputable def l12 : List (Nat × CF) := [(178, c178), (179, c179), (181, c181), (182, c182), (183, c183), (184, c184), (185, c185), (186, c186), (187, c187), (188, c188), (189, c189), (193, c193)]
theorem q12 : allE Tryz.prog l12 := ⟨by kernel_rfl, by kernel_rfl, by kernel_rfl, by kernel_rfl, by kernel_rfl, by kernel_rfl, by kernel_rfl, by kernel_rfl, by kernel_rfl, by kernel_rfl, by kernel_rfl, by kernel_rfl, trivial⟩
noncomputable def l13 : List (Nat × CF) := [(195, c195), (196, c196), (197, c197), (198, c198), (199, c199), (200, c200), (203, c203), (205, c205), (206, c206), (207, c207), (208, c208), (209, c209)]
theorem q13 : allE Tryz.prog l13 := ⟨by kernel_rfl, by kernel_rfl, by kernel_rfl, by kernel_rfl, by kernel_rfl, by kernel_rfl, by kernel_rfl, by kernel_rfl, by kernel_rfl, by kernel_rfl, by kernel_rfl, by kernel_rfl, trivial⟩
noncomputable def l14 : List (Nat × CF) := [(210, c210), (211, c211), (212, c212), (213, c213), (214, c214), (215, c215), (216, c216), (217, c217), (218, c218), (219, c219), (224, c224), (225, c225)]
theorem q14 : allE Tryz.prog l14 := ⟨by kernel_rfl, by kernel_rfl, by kernel_rfl, by kernel_rfl, by kernel_rfl, by kernel_rfl, by kernel_rfl, by kernel_rfl, by kernel_rfl, by kernel_rfl, by kernel_rfl, by kernel_rfl, trivial⟩
noncomputable def l15 : List (Nat × CF) := [(226, c226), (227, c227), (228, c228), (229, c229), (230, c230), (232, c232), (233, c233), (234, c234), (235, c235), (236, c236), (237, c237), (238, c238)]
theorem q15 : allE Tryz.prog l15 := ⟨by kernel_rfl, by kernel_rfl, by kernel_rfl, by kernel_rfl, by kernel_rfl, by kernel_rfl, by kernel_rfl, by kernel_rfl, by kernel_rfl, by kernel_rfl, by kernel_rfl, by kernel_rfl, trivial⟩
noncomputable def l16 : List (Nat × CF) := [(243, c243), (244, c244), (245, c245), (247, c247), (248, c248), (249, c249), (250, c250), (252, c252), (253, c253), (254, c254), (255, c255), (256, c256)]
theorem q16 : allE Tryz.prog l16 := ⟨by kernel_rfl, by kernel_rfl, by kernel_rfl, by kernel_rfl, by kernel_rfl, by kernel_rfl, by kernel_rfl, by kernel_rfl, by kernel_rfl, by kernel_rfl, by kernel_rfl, by kernel_rfl, trivial⟩
noncomputable def l17 : List (Nat × CF) := [(257, c257), (258, c258), (260, c260), (261, c261), (262, c262), (263, c263), (264, c264), (265, c265), (267, c267), (268, c268), (269, c269), (270, c270)]
theorem q17 : allE Tryz.prog l17 := ⟨by kernel_rfl, by kernel_rfl, by kernel_rfl, by kernel_rfl, by kernel_rfl, by kernel_rfl, by kernel_rfl, by kernel_rfl, by kernel_rfl, by kernel_rfl, by kernel_rfl, by kernel_rfl, trivial⟩
noncomputable def l18 : List (Nat × CF) := [(271, c271), (272, c272), (273, c273), (275, c275), (276, c276), (279, c279), (280, c280), (281, c281), (282, c282), (283, c283), (285, c285), (286, c286)]
theorem q18 : allE Tryz.prog l18 := ⟨by kernel_rfl, by kernel_rfl, by kernel_rfl, by kernel_rfl, by kernel_rfl, by kernel_rfl, by kernel_rfl, by kernel_rfl, by kernel_rfl, by kernel_rfl, by kernel_rfl, by kernel_rfl, trivial⟩
noncomputable def l19 : List (Nat × CF) := [(288, c288), (289, c289), (290, c290), (291, c291), (292, c292), (294, c294), (295, c295), (296, c296), (297, c297), (298, c298), (299, c299), (303, c303)]
theorem q19 : allE Tryz.prog l19 := ⟨by kernel_rfl, by kernel_rfl, by kernel_rfl, by kernel_rfl, by kernel_rfl, by kernel_rfl, by kernel_rfl, by kernel_rfl, by kernel_rfl, by kernel_rfl, by kernel_rfl, by kernel_rfl, trivial⟩
noncomputable def l20 : List (Nat × CF) := [(304, c304), (305, c305), (308, c308), (309, c309), (310, c310), (311, c311), (312, c312), (313, c313), (314, c314), (315, c315), (321, c321), (324, c324)]
theorem q20 : allE Tryz.prog l20 := ⟨by kernel_rfl, by kernel_rfl, by kernel_rfl, by kernel_rfl, by kernel_rfl, by kernel_rfl, by kernel_rfl, by kernel_rfl, by kernel_rfl, by kernel_rfl, by kernel_rfl, by kernel_rfl, trivial⟩
noncomputable def l21 : List (Nat × CF) := [(326, c326), (327, c327), (328, c328), (329, c329), (330, c330), (331, c331), (332, c332), (333, c333), (345, c345), (346, c346), (347, c347), (348, c348)]
theorem q21 : allE Tryz.prog l21 := ⟨by kernel_rfl, by kernel_rfl, by kernel_rfl, by kernel_rfl, by kernel_rfl, by kernel_rfl, by kernel_rfl, by kernel_rfl, by kernel_rfl, by kernel_rfl, by kernel_rfl, by kernel_rfl, trivial⟩
noncomputable def l22 : List (Nat × CF) := [(349, c349), (357, c357), (358, c358), (359, c359)]
theorem q22 : allE Tryz.prog l22 := ⟨by kernel_rfl, by kernel_rfl, by kernel_rfl, by kernel_rfl, trivial⟩
noncomputable def bs : T CF := tabL (tabL (tabL (tabL (tabL (tabL (tabL (tabL (tabL (tabL (tabL (tabL (tabL (tabL (tabL (tabL (tabL (tabL (tabL (tabL (tabL (tabL (tabL (table Tryz.prog) l0) l1) l2) l3) l4) l5) l6) l7) l8) l9) l10) l11) l12) l13) l14) l15) l16) l17) l18) l19) l20) l21) l22
theorem bsOK : TbOK Tryz.prog bs := (tabL_ok (tabL_ok (tabL_ok (tabL_ok (tabL_ok (tabL_ok (tabL_ok (tabL_ok (tabL_ok (tabL_ok (tabL_ok (tabL_ok (tabL_ok (tabL_ok (tabL_ok (tabL_ok (tabL_ok (tabL_ok (tabL_ok (tabL_ok (tabL_ok (tabL_ok (tabL_ok (fun j => .inr rfl) (allE_mem q0)) (allE_mem q1)) (allE_mem q2)) (allE_mem q3)) (allE_mem q4)) (allE_mem q5)) (allE_mem q6)) (allE_mem q7)) (allE_mem q8)) (allE_mem q9)) (allE_mem q10)) (allE_mem q11)) (allE_mem q12)) (allE_mem q13)) (allE_mem q14)) (allE_mem q15)) (allE_mem q16)) (allE_mem q17)) (allE_mem q18)) (allE_mem q19)) (allE_mem q20)) (allE_mem q21)) (allE_mem q22))
end Go.Proofs.YtbeldoiaecjkgaaGreatDoor.Bt
