import Derived.Test.YtpkaehpllldcmaaGreatDoorCfA
import Derived.Test.YtpkaehpllldcmaaGreatDoorProg
import Derived.KernelRfl
namespace Go.Proofs.YtpkaehpllldcmaaGreatDoor.Bt
open Go Ev Go.RowKit
set_option linter.unusedVariables false
set_option linter.unusedSimpArgs false
set_option maxRecDepth 10000000
noncomputable def allE (P : Program) : List (Nat × CF) → Prop
  | [] => True
  | p :: l => T.get CF.no (table P) p.1 = p.2 ∧ allE P l
theorem allE_mem {P : Program} : ∀ {l : List (Nat × CF)}, allE P l → ∀ p ∈ l, T.get CF.no (table P) p.1 = p.2
  | _ :: _, h, p, hp => by
    rcases List.mem_cons.1 hp with rfl | hp
    · exact h.1
    · exact allE_mem h.2 p hp
noncomputable def l0 : List (Nat × CF) := [(7, c7), (8, c8), (15, c15), (20, c20), (24, c24), (33, c33), (34, c34), (35, c35), (36, c36), (39, c39), (40, c40), (41, c41)]
theorem q0 : allE Tryz.prog l0 := ⟨by kernel_rfl, by kernel_rfl, by kernel_rfl, by kernel_rfl, by kernel_rfl, by kernel_rfl, by kernel_rfl, by kernel_rfl, by kernel_rfl, by kernel_rfl, by kernel_rfl, by kernel_rfl, trivial⟩
noncomputable def l1 : List (Nat × CF) := [(42, c42), (43, c43), (44, c44), (45, c45), (55, c55), (56, c56), (57, c57), (58, c58), (59, c59), (60, c60), (62, c62), (63, c63)]
theorem q1 : allE Tryz.prog l1 := ⟨by kernel_rfl, by kernel_rfl, by kernel_rfl, by kernel_rfl, by kernel_rfl, by kernel_rfl, by kernel_rfl, by kernel_rfl, by kernel_rfl, by kernel_rfl, by kernel_rfl, by kernel_rfl, trivial⟩
noncomputable def l2 : List (Nat × CF) := [(64, c64), (65, c65), (67, c67), (68, c68), (69, c69), (70, c70), (71, c71), (72, c72), (73, c73), (75, c75), (76, c76), (79, c79)]
theorem q2 : allE Tryz.prog l2 := ⟨by kernel_rfl, by kernel_rfl, by kernel_rfl, by kernel_rfl, by kernel_rfl, by kernel_rfl, by kernel_rfl, by kernel_rfl, by kernel_rfl, by kernel_rfl, by kernel_rfl, by kernel_rfl, trivial⟩
noncomputable def l3 : List (Nat × CF) := [(80, c80), (81, c81), (82, c82), (85, c85), (86, c86), (93, c93), (95, c95), (96, c96), (97, c97), (99, c99), (100, c100), (101, c101)]
theorem q3 : allE Tryz.prog l3 := ⟨by kernel_rfl, by kernel_rfl, by kernel_rfl, by kernel_rfl, by kernel_rfl, by kernel_rfl, by kernel_rfl, by kernel_rfl, by kernel_rfl, by kernel_rfl, by kernel_rfl, by kernel_rfl, trivial⟩
noncomputable def l4 : List (Nat × CF) := [(102, c102), (103, c103), (104, c104), (105, c105), (106, c106), (107, c107), (112, c112), (113, c113), (114, c114), (115, c115), (116, c116), (117, c117)]
theorem q4 : allE Tryz.prog l4 := ⟨by kernel_rfl, by kernel_rfl, by kernel_rfl, by kernel_rfl, by kernel_rfl, by kernel_rfl, by kernel_rfl, by kernel_rfl, by kernel_rfl, by kernel_rfl, by kernel_rfl, by kernel_rfl, trivial⟩
noncomputable def l5 : List (Nat × CF) := [(118, c118), (119, c119), (121, c121), (123, c123), (128, c128), (129, c129), (131, c131), (133, c133), (135, c135), (136, c136), (137, c137), (138, c138)]
theorem q5 : allE Tryz.prog l5 := ⟨by kernel_rfl, by kernel_rfl, by kernel_rfl, by kernel_rfl, by kernel_rfl, by kernel_rfl, by kernel_rfl, by kernel_rfl, by kernel_rfl, by kernel_rfl, by kernel_rfl, by kernel_rfl, trivial⟩
noncomputable def l6 : List (Nat × CF) := [(139, c139), (140, c140), (141, c141), (149, c149), (150, c150), (151, c151), (153, c153), (154, c154), (157, c157), (158, c158), (161, c161), (162, c162)]
theorem q6 : allE Tryz.prog l6 := ⟨by kernel_rfl, by kernel_rfl, by kernel_rfl, by kernel_rfl, by kernel_rfl, by kernel_rfl, by kernel_rfl, by kernel_rfl, by kernel_rfl, by kernel_rfl, by kernel_rfl, by kernel_rfl, trivial⟩
noncomputable def l7 : List (Nat × CF) := [(163, c163), (164, c164), (165, c165), (166, c166), (167, c167), (170, c170), (171, c171), (172, c172), (173, c173), (177, c177), (178, c178), (179, c179)]
theorem q7 : allE Tryz.prog l7 := ⟨by kernel_rfl, by kernel_rfl, by kernel_rfl, by kernel_rfl, by kernel_rfl, by kernel_rfl, by kernel_rfl, by kernel_rfl, by kernel_rfl, by kernel_rfl, by kernel_rfl, by kernel_rfl, trivial⟩
noncomputable def l8 : List (Nat × CF) := [(180, c180), (181, c181), (182, c182), (187, c187), (188, c188), (189, c189), (190, c190), (192, c192), (194, c194), (195, c195), (196, c196), (197, c197)]
theorem q8 : allE Tryz.prog l8 := ⟨by kernel_rfl, by kernel_rfl, by kernel_rfl, by kernel_rfl, by kernel_rfl, by kernel_rfl, by kernel_rfl, by kernel_rfl, by kernel_rfl, by kernel_rfl, by kernel_rfl, by kernel_rfl, trivial⟩
noncomputable def l9 : List (Nat × CF) := [(198, c198), (199, c199), (200, c200), (201, c201), (202, c202), (204, c204), (205, c205), (206, c206), (207, c207), (208, c208), (209, c209), (210, c210)]
theorem q9 : allE Tryz.prog l9 := ⟨by kernel_rfl, by kernel_rfl, by kernel_rfl, by kernel_rfl, by kernel_rfl, by kernel_rfl, by kernel_rfl, by kernel_rfl, by kernel_rfl, by kernel_rfl, by kernel_rfl, by kernel_rfl, trivial⟩
noncomputable def l10 : List (Nat × CF) := [(211, c211), (214, c214), (215, c215), (216, c216), (217, c217), (218, c218), (221, c221), (222, c222), (225, c225), (227, c227), (228, c228), (229, c229)]
theorem q10 : allE Tryz.prog l10 := ⟨by kernel_rfl, by kernel_rfl, by kernel_rfl, by kernel_rfl, by kernel_rfl, by kernel_rfl, by kernel_rfl, by kernel_rfl, by kernel_rfl, by kernel_rfl, by kernel_rfl, by kernel_rfl, trivial⟩
noncomputable def l11 : List (Nat × CF) := [(230, c230), (231, c231), (232, c232), (240, c240), (241, c241), (242, c242), (243, c243), (244, c244), (245, c245), (248, c248), (256, c256), (257, c257)]
theorem q11 : allE Tryz.prog l11 := ⟨by kernel_rfl, by kernel_rfl, by kernel_rfl, by kernel_rfl, by kernel_rfl, by kernel_rfl, by kernel_rfl, by kernel_rfl, by kernel_rfl, by kernel_rfl, by kernel_rfl, by kernel_rfl, trivial⟩
noncomputable def l12 : List (Nat × CF) := [(259, c259), (260, c260), (261, c261), (262, c262), (263, c263), (267, c267), (270, c270), (271, c271), (272, c272), (273, c273), (278, c278), (279, c279)]
theorem q12 : allE Tryz.prog l12 := ⟨by kernel_rfl, by kernel_rfl, by kernel_rfl, by kernel_rfl, by kernel_rfl, by kernel_rfl, by kernel_rfl, by kernel_rfl, by kernel_rfl, by kernel_rfl, by kernel_rfl, by kernel_rfl, trivial⟩
noncomputable def l13 : List (Nat × CF) := [(280, c280), (287, c287), (291, c291), (292, c292)]
theorem q13 : allE Tryz.prog l13 := ⟨by kernel_rfl, by kernel_rfl, by kernel_rfl, by kernel_rfl, trivial⟩
noncomputable def bs : T CF := tabL (tabL (tabL (tabL (tabL (tabL (tabL (tabL (tabL (tabL (tabL (tabL (tabL (tabL (table Tryz.prog) l0) l1) l2) l3) l4) l5) l6) l7) l8) l9) l10) l11) l12) l13
theorem bsOK : TbOK Tryz.prog bs := (tabL_ok (tabL_ok (tabL_ok (tabL_ok (tabL_ok (tabL_ok (tabL_ok (tabL_ok (tabL_ok (tabL_ok (tabL_ok (tabL_ok (tabL_ok (tabL_ok (fun j => .inr rfl) (allE_mem q0)) (allE_mem q1)) (allE_mem q2)) (allE_mem q3)) (allE_mem q4)) (allE_mem q5)) (allE_mem q6)) (allE_mem q7)) (allE_mem q8)) (allE_mem q9)) (allE_mem q10)) (allE_mem q11)) (allE_mem q12)) (allE_mem q13))
end Go.Proofs.YtpkaehpllldcmaaGreatDoor.Bt
