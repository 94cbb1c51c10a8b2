import Derived.Test.YtgcidfenjlmljaaGreatPg25
import Derived.Test.YtgcidfenjlmljaaGreatPgR
set_option linter.unusedVariables false
set_option linter.unusedSimpArgs false
set_option maxRecDepth 100000
set_option maxHeartbeats 16000000
namespace Go.Proofs.YtgcidfenjlmljaaGreat.Bt
section
open Go Go.RowKit Go.Shelf
section
variable {A:Nat} {s:ASt} {w:World}
theorem Zyi (h:On A s w) (a:Int) (ha:a<=9223372036854775807):
 Calls Tryz.prog 153 #[pT A,iV a] w (Ret A (Zg3 s a 32 0) (iV (Zac s.L s.es a 32)) w):=by
 have HO:=hid h;clear h;go_enter Tryz.func153,Tryz.ntmps153;go_wp2_with fail
 refine(Zzo HO.out a 32 ha 0).mono ?_
 rintro e w1 ⟨rfl,hx,hg⟩;have HF:=hid (And.intro hx hg);clear hx hg;go_wp2_with fail
 go_ret
 exact⟨rfl,HF.out.1,HF.out.2⟩
end
def s2 (m:Nat->UInt8):ASt:=Zc9 2 m
end
end Go.Proofs.YtgcidfenjlmljaaGreat.Bt
