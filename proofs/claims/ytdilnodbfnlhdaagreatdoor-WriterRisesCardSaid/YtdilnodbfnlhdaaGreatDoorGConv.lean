import Derived.Test.YtdilnodbfnlhdaaGreatDoorGMem
import Derived.Test.YtdilnodbfnlhdaaGreatDoorGKeep
import Derived.Laws.BytesArg
import Derived.Laws.IdiomStrings
import Derived.WalkSpells
namespace Go.Proofs.YtdilnodbfnlhdaaGreatDoor
open Go.RowKit Tide
def text (l:List UInt8):ByteArray:=⟨l.toArray⟩
theorem jy {w:World} {B:Nat} {v:Value} {l:List UInt8} (h:Bytes w B v l):(convert 38 9 v).run Tryz.prog w= .ok (.string (text l)) w:=by
 obtain⟨A,c,rfl,_,_,hb⟩:=h.form;rcases A with _|a
 · have hl:l= []:=by
    rcases l with _|⟨x,l⟩
    · rfl
    · obtain⟨_,_,h,_⟩:=hb 0 (by simp);cases h
   subst hl;exact run_convert_bytes_nil (P:=Tryz.prog) w 38 5 Tryz.underlying38 Tryz.underlying5 _ c 9 Tryz.underlying9
 · refine run_convert_bytes_back (P:=Tryz.prog) w 38 9 5 a c l Tryz.underlying38 Tryz.underlying5 Tryz.underlying9 (λj hj=> ?_);obtain⟨b,o,e,_,hc⟩:=hb j hj;injection e with e;subst e;rw[show(⟨b,o,none⟩:Addr).add j=⟨b,o+j,none⟩ by unfold Addr.add;split<;>simp_all];exact hc j hj
end Go.Proofs.YtdilnodbfnlhdaaGreatDoor
