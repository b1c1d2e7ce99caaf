import Derived.Test.YtdilnodbfnlhdaaGreatDoorGSsR
import Derived.Deep.Upon
import Derived.Lib.SliceRun
import Derived.ArgAppend
namespace Go.Proofs.YtdilnodbfnlhdaaGreatDoor
open Go.RowKit Tide
theorem sV (b:Nat):∀ (vs:List Value) (o:Nat) (w:World),Kept (λk=>k=b) w (w.setCells b o vs)
 | [],_,w=>Kept.refl _ w
 | v :: r,o,w=>((Kept.refl (λk=>k=b) w).setCell (p:=⟨b,o,none⟩) (.inl rfl) v).trans (sV b r (o+1) _) (λ_ h=> .inl h)
theorem qX:(Tryz.prog.info? 224).map (λi=>(i.zero,i.size,i.bytes))=some (some (.agg #[.int .i64 0,.int .i64 0,.int .i64 0]),3,24):=by kernel_rfl
section
variable {W:World} {us:List ah} {b c K:Nat}
end
end Go.Proofs.YtdilnodbfnlhdaaGreatDoor
