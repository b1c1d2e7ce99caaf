import Derived.Test.YtdilnodbfnlhdaaGreatDoorGUrS
import Derived.Test.YtdilnodbfnlhdaaGreatDoorGUiG
import Derived.Deep.RegionHeld3
namespace Go.Proofs.YtdilnodbfnlhdaaGreatDoor
open Go Go.RowKit Tide
section
variable {W:World} {F S G:Nat->Prop} {q p:Nat} {va vp vi:Value} {rs:List Value} {u:av}
end
end Go.Proofs.YtdilnodbfnlhdaaGreatDoor
