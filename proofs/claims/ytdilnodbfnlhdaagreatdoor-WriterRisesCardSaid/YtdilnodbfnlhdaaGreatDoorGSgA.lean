import Derived.Test.YtdilnodbfnlhdaaGreatDoorGSgT
import Derived.Test.YtdilnodbfnlhdaaGreatDoorGApp
import Derived.Test.YtdilnodbfnlhdaaGreatDoorGMem
import Derived.Test.YtdilnodbfnlhdaaGreatDoorGKeep
import Derived.Deep.RegionLaw
namespace Go.Proofs.YtdilnodbfnlhdaaGreatDoor
open Go.RowKit Tide
section
variable {W:World} {F S:Nat->Prop} {p places:Nat} {vs:Value}
end
end Go.Proofs.YtdilnodbfnlhdaaGreatDoor
namespace Go.Proofs.YtdilnodbfnlhdaaGreatDoor
open Go.RowKit Tide
end Go.Proofs.YtdilnodbfnlhdaaGreatDoor
namespace Go.Proofs.YtdilnodbfnlhdaaGreatDoor
open Go.RowKit Tide
section
variable {W:World} {F S:Nat->Prop} {p places:Nat} {vs:Value}
end
end Go.Proofs.YtdilnodbfnlhdaaGreatDoor
namespace Go.Proofs.YtdilnodbfnlhdaaGreatDoor
open Go.RowKit Tide
end Go.Proofs.YtdilnodbfnlhdaaGreatDoor
namespace Go.Proofs.YtdilnodbfnlhdaaGreatDoor
open Go.RowKit Tide
section
variable {W:World} {F S:Nat->Prop} {p places:Nat} {vs:Value}
end
end Go.Proofs.YtdilnodbfnlhdaaGreatDoor
namespace Go.Proofs.YtdilnodbfnlhdaaGreatDoor
open Go.RowKit Tide
end Go.Proofs.YtdilnodbfnlhdaaGreatDoor
namespace Go.Proofs.YtdilnodbfnlhdaaGreatDoor
open Go Go.RowKit Tide
section
variable {W W':World} {F G S K:Nat->Prop} {q p:Nat} {va vp vi:Value} {rs:List Value} {u:av}
end
end Go.Proofs.YtdilnodbfnlhdaaGreatDoor
namespace Go.Proofs.YtdilnodbfnlhdaaGreatDoor
open Go Go.RowKit Tide
section
variable {W:World} {F S:Nat->Prop} {q p:Nat} {va vp vi:Value} {rs:List Value} {u:av}
end
end Go.Proofs.YtdilnodbfnlhdaaGreatDoor
namespace Go.Proofs.YtdilnodbfnlhdaaGreatDoor
open Go Go.RowKit Tide
section
variable {W:World} {F S:Nat->Prop} {q p:Nat} {va vp vi:Value} {rs:List Value} {u:av}
end
end Go.Proofs.YtdilnodbfnlhdaaGreatDoor
