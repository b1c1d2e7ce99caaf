import Derived.Test.YtdilnodbfnlhdaaGreatDoorGKeep
import Derived.WalkKit
import Derived.WalkSpells
import Derived.Deep.QuietTactic
import Derived.BigQuiet
namespace Go.Proofs.YtdilnodbfnlhdaaGreatDoor
open Go.RowKit Tide
end Go.Proofs.YtdilnodbfnlhdaaGreatDoor
