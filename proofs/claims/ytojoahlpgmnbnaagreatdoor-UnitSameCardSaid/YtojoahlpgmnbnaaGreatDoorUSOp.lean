/- Operations of the program, by name. -/
import Derived.Test.YtojoahlpgmnbnaaGreatDoorProg
namespace Go.Proofs.YtojoahlpgmnbnaaGreatDoor.OP
open Go
end Go.Proofs.YtojoahlpgmnbnaaGreatDoor.OP
