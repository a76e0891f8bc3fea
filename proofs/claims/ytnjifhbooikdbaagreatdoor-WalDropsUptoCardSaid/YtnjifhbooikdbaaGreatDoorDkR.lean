/- Package disk's files.clone of no files; of any. -/
import Derived.Test.YtnjifhbooikdbaaGreatDoorDkQ
namespace Go.Proofs.YtnjifhbooikdbaaGreatDoor.Dk
open Go.RowKit Go.Maps By Mp

end Go.Proofs.YtnjifhbooikdbaaGreatDoor.Dk
