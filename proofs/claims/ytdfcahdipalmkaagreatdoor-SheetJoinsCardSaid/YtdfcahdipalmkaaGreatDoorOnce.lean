/- sync.Once's slow road, of one goroutine: the two calls that doSlow defers, the lock, doSlow and Do, around strings.Replacer's buildOnce. Conditions: what buildOnce does is a hypothesis; the Once is not done, its lock is free. -/
import Derived.Test.YtdfcahdipalmkaaGreatDoorRows
import Derived.Test.YtdfcahdipalmkaaGreatDoorBlk
import Derived.WalkKit
import Derived.ProofKit
import Derived.OpenShut
import Derived.IntWalk
import Derived.Lib.Hide
import Derived.Outline
import Derived.Tactics
import Derived.Tactics2
import Derived.Defers
import Derived.Laws.Pointers
import Derived.Laws.LoneSync
import Derived.RegionTactic
import Derived.RegionCalls
import Derived.ChangeAlike
namespace Go.Proofs.YtdfcahdipalmkaaGreatDoor
open Go.ChangeShapes Go.WideShapes Go.ChangeAt Go.RowKit
namespace Once
end Once
end Go.Proofs.YtdfcahdipalmkaaGreatDoor
