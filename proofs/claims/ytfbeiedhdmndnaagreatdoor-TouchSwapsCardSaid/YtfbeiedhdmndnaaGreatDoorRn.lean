/-
 What the reference's Ints, SameNote and SameNotes answer: whether they are one. No conditions.
-/
import Derived.Test.YtfbeiedhdmndnaaGreatDoorCo
namespace Go.Proofs.YtfbeiedhdmndnaaGreatDoor
open Go.RowKit
attribute [local go_sem ↓] Go.wp_at_zero Go.wp_at_succ
end Go.Proofs.YtfbeiedhdmndnaaGreatDoor
