/- What each function of package meter is to answer, as plain propositions over the seat's program; 'enc' says how the landed Meter lies in memory. Conditions: none (these are definitions). -/
import Derived.Test.YtbcbjcdpcbjhnaaMeterMath
import Derived.Test.YtbcbjcdpcbjhnaaBlk
import Derived.Test.YtbcbjcdpcbjhnaaRows
import Derived.WalkKit
import Derived.ProofKit
import Derived.OpenShut
import Derived.IntWalk
import Derived.Lib.Hide
import Derived.Outline
import Derived.WalkLawsBesides
namespace Go.Proofs.Ytbcbjcdpcbjhnaa
open Go.ChangeShapes Go.WideShapes Go.ChangeAt Go.RowKit
def enc (lim t : Int) (o : Bool) : Array Value := #[.int .i64 lim, .int .i64 t, .bool o]
def NewC : Prop := ∀ (lim : Int) (w : World), 0 ≤ lim → lim ≤ 1099511627776 → Calls Try.prog 7 #[.int .i64 lim] w fun e w' =>
  e = .returned (.tuple #[.pointer (some ⟨w.heap.size, 0, none⟩), .int .i64 0]) ∧ Blk w' w.heap.size 52 (enc lim 0 false) ∧ Below w.heap.size w w'
def NoC : Prop := ∀ (lim : Int) (w : World), (lim < 0 ∨ 1099511627776 < lim) → Calls Try.prog 7 #[.int .i64 lim] w fun e w' =>
  e = .returned (.tuple #[.pointer none, .int .i64 1]) ∧ Below w.heap.size w w'
def TakeC : Prop := ∀ (g : Nat) (lim t : Int) (o : Bool) (n : Int) (w : World), mtr lim t o → Blk w g 52 (enc lim t o) → Calls Try.prog 11 #[.pointer (some ⟨g, 0, none⟩), .int .i64 n] w fun e w' =>
  e = .returned (.bool (takeB lim t o n)) ∧ Blk w' g 52 (enc lim (takeT lim t o n) (takeO lim t o n)) ∧ w.grownBy w' (some g)
def TakenC : Prop := ∀ (g : Nat) (lim t : Int) (o : Bool) (w : World), mtr lim t o → Blk w g 52 (enc lim t o) → Calls Try.prog 13 #[.pointer (some ⟨g, 0, none⟩)] w fun e w' => e = .returned (.int .i64 t) ∧ w = w'
def LeftC : Prop := ∀ (g : Nat) (lim t : Int) (o : Bool) (w : World), mtr lim t o → Blk w g 52 (enc lim t o) → Calls Try.prog 14 #[.pointer (some ⟨g, 0, none⟩)] w fun e w' => e = .returned (.int .i64 (lim - t)) ∧ ∃ n, w.drewN n = w'
def OverC : Prop := ∀ (g : Nat) (lim t : Int) (o : Bool) (w : World), mtr lim t o → Blk w g 52 (enc lim t o) → Calls Try.prog 15 #[.pointer (some ⟨g, 0, none⟩)] w fun e w' => e = .returned (.bool o) ∧ w = w'
/-- How much is enough. -/
def bound (a b c : Int) : Int := if 0 ≤ a ∧ 0 ≤ b ∧ 0 ≤ c ∧ a ≤ 1048576 ∧ b ≤ 1048576 ∧ c ≤ 1048576 then a * (b + a) + c + 1 else 0
def BoundC : Prop := ∀ (a b c : Int) (w : World), Calls Try.prog 9 #[.int .i64 a, .int .i64 b, .int .i64 c] w fun e w' => e = .returned (.int .i64 (bound a b c)) ∧ Below w.heap.size w w'
theorem Blk.only {w w' : World} {g h : Nat} {t : TypeId} {cs : Array Value} (hb : Blk w g t cs) (hg : w.grownBy w' (some h)) (hne : g ≠ h) : Blk w' g t cs := (hg.block g hb.lt (fun e => hne (by injection e))).trans hb
theorem below_only {w E W : World} {g : Nat} (h : Below w.heap.size w E) (hg : E.grownBy W (some g)) (hle : w.heap.size ≤ g) : Below w.heap.size w W :=
  h.trans ⟨hg.os, hg.tape, hg.output, hg.size, fun k hk => hg.block k (Nat.lt_of_lt_of_le hk h.size) (fun e => by injection e with e; omega)⟩
end Go.Proofs.Ytbcbjcdpcbjhnaa
