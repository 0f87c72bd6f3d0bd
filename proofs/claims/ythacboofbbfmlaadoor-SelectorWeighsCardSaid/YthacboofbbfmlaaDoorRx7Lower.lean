/- What the document's own Lower of layer 7 answers. Conditions: the text is not too long. -/
import Derived.Test.YthacboofbbfmlaaDoorScanSpec
import Derived.Test.YthacboofbbfmlaaDoorBytes
namespace Go.Proofs.YthacboofbbfmlaaDoor
open Go.ChangeShapes Go.WideShapes Go.ChangeAt Go.RowKit
theorem take_byte (s : ByteArray) (k : Nat) (h : k < s.size) : s.data.toList.take (k + 1) = s.data.toList.take k ++ [s[k]] := by
  rw [List.take_succ_eq_append_getElem (by simpa using h)]; rfl
theorem lowC_yes {c : UInt8} (h1 : 65 ≤ (c.toNat : Int)) (h2 : (c.toNat : Int) ≤ 90) : bv (lowC c) = .int .u8 ((c.toNat : Int) + 32) := by
  unfold lowC bv
  have e : 65 ≤ c ∧ c ≤ 90 := ⟨UInt8.le_iff_toNat_le.2 (by show 65 ≤ c.toNat; omega), UInt8.le_iff_toNat_le.2 (by show c.toNat ≤ 90; omega)⟩
  rw [if_pos e, UInt8.toNat_add]
  have : (c.toNat + (32 : UInt8).toNat) % 2 ^ 8 = c.toNat + 32 := by show (c.toNat + 32) % 256 = _; omega
  rw [this]
  rfl
theorem lowC_no {c : UInt8} (h : (c.toNat : Int) < 65 ∨ 90 < (c.toNat : Int)) : bv (lowC c) = .int .u8 (c.toNat : Int) := by
  unfold lowC bv
  rw [if_neg]
  rintro ⟨h1, h2⟩
  have h1' := UInt8.le_iff_toNat_le.1 h1
  have h2' := UInt8.le_iff_toNat_le.1 h2
  have e1 : (65 : UInt8).toNat = 65 := rfl
  have e2 : (90 : UInt8).toNat = 90 := rfl
  omega
end Go.Proofs.YthacboofbbfmlaaDoor
