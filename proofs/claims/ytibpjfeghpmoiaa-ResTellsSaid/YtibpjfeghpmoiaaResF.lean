/- What the document's own Advance, True, Size, May, Same of layer 13 answer. Conditions: the lists lie in memory as they are read. -/
import Derived.Test.YtibpjfeghpmoiaaResC
import Derived.BigQuiet
namespace Go.Proofs.Ytibpjfeghpmoiaa
open Go.ChangeShapes Go.WideShapes Go.ChangeAt Go.RowKit
theorem bytes_ne {a b : ByteArray} : (a == b) = false → (a.toList == b.toList) = false := by rw [beq_toListBytes]; exact id
theorem bytes_eq {a b : ByteArray} : (a == b) = true → (a.toList == b.toList) = true := by rw [beq_toListBytes]; exact id
set_option maxHeartbeats 4000000 in
theorem radv_any (A : Option Addr) (n c : Nat) (a : Int) (o : Bool) (w : World) : Calls Try.prog 15 #[.agg #[.slice A n c, .int .i64 a, .bool o]] w fun e w' => e = .returned (.int .i64 (advR a o)) ∧ Below w.heap.size w w' := by
  cases o
  · show Calls _ _ _ _ fun e w' => e = .returned (.int .i64 32) ∧ _
    go_enter Try.func15, Try.ntmps15
    go_wp2
    go_ret
    exact ⟨rfl, below_al (Below.refl _ _) _⟩
  · show Calls _ _ _ _ fun e w' => e = .returned (.int .i64 a) ∧ _
    go_enter Try.func15, Try.ntmps15
    go_wp2
    go_ret
    exact ⟨rfl, below_al (Below.refl _ _) _⟩
set_option maxHeartbeats 8000000 in
set_option maxRecDepth 100000 in
theorem rtrue_any (A : Option Addr) (n c : Nat) (l : List Img) (a : Int) (o : Bool) (src : ByteArray) (w : World) (hr : Reads w w.heap.size 4 A n (flatI l)) (hn : n ≤ 4611686018427387904) :
    Calls Try.prog 11 #[.agg #[.slice A n c, .int .i64 a, .bool o], .string src] w fun e w' => e = .returned (.tuple #[.int .i64 (trueW l src), .int .i64 (trueH l src), .bool (trueB l src)]) ∧ Below w.heap.size w w' := by
  have hB := below_al (Below.refl w.heap.size w) (.cells #[.slice A n c, .int .i64 a, .bool o] 31)
  have K := Blk.new w 31 #[.slice A n c, .int .i64 a, .bool o]
  have hlen : l.length = n := by have := hr.1; rw [flatI_len] at this; omega
  obtain ⟨R, hR⟩ : ∃ R : Int × Int × Bool, R = (trueW l src, trueH l src, trueB l src) := ⟨_, rfl⟩
  obtain ⟨R1, R2, R3⟩ := R
  have e1 : trueW l src = R1 := (congrArg (·.1) hR).symm
  have e2 : trueH l src = R2 := (congrArg (·.2.1) hR).symm
  have e3 : trueB l src = R3 := (congrArg (·.2.2) hR).symm
  have HR : Hid (∀ i, firstI l src = some i → R1 = i.w ∧ R2 = i.h ∧ R3 = true) := by
    intro i hi
    rw [← e1, ← e2, ← e3]
    unfold trueW trueH trueB
    rw [hi]
    exact ⟨rfl, rfl, rfl⟩
  have HN : Hid (firstI l src = none → R1 = 0 ∧ R2 = 0 ∧ R3 = false) := by
    intro hi
    rw [← e1, ← e2, ← e3]
    unfold trueW trueH trueB
    rw [hi]
    exact ⟨rfl, rfl, rfl⟩
  rw [e1, e2, e3]
  clear hR e1 e2 e3
  go_enter Try.func11, Try.ntmps11
  go_wp2
  go_loopw [7] (fun i wr => ∃ k : Nat, k ≤ n ∧ i = .int .i64 k ∧ Hid (∀ (j : Nat) (x : Img), j < k → l[j]? = some x → x.s ≠ src) ∧ Below w.heap.size w wr ∧ Blk wr w.heap.size 31 #[.slice A n c, .int .i64 a, .bool o]) (fun i _ => n - (intOf i).toNat)
  case atStart => exact ⟨0, Nat.zero_le _, rfl, fun j x h => absurd h (by omega), hB, K⟩
  case round =>
    obtain ⟨k, hk, rfl, HK, hBr, Kr⟩ := hrel
    have q0 := Kr.cell 0
    by_cases hlt : k < n
    · have hkl : k < l.length := by omega
      obtain ⟨r, hrk⟩ : ∃ r, l[k]? = some r := ⟨l[k], List.getElem?_eq_getElem hkl⟩
      obtain ⟨ad, rfl, hab, e0, e1, e2, e3⟩ := img_of (hr.below hBr) hrk
      cases hm : (r.s == src) with
      | true =>
        have hf := (findI_some hrk (bytes_beq.1 hm) HK.out).2
        obtain ⟨rfl, rfl, rfl⟩ := HR.out r hf
        have hm' := bytes_eq hm
        obtain ⟨rs, rw_, rh, ro⟩ := r
        simp only at e0 e1 e2 e3 hm' ⊢
        clear hrk hm hf HK HR HN
        go_wp2
        go_quiet (fail)
        go_wp2
        refine bodyPost_ret (v := .tuple #[.int .i64 rw_, .int .i64 rh, .bool true]) (by simp [results, Try.results11, go_sem]) rfl ⟨rfl, below_dr hBr _⟩
      | false =>
        have hne := bytes_bne.1 hm
        have HK' : Hid (∀ (j : Nat) (x : Img), j < k + 1 → l[j]? = some x → x.s ≠ src) := by
          intro j x hj hx
          by_cases e : j = k
          · subst e
            rw [hrk] at hx
            injection hx with hx
            subst hx
            exact hne
          · exact HK.out j x (by omega) hx
        have hm' := bytes_ne hm
        clear hrk hm hne HK
        go_wp2
        go_roundw
        case rel => exact ⟨k + 1, by omega, by go_num, HK', hBr, Kr⟩
        case measure => simp [intOf]; omega
    · obtain rfl : k = n := by omega
      have hno := (findI_none (l := l) (s := src) (fun j x hj => HK.out j x (by have := (List.getElem?_eq_some_iff.1 hj).1; omega) hj)).2
      obtain ⟨rfl, rfl, rfl⟩ := HN.out hno
      go_wp2
      refine bodyPost_ret (v := .tuple #[.int .i64 0, .int .i64 0, .bool false]) (by simp [results, Try.results11, go_sem]) rfl ⟨rfl, hBr⟩
set_option maxHeartbeats 8000000 in
set_option maxRecDepth 100000 in
theorem rsize_any (A : Option Addr) (n c : Nat) (l : List Img) (a : Int) (o : Bool) (src : ByteArray) (w : World) (hr : Reads w w.heap.size 4 A n (flatI l)) (hn : n ≤ 4611686018427387904) :
    Calls Try.prog 9 #[.agg #[.slice A n c, .int .i64 a, .bool o], .string src] w fun e w' => e = .returned (.tuple #[.int .i64 (sizeW l src), .int .i64 (sizeH l src), .bool (trueB l src)]) ∧ Below w.heap.size w w' := by
  have hB := below_al (Below.refl w.heap.size w) (.cells #[.slice A n c, .int .i64 a, .bool o] 31)
  have K := Blk.new w 31 #[.slice A n c, .int .i64 a, .bool o]
  have hlen : l.length = n := by have := hr.1; rw [flatI_len] at this; omega
  obtain ⟨R, hR⟩ : ∃ R : Int × Int × Bool, R = (sizeW l src, sizeH l src, trueB l src) := ⟨_, rfl⟩
  obtain ⟨R1, R2, R3⟩ := R
  have e1 : sizeW l src = R1 := (congrArg (·.1) hR).symm
  have e2 : sizeH l src = R2 := (congrArg (·.2.1) hR).symm
  have e3 : trueB l src = R3 := (congrArg (·.2.2) hR).symm
  have HR : Hid (∀ i, firstI l src = some i → R1 = (if i.o = true then i.w else 1024) ∧ R2 = (if i.o = true then i.h else 1024) ∧ R3 = true) := by
    intro i hi
    rw [← e1, ← e2, ← e3]
    unfold sizeW sizeH trueB
    rw [hi]
    exact ⟨rfl, rfl, rfl⟩
  have HN : Hid (firstI l src = none → R1 = 0 ∧ R2 = 0 ∧ R3 = false) := by
    intro hi
    rw [← e1, ← e2, ← e3]
    unfold sizeW sizeH trueB
    rw [hi]
    exact ⟨rfl, rfl, rfl⟩
  rw [e1, e2, e3]
  clear hR e1 e2 e3
  go_enter Try.func9, Try.ntmps9
  go_wp2
  go_loopw [7] (fun i wr => ∃ k : Nat, k ≤ n ∧ i = .int .i64 k ∧ Hid (∀ (j : Nat) (x : Img), j < k → l[j]? = some x → x.s ≠ src) ∧ Below w.heap.size w wr ∧ Blk wr w.heap.size 31 #[.slice A n c, .int .i64 a, .bool o]) (fun i _ => n - (intOf i).toNat)
  case atStart => exact ⟨0, Nat.zero_le _, rfl, fun j x h => absurd h (by omega), hB, K⟩
  case round =>
    obtain ⟨k, hk, rfl, HK, hBr, Kr⟩ := hrel
    have q0 := Kr.cell 0
    by_cases hlt : k < n
    · have hkl : k < l.length := by omega
      obtain ⟨r, hrk⟩ : ∃ r, l[k]? = some r := ⟨l[k], List.getElem?_eq_getElem hkl⟩
      obtain ⟨ad, rfl, hab, e0, e1, e2, e3⟩ := img_of (hr.below hBr) hrk
      cases hm : (r.s == src) with
      | true =>
        have hf := (findI_some hrk (bytes_beq.1 hm) HK.out).2
        obtain ⟨h1, h2, rfl⟩ := HR.out r hf
        have hm' := bytes_eq hm
        obtain ⟨rs, rw_, rh, ro⟩ := r
        simp only at e0 e1 e2 e3 hm' h1 h2
        clear hrk hm hf HK HR HN
        cases ro
        · obtain rfl : R1 = 1024 := h1
          obtain rfl : R2 = 1024 := h2
          go_wp2
          refine bodyPost_ret (v := .tuple #[.int .i64 1024, .int .i64 1024, .bool true]) (by simp [results, Try.results9, go_sem]) rfl ⟨rfl, hBr⟩
        · obtain rfl : R1 = rw_ := h1
          obtain rfl : R2 = rh := h2
          go_wp2
          go_quiet (fail)
          go_wp2
          refine bodyPost_ret (v := .tuple #[.int .i64 R1, .int .i64 R2, .bool true]) (by simp [results, Try.results9, go_sem]) rfl ⟨rfl, below_dr hBr _⟩
      | false =>
        have hne := bytes_bne.1 hm
        have HK' : Hid (∀ (j : Nat) (x : Img), j < k + 1 → l[j]? = some x → x.s ≠ src) := by
          intro j x hj hx
          by_cases e : j = k
          · subst e
            rw [hrk] at hx
            injection hx with hx
            subst hx
            exact hne
          · exact HK.out j x (by omega) hx
        have hm' := bytes_ne hm
        clear hrk hm hne HK
        go_wp2
        go_roundw
        case rel => exact ⟨k + 1, by omega, by go_num, HK', hBr, Kr⟩
        case measure => simp [intOf]; omega
    · obtain rfl : k = n := by omega
      have hno := (findI_none (l := l) (s := src) (fun j x hj => HK.out j x (by have := (List.getElem?_eq_some_iff.1 hj).1; omega) hj)).2
      obtain ⟨rfl, rfl, rfl⟩ := HN.out hno
      go_wp2
      refine bodyPost_ret (v := .tuple #[.int .i64 0, .int .i64 0, .bool false]) (by simp [results, Try.results9, go_sem]) rfl ⟨rfl, hBr⟩
end Go.Proofs.Ytibpjfeghpmoiaa
