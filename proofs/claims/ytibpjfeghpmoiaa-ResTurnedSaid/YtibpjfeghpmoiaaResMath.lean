/- The plain mathematics of tables of images, and of a font. Conditions: none. -/
import Derived.WalkKit
namespace Go.Proofs.Ytibpjfeghpmoiaa
structure Img where
  s : ByteArray
  w : Int
  h : Int
  o : Bool
def Img.v (i : Img) : Value := .agg #[.string i.s, .int .i64 i.w, .int .i64 i.h, .bool i.o]
def Img.cs (i : Img) : List Value := [.string i.s, .int .i64 i.w, .int .i64 i.h, .bool i.o]
def flatI (l : List Img) : List Value := l.flatMap Img.cs
theorem flatI_cons (i : Img) (l : List Img) : flatI (i :: l) = .string i.s :: .int .i64 i.w :: .int .i64 i.h :: .bool i.o :: flatI l := rfl
theorem flatI_append (a b : List Img) : flatI (a ++ b) = flatI a ++ flatI b := by unfold flatI; rw [List.flatMap_append]
theorem flatI_len (l : List Img) : (flatI l).length = l.length * 4 := by
  induction l with
  | nil => rfl
  | cons i l ih => rw [flatI_cons]; simp only [List.length_cons, ih]; omega
theorem flatI_at : ∀ (l : List Img) (k : Nat) (i : Img), l[k]? = some i →
    (flatI l)[k * 4]? = some (.string i.s) ∧ (flatI l)[k * 4 + 1]? = some (.int .i64 i.w) ∧ (flatI l)[k * 4 + 2]? = some (.int .i64 i.h) ∧ (flatI l)[k * 4 + 3]? = some (.bool i.o)
  | [], k, i, h => by simp at h
  | j :: l, 0, i, h => by
    obtain rfl : j = i := by simpa using h
    rw [flatI_cons]; exact ⟨rfl, rfl, rfl, rfl⟩
  | j :: l, k + 1, i, h => by
    obtain ⟨a, b, c, d⟩ := flatI_at l k i (by simpa using h)
    rw [flatI_cons, show (k + 1) * 4 = k * 4 + 4 by omega]
    exact ⟨a, b, c, d⟩
theorem flatI_get (l : List Img) : ∀ (j : Nat) (u : Value), (flatI l)[j]? = some u → ∃ i, l[j / 4]? = some i ∧ i.cs[j % 4]? = some u := by
  induction l with
  | nil => intro j u h; simp [flatI] at h
  | cons s l ih =>
    intro j u h
    rw [flatI_cons] at h
    match j, h with
    | 0, h => exact ⟨s, rfl, h⟩
    | 1, h => exact ⟨s, rfl, h⟩
    | 2, h => exact ⟨s, rfl, h⟩
    | 3, h => exact ⟨s, rfl, h⟩
    | j + 4, h =>
      obtain ⟨r, h1, h2⟩ := ih j u (by simpa using h)
      exact ⟨r, by rw [show (j + 4) / 4 = j / 4 + 1 by omega]; simpa using h1, by rw [show (j + 4) % 4 = j % 4 by omega]; exact h2⟩
def Img.eqb (a b : Img) : Bool := (a.s == b.s) && ((a.w == b.w) && ((a.h == b.h) && (a.o == b.o)))
theorem bytes_beq {a b : ByteArray} : (a == b) = true ↔ a = b := by
  constructor
  · intro h
    rw [beq_toListBytes] at h
    have := eq_of_beq h
    rw [ByteArray.toList_eq, ByteArray.toList_eq] at this
    obtain ⟨⟨x⟩⟩ := a
    obtain ⟨⟨y⟩⟩ := b
    have : x = y := this
    rw [this]
  · rintro rfl
    rw [beq_toListBytes]
    exact beq_self_eq_true _
theorem bytes_bne {a b : ByteArray} : (a == b) = false ↔ a ≠ b := by
  rw [← Bool.not_eq_true, bytes_beq]
theorem Img.eqb_iff {a b : Img} : a.eqb b = true ↔ a = b := by
  obtain ⟨as, aw, ah, ao⟩ := a
  obtain ⟨bs, bw, bh, bo⟩ := b
  unfold Img.eqb
  rw [Bool.and_eq_true, Bool.and_eq_true, Bool.and_eq_true, bytes_beq]
  constructor
  · rintro ⟨h1, h2, h3, h4⟩
    have h2 := eq_of_beq h2; have h3 := eq_of_beq h3; have h4 := eq_of_beq h4
    simp only at h1 h2 h3 h4
    rw [h1, h2, h3, h4]
  · intro h
    injection h with h1 h2 h3 h4
    subst h1; subst h2; subst h3; subst h4
    exact ⟨rfl, beq_self_eq_true _, beq_self_eq_true _, beq_self_eq_true _⟩
theorem Img.eqb_refl (a : Img) : a.eqb a = true := Img.eqb_iff.2 rfl
/-- The first image of a Src. -/
def firstI (l : List Img) (s : ByteArray) : Option Img := l.find? fun i => i.s == s
/-- Where it is. -/
def findI (l : List Img) (s : ByteArray) : Int := match l.findIdx? fun i => i.s == s with | some k => (k : Int) | none => -1
theorem firstI_none {l : List Img} {s : ByteArray} (h : findI l s = -1) : firstI l s = none := by
  unfold findI at h
  unfold firstI
  split at h
  · omega
  · rename_i e
    rw [List.findIdx?_eq_none_iff] at e
    rw [List.find?_eq_none]
    intro x hx
    rw [e x hx]; exact Bool.false_ne_true
theorem findI_some {l : List Img} {s : ByteArray} {i : Img} {k : Nat} (hk : l[k]? = some i) (hi : i.s = s) (hn : ∀ (j : Nat) (x : Img), j < k → l[j]? = some x → x.s ≠ s) : findI l s = k ∧ firstI l s = some i := by
  have hkl := (List.getElem?_eq_some_iff.1 hk).1
  have hget := (List.getElem?_eq_some_iff.1 hk).2
  constructor
  · unfold findI
    have : l.findIdx? (fun i => i.s == s) = some k := by
      rw [List.findIdx?_eq_some_iff_getElem]
      refine ⟨hkl, by rw [hget, hi]; exact bytes_beq.2 rfl, fun j hj => ?_⟩
      rw [Bool.not_eq_true]
      exact bytes_bne.2 (hn j _ hj (List.getElem?_eq_getElem (by omega)))
    rw [this]
  · unfold firstI
    rw [List.find?_eq_some_iff_getElem]
    refine ⟨by rw [hi]; exact bytes_beq.2 rfl, k, hkl, hget, fun j hj => ?_⟩
    rw [bytes_bne.2 (hn j _ hj (List.getElem?_eq_getElem (by omega)))]
    rfl
theorem findI_none {l : List Img} {s : ByteArray} (hn : ∀ (j : Nat) (x : Img), l[j]? = some x → x.s ≠ s) : findI l s = -1 ∧ firstI l s = none := by
  have h : findI l s = -1 := by
    unfold findI
    have : l.findIdx? (fun i => i.s == s) = none := by
      rw [List.findIdx?_eq_none_iff]
      intro x hx
      obtain ⟨j, hj⟩ := List.getElem?_of_mem hx
      exact bytes_bne.2 (hn j x hj)
    rw [this]
  exact ⟨h, firstI_none h⟩
/-- Either there is a first one, or there is none. -/
theorem find_ways (l : List Img) (s : ByteArray) : (findI l s = -1 ∧ firstI l s = none ∧ ∀ (j : Nat) (x : Img), l[j]? = some x → x.s ≠ s) ∨
    ∃ (k : Nat) (i : Img), l[k]? = some i ∧ i.s = s ∧ findI l s = (k : Int) ∧ firstI l s = some i ∧ ∀ (j : Nat) (x : Img), j < k → l[j]? = some x → x.s ≠ s := by
  cases e : l.findIdx? (fun i => i.s == s) with
  | none =>
    left
    have hn : ∀ (j : Nat) (x : Img), l[j]? = some x → x.s ≠ s := by
      rw [List.findIdx?_eq_none_iff] at e
      intro j x hj
      exact bytes_bne.1 (e x (List.mem_of_getElem? hj))
    exact ⟨(findI_none hn).1, (findI_none hn).2, hn⟩
  | some k =>
    right
    rw [List.findIdx?_eq_some_iff_getElem] at e
    obtain ⟨hk, h1, h2⟩ := e
    have h3 : ∀ (j : Nat) (x : Img), j < k → l[j]? = some x → x.s ≠ s := by
      intro j x hj hx
      have := h2 j hj
      rw [Bool.not_eq_true] at this
      have hx' := (List.getElem?_eq_some_iff.1 hx).2
      rw [hx'] at this
      exact bytes_bne.1 this
    have h4 := findI_some (List.getElem?_eq_getElem hk) (bytes_beq.1 h1) h3
    exact ⟨k, l[k], List.getElem?_eq_getElem hk, bytes_beq.1 h1, h4.1, h4.2, h3⟩
/-- How large an image is, how large it is laid. -/
def trueW (l : List Img) (s : ByteArray) : Int := match firstI l s with | some i => i.w | none => 0
def trueH (l : List Img) (s : ByteArray) : Int := match firstI l s with | some i => i.h | none => 0
def trueB (l : List Img) (s : ByteArray) : Bool := (firstI l s).isSome
def sizeW (l : List Img) (s : ByteArray) : Int := match firstI l s with | some i => if i.o = true then i.w else 1024 | none => 0
def sizeH (l : List Img) (s : ByteArray) : Int := match firstI l s with | some i => if i.o = true then i.h else 1024 | none => 0
def advR (a : Int) (o : Bool) : Int := if o = true then a else 32
def pubI (i : Img) : Img := if i.o = true then i else ⟨i.s, 0, 0, false⟩
def pubA (a : Int) (o : Bool) : Int := if o = true then a else 0
theorem pubI_s (i : Img) : (pubI i).s = i.s := by unfold pubI; split <;> rfl
theorem pubI_o (i : Img) : (pubI i).o = i.o := by
  unfold pubI
  split
  · rfl
  · rename_i h; cases ho : i.o with
    | true => exact absurd ho h
    | false => rfl
theorem pubI_twice (i : Img) : pubI (pubI i) = pubI i := by
  unfold pubI
  cases h : i.o
  · simp
  · simp [h]
theorem pubA_twice (a : Int) (o : Bool) : pubA (pubA a o) o = pubA a o := by unfold pubA; split <;> simp_all
/-- Are two tables the same? -/
def sameI : List Img → List Img → Bool
  | [], [] => true
  | a :: l, b :: m => a.eqb b && sameI l m
  | _, _ => false
theorem sameI_iff : ∀ {l m : List Img}, sameI l m = true ↔ l = m
  | [], [] => by simp [sameI]
  | [], _ :: _ => by simp [sameI]
  | _ :: _, [] => by simp [sameI]
  | a :: l, b :: m => by
    unfold sameI
    rw [Bool.and_eq_true, Img.eqb_iff, sameI_iff]
    constructor
    · rintro ⟨rfl, rfl⟩; rfl
    · intro h; injection h with h1 h2; exact ⟨h1, h2⟩
theorem sameI_refl (l : List Img) : sameI l l = true := sameI_iff.2 rfl
def sameT (l : List Img) (a : Int) (o : Bool) (m : List Img) (b : Int) (p : Bool) : Bool := (a == b) && ((o == p) && sameI l m)
theorem sameT_iff {l m : List Img} {a b : Int} {o p : Bool} : sameT l a o m b p = true ↔ l = m ∧ a = b ∧ o = p := by
  unfold sameT
  rw [Bool.and_eq_true, Bool.and_eq_true, sameI_iff]
  constructor
  · rintro ⟨h1, h2, h3⟩; exact ⟨h3, eq_of_beq h1, eq_of_beq h2⟩
  · rintro ⟨rfl, rfl, rfl⟩; exact ⟨beq_self_eq_true _, beq_self_eq_true _, rfl⟩
def likeT (l : List Img) (a : Int) (o : Bool) (m : List Img) (b : Int) (p : Bool) : Bool := sameT (l.map pubI) (pubA a o) o (m.map pubI) (pubA b p) p
theorem likeT_iff {l m : List Img} {a b : Int} {o p : Bool} : likeT l a o m b p = true ↔ l.map pubI = m.map pubI ∧ pubA a o = pubA b p ∧ o = p := sameT_iff
theorem likeT_comm (l : List Img) (a : Int) (o : Bool) (m : List Img) (b : Int) (p : Bool) : likeT l a o m b p = likeT m b p l a o := by
  rw [Bool.eq_iff_iff, likeT_iff, likeT_iff]
  constructor
  · rintro ⟨h1, h2, h3⟩; exact ⟨h1.symm, h2.symm, h3.symm⟩
  · rintro ⟨h1, h2, h3⟩; exact ⟨h1.symm, h2.symm, h3.symm⟩
theorem firstI_pub (l : List Img) (s : ByteArray) : firstI (l.map pubI) s = (firstI l s).map pubI := by
  unfold firstI
  rw [List.find?_map]
  have : ((fun i : Img => i.s == s) ∘ pubI) = fun i : Img => i.s == s := by
    funext x
    simp only [Function.comp, pubI_s]
  rw [this]
theorem sizes_pub (l : List Img) (s : ByteArray) : sizeW (l.map pubI) s = sizeW l s ∧ sizeH (l.map pubI) s = sizeH l s ∧ trueB (l.map pubI) s = trueB l s := by
  unfold sizeW sizeH trueB
  rw [firstI_pub]
  cases firstI l s with
  | none => exact ⟨rfl, rfl, rfl⟩
  | some i =>
    simp only [Option.map_some, Option.isSome_some, and_true, pubI_o]
    unfold pubI
    constructor <;> split <;> simp_all
theorem sizes_like {l m : List Img} {a b : Int} {o p : Bool} (h : likeT l a o m b p = true) (s : ByteArray) : sizeW l s = sizeW m s ∧ sizeH l s = sizeH m s ∧ trueB l s = trueB m s ∧ advR a o = advR b p := by
  obtain ⟨h1, h2, rfl⟩ := likeT_iff.1 h
  obtain ⟨a1, a2, a3⟩ := sizes_pub l s
  obtain ⟨b1, b2, b3⟩ := sizes_pub m s
  rw [h1] at a1 a2 a3
  refine ⟨a1.symm.trans b1, a2.symm.trans b2, a3.symm.trans b3, ?_⟩
  unfold advR
  unfold pubA at h2
  split <;> simp_all
theorem like_pub (l : List Img) (a : Int) (o : Bool) : likeT l a o (l.map pubI) (pubA a o) o = true := by
  rw [likeT_iff, pubA_twice, List.map_map]
  refine ⟨?_, rfl, rfl⟩
  congr 1
  funext i
  exact (pubI_twice i).symm
/-- May it be? -/
def inR (n m : Int) : Bool := decide (0 ≤ n) && decide (n ≤ m)
def mayAt (l : List Img) (k : Nat) : Bool := match l[k]? with | some i => inR i.w 1048576 && (inR i.h 1048576 && (findI l i.s == (k : Int))) | none => true
def mayUpTo (l : List Img) : Nat → Bool
  | 0 => true
  | k + 1 => mayUpTo l k && mayAt l k
def mayT (l : List Img) (a : Int) : Bool := decide (l.length ≤ 20) && (inR a 1024 && mayUpTo l l.length)
theorem mayUpTo_no {l : List Img} {k n : Nat} (h : mayAt l k = false) (hk : k < n) : mayUpTo l n = false := by
  induction n with
  | zero => omega
  | succ n ih =>
    unfold mayUpTo
    by_cases e : k = n
    · subst e; rw [h, Bool.and_false]
    · rw [ih (by omega), Bool.false_and]
end Go.Proofs.Ytibpjfeghpmoiaa
