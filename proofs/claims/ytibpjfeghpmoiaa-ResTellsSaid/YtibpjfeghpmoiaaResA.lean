/- What the landed package res's find, isUpTo, publicFont, publicImage, Advance answer. Conditions: the list lies in memory as it is read. -/
import Derived.Test.YtibpjfeghpmoiaaResMath
import Derived.Test.YtibpjfeghpmoiaaRows
import Derived.Test.YtibpjfeghpmoiaaKit
import Derived.Test.YtibpjfeghpmoiaaBlk
import Derived.WalkKit
import Derived.ProofKit
import Derived.OpenShut
import Derived.IntWalk
import Derived.Lib.Hide
import Derived.Outline
import Derived.WalkLawsBesides
namespace Go.Proofs.Ytibpjfeghpmoiaa
open Go.ChangeShapes Go.WideShapes Go.ChangeAt Go.RowKit
theorem reads_blk {w : World} {B g size n : Nat} {t : TypeId} {cs : Array Value} (h : Blk w g t cs) (hg : g < B) (hn : cs.size = n * size) : Reads w B size (some ⟨g, 0, none⟩) n cs.toList := by
  refine ⟨by simpa using hn, fun _ => ⟨_, rfl, hg, fun j u hu => ?_⟩⟩
  rw [add_zero_, h.cell j, ← hu, Array.getElem?_toList]
/-- The cells of the image number k of a list that lies in memory, as the walk spells them. -/
theorem img_of {w : World} {B n k : Nat} {A : Option Addr} {l : List Img} {r : Img} (h : Reads w B 4 A n (flatI l)) (hk : l[k]? = some r) :
    ∃ ad, A = some ad ∧ ad.block < B ∧ w.cell? (ad.add (k * 4)) = some (.string r.s) ∧ w.cell? ⟨(ad.add (k * 4)).block, (ad.add (k * 4)).off + 1, none⟩ = some (.int .i64 r.w) ∧
      w.cell? ⟨(ad.add (k * 4)).block, (ad.add (k * 4)).off + 2, none⟩ = some (.int .i64 r.h) ∧ w.cell? ⟨(ad.add (k * 4)).block, (ad.add (k * 4)).off + 3, none⟩ = some (.bool r.o) := by
  have hl : l.length = n := by have := h.1; rw [flatI_len] at this; omega
  have hkl := (List.getElem?_eq_some_iff.1 hk).1
  obtain ⟨ad, e, hb, hc⟩ := h.2 (by omega)
  obtain ⟨f0, f1, f2, f3⟩ := flatI_at l k r hk
  refine ⟨ad, e, hb, hc _ _ f0, ?_, ?_, ?_⟩
  · have := hc _ _ f1; rwa [← add_of_add, add_one] at this
  · have := hc _ _ f2; rwa [← add_of_add, add_one] at this
  · have := hc _ _ f3; rwa [← add_of_add, add_one] at this
set_option maxHeartbeats 4000000 in
set_option maxRecDepth 100000 in
theorem find1_any (i : Img) (src : ByteArray) (g : Nat) (w : World) (hc : w.cell? ⟨g, 0, none⟩ = some (.string src)) (hg : g < w.heap.size) :
    Calls Try.prog 25 #[.agg #[.string i.s, .int .i64 i.w, .int .i64 i.h, .bool i.o], .pointer (some ⟨g, 0, none⟩)] w fun e w' => e = .returned (.bool (i.s == src)) ∧ Below w.heap.size w w' := by
  have ng : g ≠ w.heap.size := Nat.ne_of_lt hg
  go_enter Try.func25, Try.ntmps25
  go_wp2
  go_ret
  exact ⟨by rw [beq_toListBytes]; rfl, below_al (Below.refl _ _) _⟩
set_option maxHeartbeats 4000000 in
set_option maxRecDepth 100000 in
theorem index_any (A : Option Addr) (n c : Nat) (l : List Img) (src : ByteArray) (g : Nat) (w : World) (hr : Reads w w.heap.size 4 A n (flatI l)) (hn : n ≤ 4611686018427387904) (hc : w.cell? ⟨g, 0, none⟩ = some (.string src)) (hg : g < w.heap.size) :
    Calls Try.prog 24 #[.slice A n c, .func (.func 25) #[] #[.pointer (some ⟨g, 0, none⟩)]] w fun e w' => e = .returned (.int .i64 (findI l src)) ∧ Below w.heap.size w w' := by
  have hlen : l.length = n := by have := hr.1; rw [flatI_len] at this; omega
  obtain ⟨R, hR⟩ : ∃ R, R = findI l src := ⟨_, rfl⟩
  rw [← hR]
  have HR := Lib.hid hR
  clear hR
  go_enter Try.func24, Try.ntmps24
  go_wp2
  go_loopw [8] (fun i wr => ∃ k : Nat, k ≤ n ∧ i = .int .i64 k ∧ Hid (∀ (j : Nat) (x : Img), j < k → l[j]? = some x → x.s ≠ src) ∧ Below w.heap.size w wr) (fun i _ => n - (intOf i).toNat)
  case atStart => exact ⟨0, Nat.zero_le _, rfl, fun j x h => absurd h (by omega), Below.refl _ _⟩
  case round =>
    obtain ⟨k, hk, rfl, HK, hBr⟩ := hrel
    by_cases hlt : k < n
    · have hkl : k < l.length := by omega
      obtain ⟨r, hrk⟩ : ∃ r, l[k]? = some r := ⟨l[k], List.getElem?_eq_getElem hkl⟩
      obtain ⟨ad, rfl, hab, e0, e1, e2, e3⟩ := img_of (hr.below hBr) hrk
      have c1 := fun w0 (hb0 : Below w.heap.size w w0) => find1_any r src g w0 ((hb0.cell (p := ⟨g, 0, none⟩) hg).trans hc) (by have := hb0.size; omega)
      cases hm : (r.s == src) with
      | true =>
        have hres := (findI_some hrk (bytes_beq.1 hm) HK.out).1
        obtain rfl : R = (k : Int) := HR.out.trans hres
        rw [hm] at c1
        clear hrk hm hres HK
        go_wp2_with (go_at_call 25; (with_reducible refine (c1 _ hBr).mono ?_); rintro e w1 ⟨rfl, hb⟩; have hB1 := below_next hBr hb)
        go_ret
        exact ⟨rfl, hB1⟩
      | false =>
        have hne := bytes_bne.1 hm
        have HK' : Hid (∀ (j : Nat) (x : Img), j < k + 1 → l[j]? = some x → x.s ≠ src) := by
          intro j x hj hx
          by_cases e : j = k
          · subst e
            rw [hrk] at hx
            injection hx with hx
            subst hx
            exact hne
          · exact HK.out j x (by omega) hx
        rw [hm] at c1
        clear hrk hm hne HK
        go_wp2_with (go_at_call 25; (with_reducible refine (c1 _ hBr).mono ?_); rintro e w1 ⟨rfl, hb⟩; have hB1 := below_next hBr hb)
        go_roundw
        case rel => exact ⟨k + 1, by omega, by go_num, HK', hB1⟩
        case measure => simp [intOf]; omega
    · obtain rfl : k = n := by omega
      have hno : findI l src = -1 := (findI_none (fun j x hj => HK.out j x (by have := (List.getElem?_eq_some_iff.1 hj).1; omega) hj)).1
      obtain rfl : R = -1 := HR.out.trans hno
      go_wp2
      go_ret
      exact ⟨rfl, hBr⟩
set_option maxHeartbeats 4000000 in
set_option maxRecDepth 100000 in
theorem find_any (A : Option Addr) (n c : Nat) (l : List Img) (a : Int) (o : Bool) (src : ByteArray) (w : World) (hr : Reads w w.heap.size 4 A n (flatI l)) (hn : n ≤ 4611686018427387904) :
    Calls Try.prog 20 #[.agg #[.slice A n c, .int .i64 a, .bool o], .string src] w fun e w' => e = .returned (.int .i64 (findI l src)) ∧ Below w.heap.size w w' := by
  go_enter Try.func20, Try.ntmps20
  have hB := below_al (below_al (Below.refl w.heap.size w) (.cells #[.slice A n c, .int .i64 a, .bool o] 26)) (.cells #[.string src] 9)
  have hr2 := (hr.below hB).more hB.size
  have hc := (Blk.new (w.alloc (.cells #[.slice A n c, .int .i64 a, .bool o] 26)) 9 #[.string src]).cell 0
  rw [size_al] at hc
  have c1 := index_any A n c l src (w.heap.size + 1) _ hr2 hn hc (by rw [size_al, size_al]; omega)
  go_wp2_with (go_at_call 24; (with_reducible refine c1.mono ?_); rintro e w1 ⟨rfl, hb⟩)
  go_ret
  exact ⟨rfl, below_next hB hb⟩
set_option maxHeartbeats 4000000 in
theorem upto_any (a b : Int) (w : World) : Calls Try.prog 21 #[.int .i64 a, .int .i64 b] w fun e w' => e = .returned (.bool (inR a b)) ∧ w' = w := by
  unfold inR
  by_cases h : 0 ≤ a
  · have e0 : decide (0 ≤ a) = true := decide_eq_true h
    rw [e0, Bool.true_and]
    go_enter Try.func21, Try.ntmps21
    go_wp2
    go_ret
    exact ⟨by congr, rfl⟩
  · have e0 : decide (0 ≤ a) = false := decide_eq_false h
    rw [e0, Bool.false_and]
    go_enter Try.func21, Try.ntmps21
    go_wp2
    go_ret
    exact ⟨rfl, rfl⟩
set_option maxHeartbeats 4000000 in
theorem pubf_any (a : Int) (o : Bool) (w : World) : Calls Try.prog 22 #[.agg #[.int .i64 a, .bool o]] w fun e w' => e = .returned (.agg #[.int .i64 (pubA a o), .bool o]) ∧ Below w.heap.size w w' := by
  cases o
  · show Calls _ _ _ _ fun e w' => e = .returned (.agg #[.int .i64 0, .bool false]) ∧ _
    go_enter Try.func22, Try.ntmps22
    go_wp2
    refine bodyPost_ret (v := .agg #[.int .i64 0, .bool false]) (by simp [results, Try.results22, go_sem]) rfl ⟨rfl, ?_⟩
    repeat (first | exact Below.refl _ _ | apply below_al | (refine below_set ?_ (by simp) _))
  · show Calls _ _ _ _ fun e w' => e = .returned (.agg #[.int .i64 a, .bool true]) ∧ _
    go_enter Try.func22, Try.ntmps22
    go_wp2
    refine bodyPost_ret (v := .agg #[.int .i64 a, .bool true]) (by simp [results, Try.results22, go_sem]) rfl ⟨rfl, ?_⟩
    repeat (first | exact Below.refl _ _ | apply below_al | (refine below_set ?_ (by simp) _))
set_option maxHeartbeats 4000000 in
theorem pubi_any (i : Img) (w : World) : Calls Try.prog 23 #[.agg #[.string i.s, .int .i64 i.w, .int .i64 i.h, .bool i.o]] w fun e w' => e = .returned (.agg #[.string (pubI i).s, .int .i64 (pubI i).w, .int .i64 (pubI i).h, .bool (pubI i).o]) ∧ Below w.heap.size w w' := by
  obtain ⟨s, x, y, o⟩ := i
  cases o
  · show Calls _ _ _ _ fun e w' => e = .returned (.agg #[.string s, .int .i64 0, .int .i64 0, .bool false]) ∧ _
    go_enter Try.func23, Try.ntmps23
    go_wp2
    refine bodyPost_ret (v := .agg #[.string s, .int .i64 0, .int .i64 0, .bool false]) (by simp [results, Try.results23, go_sem]) rfl ⟨rfl, ?_⟩
    repeat (first | exact Below.refl _ _ | apply below_al | (refine below_set ?_ (by simp) _))
  · show Calls _ _ _ _ fun e w' => e = .returned (.agg #[.string s, .int .i64 x, .int .i64 y, .bool true]) ∧ _
    go_enter Try.func23, Try.ntmps23
    go_wp2
    refine bodyPost_ret (v := .agg #[.string s, .int .i64 x, .int .i64 y, .bool true]) (by simp [results, Try.results23, go_sem]) rfl ⟨rfl, ?_⟩
    repeat (first | exact Below.refl _ _ | apply below_al | (refine below_set ?_ (by simp) _))
set_option maxHeartbeats 4000000 in
theorem adv_any (A : Option Addr) (n c : Nat) (a : Int) (o : Bool) (w : World) : Calls Try.prog 14 #[.agg #[.slice A n c, .int .i64 a, .bool o]] w fun e w' => e = .returned (.int .i64 (advR a o)) ∧ Below w.heap.size w w' := by
  cases o
  · show Calls _ _ _ _ fun e w' => e = .returned (.int .i64 32) ∧ _
    go_enter Try.func14, Try.ntmps14
    go_wp2
    go_ret
    exact ⟨rfl, below_al (Below.refl _ _) _⟩
  · show Calls _ _ _ _ fun e w' => e = .returned (.int .i64 a) ∧ _
    go_enter Try.func14, Try.ntmps14
    go_wp2
    go_ret
    exact ⟨rfl, below_al (Below.refl _ _) _⟩
end Go.Proofs.Ytibpjfeghpmoiaa
