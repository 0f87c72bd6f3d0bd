/- What Read answers, the empty selector where there is none. Conditions: the text is not too long. -/
import Derived.Test.YtdfcahdipalmkaaGreatDoorSelG
import Derived.Test.YtdfcahdipalmkaaGreatDoorScanTrimC
import Derived.Test.YtdfcahdipalmkaaGreatDoorScanSplitC
/- selector.Print. Conditions: there are not too many parts, and names are not too long. -/
namespace Go.Proofs.YtdfcahdipalmkaaGreatDoor
open Go.ChangeShapes Go.WideShapes Go.ChangeAt Go.RowKit Go.Shelf
namespace Sel
open Tok
open RowG (Row)
/-- Names are not too long. -/
def ShS (p : Sim) : Prop := p.tag.length ≤ 1000000 ∧ (∀ t ∈ p.ids, t.length ≤ 1000000) ∧ (∀ t ∈ p.classes, t.length ≤ 1000000)
def ShX (x : List Sim) : Prop := ∀ p ∈ x, ShS p
theorem none_any (l : List UInt8) (hl : l.length ≤ 1000000) (w : World) :
    Calls Tryz.prog 163 #[.string (toB l)] w fun e w' => e = .returned (.bool (!nameB l)) ∧ Below w.heap.size w w' := by
  have cn := fun w => name_any l (by simp only [maxLen]; omega) w
  generalize nameB l = N at *
  generalize toB l = T at *
  go_enter Tryz.func163, Tryz.ntmps163
  go_wp2_with (go_at_call 137; (with_reducible refine (cn _).mono ?_); rintro e w1 ⟨rfl, hb⟩)
  go_ret
  exact ⟨rfl, hb⟩
set_option maxHeartbeats 4000000 in
set_option maxRecDepth 100000 in
theorem indexN_any (A : Option Addr) (n c : Nat) (l : List (List UInt8)) (w : World) (hr : Reads w w.heap.size 1 A n (l.flatMap txC)) (hn : n ≤ 1000000) (hl : ∀ t ∈ l, t.length ≤ 1000000) :
    Calls Tryz.prog 186 #[.slice A n c, .func (.func 163) #[] #[]] w fun e w' => (∃ r : Int, e = .returned (.int .i64 r) ∧ decide (0 ≤ r) = !l.all nameB) ∧ Below w.heap.size w w' := by
  have hlen : l.length = n := by have := hr.1; rw [flat_len txC_len] at this; omega
  obtain ⟨R, hR⟩ : ∃ R, R = !l.all nameB := ⟨_, rfl⟩
  rw [← hR]
  have HR := Lib.hid hR
  have HS := Lib.hid hl
  clear hR hl
  go_enter Tryz.func186, Tryz.ntmps186
  go_wp2
  go_loopw [8] (fun i wr => ∃ k : Nat, k ≤ n ∧ i = .int .i64 k ∧ Hid (∀ (j : Nat) (x : List UInt8), j < k → l[j]? = some x → nameB x = true) ∧ Below w.heap.size w wr) (fun i _ => n - (intOf i).toNat)
  case atStart => exact ⟨0, Nat.zero_le _, rfl, fun j x h => absurd h (by omega), Below.refl _ _⟩
  case round =>
    obtain ⟨k, hk, rfl, HK, hBr⟩ := hrel
    by_cases hlt : k < n
    · have hkl : k < l.length := by omega
      obtain ⟨r, hrk⟩ : ∃ r, l[k]? = some r := ⟨l[k], List.getElem?_eq_getElem hkl⟩
      obtain ⟨ad, rfl, hab, e0⟩ := tx_of (hr.below hBr) hrk
      have c1 := fun w0 => none_any r (HS.out r (List.mem_of_getElem? hrk)) w0
      cases hm : nameB r with
      | false =>
        obtain rfl : R = true := by
          rw [HR.out]
          have : l.all nameB = false := by rw [List.all_eq_false]; exact ⟨r, List.mem_of_getElem? hrk, by rw [hm]; decide⟩
          rw [this]; rfl
        have k0 : (0 : Int) ≤ (k : Int) := Int.natCast_nonneg _
        rw [hm] at c1
        clear hrk hm HK
        go_wp2_with (go_at_call 163; (with_reducible refine (c1 _).mono ?_); rintro e w1 ⟨rfl, hb⟩; have hB1 := below_next hBr hb)
        go_ret
        exact ⟨⟨_, rfl, decide_eq_true k0⟩, hB1⟩
      | true =>
        have HK' : Hid (∀ (j : Nat) (x : List UInt8), j < k + 1 → l[j]? = some x → nameB x = true) := by
          intro j x hj hx
          by_cases e : j = k
          · subst e
            rw [hrk] at hx
            injection hx with hx
            subst hx
            exact hm
          · exact HK.out j x (by omega) hx
        rw [hm] at c1
        clear hrk hm HK
        go_wp2_with (go_at_call 163; (with_reducible refine (c1 _).mono ?_); rintro e w1 ⟨rfl, hb⟩; have hB1 := below_next hBr hb)
        go_roundw
        case rel => exact ⟨k + 1, by omega, by go_num, HK', hB1⟩
        case measure => simp [intOf]; omega
    · obtain rfl : k = n := by omega
      obtain rfl : R = false := by
        rw [HR.out]
        have : l.all nameB = true := by
          rw [List.all_eq_true]
          intro x hx
          obtain ⟨j, hj, e⟩ := List.getElem_of_mem hx
          exact HK.out j x (by omega) (by rw [List.getElem?_eq_getElem hj, e])
        rw [this]; rfl
      go_wp2
      go_ret
      exact ⟨⟨-1, rfl, rfl⟩, hBr⟩
set_option maxHeartbeats 4000000 in
set_option maxRecDepth 100000 in
theorem containsN_any (A : Option Addr) (n c : Nat) (l : List (List UInt8)) (w : World) (hr : Reads w w.heap.size 1 A n (l.flatMap txC)) (hn : n ≤ 1000000) (hl : ∀ t ∈ l, t.length ≤ 1000000) :
    Calls Tryz.prog 164 #[.slice A n c, .func (.func 163) #[] #[]] w fun e w' => e = .returned (.bool (!l.all nameB)) ∧ Below w.heap.size w w' := by
  have c1 := indexN_any A n c l w hr hn hl
  generalize (!l.all nameB) = R at *
  clear hr hl
  go_enter Tryz.func164, Tryz.ntmps164
  go_wp2_with (go_at_call 186; (with_reducible refine c1.mono ?_); rintro e w1 ⟨⟨r, rfl, hR⟩, hb⟩)
  go_ret
  exact ⟨rfl, hb⟩
set_option maxRecDepth 100000 in
set_option maxHeartbeats 16000000 in
theorem maySim_any (p : Sim) (iA cA : Option Addr) (ic cc : Nat) (hpf : p.ids.length ≤ 1000000 ∧ p.classes.length ≤ 1000000) (hs : ShS p) (w : World) (h1 : Reads w w.heap.size 1 iA p.ids.length (p.ids.flatMap txC)) (h2 : Reads w w.heap.size 1 cA p.classes.length (p.classes.flatMap txC)) :
    Calls Tryz.prog 115 #[.agg #[.string (toB p.tag), .slice iA p.ids.length ic, .slice cA p.classes.length cc, .bool p.link, .bool p.visited]] w fun e w' => e = .returned (.bool (maySim p)) ∧ Below w.heap.size w w' := by
  have hB := below_al (Below.refl w.heap.size w) (.cells #[.string (toB p.tag), .slice iA p.ids.length ic, .slice cA p.classes.length cc, .bool p.link, .bool p.visited] 70)
  have K := Blk.new w 70 #[.string (toB p.tag), .slice iA p.ids.length ic, .slice cA p.classes.length cc, .bool p.link, .bool p.visited]
  have cn := fun W => none_any p.tag hs.1 W
  have ci := fun W (hb : Below w.heap.size w W) => containsN_any iA p.ids.length ic p.ids W ((h1.below hb).more hb.size) hpf.1 hs.2.1
  have ck := fun W (hb : Below w.heap.size w W) => containsN_any cA p.classes.length cc p.classes W ((h2.below hb).more hb.size) hpf.2 hs.2.2
  have u0 := lit_eq p.tag []
  have cst := fun W' => states_any (toB p.tag) iA cA p.ids.length ic p.classes.length cc p.link p.visited W'
  have hb1 := b1_le p.link
  have hb2 := b1_le p.visited
  obtain ⟨sN, hsN⟩ : ∃ sN, sN = b1 p.link + b1 p.visited := ⟨_, rfl⟩
  have hR : maySim p = ((decide (p.tag = []) || nameB p.tag) && p.ids.all nameB && p.classes.all nameB && decide (p.ids.length + p.classes.length + sN ≤ 8)) := by rw [hsN]; rfl
  rw [hR]
  rw [← hsN] at cst
  have hs2 : sN ≤ 2 := by omega
  obtain ⟨f1, f2⟩ := hpf
  clear hR hsN hb1 hb2 h1 h2 hs
  generalize p.ids.length = a1 at *
  generalize p.classes.length = a2 at *
  generalize toB p.tag = T at *
  generalize decide (p.tag = []) = t0 at *
  generalize nameB p.tag = t1 at *
  generalize p.ids.all nameB = t2 at *
  generalize p.classes.all nameB = t3 at *
  generalize p.link = pl at *
  generalize p.visited = pv at *
  clear p
  have hle : decide ((a1 : Int) + (a2 : Int) + (sN : Int) ≤ 8) = decide (a1 + a2 + sN ≤ 8) := by rw [decide_eq_decide]; omega
  have ww1 : IntKind.i64.wrap ((a1 : Int) + (a2 : Int)) = (a1 : Int) + (a2 : Int) := by rw [IntKind.wrap_i64]; omega
  have ww2 : IntKind.i64.wrap ((a1 : Int) + (a2 : Int) + (sN : Int)) = (a1 : Int) + (a2 : Int) + (sN : Int) := by rw [IntKind.wrap_i64]; omega
  generalize decide (a1 + a2 + sN ≤ 8) = t4 at *
  obtain ⟨x0, x1, x2, x3, x4⟩ := blk5 K
  go_enter Tryz.func115, Tryz.ntmps115
  cases t0 with
  | true =>
    cases t2 with
    | false =>
      go_wp2_with (first
        | (go_at_call 163; (with_reducible refine (cn _).mono ?_); rintro e wa ⟨rfl, hba⟩
           replace hB := below_next hB hba
           replace K := K.next hba
           obtain ⟨x0, x1, x2, x3, x4⟩ := blk5 K)
        | (go_at_call 164; (with_reducible refine (ci _ hB).mono ?_); rintro e wb ⟨rfl, hbb⟩
           replace hB := below_next hB hbb
           replace K := K.next hbb
           obtain ⟨x0, x1, x2, x3, x4⟩ := blk5 K)
        | (go_at_call 164; (with_reducible refine (ck _ hB).mono ?_); rintro e wc ⟨rfl, hbc⟩
           replace hB := below_next hB hbc
           replace K := K.next hbc
           obtain ⟨x0, x1, x2, x3, x4⟩ := blk5 K))
      go_ret
      exact ⟨rfl, hB⟩
    | true =>
    cases t3 with
    | false =>
      go_wp2_with (first
        | (go_at_call 163; (with_reducible refine (cn _).mono ?_); rintro e wa ⟨rfl, hba⟩
           replace hB := below_next hB hba
           replace K := K.next hba
           obtain ⟨x0, x1, x2, x3, x4⟩ := blk5 K)
        | (go_at_call 164; (with_reducible refine (ci _ hB).mono ?_); rintro e wb ⟨rfl, hbb⟩
           replace hB := below_next hB hbb
           replace K := K.next hbb
           obtain ⟨x0, x1, x2, x3, x4⟩ := blk5 K)
        | (go_at_call 164; (with_reducible refine (ck _ hB).mono ?_); rintro e wc ⟨rfl, hbc⟩
           replace hB := below_next hB hbc
           replace K := K.next hbc
           obtain ⟨x0, x1, x2, x3, x4⟩ := blk5 K))
      go_ret
      exact ⟨rfl, hB⟩
    | true =>
    go_upto_region 4 with (first
      | (go_at_call 163; (with_reducible refine (cn _).mono ?_); rintro e wa ⟨rfl, hba⟩
         replace hB := below_next hB hba
         replace K := K.next hba
         obtain ⟨x0, x1, x2, x3, x4⟩ := blk5 K)
      | (go_at_call 164; (with_reducible refine (ci _ hB).mono ?_); rintro e wb ⟨rfl, hbb⟩
         replace hB := below_next hB hbb
         replace K := K.next hbb
         obtain ⟨x0, x1, x2, x3, x4⟩ := blk5 K)
      | (go_at_call 164; (with_reducible refine (ck _ hB).mono ?_); rintro e wc ⟨rfl, hbc⟩
         replace hB := below_next hB hbc
         replace K := K.next hbc
         obtain ⟨x0, x1, x2, x3, x4⟩ := blk5 K))
    have SK : ∀ W', Blk W' w.heap.size 70 #[.string T, .slice iA a1 ic, .slice cA a2 cc, .bool pl, .bool pv] → Below w.heap.size w W' → (W'.cell? ⟨w.heap.size, 0, none⟩ = some (.string T) ∧ W'.cell? ⟨w.heap.size, 1, none⟩ = some (.slice iA a1 ic) ∧ W'.cell? ⟨w.heap.size, 2, none⟩ = some (.slice cA a2 cc) ∧ W'.cell? ⟨w.heap.size, 3, none⟩ = some (.bool pl) ∧ W'.cell? ⟨w.heap.size, 4, none⟩ = some (.bool pv) ∧ Blk W' w.heap.size 70 #[.string T, .slice iA a1 ic, .slice cA a2 cc, .bool pl, .bool pv] ∧ Below w.heap.size w W') := fun W' K B => by
      obtain ⟨x0, x1, x2, x3, x4⟩ := blk5 K
      exact ⟨x0, x1, x2, x3, x4, K, B⟩
    have hS0 := SK wc.drew K.drew hB.drew
    have cst2 : ∀ W', (W'.cell? ⟨w.heap.size, 0, none⟩ = some (.string T) ∧ W'.cell? ⟨w.heap.size, 1, none⟩ = some (.slice iA a1 ic) ∧ W'.cell? ⟨w.heap.size, 2, none⟩ = some (.slice cA a2 cc) ∧ W'.cell? ⟨w.heap.size, 3, none⟩ = some (.bool pl) ∧ W'.cell? ⟨w.heap.size, 4, none⟩ = some (.bool pv) ∧ Blk W' w.heap.size 70 #[.string T, .slice iA a1 ic, .slice cA a2 cc, .bool pl, .bool pv] ∧ Below w.heap.size w W') → Calls Tryz.prog 165 #[.agg #[.string T, .slice iA a1 ic, .slice cA a2 cc, .bool pl, .bool pv]] W' fun e w' => e = .returned (.int .i64 (sN : Int)) ∧ (w'.cell? ⟨w.heap.size, 0, none⟩ = some (.string T) ∧ w'.cell? ⟨w.heap.size, 1, none⟩ = some (.slice iA a1 ic) ∧ w'.cell? ⟨w.heap.size, 2, none⟩ = some (.slice cA a2 cc) ∧ w'.cell? ⟨w.heap.size, 3, none⟩ = some (.bool pl) ∧ w'.cell? ⟨w.heap.size, 4, none⟩ = some (.bool pv) ∧ Blk w' w.heap.size 70 #[.string T, .slice iA a1 ic, .slice cA a2 cc, .bool pl, .bool pv] ∧ Below w.heap.size w w') := fun W' hS => (cst W').mono (by
      rintro e w' ⟨rfl, hb⟩
      exact ⟨rfl, SK w' (hS.2.2.2.2.2.1.next hb) (below_next hS.2.2.2.2.2.2 hb)⟩)
    go_region_held3 (fun W' => (W'.cell? ⟨w.heap.size, 0, none⟩ = some (.string T) ∧ W'.cell? ⟨w.heap.size, 1, none⟩ = some (.slice iA a1 ic) ∧ W'.cell? ⟨w.heap.size, 2, none⟩ = some (.slice cA a2 cc) ∧ W'.cell? ⟨w.heap.size, 3, none⟩ = some (.bool pl) ∧ W'.cell? ⟨w.heap.size, 4, none⟩ = some (.bool pv) ∧ Blk W' w.heap.size 70 #[.string T, .slice iA a1 ic, .slice cA a2 cc, .bool pl, .bool pv] ∧ Below w.heap.size w W'))
      (first | (with_reducible assumption) | exact hS0)
      (first | (go_at_call 165; (with_reducible refine (cst2 _ (by first | assumption | exact hS0)).mono ?_); rintro e wd ⟨rfl, hSd⟩))
    rename_i hHd
    obtain ⟨-, -, -, -, -, -, hBd⟩ := hHd
    clear hS0 cst cst2 SK
    go_wp2
    go_ret
    exact ⟨by first | rfl | (rw [← hle]; rfl), hBd⟩
  | false =>
  cases t1 with
  | false =>
    go_wp2_with (first
      | (go_at_call 163; (with_reducible refine (cn _).mono ?_); rintro e wa ⟨rfl, hba⟩
         replace hB := below_next hB hba
         replace K := K.next hba
         obtain ⟨x0, x1, x2, x3, x4⟩ := blk5 K)
      | (go_at_call 164; (with_reducible refine (ci _ hB).mono ?_); rintro e wb ⟨rfl, hbb⟩
         replace hB := below_next hB hbb
         replace K := K.next hbb
         obtain ⟨x0, x1, x2, x3, x4⟩ := blk5 K)
      | (go_at_call 164; (with_reducible refine (ck _ hB).mono ?_); rintro e wc ⟨rfl, hbc⟩
         replace hB := below_next hB hbc
         replace K := K.next hbc
         obtain ⟨x0, x1, x2, x3, x4⟩ := blk5 K))
    go_ret
    exact ⟨rfl, hB⟩
  | true =>
  cases t2 with
  | false =>
    go_wp2_with (first
      | (go_at_call 163; (with_reducible refine (cn _).mono ?_); rintro e wa ⟨rfl, hba⟩
         replace hB := below_next hB hba
         replace K := K.next hba
         obtain ⟨x0, x1, x2, x3, x4⟩ := blk5 K)
      | (go_at_call 164; (with_reducible refine (ci _ hB).mono ?_); rintro e wb ⟨rfl, hbb⟩
         replace hB := below_next hB hbb
         replace K := K.next hbb
         obtain ⟨x0, x1, x2, x3, x4⟩ := blk5 K)
      | (go_at_call 164; (with_reducible refine (ck _ hB).mono ?_); rintro e wc ⟨rfl, hbc⟩
         replace hB := below_next hB hbc
         replace K := K.next hbc
         obtain ⟨x0, x1, x2, x3, x4⟩ := blk5 K))
    go_ret
    exact ⟨rfl, hB⟩
  | true =>
  cases t3 with
  | false =>
    go_wp2_with (first
      | (go_at_call 163; (with_reducible refine (cn _).mono ?_); rintro e wa ⟨rfl, hba⟩
         replace hB := below_next hB hba
         replace K := K.next hba
         obtain ⟨x0, x1, x2, x3, x4⟩ := blk5 K)
      | (go_at_call 164; (with_reducible refine (ci _ hB).mono ?_); rintro e wb ⟨rfl, hbb⟩
         replace hB := below_next hB hbb
         replace K := K.next hbb
         obtain ⟨x0, x1, x2, x3, x4⟩ := blk5 K)
      | (go_at_call 164; (with_reducible refine (ck _ hB).mono ?_); rintro e wc ⟨rfl, hbc⟩
         replace hB := below_next hB hbc
         replace K := K.next hbc
         obtain ⟨x0, x1, x2, x3, x4⟩ := blk5 K))
    go_ret
    exact ⟨rfl, hB⟩
  | true =>
  go_upto_region 4 with (first
    | (go_at_call 163; (with_reducible refine (cn _).mono ?_); rintro e wa ⟨rfl, hba⟩
       replace hB := below_next hB hba
       replace K := K.next hba
       obtain ⟨x0, x1, x2, x3, x4⟩ := blk5 K)
    | (go_at_call 164; (with_reducible refine (ci _ hB).mono ?_); rintro e wb ⟨rfl, hbb⟩
       replace hB := below_next hB hbb
       replace K := K.next hbb
       obtain ⟨x0, x1, x2, x3, x4⟩ := blk5 K)
    | (go_at_call 164; (with_reducible refine (ck _ hB).mono ?_); rintro e wc ⟨rfl, hbc⟩
       replace hB := below_next hB hbc
       replace K := K.next hbc
       obtain ⟨x0, x1, x2, x3, x4⟩ := blk5 K))
  have SK : ∀ W', Blk W' w.heap.size 70 #[.string T, .slice iA a1 ic, .slice cA a2 cc, .bool pl, .bool pv] → Below w.heap.size w W' → (W'.cell? ⟨w.heap.size, 0, none⟩ = some (.string T) ∧ W'.cell? ⟨w.heap.size, 1, none⟩ = some (.slice iA a1 ic) ∧ W'.cell? ⟨w.heap.size, 2, none⟩ = some (.slice cA a2 cc) ∧ W'.cell? ⟨w.heap.size, 3, none⟩ = some (.bool pl) ∧ W'.cell? ⟨w.heap.size, 4, none⟩ = some (.bool pv) ∧ Blk W' w.heap.size 70 #[.string T, .slice iA a1 ic, .slice cA a2 cc, .bool pl, .bool pv] ∧ Below w.heap.size w W') := fun W' K B => by
    obtain ⟨x0, x1, x2, x3, x4⟩ := blk5 K
    exact ⟨x0, x1, x2, x3, x4, K, B⟩
  have hS0 := SK wc.drew K.drew hB.drew
  have cst2 : ∀ W', (W'.cell? ⟨w.heap.size, 0, none⟩ = some (.string T) ∧ W'.cell? ⟨w.heap.size, 1, none⟩ = some (.slice iA a1 ic) ∧ W'.cell? ⟨w.heap.size, 2, none⟩ = some (.slice cA a2 cc) ∧ W'.cell? ⟨w.heap.size, 3, none⟩ = some (.bool pl) ∧ W'.cell? ⟨w.heap.size, 4, none⟩ = some (.bool pv) ∧ Blk W' w.heap.size 70 #[.string T, .slice iA a1 ic, .slice cA a2 cc, .bool pl, .bool pv] ∧ Below w.heap.size w W') → Calls Tryz.prog 165 #[.agg #[.string T, .slice iA a1 ic, .slice cA a2 cc, .bool pl, .bool pv]] W' fun e w' => e = .returned (.int .i64 (sN : Int)) ∧ (w'.cell? ⟨w.heap.size, 0, none⟩ = some (.string T) ∧ w'.cell? ⟨w.heap.size, 1, none⟩ = some (.slice iA a1 ic) ∧ w'.cell? ⟨w.heap.size, 2, none⟩ = some (.slice cA a2 cc) ∧ w'.cell? ⟨w.heap.size, 3, none⟩ = some (.bool pl) ∧ w'.cell? ⟨w.heap.size, 4, none⟩ = some (.bool pv) ∧ Blk w' w.heap.size 70 #[.string T, .slice iA a1 ic, .slice cA a2 cc, .bool pl, .bool pv] ∧ Below w.heap.size w w') := fun W' hS => (cst W').mono (by
    rintro e w' ⟨rfl, hb⟩
    exact ⟨rfl, SK w' (hS.2.2.2.2.2.1.next hb) (below_next hS.2.2.2.2.2.2 hb)⟩)
  go_region_held3 (fun W' => (W'.cell? ⟨w.heap.size, 0, none⟩ = some (.string T) ∧ W'.cell? ⟨w.heap.size, 1, none⟩ = some (.slice iA a1 ic) ∧ W'.cell? ⟨w.heap.size, 2, none⟩ = some (.slice cA a2 cc) ∧ W'.cell? ⟨w.heap.size, 3, none⟩ = some (.bool pl) ∧ W'.cell? ⟨w.heap.size, 4, none⟩ = some (.bool pv) ∧ Blk W' w.heap.size 70 #[.string T, .slice iA a1 ic, .slice cA a2 cc, .bool pl, .bool pv] ∧ Below w.heap.size w W'))
    (first | (with_reducible assumption) | exact hS0)
    (first | (go_at_call 165; (with_reducible refine (cst2 _ (by first | assumption | exact hS0)).mono ?_); rintro e wd ⟨rfl, hSd⟩))
  rename_i hHd
  obtain ⟨-, -, -, -, -, -, hBd⟩ := hHd
  clear hS0 cst cst2 SK
  go_wp2
  go_ret
  exact ⟨by first | rfl | (rw [← hle]; rfl), hBd⟩
end Sel
end Go.Proofs.YtdfcahdipalmkaaGreatDoor
namespace Go.Proofs.YtdfcahdipalmkaaGreatDoor
open Go.ChangeShapes Go.WideShapes Go.ChangeAt Go.RowKit Go.Shelf
namespace Sel
open Tok
open RowG (Row)
set_option maxRecDepth 100000 in
set_option maxHeartbeats 8000000 in
theorem not1_any (p : Sim) (iA cA : Option Addr) (ic cc : Nat) (hpf : p.ids.length ≤ 1000000 ∧ p.classes.length ≤ 1000000) (hs : ShS p) (w : World) (h1 : Reads w w.heap.size 1 iA p.ids.length (p.ids.flatMap txC)) (h2 : Reads w w.heap.size 1 cA p.classes.length (p.classes.flatMap txC)) :
    Calls Tryz.prog 114 #[.agg #[.string (toB p.tag), .slice iA p.ids.length ic, .slice cA p.classes.length cc, .bool p.link, .bool p.visited]] w fun e w' => e = .returned (.bool (!maySim p)) ∧ Below w.heap.size w w' := by
  have hB := below_al (Below.refl w.heap.size w) (.cells #[.string (toB p.tag), .slice iA p.ids.length ic, .slice cA p.classes.length cc, .bool p.link, .bool p.visited] 70)
  have K := Blk.new w 70 #[.string (toB p.tag), .slice iA p.ids.length ic, .slice cA p.classes.length cc, .bool p.link, .bool p.visited]
  have cm := maySim_any p iA cA ic cc hpf hs _ ((h1.below hB).more hB.size) ((h2.below hB).more hB.size)
  obtain ⟨x0, x1, x2, x3, x4⟩ := blk5 K
  clear h1 h2 hs hpf
  generalize maySim p = R at *
  generalize p.ids.length = a1 at *
  generalize p.classes.length = a2 at *
  generalize toB p.tag = T at *
  generalize p.link = pl at *
  generalize p.visited = pv at *
  go_enter Tryz.func114, Tryz.ntmps114
  go_wp2_with (go_at_call 115; (with_reducible refine cm.mono ?_); rintro e w1 ⟨rfl, hb⟩)
  go_ret
  exact ⟨rfl, below_next hB hb⟩
set_option maxHeartbeats 8000000 in
set_option maxRecDepth 100000 in
theorem indexP_any (A : Option Addr) (n c : Nat) (ps : List Sim) (w : World) (h : SLR w w.heap.size A n ps) (hn : n ≤ 1000000) (hf : Few ps) (hl : ShX ps) :
    Calls Tryz.prog 162 #[.slice A n c, .func (.func 114) #[] #[]] w fun e w' => (∃ r : Int, e = .returned (.int .i64 r) ∧ decide (0 ≤ r) = !ps.all maySim) ∧ Below w.heap.size w w' := by
  have hlen := h.len
  obtain ⟨R, hR⟩ : ∃ R, R = !ps.all maySim := ⟨_, rfl⟩
  rw [← hR]
  have HR := Lib.hid hR
  have HS := Lib.hid hl
  have HF := Lib.hid hf
  clear hR hl hf
  go_enter Tryz.func162, Tryz.ntmps162
  go_wp2
  go_loopw [8] (fun i wr => ∃ k : Nat, k ≤ n ∧ i = .int .i64 k ∧ Hid (∀ (j : Nat) (x : Sim), j < k → ps[j]? = some x → maySim x = true) ∧ Below w.heap.size w wr) (fun i _ => n - (intOf i).toNat)
  case atStart => exact ⟨0, Nat.zero_le _, rfl, fun j x h => absurd h (by omega), Below.refl _ _⟩
  case round =>
    obtain ⟨k, hk, rfl, HK, hBr⟩ := hrel
    by_cases hlt : k < n
    · have hkl : k < ps.length := by omega
      obtain ⟨p, hp⟩ : ∃ p, ps[k]? = some p := ⟨ps[k], List.getElem?_eq_getElem hkl⟩
      obtain ⟨ad, pA, pc, pK, pd, rfl, hb1, e0, e1, e2, e3, e4, r1, r2⟩ := (h.below hBr (Nat.le_refl _)).at_ hp
      have c1 := not1_any p pA pK pc pd (HF.out p (List.mem_of_getElem? hp)) (HS.out p (List.mem_of_getElem? hp)) wr (r1.more hBr.size) (r2.more hBr.size)
      have hki : (k : Int) < (n : Int) := by omega
      have k0 : (0 : Int) ≤ (k : Int) := Int.natCast_nonneg _
      cases hm : maySim p with
      | false =>
        obtain rfl : R = true := by
          rw [HR.out]
          have : ps.all maySim = false := by rw [List.all_eq_false]; exact ⟨p, List.mem_of_getElem? hp, by rw [hm]; decide⟩
          rw [this]; rfl
        rw [hm] at c1
        clear hp hm HK r1 r2
        go_wp2_with (go_at_call 114; (with_reducible refine c1.mono ?_); rintro e w1 ⟨rfl, hb⟩; have hB1 := below_next hBr hb)
        go_ret
        exact ⟨⟨_, rfl, decide_eq_true k0⟩, hB1⟩
      | true =>
        have HK' : Hid (∀ (j : Nat) (x : Sim), j < k + 1 → ps[j]? = some x → maySim x = true) := by
          intro j x hj hx
          by_cases e : j = k
          · subst e
            rw [hp] at hx
            injection hx with hx
            subst hx
            exact hm
          · exact HK.out j x (by omega) hx
        rw [hm] at c1
        clear hp hm HK r1 r2
        go_wp2_with (go_at_call 114; (with_reducible refine c1.mono ?_); rintro e w1 ⟨rfl, hb⟩; have hB1 := below_next hBr hb)
        go_roundw
        case rel => exact ⟨k + 1, by omega, by go_num, HK', hB1⟩
        case measure => simp [intOf]; omega
    · obtain rfl : k = n := by omega
      obtain rfl : R = false := by
        rw [HR.out]
        have : ps.all maySim = true := by
          rw [List.all_eq_true]
          intro x hx
          obtain ⟨j, hj, e⟩ := List.getElem_of_mem hx
          exact HK.out j x (by omega) (by rw [List.getElem?_eq_getElem hj, e])
        rw [this]; rfl
      go_wp2
      go_ret
      exact ⟨⟨-1, rfl, rfl⟩, hBr⟩
set_option maxHeartbeats 4000000 in
set_option maxRecDepth 100000 in
theorem containsP_any (A : Option Addr) (n c : Nat) (ps : List Sim) (w : World) (h : SLR w w.heap.size A n ps) (hn : n ≤ 1000000) (hf : Few ps) (hl : ShX ps) :
    Calls Tryz.prog 113 #[.slice A n c, .func (.func 114) #[] #[]] w fun e w' => e = .returned (.bool (!ps.all maySim)) ∧ Below w.heap.size w w' := by
  have c1 := indexP_any A n c ps w h hn hf hl
  generalize (!ps.all maySim) = R at *
  clear h hl
  go_enter Tryz.func113, Tryz.ntmps113
  go_wp2_with (go_at_call 162; (with_reducible refine c1.mono ?_); rintro e w1 ⟨⟨r, rfl, hR⟩, hb⟩)
  go_ret
  exact ⟨rfl, hb⟩
set_option maxRecDepth 100000 in
set_option maxHeartbeats 8000000 in
theorem may_any (A K : Option Addr) (n c m d : Nat) (x : Slr) (hn : n ≤ 1000000) (hmm : m ≤ 1000000) (hf : Few x.parts) (hs : ShX x.parts) (w : World) (h1 : SLR w w.heap.size A n x.parts) (h2 : BLR w w.heap.size K m x.close) :
    Calls Tryz.prog 76 #[.agg #[.slice A n c, .slice K m d]] w fun e w' => e = .returned (.bool (maySlr x)) ∧ Below w.heap.size w w' := by
  have hB := below_al (Below.refl w.heap.size w) (.cells #[.slice A n c, .slice K m d] 68)
  have cc := containsP_any A n c x.parts _ (h1.below hB hB.size) hn hf hs
  have hl := h1.len
  have hm := h2.len
  have hR : maySlr x = (decide (1 ≤ n) && decide (n ≤ 8) && decide (m + 1 = n) && x.parts.all maySim) := by unfold maySlr; rw [hl, hm]
  rw [hR]
  clear hR hl hm h1 h2 hf hs
  generalize x.parts.all maySim = R at *
  go_enter Tryz.func76, Tryz.ntmps76
  by_cases g1 : 1 ≤ n
  · by_cases g2 : n ≤ 8
    · by_cases g3 : m + 1 = n
      · subst g3
        have w1 : IntKind.i64.wrap (((m + 1 : Nat) : Int) - 1) = ((m + 1 : Nat) : Int) - 1 := by rw [IntKind.wrap_i64]; omega
        rw [decide_eq_true g1, decide_eq_true g2, decide_eq_true rfl]
        go_wp2_with (go_at_call 113; (with_reducible refine cc.mono ?_); rintro e w1 ⟨rfl, hb⟩)
        go_ret
        exact ⟨by cases R <;> rfl, below_next hB hb⟩
      · rw [decide_eq_false g3]
        have hne : ((m : Int) != (n : Int) - 1) = true := by simp; omega
        have w1 : IntKind.i64.wrap ((n : Int) - 1) = (n : Int) - 1 := by rw [IntKind.wrap_i64]; omega
        go_wp2
        go_ret
        exact ⟨by simp, hB⟩
    · rw [decide_eq_false g2]
      go_wp2
      go_ret
      exact ⟨by simp, hB⟩
  · rw [decide_eq_false g1]
    go_wp2
    go_ret
    exact ⟨by simp, hB⟩
end Sel
end Go.Proofs.YtdfcahdipalmkaaGreatDoor
namespace Go.Proofs.YtdfcahdipalmkaaGreatDoor
open Go.ChangeShapes Go.WideShapes Go.ChangeAt Go.RowKit Go.Shelf
namespace Sel
open Tok
open RowG (Row)
theorem take_flat_le (l : List (List UInt8)) (c : UInt8) (k : Nat) : ((l.take k).map (c :: ·)).flatten.length ≤ ((l.map (c :: ·)).flatten).length := by
  have h : l.map (c :: ·) = (l.take k).map (c :: ·) ++ (l.drop k).map (c :: ·) := by rw [← List.map_append, List.take_append_drop]
  rw [h, List.flatten_append, List.length_append]
  omega
theorem len_map_le (l : List (List UInt8)) (c : UInt8) : l.length ≤ ((l.map (c :: ·)).flatten).length := by
  induction l with
  | nil => simp
  | cons a l ih => simp only [List.map_cons, List.flatten_cons, List.length_append, List.length_cons]; omega
theorem raw_eq (p : Sim) : raw p = ((p.tag ++ (p.ids.map (35 :: ·)).flatten) ++ (p.classes.map (46 :: ·)).flatten) ++ (if p.link then linkT else []) ++ (if p.visited then visT else []) := by
  unfold raw ownL
  cases p.link <;> cases p.visited <;> simp [List.append_assoc]
set_option maxRecDepth 100000 in
set_option maxHeartbeats 16000000 in
theorem printS_any (p : Sim) (iA cA : Option Addr) (ic cc : Nat) (hraw : (raw p).length ≤ 400000) (w : World) (h1 : Reads w w.heap.size 1 iA p.ids.length (p.ids.flatMap txC)) (h2 : Reads w w.heap.size 1 cA p.classes.length (p.classes.flatMap txC)) :
    Calls Tryz.prog 123 #[.agg #[.string (toB p.tag), .slice iA p.ids.length ic, .slice cA p.classes.length cc, .bool p.link, .bool p.visited]] w fun e w' => e = .returned (.string (toB (printS p))) ∧ Below w.heap.size w w' := by
  obtain ⟨tag, ids, classes, link, visited⟩ := p
  simp only at *
  have hB := below_al (Below.refl w.heap.size w) (.cells #[.string (toB tag), .slice iA ids.length ic, .slice cA classes.length cc, .bool link, .bool visited] 70)
  have K := Blk.new w 70 #[.string (toB tag), .slice iA ids.length ic, .slice cA classes.length cc, .bool link, .bool visited]
  have r1 := h1.below hB
  have r2 := h2.below hB
  obtain ⟨x0, x1, x2, x3, x4⟩ := blk5 K
  have hraw' := hraw
  rw [raw_eq] at hraw'
  simp only [List.length_append] at hraw'
  have HBDids : Hid (∀ k, (tag ++ ((ids.take k).map (35 :: ·)).flatten).length ≤ 400000) := by
    intro k
    have := take_flat_le ids 35 k
    rw [List.length_append]
    omega
  have HBDclasses : Hid (∀ k, ((tag ++ (ids.map (35 :: ·)).flatten) ++ ((classes.take k).map (46 :: ·)).flatten).length ≤ 400000) := by
    intro k
    have := take_flat_le classes 46 k
    rw [List.length_append, List.length_append]
    omega
  have HP : Hid (printS ⟨tag, ids, classes, link, visited⟩ = if raw ⟨tag, ids, classes, link, visited⟩ = [] then [42] else raw ⟨tag, ids, classes, link, visited⟩) := rfl
  have HRAW := Lib.hid (raw_eq ⟨tag, ids, classes, link, visited⟩)
  simp only at HRAW
  have hi6 : ids.length ≤ 400000 := by
    have := len_map_le ids 35
    omega
  have hc6 : classes.length ≤ 400000 := by
    have := len_map_le classes 46
    omega
  have hzT : (toB tag).size ≤ 400000 := by rw [toB_size]; omega
  clear hraw hraw' K h1 h2
  generalize HLids : ids.length = ni at *
  generalize HLclasses : classes.length = nc at *
  replace HLids : Hid (ids.length = ni) := HLids
  replace HLclasses : Hid (classes.length = nc) := HLclasses
  have e3 := lit_eq (raw ⟨tag, ids, classes, link, visited⟩) []
  have HE3 := Lib.hid e3
  clear e3
  go_enter Tryz.func123, Tryz.ntmps123
  go_wp2
  generalize w.alloc (.cells #[.string (toB tag), .slice iA ni ic, .slice cA nc cc, .bool link, .bool visited] 70) = W at *
  go_loopw [3, 13] (fun sv iv wr => ∃ k : Nat, k ≤ ni ∧ iv = .int .i64 k ∧ sv = .string (toB (tag ++ ((ids.take k).map (35 :: ·)).flatten)) ∧ W = wr) (fun _ iv _ => ni - (intOf iv).toNat)
  case atStart => exact ⟨0, Nat.zero_le _, rfl, by rw [List.take_zero]; simp, rfl⟩
  case round =>
    obtain ⟨k, hk, rfl, rfl, rfl⟩ := hrel
    by_cases hlt : k < ni
    · obtain ⟨x, hx⟩ : ∃ x, ids[k]? = some x := ⟨_, List.getElem?_eq_getElem (by rw [HLids.out]; exact hlt)⟩
      obtain ⟨ad, rfl, -, e0⟩ := tx_of r1 hx
      have hki : (k : Int) < (ni : Int) := by omega
      have k0 : (0 : Int) ≤ (k : Int) := Int.natCast_nonneg _
      have hnx : tag ++ ((ids.take (k + 1)).map (35 :: ·)).flatten = (tag ++ ((ids.take k).map (35 :: ·)).flatten) ++ (35 :: x) := by
        rw [List.take_add_one, hx]
        simp
      have hbd := HBDids.out (k + 1)
      rw [hnx] at hbd
      have hlen : (tag ++ ((ids.take k).map (35 :: ·)).flatten).length + (1 + x.length) ≤ 500000 := by
        rw [List.length_append, List.length_cons] at hbd
        omega
      have HNX := Lib.hid hnx
      clear hx hnx hbd
      generalize tag ++ ((ids.take k).map (35 :: ·)).flatten = acc at *
      have zS : (toB acc).size = acc.length := toB_size _
      have zX : (toB x).size = x.length := toB_size _
      have HC : Hid (toB acc ++ (ByteArray.mk #[35] ++ toB x) = toB (acc ++ (35 :: x))) := by
        show _ = _
        rw [show (ByteArray.mk #[35] : ByteArray) = toB [35] from rfl, toB_cat, toB_cat]
        rfl
      generalize toB acc = S at *
      generalize toB x = X at *
      go_wp2
      go_roundw
      case rel => exact ⟨k + 1, by omega, by go_num, by rw [HNX.out, ← HC.out], by first | rfl | trivial⟩
      case measure => simp [intOf]; omega
    · obtain rfl : k = ni := by omega
      have hfull : ids.take k = ids := List.take_of_length_le (by rw [HLids.out]; exact Nat.le_refl _)
      rw [hfull]
      go_wp2
      go_loopw [3, 25] (fun sv iv wr => ∃ j : Nat, j ≤ nc ∧ iv = .int .i64 j ∧ sv = .string (toB ((tag ++ (ids.map (35 :: ·)).flatten) ++ ((classes.take j).map (46 :: ·)).flatten)) ∧ W = wr) (fun _ iv _ => nc - (intOf iv).toNat)
      case atStart => exact ⟨0, Nat.zero_le _, rfl, by rw [List.take_zero]; simp, rfl⟩
      case round =>
        obtain ⟨j, hj, rfl, rfl, rfl⟩ := hrel
        by_cases hlt : j < nc
        · obtain ⟨x, hx⟩ : ∃ x, classes[j]? = some x := ⟨_, List.getElem?_eq_getElem (by rw [HLclasses.out]; exact hlt)⟩
          obtain ⟨ad, rfl, -, e0⟩ := tx_of r2 hx
          have hki : (j : Int) < (nc : Int) := by omega
          have k0 : (0 : Int) ≤ (j : Int) := Int.natCast_nonneg _
          have hnx : (tag ++ (ids.map (35 :: ·)).flatten) ++ ((classes.take (j + 1)).map (46 :: ·)).flatten = ((tag ++ (ids.map (35 :: ·)).flatten) ++ ((classes.take j).map (46 :: ·)).flatten) ++ (46 :: x) := by
            rw [List.take_add_one, hx]
            simp
          have hbd := HBDclasses.out (j + 1)
          rw [hnx] at hbd
          have hlen : ((tag ++ (ids.map (35 :: ·)).flatten) ++ ((classes.take j).map (46 :: ·)).flatten).length + (1 + x.length) ≤ 500000 := by
            rw [List.length_append, List.length_cons] at hbd
            omega
          have HNX := Lib.hid hnx
          clear hx hnx hbd
          generalize (tag ++ (ids.map (35 :: ·)).flatten) ++ ((classes.take j).map (46 :: ·)).flatten = acc at *
          have zS : (toB acc).size = acc.length := toB_size _
          have zX : (toB x).size = x.length := toB_size _
          have HC : Hid (toB acc ++ (ByteArray.mk #[46] ++ toB x) = toB (acc ++ (46 :: x))) := by
            show _ = _
            rw [show (ByteArray.mk #[46] : ByteArray) = toB [46] from rfl, toB_cat, toB_cat]
            rfl
          generalize toB acc = S at *
          generalize toB x = X at *
          go_wp2
          go_roundw
          case rel => exact ⟨j + 1, by omega, by go_num, by rw [HNX.out, ← HC.out], by first | rfl | trivial⟩
          case measure => simp [intOf]; omega
        · obtain rfl : j = nc := by omega
          have hfull2 : classes.take j = classes := List.take_of_length_le (by rw [HLclasses.out]; exact Nat.le_refl _)
          have hln := HBDclasses.out j
          rw [hfull2] at hln ⊢
          have HR2 := HRAW
          generalize (tag ++ (ids.map (35 :: ·)).flatten) ++ (classes.map (46 :: ·)).flatten = acc at *
          have zS : (toB acc).size = acc.length := toB_size _
          generalize raw ⟨tag, ids, classes, link, visited⟩ = R at *
          cases link with
          | true =>
            cases visited with
            | true =>
              have hR : R = acc ++ linkT ++ visT := HR2.out
              have hv : ((toB acc ++ ByteArray.mk #[58, 108, 105, 110, 107]) ++ ByteArray.mk #[58, 118, 105, 115, 105, 116, 101, 100]) = toB R := by
                rw [hR]
                rw [show (ByteArray.mk #[58, 108, 105, 110, 107] : ByteArray) = toB linkT from rfl]
                rw [show (ByteArray.mk #[58, 118, 105, 115, 105, 116, 101, 100] : ByteArray) = toB visT from rfl]
                simp only [toB_cat]
              have he := HE3.out
              rw [← hv] at he
              have HV := Lib.hid hv
              have HPP := HP
              clear HE3 HP hR HRAW HR2 hv
              by_cases hnil : R = []
              · rw [decide_eq_true hnil] at he
                have hps : printS ⟨tag, ids, classes, true, true⟩ = [42] := by rw [HPP.out, if_pos hnil]
                clear HPP HV hnil
                generalize toB acc = S at *
                go_wp2
                go_ret
                exact ⟨by rw [hps]; rfl, hB⟩
              · rw [decide_eq_false hnil] at he
                have hps : printS ⟨tag, ids, classes, true, true⟩ = R := by rw [HPP.out, if_neg hnil]
                clear HPP hnil
                generalize toB acc = S at *
                go_wp2
                go_ret
                exact ⟨by rw [hps, ← HV.out]; rfl, hB⟩
            | false =>
              have hR : R = acc ++ linkT ++ [] := HR2.out
              have hv : (toB acc ++ ByteArray.mk #[58, 108, 105, 110, 107]) = toB R := by
                rw [hR]
                rw [show (ByteArray.mk #[58, 108, 105, 110, 107] : ByteArray) = toB linkT from rfl]
                simp only [toB_cat, List.append_nil]
              have he := HE3.out
              rw [← hv] at he
              have HV := Lib.hid hv
              have HPP := HP
              clear HE3 HP hR HRAW HR2 hv
              by_cases hnil : R = []
              · rw [decide_eq_true hnil] at he
                have hps : printS ⟨tag, ids, classes, true, false⟩ = [42] := by rw [HPP.out, if_pos hnil]
                clear HPP HV hnil
                generalize toB acc = S at *
                go_wp2
                go_ret
                exact ⟨by rw [hps]; rfl, hB⟩
              · rw [decide_eq_false hnil] at he
                have hps : printS ⟨tag, ids, classes, true, false⟩ = R := by rw [HPP.out, if_neg hnil]
                clear HPP hnil
                generalize toB acc = S at *
                go_wp2
                go_ret
                exact ⟨by rw [hps, ← HV.out]; rfl, hB⟩
          | false =>
            cases visited with
            | true =>
              have hR : R = acc ++ [] ++ visT := HR2.out
              have hv : (toB acc ++ ByteArray.mk #[58, 118, 105, 115, 105, 116, 101, 100]) = toB R := by
                rw [hR]
                rw [show (ByteArray.mk #[58, 118, 105, 115, 105, 116, 101, 100] : ByteArray) = toB visT from rfl]
                simp only [toB_cat, List.append_nil]
              have he := HE3.out
              rw [← hv] at he
              have HV := Lib.hid hv
              have HPP := HP
              clear HE3 HP hR HRAW HR2 hv
              by_cases hnil : R = []
              · rw [decide_eq_true hnil] at he
                have hps : printS ⟨tag, ids, classes, false, true⟩ = [42] := by rw [HPP.out, if_pos hnil]
                clear HPP HV hnil
                generalize toB acc = S at *
                go_wp2
                go_ret
                exact ⟨by rw [hps]; rfl, hB⟩
              · rw [decide_eq_false hnil] at he
                have hps : printS ⟨tag, ids, classes, false, true⟩ = R := by rw [HPP.out, if_neg hnil]
                clear HPP hnil
                generalize toB acc = S at *
                go_wp2
                go_ret
                exact ⟨by rw [hps, ← HV.out]; rfl, hB⟩
            | false =>
              have hR : R = acc ++ [] ++ [] := HR2.out
              have hv : toB acc = toB R := by
                rw [hR]
                simp only [List.append_nil]
              have he := HE3.out
              rw [← hv] at he
              have HV := Lib.hid hv
              have HPP := HP
              clear HE3 HP hR HRAW HR2 hv
              by_cases hnil : R = []
              · rw [decide_eq_true hnil] at he
                have hps : printS ⟨tag, ids, classes, false, false⟩ = [42] := by rw [HPP.out, if_pos hnil]
                clear HPP HV hnil
                generalize toB acc = S at *
                go_wp2
                go_ret
                exact ⟨by rw [hps]; rfl, hB⟩
              · rw [decide_eq_false hnil] at he
                have hps : printS ⟨tag, ids, classes, false, false⟩ = R := by rw [HPP.out, if_neg hnil]
                clear HPP hnil
                generalize toB acc = S at *
                go_wp2
                go_ret
                exact ⟨by rw [hps, ← HV.out]; rfl, hB⟩
end Sel
end Go.Proofs.YtdfcahdipalmkaaGreatDoor
/- selector.Print. Conditions: there are not too many parts, and names are not too long. -/
namespace Go.Proofs.YtdfcahdipalmkaaGreatDoor
open Go.ChangeShapes Go.WideShapes Go.ChangeAt Go.RowKit Go.Shelf
namespace Sel
open Tok
open RowG (Row)
theorem names_len {l : List (List UInt8)} (c : UInt8) (h : l.all nameB = true) : ((l.map (c :: ·)).flatten).length ≤ 21 * l.length := by
  induction l with
  | nil => simp
  | cons a l ih =>
    rw [List.all_cons, Bool.and_eq_true] at h
    have := (nameB_len h.1).2
    have := ih h.2
    simp only [List.map_cons, List.flatten_cons, List.length_append, List.length_cons]
    omega
theorem raw_len {p : Sim} (h : maySim p = true) : (raw p).length ≤ 300 := by
  unfold maySim at h
  simp only [Bool.and_eq_true, Bool.or_eq_true, decide_eq_true_eq] at h
  obtain ⟨⟨⟨h1, h2⟩, h3⟩, h4⟩ := h
  have ht : p.tag.length ≤ 20 := by
    rcases h1 with e | e
    · rw [e]; decide
    · exact (nameB_len e).2
  have := names_len 35 h2
  have := names_len 46 h3
  have hl : (if p.link then linkT else []).length ≤ 5 := by cases p.link <;> decide
  have hv : (if p.visited then visT else []).length ≤ 8 := by cases p.visited <;> decide
  rw [raw_eq]
  simp only [List.length_append]
  omega
theorem printS_len {p : Sim} (h : maySim p = true) : (printS p).length ≤ 300 := by
  unfold printS
  split
  · decide
  · exact raw_len h
theorem sep_len (c : Bool) : (sep c).length ≤ 3 := by cases c <;> decide
theorem join_snoc : ∀ (ps : List Sim) (p : Sim) (cs : List Bool) (c : Bool), cs[ps.length]? = some c → joinL (ps ++ [p]) cs = joinL ps cs ++ (sep c ++ printS p) := by
  intro ps
  induction ps with
  | nil =>
    intro p cs c h
    cases cs with
    | nil => simp at h
    | cons a cs =>
      simp only [List.length_nil, List.getElem?_cons_zero, Option.some.injEq] at h
      subst h
      simp [joinL]
  | cons q ps ih =>
    intro p cs c h
    cases cs with
    | nil => simp at h
    | cons a cs =>
      simp only [List.length_cons, List.getElem?_cons_succ] at h
      simp only [List.cons_append, joinL, ih p cs c h, List.append_assoc]
theorem text_snoc {ps : List Sim} {k : Nat} {p : Sim} {cs : List Bool} {c : Bool} (hp : ps[k + 1]? = some p) (hc : cs[k]? = some c) : textL (ps.take (k + 1 + 1)) cs = (textL (ps.take (k + 1)) cs ++ sep c) ++ printS p := by
  have hlt := (List.getElem?_eq_some_iff.1 hp).1
  cases ps with
  | nil => simp at hp
  | cons q ps =>
    simp only [List.getElem?_cons_succ] at hp
    rw [List.take_succ_cons, List.take_succ_cons, textL, textL, List.take_add_one, hp]
    have hl : (ps.take k).length = k := by rw [List.length_take]; simp only [List.length_cons] at hlt; omega
    simp only [Option.toList_some]
    rw [join_snoc _ _ _ c (by rw [hl]; exact hc)]
    simp only [List.append_assoc]
theorem text_one {ps : List Sim} {p : Sim} {cs : List Bool} (hp : ps[0]? = some p) : textL (ps.take (0 + 1)) cs = printS p := by
  cases ps with
  | nil => simp at hp
  | cons q ps =>
    simp only [List.getElem?_cons_zero, Option.some.injEq] at hp
    subst hp
    rw [List.take_succ_cons, List.take_zero, textL]
    cases cs <;> simp [joinL]
theorem text_len {ps : List Sim} {cs : List Bool} (h : ps.all maySim = true) (hcl : cs.length + 1 = ps.length) : ∀ k, k ≤ ps.length → (textL (ps.take k) cs).length ≤ 310 * k := by
  intro k
  induction k with
  | zero => intro _; simp [textL]
  | succ k ih =>
    intro hk
    have h2 := ih (by omega)
    have hp : ps[k]? = some ps[k] := List.getElem?_eq_getElem (by omega)
    have hm := printS_len (List.all_eq_true.1 h _ (List.mem_of_getElem? hp))
    cases k with
    | zero =>
      rw [text_one hp]
      omega
    | succ k =>
      have hc : cs[k]? = some cs[k] := List.getElem?_eq_getElem (by omega)
      have := sep_len cs[k]
      rw [text_snoc hp hc, List.length_append, List.length_append]
      omega
def BldS (w : World) (B b : Nat) (l : List UInt8) : Prop := Lib.IsBuilderF 93 5 B b (Lib.byteCells l) w
theorem write_k (g : Nat) (l : List UInt8) (s : ByteArray) (w : World) (h : BldS w g g l) (hlen : l.length + s.size ≤ 1000000) (hg : g ≤ w.heap.size) :
    Calls Tryz.prog 40 #[.pointer (some ⟨g, 0, none⟩), .string s] w fun e w' => e = .returned (.tuple #[.int .i64 s.size, .nilIface]) ∧ BldS w' g g (l ++ s.data.toList) ∧ Below g w w' ∧ Lib.OthersKept 5 (some g) w w' :=
  (Any.Builder_WriteString_k Tryz.lays166 Tryz.Builder_Extra_B g g (Lib.byteCells l) s w h (by rw [Lib.byteCells_length]; omega) hg).mono (by
    rintro e w' ⟨h1, h2, h3, h4⟩
    exact ⟨h1, Or.inr (by rw [Lib.byteCells_append]; exact h2), h3, h4⟩)
theorem string_k (g : Nat) (l : List UInt8) (w : World) (h : BldS w g g l) (hg : g ≤ w.heap.size) :
    Calls Tryz.prog 42 #[.pointer (some ⟨g, 0, none⟩)] w fun e w' => e = .returned (.string (toB l)) ∧ Below g w w' :=
  (Tryz.Builder_String_any_k g g l w h hg).mono (by rintro e w' ⟨h1, -, h2, -⟩; exact ⟨h1, h2⟩)
theorem blk_kept {w w' : World} {s g : Nat} {cs : Array Value} (h : Blk w s 70 cs) (hk : Lib.OthersKept 5 (some g) w w') (hne : s ≠ g) : Blk w' s 70 cs :=
  hk s _ h (fun e => hne (Option.some.inj e)) (fun c fz e => by
    injection e with _ e2
    exact absurd e2 (by decide))
theorem BldS.lt {w : World} {B g : Nat} {l : List UInt8} (h : BldS w B g l) : g < w.heap.size := h.elim (fun x => x.lt) (fun x => x.lt)
theorem at_next {w w' : World} {B g : Nat} {p : Value} {l : List Value} (h : Lib.BuilderAtF 93 5 B g p l w) (hb : Below w.heap.size w w') : Lib.BuilderAtF 93 5 B g p l w' := by
  have hlt := h.lt
  obtain ⟨hB, v, h1, h2, h3⟩ := h
  refine ⟨hB, v, (hb.block g hlt).trans h1, ⟨h2.1, ?_⟩, h3⟩
  rcases h2.2 with hn | ⟨g', cap, cur, fz, hv, hbg, hg, rest⟩
  · exact .inl hn
  · exact .inr ⟨g', cap, cur, fz, hv, hbg, (hb.block g' (Array.getElem?_eq_some_iff.1 hg).1).trans hg, rest⟩
theorem BldS.next {w w' : World} {B g : Nat} {l : List UInt8} (h : BldS w B g l) (hb : Below w.heap.size w w') : BldS w' B g l := h.elim (fun x => .inl (at_next x hb)) (fun x => .inr (at_next x hb))
end Sel
end Go.Proofs.YtdfcahdipalmkaaGreatDoor
namespace Go.Proofs.YtdfcahdipalmkaaGreatDoor
open Go.ChangeShapes Go.WideShapes Go.ChangeAt Go.RowKit Go.Shelf
namespace Sel
open Tok
open RowG (Row)
set_option maxRecDepth 100000 in
set_option maxHeartbeats 16000000 in
theorem print_any (A K : Option Addr) (n c m d : Nat) (x : Slr) (hn : n ≤ 1000000) (hmm : m ≤ 1000000) (hf : Few x.parts) (hs : ShX x.parts) (w : World) (h1 : SLR w w.heap.size A n x.parts) (h2 : BLR w w.heap.size K m x.close) :
    Calls Tryz.prog 87 #[.agg #[.slice A n c, .slice K m d]] w fun e w' => e = .returned (.string (toB (printP x))) ∧ Below w.heap.size w w' := by
  have hB := below_al (Below.refl w.heap.size w) (.cells #[.slice A n c, .slice K m d] 68)
  have K0 := Blk.new w 68 #[.slice A n c, .slice K m d]
  obtain ⟨z0, z1⟩ := blk2 K0
  have cm := may_any A K n c m d x hn hmm hf hs _ (h1.below hB hB.size) (h2.below hB hB.size)
  have hl := h1.len
  have hm := h2.len
  have HP : Hid (printP x = if maySlr x then textL x.parts x.close else []) := rfl
  by_cases hmay : maySlr x = true
  · rw [hmay] at cm
    obtain ⟨y1, y2, y3, y4⟩ := maySlr_of hmay
    have HY := Lib.hid y4
    have HTL := Lib.hid (text_len y4 y3)
    have HX : Hid (printP x = textL x.parts x.close) := by show _ = _; rw [HP.out, if_pos hmay]
    clear y4 hmay HP
    obtain ⟨ps, bs⟩ := x
    simp only at *
    have HL := Lib.hid hl
    have HM := Lib.hid hm
    have HF := Lib.hid hf
    rw [hl] at y1 y2 y3
    rw [hm] at y3
    clear hl hm hf
    go_enter Tryz.func87, Tryz.ntmps87
    go_wp2_with (go_at_call 76; (with_reducible refine cm.mono ?_); rintro e w1 ⟨rfl, hb1⟩
                 have K1 := K0.next hb1
                 obtain ⟨q0, q1⟩ := blk2 K1
                 have hB1 := below_next hB hb1
                 have hF0 : BldS (w1.alloc (.cells #[.pointer none, .slice none 0 0] 93)) w1.heap.size w1.heap.size [] := Lib.IsBuilderF.of (Lib.fresh_isBuilder 93 5 w1)
                 have hA0 := below_al (Below.refl w1.heap.size w1) (.cells #[.pointer none, .slice none 0 0] 93)
                 obtain ⟨v0, v1⟩ := blk2 (K1.next hA0))
    have h1' := h1.below hB1 hB1.size
    have h2' := h2.below hB1 hB1.size
    have hlt1 := K1.lt
    clear h1 h2 cm hb1 hB K0 z0 z1
    generalize w1.alloc (.cells #[.pointer none, .slice none 0 0] 93) = w2 at *
    go_loopw [12] (fun iv wr => ∃ (k : Nat) (acc : List UInt8), k ≤ n ∧ iv = .int .i64 k ∧ Hid (acc = textL (ps.take k) bs) ∧ BldS wr w1.heap.size w1.heap.size acc ∧ Below w1.heap.size w1 wr) (fun iv _ => n - (intOf iv).toNat)
    case atStart => exact ⟨0, _, Nat.zero_le _, rfl, by show _ = _; rw [List.take_zero]; rfl, hF0, hA0⟩
    case round =>
      obtain ⟨k, acc, hk, rfl, HA, hI, hBr⟩ := hrel
      clear hF0 hA0
      by_cases hlt : k < n
      · obtain ⟨p, hp⟩ : ∃ p, ps[k]? = some p := ⟨_, List.getElem?_eq_getElem (by rw [HL.out]; exact hlt)⟩
        obtain ⟨ad, iA, ic, cA, cc, rfl, hb, e0, e1, e2, e3, e4, r1, r2⟩ := (h1'.below hBr (Nat.le_refl _)).at_ hp
        have hms : maySim p = true := List.all_eq_true.1 HY.out _ (List.mem_of_getElem? hp)
        have hraw := raw_len hms
        have hps := printS_len hms
        have hacc : acc.length ≤ 2480 := by
          rw [HA.out]
          have := HTL.out k (by rw [HL.out]; exact hk)
          omega
        have hki : (k : Int) < (n : Int) := by omega
        have k0 : (0 : Int) ≤ (k : Int) := Int.natCast_nonneg _
        have KW := K1.next hBr
        obtain ⟨u0, u1⟩ := blk2 KW
        have KB := Blk.new wr 70 #[.string (toB p.tag), .slice iA p.ids.length ic, .slice cA p.classes.length cc, .bool p.link, .bool p.visited]
        have hBA := below_al hBr (.cells #[.string (toB p.tag), .slice iA p.ids.length ic, .slice cA p.classes.length cc, .bool p.link, .bool p.visited] 70)
        have hgs := hBr.size
        have hne : wr.heap.size ≠ w1.heap.size := by have := hI.lt; omega
        have hIA : BldS (wr.alloc (.cells #[.string (toB p.tag), .slice iA p.ids.length ic, .slice cA p.classes.length cc, .bool p.link, .bool p.visited] 70)) w1.heap.size w1.heap.size acc := Lib.IsBuilderF.alloc hI _
        have hAA := (below_al (Below.refl wr.heap.size wr) (.cells #[.string (toB p.tag), .slice iA p.ids.length ic, .slice cA p.classes.length cc, .bool p.link, .bool p.visited] 70)).mono hgs
        have cp := fun W (hb : Below w1.heap.size wr W) => printS_any p iA cA ic cc (by omega) W ((r1.below hb).more (Nat.le_trans hgs hb.size)) ((r2.below hb).more (Nat.le_trans hgs hb.size))
        obtain ⟨x0, x1, x2, x3, x4⟩ := blk5 KB
        obtain ⟨u0, u1⟩ := blk2 (KW.alloc (.cells #[.string (toB p.tag), .slice iA p.ids.length ic, .slice cA p.classes.length cc, .bool p.link, .bool p.visited] 70))
        by_cases hz : k = 0
        · have HN : Hid (acc ++ printS p = textL (ps.take (k + 1)) bs) := by
            show _ = _
            rw [hz] at hp ⊢
            rw [text_one hp, HA.out, hz]
            rfl
          have hz1 : ¬(0 < k) := by omega
          have hz2 : ¬((0 : Int) < (k : Int)) := by omega
          clear hp HA hz
          go_wp2_with (first
            | (go_at_call 123; (with_reducible refine (cp _ hAA).mono ?_); rintro e w5 ⟨rfl, hb5⟩
               have hI5 := hIA.next hb5
               have hB5 := below_next hBA hb5)
            | (go_at_call 40; (with_reducible refine (write_k _ acc (toB (printS p)) w5 hI5 (by rw [toB_size]; omega) hB5.size).mono ?_); rintro e w6 ⟨rfl, hI6, hb6, -⟩))
          go_roundw
          case rel => exact ⟨k + 1, acc ++ printS p, by omega, by go_num, HN, hI6, hB5.trans hb6⟩
          case measure => simp [intOf]; omega
        · obtain ⟨j, hj⟩ : ∃ j, k = j + 1 := ⟨k - 1, by omega⟩
          obtain ⟨b, hbk⟩ : ∃ b, bs[j]? = some b := ⟨_, List.getElem?_eq_getElem (by rw [HM.out]; omega)⟩
          obtain ⟨ad2, rfl, hb2, g0⟩ := bo_of (h2'.below hBA (Nat.le_refl _)) hbk
          have w9 : (k : Int) - 1 = (j : Int) := by omega
          have hz1 : (0 : Int) < (k : Int) := by omega
          have hz2 : 0 < k := by omega
          have hjm : (j : Int) < (m : Int) := by omega
          have hj0 : (0 : Int) ≤ (j : Int) := Int.natCast_nonneg _
          have HN0 : Hid ((acc ++ sep b) ++ printS p = textL (ps.take (k + 1)) bs) := by
            show _ = _
            rw [hj] at hp ⊢
            rw [text_snoc hp hbk, HA.out, hj]
          cases b with
          | true =>
            have HN : Hid ((acc ++ [32, 62, 32]) ++ printS p = textL (ps.take (k + 1)) bs) := HN0
            clear hp HA HN0 hbk hj hz
            have cw : ∀ W (h : BldS W w1.heap.size w1.heap.size acc) (hz : w1.heap.size ≤ W.heap.size), Calls Tryz.prog 40 #[.pointer (some ⟨w1.heap.size, 0, none⟩), .string (ByteArray.mk #[32, 62, 32])] W fun e w' => e = .returned (.tuple #[.int .i64 ((ByteArray.mk #[32, 62, 32] : ByteArray).size : Int), .nilIface]) ∧ BldS w' w1.heap.size w1.heap.size (acc ++ [32, 62, 32]) ∧ Below w1.heap.size W w' ∧ Lib.OthersKept 5 (some w1.heap.size) W w' := fun W h hz => write_k _ acc _ W h (by show acc.length + 3 ≤ 1000000; omega) hz
            go_wp2_with (first
              | (go_at_call 40; (with_reducible refine (cw _ hIA hBA.size).mono ?_); rintro e w4 ⟨rfl, hI4, hb4, hk4⟩
                 have hB4 := hBA.trans hb4
                 have hA4 := hAA.trans hb4
                 obtain ⟨x0, x1, x2, x3, x4⟩ := blk5 (blk_kept KB hk4 hne)
                 clear hb4)
              | (go_at_call 123; (with_reducible refine (cp _ hA4).mono ?_); rintro e w5 ⟨rfl, hb5⟩
                 have hI5 := hI4.next hb5
                 have hB5 := below_next hB4 hb5)
              | (go_at_call 40; (with_reducible refine (write_k _ (acc ++ [32, 62, 32]) (toB (printS p)) w5 hI5 (by rw [toB_size, List.length_append]; simp only [List.length_cons, List.length_nil]; omega) hB5.size).mono ?_); rintro e w6 ⟨rfl, hI6, hb6, -⟩))
            go_roundw
            case rel => exact ⟨k + 1, (acc ++ [32, 62, 32]) ++ printS p, by omega, by go_num, HN, hI6, hB5.trans hb6⟩
            case measure => simp [intOf]; omega
          | false =>
            have HN : Hid ((acc ++ [32]) ++ printS p = textL (ps.take (k + 1)) bs) := HN0
            clear hp HA HN0 hbk hj hz
            have cw : ∀ W (h : BldS W w1.heap.size w1.heap.size acc) (hz : w1.heap.size ≤ W.heap.size), Calls Tryz.prog 40 #[.pointer (some ⟨w1.heap.size, 0, none⟩), .string (ByteArray.mk #[32])] W fun e w' => e = .returned (.tuple #[.int .i64 ((ByteArray.mk #[32] : ByteArray).size : Int), .nilIface]) ∧ BldS w' w1.heap.size w1.heap.size (acc ++ [32]) ∧ Below w1.heap.size W w' ∧ Lib.OthersKept 5 (some w1.heap.size) W w' := fun W h hz => write_k _ acc _ W h (by show acc.length + 1 ≤ 1000000; omega) hz
            go_wp2_with (first
              | (go_at_call 40; (with_reducible refine (cw _ hIA hBA.size).mono ?_); rintro e w4 ⟨rfl, hI4, hb4, hk4⟩
                 have hB4 := hBA.trans hb4
                 have hA4 := hAA.trans hb4
                 obtain ⟨x0, x1, x2, x3, x4⟩ := blk5 (blk_kept KB hk4 hne)
                 clear hb4)
              | (go_at_call 123; (with_reducible refine (cp _ hA4).mono ?_); rintro e w5 ⟨rfl, hb5⟩
                 have hI5 := hI4.next hb5
                 have hB5 := below_next hB4 hb5)
              | (go_at_call 40; (with_reducible refine (write_k _ (acc ++ [32]) (toB (printS p)) w5 hI5 (by rw [toB_size, List.length_append]; simp only [List.length_cons, List.length_nil]; omega) hB5.size).mono ?_); rintro e w6 ⟨rfl, hI6, hb6, -⟩))
            go_roundw
            case rel => exact ⟨k + 1, (acc ++ [32]) ++ printS p, by omega, by go_num, HN, hI6, hB5.trans hb6⟩
            case measure => simp [intOf]; omega
      · obtain rfl : k = n := by omega
        have hfull : ps.take k = ps := List.take_of_length_le (by rw [HL.out]; exact Nat.le_refl _)
        have HE : Hid (printP ⟨ps, bs⟩ = acc) := by show _ = _; rw [HX.out, HA.out, hfull]
        clear HA HX hfull
        go_wp2_with (go_at_call 42; (with_reducible refine (string_k _ acc wr hI hBr.size).mono ?_); rintro e w6 ⟨rfl, hb6⟩)
        go_ret
        exact ⟨by rw [HE.out]; rfl, hB1.trans ((hBr.trans hb6).mono hB1.size)⟩
  · obtain hmf : maySlr x = false := by cases h : maySlr x with
      | true => exact absurd h hmay
      | false => rfl
    rw [hmf] at cm
    have HX : Hid (printP x = []) := by show _ = _; rw [HP.out, if_neg hmay]
    clear HP hmf hmay hl hm h1 h2
    go_enter Tryz.func87, Tryz.ntmps87
    go_wp2_with (go_at_call 76; (with_reducible refine cm.mono ?_); rintro e w1 ⟨rfl, hb1⟩)
    go_ret
    exact ⟨by rw [HX.out]; rfl, below_next hB hb1⟩
end Sel
end Go.Proofs.YtdfcahdipalmkaaGreatDoor
/- selector's List. Conditions: the text is not too long. -/
namespace Go.Proofs.YtdfcahdipalmkaaGreatDoor
open Go.ChangeShapes Go.WideShapes Go.ChangeAt Go.RowKit Go.Shelf
namespace Sel
open Tok
open RowG (Row)
/-- What the cells of a selector hold. -/
structure XC where
  A : Option Addr
  n : Nat
  c : Nat
  K : Option Addr
  m : Nat
  d : Nat
def xcC (x : XC) : List Value := [.slice x.A x.n x.c, .slice x.K x.m x.d]
theorem xcC_len (c : XC) : (xcC c).length = 2 := rfl
theorem xcC_one (c : XC) : ∀ u ∈ xcC c, u.oneCell' = true := by
  intro u hu
  unfold xcC at hu
  simp only [List.mem_cons, List.not_mem_nil, or_false] at hu
  rcases hu with rfl | rfl <;> rfl
theorem info_slr : (Tryz.prog.info? 68).map (fun i => (i.zero, i.size, i.bytes)) = some (some (.agg #[.slice none 0 0, .slice none 0 0]), 2, 48) := by kernel_rfl
def SXm (w : World) (base : Nat) (c : XC) (x : Slr) : Prop := PaL w base (.slice c.A c.n c.c) x.parts ∧ Row w base 4 1 boC (.slice c.K c.m c.d) x.close
/-- Selectors that the call itself has laid. -/
def XsL (w : World) (base : Nat) (v : Value) (xs : List Slr) : Prop := ∃ cs : List XC, Row w base 68 2 xcC v cs ∧ cs.length = xs.length ∧ ∀ (i : Nat) (c : XC) (x : Slr), cs[i]? = some c → xs[i]? = some x → SXm w base c x
theorem SXm.kt {w w' : World} {base : Nat} {c : XC} {x : Slr} (h : SXm w base c x) (k1 : KT w w' 70) (k2 : KT w w' 9) (k3 : KT w w' 4) : SXm w' base c x := ⟨h.1.kt k1 k2, row_kt h.2 k3⟩
theorem XsL.kt {w w' : World} {base : Nat} {v : Value} {xs : List Slr} (h : XsL w base v xs) (k0 : KT w w' 68) (k1 : KT w w' 70) (k2 : KT w w' 9) (k3 : KT w w' 4) : XsL w' base v xs := by
  obtain ⟨cs, h1, h2, h3⟩ := h
  exact ⟨cs, row_kt h1 k0, h2, fun i c x a b => (h3 i c x a b).kt k1 k2 k3⟩
theorem XsL.next {w w' : World} {base : Nat} {v : Value} {xs : List Slr} (h : XsL w base v xs) (hb : Below w.heap.size w w') : XsL w' base v xs := h.kt (.below hb _) (.below hb _) (.below hb _) (.below hb _)
theorem PaL.less {w : World} {base b : Nat} {v : Value} {ps : List Sim} (h : PaL w base v ps) (hb : b ≤ base) : PaL w b v ps := by
  obtain ⟨cs, h1, h2, h3⟩ := h
  exact ⟨cs, row_less h1 hb, h2, fun i c x a d => by
    obtain ⟨q1, q2, q3, q4, q5⟩ := h3 i c x a d
    exact ⟨q1, row_less q2 hb, row_less q3 hb, q4, q5⟩⟩
theorem XsL.less {w : World} {base b : Nat} {v : Value} {xs : List Slr} (h : XsL w base v xs) (hb : b ≤ base) : XsL w b v xs := by
  obtain ⟨cs, h1, h2, h3⟩ := h
  exact ⟨cs, row_less h1 hb, h2, fun i c x a d => ⟨(h3 i c x a d).1.less hb, row_less (h3 i c x a d).2 hb⟩⟩
theorem XsL.nil (w : World) (base : Nat) : XsL w base (.slice none 0 0) [] := ⟨[], Row.nil _ _ _ _ _, rfl, fun i c p h => by simp at h⟩
theorem XsL.form {w : World} {base : Nat} {v : Value} {xs : List Slr} (h : XsL w base v xs) : ∃ A c, v = .slice A xs.length c := by
  obtain ⟨cs, h1, h2, -⟩ := h
  rw [← h2]
  exact h1.form
theorem XsL.more {w w' : World} {base : Nat} {v' : Value} {xs : List Slr} {cs : List XC} {c : XC} {x : Slr} (h3 : ∀ (i : Nat) (c : XC) (x : Slr), cs[i]? = some c → xs[i]? = some x → SXm w base c x) (h2 : cs.length = xs.length) (hrow : Row w' base 68 2 xcC v' (cs ++ [c])) (k1 : KT w w' 70) (k2 : KT w w' 9) (k3 : KT w w' 4) (hc : SXm w base c x) : XsL w' base v' (xs ++ [x]) := by
  refine ⟨cs ++ [c], hrow, by rw [List.length_append, List.length_append, h2]; rfl, fun i d q hd hq => ?_⟩
  by_cases hi : i < cs.length
  · rw [List.getElem?_append_left hi] at hd
    rw [List.getElem?_append_left (by omega)] at hq
    exact (h3 i d q hd hq).kt k1 k2 k3
  · rw [List.getElem?_append_right (by omega)] at hd hq
    by_cases e : i = cs.length
    · subst e
      rw [Nat.sub_self] at hd
      rw [h2, Nat.sub_self] at hq
      have hd : c = d := by simpa using hd
      have hq : x = q := by simpa using hq
      subst hd
      subst hq
      exact hc.kt k1 k2 k3
    · rw [List.getElem?_eq_none (by simp; omega)] at hd
      cases hd
theorem go_snoc {ts : List (List UInt8)} {t : List UInt8} {ps : List Slr} (h : listP.go ts = some ps) : listP.go (ts ++ [t]) = match readP t with | none => none | some p => some (ps ++ [p]) := by
  induction ts generalizing ps with
  | nil =>
    have h : some [] = some ps := h
    injection h with h
    subst h
    show (match readP t with | none => none | some p => match listP.go [] with | none => none | some ps => some (p :: ps)) = _
    cases readP t <;> rfl
  | cons u us ih =>
    have h : (match readP u with | none => none | some p => match listP.go us with | none => none | some ps => some (p :: ps)) = some ps := h
    show (match readP u with | none => none | some p => match listP.go (us ++ [t]) with | none => none | some ps => some (p :: ps)) = _
    cases hu : readP u with
    | none => rw [hu] at h; cases h
    | some p =>
      rw [hu] at h
      cases ha : listP.go us with
      | none => simp only [ha] at h; cases h
      | some qs =>
        simp only [ha] at h
        injection h with h
        subst h
        simp only [ih ha]
        cases readP t <;> rfl
theorem go_none {ts : List (List UInt8)} : ∀ {k : Nat}, listP.go (ts.take k) = none → listP.go ts = none := by
  induction ts with
  | nil => intro k h; rw [List.take_nil] at h; exact h
  | cons t ts ih =>
    intro k h
    cases k with
    | zero => cases h
    | succ k =>
      rw [List.take_succ_cons] at h
      have h : (match readP t with | none => none | some p => match listP.go (ts.take k) with | none => none | some ps => some (p :: ps)) = none := h
      show (match readP t with | none => none | some p => match listP.go ts with | none => none | some ps => some (p :: ps)) = none
      cases ht : readP t with
      | none => rfl
      | some p =>
        rw [ht] at h
        cases ha : listP.go (ts.take k) with
        | none => simp only [ih ha]
        | some qs => simp only [ha] at h; cases h
theorem parts_small (p : UInt8 → Bool) : ∀ (l : List UInt8), (partsAt p l).length ≤ l.length + 1 ∧ ∀ x ∈ partsAt p l, x.length ≤ l.length
  | [] => ⟨by simp [partsAt], fun x hx => by simp [partsAt] at hx; subst hx; simp⟩
  | c :: t => by
    obtain ⟨h1, h2⟩ := parts_small p t
    unfold partsAt
    split
    · refine ⟨by simp only [List.length_cons]; omega, fun x hx => ?_⟩
      rcases List.mem_cons.1 hx with rfl | hx
      · simp
      · have := h2 x hx
        simp only [List.length_cons]; omega
    · split
      · exact ⟨by simp, fun x hx => by simp at hx; subst hx; simp⟩
      · rename_i h r e
        rw [e] at h1 h2
        refine ⟨by simp only [List.length_cons] at *; omega, fun x hx => ?_⟩
        rcases List.mem_cons.1 hx with rfl | hx
        · have := h2 h List.mem_cons_self
          simp only [List.length_cons]; omega
        · have := h2 x (List.mem_cons_of_mem _ hx)
          simp only [List.length_cons]; omega
theorem split_small (sep : UInt8) (l : List UInt8) : (splitF sep l).length ≤ l.length + 1 ∧ ∀ x ∈ splitF sep l, x.length ≤ l.length := by
  obtain ⟨h1, h2⟩ := parts_small (· == sep) l
  refine ⟨by unfold splitF; rw [List.length_map]; exact h1, fun x hx => ?_⟩
  unfold splitF at hx
  obtain ⟨y, hy, rfl⟩ := List.mem_map.1 hx
  exact Nat.le_trans (trim_len y) (h2 y hy)
theorem strs_flat (l : List (List UInt8)) : strs l = l.flatMap txC := by
  induction l with
  | nil => rfl
  | cons a l ih =>
    show Value.string (toB a) :: strs l = [Value.string (toB a)] ++ l.flatMap txC
    rw [ih]
    rfl
/-- What List answers. -/
def ListR (w : World) (base : Nat) (x : Option (List Slr)) (e : Ending) : Prop := match x with
  | none => e = .returned (.tuple #[.slice none 0 0, .bool false])
  | some xs => ∃ v, e = .returned (.tuple #[v, .bool true]) ∧ XsL w base v xs
set_option maxRecDepth 100000 in
set_option maxHeartbeats 16000000 in
theorem list_any (l : List UInt8) (hl : l.length ≤ 100000) (w : World) :
    Calls Tryz.prog 26 #[.string (toB l)] w fun e w' => ListR w' w.heap.size (listP.go (splitF 44 l)) e ∧ Below w.heap.size w w' := by
  have cs := partsS.split_any (toB l) 44 w (by rw [toB_size]; unfold mostB; omega)
  change Calls Tryz.prog 31 #[.string (toB l), .int .u8 44] w (fun e w' => ∃ A n c, e = .returned (.slice A n c) ∧ Reads w' w'.heap.size 1 A n (strs (splitF 44 l)) ∧ Below w.heap.size w w') at cs
  rw [strs_flat] at cs
  obtain ⟨hs1, hs2⟩ := split_small 44 l
  obtain ⟨R, hR⟩ : ∃ R, R = listP.go (splitF 44 l) := ⟨_, rfl⟩
  rw [← hR]
  have HR := Lib.hid hR
  have HTL : Hid (∀ x ∈ splitF 44 l, x.length ≤ 100000) := fun x hx => Nat.le_trans (hs2 x hx) hl
  have hM : (splitF 44 l).length ≤ 100001 := by omega
  clear hR hs1 hs2
  generalize splitF 44 l = ts at *
  go_enter Tryz.func26, Tryz.ntmps26
  go_wp2_with (go_at_call 31; (with_reducible refine cs.mono ?_); rintro e w1 ⟨A1, M, c1, rfl, hrt, hb1⟩)
  have hMl : ts.length = M := by have := hrt.1; rw [flat_len txC_len] at this; omega
  have hM5 : M ≤ 100001 := by omega
  have HM := Lib.hid hMl
  clear hMl hM cs
  go_loopw [4, 12] (fun vp iv wr => ∃ (k : Nat) (xs : List Slr), k ≤ M ∧ iv = .int .i64 k ∧ Hid (listP.go (ts.take k) = some xs) ∧ xs.length = k ∧ XsL wr w1.heap.size vp xs ∧ Below w1.heap.size w1 wr) (fun _ iv _ => M - (intOf iv).toNat)
  case atStart => exact ⟨0, [], Nat.zero_le _, rfl, rfl, rfl, XsL.nil _ _, Below.refl _ _⟩
  case round =>
    obtain ⟨k, xs, hk, rfl, HA, hpl, hP, hB1⟩ := hrel
    have hBr := below_next hb1 hB1
    obtain ⟨Ap, cp, hvp⟩ := hP.form
    rw [hpl] at hvp
    subst hvp
    by_cases hlt : k < M
    · obtain ⟨t, htk⟩ : ∃ t, ts[k]? = some t := ⟨_, List.getElem?_eq_getElem (by rw [HM.out]; exact hlt)⟩
      have htl : t.length ≤ 100000 := HTL.out t (List.mem_of_getElem? htk)
      have cr := read_any t htl wr
      have hki : (k : Int) < (M : Int) := by omega
      have HT1 : Hid (listP.go (ts.take (k + 1)) = match readP t with | none => none | some p => some (xs ++ [p])) := by
        show _ = _
        rw [List.take_add_one, htk]
        exact go_snoc HA.out
      obtain ⟨ad, hAd, -, e0⟩ := tx_of (hrt.below hB1) htk
      subst hAd
      cases hs : readP t with
      | none =>
        rw [hs] at cr HT1
        obtain rfl : R = none := by rw [HR.out, go_none HT1.out]
        clear HR HT1 HA htk hs
        go_wp2_with (go_at_call 52; (with_reducible refine cr.mono ?_); rintro e w4 ⟨hsr, hb4⟩; obtain rfl := hsr)
        exact bodyPost_ret (v := .tuple #[.slice none 0 0, .bool false]) (by simp [results, Tryz.results26, go_sem]) rfl ⟨rfl, below_al (below_next hBr hb4) _⟩
      | some x =>
        rw [hs] at cr HT1
        obtain ⟨cs0, hrow, hcl0, hall⟩ := hP
        clear HA htk hs
        have hpl2 : (xs ++ [x]).length = k + 1 := by rw [List.length_append, List.length_singleton, hpl]
        go_wp2_with (first
          | (go_at_call 52; (with_reducible refine cr.mono ?_); rintro e w4 ⟨⟨vi, vc, rfl, hri, hrc⟩, hb4⟩
             obtain ⟨Ai, ci, rfl⟩ := hri.form
             obtain ⟨Ac, cc, rfl⟩ := hrc.form
             generalize hni : x.parts.length = ni at *
             generalize hnc : x.close.length = nc at *
             have hA4 : Below w4.heap.size w4 ((w4.alloc (.cells #[.slice Ai ni ci, .slice Ac nc cc] 68)).alloc (.cells #[.slice Ai ni ci, .slice Ac nc cc] 68)) := below_al (below_al (Below.refl _ _) _) _
             have hA : Below wr.heap.size wr ((w4.alloc (.cells #[.slice Ai ni ci, .slice Ac nc cc] 68)).alloc (.cells #[.slice Ai ni ci, .slice Ac nc cc] 68)) := below_al (below_al hb4 _) _
             have hSX : SXm ((w4.alloc (.cells #[.slice Ai ni ci, .slice Ac nc cc] 68)).alloc (.cells #[.slice Ai ni ci, .slice Ac nc cc] 68)) w1.heap.size ⟨Ai, ni, ci, Ac, nc, cc⟩ x := ⟨(PaL.less hri hB1.size).next hA4, (row_less hrc hB1.size).below hA4⟩
             have hY := hrow.below hA
             have hB6 := below_next hB1 hA
             have hncl : ∀ (j : Nat) (u : Value), (xcC ⟨Ai, ni, ci, Ac, nc, cc⟩)[j]? = some u → ((w4.alloc (.cells #[.slice Ai ni ci, .slice Ac nc cc] 68)).alloc (.cells #[.slice Ai ni ci, .slice Ac nc cc] 68)).cell? ⟨(w4.alloc (.cells #[.slice Ai ni ci, .slice Ac nc cc] 68)).heap.size, j, none⟩ = some u := RowG.new_cells (w4.alloc (.cells #[.slice Ai ni ci, .slice Ac nc cc] 68)) 68 (xcC ⟨Ai, ni, ci, Ac, nc, cc⟩)
             rw [size_al] at hncl)
          | (refine RowG.wpList_more _ (by rfl) _ _ 63 (by rfl) 68 xcC 2 48 _ info_slr Tryz.underlying63 rfl (by decide) xcC_len xcC_one w1.heap.size _ cs0 ⟨Ai, ni, ci, Ac, nc, cc⟩ (by rfl) (w4.heap.size + 1) _ (by rfl) hY hncl (by simp only [maxLen]; omega) (by omega) hB6.size ?_
             intro v7 w7 hrow7 hg7 ho7
             have hk7 : ∀ (e : TypeId), 68 ≠ e → KT ((w4.alloc (.cells #[.slice Ai ni ci, .slice Ac nc cc] 68)).alloc (.cells #[.slice Ai ni ci, .slice Ac nc cc] 68)) w7 e := fun e he => KT.grown (e := e) hY hg7 he
             have hP8 := XsL.more (fun i c q a b => (hall i c q a b).kt (.below hA _) (.below hA _) (.below hA _)) hcl0 hrow7 (hk7 _ (by decide)) (hk7 _ (by decide)) (hk7 _ (by decide)) hSX
             have hB8 : Below w1.heap.size w1 w7 := hB6.grown hg7 hB6.size (fun j hj => (World.ownsRow.lt hY j hj).1)))
        go_roundw
        case rel => exact ⟨k + 1, xs ++ [x], by omega, by go_num, HT1, hpl2, hP8, hB8⟩
        case measure => simp [intOf]; omega
    · obtain rfl : k = M := by omega
      have hfin : R = some xs := by
        have h1 := HA.out
        rw [List.take_of_length_le (by rw [HM.out]; exact Nat.le_refl _)] at h1
        rw [HR.out, h1]
      clear HR HA
      go_wp2
      exact bodyPost_ret (v := .tuple #[.slice Ap k cp, .bool true]) (by simp [results, Tryz.results26, go_sem]) rfl ⟨by rw [hfin]; exact ⟨_, rfl, hP.less hb1.size⟩, hBr⟩
end Sel
end Go.Proofs.YtdfcahdipalmkaaGreatDoor
namespace Go.Proofs.YtdfcahdipalmkaaGreatDoor
open Go.ChangeShapes Go.WideShapes Go.ChangeAt Go.RowKit Go.Shelf
namespace Sel
open Tok
open RowG (Row)
/-- A selector that lies in memory. -/
def SlR (w : World) (B : Nat) (c : XC) (x : Slr) : Prop := SLR w B c.A c.n x.parts ∧ BLR w B c.K c.m x.close
theorem SlR.below {w w' : World} {B B' : Nat} {c : XC} {x : Slr} (h : SlR w B c x) (hb : Below B w w') (hB : B ≤ B') : SlR w' B' c x := ⟨h.1.below hb hB, h.2.below hb hB⟩
theorem SXm.reads {w : World} {base : Nat} {c : XC} {x : Slr} (h : SXm w base c x) : SlR w w.heap.size c x ∧ c.n = x.parts.length ∧ c.m = x.close.length := by
  obtain ⟨h1, h2⟩ := h
  obtain ⟨h3, h4⟩ := h1.reads
  obtain ⟨h5, h6⟩ := h2.reads
  rw [← h6] at h5
  exact ⟨⟨h3, h5⟩, h4, h6⟩
/-- Selectors that lie in memory. -/
def XsR (w : World) (B : Nat) (A : Option Addr) (n : Nat) (xs : List Slr) : Prop := ∃ cs : List XC, Reads w B 2 A n (cs.flatMap xcC) ∧ cs.length = xs.length ∧ ∀ (i : Nat) (c : XC) (x : Slr), cs[i]? = some c → xs[i]? = some x → SlR w B c x
theorem XsR.below {w w' : World} {B B' n : Nat} {A : Option Addr} {xs : List Slr} (h : XsR w B A n xs) (hb : Below B w w') (hB : B ≤ B') : XsR w' B' A n xs := by
  obtain ⟨cs, h1, h2, h3⟩ := h
  exact ⟨cs, (h1.below hb).more hB, h2, fun i c p a b => (h3 i c p a b).below hb hB⟩
theorem XsR.len {w : World} {B n : Nat} {A : Option Addr} {xs : List Slr} (h : XsR w B A n xs) : xs.length = n := by
  obtain ⟨cs, h1, h2, -⟩ := h
  have := h1.1
  rw [flat_len xcC_len] at this
  omega
theorem XsL.reads {w : World} {base n c : Nat} {A : Option Addr} {xs : List Slr} (h : XsL w base (.slice A n c) xs) : XsR w w.heap.size A n xs := by
  obtain ⟨cs, h1, h2, h3⟩ := h
  obtain ⟨h4, h5⟩ := h1.reads
  rw [← h5] at h4
  exact ⟨cs, h4, h2, fun i c p hc hp => (h3 i c p hc hp).reads.1⟩
theorem XsR.at_ {w : World} {B n k : Nat} {A : Option Addr} {xs : List Slr} {x : Slr} (h : XsR w B A n xs) (hk : xs[k]? = some x) :
    ∃ (ad : Addr) (c : XC), A = some ad ∧ ad.block < B ∧ w.cell? (ad.add (k * 2)) = some (.slice c.A c.n c.c) ∧ w.cell? ⟨(ad.add (k * 2)).block, (ad.add (k * 2)).off + 1, none⟩ = some (.slice c.K c.m c.d) ∧ SlR w B c x := by
  have hl := h.len
  obtain ⟨cs, h1, h2, h3⟩ := h
  have hkl := (List.getElem?_eq_some_iff.1 hk).1
  obtain ⟨c, hc⟩ : ∃ c, cs[k]? = some c := ⟨_, List.getElem?_eq_getElem (by omega)⟩
  obtain ⟨ad, e, hb, hcl⟩ := h1.2 (by omega)
  have f0 := flat_at xcC_len cs k c 0 hc (by decide)
  have f1 := flat_at xcC_len cs k c 1 hc (by decide)
  refine ⟨ad, c, e, hb, hcl _ _ f0, ?_, h3 k c x hc hk⟩
  have := hcl _ _ f1; rwa [← add_of_add, add_one] at this
def exX : Slr := ⟨[⟨[100, 105, 118], [], [], false, false⟩, ⟨[97], [], [[120]], false, true⟩, ⟨[], [[105]], [], false, false⟩], [true, false]⟩
def exY : Slr := ⟨[⟨[97], [], [], false, false⟩], []⟩
def exZ : Slr := ⟨[⟨[], [], [], false, false⟩], []⟩
theorem add_zero_addr (a : Addr) : a.add 0 = a := by cases a; rfl
theorem ex1_read : readP [32, 68, 73, 86, 32, 62, 32, 97, 46, 120, 58, 118, 105, 115, 105, 116, 101, 100, 32, 32, 35, 105, 32] = some exX := by decide +kernel
theorem ex2_read : listP.go (splitF 44 [97, 44, 32, 42]) = some [exY, exZ] := by decide +kernel
theorem ex3_read : readP [97, 32, 62, 32] = none := by decide +kernel
theorem exX_print : printP exX = [100, 105, 118, 32, 62, 32, 97, 46, 120, 58, 118, 105, 115, 105, 116, 101, 100, 32, 35, 105] := by decide +kernel
theorem exZ_print : printP exZ = [42] := by decide +kernel
theorem exX_weigh : (exX.parts.map wS).sum = 10202 := by decide +kernel
theorem exX_may : maySlr exX = true := by decide +kernel
theorem exXY : decide (exX = exY) = false := by decide +kernel
theorem exX_few : Few exX.parts := by unfold Few; decide +kernel
theorem exX_sh : ShX exX.parts := by unfold ShX ShS; decide +kernel
theorem exZ_few : Few exZ.parts := by unfold Few; decide +kernel
theorem exZ_sh : ShX exZ.parts := by unfold ShX ShS; decide +kernel
end Sel
end Go.Proofs.YtdfcahdipalmkaaGreatDoor
namespace Go.Proofs.YtdfcahdipalmkaaGreatDoor
open Go.ChangeShapes Go.WideShapes Go.ChangeAt Go.RowKit Go.Shelf
namespace Sel
open Tok
open RowG (Row)
/-- The selector that was read, or the empty one. -/
def selOf : Option Slr → Slr
  | none => ⟨[], []⟩
  | some x => x
theorem readX_any (l : List UInt8) (hl : l.length ≤ 100000) (w : World) :
    Calls Tryz.prog 52 #[.string (toB l)] w fun e w' => (∃ (A : Option Addr) (n c : Nat) (K : Option Addr) (m d : Nat), e = .returned (.tuple #[.agg #[.slice A n c, .slice K m d], .bool (readP l).isSome]) ∧ SlR w' w'.heap.size ⟨A, n, c, K, m, d⟩ (selOf (readP l)) ∧ n = (selOf (readP l)).parts.length ∧ m = (selOf (readP l)).close.length) ∧ Below w.heap.size w w' := by
  refine (read_any l hl w).mono ?_
  rintro e w' ⟨hs, hb⟩
  refine ⟨?_, hb⟩
  cases hr : readP l with
  | none =>
    rw [hr] at hs
    obtain rfl := hs
    obtain ⟨h1, h2, h3⟩ := SXm.reads (w := w') (base := w.heap.size) (c := ⟨none, 0, 0, none, 0, 0⟩) (x := ⟨[], []⟩) ⟨PaL.nil _ _, Row.nil _ _ _ _ _⟩
    exact ⟨none, 0, 0, none, 0, 0, rfl, h1, h2, h3⟩
  | some x =>
    rw [hr] at hs
    obtain ⟨vp, vb, rfl, hp, hq⟩ := hs
    obtain ⟨A, c, rfl⟩ := hp.form
    obtain ⟨K, d, rfl⟩ := hq.form
    obtain ⟨h1, h2, h3⟩ := SXm.reads (c := ⟨A, x.parts.length, c, K, x.close.length, d⟩) ⟨hp, hq⟩
    exact ⟨A, _, c, K, _, d, rfl, h1, rfl, rfl⟩
theorem may_few {x : Slr} (h : maySlr x = true) : x.parts.length ≤ 8 ∧ x.close.length ≤ 8 ∧ Few x.parts ∧ ShX x.parts := by
  obtain ⟨-, h2, h3, h4⟩ := maySlr_of h
  refine ⟨h2, by omega, fun p hp => ?_, fun p hp => ?_⟩
  · have h5 := List.all_eq_true.1 h4 p hp
    unfold maySim at h5
    simp only [Bool.and_eq_true, decide_eq_true_eq] at h5
    omega
  · have h5 := List.all_eq_true.1 h4 p hp
    unfold maySim at h5
    simp only [Bool.and_eq_true, Bool.or_eq_true, decide_eq_true_eq, List.all_eq_true] at h5
    obtain ⟨⟨⟨h6, h7⟩, h8⟩, -⟩ := h5
    refine ⟨?_, fun t ht => Nat.le_trans (nameB_len (h7 t ht)).2 (by decide), fun t ht => Nat.le_trans (nameB_len (h8 t ht)).2 (by decide)⟩
    rcases h6 with e | e
    · rw [e]; decide
    · exact Nat.le_trans (nameB_len e).2 (by decide)
theorem sel_few (l : List UInt8) : (selOf (readP l)).parts.length ≤ 8 ∧ (selOf (readP l)).close.length ≤ 8 ∧ Few (selOf (readP l)).parts ∧ ShX (selOf (readP l)).parts := by
  cases h : readP l with
  | none => exact ⟨by decide, by decide, (fun p hp => nomatch hp : Few []), (fun p hp => nomatch hp : ShX [])⟩
  | some x => exact may_few (read_may h)
end Sel
end Go.Proofs.YtdfcahdipalmkaaGreatDoor
