/- selector's May, of whatever came in. Conditions: lists and texts are no longer than what can be reached. -/
import Derived.Test.YtdfcahdipalmkaaGreatDoorSelO
namespace Go.Proofs.YtdfcahdipalmkaaGreatDoor
open Go.ChangeShapes Go.WideShapes Go.ChangeAt Go.RowKit Go.Shelf
namespace Sel
open Tok
open RowG (Row)
def FewW (x : List Sim) : Prop := ∀ p ∈ x, p.ids.length ≤ 140737488351232 ∧ p.classes.length ≤ 140737488351232
def ShSW (p : Sim) : Prop := p.tag.length ≤ 140737488351232 ∧ (∀ t ∈ p.ids, t.length ≤ 140737488351232) ∧ (∀ t ∈ p.classes, t.length ≤ 140737488351232)
def ShXW (x : List Sim) : Prop := ∀ p ∈ x, ShSW p
theorem noneW_any (l : List UInt8) (hl : l.length ≤ 140737488351232) (w : World) :
    Calls Tryz.prog 163 #[.string (toB l)] w fun e w' => e = .returned (.bool (!nameB l)) ∧ Below w.heap.size w w' := by
  have cn := fun w => name_any l (by simp only [maxLen]; omega) w
  generalize nameB l = N at *
  generalize toB l = T at *
  go_enter Tryz.func163, Tryz.ntmps163
  go_wp2_with (go_at_call 137; (with_reducible refine (cn _).mono ?_); rintro e w1 ⟨rfl, hb⟩)
  go_ret
  exact ⟨rfl, hb⟩
set_option maxHeartbeats 4000000 in
set_option maxRecDepth 100000 in
theorem indexNW_any (A : Option Addr) (n c : Nat) (l : List (List UInt8)) (w : World) (hr : Reads w w.heap.size 1 A n (l.flatMap txC)) (hn : n ≤ 140737488351232) (hl : ∀ t ∈ l, t.length ≤ 140737488351232) :
    Calls Tryz.prog 186 #[.slice A n c, .func (.func 163) #[] #[]] w fun e w' => (∃ r : Int, e = .returned (.int .i64 r) ∧ decide (0 ≤ r) = !l.all nameB) ∧ Below w.heap.size w w' := by
  have hlen : l.length = n := by have := hr.1; rw [flat_len txC_len] at this; omega
  obtain ⟨R, hR⟩ : ∃ R, R = !l.all nameB := ⟨_, rfl⟩
  rw [← hR]
  have HR := Lib.hid hR
  have HS := Lib.hid hl
  clear hR hl
  go_enter Tryz.func186, Tryz.ntmps186
  go_wp2
  go_loopw [8] (fun i wr => ∃ k : Nat, k ≤ n ∧ i = .int .i64 k ∧ Hid (∀ (j : Nat) (x : List UInt8), j < k → l[j]? = some x → nameB x = true) ∧ Below w.heap.size w wr) (fun i _ => n - (intOf i).toNat)
  case atStart => exact ⟨0, Nat.zero_le _, rfl, fun j x h => absurd h (by omega), Below.refl _ _⟩
  case round =>
    obtain ⟨k, hk, rfl, HK, hBr⟩ := hrel
    by_cases hlt : k < n
    · have hkl : k < l.length := by omega
      obtain ⟨r, hrk⟩ : ∃ r, l[k]? = some r := ⟨l[k], List.getElem?_eq_getElem hkl⟩
      obtain ⟨ad, rfl, hab, e0⟩ := tx_of (hr.below hBr) hrk
      have c1 := fun w0 => noneW_any r (HS.out r (List.mem_of_getElem? hrk)) w0
      cases hm : nameB r with
      | false =>
        obtain rfl : R = true := by
          rw [HR.out]
          have : l.all nameB = false := by rw [List.all_eq_false]; exact ⟨r, List.mem_of_getElem? hrk, by rw [hm]; decide⟩
          rw [this]; rfl
        have k0 : (0 : Int) ≤ (k : Int) := Int.natCast_nonneg _
        rw [hm] at c1
        clear hrk hm HK
        go_wp2_with (go_at_call 163; (with_reducible refine (c1 _).mono ?_); rintro e w1 ⟨rfl, hb⟩; have hB1 := below_next hBr hb)
        go_ret
        exact ⟨⟨_, rfl, decide_eq_true k0⟩, hB1⟩
      | true =>
        have HK' : Hid (∀ (j : Nat) (x : List UInt8), j < k + 1 → l[j]? = some x → nameB x = true) := by
          intro j x hj hx
          by_cases e : j = k
          · subst e
            rw [hrk] at hx
            injection hx with hx
            subst hx
            exact hm
          · exact HK.out j x (by omega) hx
        rw [hm] at c1
        clear hrk hm HK
        go_wp2_with (go_at_call 163; (with_reducible refine (c1 _).mono ?_); rintro e w1 ⟨rfl, hb⟩; have hB1 := below_next hBr hb)
        go_roundw
        case rel => exact ⟨k + 1, by omega, by go_num, HK', hB1⟩
        case measure => simp [intOf]; omega
    · obtain rfl : k = n := by omega
      obtain rfl : R = false := by
        rw [HR.out]
        have : l.all nameB = true := by
          rw [List.all_eq_true]
          intro x hx
          obtain ⟨j, hj, e⟩ := List.getElem_of_mem hx
          exact HK.out j x (by omega) (by rw [List.getElem?_eq_getElem hj, e])
        rw [this]; rfl
      go_wp2
      go_ret
      exact ⟨⟨-1, rfl, rfl⟩, hBr⟩
set_option maxHeartbeats 4000000 in
set_option maxRecDepth 100000 in
theorem containsNW_any (A : Option Addr) (n c : Nat) (l : List (List UInt8)) (w : World) (hr : Reads w w.heap.size 1 A n (l.flatMap txC)) (hn : n ≤ 140737488351232) (hl : ∀ t ∈ l, t.length ≤ 140737488351232) :
    Calls Tryz.prog 164 #[.slice A n c, .func (.func 163) #[] #[]] w fun e w' => e = .returned (.bool (!l.all nameB)) ∧ Below w.heap.size w w' := by
  have c1 := indexNW_any A n c l w hr hn hl
  generalize (!l.all nameB) = R at *
  clear hr hl
  go_enter Tryz.func164, Tryz.ntmps164
  go_wp2_with (go_at_call 186; (with_reducible refine c1.mono ?_); rintro e w1 ⟨⟨r, rfl, hR⟩, hb⟩)
  go_ret
  exact ⟨rfl, hb⟩
set_option maxRecDepth 100000 in
set_option maxHeartbeats 16000000 in
theorem maySimW_any (p : Sim) (iA cA : Option Addr) (ic cc : Nat) (hpf : p.ids.length ≤ 140737488351232 ∧ p.classes.length ≤ 140737488351232) (hs : ShSW p) (w : World) (h1 : Reads w w.heap.size 1 iA p.ids.length (p.ids.flatMap txC)) (h2 : Reads w w.heap.size 1 cA p.classes.length (p.classes.flatMap txC)) :
    Calls Tryz.prog 115 #[.agg #[.string (toB p.tag), .slice iA p.ids.length ic, .slice cA p.classes.length cc, .bool p.link, .bool p.visited]] w fun e w' => e = .returned (.bool (maySim p)) ∧ Below w.heap.size w w' := by
  have hB := below_al (Below.refl w.heap.size w) (.cells #[.string (toB p.tag), .slice iA p.ids.length ic, .slice cA p.classes.length cc, .bool p.link, .bool p.visited] 70)
  have K := Blk.new w 70 #[.string (toB p.tag), .slice iA p.ids.length ic, .slice cA p.classes.length cc, .bool p.link, .bool p.visited]
  have cn := fun W => noneW_any p.tag hs.1 W
  have ci := fun W (hb : Below w.heap.size w W) => containsNW_any iA p.ids.length ic p.ids W ((h1.below hb).more hb.size) hpf.1 hs.2.1
  have ck := fun W (hb : Below w.heap.size w W) => containsNW_any cA p.classes.length cc p.classes W ((h2.below hb).more hb.size) hpf.2 hs.2.2
  have u0 := lit_eq p.tag []
  have cst := fun W' => states_any (toB p.tag) iA cA p.ids.length ic p.classes.length cc p.link p.visited W'
  have hb1 := b1_le p.link
  have hb2 := b1_le p.visited
  obtain ⟨sN, hsN⟩ : ∃ sN, sN = b1 p.link + b1 p.visited := ⟨_, rfl⟩
  have hR : maySim p = ((decide (p.tag = []) || nameB p.tag) && p.ids.all nameB && p.classes.all nameB && decide (p.ids.length + p.classes.length + sN ≤ 8)) := by rw [hsN]; rfl
  rw [hR]
  rw [← hsN] at cst
  have hs2 : sN ≤ 2 := by omega
  obtain ⟨f1, f2⟩ := hpf
  clear hR hsN hb1 hb2 h1 h2 hs
  generalize p.ids.length = a1 at *
  generalize p.classes.length = a2 at *
  generalize toB p.tag = T at *
  generalize decide (p.tag = []) = t0 at *
  generalize nameB p.tag = t1 at *
  generalize p.ids.all nameB = t2 at *
  generalize p.classes.all nameB = t3 at *
  generalize p.link = pl at *
  generalize p.visited = pv at *
  clear p
  have hle : decide ((a1 : Int) + (a2 : Int) + (sN : Int) ≤ 8) = decide (a1 + a2 + sN ≤ 8) := by rw [decide_eq_decide]; omega
  have ww1 : IntKind.i64.wrap ((a1 : Int) + (a2 : Int)) = (a1 : Int) + (a2 : Int) := by rw [IntKind.wrap_i64]; omega
  have ww2 : IntKind.i64.wrap ((a1 : Int) + (a2 : Int) + (sN : Int)) = (a1 : Int) + (a2 : Int) + (sN : Int) := by rw [IntKind.wrap_i64]; omega
  generalize decide (a1 + a2 + sN ≤ 8) = t4 at *
  obtain ⟨x0, x1, x2, x3, x4⟩ := blk5 K
  go_enter Tryz.func115, Tryz.ntmps115
  cases t0 with
  | true =>
    cases t2 with
    | false =>
      go_wp2_with (first
        | (go_at_call 163; (with_reducible refine (cn _).mono ?_); rintro e wa ⟨rfl, hba⟩
           replace hB := below_next hB hba
           replace K := K.next hba
           obtain ⟨x0, x1, x2, x3, x4⟩ := blk5 K)
        | (go_at_call 164; (with_reducible refine (ci _ hB).mono ?_); rintro e wb ⟨rfl, hbb⟩
           replace hB := below_next hB hbb
           replace K := K.next hbb
           obtain ⟨x0, x1, x2, x3, x4⟩ := blk5 K)
        | (go_at_call 164; (with_reducible refine (ck _ hB).mono ?_); rintro e wc ⟨rfl, hbc⟩
           replace hB := below_next hB hbc
           replace K := K.next hbc
           obtain ⟨x0, x1, x2, x3, x4⟩ := blk5 K))
      go_ret
      exact ⟨rfl, hB⟩
    | true =>
    cases t3 with
    | false =>
      go_wp2_with (first
        | (go_at_call 163; (with_reducible refine (cn _).mono ?_); rintro e wa ⟨rfl, hba⟩
           replace hB := below_next hB hba
           replace K := K.next hba
           obtain ⟨x0, x1, x2, x3, x4⟩ := blk5 K)
        | (go_at_call 164; (with_reducible refine (ci _ hB).mono ?_); rintro e wb ⟨rfl, hbb⟩
           replace hB := below_next hB hbb
           replace K := K.next hbb
           obtain ⟨x0, x1, x2, x3, x4⟩ := blk5 K)
        | (go_at_call 164; (with_reducible refine (ck _ hB).mono ?_); rintro e wc ⟨rfl, hbc⟩
           replace hB := below_next hB hbc
           replace K := K.next hbc
           obtain ⟨x0, x1, x2, x3, x4⟩ := blk5 K))
      go_ret
      exact ⟨rfl, hB⟩
    | true =>
    go_upto_region 4 with (first
      | (go_at_call 163; (with_reducible refine (cn _).mono ?_); rintro e wa ⟨rfl, hba⟩
         replace hB := below_next hB hba
         replace K := K.next hba
         obtain ⟨x0, x1, x2, x3, x4⟩ := blk5 K)
      | (go_at_call 164; (with_reducible refine (ci _ hB).mono ?_); rintro e wb ⟨rfl, hbb⟩
         replace hB := below_next hB hbb
         replace K := K.next hbb
         obtain ⟨x0, x1, x2, x3, x4⟩ := blk5 K)
      | (go_at_call 164; (with_reducible refine (ck _ hB).mono ?_); rintro e wc ⟨rfl, hbc⟩
         replace hB := below_next hB hbc
         replace K := K.next hbc
         obtain ⟨x0, x1, x2, x3, x4⟩ := blk5 K))
    have SK : ∀ W', Blk W' w.heap.size 70 #[.string T, .slice iA a1 ic, .slice cA a2 cc, .bool pl, .bool pv] → Below w.heap.size w W' → (W'.cell? ⟨w.heap.size, 0, none⟩ = some (.string T) ∧ W'.cell? ⟨w.heap.size, 1, none⟩ = some (.slice iA a1 ic) ∧ W'.cell? ⟨w.heap.size, 2, none⟩ = some (.slice cA a2 cc) ∧ W'.cell? ⟨w.heap.size, 3, none⟩ = some (.bool pl) ∧ W'.cell? ⟨w.heap.size, 4, none⟩ = some (.bool pv) ∧ Blk W' w.heap.size 70 #[.string T, .slice iA a1 ic, .slice cA a2 cc, .bool pl, .bool pv] ∧ Below w.heap.size w W') := fun W' K B => by
      obtain ⟨x0, x1, x2, x3, x4⟩ := blk5 K
      exact ⟨x0, x1, x2, x3, x4, K, B⟩
    have hS0 := SK wc.drew K.drew hB.drew
    have cst2 : ∀ W', (W'.cell? ⟨w.heap.size, 0, none⟩ = some (.string T) ∧ W'.cell? ⟨w.heap.size, 1, none⟩ = some (.slice iA a1 ic) ∧ W'.cell? ⟨w.heap.size, 2, none⟩ = some (.slice cA a2 cc) ∧ W'.cell? ⟨w.heap.size, 3, none⟩ = some (.bool pl) ∧ W'.cell? ⟨w.heap.size, 4, none⟩ = some (.bool pv) ∧ Blk W' w.heap.size 70 #[.string T, .slice iA a1 ic, .slice cA a2 cc, .bool pl, .bool pv] ∧ Below w.heap.size w W') → Calls Tryz.prog 165 #[.agg #[.string T, .slice iA a1 ic, .slice cA a2 cc, .bool pl, .bool pv]] W' fun e w' => e = .returned (.int .i64 (sN : Int)) ∧ (w'.cell? ⟨w.heap.size, 0, none⟩ = some (.string T) ∧ w'.cell? ⟨w.heap.size, 1, none⟩ = some (.slice iA a1 ic) ∧ w'.cell? ⟨w.heap.size, 2, none⟩ = some (.slice cA a2 cc) ∧ w'.cell? ⟨w.heap.size, 3, none⟩ = some (.bool pl) ∧ w'.cell? ⟨w.heap.size, 4, none⟩ = some (.bool pv) ∧ Blk w' w.heap.size 70 #[.string T, .slice iA a1 ic, .slice cA a2 cc, .bool pl, .bool pv] ∧ Below w.heap.size w w') := fun W' hS => (cst W').mono (by
      rintro e w' ⟨rfl, hb⟩
      exact ⟨rfl, SK w' (hS.2.2.2.2.2.1.next hb) (below_next hS.2.2.2.2.2.2 hb)⟩)
    go_region_held3 (fun W' => (W'.cell? ⟨w.heap.size, 0, none⟩ = some (.string T) ∧ W'.cell? ⟨w.heap.size, 1, none⟩ = some (.slice iA a1 ic) ∧ W'.cell? ⟨w.heap.size, 2, none⟩ = some (.slice cA a2 cc) ∧ W'.cell? ⟨w.heap.size, 3, none⟩ = some (.bool pl) ∧ W'.cell? ⟨w.heap.size, 4, none⟩ = some (.bool pv) ∧ Blk W' w.heap.size 70 #[.string T, .slice iA a1 ic, .slice cA a2 cc, .bool pl, .bool pv] ∧ Below w.heap.size w W'))
      (first | (with_reducible assumption) | exact hS0)
      (first | (go_at_call 165; (with_reducible refine (cst2 _ (by first | assumption | exact hS0)).mono ?_); rintro e wd ⟨rfl, hSd⟩))
    rename_i hHd
    obtain ⟨-, -, -, -, -, -, hBd⟩ := hHd
    clear hS0 cst cst2 SK
    go_wp2
    go_ret
    exact ⟨by first | rfl | (rw [← hle]; rfl), hBd⟩
  | false =>
  cases t1 with
  | false =>
    go_wp2_with (first
      | (go_at_call 163; (with_reducible refine (cn _).mono ?_); rintro e wa ⟨rfl, hba⟩
         replace hB := below_next hB hba
         replace K := K.next hba
         obtain ⟨x0, x1, x2, x3, x4⟩ := blk5 K)
      | (go_at_call 164; (with_reducible refine (ci _ hB).mono ?_); rintro e wb ⟨rfl, hbb⟩
         replace hB := below_next hB hbb
         replace K := K.next hbb
         obtain ⟨x0, x1, x2, x3, x4⟩ := blk5 K)
      | (go_at_call 164; (with_reducible refine (ck _ hB).mono ?_); rintro e wc ⟨rfl, hbc⟩
         replace hB := below_next hB hbc
         replace K := K.next hbc
         obtain ⟨x0, x1, x2, x3, x4⟩ := blk5 K))
    go_ret
    exact ⟨rfl, hB⟩
  | true =>
  cases t2 with
  | false =>
    go_wp2_with (first
      | (go_at_call 163; (with_reducible refine (cn _).mono ?_); rintro e wa ⟨rfl, hba⟩
         replace hB := below_next hB hba
         replace K := K.next hba
         obtain ⟨x0, x1, x2, x3, x4⟩ := blk5 K)
      | (go_at_call 164; (with_reducible refine (ci _ hB).mono ?_); rintro e wb ⟨rfl, hbb⟩
         replace hB := below_next hB hbb
         replace K := K.next hbb
         obtain ⟨x0, x1, x2, x3, x4⟩ := blk5 K)
      | (go_at_call 164; (with_reducible refine (ck _ hB).mono ?_); rintro e wc ⟨rfl, hbc⟩
         replace hB := below_next hB hbc
         replace K := K.next hbc
         obtain ⟨x0, x1, x2, x3, x4⟩ := blk5 K))
    go_ret
    exact ⟨rfl, hB⟩
  | true =>
  cases t3 with
  | false =>
    go_wp2_with (first
      | (go_at_call 163; (with_reducible refine (cn _).mono ?_); rintro e wa ⟨rfl, hba⟩
         replace hB := below_next hB hba
         replace K := K.next hba
         obtain ⟨x0, x1, x2, x3, x4⟩ := blk5 K)
      | (go_at_call 164; (with_reducible refine (ci _ hB).mono ?_); rintro e wb ⟨rfl, hbb⟩
         replace hB := below_next hB hbb
         replace K := K.next hbb
         obtain ⟨x0, x1, x2, x3, x4⟩ := blk5 K)
      | (go_at_call 164; (with_reducible refine (ck _ hB).mono ?_); rintro e wc ⟨rfl, hbc⟩
         replace hB := below_next hB hbc
         replace K := K.next hbc
         obtain ⟨x0, x1, x2, x3, x4⟩ := blk5 K))
    go_ret
    exact ⟨rfl, hB⟩
  | true =>
  go_upto_region 4 with (first
    | (go_at_call 163; (with_reducible refine (cn _).mono ?_); rintro e wa ⟨rfl, hba⟩
       replace hB := below_next hB hba
       replace K := K.next hba
       obtain ⟨x0, x1, x2, x3, x4⟩ := blk5 K)
    | (go_at_call 164; (with_reducible refine (ci _ hB).mono ?_); rintro e wb ⟨rfl, hbb⟩
       replace hB := below_next hB hbb
       replace K := K.next hbb
       obtain ⟨x0, x1, x2, x3, x4⟩ := blk5 K)
    | (go_at_call 164; (with_reducible refine (ck _ hB).mono ?_); rintro e wc ⟨rfl, hbc⟩
       replace hB := below_next hB hbc
       replace K := K.next hbc
       obtain ⟨x0, x1, x2, x3, x4⟩ := blk5 K))
  have SK : ∀ W', Blk W' w.heap.size 70 #[.string T, .slice iA a1 ic, .slice cA a2 cc, .bool pl, .bool pv] → Below w.heap.size w W' → (W'.cell? ⟨w.heap.size, 0, none⟩ = some (.string T) ∧ W'.cell? ⟨w.heap.size, 1, none⟩ = some (.slice iA a1 ic) ∧ W'.cell? ⟨w.heap.size, 2, none⟩ = some (.slice cA a2 cc) ∧ W'.cell? ⟨w.heap.size, 3, none⟩ = some (.bool pl) ∧ W'.cell? ⟨w.heap.size, 4, none⟩ = some (.bool pv) ∧ Blk W' w.heap.size 70 #[.string T, .slice iA a1 ic, .slice cA a2 cc, .bool pl, .bool pv] ∧ Below w.heap.size w W') := fun W' K B => by
    obtain ⟨x0, x1, x2, x3, x4⟩ := blk5 K
    exact ⟨x0, x1, x2, x3, x4, K, B⟩
  have hS0 := SK wc.drew K.drew hB.drew
  have cst2 : ∀ W', (W'.cell? ⟨w.heap.size, 0, none⟩ = some (.string T) ∧ W'.cell? ⟨w.heap.size, 1, none⟩ = some (.slice iA a1 ic) ∧ W'.cell? ⟨w.heap.size, 2, none⟩ = some (.slice cA a2 cc) ∧ W'.cell? ⟨w.heap.size, 3, none⟩ = some (.bool pl) ∧ W'.cell? ⟨w.heap.size, 4, none⟩ = some (.bool pv) ∧ Blk W' w.heap.size 70 #[.string T, .slice iA a1 ic, .slice cA a2 cc, .bool pl, .bool pv] ∧ Below w.heap.size w W') → Calls Tryz.prog 165 #[.agg #[.string T, .slice iA a1 ic, .slice cA a2 cc, .bool pl, .bool pv]] W' fun e w' => e = .returned (.int .i64 (sN : Int)) ∧ (w'.cell? ⟨w.heap.size, 0, none⟩ = some (.string T) ∧ w'.cell? ⟨w.heap.size, 1, none⟩ = some (.slice iA a1 ic) ∧ w'.cell? ⟨w.heap.size, 2, none⟩ = some (.slice cA a2 cc) ∧ w'.cell? ⟨w.heap.size, 3, none⟩ = some (.bool pl) ∧ w'.cell? ⟨w.heap.size, 4, none⟩ = some (.bool pv) ∧ Blk w' w.heap.size 70 #[.string T, .slice iA a1 ic, .slice cA a2 cc, .bool pl, .bool pv] ∧ Below w.heap.size w w') := fun W' hS => (cst W').mono (by
    rintro e w' ⟨rfl, hb⟩
    exact ⟨rfl, SK w' (hS.2.2.2.2.2.1.next hb) (below_next hS.2.2.2.2.2.2 hb)⟩)
  go_region_held3 (fun W' => (W'.cell? ⟨w.heap.size, 0, none⟩ = some (.string T) ∧ W'.cell? ⟨w.heap.size, 1, none⟩ = some (.slice iA a1 ic) ∧ W'.cell? ⟨w.heap.size, 2, none⟩ = some (.slice cA a2 cc) ∧ W'.cell? ⟨w.heap.size, 3, none⟩ = some (.bool pl) ∧ W'.cell? ⟨w.heap.size, 4, none⟩ = some (.bool pv) ∧ Blk W' w.heap.size 70 #[.string T, .slice iA a1 ic, .slice cA a2 cc, .bool pl, .bool pv] ∧ Below w.heap.size w W'))
    (first | (with_reducible assumption) | exact hS0)
    (first | (go_at_call 165; (with_reducible refine (cst2 _ (by first | assumption | exact hS0)).mono ?_); rintro e wd ⟨rfl, hSd⟩))
  rename_i hHd
  obtain ⟨-, -, -, -, -, -, hBd⟩ := hHd
  clear hS0 cst cst2 SK
  go_wp2
  go_ret
  exact ⟨by first | rfl | (rw [← hle]; rfl), hBd⟩
end Sel
end Go.Proofs.YtdfcahdipalmkaaGreatDoor
namespace Go.Proofs.YtdfcahdipalmkaaGreatDoor
open Go.ChangeShapes Go.WideShapes Go.ChangeAt Go.RowKit Go.Shelf
namespace Sel
open Tok
open RowG (Row)
set_option maxRecDepth 100000 in
set_option maxHeartbeats 8000000 in
theorem not1W_any (p : Sim) (iA cA : Option Addr) (ic cc : Nat) (hpf : p.ids.length ≤ 140737488351232 ∧ p.classes.length ≤ 140737488351232) (hs : ShSW p) (w : World) (h1 : Reads w w.heap.size 1 iA p.ids.length (p.ids.flatMap txC)) (h2 : Reads w w.heap.size 1 cA p.classes.length (p.classes.flatMap txC)) :
    Calls Tryz.prog 114 #[.agg #[.string (toB p.tag), .slice iA p.ids.length ic, .slice cA p.classes.length cc, .bool p.link, .bool p.visited]] w fun e w' => e = .returned (.bool (!maySim p)) ∧ Below w.heap.size w w' := by
  have hB := below_al (Below.refl w.heap.size w) (.cells #[.string (toB p.tag), .slice iA p.ids.length ic, .slice cA p.classes.length cc, .bool p.link, .bool p.visited] 70)
  have K := Blk.new w 70 #[.string (toB p.tag), .slice iA p.ids.length ic, .slice cA p.classes.length cc, .bool p.link, .bool p.visited]
  have cm := maySimW_any p iA cA ic cc hpf hs _ ((h1.below hB).more hB.size) ((h2.below hB).more hB.size)
  obtain ⟨x0, x1, x2, x3, x4⟩ := blk5 K
  clear h1 h2 hs hpf
  generalize maySim p = R at *
  generalize p.ids.length = a1 at *
  generalize p.classes.length = a2 at *
  generalize toB p.tag = T at *
  generalize p.link = pl at *
  generalize p.visited = pv at *
  go_enter Tryz.func114, Tryz.ntmps114
  go_wp2_with (go_at_call 115; (with_reducible refine cm.mono ?_); rintro e w1 ⟨rfl, hb⟩)
  go_ret
  exact ⟨rfl, below_next hB hb⟩
set_option maxHeartbeats 8000000 in
set_option maxRecDepth 100000 in
theorem indexPW_any (A : Option Addr) (n c : Nat) (ps : List Sim) (w : World) (h : SLR w w.heap.size A n ps) (hn : n ≤ 140737488351232) (hf : FewW ps) (hl : ShXW ps) :
    Calls Tryz.prog 162 #[.slice A n c, .func (.func 114) #[] #[]] w fun e w' => (∃ r : Int, e = .returned (.int .i64 r) ∧ decide (0 ≤ r) = !ps.all maySim) ∧ Below w.heap.size w w' := by
  have hlen := h.len
  obtain ⟨R, hR⟩ : ∃ R, R = !ps.all maySim := ⟨_, rfl⟩
  rw [← hR]
  have HR := Lib.hid hR
  have HS := Lib.hid hl
  have HF := Lib.hid hf
  clear hR hl hf
  go_enter Tryz.func162, Tryz.ntmps162
  go_wp2
  go_loopw [8] (fun i wr => ∃ k : Nat, k ≤ n ∧ i = .int .i64 k ∧ Hid (∀ (j : Nat) (x : Sim), j < k → ps[j]? = some x → maySim x = true) ∧ Below w.heap.size w wr) (fun i _ => n - (intOf i).toNat)
  case atStart => exact ⟨0, Nat.zero_le _, rfl, fun j x h => absurd h (by omega), Below.refl _ _⟩
  case round =>
    obtain ⟨k, hk, rfl, HK, hBr⟩ := hrel
    by_cases hlt : k < n
    · have hkl : k < ps.length := by omega
      obtain ⟨p, hp⟩ : ∃ p, ps[k]? = some p := ⟨ps[k], List.getElem?_eq_getElem hkl⟩
      obtain ⟨ad, pA, pc, pK, pd, rfl, hb1, e0, e1, e2, e3, e4, r1, r2⟩ := (h.below hBr (Nat.le_refl _)).at_ hp
      have c1 := not1W_any p pA pK pc pd (HF.out p (List.mem_of_getElem? hp)) (HS.out p (List.mem_of_getElem? hp)) wr (r1.more hBr.size) (r2.more hBr.size)
      have hki : (k : Int) < (n : Int) := by omega
      have k0 : (0 : Int) ≤ (k : Int) := Int.natCast_nonneg _
      cases hm : maySim p with
      | false =>
        obtain rfl : R = true := by
          rw [HR.out]
          have : ps.all maySim = false := by rw [List.all_eq_false]; exact ⟨p, List.mem_of_getElem? hp, by rw [hm]; decide⟩
          rw [this]; rfl
        rw [hm] at c1
        clear hp hm HK r1 r2
        go_wp2_with (go_at_call 114; (with_reducible refine c1.mono ?_); rintro e w1 ⟨rfl, hb⟩; have hB1 := below_next hBr hb)
        go_ret
        exact ⟨⟨_, rfl, decide_eq_true k0⟩, hB1⟩
      | true =>
        have HK' : Hid (∀ (j : Nat) (x : Sim), j < k + 1 → ps[j]? = some x → maySim x = true) := by
          intro j x hj hx
          by_cases e : j = k
          · subst e
            rw [hp] at hx
            injection hx with hx
            subst hx
            exact hm
          · exact HK.out j x (by omega) hx
        rw [hm] at c1
        clear hp hm HK r1 r2
        go_wp2_with (go_at_call 114; (with_reducible refine c1.mono ?_); rintro e w1 ⟨rfl, hb⟩; have hB1 := below_next hBr hb)
        go_roundw
        case rel => exact ⟨k + 1, by omega, by go_num, HK', hB1⟩
        case measure => simp [intOf]; omega
    · obtain rfl : k = n := by omega
      obtain rfl : R = false := by
        rw [HR.out]
        have : ps.all maySim = true := by
          rw [List.all_eq_true]
          intro x hx
          obtain ⟨j, hj, e⟩ := List.getElem_of_mem hx
          exact HK.out j x (by omega) (by rw [List.getElem?_eq_getElem hj, e])
        rw [this]; rfl
      go_wp2
      go_ret
      exact ⟨⟨-1, rfl, rfl⟩, hBr⟩
set_option maxHeartbeats 4000000 in
set_option maxRecDepth 100000 in
theorem containsPW_any (A : Option Addr) (n c : Nat) (ps : List Sim) (w : World) (h : SLR w w.heap.size A n ps) (hn : n ≤ 140737488351232) (hf : FewW ps) (hl : ShXW ps) :
    Calls Tryz.prog 113 #[.slice A n c, .func (.func 114) #[] #[]] w fun e w' => e = .returned (.bool (!ps.all maySim)) ∧ Below w.heap.size w w' := by
  have c1 := indexPW_any A n c ps w h hn hf hl
  generalize (!ps.all maySim) = R at *
  clear h hl
  go_enter Tryz.func113, Tryz.ntmps113
  go_wp2_with (go_at_call 162; (with_reducible refine c1.mono ?_); rintro e w1 ⟨⟨r, rfl, hR⟩, hb⟩)
  go_ret
  exact ⟨rfl, hb⟩
set_option maxRecDepth 100000 in
set_option maxHeartbeats 8000000 in
theorem mayW_any (A K : Option Addr) (n c m d : Nat) (x : Slr) (hn : n ≤ 140737488351232) (hmm : m ≤ 9223372036854775807) (hf : FewW x.parts) (hs : ShXW x.parts) (w : World) (h1 : SLR w w.heap.size A n x.parts) (h2 : BLR w w.heap.size K m x.close) :
    Calls Tryz.prog 76 #[.agg #[.slice A n c, .slice K m d]] w fun e w' => e = .returned (.bool (maySlr x)) ∧ Below w.heap.size w w' := by
  have hB := below_al (Below.refl w.heap.size w) (.cells #[.slice A n c, .slice K m d] 68)
  have cc := containsPW_any A n c x.parts _ (h1.below hB hB.size) hn hf hs
  have hl := h1.len
  have hm := h2.len
  have hR : maySlr x = (decide (1 ≤ n) && decide (n ≤ 8) && decide (m + 1 = n) && x.parts.all maySim) := by unfold maySlr; rw [hl, hm]
  rw [hR]
  clear hR hl hm h1 h2 hf hs
  generalize x.parts.all maySim = R at *
  go_enter Tryz.func76, Tryz.ntmps76
  by_cases g1 : 1 ≤ n
  · by_cases g2 : n ≤ 8
    · by_cases g3 : m + 1 = n
      · subst g3
        have w1 : IntKind.i64.wrap (((m + 1 : Nat) : Int) - 1) = ((m + 1 : Nat) : Int) - 1 := by rw [IntKind.wrap_i64]; omega
        rw [decide_eq_true g1, decide_eq_true g2, decide_eq_true rfl]
        go_wp2_with (go_at_call 113; (with_reducible refine cc.mono ?_); rintro e w1 ⟨rfl, hb⟩)
        go_ret
        exact ⟨by cases R <;> rfl, below_next hB hb⟩
      · rw [decide_eq_false g3]
        have hne : ((m : Int) != (n : Int) - 1) = true := by simp; omega
        have w1 : IntKind.i64.wrap ((n : Int) - 1) = (n : Int) - 1 := by rw [IntKind.wrap_i64]; omega
        go_wp2
        go_ret
        exact ⟨by simp, hB⟩
    · rw [decide_eq_false g2]
      go_wp2
      go_ret
      exact ⟨by simp, hB⟩
  · rw [decide_eq_false g1]
    go_wp2
    go_ret
    exact ⟨by simp, hB⟩
end Sel
end Go.Proofs.YtdfcahdipalmkaaGreatDoor
