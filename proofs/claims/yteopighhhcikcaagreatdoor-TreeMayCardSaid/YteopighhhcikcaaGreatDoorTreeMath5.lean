/- What is built: its attributes are tokens', its sizes. Conditions: none. -/
import Derived.Test.YteopighhhcikcaaGreatDoorTreeR
import Derived.Test.YteopighhhcikcaaGreatDoorTreeMath4
import Derived.Deep.RegionLaw
import Derived.BigRegion
import Derived.Test.YteopighhhcikcaaGreatDoorTreeO
/- tree's mayRoot and mayNode answer true where a node may be. Conditions: not too many attributes. -/
namespace Go.Proofs.YteopighhhcikcaaGreatDoor
open Go.ChangeShapes Go.WideShapes Go.ChangeAt Go.RowKit Go.Shelf
namespace Tre
open Tok
open RowG (Row)
set_option maxRecDepth 100000 in
set_option maxHeartbeats 8000000 in
theorem mayRoot_yes (cA cK : Option Addr) (cc kn kd : Nat) (nd : Nd) (hm : mayRoot nd = true) (w : World) :
    Calls Tryz.prog 67 #[.agg #[.int .i64 nd.parent, .string (toB nd.tag), .string (toB nd.text), .slice cA nd.attrs.length cc, .slice cK kn kd]] w fun e w' => e = .returned (.bool true) ∧ Below w.heap.size w w' := by
  unfold mayRoot at hm
  simp only [Bool.and_eq_true, decide_eq_true_eq] at hm
  obtain ⟨⟨⟨h1, h2⟩, h3⟩, h4⟩ := hm
  rw [h1, h2, h3, h4, show toB rootT = ⟨#[114, 111, 111, 116]⟩ from rfl, show toB [] = ⟨#[]⟩ from rfl, show ([] : List At).length = 0 from rfl]
  clear h1 h2 h3 h4
  have hB1 := below_al (Below.refl w.heap.size w) (.cells #[.int .i64 (-1), .string ⟨#[114, 111, 111, 116]⟩, .string ⟨#[]⟩, .slice cA 0 cc, .slice cK kn kd] 54)
  go_enter Tryz.func67, Tryz.ntmps67
  go_wp2
  go_ret
  exact ⟨rfl, hB1⟩
set_option maxRecDepth 100000 in
set_option maxHeartbeats 8000000 in
theorem mayNode_yes (cA cK : Option Addr) (cc kd : Nat) (nd : Nd) (hm : mayNd nd = true) (hl : nd.attrs.length ≤ 900000) (hz : ∀ a ∈ nd.attrs, a.1.length ≤ maxLen) (htl : nd.tag.length ≤ maxLen) (w : World) (hr : Reads w w.heap.size 2 cA nd.attrs.length (nd.attrs.flatMap atC)) :
    Calls Tryz.prog 69 #[.agg #[.int .i64 nd.parent, .string (toB nd.tag), .string (toB nd.text), .slice cA nd.attrs.length cc, .slice cK nd.kids.length kd]] w fun e w' => e = .returned (.bool true) ∧ Below w.heap.size w w' := by
  unfold mayNd at hm
  by_cases ht : nd.tag = []
  · rw [if_pos ht] at hm
    simp only [Bool.and_eq_true, decide_eq_true_eq] at hm
    obtain ⟨⟨h1, h2⟩, h3⟩ := hm
    rw [ht, h2, h3, show toB [] = ⟨#[]⟩ from rfl, show ([] : List At).length = 0 from rfl, show ([] : List Int).length = 0 from rfl]
    have q1 : ((toB nd.text).toList == ([] : List UInt8)) = false := by
      rw [ByteArray.toList_eq]
      show (nd.text == []) = _
      cases hq : nd.text with
      | nil => exact absurd hq h1
      | cons a b => rfl
    have q2 : (toB nd.text).toList.isEmpty = false := by
      rw [ByteArray.toList_eq]
      show nd.text.isEmpty = _
      cases hq : nd.text with
      | nil => exact absurd hq h1
      | cons a b => rfl
    have q4 : ¬ ((toB nd.text).toList = []) := by
      rw [ByteArray.toList_eq]
      exact h1
    have hB1 := below_al (Below.refl w.heap.size w) (.cells #[.int .i64 nd.parent, .string ⟨#[]⟩, .string (toB nd.text), .slice cA 0 cc, .slice cK 0 kd] 54)
    generalize toB nd.text = tx at *
    clear ht h1 h2 h3 hr hz hl htl
    go_enter Tryz.func69, Tryz.ntmps69
    go_wp2
    go_ret
    exact ⟨rfl, hB1⟩
  · rw [if_neg ht] at hm
    by_cases himg : nd.tag = imgT ∧ nd.kids ≠ []
    · rw [if_pos himg] at hm; cases hm
    · rw [if_neg himg] at hm
      simp only [Bool.and_eq_true, decide_eq_true_eq] at hm
      obtain ⟨⟨⟨h1, h2⟩, h3⟩, h4⟩ := hm
      have p1 := toB_eq nd.tag rootT
      rw [show (toB rootT).toList = [114, 111, 111, 116] from by rw [ByteArray.toList_eq]; rfl, decide_eq_false h2] at p1
      have p2 := toB_eq nd.tag imgT
      rw [show (toB imgT).toList = [105, 109, 103] from by rw [ByteArray.toList_eq]; rfl] at p2
      have q1 : ((toB nd.tag).toList == ([] : List UInt8)) = false := by
        rw [ByteArray.toList_eq]
        show (nd.tag == []) = _
        cases hq : nd.tag with
        | nil => exact absurd hq ht
        | cons a b => rfl
      have q2 : (toB nd.tag).toList.isEmpty = false := by
        rw [ByteArray.toList_eq]
        show nd.tag.isEmpty = _
        cases hq : nd.tag with
        | nil => exact absurd hq ht
        | cons a b => rfl
      have q4 : ¬ ((toB nd.tag).toList = []) := by
        rw [ByteArray.toList_eq]
        exact ht
      have cn := fun w => name_any nd.tag htl w
      rw [h1] at cn
      rw [h3, show toB [] = ⟨#[]⟩ from rfl]
      have K1 := Blk.new w 54 #[.int .i64 nd.parent, .string (toB nd.tag), .string ⟨#[]⟩, .slice cA nd.attrs.length cc, .slice cK nd.kids.length kd]
      have hB1 := below_al (Below.refl w.heap.size w) (.cells #[.int .i64 nd.parent, .string (toB nd.tag), .string ⟨#[]⟩, .slice cA nd.attrs.length cc, .slice cK nd.kids.length kd] 54)
      have cat := fun w' (hb : Below w.heap.size w w') => mayAttrs_any cA nd.attrs.length cc nd.attrs hl w' ((hr.below hb).more hb.size) hz
      rw [h4] at cat
      have hkk : nd.tag = imgT → nd.kids.length = 0 := fun e => by
        by_cases hk : nd.kids = []
        · rw [hk]; rfl
        · exact absurd ⟨e, hk⟩ himg
      generalize nd.kids.length = M at *
      generalize nd.attrs.length = N at *
      have harm : ∀ w2, Below w.heap.size w w2 → True := fun _ _ => trivial
      by_cases hi : nd.tag = imgT
      · rw [decide_eq_true hi] at p2
        have hM := hkk hi
        subst hM
        generalize toB nd.tag = tg at *
        clear ht h1 h2 h3 h4 hr hz hl htl hi hkk himg harm
        go_enter Tryz.func69, Tryz.ntmps69
        go_wp2_with (first
          | (go_at_call 20; (with_reducible refine (cn _).mono ?_); rintro e w2 ⟨rfl, hb2⟩
             have K2 := K1.next hb2
             have z1 := K2.cell 1
             have z2 := K2.cell 2
             have z3 := K2.cell 3
             have hB2 := below_next hB1 hb2
             have ca2 := cat w2 hB2)
          | (go_at_call 102; (with_reducible refine ca2.mono ?_); rintro e w3 ⟨rfl, hb3⟩))
        go_ret
        exact ⟨rfl, below_next hB2 hb3⟩
      · rw [decide_eq_false hi] at p2
        generalize toB nd.tag = tg at *
        clear ht h1 h2 h3 h4 hr hz hl htl hi hkk himg harm
        go_enter Tryz.func69, Tryz.ntmps69
        go_wp2_with (first
          | (go_at_call 20; (with_reducible refine (cn _).mono ?_); rintro e w2 ⟨rfl, hb2⟩
             have K2 := K1.next hb2
             have z1 := K2.cell 1
             have z2 := K2.cell 2
             have z3 := K2.cell 3
             have hB2 := below_next hB1 hb2
             have ca2 := cat w2 hB2)
          | (go_at_call 102; (with_reducible refine ca2.mono ?_); rintro e w3 ⟨rfl, hb3⟩))
        go_ret
        exact ⟨rfl, below_next hB2 hb3⟩
end Tre
end Go.Proofs.YteopighhhcikcaaGreatDoor
/- tree's standsWell answers true where a node stands well. Conditions: the nodes lie in memory, at most a million. -/
namespace Go.Proofs.YteopighhhcikcaaGreatDoor
open Go.ChangeShapes Go.WideShapes Go.ChangeAt Go.RowKit Go.Shelf
namespace Tre
open Tok
attribute [local go_sem] Oper.semAt_some
attribute [local go_sem] wide_fn
attribute [local simp] wide_fn
theorem stands_none {ns : List Nd} {k : Nat} (h : ∀ a ∈ up ns ((k : Int) - 1), decide ((a : Int) = par ns k) = false) : stands ns k = false := by
  unfold stands
  rw [find_no h]
theorem stands_some {ns : List Nd} {k a : Nat} {pre : List Nat} (hp : pre ++ [a] <+: up ns ((k : Int) - 1)) (h : ∀ y ∈ pre, decide ((y : Int) = par ns k) = false) (ha : decide ((a : Int) = par ns k) = true) : stands ns k = decide ((up ns a).length ≤ 12) := by
  have : (up ns ((k : Int) - 1)).find? (fun a : Nat => decide ((a : Int) = par ns k)) = some a := by
    obtain ⟨r, hr⟩ := hp
    rw [← hr, List.append_assoc, List.find?_append, find_no h]
    show (none : Option Nat).or ((a :: r).find? (fun a : Nat => decide ((a : Int) = par ns k))) = _
    rw [Option.none_or]
    exact List.find?_cons_of_pos ha
  unfold stands
  rw [this]
set_option maxHeartbeats 16000000 in
set_option maxRecDepth 100000 in
theorem stands_in (A : Option Addr) (n c : Nat) (ns : List Nd) (k : Nat) (hn : n ≤ 1000000) (hk0 : 0 < k) (hkn : k < n) (hst : stands ns k = true) (w : World) (hr : PR w w.heap.size A n ns) :
    CallsIn Fence.wide 8 Tryz.prog 68 #[.slice A n c, .int .i64 (k : Int)] w fun e w' => e = .returned (.bool true) ∧ Below w.heap.size w w' := by
  have hki : (k : Int) - 1 = ((k - 1 : Nat) : Int) := by omega
  have HST := Lib.hid hst
  have K1 := ((Blk.new w 46 #[.slice A n c]).alloc (.cells #[.int .i64 (k : Int)] 3)).alloc (.cells #[.bool false] 4)
  have K2 := (Blk.new (w.alloc (.cells #[.slice A n c] 46)) 3 #[.int .i64 (k : Int)]).alloc (.cells #[.bool false] 4)
  have K3 := Blk.new ((w.alloc (.cells #[.slice A n c] 46)).alloc (.cells #[.int .i64 (k : Int)] 3)) 4 #[.bool false]
  have hB1 := below_al (below_al (below_al (Below.refl w.heap.size w) (.cells #[.slice A n c] 46)) (.cells #[.int .i64 (k : Int)] 3)) (.cells #[.bool false] 4)
  have hz1 : (((w.alloc (.cells #[.slice A n c] 46)).alloc (.cells #[.int .i64 (k : Int)] 3)).alloc (.cells #[.bool false] 4)).heap.size = w.heap.size + 3 := by simp only [World.size_alloc]
  rw [size_al] at K2
  rw [size_al, size_al] at K3
  clear hst
  refine callsIn_of_wp_marks Tryz.func68 rfl trivial ?_ rfl
  simp only [Tryz.ntmps68, List.size_toArray, List.length_cons, List.length_nil, Nat.reduceAdd, Nat.reduceSub, Array.replicate_succ, Array.replicate_zero, List.push_toArray, List.append_toArray, List.nil_append, List.cons_append]
  gi_wp2_with (gi_at_call 96; (with_reducible refine (callsIn_wide.2 (upFrom_any A n c _ _)).mono ?_); rintro e w2 ⟨rfl, rfl⟩)
  generalize ((w.alloc (.cells #[.slice A n c] 46)).alloc (.cells #[.int .i64 (k : Int)] 3)).alloc (.cells #[.bool false] 4) = W1 at *
  have hz2 : ((W1.alloc (.cells #[.slice A n c] 46)).alloc (.cells #[.int .i64 ((k - 1 : Nat) : Int)] 3)).heap.size = w.heap.size + 5 := by rw [size_al, size_al, hz1]
  have KS : Blk ((W1.alloc (.cells #[.slice A n c] 46)).alloc (.cells #[.int .i64 ((k - 1 : Nat) : Int)] 3)) (w.heap.size + 3) 46 #[.slice A n c] := by
    have := (Blk.new W1 46 #[.slice A n c]).alloc (.cells #[.int .i64 ((k - 1 : Nat) : Int)] 3)
    rw [hz1] at this
    exact this
  have KP : Blk ((W1.alloc (.cells #[.slice A n c] 46)).alloc (.cells #[.int .i64 ((k - 1 : Nat) : Int)] 3)) (w.heap.size + 3 + 1) 3 #[.int .i64 ((k - 1 : Nat) : Int)] := by
    have := Blk.new (W1.alloc (.cells #[.slice A n c] 46)) 3 #[.int .i64 ((k - 1 : Nat) : Int)]
    rw [size_al, hz1] at this
    exact this
  have hB12 : Below W1.heap.size W1 ((W1.alloc (.cells #[.slice A n c] 46)).alloc (.cells #[.int .i64 ((k - 1 : Nat) : Int)] 3)) := below_al (below_al (Below.refl _ _) _) _
  generalize (W1.alloc (.cells #[.slice A n c] 46)).alloc (.cells #[.int .i64 ((k - 1 : Nat) : Int)] 3) = W2 at *
  have hB2 := below_next hB1 hB12
  have K12 := K1.next hB12
  have K22 := K2.next hB12
  have K32 := K3.next hB12
  have hpr2 := hr.below hB2 (Nat.le_refl _)
  refine wpIn_rangeFunc_ownG (F := Fence.wide) rfl (by omega) (gf := 127) (lb := #[.pointer (some ⟨w.heap.size + 3, 0, none⟩), .pointer (some ⟨w.heap.size + 3 + 1, 0, none⟩)]) rfl trivial (enters_of Tryz.func127 (by kernel_rfl) rfl)
    (iter_stops 7 (w.heap.size + 3) (w.heap.size + 3 + 1) (w.heap.size + 5) (w.heap.size + 5) A n c w.heap.size ns ((k - 1 : Nat) : Int) (by omega) (by omega) (by omega) (by omega) (by omega) (by omega) W2 (by omega) hpr2 (KS.cell 0) (KP.cell 0)) keepsBut_t (keepsBut_b (by omega)) (Below.refl _ _) (fun _ => rfl)
    (fun pre W => (∀ y ∈ pre, decide ((y.1 : Int) = par ns k) = false) ∧ KeepsBut (w.heap.size + 5) (w.heap.size + 5) W2 W)
    (fun c pre W => c = Code.ret ∧ ∃ pre' x, pre = pre' ++ [x] ∧ (∀ y ∈ pre', decide ((y.1 : Int) = par ns k) = false) ∧ decide ((x.1 : Int) = par ns k) = true ∧ Blk W (w.heap.size + 1 + 1) 4 #[.bool (decide (((up ns x.1).length : Int) - 1 < 12))] ∧ Below w.heap.size w W)
    (fun pre W W' row hs hg hrr => ⟨hs.1, hs.2.grown hg (by rw [← hz2]; exact hs.2.size) (fun k e => by have := (hrr k e).1; omega)⟩)
    (fun c pre W W' row hs hg hrr => by
      obtain ⟨hc, pre', x, e, q1, q2, q3, q4⟩ := hs
      refine ⟨hc, pre', x, e, q1, q2, blk_kt q3 (kt_rec hg (fun r hr => (hrr r hr).2) _), q4.grown hg q4.size (fun k e => by have := (hrr k e).1; omega)⟩)
    ⟨fun y hy => by simp at hy, KeepsBut.refl _ _ _⟩
    (fun x => { tmps := #[.slice A n c, .int .i64 (k : Int), .pointer (some ⟨w.heap.size, 0, none⟩), .pointer (some ⟨w.heap.size + 1, 0, none⟩), .pointer (some ⟨w.heap.size + 1 + 1, 0, none⟩), .int .i64 (x.1 : Int), .slice A n c, .int .i64 (k : Int), .int .i64 ((k - 1 : Nat) : Int), .func (.func 127) #[] #[.pointer (some ⟨w.heap.size + 3, 0, none⟩), .pointer (some ⟨w.heap.size + 3 + 1, 0, none⟩)], .int .i64 (x.1 : Int), undef, undef, undef, undef, undef, undef, undef, undef, undef, undef, undef], defers := [] }) ?assign ?body ?done ?stop
  case assign =>
    intro li x W K hK
    dsimp only [encs]
    gi_wp2
    simpa using hK
  case body =>
    rintro li pre ⟨x, hxl⟩ W ⟨hno, hK⟩ hlt
    dsimp only at *
    have hbW : Below W2.heap.size W2 W := ⟨hK.os, hK.tape, hK.output, hK.size, fun k hk => hK.block k (by omega) (by omega)⟩
    have J1 := K12.next hbW
    have J2 := K22.next hbW
    have J3 := K32.next hbW
    have j1 := J1.cell 0
    have j2 := J2.cell 0
    have j3 := J3.cell 0
    simp only [List.getElem?_toArray, List.getElem?_cons_zero] at j1 j2 j3
    have hwW : w.heap.size ≤ W2.heap.size := hB2.size
    have hprW := hpr2.below (hbW.mono hwW) (Nat.le_refl _)
    have cd := depth_any A n c ns (x : Int) hn W (hprW.below (Below.refl _ _) (by have := hbW.size; omega))
    obtain ⟨ad, rfl, -, e0, -⟩ := hprW.at_ hkn
    have hki2 : (k : Int) < (n : Int) := by omega
    have hk02 : (0 : Int) ≤ (k : Int) := Int.natCast_nonneg _
    have HNO := Lib.hid hno
    obtain ⟨N, hN⟩ : ∃ N, N = (up ns (x : Int)).length := ⟨_, rfl⟩
    have HNN := Lib.hid hN
    rw [← hN] at cd
    have hBW : Below w.heap.size w W := below_next hB2 hbW
    clear hno hN hr hki hpr2 KS KP K1 K2 K3
    by_cases hit : (x : Int) = par ns k
    · have hb : ((x : Int) == par ns k) = true := by rw [beq_iff_eq]; exact hit
      have HIT : Hid (decide ((x : Int) = par ns k) = true) := decide_eq_true hit
      clear hit
      generalize par ns k = pk at *
      gi_wp2_with (gi_at_call 63; (with_reducible refine (CallsIn.inRound li (callsIn_wide.2 cd)).mono ?_); rintro e w3 ⟨rfl, hb3⟩
                   have J33 := J3.next hb3
                   have j33 := J33.cell 0
                   have f33 := J33.frozen 0)
      have hk1 : Below W.heap.size W w3 := hb3
      exact ⟨((oth_below hk1).trans (KeepsOthers.setCell _ _ _)).from _, rfl, pre, ⟨x, hxl⟩, rfl, HNO.out, HIT.out, by rw [← HNN.out]; exact J33.set_ 0 _, below_set (below_next hBW hk1) (p := ⟨w.heap.size + 1 + 1, 0, none⟩) (by show w.heap.size ≤ w.heap.size + 1 + 1; omega) _⟩
    · have hb : ((x : Int) == par ns k) = false := beq_eq_false_iff_ne.2 hit
      have HIT : Hid (decide ((x : Int) = par ns k) = false) := decide_eq_false hit
      clear hit
      generalize par ns k = pk at *
      gi_wp2
      refine ⟨(oth_below (Below.refl _ _)).from _, KeepsBut.refl _ _ _, ?_, hK⟩
      intro y hy
      rcases List.mem_append.1 hy with hy | hy
      · exact HNO.out y hy
      · rw [List.mem_singleton] at hy
        subst hy
        exact HIT.out
  case done =>
    rintro D ys W hD hys ⟨hno, hK⟩ hDef
    have : stands ns k = false := stands_none (fun a ha => by
      rw [hki, ← hys] at ha
      obtain ⟨y, hy, rfl⟩ := List.mem_map.1 ha
      exact hno y hy)
    rw [HST.out] at this
    cases this
  case stop =>
    rintro D c pre W hD hpre ⟨rfl, pre', x, rfl, q1, q2, q3, q4⟩ hDef
    have hss := stands_some (ns := ns) (k := k) (pre := pre'.map (·.1)) (a := x.1) (by rw [hki]; rw [List.map_append] at hpre; exact hpre) (fun y hy => by
      obtain ⟨z, hz, rfl⟩ := List.mem_map.1 hy
      exact q1 z hz) q2
    rw [HST.out] at hss
    have hlt : decide (((up ns x.1).length : Int) - 1 < 12) = true := by
      have := of_decide_eq_true hss.symm
      rw [decide_eq_true_eq]
      omega
    rw [hlt] at q3
    have q5 := blk_kt q3 (kt_rec (grownBy_putObj' W D (.deferred none)) (fun r hr => by injection hr with hr; subst hr; exact ⟨_, hDef, rfl⟩) _)
    have c5 := q5.cell 0
    simp only [List.getElem?_toArray, List.getElem?_cons_zero] at c5
    clear hss hlt hpre q1 q2 hr hpr2
    gi_wp2_with (fail)
    refine ⟨by simp, .inl ⟨_, _, rfl, run_takeDeferred hDef, ?_⟩⟩
    exact ⟨.bool true, by simp [results, Tryz.results68, go_sem, c5], rfl, q4.trans (belowK_b (w := w) (Nat.le_refl _) W D _ _ (by omega) hDef rfl rfl)⟩
theorem stands_yes (A : Option Addr) (n c : Nat) (ns : List Nd) (k : Nat) (hn : n ≤ 1000000) (hk0 : 0 < k) (hkn : k < n) (hst : stands ns k = true) (w : World) (hr : PR w w.heap.size A n ns) :
    Calls Tryz.prog 68 #[.slice A n c, .int .i64 (k : Int)] w fun e w' => e = .returned (.bool true) ∧ Below w.heap.size w w' := callsIn_wide.1 (stands_in A n c ns k hn hk0 hkn hst w hr)
end Tre
end Go.Proofs.YteopighhhcikcaaGreatDoor
/- slices.Equal answers true for equal numbers; tree's textsStandSideBySide. Conditions: at most a million. -/
namespace Go.Proofs.YteopighhhcikcaaGreatDoor
open Go.ChangeShapes Go.WideShapes Go.ChangeAt Go.RowKit Go.Shelf
namespace Tre
open Tok
set_option maxRecDepth 100000 in
set_option maxHeartbeats 8000000 in
theorem equal_yes (A : Option Addr) (n c : Nat) (A2 : Option Addr) (c2 : Nat) (l : List Int) (hn : n ≤ 1000000) (w : World) (h1 : Reads w w.heap.size 1 A n (l.flatMap kidC)) (h2 : Reads w w.heap.size 1 A2 n (l.flatMap kidC)) :
    Calls Tryz.prog 103 #[.slice A n c, .slice A2 n c2] w fun e w' => e = .returned (.bool true) ∧ Below w.heap.size w w' := by
  have hl : l.length = n := by have := h1.1; rw [flat_len kidC_len] at this; omega
  have HL := Lib.hid hl
  clear hl
  go_enter Tryz.func103, Tryz.ntmps103
  go_wp2
  go_loopw [13] (fun iv wr => ∃ k : Nat, k ≤ n ∧ iv = .int .i64 k ∧ Below w.heap.size w wr) (fun iv _ => n - (intOf iv).toNat)
  case atStart => exact ⟨0, Nat.zero_le _, rfl, Below.refl _ _⟩
  case round =>
    obtain ⟨k, hk, rfl, hBr⟩ := hrel
    by_cases hlt : k < n
    · obtain ⟨x, hx⟩ : ∃ x, l[k]? = some x := ⟨_, List.getElem?_eq_getElem (by rw [HL.out]; exact hlt)⟩
      obtain ⟨a1, rfl, -, k1⟩ := kid_of (h1.below hBr) hx
      obtain ⟨a2, rfl, -, k2⟩ := kid_of (h2.below hBr) hx
      have hki : (k : Int) < (n : Int) := by omega
      have hk0 : (0 : Int) ≤ (k : Int) := Int.natCast_nonneg _
      clear hx h1 h2
      go_upto_region 6 with (fail)
      go_quiet (fail)
      go_wp2
      go_roundw
      case rel => exact ⟨k + 1, by omega, by go_num, below_dr hBr nq⟩
      case measure => simp [intOf]; omega
    · obtain rfl : k = n := by omega
      go_wp2
      go_ret
      exact ⟨rfl, hBr⟩
/-- Of two that stand side by side one is no text. -/
theorem side2_at {ns : List Nd} : ∀ (l : List Int) (i : Nat) (a b : Int), side2 ns l = false → l[i]? = some a → l[i + 1]? = some b → ¬(tagOf ns a.toNat = [] ∧ tagOf ns b.toNat = []) := by
  intro l
  induction l with
  | nil => intro i a b _ h; simp at h
  | cons x r ih =>
    intro i a b h ha hb
    cases r with
    | nil => simp at hb
    | cons y r =>
      have h : ((decide (tagOf ns x.toNat = []) && decide (tagOf ns y.toNat = [])) || side2 ns (y :: r)) = false := h
      rw [Bool.or_eq_false_iff] at h
      cases i with
      | zero =>
        have ha : x = a := by simpa using ha
        have hb : y = b := by simpa using hb
        subst ha hb
        rintro ⟨p, q⟩
        have := h.1
        rw [p, q] at this
        simp at this
      | succ i => exact ih i a b h.2 (by simpa using ha) (by simpa using hb)
set_option maxRecDepth 100000 in
set_option maxHeartbeats 16000000 in
theorem sides_no (A : Option Addr) (n c : Nat) (ns : List Nd) (hn : n ≤ 1000000) (hk : ∀ nd ∈ ns, nd.kids.length ≤ 1000000 ∧ (∀ k ∈ nd.kids, 0 ≤ k ∧ k < (n : Int)) ∧ side2 ns nd.kids = false) (w : World) (h : NR w w.heap.size A n ns) :
    Calls Tryz.prog 71 #[.slice A n c] w fun e w' => e = .returned (.bool false) ∧ Below w.heap.size w w' := by
  have HL := Lib.hid h.len
  have HK := Lib.hid hk
  clear hk
  go_enter Tryz.func71, Tryz.ntmps71
  go_wp2
  go_loopw [8] (fun iv wr => ∃ k : Nat, k ≤ n ∧ iv = .int .i64 k ∧ Below w.heap.size w wr) (fun iv _ => n - (intOf iv).toNat)
  case atStart => exact ⟨0, Nat.zero_le _, rfl, Below.refl _ _⟩
  case round =>
    obtain ⟨k, hkn, rfl, hBr⟩ := hrel
    by_cases hlt : k < n
    · obtain ⟨nd, hnd⟩ : ∃ nd, ns[k]? = some nd := ⟨_, List.getElem?_eq_getElem (by rw [HL.out]; exact hlt)⟩
      obtain ⟨hm1, hm2, hm3⟩ := HK.out nd (List.mem_of_getElem? hnd)
      have g1 := h.below hBr (Nat.le_refl _)
      obtain ⟨ad, cA, cc, cK, cd, rfl, hb, e0, e1, e2, e3, e4, r1, r2⟩ := g1.at_ hnd
      have hki : (k : Int) < (n : Int) := by omega
      have hk0 : (0 : Int) ≤ (k : Int) := Int.natCast_nonneg _
      obtain ⟨M, hMe⟩ : ∃ M, M = nd.kids.length := ⟨_, rfl⟩
      have HMK := Lib.hid hMe
      rw [← hMe] at e4 r2 hm1
      have HM2 := Lib.hid hm2
      have HM3 := Lib.hid hm3
      generalize nd.attrs.length = mA at *
      have KB := Blk.new wr 54 #[.int .i64 nd.parent, .string (toB nd.tag), .string (toB nd.text), .slice cA mA cc, .slice cK M cd]
      have hB1 := below_al hBr (.cells #[.int .i64 nd.parent, .string (toB nd.tag), .string (toB nd.text), .slice cA mA cc, .slice cK M cd] 54)
      clear hMe hm2 hm3 hnd g1 r1
      have r21 := r2.below ((below_al (Below.refl wr.heap.size wr) (.cells #[.int .i64 nd.parent, .string (toB nd.tag), .string (toB nd.text), .slice cA mA cc, .slice cK M cd] 54)).mono hBr.size)
      go_wp2
      obtain ⟨Y, hY⟩ : ∃ Y, Y = wr.heap.size := ⟨_, rfl⟩
      rw [← hY] at KB ⊢
      clear hY
      generalize wr.alloc (.cells #[.int .i64 nd.parent, .string (toB nd.tag), .string (toB nd.text), .slice cA mA cc, .slice cK M cd] 54) = W1 at *
      go_loopw [5] (fun jv wj => ∃ j : Nat, 1 ≤ j ∧ (j ≤ M ∨ j = 1) ∧ jv = .int .i64 j ∧ Below W1.heap.size W1 wj) (fun jv _ => M - (intOf jv).toNat)
      case atStart => exact ⟨1, Nat.le_refl _, .inr rfl, rfl, Below.refl _ _⟩
      case round =>
        obtain ⟨j, hj1, hj, rfl, hBj⟩ := hrel
        have y4 := (KB.next hBj).cell 4
        simp only [List.getElem?_toArray, List.getElem?_cons_zero, List.getElem?_cons_succ] at y4
        have hBw := hBj.mono hB1.size
        by_cases hjm : j < M
        · obtain ⟨p, hp⟩ : ∃ p, p = j - 1 := ⟨_, rfl⟩
          have hjp : (j : Int) - 1 = (p : Int) := by omega
          have hjp2 : j = p + 1 := by omega
          obtain ⟨a, ha⟩ : ∃ a, nd.kids[p]? = some a := ⟨_, List.getElem?_eq_getElem (by rw [← HMK.out]; omega)⟩
          obtain ⟨b, hb⟩ : ∃ b, nd.kids[p + 1]? = some b := ⟨_, List.getElem?_eq_getElem (by rw [← HMK.out]; omega)⟩
          have hnot := side2_at nd.kids p a b HM3.out ha hb
          obtain ⟨ka, rfl, -, kx⟩ := kid_of (r21.below hBw) ha
          obtain ⟨kb, hkb, -, ky⟩ := kid_of (r21.below hBw) hb
          obtain rfl : ka = kb := by injection hkb
          rw [← hjp2] at ky
          obtain ⟨ha0, han⟩ := HM2.out a (List.mem_of_getElem? ha)
          obtain ⟨hb0, hbn⟩ := HM2.out b (List.mem_of_getElem? hb)
          obtain ⟨an, rfl⟩ : ∃ m : Nat, a = m := ⟨a.toNat, by omega⟩
          obtain ⟨bn, rfl⟩ : ∃ m : Nat, b = m := ⟨b.toNat, by omega⟩
          obtain ⟨na, hna⟩ : ∃ d, ns[an]? = some d := ⟨_, List.getElem?_eq_getElem (by rw [HL.out]; omega)⟩
          obtain ⟨nb, hnb⟩ : ∃ d, ns[bn]? = some d := ⟨_, List.getElem?_eq_getElem (by rw [HL.out]; omega)⟩
          rw [Int.toNat_natCast, Int.toNat_natCast, tagOf_of hna, tagOf_of hnb] at hnot
          have g2 := h.below ((below_next hB1 hBj)) (Nat.le_refl _)
          obtain ⟨ad1, _, _, _, _, hq1, -, -, t1, -⟩ := g2.at_ hna
          obtain ⟨ad2, _, _, _, _, hq2, -, -, t2, -⟩ := g2.at_ hnb
          obtain rfl : ad = ad1 := by injection hq1
          obtain rfl : ad = ad2 := by injection hq2
          have f1 := toB_eq na.tag []
          have f2 := toB_eq nb.tag []
          rw [show (toB []).toList = [] from by rw [ByteArray.toList_eq]; rfl] at f1 f2
          have hji : (j : Int) < (M : Int) := by omega
          have hji0 : (0 : Int) ≤ (j : Int) := Int.natCast_nonneg _
          have hp0 : (0 : Int) ≤ (p : Int) := Int.natCast_nonneg _
          have hpm : (p : Int) < (M : Int) := by omega
          have hjM : j + 1 ≤ M := hjm
          clear ha hb hkb hq1 hq2 hna hnb g2 hjp2 hp hBw r21
          by_cases hta : na.tag = []
          · have htb : nb.tag ≠ [] := fun e => hnot ⟨hta, e⟩
            rw [decide_eq_true hta] at f1
            rw [decide_eq_false htb] at f2
            have i1 : (toB na.tag).toList.isEmpty = true := by rw [hta, ByteArray.toList_eq]; rfl
            have i2 : (toB nb.tag).toList.isEmpty = false := by
              rw [ByteArray.toList_eq]
              show nb.tag.isEmpty = _
              cases hq : nb.tag with
              | nil => exact absurd hq htb
              | cons a b => rfl
            generalize toB na.tag = ta at *
            generalize toB nb.tag = tb at *
            clear hta htb hnot
            go_wp2
            go_roundw
            case rel => exact ⟨j + 1, by omega, .inl hjM, by go_num, hBj⟩
            case measure => simp [intOf]; omega
          · rw [decide_eq_false hta] at f1
            have i1 : (toB na.tag).toList.isEmpty = false := by
              rw [ByteArray.toList_eq]
              show na.tag.isEmpty = _
              cases hq : na.tag with
              | nil => exact absurd hq hta
              | cons a b => rfl
            generalize toB na.tag = ta at *
            clear hta hnot
            go_wp2
            go_roundw
            case rel => exact ⟨j + 1, by omega, .inl hjM, by go_num, hBj⟩
            case measure => simp [intOf]; omega
        · have hji : ¬ (j : Int) < (M : Int) := by omega
          have hjid : decide ((j : Int) < (M : Int)) = false := decide_eq_false hji
          go_wp2
          go_roundw
          case rel => exact ⟨k + 1, by omega, by go_num, below_next hB1 hBj⟩
          case measure => simp [intOf]; omega
    · obtain rfl : k = n := by omega
      go_wp2
      go_ret
      exact ⟨rfl, hBr⟩
end Tre
end Go.Proofs.YteopighhhcikcaaGreatDoor
/- tree's kidsTellTheSame answers true where they do. Conditions: the nodes lie in memory, at most a million. -/
namespace Go.Proofs.YteopighhhcikcaaGreatDoor
open Go.ChangeShapes Go.WideShapes Go.ChangeAt Go.RowKit Go.Shelf
namespace Tre
open Tok
open RowG (Row)
/-- The kids of a node among the first k. -/
def kidT (ns : List Nd) (k p : Nat) : List Int := ((List.range k).filter (fun j => decide (0 < j) && decide (par ns j = p))).map (fun j : Nat => (j : Int))
theorem kidT_one (ns : List Nd) (p : Nat) : kidT ns 1 p = [] := by unfold kidT; simp [List.range_succ]
theorem kidT_all (ns : List Nd) (p : Nat) : kidT ns ns.length p = kidL ns p := rfl
theorem kidT_yes {ns : List Nd} {k p : Nat} (h0 : 0 < k) (h : par ns k = (p : Int)) : kidT ns (k + 1) p = kidT ns k p ++ [(k : Int)] := by
  unfold kidT
  rw [List.range_succ, List.filter_append, List.map_append, List.filter_cons, if_pos (by rw [h]; simp [h0])]
  rfl
theorem kidT_no {ns : List Nd} {k p : Nat} (h : par ns k ≠ (p : Int)) : kidT ns (k + 1) p = kidT ns k p := by
  unfold kidT
  rw [List.range_succ, List.filter_append, List.map_append, List.filter_cons, if_neg (by simp [h])]
  simp
theorem kidT_len (ns : List Nd) (k p : Nat) : (kidT ns k p).length ≤ k := by
  unfold kidT
  rw [List.length_map]
  have := List.length_filter_le (fun j => decide (0 < j) && decide (par ns j = p)) (List.range k)
  rw [List.length_range] at this
  exact this
/-- Rows of kids, gathered from the first k nodes. -/
def KR (w : World) (base Y n : Nat) (ns : List Nd) (vs : List Value) (k : Nat) : Prop := Blk w Y 52 vs.toArray ∧ vs.length = n ∧ (∀ (p : Nat) (v : Value), vs[p]? = some v → Row w base 3 1 kidC v (kidT ns k p)) ∧ (∀ (p q : Nat) (u v : Value), vs[p]? = some u → vs[q]? = some v → p ≠ q → Dj u v)
theorem KR.kt {w w' : World} {base Y n : Nat} {ns : List Nd} {vs : List Value} {k : Nat} (h : KR w base Y n ns vs k) (k1 : KT w w' 52) (k2 : KT w w' 3) : KR w' base Y n ns vs k :=
  ⟨blk_kt h.1 k1, h.2.1, fun p v a => row_kt (h.2.2.1 p v a) k2, h.2.2.2⟩
theorem KR.next {w w' : World} {base Y n : Nat} {ns : List Nd} {vs : List Value} {k : Nat} (h : KR w base Y n ns vs k) (hb : Below w.heap.size w w') : KR w' base Y n ns vs k := h.kt (.below hb _) (.below hb _)
theorem KR.more {W W1 w6 : World} {base Y n k p : Nat} {ns : List Nd} {vs : List Value} {v v6 : Value} (h : KR W base Y n ns vs k) (hb1 : Below W.heap.size W W1) (h0 : 0 < k) (hp : par ns k = (p : Int)) (hv : vs[p]? = some v)
    (hrow : Row w6 base 3 1 kidC v6 (kidT ns k p ++ [(k : Int)])) (hg : W1.grownBy w6 v.ownBlock) (ho : v6.ownBlock = v.ownBlock ∨ v6.ownBlock = some W1.heap.size) : KR (w6.setCell ⟨Y, p, none⟩ v6) base Y n ns (vs.set p v6) (k + 1) := by
  have h1 := h.next hb1
  have hr1 := h1.2.2.1 p v hv
  have hblk := blk_kt h1.1 (KT.grown hr1 hg (by decide))
  have ks : ∀ e, 52 ≠ e → KT w6 (w6.setCell ⟨Y, p, none⟩ v6) e := fun e he => KT.set hblk he _ _
  refine ⟨?_, by rw [List.length_set]; exact h.2.1, ?_, ?_⟩
  · have := hblk.set_ p v6
    rw [List.setIfInBounds_toArray] at this
    exact this
  · intro q u hu
    rcases getset hu with ⟨e, rfl, -⟩ | ⟨e, hu⟩
    · subst e
      rw [kidT_yes h0 hp]
      exact row_kt hrow (ks _ (by decide))
    · rw [kidT_no (fun e2 => e (by rw [hp] at e2; omega))]
      have hdj := h.2.2.2 q p u v hu hv (fun e2 => e e2.symm)
      exact row_kt (row_other (h1.2.2.1 q u hu) hg (fun b hb => hdj b hb)) (ks _ (by decide))
  · intro i j u u' hu hu' hij
    have hside : ∀ (i : Nat) (u : Value), i ≠ p → vs[i]? = some u → Dj u v6 := fun i u e hu => (h.2.2.2 i p u v hu hv e).grown (h1.2.2.1 i u hu) ho
    rcases getset hu with ⟨e, hue, -⟩ | ⟨e, hu2⟩
    · rcases getset hu' with ⟨e', -, -⟩ | ⟨e', hu3⟩
      · omega
      · rw [hue]; exact (hside j u' (fun q => e' q.symm) hu3).symm
    · rcases getset hu' with ⟨e', hue, -⟩ | ⟨e', hu3⟩
      · rw [hue]; exact hside i u (fun q => e q.symm) hu2
      · exact h.2.2.2 i j u u' hu2 hu3 hij
def nilRows (n : Nat) : List Value := List.replicate n nilRow
theorem info_ints : (Tryz.prog.info? 52).map (fun i => (i.zero, i.size, i.bytes)) = some (some (.slice none 0 0), 1, 24) := by kernel_rfl
theorem make_rows (n : Nat) (hn : n ≤ 1000000) (w : World) : (Instr.makeSlice 140 (.int .i64 (n : Int)) (.int .i64 (n : Int))).run Tryz.prog w = .ok (.slice (some ⟨w.heap.size, 0, none⟩) n n) (w.alloc (.cells (nilRows n).toArray 52)) := by
  obtain ⟨i0, hi0, hz0, hz1, hz2⟩ := info_parts info_ints
  have h := run_make (P := Tryz.prog) w 140 52 i0 _ Tryz.underlying140 hi0 hz0 .i64 .i64 n n (by omega) (by omega) (by rw [hz2]; omega) (by omega)
  rw [hz1] at h
  simp only [Int.toNat_natCast] at h
  have e : madeCells (Value.slice none 0 0).cells (n * 1) = (nilRows n).toArray := by
    unfold nilRows
    rw [Nat.mul_one]
    unfold madeCells nilRow
    apply Array.ext
    · simp
    · intro i h1 h2
      simp [Value.cells, Nat.mod_one]
  rw [e] at h
  exact h
theorem KR.start (w : World) (base n : Nat) (ns : List Nd) : KR (w.alloc (.cells (nilRows n).toArray 52)) base w.heap.size n ns (nilRows n) 1 := by
  unfold nilRows
  refine ⟨Blk.new w _ _, by simp, fun p v hv => ?_, fun p q u v hu hv _ b hb => ?_⟩
  · have := List.eq_of_mem_replicate (List.mem_of_getElem? hv)
    subst this
    rw [kidT_one]
    exact RowG.Row.nil _ _ _ _ _
  · have := List.eq_of_mem_replicate (List.mem_of_getElem? hu)
    subst this
    simp [nilRow, Value.ownBlock] at hb
end Tre
end Go.Proofs.YteopighhhcikcaaGreatDoor
/- tree's kidsTellTheSame answers true where they do: its walk. Conditions: the nodes lie in memory, at most a million. -/
namespace Go.Proofs.YteopighhhcikcaaGreatDoor
open Go.ChangeShapes Go.WideShapes Go.ChangeAt Go.RowKit Go.Shelf
namespace Tre
open Tok
open RowG (Row)
set_option maxRecDepth 100000 in
set_option maxHeartbeats 16000000 in
theorem kids_yes (A : Option Addr) (n c : Nat) (ns : List Nd) (hn : n ≤ 1000000) (hn0 : 0 < n) (hp : ∀ k, 0 < k → k < n → 0 ≤ par ns k ∧ par ns k < (n : Int)) (hk : ∀ p, p < n → kidsOf ns p = kidL ns p) (w : World) (h : NR w w.heap.size A n ns) :
    Calls Tryz.prog 70 #[.slice A n c] w fun e w' => e = .returned (.bool true) ∧ Below w.heap.size w w' := by
  have HL := Lib.hid h.len
  have HP := Lib.hid hp
  have HK := Lib.hid hk
  have hmk := fun w => make_rows n hn w
  have hK0 := KR.start w w.heap.size n ns
  have hB0 := below_al (Below.refl w.heap.size w) (.cells (nilRows n).toArray 52)
  clear hp hk
  go_enter Tryz.func70, Tryz.ntmps70
  go_wp2
  clear hmk
  obtain ⟨Y, hY⟩ : ∃ Y, Y = w.heap.size := ⟨_, rfl⟩
  have hYw : w.heap.size ≤ Y := Nat.le_of_eq hY.symm
  rw [← hY] at hK0 ⊢
  clear hY
  generalize w.alloc (.cells (nilRows n).toArray 52) = W0 at *
  go_loopw [4] (fun iv wr => ∃ (k : Nat) (vs : List Value), 1 ≤ k ∧ k ≤ n ∧ iv = .int .i64 k ∧ KR wr Y Y n ns vs k ∧ Below w.heap.size w wr) (fun iv _ => n - (intOf iv).toNat)
  case atStart => exact ⟨1, _, Nat.le_refl _, hn0, rfl, hK0, hB0⟩
  case round =>
    obtain ⟨k, vs, hk1, hkn, rfl, hKR, hBr⟩ := hrel
    clear hK0 hB0
    by_cases hlt : k < n
    · obtain ⟨hq0, hqn⟩ := HP.out k (by omega) hlt
      obtain ⟨p, hpp⟩ : ∃ p : Nat, par ns k = (p : Int) := ⟨(par ns k).toNat, by omega⟩
      rw [hpp] at hq0 hqn
      have g1 := (h.below hBr (Nat.le_refl _)).pr
      obtain ⟨ad, rfl, hadb, e0, -⟩ := g1.at_ hlt
      rw [hpp] at e0
      obtain ⟨v, hv⟩ : ∃ v, vs[p]? = some v := ⟨_, List.getElem?_eq_getElem (by rw [hKR.2.1]; omega)⟩
      have hrow0 := hKR.2.2.1 p v hv
      obtain ⟨vA, vc, rfl⟩ := hrow0.form
      have hc0 : wr.cell? ⟨Y, p, none⟩ = some (.slice vA (kidT ns k p).length vc) := by rw [hKR.1.cell p, List.getElem?_toArray]; exact hv
      have HPP := Lib.hid hpp
      have HKR := Lib.hid hKR
      have hki : (k : Int) < (n : Int) := by omega
      have hk0 : (0 : Int) ≤ (k : Int) := Int.natCast_nonneg _
      have hklen := kidT_len ns k p
      have hbA : Below wr.heap.size wr (wr.alloc (.cells #[.int .i64 (k : Int)] 3)).drew := (below_al (Below.refl _ _) _).drew
      have hww := hBr.size
      have hadb2 : (ad.add (k * 5)).block < wr.heap.size := by rw [block_of_add]; omega
      have e0A := (hbA.cell (p := ad.add (k * 5)) hadb2).trans e0
      have hYl := hKR.1.lt
      have hc0A := (hbA.cell (p := ⟨Y, p, none⟩) hYl).trans hc0
      have hkA : Row (wr.alloc (.cells #[.int .i64 (k : Int)] 3)).drew Y 3 1 kidC (.slice vA (kidT ns k p).length vc) (kidT ns k p) := hrow0.below hbA
      have hnA : ∀ (j : Nat) (u : Value), (kidC (k : Int))[j]? = some u → (wr.alloc (.cells #[.int .i64 (k : Int)] 3)).drew.cell? ⟨wr.heap.size, j, none⟩ = some u := RowG.new_cells wr 3 (kidC (k : Int))
      have hsA : Y ≤ (wr.alloc (.cells #[.int .i64 (k : Int)] 3)).drew.heap.size := Nat.le_trans (Nat.le_of_lt hYl) hbA.size
      have g1A := g1.below (hbA.mono hww) (Nat.le_refl _)
      have hKA := hKR.next hbA
      have HGA := Lib.hid g1A
      have HKA := Lib.hid hKA
      have HV := Lib.hid hv
      clear hpp hrow0 g1 hv g1A hKA hKR
      generalize hNe : (kidT ns k p).length = N at *
      have HNE := Lib.hid hNe
      clear hNe
      go_upto_region 5 with (fail)
      go_region_law (refine RowG.step_more _ (by rfl) _ _ 52 (by rfl) 3 kidC 1 8 _ info_int Tryz.underlying52 rfl (by decide) kidC_len kidC_one Y _ (kidT ns k p) (k : Int) (by rfl) _ _ (by rfl) hkA hnA (by rw [HNE.out]; simp only [maxLen]; omega) (by rw [HNE.out]; omega) hsA ?_
                     intro v6 w6 hrow6 hg6 ho6
                     obtain ⟨K6, d6, hv6⟩ := hrow6.form
                     rw [List.length_append, List.length_singleton, HNE.out] at hv6
                     subst hv6
                     have hgn6 : KT (wr.alloc (.cells #[.int .i64 (k : Int)] 3)).drew w6 52 := KT.grown hkA hg6 (by decide)
                     have hblk6 := blk_kt HKA.out.1 hgn6
                     have c06 : w6.cell? ⟨Y, p, none⟩ = some (.slice vA N vc) := by rw [hblk6.cell p, List.getElem?_toArray]; exact HV.out
                     have f06 := hblk6.frozen p
                     have e06 : w6.cell? (ad.add (k * 5)) = some (.int .i64 (p : Int)) := by
                       have hB := (hbA.mono hww).trans ((Below.refl w.heap.size _).grown hg6 (Nat.le_trans hYw hsA) (fun j hj => Nat.le_trans hYw (World.ownsRow.lt hkA j hj).1))
                       exact (hB.cell (p := ad.add (k * 5)) (by rw [block_of_add]; exact hadb)).trans e0)
      all_goals
        have hM := HKR.out.more hbA (by omega) HPP.out HV.out hrow6 hg6 ho6
        have hB6 : Below w.heap.size w (w6.setCell ⟨Y, p, none⟩ (.slice K6 (N + 1) d6)) := ((hBr.trans (hbA.mono hww)).grown hg6 (Nat.le_trans hYw hsA) (fun j hj => Nat.le_trans hYw (World.ownsRow.lt hkA j hj).1)).setCell hYw _
        go_wp2
        go_roundw
        case rel => exact ⟨k + 1, _, by omega, by omega, by go_num, hM, hB6⟩
        case measure => simp [intOf]; omega
    · obtain rfl : k = n := by omega
      have hki : ¬ (k : Int) < (k : Int) := by omega
      have HKR := Lib.hid hKR
      have hYl := hKR.1.lt
      clear hKR
      go_wp2
      go_loopw [36] (fun iv wj => ∃ i : Nat, i ≤ k ∧ iv = .int .i64 i ∧ Below wr.heap.size wr wj) (fun iv _ => k - (intOf iv).toNat)
      case atStart => exact ⟨0, Nat.zero_le _, rfl, Below.refl _ _⟩
      case round =>
        obtain ⟨i, hi, rfl, hBj⟩ := hrel
        rename_i wq
        have hBi := below_next hBr hBj
        by_cases hik : i < k
        · obtain ⟨nd, hnd⟩ : ∃ nd, ns[i]? = some nd := ⟨_, List.getElem?_eq_getElem (by rw [HL.out]; exact hik)⟩
          have g1 := h.below hBi (Nat.le_refl _)
          obtain ⟨ad, cA, cc, cK, cd, rfl, hadb, e0, e1, e2, e3, e4, r1, r2⟩ := g1.at_ hnd
          have hkk : nd.kids = kidT ns k i := by
            have := HK.out i hik
            rw [kidsOf_of hnd] at this
            rw [this, ← kidT_all, HL.out]
          have hK2 := HKR.out.next hBj
          obtain ⟨v, hv⟩ : ∃ v, vs[i]? = some v := ⟨_, List.getElem?_eq_getElem (by rw [hK2.2.1]; exact hik)⟩
          have hrow := hK2.2.2.1 i v hv
          rw [← hkk] at hrow
          obtain ⟨vA, vc, rfl⟩ := hrow.form
          have hcY : wr.cell? ⟨Y, i, none⟩ = some (.slice vA nd.kids.length vc) := by rw [hK2.1.cell i, List.getElem?_toArray]; exact hv
          have hYj := hK2.1.lt
          have hml : nd.kids.length ≤ 1000000 := by
            rw [hkk]
            have := kidT_len ns k i
            omega
          obtain ⟨M, hMe⟩ : ∃ M, M = nd.kids.length := ⟨_, rfl⟩
          rw [← hMe] at e4 r2 hcY hml hrow
          have hrr := (hrow.reads).1
          rw [← hMe] at hrr
          have KB := Blk.new wr 54 #[.int .i64 nd.parent, .string (toB nd.tag), .string (toB nd.text), .slice cA nd.attrs.length cc, .slice cK M cd]
          have hBA : Below wr.heap.size wr (wr.alloc (.cells #[.int .i64 nd.parent, .string (toB nd.tag), .string (toB nd.text), .slice cA nd.attrs.length cc, .slice cK M cd] 54)) := below_al (Below.refl _ _) _
          have hii : (i : Int) < (k : Int) := by omega
          have hi0 : (0 : Int) ≤ (i : Int) := Int.natCast_nonneg _
          have hww := hBi.size
          clear hkk hv hK2 g1 r1 hrow hMe hnd
          go_upto_region 9 with (fail)
          have hcY1 := (hBA.cell (p := ⟨Y, i, none⟩) hYj).trans hcY
          have s1 := (r2.below (hBA.mono hww)).more (Nat.le_trans hww hBA.size)
          have s2 := (hrr.below hBA).more hBA.size
          have b4 := KB.cell 4
          simp only [List.getElem?_toArray, List.getElem?_cons_zero, List.getElem?_cons_succ] at b4
          generalize wr.alloc (.cells #[.int .i64 nd.parent, .string (toB nd.tag), .string (toB nd.text), .slice cA nd.attrs.length cc, .slice cK M cd] 54) = W1 at *
          have ce := equal_yes cK M cd vA vc nd.kids hml W1.drew s1 s2
          go_still_tail 6, (by kernel_rfl)
          change wpList _ _ _ _ _ W1.drew
          go_wp2_with (first | (go_at_call 103; (with_reducible refine ce.mono ?_); rintro e w5 ⟨rfl, hb5⟩))
          go_roundw
          case rel => exact ⟨i + 1, by omega, by go_num, (below_next hBj hBA).drew.trans (hb5.mono (below_next hBj hBA).size)⟩
          case measure => simp [intOf]; omega
        · obtain rfl : i = k := by omega
          go_wp2
          go_ret
          exact ⟨rfl, hBi⟩
end Tre
end Go.Proofs.YteopighhhcikcaaGreatDoor
/- tree.May answers true where a document may be. Conditions: names and attributes are not too large. -/
namespace Go.Proofs.YteopighhhcikcaaGreatDoor
open Go.ChangeShapes Go.WideShapes Go.ChangeAt Go.RowKit Go.Shelf
namespace Tre
open Tok
theorem mayP_of {ns : List Nd} (h : mayP ns = true) : (∃ r, ns[0]? = some r ∧ mayRoot r = true) ∧ 0 < ns.length ∧ ns.length ≤ 60 ∧ (∀ k, 0 < k → k < ns.length → stands ns k = true ∧ mayOne ns k = true) ∧ (∀ p, p < ns.length → kidsOf ns p = kidL ns p) ∧ (∀ nd ∈ ns, side2 ns nd.kids = false) := by
  cases hn : ns with
  | nil => rw [hn] at h; cases h
  | cons a l =>
    have e : mayP ns = (decide (ns.length ≤ 60) && mayRoot a && ((List.range ns.length).all fun k => k == 0 || (stands ns k && mayOne ns k)) && ((List.range ns.length).all fun p => kidsOf ns p == kidL ns p) && !(ns.any fun n => side2 ns n.kids)) := by
      rw [hn]; rfl
    rw [e] at h
    have h0 : ns[0]? = some a := by rw [hn]; rfl
    have hl : 0 < ns.length := by rw [hn]; exact Nat.succ_pos _
    rw [← hn]
    simp only [Bool.and_eq_true, decide_eq_true_eq, List.all_eq_true, Bool.not_eq_true'] at h
    obtain ⟨⟨⟨⟨h1, h2⟩, h3⟩, h4⟩, h5⟩ := h
    refine ⟨⟨a, h0, h2⟩, hl, h1, fun k hk hkl => ?_, fun p hp => ?_, fun nd hnd => ?_⟩
    · have := h3 k (List.mem_range.2 hkl)
      rw [Bool.or_eq_true] at this
      rcases this with h | h
      · simp at h; omega
      · rw [Bool.and_eq_true] at h; exact h
    · have := h4 p (List.mem_range.2 hp)
      simpa using this
    · exact (List.any_eq_false.1 h5) nd hnd |> fun h => by simpa using h
theorem stands_par {ns : List Nd} {k : Nat} (h : stands ns k = true) : 0 ≤ par ns k ∧ par ns k < (ns.length : Int) := by
  unfold stands at h
  split at h
  · rename_i a ha
    obtain ⟨hm, hp⟩ := find_mem ha
    have := up_lt hm
    have hp : (a : Int) = par ns k := by simpa using hp
    omega
  · cases h
theorem kidL_in {ns : List Nd} {p : Nat} : ∀ k ∈ kidL ns p, 0 ≤ k ∧ k < (ns.length : Int) := by
  intro k hk
  unfold kidL at hk
  obtain ⟨j, hj, rfl⟩ := List.mem_map.1 hk
  have := List.mem_range.1 (List.mem_filter.1 hj).1
  omega
theorem kidL_len (ns : List Nd) (p : Nat) : (kidL ns p).length ≤ ns.length := kidT_len ns ns.length p
/-- Names and attributes are not too large. -/
def Fit (ns : List Nd) : Prop := ∀ nd ∈ ns, nd.attrs.length ≤ 900000 ∧ (∀ a ∈ nd.attrs, a.1.length ≤ maxLen) ∧ nd.tag.length ≤ maxLen
set_option maxRecDepth 100000 in
set_option maxHeartbeats 16000000 in
theorem may_nil (w : World) : Calls Tryz.prog 31 #[.slice none 0 0] w fun e w' => e = .returned (.bool false) ∧ w = w' := by
  go_enter Tryz.func31, Tryz.ntmps31
  go_wp2
  go_ret
  exact ⟨rfl, rfl⟩
set_option maxRecDepth 100000 in
set_option maxHeartbeats 16000000 in
theorem may_yes (A : Option Addr) (n c : Nat) (ns : List Nd) (hm : mayP ns = true) (hf : Fit ns) (w : World) (h : NR w w.heap.size A n ns) :
    Calls Tryz.prog 31 #[.slice A n c] w fun e w' => e = .returned (.bool true) ∧ Below w.heap.size w w' := by
  have hlen := h.len
  obtain ⟨⟨r, hr0, hr1⟩, hp0, h60, hst, hkd, hsd⟩ := mayP_of hm
  rw [hlen] at hp0 h60
  have HL := Lib.hid hlen
  have HST := Lib.hid hst
  have HF := Lib.hid hf
  have hall : ∀ nd ∈ ns, nd.kids.length ≤ 1000000 ∧ (∀ k ∈ nd.kids, 0 ≤ k ∧ k < (n : Int)) ∧ side2 ns nd.kids = false := fun nd hnd => by
    obtain ⟨i, hi⟩ := List.getElem?_of_mem hnd
    have hil := (List.getElem?_eq_some_iff.1 hi).1
    have e := hkd i hil
    rw [kidsOf_of hi] at e
    refine ⟨?_, ?_, hsd nd hnd⟩
    · rw [e]; have := kidL_len ns i; omega
    · rw [e, ← hlen]; exact kidL_in
  have ck := fun w' (hb : Below w.heap.size w w') => kids_yes A n c ns (by omega) hp0 (fun k h0 h1 => by have := stands_par (hst k h0 (by omega)).1; rw [hlen] at this; exact this) (fun p hp => hkd p (by omega)) w' (h.below hb hb.size)
  have cs := fun w' (hb : Below w.heap.size w w') => sides_no A n c ns (by omega) hall w' (h.below hb hb.size)
  obtain ⟨ad, cA, cc, cK, cd, rfl, hadb, e0, e1, e2, e3, e4, -, -⟩ := h.at_ hr0
  have cr := fun w => mayRoot_yes cA cK cc r.kids.length cd r hr1 w
  have hz : ad.add 0 = ad := by unfold Addr.add; rw [if_pos rfl]
  rw [Nat.zero_mul, hz] at e0 e1 e2 e3 e4
  clear hz
  have hn0 : ((n : Int) == 0) = false := by rw [beq_eq_false_iff_ne]; omega
  have hn60 : decide ((60 : Int) < (n : Int)) = false := decide_eq_false (by omega)
  have hn1 : (0 : Int) < (n : Int) := by omega
  clear hall hst hkd hsd hf hm hlen hr0 hr1
  go_enter Tryz.func31, Tryz.ntmps31
  go_wp2_with (first | (go_at_call 67; (with_reducible refine (cr _).mono ?_); rintro e w1 ⟨rfl, hb1⟩))
  go_loopw [3] (fun iv wr => ∃ k : Nat, 1 ≤ k ∧ k ≤ n ∧ iv = .int .i64 k ∧ Below w.heap.size w wr) (fun iv _ => n - (intOf iv).toNat)
  case atStart => exact ⟨1, Nat.le_refl _, hp0, rfl, hb1⟩
  case round =>
    obtain ⟨k, hk1, hkn, rfl, hBr⟩ := hrel
    clear e0 e1 e2 e3 e4
    have g1 := h.below hBr hBr.size
    by_cases hlt : k < n
    · obtain ⟨hs, ho⟩ := HST.out k (by omega) (by rw [HL.out]; exact hlt)
      have cst := stands_yes (some ad) n c ns k (by omega) (by omega) hlt hs wr g1.pr
      obtain ⟨nd, hnd⟩ : ∃ nd, ns[k]? = some nd := ⟨_, List.getElem?_eq_getElem (by rw [HL.out]; exact hlt)⟩
      have hno : mayNd nd = true := by unfold mayOne at ho; rw [hnd] at ho; exact ho
      obtain ⟨f1, f2, f3⟩ := HF.out nd (List.mem_of_getElem? hnd)
      obtain ⟨ad', dA, dc, dK, dd, hade, hb', d0, d1, d2, d3, d4, s1, s2⟩ := g1.at_ hnd
      obtain rfl : ad = ad' := by injection hade
      have cnd := fun w' (hb : Below wr.heap.size wr w') => mayNode_yes dA dK dc dd nd hno f1 f2 f3 w' ((s1.below hb).more hb.size)
      have hki : (k : Int) < (n : Int) := by omega
      have hk0 : (0 : Int) ≤ (k : Int) := Int.natCast_nonneg _
      have hadl : (ad.add (k * 5)).block < wr.heap.size := by rw [block_of_add]; exact hb'
      have keep : ∀ w2, Below wr.heap.size wr w2 → ∀ o, w2.cell? ⟨(ad.add (k * 5)).block, o, none⟩ = wr.cell? ⟨(ad.add (k * 5)).block, o, none⟩ := fun w2 hb o => hb.cell (p := ⟨(ad.add (k * 5)).block, o, none⟩) hadl
      have KEEP := Lib.hid keep
      clear hs ho hnd hno f1 f2 f3 hade g1 s1 s2 keep
      go_wp2_with (first
        | (go_at_call 68; (with_reducible refine cst.mono ?_); rintro e w2 ⟨rfl, hb2⟩
           have m0 := (hb2.cell (p := ad.add (k * 5)) hadl).trans d0
           have m1 := (KEEP.out w2 hb2 _).trans d1
           have m2 := (KEEP.out w2 hb2 _).trans d2
           have m3 := (KEEP.out w2 hb2 _).trans d3
           have m4 := (KEEP.out w2 hb2 _).trans d4
           have cn2 := cnd w2 hb2)
        | (go_at_call 69; (with_reducible refine cn2.mono ?_); rintro e w3 ⟨rfl, hb3⟩))
      go_roundw
      case rel => exact ⟨k + 1, by omega, by omega, by go_num, below_next (below_next hBr hb2) hb3⟩
      case measure => simp [intOf]; omega
    · obtain rfl : k = n := by omega
      have ck2 := ck wr hBr
      go_wp2_with (first
        | (go_at_call 70; (with_reducible refine ck2.mono ?_); rintro e w2 ⟨rfl, hb2⟩
           have hB2 := below_next hBr hb2
           have cs2 := cs w2 hB2)
        | (go_at_call 71; (with_reducible refine cs2.mono ?_); rintro e w3 ⟨rfl, hb3⟩))
      go_ret
      exact ⟨rfl, below_next hB2 hb3⟩
end Tre
end Go.Proofs.YteopighhhcikcaaGreatDoor
namespace Go.Proofs.YteopighhhcikcaaGreatDoor
open Go.ChangeShapes Go.WideShapes Go.ChangeAt Go.RowKit
namespace Tre
open Tok
def AllA (Q : List At → Prop) (ns : List Nd) : Prop := ∀ a ∈ ns.map (·.attrs), Q a
theorem attrs_addKid (ns : List Nd) (p : Nat) (k : Int) : (addKid ns p k).map (·.attrs) = ns.map (·.attrs) := by
  unfold addKid
  apply List.ext_getElem?
  intro i
  rw [List.getElem?_map, List.getElem?_map, List.getElem?_modify]
  cases ns[i]? with
  | none => rfl
  | some n => by_cases h : p = i <;> simp [h]
theorem attrs_more (ns : List Nd) (x : List UInt8) : (more ns x).map (·.attrs) = ns.map (·.attrs) := by
  unfold more
  apply List.ext_getElem?
  intro i
  rw [List.getElem?_map, List.getElem?_map, List.getElem?_modify]
  cases ns[i]? with
  | none => rfl
  | some n => by_cases h : ns.length - 1 = i <;> simp [h]
theorem AllA.addKid {Q : List At → Prop} {ns : List Nd} (h : AllA Q ns) (p : Nat) (k : Int) : AllA Q (addKid ns p k) := by unfold AllA; rw [attrs_addKid]; exact h
theorem AllA.more {Q : List At → Prop} {ns : List Nd} (h : AllA Q ns) (x : List UInt8) : AllA Q (more ns x) := by unfold AllA; rw [attrs_more]; exact h
theorem AllA.push {Q : List At → Prop} {ns : List Nd} (h : AllA Q ns) {n : Nd} (hn : Q n.attrs) : AllA Q (ns ++ [n]) := by
  unfold AllA
  intro a ha
  rw [List.map_append, List.mem_append] at ha
  rcases ha with ha | ha
  · exact h a ha
  · obtain rfl : a = n.attrs := by simpa using ha
    exact hn
theorem take_attrs {Q : List At → Prop} (h0 : Q []) {s s' : St} {t : Tk} (h : Ok s) (ht : take s t = .ok s') (hs : AllA Q s.ns) (hq : Q t.attrs) : AllA Q s'.ns := by
  unfold take at ht
  split at ht
  · split at ht
    · unfold openS at ht
      split at ht
      · injection ht with ht; subst ht; exact hs
      · split at ht
        · cases ht
        · rename_i s1 h1
          obtain ⟨-, -, -, h2, -⟩ := add_ok h rfl h1
          have e1 : s'.ns = s1.ns := by
            injection ht with ht; subst ht
            split <;> rfl
          rw [e1, h2]
          exact (hs.addKid _ _).push hq
    · split at ht
      · unfold textS at ht
        split at ht
        · injection ht with ht; subst ht; exact hs
        · split at ht
          · injection ht with ht; subst ht
            exact hs.more _
          · split at ht
            · cases ht
            · rename_i s1 h1
              obtain ⟨-, -, -, h2, -⟩ := add_ok h rfl h1
              injection ht with ht; subst ht
              show AllA Q (more s1.ns _)
              rw [h2]
              exact ((hs.addKid _ _).push h0).more _
      · injection ht with ht; subst ht
        unfold closeS
        split <;> exact hs
  · cases ht
theorem run_attrs {Q : List At → Prop} (h0 : Q []) : ∀ (ts : List Tk) {s s' : St}, Ok s → run s ts = .ok s' → AllA Q s.ns → (∀ t ∈ ts, Q t.attrs) → AllA Q s'.ns := by
  intro ts
  induction ts with
  | nil => intro s s' h hr hs _; injection hr with hr; subst hr; exact hs
  | cons t r ih =>
    intro s s' h hr hs hq
    have hr : (match take s t with | .error e => Except.error e | .ok s' => run s' r) = .ok s' := hr
    cases ht : take s t with
    | error e => rw [ht] at hr; cases hr
    | ok s1 =>
      rw [ht] at hr
      exact ih (take_ok h ht) hr (take_attrs h0 h ht hs (hq t List.mem_cons_self)) (fun u hu => hq u (List.mem_cons_of_mem _ hu))
theorem build_attrs {Q : List At → Prop} (h0 : Q []) {ts : List Tk} (hq : ∀ t ∈ ts, Q t.attrs) : ∀ nd ∈ (build ts).1, Q nd.attrs := by
  intro nd hnd
  rcases build_cases ts with ⟨s, hr, -, hb⟩ | ⟨e, hb, -⟩
  · rw [hb] at hnd
    exact run_attrs h0 ts ok0 hr (by intro a ha; simp [st0] at ha; subst ha; exact h0) hq _ (List.mem_map.2 ⟨nd, hnd, rfl⟩)
  · rw [hb] at hnd; cases hnd
/-- A document that may be: its names are small. -/
theorem may_fit {ns : List Nd} (h : mayP ns = true) (ha : ∀ nd ∈ ns, nd.attrs.length ≤ 900000) : Fit ns := by
  obtain ⟨⟨r, hr0, hr1⟩, hp0, h60, hst, hkd, hsd⟩ := mayP_of h
  intro nd hnd
  refine ⟨ha nd hnd, ?_⟩
  obtain ⟨i, hi⟩ := List.getElem?_of_mem hnd
  have hil := (List.getElem?_eq_some_iff.1 hi).1
  by_cases h0 : i = 0
  · subst h0
    rw [hr0] at hi
    injection hi with hi
    subst hi
    unfold mayRoot at hr1
    simp only [Bool.and_eq_true, decide_eq_true_eq] at hr1
    rw [hr1.1.1.2, hr1.2]
    exact ⟨fun a ha => (by cases ha), by decide⟩
  · have hm := (hst i (by omega) hil).2
    unfold mayOne at hm
    rw [hi] at hm
    have hm : mayNd nd = true := hm
    unfold mayNd at hm
    split at hm
    · rename_i ht
      simp only [Bool.and_eq_true, decide_eq_true_eq] at hm
      rw [ht, hm.1.2]
      exact ⟨fun a ha => (by cases ha), by decide⟩
    · split at hm
      · cases hm
      · simp only [Bool.and_eq_true, decide_eq_true_eq] at hm
        obtain ⟨⟨⟨h1, -⟩, -⟩, h4⟩ := hm
        unfold mayAts at h4
        rw [Bool.and_eq_true, List.all_eq_true] at h4
        refine ⟨fun a ha => ?_, ?_⟩
        · have := (nameB_len (h4.2 a ha)).2
          simp only [maxLen]; omega
        · have := (nameB_len h1).2
          simp only [maxLen]; omega
theorem may_kids {ns : List Nd} (h : mayP ns = true) : ∀ nd ∈ ns, nd.kids.length ≤ 60 := by
  obtain ⟨-, -, h60, -, hkd, -⟩ := mayP_of h
  intro nd hnd
  obtain ⟨i, hi⟩ := List.getElem?_of_mem hnd
  have hil := (List.getElem?_eq_some_iff.1 hi).1
  have e := hkd i hil
  rw [kidsOf_of hi] at e
  rw [e]
  have := kidL_len ns i
  omega
/-- What is built is small. -/
theorem build_small {ts : List Tk} (hq : ∀ t ∈ ts, t.attrs.length ≤ 900000) : (build ts).1.length ≤ 60 ∧ (∀ nd ∈ (build ts).1, nd.attrs.length ≤ 900000 ∧ nd.kids.length ≤ 900000) := by
  have h1 := build_attrs (Q := fun a => a.length ≤ 900000) (by decide) hq
  rcases build_may ts with ⟨x, hx, -⟩ | ⟨ns, hx, -, hm⟩
  · rw [hx]; exact ⟨Nat.zero_le _, fun nd h => (by cases h)⟩
  · rw [hx] at h1 ⊢
    obtain ⟨-, -, h60, -⟩ := mayP_of hm
    exact ⟨h60, fun nd hnd => ⟨h1 nd hnd, by have := may_kids hm nd hnd; omega⟩⟩
end Tre
end Go.Proofs.YteopighhhcikcaaGreatDoor
