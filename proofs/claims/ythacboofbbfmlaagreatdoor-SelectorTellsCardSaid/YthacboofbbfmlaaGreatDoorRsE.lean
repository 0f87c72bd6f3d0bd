/- The reference's Read. Conditions: the text is not too long. -/
import Derived.Test.YthacboofbbfmlaaGreatDoorSelD
import Derived.Test.YthacboofbbfmlaaGreatDoorRx7Trim
import Derived.Test.YthacboofbbfmlaaGreatDoorRtN
import Derived.Test.YthacboofbbfmlaaGreatDoorSelG
import Derived.Test.YthacboofbbfmlaaGreatDoorRx7Lower
import Derived.Test.YthacboofbbfmlaaGreatDoorRx7Split
/- The reference of selectors: end, blanks, and how what it reads is told apart. Conditions: the text is not too long. -/
namespace Go.Proofs.YthacboofbbfmlaaGreatDoor
open Go.ChangeShapes Go.WideShapes Go.ChangeAt Go.RowKit
namespace Sel
open Tok
def isE (c : UInt8) : Bool := isBt c || isBg c
def txE (l : List UInt8) : List UInt8 := l.takeWhile fun c => !isE c
def blE (l : List UInt8) : List UInt8 := l.takeWhile isBlank
theorem tw_go {p : UInt8 → Bool} {l : List UInt8} {k : Nat} (h : k < l.length) (hp : p l[k] = true) : ((l.drop k).takeWhile p).length = ((l.drop (k + 1)).takeWhile p).length + 1 := by
  rw [List.drop_eq_getElem_cons h, List.takeWhile_cons, if_pos hp, List.length_cons]
theorem tw_halt {p : UInt8 → Bool} {l : List UInt8} {k : Nat} (h : k < l.length) (hp : p l[k] = false) : ((l.drop k).takeWhile p).length = 0 := by
  rw [List.drop_eq_getElem_cons h, List.takeWhile_cons, hp]; rfl
theorem tw_over {p : UInt8 → Bool} {l : List UInt8} {k : Nat} (h : l.length ≤ k) : ((l.drop k).takeWhile p).length = 0 := by
  rw [List.drop_eq_nil_of_le h]; rfl
theorem tw_len (p : UInt8 → Bool) (l : List UInt8) (k : Nat) (h : k ≤ l.length) : k + ((l.drop k).takeWhile p).length ≤ l.length := by
  have := (List.takeWhile_sublist (l := l.drop k) p).length_le
  rw [List.length_drop] at this
  omega
theorem isE_cases {c : UInt8} (h : isE c = true) : (c.toNat : Int) = 35 ∨ (c.toNat : Int) = 46 ∨ (c.toNat : Int) = 58 ∨ (c.toNat : Int) = 62 ∨ (isBlank c = true ∧ (c.toNat : Int) ≠ 35 ∧ (c.toNat : Int) ≠ 46 ∧ (c.toNat : Int) ≠ 58 ∧ (c.toNat : Int) ≠ 62) := by
  revert h
  revert c
  have key : ∀ k : Fin 256, isE (UInt8.ofNat k.val) = true → ((UInt8.ofNat k.val).toNat : Int) = 35 ∨ ((UInt8.ofNat k.val).toNat : Int) = 46 ∨ ((UInt8.ofNat k.val).toNat : Int) = 58 ∨ ((UInt8.ofNat k.val).toNat : Int) = 62 ∨ (isBlank (UInt8.ofNat k.val) = true ∧ ((UInt8.ofNat k.val).toNat : Int) ≠ 35 ∧ ((UInt8.ofNat k.val).toNat : Int) ≠ 46 ∧ ((UInt8.ofNat k.val).toNat : Int) ≠ 58 ∧ ((UInt8.ofNat k.val).toNat : Int) ≠ 62) := by decide +kernel
  intro c
  have := key ⟨c.toNat, c.toNat_lt⟩
  simpa using this
theorem isE_not {c : UInt8} (h : isE c = false) : isBlank c = false ∧ (c.toNat : Int) ≠ 35 ∧ (c.toNat : Int) ≠ 46 ∧ (c.toNat : Int) ≠ 58 ∧ (c.toNat : Int) ≠ 62 := by
  revert h
  revert c
  have key : ∀ k : Fin 256, isE (UInt8.ofNat k.val) = false → isBlank (UInt8.ofNat k.val) = false ∧ ((UInt8.ofNat k.val).toNat : Int) ≠ 35 ∧ ((UInt8.ofNat k.val).toNat : Int) ≠ 46 ∧ ((UInt8.ofNat k.val).toNat : Int) ≠ 58 ∧ ((UInt8.ofNat k.val).toNat : Int) ≠ 62 := by decide +kernel
  intro c
  have := key ⟨c.toNat, c.toNat_lt⟩
  simpa using this
set_option maxRecDepth 100000 in
set_option maxHeartbeats 16000000 in
theorem rend_any (l : List UInt8) (o : Nat) (hl : l.length ≤ 100000) (ho : o ≤ l.length) (w : World) :
    Calls Tryz.prog 49 #[.string (toB l), .int .i64 o] w fun e w' => e = .returned (.int .i64 ((o + (txE (l.drop o)).length : Nat) : Int)) ∧ w = w' := by
  have hsz : (toB l).size = l.length := toB_size l
  have hat : ∀ (k : Nat) (h : k < (toB l).size) (h2 : k < l.length), (toB l)[k]'h = l[k]'h2 := fun k h h2 => rfl
  have HAT := Lib.hid hat
  clear hat
  obtain ⟨R, hR⟩ : ∃ R, R = o + (txE (l.drop o)).length := ⟨_, rfl⟩
  rw [← hR]
  have HR := Lib.hid hR
  clear hR
  generalize toB l = s at *
  go_enter Tryz.func49, Tryz.ntmps49
  go_wp2
  go_loop [1] (fun i => ∃ k : Nat, k ≤ l.length ∧ i = .int .i64 k ∧ Hid (R = k + (txE (l.drop k)).length)) (fun i => l.length - (intOf i).toNat)
  case atStart => exact ⟨o, ho, rfl, HR⟩
  case round =>
    obtain ⟨k, hk, rfl, HK⟩ := hrel
    clear HR
    have k0 : (0 : Int) ≤ (k : Int) := Int.natCast_nonneg _
    by_cases hlt : k < l.length
    · have hps : k < s.size := by rw [hsz]; exact hlt
      have hgs := HAT.out k hps hlt
      obtain ⟨c, hce⟩ : ∃ c : UInt8, l[k] = c := ⟨_, rfl⟩
      rw [hce] at hgs
      have k1 : (k : Int) < (l.length : Int) := by omega
      have c1 := fun w => rblank_any c w
      cases hE : isE c with
      | true =>
        have hRk : R = k := by rw [HK.out]; unfold txE; rw [tw_halt hlt (by rw [hce, hE]; rfl)]; rfl
        subst hRk
        have hc := isE_cases hE
        clear HK hce hE
        rcases hc with h | h | h | h | ⟨hb, h1, h2, h3, h4⟩
        · clear c1; go_wp2; go_ret; exact ⟨rfl, rfl⟩
        · clear c1; go_wp2; go_ret; exact ⟨rfl, rfl⟩
        · clear c1; go_wp2; go_ret; exact ⟨rfl, rfl⟩
        · clear c1; go_wp2; go_ret; exact ⟨rfl, rfl⟩
        · rw [hb] at c1
          clear hb
          replace h1 := bne_iff_ne.2 h1
          replace h2 := bne_iff_ne.2 h2
          replace h3 := bne_iff_ne.2 h3
          replace h4 := bne_iff_ne.2 h4
          go_wp2_with (go_at_call 48; (with_reducible refine (c1 _).mono ?_); rintro e w' ⟨rfl, rfl⟩)
          go_ret
          exact ⟨rfl, rfl⟩
      | false =>
        have HN : Hid (R = (k + 1) + (txE (l.drop (k + 1))).length) := by
          show R = _
          rw [HK.out]; unfold txE; rw [tw_go hlt (by rw [hce, hE]; rfl)]; omega
        obtain ⟨hb, h1, h2, h3, h4⟩ := isE_not hE
        replace h1 := bne_iff_ne.2 h1
        replace h2 := bne_iff_ne.2 h2
        replace h3 := bne_iff_ne.2 h3
        replace h4 := bne_iff_ne.2 h4
        rw [hb] at c1
        clear HK hce hE hb
        go_wp2_with (go_at_call 48; (with_reducible refine (c1 _).mono ?_); rintro e w' ⟨rfl, rfl⟩)
        go_round
        case rel => exact ⟨k + 1, by omega, by go_num, HN⟩
        case measure => simp [intOf]; omega
    · obtain rfl : k = l.length := by omega
      have hRk : R = l.length := by rw [HK.out]; unfold txE; rw [tw_over (Nat.le_refl _)]; rfl
      subst hRk
      go_wp2
      go_ret
      exact ⟨rfl, rfl⟩
set_option maxRecDepth 100000 in
set_option maxHeartbeats 16000000 in
theorem rblanks_any (l : List UInt8) (o : Nat) (hl : l.length ≤ 100000) (ho : o ≤ l.length) (w : World) :
    Calls Tryz.prog 26 #[.string (toB l), .int .i64 o] w fun e w' => e = .returned (.int .i64 ((o + (blE (l.drop o)).length : Nat) : Int)) ∧ w = w' := by
  have hsz : (toB l).size = l.length := toB_size l
  have hat : ∀ (k : Nat) (h : k < (toB l).size) (h2 : k < l.length), (toB l)[k]'h = l[k]'h2 := fun k h h2 => rfl
  have HAT := Lib.hid hat
  clear hat
  obtain ⟨R, hR⟩ : ∃ R, R = o + (blE (l.drop o)).length := ⟨_, rfl⟩
  rw [← hR]
  have HR := Lib.hid hR
  clear hR
  generalize toB l = s at *
  go_enter Tryz.func26, Tryz.ntmps26
  go_wp2
  go_loop [1] (fun i => ∃ k : Nat, k ≤ l.length ∧ i = .int .i64 k ∧ Hid (R = k + (blE (l.drop k)).length)) (fun i => l.length - (intOf i).toNat)
  case atStart => exact ⟨o, ho, rfl, HR⟩
  case round =>
    obtain ⟨k, hk, rfl, HK⟩ := hrel
    clear HR
    have k0 : (0 : Int) ≤ (k : Int) := Int.natCast_nonneg _
    by_cases hlt : k < l.length
    · have hps : k < s.size := by rw [hsz]; exact hlt
      have hgs := HAT.out k hps hlt
      obtain ⟨c, hce⟩ : ∃ c : UInt8, l[k] = c := ⟨_, rfl⟩
      rw [hce] at hgs
      have k1 : (k : Int) < (l.length : Int) := by omega
      have c1 := fun w => rblank_any c w
      cases hE : isBlank c with
      | false =>
        have hRk : R = k := by rw [HK.out]; unfold blE; rw [tw_halt hlt (by rw [hce, hE])]; rfl
        subst hRk
        rw [hE] at c1
        clear HK hce hE
        go_wp2_with (go_at_call 48; (with_reducible refine (c1 _).mono ?_); rintro e w' ⟨rfl, rfl⟩)
        go_ret
        exact ⟨rfl, rfl⟩
      | true =>
        have HN : Hid (R = (k + 1) + (blE (l.drop (k + 1))).length) := by
          show R = _
          rw [HK.out]; unfold blE; rw [tw_go hlt (by rw [hce, hE])]; omega
        rw [hE] at c1
        clear HK hce hE
        go_wp2_with (go_at_call 48; (with_reducible refine (c1 _).mono ?_); rintro e w' ⟨rfl, rfl⟩)
        go_round
        case rel => exact ⟨k + 1, by omega, by go_num, HN⟩
        case measure => simp [intOf]; omega
    · obtain rfl : k = l.length := by omega
      have hRk : R = l.length := by rw [HK.out]; unfold blE; rw [tw_over (Nat.le_refl _)]; rfl
      subst hRk
      go_wp2
      go_ret
      exact ⟨rfl, rfl⟩
end Sel
end Go.Proofs.YthacboofbbfmlaaGreatDoor
/- The reference's simple selector. Conditions: the text is not too long. -/
namespace Go.Proofs.YthacboofbbfmlaaGreatDoor
open Go.ChangeShapes Go.WideShapes Go.ChangeAt Go.RowKit Go.Shelf
namespace Sel
open Tok
open RowG (Row)
/-- A part in the making, in the reference. -/
structure RiM (w : World) (base g : Nat) (vi vc : Value) (p : Sim) : Prop where
  blk : Blk w g 52 #[.string (toB p.tag), vi, vc, .bool p.link, .bool p.visited]
  hg : base ≤ g
  ids : Row w base 9 1 txC vi p.ids
  classes : Row w base 9 1 txC vc p.classes
  dj : Dj vi vc
theorem RiM.next {w w' : World} {base g : Nat} {vi vc : Value} {p : Sim} (h : RiM w base g vi vc p) (hb : Below w.heap.size w w') : RiM w' base g vi vc p :=
  ⟨h.blk.next hb, h.hg, h.ids.below hb, h.classes.below hb, h.dj⟩
theorem RiM.link_ {w : World} {base g : Nat} {vi vc : Value} {p : Sim} (h : RiM w base g vi vc p) : RiM (w.setCell ⟨g, 3, none⟩ (.bool true)) base g vi vc { p with link := true } :=
  ⟨h.blk.set_ 3 _, h.hg, row_kt h.ids (KT.set h.blk (by decide) _ _), row_kt h.classes (KT.set h.blk (by decide) _ _), h.dj⟩
theorem RiM.vis_ {w : World} {base g : Nat} {vi vc : Value} {p : Sim} (h : RiM w base g vi vc p) : RiM (w.setCell ⟨g, 4, none⟩ (.bool true)) base g vi vc { p with visited := true } :=
  ⟨h.blk.set_ 4 _, h.hg, row_kt h.ids (KT.set h.blk (by decide) _ _), row_kt h.classes (KT.set h.blk (by decide) _ _), h.dj⟩
theorem RiM.tag_ {w : World} {base g : Nat} {vi vc : Value} {p : Sim} (h : RiM w base g vi vc p) (t : List UInt8) : RiM (w.setCell ⟨g, 0, none⟩ (.string (toB t))) base g vi vc { p with tag := t } :=
  ⟨h.blk.set_ 0 _, h.hg, row_kt h.ids (KT.set h.blk (by decide) _ _), row_kt h.classes (KT.set h.blk (by decide) _ _), h.dj⟩
theorem RiM.id_ {W W1 w6 : World} {base g : Nat} {vi vc v6 : Value} {p : Sim} {n : List UInt8} (h : RiM W base g vi vc p) (hb1 : Below W.heap.size W W1) (hrow : Row w6 base 9 1 txC v6 (p.ids ++ [n])) (hg : W1.grownBy w6 vi.ownBlock) (ho : v6.ownBlock = vi.ownBlock ∨ v6.ownBlock = some W1.heap.size) :
    RiM (w6.setCell ⟨g, 1, none⟩ v6) base g v6 vc { p with ids := p.ids ++ [n] } := by
  have h1 := h.next hb1
  have hblk := blk_kt h1.blk (KT.grown h1.ids hg (by decide))
  have ks : KT w6 (w6.setCell ⟨g, 1, none⟩ v6) 9 := KT.set hblk (by decide) _ _
  refine ⟨hblk.set_ 1 v6, h.hg, row_kt hrow ks, ?_, ?_⟩
  · exact row_kt (row_other h1.classes hg (fun b hb => h.dj.symm b hb)) ks
  · exact (Dj.grown h.dj.symm h1.classes ho).symm
theorem RiM.class_ {W W1 w6 : World} {base g : Nat} {vi vc v6 : Value} {p : Sim} {n : List UInt8} (h : RiM W base g vi vc p) (hb1 : Below W.heap.size W W1) (hrow : Row w6 base 9 1 txC v6 (p.classes ++ [n])) (hg : W1.grownBy w6 vc.ownBlock) (ho : v6.ownBlock = vc.ownBlock ∨ v6.ownBlock = some W1.heap.size) :
    RiM (w6.setCell ⟨g, 2, none⟩ v6) base g vi v6 { p with classes := p.classes ++ [n] } := by
  have h1 := h.next hb1
  have hblk := blk_kt h1.blk (KT.grown h1.classes hg (by decide))
  have ks : KT w6 (w6.setCell ⟨g, 2, none⟩ v6) 9 := KT.set hblk (by decide) _ _
  refine ⟨hblk.set_ 2 v6, h.hg, ?_, row_kt hrow ks, ?_⟩
  · exact row_kt (row_other h1.ids hg (fun b hb => h.dj b hb)) ks
  · exact Dj.grown h.dj h1.ids ho

/-! ### the mathematics of one round -/
theorem txE_own (l : List UInt8) : txE l = own1 (txt l) := by
  unfold txE own1 txt
  induction l with
  | nil => rfl
  | cons c t ih =>
    have e : (!isE c) = (!isBt c && !isBg c) := by unfold isE; cases isBt c <;> cases isBg c <;> rfl
    cases h1 : isBt c with
    | true => rw [List.takeWhile_cons, List.takeWhile_cons, e, h1]; rfl
    | false =>
      cases h2 : isBg c with
      | true => rw [List.takeWhile_cons, List.takeWhile_cons, e, h1, h2]; simp [h2]
      | false =>
        rw [List.takeWhile_cons, List.takeWhile_cons, e, h1, h2]
        simp only [Bool.not_false, Bool.and_self, if_true, List.takeWhile_cons, h2]
        exact congrArg _ ih
theorem txt_drop_own : ∀ l : List UInt8, txt (l.drop (own1 (txt l)).length) = own2 (txt l) := by
  intro l
  induction l with
  | nil => rfl
  | cons c t ih =>
    cases hb : isBt c with
    | true =>
      have h1 : txt (c :: t) = [] := by unfold txt; rw [List.takeWhile_cons, hb]; rfl
      rw [h1]
      show txt ((c :: t).drop 0) = []
      exact h1
    | false =>
      have h1 : txt (c :: t) = c :: txt t := by unfold txt; rw [List.takeWhile_cons, hb]; rfl
      rw [h1]
      cases hg : isBg c with
      | true =>
        have h2 : own1 (c :: txt t) = [] := by unfold own1; rw [List.takeWhile_cons, hg]; rfl
        have h3 : own2 (c :: txt t) = c :: txt t := by unfold own2; rw [List.dropWhile_cons, hg]; rfl
        rw [h2, h3]
        exact h1
      | false =>
        have h2 : own1 (c :: txt t) = c :: own1 (txt t) := by unfold own1; rw [List.takeWhile_cons, hg]; rfl
        have h3 : own2 (c :: txt t) = own2 (txt t) := by unfold own2; rw [List.dropWhile_cons, hg]; rfl
        rw [h2, h3, List.length_cons, List.drop_succ_cons]
        exact ih
/-- What is to come of a part: so much taken already. -/
def goS (k : Nat) (rest : List UInt8) (p : Sim) : Option Sim := if k ≤ 8 then ownF (8 - k) rest p else none
theorem goS_nil (k : Nat) (p : Sim) : goS k [] p = if k ≤ 8 then some p else none := by
  unfold goS
  rw [own_nil]
theorem goS_none {k : Nat} {c : UInt8} {t : List UInt8} {p : Sim} (h : takeS p (c :: own1 t) = none) : goS k (c :: t) p = none := by
  unfold goS
  split
  · rcases Nat.eq_zero_or_pos (8 - k) with h0 | h0
    · rw [h0]; rfl
    · obtain ⟨m, hm⟩ : ∃ m, 8 - k = m + 1 := ⟨8 - k - 1, by omega⟩
      rw [hm, own_succ, h]
  · rfl
theorem goS_some {k : Nat} {c : UInt8} {t : List UInt8} {p q : Sim} (h : takeS p (c :: own1 t) = some q) : goS k (c :: t) p = goS (k + 1) (own2 t) q := by
  unfold goS
  rcases Nat.lt_trichotomy k 8 with h0 | h0 | h0
  · rw [if_pos (by omega), if_pos (by omega)]
    obtain ⟨m, hm⟩ : ∃ m, 8 - k = m + 1 := ⟨8 - k - 1, by omega⟩
    rw [hm, own_succ, h, show 8 - (k + 1) = m by omega]
  · subst h0
    rw [if_pos (Nat.le_refl _), if_neg (by omega)]
    rfl
  · rw [if_neg (by omega), if_neg (by omega)]
theorem simF_go {t : List UInt8} (h1 : t ≠ []) (h2 : tagP t = [] ∨ nameB (tagP t) = true) : simF t = goS 0 (own2 t) { sim0 with tag := tagP t } := by
  unfold simF goS
  rw [if_neg, if_pos (Nat.zero_le _)]
  rintro (e | ⟨e, e2⟩)
  · exact h1 e
  · rcases h2 with e' | e'
    · exact e e'
    · rw [e'] at e2; cases e2
theorem txt_cons {l : List UInt8} {k : Nat} (h : k < l.length) (hp : isBt l[k] = false) : txt (l.drop k) = l[k] :: txt (l.drop (k + 1)) := by
  unfold txt
  rw [List.drop_eq_getElem_cons h, List.takeWhile_cons, hp]; rfl
theorem txt_stop {l : List UInt8} {k : Nat} (h : k < l.length) (hp : isBt l[k] = true) : txt (l.drop k) = [] := by
  unfold txt
  rw [List.drop_eq_getElem_cons h, List.takeWhile_cons, hp]; rfl
theorem txt_over {l : List UInt8} {k : Nat} (h : l.length ≤ k) : txt (l.drop k) = [] := by rw [List.drop_eq_nil_of_le h]; rfl
/-- Where a part's own part ends, and what stands behind it. -/
theorem txt_next (l : List UInt8) (k : Nat) : txt (l.drop (k + (txE (l.drop k)).length)) = own2 (txt (l.drop k)) := by
  rw [← List.drop_drop, txE_own]
  exact txt_drop_own _
theorem txt_sum (l : List UInt8) (k : Nat) : (txt (l.drop k)).length = (txE (l.drop k)).length + (own2 (txt (l.drop k))).length := by
  rw [txE_own, ← List.length_append]
  exact congrArg List.length (List.takeWhile_append_dropWhile).symm
theorem isBg_head {t : List UInt8} {c : UInt8} {r : List UInt8} (h : own2 t = c :: r) : isBg c = true := by
  have := dropWhile_first (p := fun c => !isBg c) (l := t) h
  simpa using this
/-- What the reference's simple answers. -/
def RiR (w : World) (base : Nat) (q : Nat) (x : Option Sim) (e : Ending) : Prop := match x with
  | none => ∃ (t : ByteArray) (A : Option Addr) (n c : Nat) (K : Option Addr) (m d : Nat) (l v : Bool) (i : Int), e = .returned (.tuple #[.agg #[.string t, .slice A n c, .slice K m d, .bool l, .bool v], .int .i64 i, .bool false])
  | some p => ∃ vi vc, e = .returned (.tuple #[siV p vi vc, .int .i64 q, .bool true]) ∧ Row w base 9 1 txC vi p.ids ∧ Row w base 9 1 txC vc p.classes
end Sel
end Go.Proofs.YthacboofbbfmlaaGreatDoor
/- The reference's simple: a walk. Conditions: the text is not too long. -/
namespace Go.Proofs.YthacboofbbfmlaaGreatDoor
open Go.ChangeShapes Go.WideShapes Go.ChangeAt Go.RowKit Go.Shelf
namespace Sel
open Tok
open RowG (Row)
theorem cutM (l : List UInt8) (a b : Nat) (hab : a ≤ b) (hb : b ≤ l.length) (w : World) : (Instr.slice 9 (.string (toB l)) (some (.int .i64 (a : Int))) (some (.int .i64 (b : Int))) none).run Tryz.prog w = .ok (.string (toB ((l.drop a).take (b - a)))) w := by
  have h := run_slice_string (P := Tryz.prog) (w := w) 9 (toB l) .i64 .i64 a b Tryz.underlying9 (by omega) (by omega) (by rw [toB_size]; omega)
  have e : (toB l).extract (a : Int).toNat (b : Int).toNat = toB ((l.drop a).take (b - a)) := by
    rw [Int.toNat_natCast, Int.toNat_natCast]
    have := Rt.ext_toB l a (b - a)
    rwa [show a + (b - a) = b by omega] at this
  rw [h, e]
theorem cut_tw {p : UInt8 → Bool} (l : List UInt8) (a : Nat) : (l.drop a).take (a + ((l.drop a).takeWhile p).length - a) = (l.drop a).takeWhile p := by
  rw [show a + ((l.drop a).takeWhile p).length - a = ((l.drop a).takeWhile p).length by omega]
  have h : (l.drop a).takeWhile p ++ (l.drop a).dropWhile p = l.drop a := List.takeWhile_append_dropWhile
  have h2 : ((l.drop a).takeWhile p ++ (l.drop a).dropWhile p).take ((l.drop a).takeWhile p).length = (l.drop a).takeWhile p := List.take_left
  rwa [h] at h2
theorem isBg_cases {c : UInt8} (h : isBg c = true) : c = 35 ∨ c = 46 ∨ c = 58 := by
  unfold isBg at h
  simpa [or_assoc] using h
theorem isBt_cases {c : UInt8} (h : isBt c = true) : ((c.toNat : Int) = 62 ∨ ((c.toNat : Int) ≠ 62 ∧ isBlank c = true)) := by
  revert h
  revert c
  have key : ∀ k : Fin 256, isBt (UInt8.ofNat k.val) = true → ((UInt8.ofNat k.val).toNat : Int) = 62 ∨ (((UInt8.ofNat k.val).toNat : Int) ≠ 62 ∧ isBlank (UInt8.ofNat k.val) = true) := by decide +kernel
  intro c
  have := key ⟨c.toNat, c.toNat_lt⟩
  simpa using this
theorem isBt_not {c : UInt8} (h : isBt c = false) : isBlank c = false ∧ (c.toNat : Int) ≠ 62 := by
  revert h
  revert c
  have key : ∀ k : Fin 256, isBt (UInt8.ofNat k.val) = false → isBlank (UInt8.ofNat k.val) = false ∧ ((UInt8.ofNat k.val).toNat : Int) ≠ 62 := by decide +kernel
  intro c
  have := key ⟨c.toNat, c.toNat_lt⟩
  simpa using this
def rsPost (w : World) (x : Option Sim) (q : Nat) (e : Ending) (w' : World) : Prop := RiR w' w.heap.size q x e ∧ Below w.heap.size w w'
theorem at35 (p : Sim) (n : List UInt8) : takeS p (35 :: n) = if nameB n = true then some { p with ids := p.ids ++ [n] } else none := by
  rw [take_sign (by unfold linkT; intro e; injection e with e; revert e; decide) (by unfold visT; intro e; injection e with e; revert e; decide)]
  by_cases h : nameB n = true
  · rw [if_pos ⟨rfl, h⟩, if_pos h]
  · rw [if_neg (fun e => h e.2), if_neg (fun e => h e.2), if_neg h]
theorem at46 (p : Sim) (n : List UInt8) : takeS p (46 :: n) = if nameB n = true then some { p with classes := p.classes ++ [n] } else none := by
  rw [take_sign (by unfold linkT; intro e; injection e with e; revert e; decide) (by unfold visT; intro e; injection e with e; revert e; decide)]
  rw [if_neg (fun e => absurd e.1 (by decide))]
  by_cases h : nameB n = true
  · rw [if_pos ⟨rfl, h⟩, if_pos h]
  · rw [if_neg (fun e => h e.2), if_neg h]
theorem at58 (p : Sim) (n : List UInt8) : takeS p (58 :: n) = if n = [108, 105, 110, 107] then some { p with link := true } else if n = [118, 105, 115, 105, 116, 101, 100] then some { p with visited := true } else none := by
  unfold takeS
  by_cases h : n = [108, 105, 110, 107]
  · rw [if_pos (by rw [h]; rfl), if_pos h]
  · rw [if_neg (by unfold linkT; intro e; injection e with _ e; exact h e), if_neg h]
    by_cases h2 : n = [118, 105, 115, 105, 116, 101, 100]
    · rw [if_pos (by rw [h2]; rfl), if_pos h2]
    · rw [if_neg (by unfold visT; intro e; injection e with _ e; exact h2 e), if_neg h2]
      show (if (58 : UInt8) = 35 ∧ nameB n = true then _ else if (58 : UInt8) = 46 ∧ nameB n = true then _ else none) = none
      rw [if_neg (fun e => absurd e.1 (by decide)), if_neg (fun e => absurd e.1 (by decide))]
theorem tag_cases (t : List UInt8) : (own1 t = [] ∧ tagP t = []) ∨ (own1 t = [42] ∧ tagP t = []) ∨ (own1 t ≠ [] ∧ own1 t ≠ [42] ∧ tagP t = own1 t) := by
  unfold tagP
  by_cases h : own1 t = [42]
  · exact .inr (.inl ⟨h, if_pos h⟩)
  · rw [if_neg h]
    by_cases h2 : own1 t = []
    · exact .inl ⟨h2, h2⟩
    · exact .inr (.inr ⟨h2, h, rfl⟩)
theorem cut_txE (l : List UInt8) (a : Nat) : (l.drop a).take (a + (txE (l.drop a)).length - a) = txE (l.drop a) := cut_tw l a
theorem len_txE (l : List UInt8) (a : Nat) (h : a ≤ l.length) : a + (txE (l.drop a)).length ≤ l.length := tw_len _ l a h
theorem txt_head {l : List UInt8} {k : Nat} {c : UInt8} {r : List UInt8} (h : txt (l.drop k) = c :: r) : ∃ hk : k < l.length, l[k] = c ∧ isBt c = false ∧ r = txt (l.drop (k + 1)) := by
  rcases Nat.lt_or_ge k l.length with hk | hk
  · cases hb : isBt l[k] with
    | true => rw [txt_stop hk hb] at h; cases h
    | false =>
      rw [txt_cons hk hb] at h
      injection h with h1 h2
      exact ⟨hk, h1, h1 ▸ hb, h2.symm⟩
  · rw [txt_over hk] at h; cases h
theorem txt_nil {l : List UInt8} {k : Nat} (h : txt (l.drop k) = []) (hk : k ≤ l.length) : k = l.length ∨ ∃ c, ∃ hk : k < l.length, l[k] = c ∧ isBt c = true := by
  rcases Nat.lt_or_ge k l.length with h1 | h1
  · cases hb : isBt l[k] with
    | true => exact .inr ⟨_, h1, rfl, hb⟩
    | false => rw [txt_cons h1 hb] at h; cases h
  · exact .inl (by omega)
set_option maxRecDepth 100000 in
set_option maxHeartbeats 64000000 in
/-- The part at a place. -/
theorem rsimple_any (l : List UInt8) (o : Nat) (hl : l.length ≤ 100000) (ho : o ≤ l.length) (w : World) :
    Calls Tryz.prog 25 #[.string (toB l), .int .i64 o] w fun e w' => RiR w' w.heap.size (o + (txt (l.drop o)).length) (simF (txt (l.drop o))) e ∧ Below w.heap.size w w' := by
  have hsz : (toB l).size = l.length := toB_size l
  have hat : ∀ (k : Nat) (h : k < (toB l).size) (h2 : k < l.length), (toB l)[k]'h = l[k]'h2 := fun k h h2 => rfl
  have HAT := Lib.hid hat
  clear hat
  have HEND := Lib.hid (fun (k : Nat) (hk : k ≤ l.length) (w : World) => rend_any l k hl hk w)
  have HCUT := Lib.hid (fun (a b : Nat) (hab : a ≤ b) (hb : b ≤ l.length) (w : World) => cutM l a b hab hb w)
  obtain ⟨t, ht⟩ : ∃ t, t = txt (l.drop o) := ⟨_, rfl⟩
  have hTo : txE (l.drop o) = own1 t := by rw [ht]; exact txE_own _
  obtain ⟨m, hm⟩ : ∃ m, m = o + (own1 t).length := ⟨_, rfl⟩
  have hml : m ≤ l.length := by rw [hm, ← hTo]; exact tw_len _ l o ho
  have c0 := fun w => HEND.out o ho w
  rw [hTo, ← hm] at c0
  have h0 : txt (l.drop m) = own2 t := by rw [hm, ← hTo, ht]; exact txt_next l o
  have hE : m + (own2 t).length = o + t.length := by rw [hm, ht, txt_sum l o, txE_own]; omega
  have hcut0 := fun w => HCUT.out o m (by omega) hml w
  have e0 : (l.drop o).take (m - o) = own1 t := by rw [hm, ← hTo]; exact cut_tw l o
  rw [e0] at hcut0
  have hmo : (o : Int) ≤ (m : Int) := by omega
  have htz : t.length ≤ l.length := by rw [ht]; exact Nat.le_trans (txt_le _) (by rw [List.length_drop]; omega)
  have hoz := own1_le t
  have cn := fun w => Rt.name_any (own1 t) (by omega) w
  have z1 := lit_eq (own1 t) []
  have z2 := lit_eq (own1 t) [42]
  have htl : t = [] ↔ own1 t = [] ∧ own2 t = [] := by
    constructor
    · rintro rfl; exact ⟨rfl, rfl⟩
    · rintro ⟨a, b⟩
      have : own1 t ++ own2 t = t := List.takeWhile_append_dropWhile
      rw [a, b] at this
      exact this.symm
  have hT := tag_cases t
  have hgo := @simF_go t
  have hbad : tagP t ≠ [] → nameB (tagP t) = false → simF t = none := fun a b => by unfold simF; rw [if_pos (.inr ⟨a, b⟩)]
  rw [← ht]
  have hnil : t = [] → simF t = none := fun a => by unfold simF; rw [if_pos (.inl a)]
  obtain ⟨X, hX⟩ : ∃ X, X = simF t := ⟨_, rfl⟩
  rw [← hX] at hgo hbad hnil ⊢
  obtain ⟨q, hq⟩ : ∃ q, q = o + t.length := ⟨_, rfl⟩
  rw [← hq] at hE ⊢
  have hub : ∀ (c : UInt8) (r : List UInt8), own2 t = c :: r → isBg c = true := fun c r h => isBg_head h
  clear hm hTo ht e0
  generalize own1 t = T at *
  generalize own2 t = U at *
  generalize tagP t = tp at *
  have H0 := Lib.hid h0
  have HE := Lib.hid hE
  have HTL := Lib.hid htl
  have HGO := Lib.hid hgo
  have HBAD := Lib.hid hbad
  have HNIL := Lib.hid hnil
  have HUB := Lib.hid hub
  clear hub h0 hE htl hgo hbad hnil hX hq
  have K0 := (Blk.new w 52 zS).alloc (.cells zS 52)
  have K1 := Blk.new (w.alloc (.cells zS 52)) 52 zS
  rw [size_al] at K1
  have hB0 := below_al (below_al (Below.refl w.heap.size w) (.cells zS 52)) (.cells zS 52)
  have hS0 : RiM ((w.alloc (.cells zS 52)).alloc (.cells zS 52)) w.heap.size (w.heap.size + 1) (.slice none 0 0) (.slice none 0 0) sim0 := ⟨K1, Nat.le_succ _, Row.nil _ _ _ _ _, Row.nil _ _ _ _ _, fun b hb => by simp [Value.ownBlock] at hb⟩
  unfold zS at *
  -- WALK
  generalize toB l = s at *
  rcases hT with ⟨hT0, htp⟩ | ⟨hT0, htp⟩ | ⟨hT1, hT2, htp⟩
  · skip
    have z1' : ((toB T).toList == []) = true := by rw [hT0, lit_eq]; rfl
    have z2' : ((toB T).toList == [42]) = false := by rw [hT0, lit_eq]; rfl
    have hok : tp = [] ∨ nameB tp = true := .inl htp
    have htT : T = tp := hT0.trans htp.symm
    have HT0 := Lib.hid hT0
    clear z1 z2 HBAD hT0
    subst htT
    clear htp
    go_enter Tryz.func25, Tryz.ntmps25
    go_wp2_with (first
      | (go_at_call 49; (with_reducible refine (c0 _).mono ?_); rintro e w2 ⟨rfl, rfl⟩))
    have K0a := (Blk.new w 52 #[.string ⟨#[]⟩, .slice none 0 0, .slice none 0 0, .bool false, .bool false]).alloc (.cells #[.string (toB T), .slice none 0 0, .slice none 0 0, .bool false, .bool false] 52)
    have K1a := Blk.new (w.alloc (.cells #[.string ⟨#[]⟩, .slice none 0 0, .slice none 0 0, .bool false, .bool false] 52)) 52 #[.string (toB T), .slice none 0 0, .slice none 0 0, .bool false, .bool false]
    rw [size_al] at K1a
    have hB3 := below_al (below_al (Below.refl w.heap.size w) (.cells #[.string ⟨#[]⟩, .slice none 0 0, .slice none 0 0, .bool false, .bool false] 52)) (.cells #[.string (toB T), .slice none 0 0, .slice none 0 0, .bool false, .bool false] 52)
    have hS3 : RiM ((w.alloc (.cells #[.string ⟨#[]⟩, .slice none 0 0, .slice none 0 0, .bool false, .bool false] 52)).alloc (.cells #[.string (toB T), .slice none 0 0, .slice none 0 0, .bool false, .bool false] 52)) w.heap.size (w.heap.size + 1) (.slice none 0 0) (.slice none 0 0) { sim0 with tag := T } := ⟨K1a, Nat.le_succ _, Row.nil _ _ _ _ _, Row.nil _ _ _ _ _, fun b hb => by simp [Value.ownBlock] at hb⟩
    have KR3 := K0a
    clear hS0 K0 K1 K0a K1a hB0 c0 hcut0 z2' cn
    generalize ((w.alloc (.cells #[.string ⟨#[]⟩, .slice none 0 0, .slice none 0 0, .bool false, .bool false] 52)).alloc (.cells #[.string (toB T), .slice none 0 0, .slice none 0 0, .bool false, .bool false] 52)) = W3 at *
    obtain ⟨R, hR⟩ : ∃ R, goS 0 U { sim0 with tag := T } = R := ⟨_, rfl⟩
    have HR : Hid (R = goS 0 (txt (l.drop m)) { sim0 with tag := T }) := by show _ = _; rw [H0.out, hR]
    have HXR : Hid (¬ (T = [] ∧ U = []) → X = R) := fun h => (HGO.out (fun e => h (HTL.out.1 e)) hok).trans hR
    have HXN : Hid (T = [] ∧ U = [] → X = none) := fun h => HNIL.out (HTL.out.2 h)
    have HU0 : Hid (txt (l.drop m) = U) := H0
    have HQ0 : Hid (m + (txt (l.drop m)).length = q) := by show _ = _; rw [H0.out]; exact HE.out
    have HB0 : Hid (∀ (c : UInt8) (r : List UInt8), txt (l.drop m) = c :: r → isBg c = true) := by rw [H0.out]; exact HUB
    have hSW : ∃ vi vc, RiM W3 w.heap.size (w.heap.size + 1) vi vc { sim0 with tag := T } := ⟨_, _, hS3⟩
    clear hR HGO HTL HNIL H0 HE HUB hok hS3
    have hp0 : ∃ p0, p0 = { sim0 with tag := T } ∧ p0.ids.length ≤ 0 ∧ p0.classes.length ≤ 0 := ⟨_, rfl, Nat.le_refl 0, Nat.le_refl 0⟩
    obtain ⟨p0, hp0, hp0i, hp0c⟩ := hp0
    rw [← hp0] at HR hSW
    clear hp0
    go_loopw [8, 10] (fun v8 v10 wr => ∃ (k n : Nat) (p : Sim), v8 = .int .i64 k ∧ v10 = .int .i64 n ∧ k ≤ l.length ∧ n ≤ k ∧ (∃ vi vc, RiM wr w.heap.size (w.heap.size + 1) vi vc p) ∧ p.ids.length ≤ n ∧ p.classes.length ≤ n ∧ Hid (R = goS n (txt (l.drop k)) p) ∧ Hid (k + (txt (l.drop k)).length = q) ∧ Hid (∀ (c : UInt8) (r : List UInt8), txt (l.drop k) = c :: r → isBg c = true) ∧ Hid (n = 0 → txt (l.drop k) = U) ∧ Hid (0 < n → U ≠ []) ∧ Blk wr w.heap.size 52 #[.string ⟨#[]⟩, .slice none 0 0, .slice none 0 0, .bool false, .bool false] ∧ Below w.heap.size w wr) (fun v8 _ _ => l.length - (intOf v8).toNat)
    case atStart => exact ⟨m, 0, p0, rfl, rfl, hml, Nat.zero_le _, hSW, hp0i, hp0c, HR, HQ0, HB0, fun _ => HU0.out, fun h => absurd h (Nat.lt_irrefl 0), KR3, hB3⟩
    case round =>
      obtain ⟨k, n, p, rfl, rfl, hkl, hnk, ⟨vi, vc, hS⟩, hi, hc, HK, HQ, HB, HZ0, HNU, KR, hBr⟩ := hrel
      clear HR HQ0 HB0 HU0 hSW KR3 hB3 hp0i hp0c hml hmo
      have k0 : (0 : Int) ≤ (k : Int) := Int.natCast_nonneg _
      have n0 : (0 : Int) ≤ (n : Int) := Int.natCast_nonneg _
      cases hD : txt (l.drop k) with
      | nil =>
        have hkq : (q : Int) = (k : Int) := by have := HQ.out; rw [hD] at this; simp at this; omega
        have hnil := hD
        rw [hD] at HK
        obtain ⟨f0, f1, f2, f3, f4⟩ := fz5 KR
        obtain ⟨y0, y1, y2, y3, y4⟩ := blk5 KR
        clear HQ HB
        rcases txt_nil hD hkl with hke | ⟨c, hk1, hck, hcb⟩
        · have c1 := fun w => rblank_any 0 w
          have hki : ¬ (k : Int) < (l.length : Int) := by omega
          clear hD hke
          by_cases h8 : 8 < n
          · have hX : X = none := by rw [HXR.out (fun e => HNU.out (by omega) e.2), HK.out, goS_nil, if_neg (by omega)]
            have hn8 : ¬ (n : Int) ≤ 8 := by omega
            have hn8n : ¬ n ≤ 8 := by omega
            have hn0 : (0 : Int) < (n : Int) := by omega
            have hn0n : 0 < n := by omega
            obtain ⟨Ai, ci, rfl⟩ := hS.ids.form
            obtain ⟨Ac, cc, rfl⟩ := hS.classes.form
            obtain ⟨s0, s1, s2, s3, s4⟩ := blk5 hS.blk
            go_wp2_with (go_at_call 48; (with_reducible refine (c1 _).mono ?_); rintro e w' ⟨rfl, rfl⟩)
            have hKT := kt_set5 (e := 9) KR (by decide) (.string (toB p.tag)) (.slice Ai p.ids.length ci) (.slice Ac p.classes.length cc) (.bool p.link) (.bool p.visited)
            have hri := row_kt hS.ids hKT
            have hrc := row_kt hS.classes hKT
            have K5 := blk_set5 KR (.string (toB p.tag)) (.slice Ai p.ids.length ci) (.slice Ac p.classes.length cc) (.bool p.link) (.bool p.visited)
            have B5 := below_set5 hBr (Nat.le_refl w.heap.size) (.string (toB p.tag)) (.slice Ai p.ids.length ci) (.slice Ac p.classes.length cc) (.bool p.link) (.bool p.visited)
            generalize ((((wr.setCell ⟨w.heap.size, 0, none⟩ (.string (toB p.tag))).setCell ⟨w.heap.size, 1, none⟩ (.slice Ai p.ids.length ci)).setCell ⟨w.heap.size, 2, none⟩ (.slice Ac p.classes.length cc)).setCell ⟨w.heap.size, 3, none⟩ (.bool p.link)).setCell ⟨w.heap.size, 4, none⟩ (.bool p.visited) = WF at K5 B5 hri hrc ⊢
            obtain ⟨r0, r1, r2, r3, r4⟩ := blk5 K5
            exact bodyPost_ret (v := .tuple #[siV p (.slice Ai p.ids.length ci) (.slice Ac p.classes.length cc), .int .i64 k, .bool false]) (by simp [results, Tryz.results25, go_sem, siV, r0, r1, r2, r3, r4] <;> omega) rfl ⟨by (try rw [hX]); exact ⟨_, _, _, _, _, _, _, _, _, _, rfl⟩, B5⟩
          have hn8 : (n : Int) ≤ 8 := by omega
          have hn8n : n ≤ 8 := by omega
          by_cases h0n : n = 0
          · have hX : X = none := HXN.out ⟨HT0.out, (HZ0.out h0n).symm.trans (by rw [hnil])⟩
            have hn0 : ¬ (0 : Int) < (n : Int) := by omega
            have hn0n : ¬ 0 < n := by omega
            clear h0n
            obtain ⟨Ai, ci, rfl⟩ := hS.ids.form
            obtain ⟨Ac, cc, rfl⟩ := hS.classes.form
            obtain ⟨s0, s1, s2, s3, s4⟩ := blk5 hS.blk
            go_wp2_with (go_at_call 48; (with_reducible refine (c1 _).mono ?_); rintro e w' ⟨rfl, rfl⟩)
            have hKT := kt_set5 (e := 9) KR (by decide) (.string (toB p.tag)) (.slice Ai p.ids.length ci) (.slice Ac p.classes.length cc) (.bool p.link) (.bool p.visited)
            have hri := row_kt hS.ids hKT
            have hrc := row_kt hS.classes hKT
            have K5 := blk_set5 KR (.string (toB p.tag)) (.slice Ai p.ids.length ci) (.slice Ac p.classes.length cc) (.bool p.link) (.bool p.visited)
            have B5 := below_set5 hBr (Nat.le_refl w.heap.size) (.string (toB p.tag)) (.slice Ai p.ids.length ci) (.slice Ac p.classes.length cc) (.bool p.link) (.bool p.visited)
            generalize ((((wr.setCell ⟨w.heap.size, 0, none⟩ (.string (toB p.tag))).setCell ⟨w.heap.size, 1, none⟩ (.slice Ai p.ids.length ci)).setCell ⟨w.heap.size, 2, none⟩ (.slice Ac p.classes.length cc)).setCell ⟨w.heap.size, 3, none⟩ (.bool p.link)).setCell ⟨w.heap.size, 4, none⟩ (.bool p.visited) = WF at K5 B5 hri hrc ⊢
            obtain ⟨r0, r1, r2, r3, r4⟩ := blk5 K5
            exact bodyPost_ret (v := .tuple #[siV p (.slice Ai p.ids.length ci) (.slice Ac p.classes.length cc), .int .i64 k, .bool false]) (by simp [results, Tryz.results25, go_sem, siV, r0, r1, r2, r3, r4] <;> omega) rfl ⟨by (try rw [hX]); exact ⟨_, _, _, _, _, _, _, _, _, _, rfl⟩, B5⟩
          have hX : X = some p := by rw [HXR.out (fun e => HNU.out (by omega) e.2), HK.out, goS_nil, if_pos (by omega)]
          have hn0 : (0 : Int) < (n : Int) := by omega
          have hn0n : 0 < n := by omega
          clear h0n
          obtain ⟨Ai, ci, rfl⟩ := hS.ids.form
          obtain ⟨Ac, cc, rfl⟩ := hS.classes.form
          obtain ⟨s0, s1, s2, s3, s4⟩ := blk5 hS.blk
          go_wp2_with (go_at_call 48; (with_reducible refine (c1 _).mono ?_); rintro e w' ⟨rfl, rfl⟩)
          have hKT := kt_set5 (e := 9) KR (by decide) (.string (toB p.tag)) (.slice Ai p.ids.length ci) (.slice Ac p.classes.length cc) (.bool p.link) (.bool p.visited)
          have hri := row_kt hS.ids hKT
          have hrc := row_kt hS.classes hKT
          have K5 := blk_set5 KR (.string (toB p.tag)) (.slice Ai p.ids.length ci) (.slice Ac p.classes.length cc) (.bool p.link) (.bool p.visited)
          have B5 := below_set5 hBr (Nat.le_refl w.heap.size) (.string (toB p.tag)) (.slice Ai p.ids.length ci) (.slice Ac p.classes.length cc) (.bool p.link) (.bool p.visited)
          generalize ((((wr.setCell ⟨w.heap.size, 0, none⟩ (.string (toB p.tag))).setCell ⟨w.heap.size, 1, none⟩ (.slice Ai p.ids.length ci)).setCell ⟨w.heap.size, 2, none⟩ (.slice Ac p.classes.length cc)).setCell ⟨w.heap.size, 3, none⟩ (.bool p.link)).setCell ⟨w.heap.size, 4, none⟩ (.bool p.visited) = WF at K5 B5 hri hrc ⊢
          obtain ⟨r0, r1, r2, r3, r4⟩ := blk5 K5
          exact bodyPost_ret (v := .tuple #[siV p (.slice Ai p.ids.length ci) (.slice Ac p.classes.length cc), .int .i64 k, .bool true]) (by simp [results, Tryz.results25, go_sem, siV, r0, r1, r2, r3, r4] <;> omega) rfl ⟨by (try rw [hX]); exact ⟨_, _, by rw [hkq], hri, hrc⟩, B5⟩
        · have hps : k < s.size := by rw [hsz]; exact hk1
          have hgs := HAT.out k hps hk1
          rw [hck] at hgs
          have hki : (k : Int) < (l.length : Int) := by omega
          have c1 := fun w => rblank_any c w
          clear hD hck
          rcases isBt_cases hcb with hx | ⟨hx, hy⟩
          · clear hcb c1
            have c1 := fun w => rblank_any 0 w
            by_cases h8 : 8 < n
            · have hX : X = none := by rw [HXR.out (fun e => HNU.out (by omega) e.2), HK.out, goS_nil, if_neg (by omega)]
              have hn8 : ¬ (n : Int) ≤ 8 := by omega
              have hn8n : ¬ n ≤ 8 := by omega
              have hn0 : (0 : Int) < (n : Int) := by omega
              have hn0n : 0 < n := by omega
              obtain ⟨Ai, ci, rfl⟩ := hS.ids.form
              obtain ⟨Ac, cc, rfl⟩ := hS.classes.form
              obtain ⟨s0, s1, s2, s3, s4⟩ := blk5 hS.blk
              go_wp2_with (go_at_call 48; (with_reducible refine (c1 _).mono ?_); rintro e w' ⟨rfl, rfl⟩)
              have hKT := kt_set5 (e := 9) KR (by decide) (.string (toB p.tag)) (.slice Ai p.ids.length ci) (.slice Ac p.classes.length cc) (.bool p.link) (.bool p.visited)
              have hri := row_kt hS.ids hKT
              have hrc := row_kt hS.classes hKT
              have K5 := blk_set5 KR (.string (toB p.tag)) (.slice Ai p.ids.length ci) (.slice Ac p.classes.length cc) (.bool p.link) (.bool p.visited)
              have B5 := below_set5 hBr (Nat.le_refl w.heap.size) (.string (toB p.tag)) (.slice Ai p.ids.length ci) (.slice Ac p.classes.length cc) (.bool p.link) (.bool p.visited)
              generalize ((((wr.setCell ⟨w.heap.size, 0, none⟩ (.string (toB p.tag))).setCell ⟨w.heap.size, 1, none⟩ (.slice Ai p.ids.length ci)).setCell ⟨w.heap.size, 2, none⟩ (.slice Ac p.classes.length cc)).setCell ⟨w.heap.size, 3, none⟩ (.bool p.link)).setCell ⟨w.heap.size, 4, none⟩ (.bool p.visited) = WF at K5 B5 hri hrc ⊢
              obtain ⟨r0, r1, r2, r3, r4⟩ := blk5 K5
              exact bodyPost_ret (v := .tuple #[siV p (.slice Ai p.ids.length ci) (.slice Ac p.classes.length cc), .int .i64 k, .bool false]) (by simp [results, Tryz.results25, go_sem, siV, r0, r1, r2, r3, r4] <;> omega) rfl ⟨by (try rw [hX]); exact ⟨_, _, _, _, _, _, _, _, _, _, rfl⟩, B5⟩
            have hn8 : (n : Int) ≤ 8 := by omega
            have hn8n : n ≤ 8 := by omega
            by_cases h0n : n = 0
            · have hX : X = none := HXN.out ⟨HT0.out, (HZ0.out h0n).symm.trans (by rw [hnil])⟩
              have hn0 : ¬ (0 : Int) < (n : Int) := by omega
              have hn0n : ¬ 0 < n := by omega
              clear h0n
              obtain ⟨Ai, ci, rfl⟩ := hS.ids.form
              obtain ⟨Ac, cc, rfl⟩ := hS.classes.form
              obtain ⟨s0, s1, s2, s3, s4⟩ := blk5 hS.blk
              go_wp2_with (go_at_call 48; (with_reducible refine (c1 _).mono ?_); rintro e w' ⟨rfl, rfl⟩)
              have hKT := kt_set5 (e := 9) KR (by decide) (.string (toB p.tag)) (.slice Ai p.ids.length ci) (.slice Ac p.classes.length cc) (.bool p.link) (.bool p.visited)
              have hri := row_kt hS.ids hKT
              have hrc := row_kt hS.classes hKT
              have K5 := blk_set5 KR (.string (toB p.tag)) (.slice Ai p.ids.length ci) (.slice Ac p.classes.length cc) (.bool p.link) (.bool p.visited)
              have B5 := below_set5 hBr (Nat.le_refl w.heap.size) (.string (toB p.tag)) (.slice Ai p.ids.length ci) (.slice Ac p.classes.length cc) (.bool p.link) (.bool p.visited)
              generalize ((((wr.setCell ⟨w.heap.size, 0, none⟩ (.string (toB p.tag))).setCell ⟨w.heap.size, 1, none⟩ (.slice Ai p.ids.length ci)).setCell ⟨w.heap.size, 2, none⟩ (.slice Ac p.classes.length cc)).setCell ⟨w.heap.size, 3, none⟩ (.bool p.link)).setCell ⟨w.heap.size, 4, none⟩ (.bool p.visited) = WF at K5 B5 hri hrc ⊢
              obtain ⟨r0, r1, r2, r3, r4⟩ := blk5 K5
              exact bodyPost_ret (v := .tuple #[siV p (.slice Ai p.ids.length ci) (.slice Ac p.classes.length cc), .int .i64 k, .bool false]) (by simp [results, Tryz.results25, go_sem, siV, r0, r1, r2, r3, r4] <;> omega) rfl ⟨by (try rw [hX]); exact ⟨_, _, _, _, _, _, _, _, _, _, rfl⟩, B5⟩
            have hX : X = some p := by rw [HXR.out (fun e => HNU.out (by omega) e.2), HK.out, goS_nil, if_pos (by omega)]
            have hn0 : (0 : Int) < (n : Int) := by omega
            have hn0n : 0 < n := by omega
            clear h0n
            obtain ⟨Ai, ci, rfl⟩ := hS.ids.form
            obtain ⟨Ac, cc, rfl⟩ := hS.classes.form
            obtain ⟨s0, s1, s2, s3, s4⟩ := blk5 hS.blk
            go_wp2_with (go_at_call 48; (with_reducible refine (c1 _).mono ?_); rintro e w' ⟨rfl, rfl⟩)
            have hKT := kt_set5 (e := 9) KR (by decide) (.string (toB p.tag)) (.slice Ai p.ids.length ci) (.slice Ac p.classes.length cc) (.bool p.link) (.bool p.visited)
            have hri := row_kt hS.ids hKT
            have hrc := row_kt hS.classes hKT
            have K5 := blk_set5 KR (.string (toB p.tag)) (.slice Ai p.ids.length ci) (.slice Ac p.classes.length cc) (.bool p.link) (.bool p.visited)
            have B5 := below_set5 hBr (Nat.le_refl w.heap.size) (.string (toB p.tag)) (.slice Ai p.ids.length ci) (.slice Ac p.classes.length cc) (.bool p.link) (.bool p.visited)
            generalize ((((wr.setCell ⟨w.heap.size, 0, none⟩ (.string (toB p.tag))).setCell ⟨w.heap.size, 1, none⟩ (.slice Ai p.ids.length ci)).setCell ⟨w.heap.size, 2, none⟩ (.slice Ac p.classes.length cc)).setCell ⟨w.heap.size, 3, none⟩ (.bool p.link)).setCell ⟨w.heap.size, 4, none⟩ (.bool p.visited) = WF at K5 B5 hri hrc ⊢
            obtain ⟨r0, r1, r2, r3, r4⟩ := blk5 K5
            exact bodyPost_ret (v := .tuple #[siV p (.slice Ai p.ids.length ci) (.slice Ac p.classes.length cc), .int .i64 k, .bool true]) (by simp [results, Tryz.results25, go_sem, siV, r0, r1, r2, r3, r4] <;> omega) rfl ⟨by (try rw [hX]); exact ⟨_, _, by rw [hkq], hri, hrc⟩, B5⟩
          · rw [hy] at c1
            have hxb := bne_iff_ne.2 hx
            clear hcb hy hx
            by_cases h8 : 8 < n
            · have hX : X = none := by rw [HXR.out (fun e => HNU.out (by omega) e.2), HK.out, goS_nil, if_neg (by omega)]
              have hn8 : ¬ (n : Int) ≤ 8 := by omega
              have hn8n : ¬ n ≤ 8 := by omega
              have hn0 : (0 : Int) < (n : Int) := by omega
              have hn0n : 0 < n := by omega
              obtain ⟨Ai, ci, rfl⟩ := hS.ids.form
              obtain ⟨Ac, cc, rfl⟩ := hS.classes.form
              obtain ⟨s0, s1, s2, s3, s4⟩ := blk5 hS.blk
              go_wp2_with (go_at_call 48; (with_reducible refine (c1 _).mono ?_); rintro e w' ⟨rfl, rfl⟩)
              have hKT := kt_set5 (e := 9) KR (by decide) (.string (toB p.tag)) (.slice Ai p.ids.length ci) (.slice Ac p.classes.length cc) (.bool p.link) (.bool p.visited)
              have hri := row_kt hS.ids hKT
              have hrc := row_kt hS.classes hKT
              have K5 := blk_set5 KR (.string (toB p.tag)) (.slice Ai p.ids.length ci) (.slice Ac p.classes.length cc) (.bool p.link) (.bool p.visited)
              have B5 := below_set5 hBr (Nat.le_refl w.heap.size) (.string (toB p.tag)) (.slice Ai p.ids.length ci) (.slice Ac p.classes.length cc) (.bool p.link) (.bool p.visited)
              generalize ((((wr.setCell ⟨w.heap.size, 0, none⟩ (.string (toB p.tag))).setCell ⟨w.heap.size, 1, none⟩ (.slice Ai p.ids.length ci)).setCell ⟨w.heap.size, 2, none⟩ (.slice Ac p.classes.length cc)).setCell ⟨w.heap.size, 3, none⟩ (.bool p.link)).setCell ⟨w.heap.size, 4, none⟩ (.bool p.visited) = WF at K5 B5 hri hrc ⊢
              obtain ⟨r0, r1, r2, r3, r4⟩ := blk5 K5
              exact bodyPost_ret (v := .tuple #[siV p (.slice Ai p.ids.length ci) (.slice Ac p.classes.length cc), .int .i64 k, .bool false]) (by simp [results, Tryz.results25, go_sem, siV, r0, r1, r2, r3, r4] <;> omega) rfl ⟨by (try rw [hX]); exact ⟨_, _, _, _, _, _, _, _, _, _, rfl⟩, B5⟩
            have hn8 : (n : Int) ≤ 8 := by omega
            have hn8n : n ≤ 8 := by omega
            by_cases h0n : n = 0
            · have hX : X = none := HXN.out ⟨HT0.out, (HZ0.out h0n).symm.trans (by rw [hnil])⟩
              have hn0 : ¬ (0 : Int) < (n : Int) := by omega
              have hn0n : ¬ 0 < n := by omega
              clear h0n
              obtain ⟨Ai, ci, rfl⟩ := hS.ids.form
              obtain ⟨Ac, cc, rfl⟩ := hS.classes.form
              obtain ⟨s0, s1, s2, s3, s4⟩ := blk5 hS.blk
              go_wp2_with (go_at_call 48; (with_reducible refine (c1 _).mono ?_); rintro e w' ⟨rfl, rfl⟩)
              have hKT := kt_set5 (e := 9) KR (by decide) (.string (toB p.tag)) (.slice Ai p.ids.length ci) (.slice Ac p.classes.length cc) (.bool p.link) (.bool p.visited)
              have hri := row_kt hS.ids hKT
              have hrc := row_kt hS.classes hKT
              have K5 := blk_set5 KR (.string (toB p.tag)) (.slice Ai p.ids.length ci) (.slice Ac p.classes.length cc) (.bool p.link) (.bool p.visited)
              have B5 := below_set5 hBr (Nat.le_refl w.heap.size) (.string (toB p.tag)) (.slice Ai p.ids.length ci) (.slice Ac p.classes.length cc) (.bool p.link) (.bool p.visited)
              generalize ((((wr.setCell ⟨w.heap.size, 0, none⟩ (.string (toB p.tag))).setCell ⟨w.heap.size, 1, none⟩ (.slice Ai p.ids.length ci)).setCell ⟨w.heap.size, 2, none⟩ (.slice Ac p.classes.length cc)).setCell ⟨w.heap.size, 3, none⟩ (.bool p.link)).setCell ⟨w.heap.size, 4, none⟩ (.bool p.visited) = WF at K5 B5 hri hrc ⊢
              obtain ⟨r0, r1, r2, r3, r4⟩ := blk5 K5
              exact bodyPost_ret (v := .tuple #[siV p (.slice Ai p.ids.length ci) (.slice Ac p.classes.length cc), .int .i64 k, .bool false]) (by simp [results, Tryz.results25, go_sem, siV, r0, r1, r2, r3, r4] <;> omega) rfl ⟨by (try rw [hX]); exact ⟨_, _, _, _, _, _, _, _, _, _, rfl⟩, B5⟩
            have hX : X = some p := by rw [HXR.out (fun e => HNU.out (by omega) e.2), HK.out, goS_nil, if_pos (by omega)]
            have hn0 : (0 : Int) < (n : Int) := by omega
            have hn0n : 0 < n := by omega
            clear h0n
            obtain ⟨Ai, ci, rfl⟩ := hS.ids.form
            obtain ⟨Ac, cc, rfl⟩ := hS.classes.form
            obtain ⟨s0, s1, s2, s3, s4⟩ := blk5 hS.blk
            go_wp2_with (go_at_call 48; (with_reducible refine (c1 _).mono ?_); rintro e w' ⟨rfl, rfl⟩)
            have hKT := kt_set5 (e := 9) KR (by decide) (.string (toB p.tag)) (.slice Ai p.ids.length ci) (.slice Ac p.classes.length cc) (.bool p.link) (.bool p.visited)
            have hri := row_kt hS.ids hKT
            have hrc := row_kt hS.classes hKT
            have K5 := blk_set5 KR (.string (toB p.tag)) (.slice Ai p.ids.length ci) (.slice Ac p.classes.length cc) (.bool p.link) (.bool p.visited)
            have B5 := below_set5 hBr (Nat.le_refl w.heap.size) (.string (toB p.tag)) (.slice Ai p.ids.length ci) (.slice Ac p.classes.length cc) (.bool p.link) (.bool p.visited)
            generalize ((((wr.setCell ⟨w.heap.size, 0, none⟩ (.string (toB p.tag))).setCell ⟨w.heap.size, 1, none⟩ (.slice Ai p.ids.length ci)).setCell ⟨w.heap.size, 2, none⟩ (.slice Ac p.classes.length cc)).setCell ⟨w.heap.size, 3, none⟩ (.bool p.link)).setCell ⟨w.heap.size, 4, none⟩ (.bool p.visited) = WF at K5 B5 hri hrc ⊢
            obtain ⟨r0, r1, r2, r3, r4⟩ := blk5 K5
            exact bodyPost_ret (v := .tuple #[siV p (.slice Ai p.ids.length ci) (.slice Ac p.classes.length cc), .int .i64 k, .bool true]) (by simp [results, Tryz.results25, go_sem, siV, r0, r1, r2, r3, r4] <;> omega) rfl ⟨by (try rw [hX]); exact ⟨_, _, by rw [hkq], hri, hrc⟩, B5⟩
      | cons c r =>
        obtain ⟨hk1, hck, hbt, hr⟩ := txt_head hD
        have hps : k < s.size := by rw [hsz]; exact hk1
        have hgs := HAT.out k hps hk1
        rw [hck] at hgs
        have hki : (k : Int) < (l.length : Int) := by omega
        have hbg := HB.out c r hD
        have hc3 := isBg_cases hbg
        obtain ⟨hnb, hn62⟩ := isBt_not hbt
        have hn62b := bne_iff_ne.2 hn62
        have c1 := fun w => rblank_any c w
        rw [hnb] at c1
        have c2 := fun w => HEND.out (k + 1) hk1 w
        have hcut := fun w => HCUT.out (k + 1) (k + 1 + (txE (l.drop (k + 1))).length) (by omega) (len_txE l (k + 1) hk1) w
        rw [cut_txE l (k + 1)] at hcut
        have hq1l := len_txE l (k + 1) hk1
        have hnx := txt_next l (k + 1)
        have hsm := txt_sum l (k + 1)
        have hn1 := txE_own (l.drop (k + 1))
        rw [← hr] at hnx hsm hn1
        have HKc := HK.out
        have HQc := HQ.out
        rw [hD] at HKc HQc
        rw [List.length_cons] at HQc
        obtain ⟨n1, hn1e⟩ : ∃ n1, n1 = txE (l.drop (k + 1)) := ⟨_, rfl⟩
        rw [← hn1e] at c2 hcut hq1l hnx hsm hn1
        obtain ⟨q1, hq1⟩ : ∃ q1, q1 = k + 1 + n1.length := ⟨_, rfl⟩
        rw [← hq1] at c2 hcut hq1l hnx
        obtain ⟨k1, hk1e⟩ : ∃ k1, k1 = k + 1 := ⟨_, rfl⟩
        rw [← hk1e] at c2 hcut
        have hk1i : (k : Int) + 1 = (k1 : Int) := by omega
        have hk10 : (0 : Int) ≤ (k1 : Int) := Int.natCast_nonneg _
        have hkq1 : k < q1 := by omega
        have HQ' : Hid (q1 + (txt (l.drop q1)).length = q) := by show _ = _; rw [hnx]; omega
        have HB' : Hid (∀ (c : UInt8) (r : List UInt8), txt (l.drop q1) = c :: r → isBg c = true) := fun c' r' h => isBg_head (hnx.symm.trans h)
        have hUne : U ≠ [] := by
          rcases Nat.eq_zero_or_pos n with h0 | h0
          · rw [← HZ0.out h0, hD]; exact List.cons_ne_nil _ _
          · exact HNU.out h0
        have hnone : takeS p (c :: n1) = none → X = none := fun h => by rw [HXR.out (fun e => hUne e.2), HKc, goS_none (by rw [← hn1]; exact h)]
        have hsome : ∀ p', takeS p (c :: n1) = some p' → R = goS (n + 1) (txt (l.drop q1)) p' := fun p' h => by rw [HKc, hnx]; exact goS_some (by rw [← hn1]; exact h)
        have hn1l : n1.length ≤ 100000 := by omega
        have cn1 := fun w => Rt.name_any n1 (by omega) w
        have hnn : n ≤ 100000 := by omega
        have hnat : (n : Int) + 1 = ((n + 1 : Nat) : Int) := by omega
        have hgl := hS.blk.lt
        clear HKc HQc hn1e hq1 hk1e hsm hn1 hnx hr hD hck HB HNU HZ0 HK HQ hnat
        obtain ⟨s0, s1, s2, s3, s4⟩ := blk5 hS.blk
        obtain ⟨g0, g1, g2, g3, g4⟩ := fz5 hS.blk
        have HNO := Lib.hid hnone
        have HSO := Lib.hid hsome
        have HUN := Lib.hid hUne
        clear hnone hsome hbg hbt hnb hn62
        rcases hc3 with hc3 | hc3 | hc3
        · have ht := at35 p n1
          rw [← hc3] at ht
          have hx : (c.toNat : Int) = 35 := by rw [hc3]; rfl
          simp only [hx] at c1
          clear hc3 hn62b
          cases hnm : nameB n1 with
          | true =>
            rw [hnm, if_pos rfl] at ht
            have HK' : Hid (R = goS (n + 1) (txt (l.drop q1)) { p with ids := p.ids ++ [n1] }) := HSO.out _ ht
            rw [hnm] at cn1
            clear ht hnm HNO HSO
            have HS2 : Hid (txC n1 = [.string (toB n1)]) := rfl
            generalize hs2 : toB n1 = S2 at *
            obtain ⟨Av, ca, hv⟩ := hS.ids.form
            obtain ⟨M, hM⟩ : ∃ M, M = p.ids.length := ⟨_, rfl⟩
            rw [← hM] at hv
            clear hM
            subst hv
            go_wp2_with (first
              | (go_at_call 48; (with_reducible refine (c1 _).mono ?_); rintro e w' ⟨rfl, rfl⟩)
              | (go_at_call 49; (with_reducible refine (c2 _).mono ?_); rintro e w' ⟨rfl, rfl⟩)
              | (go_at_call 33; (with_reducible refine (cn1 _).mono ?_); rintro e w3 ⟨rfl, hb3⟩
                 have h3 := hS.next hb3
                 have KR3 := KR.next hb3
                 have hB3 := below_next hBr hb3
                 have c13 := (hb3.cell (p := ⟨w.heap.size + 1, 1, none⟩) hgl).trans s1
                 have hA := below_al (Below.refl w3.heap.size w3) (.cells #[.string S2] 9)
                 have hY := h3.ids.alloc (.cells #[.string S2] 9)
                 have hnc : ∀ (j : Nat) (u : Value), (txC n1)[j]? = some u → (w3.alloc (.cells #[.string S2] 9)).cell? ⟨w3.heap.size, j, none⟩ = some u := by
                   rw [HS2.out]
                   exact RowG.new_cells w3 9 [.string S2]
                 have hBA := below_al hB3 (.cells #[.string S2] 9))
              | (refine RowG.wpList_more _ (by rfl) _ _ 50 (by rfl) 9 txC 1 16 _ info_str Tryz.underlying50 rfl (by decide) txC_len txC_one w.heap.size _ p.ids n1 (by rfl) w3.heap.size _ (by rfl) hY hnc (by simp only [maxLen]; omega) (by omega) hBA.size ?_
                 intro v6 w6 hrow6 hg6 ho6
                 obtain ⟨A7, c7, hv7⟩ := hrow6.form
                 obtain ⟨M7, hM7⟩ : ∃ M7, M7 = (p.ids ++ [n1]).length := ⟨_, rfl⟩
                 rw [← hM7] at hv7
                 clear hM7
                 subst hv7
                 have h6 := h3.id_ hA hrow6 hg6 ho6
                 have hB6 := hBA.grown hg6 hBA.size (fun k hk => (World.ownsRow.lt hY k hk).1)
                 have k6 := blk_kt (h3.next hA).blk (KT.grown (e := 52) hY hg6 (by decide))
                 have kr6 := blk_kt (KR3.next hA) (KT.grown (e := 52) hY hg6 (by decide))
                 have krf := blk_setOther (p := ⟨w.heap.size + 1, 1, none⟩) kr6 (Nat.ne_of_lt (Nat.lt_succ_self _)) (.slice A7 M7 c7)
                 have hBf := hB6.setCell (p := ⟨w.heap.size + 1, 1, none⟩) (Nat.le_succ _) (.slice A7 M7 c7)
                 have f6 := k6.frozen 1
                 have x6 := k6.cell 1
                 simp only [List.getElem?_toArray, List.getElem?_cons_zero, List.getElem?_cons_succ] at x6))
            have hUne := HUN.out
            go_roundw
            case rel =>
              exact ⟨q1, n + 1, _, rfl, by go_num, hq1l, by omega, ⟨_, _, h6⟩, by show (p.ids ++ [n1]).length ≤ n + 1; rw [List.length_append]; exact Nat.succ_le_succ hi, Nat.le_succ_of_le hc, HK', HQ', HB', fun e => absurd e (by omega), fun _ => hUne, krf, hBf⟩
            case measure => simp [intOf]; omega
          | false =>
            rw [hnm, if_neg (by decide)] at ht
            have hX := HNO.out ht
            rw [hnm] at cn1
            clear ht hnm HNO HSO
            generalize toB n1 = S2 at *
            obtain ⟨f0, f1, f2, f3, f4⟩ := fz5 KR
            obtain ⟨y0, y1, y2, y3, y4⟩ := blk5 KR
            go_wp2_with (first
              | (go_at_call 48; (with_reducible refine (c1 _).mono ?_); rintro e w' ⟨rfl, rfl⟩)
              | (go_at_call 49; (with_reducible refine (c2 _).mono ?_); rintro e w' ⟨rfl, rfl⟩)
              | (go_at_call 33; (with_reducible refine (cn1 _).mono ?_); rintro e w3 ⟨rfl, hb3⟩
                 have h3 := hS.next hb3
                 have KR3 := KR.next hb3
                 have hB3 := below_next hBr hb3
                 obtain ⟨f0, f1, f2, f3, f4⟩ := fz5 KR3
                 obtain ⟨y0, y1, y2, y3, y4⟩ := blk5 KR3))
            have KRx := KR3
            have hBx := hB3
            generalize w3 = wx at *
            have K5 := blk_set5 KRx (.string ⟨#[]⟩) (.slice none 0 0) (.slice none 0 0) (.bool false) (.bool false)
            have B5 := below_set5 hBx (Nat.le_refl w.heap.size) (.string ⟨#[]⟩) (.slice none 0 0) (.slice none 0 0) (.bool false) (.bool false)
            generalize ((((wx.setCell ⟨w.heap.size, 0, none⟩ (.string ⟨#[]⟩)).setCell ⟨w.heap.size, 1, none⟩ (.slice none 0 0)).setCell ⟨w.heap.size, 2, none⟩ (.slice none 0 0)).setCell ⟨w.heap.size, 3, none⟩ (.bool false)).setCell ⟨w.heap.size, 4, none⟩ (.bool false) = WF at K5 B5 ⊢
            obtain ⟨r0, r1, r2, r3, r4⟩ := blk5 K5
            exact bodyPost_ret (v := .tuple #[.agg #[.string ⟨#[]⟩, .slice none 0 0, .slice none 0 0, .bool false, .bool false], .int .i64 0, .bool false]) (by simp [results, Tryz.results25, go_sem, r0, r1, r2, r3, r4]) rfl ⟨by (try rw [hX]); exact ⟨_, _, _, _, _, _, _, _, _, _, rfl⟩, B5⟩
        · have ht := at46 p n1
          rw [← hc3] at ht
          have hx : (c.toNat : Int) = 46 := by rw [hc3]; rfl
          simp only [hx] at c1
          clear hc3 hn62b
          cases hnm : nameB n1 with
          | true =>
            rw [hnm, if_pos rfl] at ht
            have HK' : Hid (R = goS (n + 1) (txt (l.drop q1)) { p with classes := p.classes ++ [n1] }) := HSO.out _ ht
            rw [hnm] at cn1
            clear ht hnm HNO HSO
            have HS2 : Hid (txC n1 = [.string (toB n1)]) := rfl
            generalize hs2 : toB n1 = S2 at *
            obtain ⟨Av, ca, hv⟩ := hS.classes.form
            obtain ⟨M, hM⟩ : ∃ M, M = p.classes.length := ⟨_, rfl⟩
            rw [← hM] at hv
            clear hM
            subst hv
            go_wp2_with (first
              | (go_at_call 48; (with_reducible refine (c1 _).mono ?_); rintro e w' ⟨rfl, rfl⟩)
              | (go_at_call 49; (with_reducible refine (c2 _).mono ?_); rintro e w' ⟨rfl, rfl⟩)
              | (go_at_call 33; (with_reducible refine (cn1 _).mono ?_); rintro e w3 ⟨rfl, hb3⟩
                 have h3 := hS.next hb3
                 have KR3 := KR.next hb3
                 have hB3 := below_next hBr hb3
                 have c13 := (hb3.cell (p := ⟨w.heap.size + 1, 2, none⟩) hgl).trans s2
                 have hA := below_al (Below.refl w3.heap.size w3) (.cells #[.string S2] 9)
                 have hY := h3.classes.alloc (.cells #[.string S2] 9)
                 have hnc : ∀ (j : Nat) (u : Value), (txC n1)[j]? = some u → (w3.alloc (.cells #[.string S2] 9)).cell? ⟨w3.heap.size, j, none⟩ = some u := by
                   rw [HS2.out]
                   exact RowG.new_cells w3 9 [.string S2]
                 have hBA := below_al hB3 (.cells #[.string S2] 9))
              | (refine RowG.wpList_more _ (by rfl) _ _ 50 (by rfl) 9 txC 1 16 _ info_str Tryz.underlying50 rfl (by decide) txC_len txC_one w.heap.size _ p.classes n1 (by rfl) w3.heap.size _ (by rfl) hY hnc (by simp only [maxLen]; omega) (by omega) hBA.size ?_
                 intro v6 w6 hrow6 hg6 ho6
                 obtain ⟨A7, c7, hv7⟩ := hrow6.form
                 obtain ⟨M7, hM7⟩ : ∃ M7, M7 = (p.classes ++ [n1]).length := ⟨_, rfl⟩
                 rw [← hM7] at hv7
                 clear hM7
                 subst hv7
                 have h6 := h3.class_ hA hrow6 hg6 ho6
                 have hB6 := hBA.grown hg6 hBA.size (fun k hk => (World.ownsRow.lt hY k hk).1)
                 have k6 := blk_kt (h3.next hA).blk (KT.grown (e := 52) hY hg6 (by decide))
                 have kr6 := blk_kt (KR3.next hA) (KT.grown (e := 52) hY hg6 (by decide))
                 have krf := blk_setOther (p := ⟨w.heap.size + 1, 2, none⟩) kr6 (Nat.ne_of_lt (Nat.lt_succ_self _)) (.slice A7 M7 c7)
                 have hBf := hB6.setCell (p := ⟨w.heap.size + 1, 2, none⟩) (Nat.le_succ _) (.slice A7 M7 c7)
                 have f6 := k6.frozen 2
                 have x6 := k6.cell 2
                 simp only [List.getElem?_toArray, List.getElem?_cons_zero, List.getElem?_cons_succ] at x6))
            have hUne := HUN.out
            go_roundw
            case rel =>
              exact ⟨q1, n + 1, _, rfl, by go_num, hq1l, by omega, ⟨_, _, h6⟩, Nat.le_succ_of_le hi, by show (p.classes ++ [n1]).length ≤ n + 1; rw [List.length_append]; exact Nat.succ_le_succ hc, HK', HQ', HB', fun e => absurd e (by omega), fun _ => hUne, krf, hBf⟩
            case measure => simp [intOf]; omega
          | false =>
            rw [hnm, if_neg (by decide)] at ht
            have hX := HNO.out ht
            rw [hnm] at cn1
            clear ht hnm HNO HSO
            generalize toB n1 = S2 at *
            obtain ⟨f0, f1, f2, f3, f4⟩ := fz5 KR
            obtain ⟨y0, y1, y2, y3, y4⟩ := blk5 KR
            go_wp2_with (first
              | (go_at_call 48; (with_reducible refine (c1 _).mono ?_); rintro e w' ⟨rfl, rfl⟩)
              | (go_at_call 49; (with_reducible refine (c2 _).mono ?_); rintro e w' ⟨rfl, rfl⟩)
              | (go_at_call 33; (with_reducible refine (cn1 _).mono ?_); rintro e w3 ⟨rfl, hb3⟩
                 have h3 := hS.next hb3
                 have KR3 := KR.next hb3
                 have hB3 := below_next hBr hb3
                 obtain ⟨f0, f1, f2, f3, f4⟩ := fz5 KR3
                 obtain ⟨y0, y1, y2, y3, y4⟩ := blk5 KR3))
            have KRx := KR3
            have hBx := hB3
            generalize w3 = wx at *
            have K5 := blk_set5 KRx (.string ⟨#[]⟩) (.slice none 0 0) (.slice none 0 0) (.bool false) (.bool false)
            have B5 := below_set5 hBx (Nat.le_refl w.heap.size) (.string ⟨#[]⟩) (.slice none 0 0) (.slice none 0 0) (.bool false) (.bool false)
            generalize ((((wx.setCell ⟨w.heap.size, 0, none⟩ (.string ⟨#[]⟩)).setCell ⟨w.heap.size, 1, none⟩ (.slice none 0 0)).setCell ⟨w.heap.size, 2, none⟩ (.slice none 0 0)).setCell ⟨w.heap.size, 3, none⟩ (.bool false)).setCell ⟨w.heap.size, 4, none⟩ (.bool false) = WF at K5 B5 ⊢
            obtain ⟨r0, r1, r2, r3, r4⟩ := blk5 K5
            exact bodyPost_ret (v := .tuple #[.agg #[.string ⟨#[]⟩, .slice none 0 0, .slice none 0 0, .bool false, .bool false], .int .i64 0, .bool false]) (by simp [results, Tryz.results25, go_sem, r0, r1, r2, r3, r4]) rfl ⟨by (try rw [hX]); exact ⟨_, _, _, _, _, _, _, _, _, _, rfl⟩, B5⟩
        · have ht := at58 p n1
          rw [← hc3] at ht
          have hx : (c.toNat : Int) = 58 := by rw [hc3]; rfl
          simp only [hx] at c1
          clear hc3 hn62b
          have zl := lit_eq n1 [108, 105, 110, 107]
          have zv := lit_eq n1 [118, 105, 115, 105, 116, 101, 100]
          by_cases hl4 : n1 = [108, 105, 110, 107]
          · rw [if_pos hl4] at ht
            rw [decide_eq_true hl4] at zl
            have zv0 : ((toB n1).toList == [118, 105, 115, 105, 116, 101, 100]) = false := by rw [lit_eq, hl4]; rfl
            clear zv hl4
            have HK' : Hid (R = goS (n + 1) (txt (l.drop q1)) { p with link := true }) := HSO.out _ ht
            clear ht HNO HSO cn1
            generalize toB n1 = S2 at *
            have h6 := hS.link_
            have krf := blk_setOther (p := ⟨w.heap.size + 1, 3, none⟩) KR (Nat.ne_of_lt (Nat.lt_succ_self _)) (.bool true)
            have hBf := hBr.setCell (p := ⟨w.heap.size + 1, 3, none⟩) (Nat.le_succ _) (.bool true)
            go_wp2_with (first
              | (go_at_call 48; (with_reducible refine (c1 _).mono ?_); rintro e w' ⟨rfl, rfl⟩)
              | (go_at_call 49; (with_reducible refine (c2 _).mono ?_); rintro e w' ⟨rfl, rfl⟩))
            have hUne := HUN.out
            go_roundw
            case rel =>
              exact ⟨q1, n + 1, _, rfl, by go_num, hq1l, by omega, ⟨_, _, h6⟩, Nat.le_succ_of_le hi, Nat.le_succ_of_le hc, HK', HQ', HB', fun e => absurd e (by omega), fun _ => hUne, krf, hBf⟩
            case measure => simp [intOf]; omega
          rw [if_neg hl4] at ht
          rw [decide_eq_false hl4] at zl
          by_cases hv7 : n1 = [118, 105, 115, 105, 116, 101, 100]
          · rw [if_pos hv7] at ht
            rw [decide_eq_true hv7] at zv
            clear hl4 hv7
            have HK' : Hid (R = goS (n + 1) (txt (l.drop q1)) { p with visited := true }) := HSO.out _ ht
            clear ht HNO HSO cn1
            generalize toB n1 = S2 at *
            have h6 := hS.vis_
            have krf := blk_setOther (p := ⟨w.heap.size + 1, 4, none⟩) KR (Nat.ne_of_lt (Nat.lt_succ_self _)) (.bool true)
            have hBf := hBr.setCell (p := ⟨w.heap.size + 1, 4, none⟩) (Nat.le_succ _) (.bool true)
            go_wp2_with (first
              | (go_at_call 48; (with_reducible refine (c1 _).mono ?_); rintro e w' ⟨rfl, rfl⟩)
              | (go_at_call 49; (with_reducible refine (c2 _).mono ?_); rintro e w' ⟨rfl, rfl⟩))
            have hUne := HUN.out
            go_roundw
            case rel =>
              exact ⟨q1, n + 1, _, rfl, by go_num, hq1l, by omega, ⟨_, _, h6⟩, Nat.le_succ_of_le hi, Nat.le_succ_of_le hc, HK', HQ', HB', fun e => absurd e (by omega), fun _ => hUne, krf, hBf⟩
            case measure => simp [intOf]; omega
          rw [if_neg hv7] at ht
          rw [decide_eq_false hv7] at zv
          have hX := HNO.out ht
          clear ht HNO HSO cn1 hl4 hv7
          generalize toB n1 = S2 at *
          obtain ⟨f0, f1, f2, f3, f4⟩ := fz5 KR
          obtain ⟨y0, y1, y2, y3, y4⟩ := blk5 KR
          go_wp2_with (first
            | (go_at_call 48; (with_reducible refine (c1 _).mono ?_); rintro e w' ⟨rfl, rfl⟩)
            | (go_at_call 49; (with_reducible refine (c2 _).mono ?_); rintro e w' ⟨rfl, rfl⟩))
          have KRx := KR
          have hBx := hBr
          generalize wr = wx at *
          have K5 := blk_set5 KRx (.string ⟨#[]⟩) (.slice none 0 0) (.slice none 0 0) (.bool false) (.bool false)
          have B5 := below_set5 hBx (Nat.le_refl w.heap.size) (.string ⟨#[]⟩) (.slice none 0 0) (.slice none 0 0) (.bool false) (.bool false)
          generalize ((((wx.setCell ⟨w.heap.size, 0, none⟩ (.string ⟨#[]⟩)).setCell ⟨w.heap.size, 1, none⟩ (.slice none 0 0)).setCell ⟨w.heap.size, 2, none⟩ (.slice none 0 0)).setCell ⟨w.heap.size, 3, none⟩ (.bool false)).setCell ⟨w.heap.size, 4, none⟩ (.bool false) = WF at K5 B5 ⊢
          obtain ⟨r0, r1, r2, r3, r4⟩ := blk5 K5
          exact bodyPost_ret (v := .tuple #[.agg #[.string ⟨#[]⟩, .slice none 0 0, .slice none 0 0, .bool false, .bool false], .int .i64 0, .bool false]) (by simp [results, Tryz.results25, go_sem, r0, r1, r2, r3, r4]) rfl ⟨by (try rw [hX]); exact ⟨_, _, _, _, _, _, _, _, _, _, rfl⟩, B5⟩
  · skip
    have z1' : ((toB T).toList == []) = false := by rw [hT0, lit_eq]; rfl
    have z2' : ((toB T).toList == [42]) = true := by rw [hT0, lit_eq]; rfl
    have hok : tp = [] ∨ nameB tp = true := .inl htp
    have HT1 : Hid (T ≠ []) := by rw [hT0]; intro h; cases h
    clear z1 z2 HBAD hT0
    have hS3' : RiM ((w.alloc (.cells #[.string ⟨#[]⟩, .slice none 0 0, .slice none 0 0, .bool false, .bool false] 52)).alloc (.cells #[.string ⟨#[]⟩, .slice none 0 0, .slice none 0 0, .bool false, .bool false] 52)) w.heap.size (w.heap.size + 1) (.slice none 0 0) (.slice none 0 0) { sim0 with tag := tp } := by rw [htp]; exact hS0
    have KR3' := K0
    have hB3' := hB0
    clear htp
    go_enter Tryz.func25, Tryz.ntmps25
    go_wp2_with (first
      | (go_at_call 49; (with_reducible refine (c0 _).mono ?_); rintro e w2 ⟨rfl, rfl⟩))
    have hS3 := hS3'
    have KR3 := KR3'
    have hB3 := hB3'
    clear hS0 K0 K1 hB0 hS3' KR3' hB3' c0 hcut0 z2' cn
    generalize ((w.alloc (.cells #[.string ⟨#[]⟩, .slice none 0 0, .slice none 0 0, .bool false, .bool false] 52)).alloc (.cells #[.string ⟨#[]⟩, .slice none 0 0, .slice none 0 0, .bool false, .bool false] 52)) = W3 at *
    obtain ⟨R, hR⟩ : ∃ R, goS 0 U { sim0 with tag := tp } = R := ⟨_, rfl⟩
    have HR : Hid (R = goS 0 (txt (l.drop m)) { sim0 with tag := tp }) := by show _ = _; rw [H0.out, hR]
    have HXR : Hid (¬ (T = [] ∧ U = []) → X = R) := fun h => (HGO.out (fun e => h (HTL.out.1 e)) hok).trans hR
    have HXN : Hid (T = [] ∧ U = [] → X = none) := fun h => HNIL.out (HTL.out.2 h)
    have HU0 : Hid (txt (l.drop m) = U) := H0
    have HQ0 : Hid (m + (txt (l.drop m)).length = q) := by show _ = _; rw [H0.out]; exact HE.out
    have HB0 : Hid (∀ (c : UInt8) (r : List UInt8), txt (l.drop m) = c :: r → isBg c = true) := by rw [H0.out]; exact HUB
    have hSW : ∃ vi vc, RiM W3 w.heap.size (w.heap.size + 1) vi vc { sim0 with tag := tp } := ⟨_, _, hS3⟩
    clear hR HGO HTL HNIL H0 HE HUB hok hS3
    have hp0 : ∃ p0, p0 = { sim0 with tag := tp } ∧ p0.ids.length ≤ 0 ∧ p0.classes.length ≤ 0 := ⟨_, rfl, Nat.le_refl 0, Nat.le_refl 0⟩
    obtain ⟨p0, hp0, hp0i, hp0c⟩ := hp0
    rw [← hp0] at HR hSW
    clear hp0
    go_loopw [8, 10] (fun v8 v10 wr => ∃ (k n : Nat) (p : Sim), v8 = .int .i64 k ∧ v10 = .int .i64 n ∧ k ≤ l.length ∧ n ≤ k ∧ (∃ vi vc, RiM wr w.heap.size (w.heap.size + 1) vi vc p) ∧ p.ids.length ≤ n ∧ p.classes.length ≤ n ∧ Hid (R = goS n (txt (l.drop k)) p) ∧ Hid (k + (txt (l.drop k)).length = q) ∧ Hid (∀ (c : UInt8) (r : List UInt8), txt (l.drop k) = c :: r → isBg c = true) ∧ Hid (n = 0 → txt (l.drop k) = U) ∧ Hid (0 < n → U ≠ []) ∧ Blk wr w.heap.size 52 #[.string ⟨#[]⟩, .slice none 0 0, .slice none 0 0, .bool false, .bool false] ∧ Below w.heap.size w wr) (fun v8 _ _ => l.length - (intOf v8).toNat)
    case atStart => exact ⟨m, 0, p0, rfl, rfl, hml, Nat.zero_le _, hSW, hp0i, hp0c, HR, HQ0, HB0, fun _ => HU0.out, fun h => absurd h (Nat.lt_irrefl 0), KR3, hB3⟩
    case round =>
      obtain ⟨k, n, p, rfl, rfl, hkl, hnk, ⟨vi, vc, hS⟩, hi, hc, HK, HQ, HB, HZ0, HNU, KR, hBr⟩ := hrel
      clear HR HQ0 HB0 HU0 hSW KR3 hB3 hp0i hp0c hml hmo
      have k0 : (0 : Int) ≤ (k : Int) := Int.natCast_nonneg _
      have n0 : (0 : Int) ≤ (n : Int) := Int.natCast_nonneg _
      cases hD : txt (l.drop k) with
      | nil =>
        have hkq : (q : Int) = (k : Int) := by have := HQ.out; rw [hD] at this; simp at this; omega
        have hnil := hD
        rw [hD] at HK
        obtain ⟨f0, f1, f2, f3, f4⟩ := fz5 KR
        obtain ⟨y0, y1, y2, y3, y4⟩ := blk5 KR
        clear HQ HB
        rcases txt_nil hD hkl with hke | ⟨c, hk1, hck, hcb⟩
        · have c1 := fun w => rblank_any 0 w
          have hki : ¬ (k : Int) < (l.length : Int) := by omega
          clear hD hke
          by_cases h8 : 8 < n
          · have hX : X = none := by rw [HXR.out (fun e => HNU.out (by omega) e.2), HK.out, goS_nil, if_neg (by omega)]
            have hn8 : ¬ (n : Int) ≤ 8 := by omega
            have hn8n : ¬ n ≤ 8 := by omega
            have hn0 : (0 : Int) < (n : Int) := by omega
            have hn0n : 0 < n := by omega
            obtain ⟨Ai, ci, rfl⟩ := hS.ids.form
            obtain ⟨Ac, cc, rfl⟩ := hS.classes.form
            obtain ⟨s0, s1, s2, s3, s4⟩ := blk5 hS.blk
            go_wp2_with (go_at_call 48; (with_reducible refine (c1 _).mono ?_); rintro e w' ⟨rfl, rfl⟩)
            have hKT := kt_set5 (e := 9) KR (by decide) (.string (toB p.tag)) (.slice Ai p.ids.length ci) (.slice Ac p.classes.length cc) (.bool p.link) (.bool p.visited)
            have hri := row_kt hS.ids hKT
            have hrc := row_kt hS.classes hKT
            have K5 := blk_set5 KR (.string (toB p.tag)) (.slice Ai p.ids.length ci) (.slice Ac p.classes.length cc) (.bool p.link) (.bool p.visited)
            have B5 := below_set5 hBr (Nat.le_refl w.heap.size) (.string (toB p.tag)) (.slice Ai p.ids.length ci) (.slice Ac p.classes.length cc) (.bool p.link) (.bool p.visited)
            generalize ((((wr.setCell ⟨w.heap.size, 0, none⟩ (.string (toB p.tag))).setCell ⟨w.heap.size, 1, none⟩ (.slice Ai p.ids.length ci)).setCell ⟨w.heap.size, 2, none⟩ (.slice Ac p.classes.length cc)).setCell ⟨w.heap.size, 3, none⟩ (.bool p.link)).setCell ⟨w.heap.size, 4, none⟩ (.bool p.visited) = WF at K5 B5 hri hrc ⊢
            obtain ⟨r0, r1, r2, r3, r4⟩ := blk5 K5
            exact bodyPost_ret (v := .tuple #[siV p (.slice Ai p.ids.length ci) (.slice Ac p.classes.length cc), .int .i64 k, .bool false]) (by simp [results, Tryz.results25, go_sem, siV, r0, r1, r2, r3, r4] <;> omega) rfl ⟨by (try rw [hX]); exact ⟨_, _, _, _, _, _, _, _, _, _, rfl⟩, B5⟩
          have hn8 : (n : Int) ≤ 8 := by omega
          have hn8n : n ≤ 8 := by omega
          have hX : X = some p := by rw [HXR.out (fun e => HT1.out e.1), HK.out, goS_nil, if_pos (by omega)]
          obtain ⟨Ai, ci, rfl⟩ := hS.ids.form
          obtain ⟨Ac, cc, rfl⟩ := hS.classes.form
          obtain ⟨s0, s1, s2, s3, s4⟩ := blk5 hS.blk
          go_wp2_with (go_at_call 48; (with_reducible refine (c1 _).mono ?_); rintro e w' ⟨rfl, rfl⟩)
          have hKT := kt_set5 (e := 9) KR (by decide) (.string (toB p.tag)) (.slice Ai p.ids.length ci) (.slice Ac p.classes.length cc) (.bool p.link) (.bool p.visited)
          have hri := row_kt hS.ids hKT
          have hrc := row_kt hS.classes hKT
          have K5 := blk_set5 KR (.string (toB p.tag)) (.slice Ai p.ids.length ci) (.slice Ac p.classes.length cc) (.bool p.link) (.bool p.visited)
          have B5 := below_set5 hBr (Nat.le_refl w.heap.size) (.string (toB p.tag)) (.slice Ai p.ids.length ci) (.slice Ac p.classes.length cc) (.bool p.link) (.bool p.visited)
          generalize ((((wr.setCell ⟨w.heap.size, 0, none⟩ (.string (toB p.tag))).setCell ⟨w.heap.size, 1, none⟩ (.slice Ai p.ids.length ci)).setCell ⟨w.heap.size, 2, none⟩ (.slice Ac p.classes.length cc)).setCell ⟨w.heap.size, 3, none⟩ (.bool p.link)).setCell ⟨w.heap.size, 4, none⟩ (.bool p.visited) = WF at K5 B5 hri hrc ⊢
          obtain ⟨r0, r1, r2, r3, r4⟩ := blk5 K5
          exact bodyPost_ret (v := .tuple #[siV p (.slice Ai p.ids.length ci) (.slice Ac p.classes.length cc), .int .i64 k, .bool true]) (by simp [results, Tryz.results25, go_sem, siV, r0, r1, r2, r3, r4] <;> omega) rfl ⟨by (try rw [hX]); exact ⟨_, _, by rw [hkq], hri, hrc⟩, B5⟩
        · have hps : k < s.size := by rw [hsz]; exact hk1
          have hgs := HAT.out k hps hk1
          rw [hck] at hgs
          have hki : (k : Int) < (l.length : Int) := by omega
          have c1 := fun w => rblank_any c w
          clear hD hck
          rcases isBt_cases hcb with hx | ⟨hx, hy⟩
          · clear hcb c1
            have c1 := fun w => rblank_any 0 w
            by_cases h8 : 8 < n
            · have hX : X = none := by rw [HXR.out (fun e => HNU.out (by omega) e.2), HK.out, goS_nil, if_neg (by omega)]
              have hn8 : ¬ (n : Int) ≤ 8 := by omega
              have hn8n : ¬ n ≤ 8 := by omega
              have hn0 : (0 : Int) < (n : Int) := by omega
              have hn0n : 0 < n := by omega
              obtain ⟨Ai, ci, rfl⟩ := hS.ids.form
              obtain ⟨Ac, cc, rfl⟩ := hS.classes.form
              obtain ⟨s0, s1, s2, s3, s4⟩ := blk5 hS.blk
              go_wp2_with (go_at_call 48; (with_reducible refine (c1 _).mono ?_); rintro e w' ⟨rfl, rfl⟩)
              have hKT := kt_set5 (e := 9) KR (by decide) (.string (toB p.tag)) (.slice Ai p.ids.length ci) (.slice Ac p.classes.length cc) (.bool p.link) (.bool p.visited)
              have hri := row_kt hS.ids hKT
              have hrc := row_kt hS.classes hKT
              have K5 := blk_set5 KR (.string (toB p.tag)) (.slice Ai p.ids.length ci) (.slice Ac p.classes.length cc) (.bool p.link) (.bool p.visited)
              have B5 := below_set5 hBr (Nat.le_refl w.heap.size) (.string (toB p.tag)) (.slice Ai p.ids.length ci) (.slice Ac p.classes.length cc) (.bool p.link) (.bool p.visited)
              generalize ((((wr.setCell ⟨w.heap.size, 0, none⟩ (.string (toB p.tag))).setCell ⟨w.heap.size, 1, none⟩ (.slice Ai p.ids.length ci)).setCell ⟨w.heap.size, 2, none⟩ (.slice Ac p.classes.length cc)).setCell ⟨w.heap.size, 3, none⟩ (.bool p.link)).setCell ⟨w.heap.size, 4, none⟩ (.bool p.visited) = WF at K5 B5 hri hrc ⊢
              obtain ⟨r0, r1, r2, r3, r4⟩ := blk5 K5
              exact bodyPost_ret (v := .tuple #[siV p (.slice Ai p.ids.length ci) (.slice Ac p.classes.length cc), .int .i64 k, .bool false]) (by simp [results, Tryz.results25, go_sem, siV, r0, r1, r2, r3, r4] <;> omega) rfl ⟨by (try rw [hX]); exact ⟨_, _, _, _, _, _, _, _, _, _, rfl⟩, B5⟩
            have hn8 : (n : Int) ≤ 8 := by omega
            have hn8n : n ≤ 8 := by omega
            have hX : X = some p := by rw [HXR.out (fun e => HT1.out e.1), HK.out, goS_nil, if_pos (by omega)]
            obtain ⟨Ai, ci, rfl⟩ := hS.ids.form
            obtain ⟨Ac, cc, rfl⟩ := hS.classes.form
            obtain ⟨s0, s1, s2, s3, s4⟩ := blk5 hS.blk
            go_wp2_with (go_at_call 48; (with_reducible refine (c1 _).mono ?_); rintro e w' ⟨rfl, rfl⟩)
            have hKT := kt_set5 (e := 9) KR (by decide) (.string (toB p.tag)) (.slice Ai p.ids.length ci) (.slice Ac p.classes.length cc) (.bool p.link) (.bool p.visited)
            have hri := row_kt hS.ids hKT
            have hrc := row_kt hS.classes hKT
            have K5 := blk_set5 KR (.string (toB p.tag)) (.slice Ai p.ids.length ci) (.slice Ac p.classes.length cc) (.bool p.link) (.bool p.visited)
            have B5 := below_set5 hBr (Nat.le_refl w.heap.size) (.string (toB p.tag)) (.slice Ai p.ids.length ci) (.slice Ac p.classes.length cc) (.bool p.link) (.bool p.visited)
            generalize ((((wr.setCell ⟨w.heap.size, 0, none⟩ (.string (toB p.tag))).setCell ⟨w.heap.size, 1, none⟩ (.slice Ai p.ids.length ci)).setCell ⟨w.heap.size, 2, none⟩ (.slice Ac p.classes.length cc)).setCell ⟨w.heap.size, 3, none⟩ (.bool p.link)).setCell ⟨w.heap.size, 4, none⟩ (.bool p.visited) = WF at K5 B5 hri hrc ⊢
            obtain ⟨r0, r1, r2, r3, r4⟩ := blk5 K5
            exact bodyPost_ret (v := .tuple #[siV p (.slice Ai p.ids.length ci) (.slice Ac p.classes.length cc), .int .i64 k, .bool true]) (by simp [results, Tryz.results25, go_sem, siV, r0, r1, r2, r3, r4] <;> omega) rfl ⟨by (try rw [hX]); exact ⟨_, _, by rw [hkq], hri, hrc⟩, B5⟩
          · rw [hy] at c1
            have hxb := bne_iff_ne.2 hx
            clear hcb hy hx
            by_cases h8 : 8 < n
            · have hX : X = none := by rw [HXR.out (fun e => HNU.out (by omega) e.2), HK.out, goS_nil, if_neg (by omega)]
              have hn8 : ¬ (n : Int) ≤ 8 := by omega
              have hn8n : ¬ n ≤ 8 := by omega
              have hn0 : (0 : Int) < (n : Int) := by omega
              have hn0n : 0 < n := by omega
              obtain ⟨Ai, ci, rfl⟩ := hS.ids.form
              obtain ⟨Ac, cc, rfl⟩ := hS.classes.form
              obtain ⟨s0, s1, s2, s3, s4⟩ := blk5 hS.blk
              go_wp2_with (go_at_call 48; (with_reducible refine (c1 _).mono ?_); rintro e w' ⟨rfl, rfl⟩)
              have hKT := kt_set5 (e := 9) KR (by decide) (.string (toB p.tag)) (.slice Ai p.ids.length ci) (.slice Ac p.classes.length cc) (.bool p.link) (.bool p.visited)
              have hri := row_kt hS.ids hKT
              have hrc := row_kt hS.classes hKT
              have K5 := blk_set5 KR (.string (toB p.tag)) (.slice Ai p.ids.length ci) (.slice Ac p.classes.length cc) (.bool p.link) (.bool p.visited)
              have B5 := below_set5 hBr (Nat.le_refl w.heap.size) (.string (toB p.tag)) (.slice Ai p.ids.length ci) (.slice Ac p.classes.length cc) (.bool p.link) (.bool p.visited)
              generalize ((((wr.setCell ⟨w.heap.size, 0, none⟩ (.string (toB p.tag))).setCell ⟨w.heap.size, 1, none⟩ (.slice Ai p.ids.length ci)).setCell ⟨w.heap.size, 2, none⟩ (.slice Ac p.classes.length cc)).setCell ⟨w.heap.size, 3, none⟩ (.bool p.link)).setCell ⟨w.heap.size, 4, none⟩ (.bool p.visited) = WF at K5 B5 hri hrc ⊢
              obtain ⟨r0, r1, r2, r3, r4⟩ := blk5 K5
              exact bodyPost_ret (v := .tuple #[siV p (.slice Ai p.ids.length ci) (.slice Ac p.classes.length cc), .int .i64 k, .bool false]) (by simp [results, Tryz.results25, go_sem, siV, r0, r1, r2, r3, r4] <;> omega) rfl ⟨by (try rw [hX]); exact ⟨_, _, _, _, _, _, _, _, _, _, rfl⟩, B5⟩
            have hn8 : (n : Int) ≤ 8 := by omega
            have hn8n : n ≤ 8 := by omega
            have hX : X = some p := by rw [HXR.out (fun e => HT1.out e.1), HK.out, goS_nil, if_pos (by omega)]
            obtain ⟨Ai, ci, rfl⟩ := hS.ids.form
            obtain ⟨Ac, cc, rfl⟩ := hS.classes.form
            obtain ⟨s0, s1, s2, s3, s4⟩ := blk5 hS.blk
            go_wp2_with (go_at_call 48; (with_reducible refine (c1 _).mono ?_); rintro e w' ⟨rfl, rfl⟩)
            have hKT := kt_set5 (e := 9) KR (by decide) (.string (toB p.tag)) (.slice Ai p.ids.length ci) (.slice Ac p.classes.length cc) (.bool p.link) (.bool p.visited)
            have hri := row_kt hS.ids hKT
            have hrc := row_kt hS.classes hKT
            have K5 := blk_set5 KR (.string (toB p.tag)) (.slice Ai p.ids.length ci) (.slice Ac p.classes.length cc) (.bool p.link) (.bool p.visited)
            have B5 := below_set5 hBr (Nat.le_refl w.heap.size) (.string (toB p.tag)) (.slice Ai p.ids.length ci) (.slice Ac p.classes.length cc) (.bool p.link) (.bool p.visited)
            generalize ((((wr.setCell ⟨w.heap.size, 0, none⟩ (.string (toB p.tag))).setCell ⟨w.heap.size, 1, none⟩ (.slice Ai p.ids.length ci)).setCell ⟨w.heap.size, 2, none⟩ (.slice Ac p.classes.length cc)).setCell ⟨w.heap.size, 3, none⟩ (.bool p.link)).setCell ⟨w.heap.size, 4, none⟩ (.bool p.visited) = WF at K5 B5 hri hrc ⊢
            obtain ⟨r0, r1, r2, r3, r4⟩ := blk5 K5
            exact bodyPost_ret (v := .tuple #[siV p (.slice Ai p.ids.length ci) (.slice Ac p.classes.length cc), .int .i64 k, .bool true]) (by simp [results, Tryz.results25, go_sem, siV, r0, r1, r2, r3, r4] <;> omega) rfl ⟨by (try rw [hX]); exact ⟨_, _, by rw [hkq], hri, hrc⟩, B5⟩
      | cons c r =>
        obtain ⟨hk1, hck, hbt, hr⟩ := txt_head hD
        have hps : k < s.size := by rw [hsz]; exact hk1
        have hgs := HAT.out k hps hk1
        rw [hck] at hgs
        have hki : (k : Int) < (l.length : Int) := by omega
        have hbg := HB.out c r hD
        have hc3 := isBg_cases hbg
        obtain ⟨hnb, hn62⟩ := isBt_not hbt
        have hn62b := bne_iff_ne.2 hn62
        have c1 := fun w => rblank_any c w
        rw [hnb] at c1
        have c2 := fun w => HEND.out (k + 1) hk1 w
        have hcut := fun w => HCUT.out (k + 1) (k + 1 + (txE (l.drop (k + 1))).length) (by omega) (len_txE l (k + 1) hk1) w
        rw [cut_txE l (k + 1)] at hcut
        have hq1l := len_txE l (k + 1) hk1
        have hnx := txt_next l (k + 1)
        have hsm := txt_sum l (k + 1)
        have hn1 := txE_own (l.drop (k + 1))
        rw [← hr] at hnx hsm hn1
        have HKc := HK.out
        have HQc := HQ.out
        rw [hD] at HKc HQc
        rw [List.length_cons] at HQc
        obtain ⟨n1, hn1e⟩ : ∃ n1, n1 = txE (l.drop (k + 1)) := ⟨_, rfl⟩
        rw [← hn1e] at c2 hcut hq1l hnx hsm hn1
        obtain ⟨q1, hq1⟩ : ∃ q1, q1 = k + 1 + n1.length := ⟨_, rfl⟩
        rw [← hq1] at c2 hcut hq1l hnx
        obtain ⟨k1, hk1e⟩ : ∃ k1, k1 = k + 1 := ⟨_, rfl⟩
        rw [← hk1e] at c2 hcut
        have hk1i : (k : Int) + 1 = (k1 : Int) := by omega
        have hk10 : (0 : Int) ≤ (k1 : Int) := Int.natCast_nonneg _
        have hkq1 : k < q1 := by omega
        have HQ' : Hid (q1 + (txt (l.drop q1)).length = q) := by show _ = _; rw [hnx]; omega
        have HB' : Hid (∀ (c : UInt8) (r : List UInt8), txt (l.drop q1) = c :: r → isBg c = true) := fun c' r' h => isBg_head (hnx.symm.trans h)
        have hUne : U ≠ [] := by
          rcases Nat.eq_zero_or_pos n with h0 | h0
          · rw [← HZ0.out h0, hD]; exact List.cons_ne_nil _ _
          · exact HNU.out h0
        have hnone : takeS p (c :: n1) = none → X = none := fun h => by rw [HXR.out (fun e => hUne e.2), HKc, goS_none (by rw [← hn1]; exact h)]
        have hsome : ∀ p', takeS p (c :: n1) = some p' → R = goS (n + 1) (txt (l.drop q1)) p' := fun p' h => by rw [HKc, hnx]; exact goS_some (by rw [← hn1]; exact h)
        have hn1l : n1.length ≤ 100000 := by omega
        have cn1 := fun w => Rt.name_any n1 (by omega) w
        have hnn : n ≤ 100000 := by omega
        have hnat : (n : Int) + 1 = ((n + 1 : Nat) : Int) := by omega
        have hgl := hS.blk.lt
        clear HKc HQc hn1e hq1 hk1e hsm hn1 hnx hr hD hck HB HNU HZ0 HK HQ hnat
        obtain ⟨s0, s1, s2, s3, s4⟩ := blk5 hS.blk
        obtain ⟨g0, g1, g2, g3, g4⟩ := fz5 hS.blk
        have HNO := Lib.hid hnone
        have HSO := Lib.hid hsome
        have HUN := Lib.hid hUne
        clear hnone hsome hbg hbt hnb hn62
        rcases hc3 with hc3 | hc3 | hc3
        · have ht := at35 p n1
          rw [← hc3] at ht
          have hx : (c.toNat : Int) = 35 := by rw [hc3]; rfl
          simp only [hx] at c1
          clear hc3 hn62b
          cases hnm : nameB n1 with
          | true =>
            rw [hnm, if_pos rfl] at ht
            have HK' : Hid (R = goS (n + 1) (txt (l.drop q1)) { p with ids := p.ids ++ [n1] }) := HSO.out _ ht
            rw [hnm] at cn1
            clear ht hnm HNO HSO
            have HS2 : Hid (txC n1 = [.string (toB n1)]) := rfl
            generalize hs2 : toB n1 = S2 at *
            obtain ⟨Av, ca, hv⟩ := hS.ids.form
            obtain ⟨M, hM⟩ : ∃ M, M = p.ids.length := ⟨_, rfl⟩
            rw [← hM] at hv
            clear hM
            subst hv
            go_wp2_with (first
              | (go_at_call 48; (with_reducible refine (c1 _).mono ?_); rintro e w' ⟨rfl, rfl⟩)
              | (go_at_call 49; (with_reducible refine (c2 _).mono ?_); rintro e w' ⟨rfl, rfl⟩)
              | (go_at_call 33; (with_reducible refine (cn1 _).mono ?_); rintro e w3 ⟨rfl, hb3⟩
                 have h3 := hS.next hb3
                 have KR3 := KR.next hb3
                 have hB3 := below_next hBr hb3
                 have c13 := (hb3.cell (p := ⟨w.heap.size + 1, 1, none⟩) hgl).trans s1
                 have hA := below_al (Below.refl w3.heap.size w3) (.cells #[.string S2] 9)
                 have hY := h3.ids.alloc (.cells #[.string S2] 9)
                 have hnc : ∀ (j : Nat) (u : Value), (txC n1)[j]? = some u → (w3.alloc (.cells #[.string S2] 9)).cell? ⟨w3.heap.size, j, none⟩ = some u := by
                   rw [HS2.out]
                   exact RowG.new_cells w3 9 [.string S2]
                 have hBA := below_al hB3 (.cells #[.string S2] 9))
              | (refine RowG.wpList_more _ (by rfl) _ _ 50 (by rfl) 9 txC 1 16 _ info_str Tryz.underlying50 rfl (by decide) txC_len txC_one w.heap.size _ p.ids n1 (by rfl) w3.heap.size _ (by rfl) hY hnc (by simp only [maxLen]; omega) (by omega) hBA.size ?_
                 intro v6 w6 hrow6 hg6 ho6
                 obtain ⟨A7, c7, hv7⟩ := hrow6.form
                 obtain ⟨M7, hM7⟩ : ∃ M7, M7 = (p.ids ++ [n1]).length := ⟨_, rfl⟩
                 rw [← hM7] at hv7
                 clear hM7
                 subst hv7
                 have h6 := h3.id_ hA hrow6 hg6 ho6
                 have hB6 := hBA.grown hg6 hBA.size (fun k hk => (World.ownsRow.lt hY k hk).1)
                 have k6 := blk_kt (h3.next hA).blk (KT.grown (e := 52) hY hg6 (by decide))
                 have kr6 := blk_kt (KR3.next hA) (KT.grown (e := 52) hY hg6 (by decide))
                 have krf := blk_setOther (p := ⟨w.heap.size + 1, 1, none⟩) kr6 (Nat.ne_of_lt (Nat.lt_succ_self _)) (.slice A7 M7 c7)
                 have hBf := hB6.setCell (p := ⟨w.heap.size + 1, 1, none⟩) (Nat.le_succ _) (.slice A7 M7 c7)
                 have f6 := k6.frozen 1
                 have x6 := k6.cell 1
                 simp only [List.getElem?_toArray, List.getElem?_cons_zero, List.getElem?_cons_succ] at x6))
            have hUne := HUN.out
            go_roundw
            case rel =>
              exact ⟨q1, n + 1, _, rfl, by go_num, hq1l, by omega, ⟨_, _, h6⟩, by show (p.ids ++ [n1]).length ≤ n + 1; rw [List.length_append]; exact Nat.succ_le_succ hi, Nat.le_succ_of_le hc, HK', HQ', HB', fun e => absurd e (by omega), fun _ => hUne, krf, hBf⟩
            case measure => simp [intOf]; omega
          | false =>
            rw [hnm, if_neg (by decide)] at ht
            have hX := HNO.out ht
            rw [hnm] at cn1
            clear ht hnm HNO HSO
            generalize toB n1 = S2 at *
            obtain ⟨f0, f1, f2, f3, f4⟩ := fz5 KR
            obtain ⟨y0, y1, y2, y3, y4⟩ := blk5 KR
            go_wp2_with (first
              | (go_at_call 48; (with_reducible refine (c1 _).mono ?_); rintro e w' ⟨rfl, rfl⟩)
              | (go_at_call 49; (with_reducible refine (c2 _).mono ?_); rintro e w' ⟨rfl, rfl⟩)
              | (go_at_call 33; (with_reducible refine (cn1 _).mono ?_); rintro e w3 ⟨rfl, hb3⟩
                 have h3 := hS.next hb3
                 have KR3 := KR.next hb3
                 have hB3 := below_next hBr hb3
                 obtain ⟨f0, f1, f2, f3, f4⟩ := fz5 KR3
                 obtain ⟨y0, y1, y2, y3, y4⟩ := blk5 KR3))
            have KRx := KR3
            have hBx := hB3
            generalize w3 = wx at *
            have K5 := blk_set5 KRx (.string ⟨#[]⟩) (.slice none 0 0) (.slice none 0 0) (.bool false) (.bool false)
            have B5 := below_set5 hBx (Nat.le_refl w.heap.size) (.string ⟨#[]⟩) (.slice none 0 0) (.slice none 0 0) (.bool false) (.bool false)
            generalize ((((wx.setCell ⟨w.heap.size, 0, none⟩ (.string ⟨#[]⟩)).setCell ⟨w.heap.size, 1, none⟩ (.slice none 0 0)).setCell ⟨w.heap.size, 2, none⟩ (.slice none 0 0)).setCell ⟨w.heap.size, 3, none⟩ (.bool false)).setCell ⟨w.heap.size, 4, none⟩ (.bool false) = WF at K5 B5 ⊢
            obtain ⟨r0, r1, r2, r3, r4⟩ := blk5 K5
            exact bodyPost_ret (v := .tuple #[.agg #[.string ⟨#[]⟩, .slice none 0 0, .slice none 0 0, .bool false, .bool false], .int .i64 0, .bool false]) (by simp [results, Tryz.results25, go_sem, r0, r1, r2, r3, r4]) rfl ⟨by (try rw [hX]); exact ⟨_, _, _, _, _, _, _, _, _, _, rfl⟩, B5⟩
        · have ht := at46 p n1
          rw [← hc3] at ht
          have hx : (c.toNat : Int) = 46 := by rw [hc3]; rfl
          simp only [hx] at c1
          clear hc3 hn62b
          cases hnm : nameB n1 with
          | true =>
            rw [hnm, if_pos rfl] at ht
            have HK' : Hid (R = goS (n + 1) (txt (l.drop q1)) { p with classes := p.classes ++ [n1] }) := HSO.out _ ht
            rw [hnm] at cn1
            clear ht hnm HNO HSO
            have HS2 : Hid (txC n1 = [.string (toB n1)]) := rfl
            generalize hs2 : toB n1 = S2 at *
            obtain ⟨Av, ca, hv⟩ := hS.classes.form
            obtain ⟨M, hM⟩ : ∃ M, M = p.classes.length := ⟨_, rfl⟩
            rw [← hM] at hv
            clear hM
            subst hv
            go_wp2_with (first
              | (go_at_call 48; (with_reducible refine (c1 _).mono ?_); rintro e w' ⟨rfl, rfl⟩)
              | (go_at_call 49; (with_reducible refine (c2 _).mono ?_); rintro e w' ⟨rfl, rfl⟩)
              | (go_at_call 33; (with_reducible refine (cn1 _).mono ?_); rintro e w3 ⟨rfl, hb3⟩
                 have h3 := hS.next hb3
                 have KR3 := KR.next hb3
                 have hB3 := below_next hBr hb3
                 have c13 := (hb3.cell (p := ⟨w.heap.size + 1, 2, none⟩) hgl).trans s2
                 have hA := below_al (Below.refl w3.heap.size w3) (.cells #[.string S2] 9)
                 have hY := h3.classes.alloc (.cells #[.string S2] 9)
                 have hnc : ∀ (j : Nat) (u : Value), (txC n1)[j]? = some u → (w3.alloc (.cells #[.string S2] 9)).cell? ⟨w3.heap.size, j, none⟩ = some u := by
                   rw [HS2.out]
                   exact RowG.new_cells w3 9 [.string S2]
                 have hBA := below_al hB3 (.cells #[.string S2] 9))
              | (refine RowG.wpList_more _ (by rfl) _ _ 50 (by rfl) 9 txC 1 16 _ info_str Tryz.underlying50 rfl (by decide) txC_len txC_one w.heap.size _ p.classes n1 (by rfl) w3.heap.size _ (by rfl) hY hnc (by simp only [maxLen]; omega) (by omega) hBA.size ?_
                 intro v6 w6 hrow6 hg6 ho6
                 obtain ⟨A7, c7, hv7⟩ := hrow6.form
                 obtain ⟨M7, hM7⟩ : ∃ M7, M7 = (p.classes ++ [n1]).length := ⟨_, rfl⟩
                 rw [← hM7] at hv7
                 clear hM7
                 subst hv7
                 have h6 := h3.class_ hA hrow6 hg6 ho6
                 have hB6 := hBA.grown hg6 hBA.size (fun k hk => (World.ownsRow.lt hY k hk).1)
                 have k6 := blk_kt (h3.next hA).blk (KT.grown (e := 52) hY hg6 (by decide))
                 have kr6 := blk_kt (KR3.next hA) (KT.grown (e := 52) hY hg6 (by decide))
                 have krf := blk_setOther (p := ⟨w.heap.size + 1, 2, none⟩) kr6 (Nat.ne_of_lt (Nat.lt_succ_self _)) (.slice A7 M7 c7)
                 have hBf := hB6.setCell (p := ⟨w.heap.size + 1, 2, none⟩) (Nat.le_succ _) (.slice A7 M7 c7)
                 have f6 := k6.frozen 2
                 have x6 := k6.cell 2
                 simp only [List.getElem?_toArray, List.getElem?_cons_zero, List.getElem?_cons_succ] at x6))
            have hUne := HUN.out
            go_roundw
            case rel =>
              exact ⟨q1, n + 1, _, rfl, by go_num, hq1l, by omega, ⟨_, _, h6⟩, Nat.le_succ_of_le hi, by show (p.classes ++ [n1]).length ≤ n + 1; rw [List.length_append]; exact Nat.succ_le_succ hc, HK', HQ', HB', fun e => absurd e (by omega), fun _ => hUne, krf, hBf⟩
            case measure => simp [intOf]; omega
          | false =>
            rw [hnm, if_neg (by decide)] at ht
            have hX := HNO.out ht
            rw [hnm] at cn1
            clear ht hnm HNO HSO
            generalize toB n1 = S2 at *
            obtain ⟨f0, f1, f2, f3, f4⟩ := fz5 KR
            obtain ⟨y0, y1, y2, y3, y4⟩ := blk5 KR
            go_wp2_with (first
              | (go_at_call 48; (with_reducible refine (c1 _).mono ?_); rintro e w' ⟨rfl, rfl⟩)
              | (go_at_call 49; (with_reducible refine (c2 _).mono ?_); rintro e w' ⟨rfl, rfl⟩)
              | (go_at_call 33; (with_reducible refine (cn1 _).mono ?_); rintro e w3 ⟨rfl, hb3⟩
                 have h3 := hS.next hb3
                 have KR3 := KR.next hb3
                 have hB3 := below_next hBr hb3
                 obtain ⟨f0, f1, f2, f3, f4⟩ := fz5 KR3
                 obtain ⟨y0, y1, y2, y3, y4⟩ := blk5 KR3))
            have KRx := KR3
            have hBx := hB3
            generalize w3 = wx at *
            have K5 := blk_set5 KRx (.string ⟨#[]⟩) (.slice none 0 0) (.slice none 0 0) (.bool false) (.bool false)
            have B5 := below_set5 hBx (Nat.le_refl w.heap.size) (.string ⟨#[]⟩) (.slice none 0 0) (.slice none 0 0) (.bool false) (.bool false)
            generalize ((((wx.setCell ⟨w.heap.size, 0, none⟩ (.string ⟨#[]⟩)).setCell ⟨w.heap.size, 1, none⟩ (.slice none 0 0)).setCell ⟨w.heap.size, 2, none⟩ (.slice none 0 0)).setCell ⟨w.heap.size, 3, none⟩ (.bool false)).setCell ⟨w.heap.size, 4, none⟩ (.bool false) = WF at K5 B5 ⊢
            obtain ⟨r0, r1, r2, r3, r4⟩ := blk5 K5
            exact bodyPost_ret (v := .tuple #[.agg #[.string ⟨#[]⟩, .slice none 0 0, .slice none 0 0, .bool false, .bool false], .int .i64 0, .bool false]) (by simp [results, Tryz.results25, go_sem, r0, r1, r2, r3, r4]) rfl ⟨by (try rw [hX]); exact ⟨_, _, _, _, _, _, _, _, _, _, rfl⟩, B5⟩
        · have ht := at58 p n1
          rw [← hc3] at ht
          have hx : (c.toNat : Int) = 58 := by rw [hc3]; rfl
          simp only [hx] at c1
          clear hc3 hn62b
          have zl := lit_eq n1 [108, 105, 110, 107]
          have zv := lit_eq n1 [118, 105, 115, 105, 116, 101, 100]
          by_cases hl4 : n1 = [108, 105, 110, 107]
          · rw [if_pos hl4] at ht
            rw [decide_eq_true hl4] at zl
            have zv0 : ((toB n1).toList == [118, 105, 115, 105, 116, 101, 100]) = false := by rw [lit_eq, hl4]; rfl
            clear zv hl4
            have HK' : Hid (R = goS (n + 1) (txt (l.drop q1)) { p with link := true }) := HSO.out _ ht
            clear ht HNO HSO cn1
            generalize toB n1 = S2 at *
            have h6 := hS.link_
            have krf := blk_setOther (p := ⟨w.heap.size + 1, 3, none⟩) KR (Nat.ne_of_lt (Nat.lt_succ_self _)) (.bool true)
            have hBf := hBr.setCell (p := ⟨w.heap.size + 1, 3, none⟩) (Nat.le_succ _) (.bool true)
            go_wp2_with (first
              | (go_at_call 48; (with_reducible refine (c1 _).mono ?_); rintro e w' ⟨rfl, rfl⟩)
              | (go_at_call 49; (with_reducible refine (c2 _).mono ?_); rintro e w' ⟨rfl, rfl⟩))
            have hUne := HUN.out
            go_roundw
            case rel =>
              exact ⟨q1, n + 1, _, rfl, by go_num, hq1l, by omega, ⟨_, _, h6⟩, Nat.le_succ_of_le hi, Nat.le_succ_of_le hc, HK', HQ', HB', fun e => absurd e (by omega), fun _ => hUne, krf, hBf⟩
            case measure => simp [intOf]; omega
          rw [if_neg hl4] at ht
          rw [decide_eq_false hl4] at zl
          by_cases hv7 : n1 = [118, 105, 115, 105, 116, 101, 100]
          · rw [if_pos hv7] at ht
            rw [decide_eq_true hv7] at zv
            clear hl4 hv7
            have HK' : Hid (R = goS (n + 1) (txt (l.drop q1)) { p with visited := true }) := HSO.out _ ht
            clear ht HNO HSO cn1
            generalize toB n1 = S2 at *
            have h6 := hS.vis_
            have krf := blk_setOther (p := ⟨w.heap.size + 1, 4, none⟩) KR (Nat.ne_of_lt (Nat.lt_succ_self _)) (.bool true)
            have hBf := hBr.setCell (p := ⟨w.heap.size + 1, 4, none⟩) (Nat.le_succ _) (.bool true)
            go_wp2_with (first
              | (go_at_call 48; (with_reducible refine (c1 _).mono ?_); rintro e w' ⟨rfl, rfl⟩)
              | (go_at_call 49; (with_reducible refine (c2 _).mono ?_); rintro e w' ⟨rfl, rfl⟩))
            have hUne := HUN.out
            go_roundw
            case rel =>
              exact ⟨q1, n + 1, _, rfl, by go_num, hq1l, by omega, ⟨_, _, h6⟩, Nat.le_succ_of_le hi, Nat.le_succ_of_le hc, HK', HQ', HB', fun e => absurd e (by omega), fun _ => hUne, krf, hBf⟩
            case measure => simp [intOf]; omega
          rw [if_neg hv7] at ht
          rw [decide_eq_false hv7] at zv
          have hX := HNO.out ht
          clear ht HNO HSO cn1 hl4 hv7
          generalize toB n1 = S2 at *
          obtain ⟨f0, f1, f2, f3, f4⟩ := fz5 KR
          obtain ⟨y0, y1, y2, y3, y4⟩ := blk5 KR
          go_wp2_with (first
            | (go_at_call 48; (with_reducible refine (c1 _).mono ?_); rintro e w' ⟨rfl, rfl⟩)
            | (go_at_call 49; (with_reducible refine (c2 _).mono ?_); rintro e w' ⟨rfl, rfl⟩))
          have KRx := KR
          have hBx := hBr
          generalize wr = wx at *
          have K5 := blk_set5 KRx (.string ⟨#[]⟩) (.slice none 0 0) (.slice none 0 0) (.bool false) (.bool false)
          have B5 := below_set5 hBx (Nat.le_refl w.heap.size) (.string ⟨#[]⟩) (.slice none 0 0) (.slice none 0 0) (.bool false) (.bool false)
          generalize ((((wx.setCell ⟨w.heap.size, 0, none⟩ (.string ⟨#[]⟩)).setCell ⟨w.heap.size, 1, none⟩ (.slice none 0 0)).setCell ⟨w.heap.size, 2, none⟩ (.slice none 0 0)).setCell ⟨w.heap.size, 3, none⟩ (.bool false)).setCell ⟨w.heap.size, 4, none⟩ (.bool false) = WF at K5 B5 ⊢
          obtain ⟨r0, r1, r2, r3, r4⟩ := blk5 K5
          exact bodyPost_ret (v := .tuple #[.agg #[.string ⟨#[]⟩, .slice none 0 0, .slice none 0 0, .bool false, .bool false], .int .i64 0, .bool false]) (by simp [results, Tryz.results25, go_sem, r0, r1, r2, r3, r4]) rfl ⟨by (try rw [hX]); exact ⟨_, _, _, _, _, _, _, _, _, _, rfl⟩, B5⟩
  · skip
    have z1' : ((toB T).toList == []) = false := by rw [lit_eq]; exact decide_eq_false hT1
    have z2' : ((toB T).toList == [42]) = false := by rw [lit_eq]; exact decide_eq_false hT2
    have HT1 := Lib.hid hT1
    have htT := htp.symm
    cases hnm : nameB T with
    | false =>
      have hX := HBAD.out (by rw [htp]; exact hT1) (by rw [htp]; exact hnm)
      rw [hnm] at cn
      clear z1 z2 hT1 hT2 htp htT hnm HGO HTL HNIL
      go_enter Tryz.func25, Tryz.ntmps25
      go_wp2_with (first
        | (go_at_call 49; (with_reducible refine (c0 _).mono ?_); rintro e w2 ⟨rfl, rfl⟩)
        | (go_at_call 33; (with_reducible refine (cn _).mono ?_); rintro e w3 ⟨rfl, hb3⟩
           have KR3 := K0.next hb3
           have hB3 := below_next hB0 hb3
           obtain ⟨f0, f1, f2, f3, f4⟩ := fz5 KR3
           obtain ⟨y0, y1, y2, y3, y4⟩ := blk5 KR3))
      have KRx := KR3
      have hBx := hB3
      generalize w3 = wx at *
      have K5 := blk_set5 KRx (.string ⟨#[]⟩) (.slice none 0 0) (.slice none 0 0) (.bool false) (.bool false)
      have B5 := below_set5 hBx (Nat.le_refl w.heap.size) (.string ⟨#[]⟩) (.slice none 0 0) (.slice none 0 0) (.bool false) (.bool false)
      generalize ((((wx.setCell ⟨w.heap.size, 0, none⟩ (.string ⟨#[]⟩)).setCell ⟨w.heap.size, 1, none⟩ (.slice none 0 0)).setCell ⟨w.heap.size, 2, none⟩ (.slice none 0 0)).setCell ⟨w.heap.size, 3, none⟩ (.bool false)).setCell ⟨w.heap.size, 4, none⟩ (.bool false) = WF at K5 B5 ⊢
      obtain ⟨r0, r1, r2, r3, r4⟩ := blk5 K5
      exact bodyPost_ret (v := .tuple #[.agg #[.string ⟨#[]⟩, .slice none 0 0, .slice none 0 0, .bool false, .bool false], .int .i64 0, .bool false]) (by simp [results, Tryz.results25, go_sem, r0, r1, r2, r3, r4]) rfl ⟨by (try rw [hX]); exact ⟨_, _, _, _, _, _, _, _, _, _, rfl⟩, B5⟩
    | true =>
    have hok : tp = [] ∨ nameB tp = true := .inr (by rw [htp]; exact hnm)
    rw [hnm] at cn
    clear z1 z2 HBAD hT1 hT2 hnm
    subst htT
    clear htp
    go_enter Tryz.func25, Tryz.ntmps25
    go_wp2_with (first
      | (go_at_call 49; (with_reducible refine (c0 _).mono ?_); rintro e w2 ⟨rfl, rfl⟩)
      | (go_at_call 33; (with_reducible refine (cn _).mono ?_); rintro e w3 ⟨rfl, hb3⟩
         have hS2 := hS0.next hb3
         have KR2 := K0.next hb3
         have hB2 := below_next hB0 hb3
         obtain ⟨y0, y1, y2, y3, y4⟩ := blk5 hS2.blk
         obtain ⟨f0, f1, f2, f3, f4⟩ := fz5 hS2.blk))
    have hS3 := hS2.tag_ T
    have KR3 := blk_setOther (p := ⟨w.heap.size + 1, 0, none⟩) KR2 (Nat.ne_of_lt (Nat.lt_succ_self _)) (.string (toB T))
    have hB3 := hB2.setCell (p := ⟨w.heap.size + 1, 0, none⟩) (Nat.le_succ _) (.string (toB T))
    clear hS0 hS2 KR2 hB2 hb3 K0 K1 hB0 y0 y1 y2 y3 y4 f0 f1 f2 f3 f4 c0 hcut0 z2' cn
    generalize (w3.setCell ⟨w.heap.size + 1, 0, none⟩ (.string (toB T))) = W3 at *
    obtain ⟨R, hR⟩ : ∃ R, goS 0 U { sim0 with tag := T } = R := ⟨_, rfl⟩
    have HR : Hid (R = goS 0 (txt (l.drop m)) { sim0 with tag := T }) := by show _ = _; rw [H0.out, hR]
    have HXR : Hid (¬ (T = [] ∧ U = []) → X = R) := fun h => (HGO.out (fun e => h (HTL.out.1 e)) hok).trans hR
    have HXN : Hid (T = [] ∧ U = [] → X = none) := fun h => HNIL.out (HTL.out.2 h)
    have HU0 : Hid (txt (l.drop m) = U) := H0
    have HQ0 : Hid (m + (txt (l.drop m)).length = q) := by show _ = _; rw [H0.out]; exact HE.out
    have HB0 : Hid (∀ (c : UInt8) (r : List UInt8), txt (l.drop m) = c :: r → isBg c = true) := by rw [H0.out]; exact HUB
    have hSW : ∃ vi vc, RiM W3 w.heap.size (w.heap.size + 1) vi vc { sim0 with tag := T } := ⟨_, _, hS3⟩
    clear hR HGO HTL HNIL H0 HE HUB hok hS3
    have hp0 : ∃ p0, p0 = { sim0 with tag := T } ∧ p0.ids.length ≤ 0 ∧ p0.classes.length ≤ 0 := ⟨_, rfl, Nat.le_refl 0, Nat.le_refl 0⟩
    obtain ⟨p0, hp0, hp0i, hp0c⟩ := hp0
    rw [← hp0] at HR hSW
    clear hp0
    go_loopw [8, 10] (fun v8 v10 wr => ∃ (k n : Nat) (p : Sim), v8 = .int .i64 k ∧ v10 = .int .i64 n ∧ k ≤ l.length ∧ n ≤ k ∧ (∃ vi vc, RiM wr w.heap.size (w.heap.size + 1) vi vc p) ∧ p.ids.length ≤ n ∧ p.classes.length ≤ n ∧ Hid (R = goS n (txt (l.drop k)) p) ∧ Hid (k + (txt (l.drop k)).length = q) ∧ Hid (∀ (c : UInt8) (r : List UInt8), txt (l.drop k) = c :: r → isBg c = true) ∧ Hid (n = 0 → txt (l.drop k) = U) ∧ Hid (0 < n → U ≠ []) ∧ Blk wr w.heap.size 52 #[.string ⟨#[]⟩, .slice none 0 0, .slice none 0 0, .bool false, .bool false] ∧ Below w.heap.size w wr) (fun v8 _ _ => l.length - (intOf v8).toNat)
    case atStart => exact ⟨m, 0, p0, rfl, rfl, hml, Nat.zero_le _, hSW, hp0i, hp0c, HR, HQ0, HB0, fun _ => HU0.out, fun h => absurd h (Nat.lt_irrefl 0), KR3, hB3⟩
    case round =>
      obtain ⟨k, n, p, rfl, rfl, hkl, hnk, ⟨vi, vc, hS⟩, hi, hc, HK, HQ, HB, HZ0, HNU, KR, hBr⟩ := hrel
      clear HR HQ0 HB0 HU0 hSW KR3 hB3 hp0i hp0c hml hmo
      have k0 : (0 : Int) ≤ (k : Int) := Int.natCast_nonneg _
      have n0 : (0 : Int) ≤ (n : Int) := Int.natCast_nonneg _
      cases hD : txt (l.drop k) with
      | nil =>
        have hkq : (q : Int) = (k : Int) := by have := HQ.out; rw [hD] at this; simp at this; omega
        have hnil := hD
        rw [hD] at HK
        obtain ⟨f0, f1, f2, f3, f4⟩ := fz5 KR
        obtain ⟨y0, y1, y2, y3, y4⟩ := blk5 KR
        clear HQ HB
        rcases txt_nil hD hkl with hke | ⟨c, hk1, hck, hcb⟩
        · have c1 := fun w => rblank_any 0 w
          have hki : ¬ (k : Int) < (l.length : Int) := by omega
          clear hD hke
          by_cases h8 : 8 < n
          · have hX : X = none := by rw [HXR.out (fun e => HNU.out (by omega) e.2), HK.out, goS_nil, if_neg (by omega)]
            have hn8 : ¬ (n : Int) ≤ 8 := by omega
            have hn8n : ¬ n ≤ 8 := by omega
            have hn0 : (0 : Int) < (n : Int) := by omega
            have hn0n : 0 < n := by omega
            obtain ⟨Ai, ci, rfl⟩ := hS.ids.form
            obtain ⟨Ac, cc, rfl⟩ := hS.classes.form
            obtain ⟨s0, s1, s2, s3, s4⟩ := blk5 hS.blk
            go_wp2_with (go_at_call 48; (with_reducible refine (c1 _).mono ?_); rintro e w' ⟨rfl, rfl⟩)
            have hKT := kt_set5 (e := 9) KR (by decide) (.string (toB p.tag)) (.slice Ai p.ids.length ci) (.slice Ac p.classes.length cc) (.bool p.link) (.bool p.visited)
            have hri := row_kt hS.ids hKT
            have hrc := row_kt hS.classes hKT
            have K5 := blk_set5 KR (.string (toB p.tag)) (.slice Ai p.ids.length ci) (.slice Ac p.classes.length cc) (.bool p.link) (.bool p.visited)
            have B5 := below_set5 hBr (Nat.le_refl w.heap.size) (.string (toB p.tag)) (.slice Ai p.ids.length ci) (.slice Ac p.classes.length cc) (.bool p.link) (.bool p.visited)
            generalize ((((wr.setCell ⟨w.heap.size, 0, none⟩ (.string (toB p.tag))).setCell ⟨w.heap.size, 1, none⟩ (.slice Ai p.ids.length ci)).setCell ⟨w.heap.size, 2, none⟩ (.slice Ac p.classes.length cc)).setCell ⟨w.heap.size, 3, none⟩ (.bool p.link)).setCell ⟨w.heap.size, 4, none⟩ (.bool p.visited) = WF at K5 B5 hri hrc ⊢
            obtain ⟨r0, r1, r2, r3, r4⟩ := blk5 K5
            exact bodyPost_ret (v := .tuple #[siV p (.slice Ai p.ids.length ci) (.slice Ac p.classes.length cc), .int .i64 k, .bool false]) (by simp [results, Tryz.results25, go_sem, siV, r0, r1, r2, r3, r4] <;> omega) rfl ⟨by (try rw [hX]); exact ⟨_, _, _, _, _, _, _, _, _, _, rfl⟩, B5⟩
          have hn8 : (n : Int) ≤ 8 := by omega
          have hn8n : n ≤ 8 := by omega
          have hX : X = some p := by rw [HXR.out (fun e => HT1.out e.1), HK.out, goS_nil, if_pos (by omega)]
          obtain ⟨Ai, ci, rfl⟩ := hS.ids.form
          obtain ⟨Ac, cc, rfl⟩ := hS.classes.form
          obtain ⟨s0, s1, s2, s3, s4⟩ := blk5 hS.blk
          go_wp2_with (go_at_call 48; (with_reducible refine (c1 _).mono ?_); rintro e w' ⟨rfl, rfl⟩)
          have hKT := kt_set5 (e := 9) KR (by decide) (.string (toB p.tag)) (.slice Ai p.ids.length ci) (.slice Ac p.classes.length cc) (.bool p.link) (.bool p.visited)
          have hri := row_kt hS.ids hKT
          have hrc := row_kt hS.classes hKT
          have K5 := blk_set5 KR (.string (toB p.tag)) (.slice Ai p.ids.length ci) (.slice Ac p.classes.length cc) (.bool p.link) (.bool p.visited)
          have B5 := below_set5 hBr (Nat.le_refl w.heap.size) (.string (toB p.tag)) (.slice Ai p.ids.length ci) (.slice Ac p.classes.length cc) (.bool p.link) (.bool p.visited)
          generalize ((((wr.setCell ⟨w.heap.size, 0, none⟩ (.string (toB p.tag))).setCell ⟨w.heap.size, 1, none⟩ (.slice Ai p.ids.length ci)).setCell ⟨w.heap.size, 2, none⟩ (.slice Ac p.classes.length cc)).setCell ⟨w.heap.size, 3, none⟩ (.bool p.link)).setCell ⟨w.heap.size, 4, none⟩ (.bool p.visited) = WF at K5 B5 hri hrc ⊢
          obtain ⟨r0, r1, r2, r3, r4⟩ := blk5 K5
          exact bodyPost_ret (v := .tuple #[siV p (.slice Ai p.ids.length ci) (.slice Ac p.classes.length cc), .int .i64 k, .bool true]) (by simp [results, Tryz.results25, go_sem, siV, r0, r1, r2, r3, r4] <;> omega) rfl ⟨by (try rw [hX]); exact ⟨_, _, by rw [hkq], hri, hrc⟩, B5⟩
        · have hps : k < s.size := by rw [hsz]; exact hk1
          have hgs := HAT.out k hps hk1
          rw [hck] at hgs
          have hki : (k : Int) < (l.length : Int) := by omega
          have c1 := fun w => rblank_any c w
          clear hD hck
          rcases isBt_cases hcb with hx | ⟨hx, hy⟩
          · clear hcb c1
            have c1 := fun w => rblank_any 0 w
            by_cases h8 : 8 < n
            · have hX : X = none := by rw [HXR.out (fun e => HNU.out (by omega) e.2), HK.out, goS_nil, if_neg (by omega)]
              have hn8 : ¬ (n : Int) ≤ 8 := by omega
              have hn8n : ¬ n ≤ 8 := by omega
              have hn0 : (0 : Int) < (n : Int) := by omega
              have hn0n : 0 < n := by omega
              obtain ⟨Ai, ci, rfl⟩ := hS.ids.form
              obtain ⟨Ac, cc, rfl⟩ := hS.classes.form
              obtain ⟨s0, s1, s2, s3, s4⟩ := blk5 hS.blk
              go_wp2_with (go_at_call 48; (with_reducible refine (c1 _).mono ?_); rintro e w' ⟨rfl, rfl⟩)
              have hKT := kt_set5 (e := 9) KR (by decide) (.string (toB p.tag)) (.slice Ai p.ids.length ci) (.slice Ac p.classes.length cc) (.bool p.link) (.bool p.visited)
              have hri := row_kt hS.ids hKT
              have hrc := row_kt hS.classes hKT
              have K5 := blk_set5 KR (.string (toB p.tag)) (.slice Ai p.ids.length ci) (.slice Ac p.classes.length cc) (.bool p.link) (.bool p.visited)
              have B5 := below_set5 hBr (Nat.le_refl w.heap.size) (.string (toB p.tag)) (.slice Ai p.ids.length ci) (.slice Ac p.classes.length cc) (.bool p.link) (.bool p.visited)
              generalize ((((wr.setCell ⟨w.heap.size, 0, none⟩ (.string (toB p.tag))).setCell ⟨w.heap.size, 1, none⟩ (.slice Ai p.ids.length ci)).setCell ⟨w.heap.size, 2, none⟩ (.slice Ac p.classes.length cc)).setCell ⟨w.heap.size, 3, none⟩ (.bool p.link)).setCell ⟨w.heap.size, 4, none⟩ (.bool p.visited) = WF at K5 B5 hri hrc ⊢
              obtain ⟨r0, r1, r2, r3, r4⟩ := blk5 K5
              exact bodyPost_ret (v := .tuple #[siV p (.slice Ai p.ids.length ci) (.slice Ac p.classes.length cc), .int .i64 k, .bool false]) (by simp [results, Tryz.results25, go_sem, siV, r0, r1, r2, r3, r4] <;> omega) rfl ⟨by (try rw [hX]); exact ⟨_, _, _, _, _, _, _, _, _, _, rfl⟩, B5⟩
            have hn8 : (n : Int) ≤ 8 := by omega
            have hn8n : n ≤ 8 := by omega
            have hX : X = some p := by rw [HXR.out (fun e => HT1.out e.1), HK.out, goS_nil, if_pos (by omega)]
            obtain ⟨Ai, ci, rfl⟩ := hS.ids.form
            obtain ⟨Ac, cc, rfl⟩ := hS.classes.form
            obtain ⟨s0, s1, s2, s3, s4⟩ := blk5 hS.blk
            go_wp2_with (go_at_call 48; (with_reducible refine (c1 _).mono ?_); rintro e w' ⟨rfl, rfl⟩)
            have hKT := kt_set5 (e := 9) KR (by decide) (.string (toB p.tag)) (.slice Ai p.ids.length ci) (.slice Ac p.classes.length cc) (.bool p.link) (.bool p.visited)
            have hri := row_kt hS.ids hKT
            have hrc := row_kt hS.classes hKT
            have K5 := blk_set5 KR (.string (toB p.tag)) (.slice Ai p.ids.length ci) (.slice Ac p.classes.length cc) (.bool p.link) (.bool p.visited)
            have B5 := below_set5 hBr (Nat.le_refl w.heap.size) (.string (toB p.tag)) (.slice Ai p.ids.length ci) (.slice Ac p.classes.length cc) (.bool p.link) (.bool p.visited)
            generalize ((((wr.setCell ⟨w.heap.size, 0, none⟩ (.string (toB p.tag))).setCell ⟨w.heap.size, 1, none⟩ (.slice Ai p.ids.length ci)).setCell ⟨w.heap.size, 2, none⟩ (.slice Ac p.classes.length cc)).setCell ⟨w.heap.size, 3, none⟩ (.bool p.link)).setCell ⟨w.heap.size, 4, none⟩ (.bool p.visited) = WF at K5 B5 hri hrc ⊢
            obtain ⟨r0, r1, r2, r3, r4⟩ := blk5 K5
            exact bodyPost_ret (v := .tuple #[siV p (.slice Ai p.ids.length ci) (.slice Ac p.classes.length cc), .int .i64 k, .bool true]) (by simp [results, Tryz.results25, go_sem, siV, r0, r1, r2, r3, r4] <;> omega) rfl ⟨by (try rw [hX]); exact ⟨_, _, by rw [hkq], hri, hrc⟩, B5⟩
          · rw [hy] at c1
            have hxb := bne_iff_ne.2 hx
            clear hcb hy hx
            by_cases h8 : 8 < n
            · have hX : X = none := by rw [HXR.out (fun e => HNU.out (by omega) e.2), HK.out, goS_nil, if_neg (by omega)]
              have hn8 : ¬ (n : Int) ≤ 8 := by omega
              have hn8n : ¬ n ≤ 8 := by omega
              have hn0 : (0 : Int) < (n : Int) := by omega
              have hn0n : 0 < n := by omega
              obtain ⟨Ai, ci, rfl⟩ := hS.ids.form
              obtain ⟨Ac, cc, rfl⟩ := hS.classes.form
              obtain ⟨s0, s1, s2, s3, s4⟩ := blk5 hS.blk
              go_wp2_with (go_at_call 48; (with_reducible refine (c1 _).mono ?_); rintro e w' ⟨rfl, rfl⟩)
              have hKT := kt_set5 (e := 9) KR (by decide) (.string (toB p.tag)) (.slice Ai p.ids.length ci) (.slice Ac p.classes.length cc) (.bool p.link) (.bool p.visited)
              have hri := row_kt hS.ids hKT
              have hrc := row_kt hS.classes hKT
              have K5 := blk_set5 KR (.string (toB p.tag)) (.slice Ai p.ids.length ci) (.slice Ac p.classes.length cc) (.bool p.link) (.bool p.visited)
              have B5 := below_set5 hBr (Nat.le_refl w.heap.size) (.string (toB p.tag)) (.slice Ai p.ids.length ci) (.slice Ac p.classes.length cc) (.bool p.link) (.bool p.visited)
              generalize ((((wr.setCell ⟨w.heap.size, 0, none⟩ (.string (toB p.tag))).setCell ⟨w.heap.size, 1, none⟩ (.slice Ai p.ids.length ci)).setCell ⟨w.heap.size, 2, none⟩ (.slice Ac p.classes.length cc)).setCell ⟨w.heap.size, 3, none⟩ (.bool p.link)).setCell ⟨w.heap.size, 4, none⟩ (.bool p.visited) = WF at K5 B5 hri hrc ⊢
              obtain ⟨r0, r1, r2, r3, r4⟩ := blk5 K5
              exact bodyPost_ret (v := .tuple #[siV p (.slice Ai p.ids.length ci) (.slice Ac p.classes.length cc), .int .i64 k, .bool false]) (by simp [results, Tryz.results25, go_sem, siV, r0, r1, r2, r3, r4] <;> omega) rfl ⟨by (try rw [hX]); exact ⟨_, _, _, _, _, _, _, _, _, _, rfl⟩, B5⟩
            have hn8 : (n : Int) ≤ 8 := by omega
            have hn8n : n ≤ 8 := by omega
            have hX : X = some p := by rw [HXR.out (fun e => HT1.out e.1), HK.out, goS_nil, if_pos (by omega)]
            obtain ⟨Ai, ci, rfl⟩ := hS.ids.form
            obtain ⟨Ac, cc, rfl⟩ := hS.classes.form
            obtain ⟨s0, s1, s2, s3, s4⟩ := blk5 hS.blk
            go_wp2_with (go_at_call 48; (with_reducible refine (c1 _).mono ?_); rintro e w' ⟨rfl, rfl⟩)
            have hKT := kt_set5 (e := 9) KR (by decide) (.string (toB p.tag)) (.slice Ai p.ids.length ci) (.slice Ac p.classes.length cc) (.bool p.link) (.bool p.visited)
            have hri := row_kt hS.ids hKT
            have hrc := row_kt hS.classes hKT
            have K5 := blk_set5 KR (.string (toB p.tag)) (.slice Ai p.ids.length ci) (.slice Ac p.classes.length cc) (.bool p.link) (.bool p.visited)
            have B5 := below_set5 hBr (Nat.le_refl w.heap.size) (.string (toB p.tag)) (.slice Ai p.ids.length ci) (.slice Ac p.classes.length cc) (.bool p.link) (.bool p.visited)
            generalize ((((wr.setCell ⟨w.heap.size, 0, none⟩ (.string (toB p.tag))).setCell ⟨w.heap.size, 1, none⟩ (.slice Ai p.ids.length ci)).setCell ⟨w.heap.size, 2, none⟩ (.slice Ac p.classes.length cc)).setCell ⟨w.heap.size, 3, none⟩ (.bool p.link)).setCell ⟨w.heap.size, 4, none⟩ (.bool p.visited) = WF at K5 B5 hri hrc ⊢
            obtain ⟨r0, r1, r2, r3, r4⟩ := blk5 K5
            exact bodyPost_ret (v := .tuple #[siV p (.slice Ai p.ids.length ci) (.slice Ac p.classes.length cc), .int .i64 k, .bool true]) (by simp [results, Tryz.results25, go_sem, siV, r0, r1, r2, r3, r4] <;> omega) rfl ⟨by (try rw [hX]); exact ⟨_, _, by rw [hkq], hri, hrc⟩, B5⟩
      | cons c r =>
        obtain ⟨hk1, hck, hbt, hr⟩ := txt_head hD
        have hps : k < s.size := by rw [hsz]; exact hk1
        have hgs := HAT.out k hps hk1
        rw [hck] at hgs
        have hki : (k : Int) < (l.length : Int) := by omega
        have hbg := HB.out c r hD
        have hc3 := isBg_cases hbg
        obtain ⟨hnb, hn62⟩ := isBt_not hbt
        have hn62b := bne_iff_ne.2 hn62
        have c1 := fun w => rblank_any c w
        rw [hnb] at c1
        have c2 := fun w => HEND.out (k + 1) hk1 w
        have hcut := fun w => HCUT.out (k + 1) (k + 1 + (txE (l.drop (k + 1))).length) (by omega) (len_txE l (k + 1) hk1) w
        rw [cut_txE l (k + 1)] at hcut
        have hq1l := len_txE l (k + 1) hk1
        have hnx := txt_next l (k + 1)
        have hsm := txt_sum l (k + 1)
        have hn1 := txE_own (l.drop (k + 1))
        rw [← hr] at hnx hsm hn1
        have HKc := HK.out
        have HQc := HQ.out
        rw [hD] at HKc HQc
        rw [List.length_cons] at HQc
        obtain ⟨n1, hn1e⟩ : ∃ n1, n1 = txE (l.drop (k + 1)) := ⟨_, rfl⟩
        rw [← hn1e] at c2 hcut hq1l hnx hsm hn1
        obtain ⟨q1, hq1⟩ : ∃ q1, q1 = k + 1 + n1.length := ⟨_, rfl⟩
        rw [← hq1] at c2 hcut hq1l hnx
        obtain ⟨k1, hk1e⟩ : ∃ k1, k1 = k + 1 := ⟨_, rfl⟩
        rw [← hk1e] at c2 hcut
        have hk1i : (k : Int) + 1 = (k1 : Int) := by omega
        have hk10 : (0 : Int) ≤ (k1 : Int) := Int.natCast_nonneg _
        have hkq1 : k < q1 := by omega
        have HQ' : Hid (q1 + (txt (l.drop q1)).length = q) := by show _ = _; rw [hnx]; omega
        have HB' : Hid (∀ (c : UInt8) (r : List UInt8), txt (l.drop q1) = c :: r → isBg c = true) := fun c' r' h => isBg_head (hnx.symm.trans h)
        have hUne : U ≠ [] := by
          rcases Nat.eq_zero_or_pos n with h0 | h0
          · rw [← HZ0.out h0, hD]; exact List.cons_ne_nil _ _
          · exact HNU.out h0
        have hnone : takeS p (c :: n1) = none → X = none := fun h => by rw [HXR.out (fun e => hUne e.2), HKc, goS_none (by rw [← hn1]; exact h)]
        have hsome : ∀ p', takeS p (c :: n1) = some p' → R = goS (n + 1) (txt (l.drop q1)) p' := fun p' h => by rw [HKc, hnx]; exact goS_some (by rw [← hn1]; exact h)
        have hn1l : n1.length ≤ 100000 := by omega
        have cn1 := fun w => Rt.name_any n1 (by omega) w
        have hnn : n ≤ 100000 := by omega
        have hnat : (n : Int) + 1 = ((n + 1 : Nat) : Int) := by omega
        have hgl := hS.blk.lt
        clear HKc HQc hn1e hq1 hk1e hsm hn1 hnx hr hD hck HB HNU HZ0 HK HQ hnat
        obtain ⟨s0, s1, s2, s3, s4⟩ := blk5 hS.blk
        obtain ⟨g0, g1, g2, g3, g4⟩ := fz5 hS.blk
        have HNO := Lib.hid hnone
        have HSO := Lib.hid hsome
        have HUN := Lib.hid hUne
        clear hnone hsome hbg hbt hnb hn62
        rcases hc3 with hc3 | hc3 | hc3
        · have ht := at35 p n1
          rw [← hc3] at ht
          have hx : (c.toNat : Int) = 35 := by rw [hc3]; rfl
          simp only [hx] at c1
          clear hc3 hn62b
          cases hnm : nameB n1 with
          | true =>
            rw [hnm, if_pos rfl] at ht
            have HK' : Hid (R = goS (n + 1) (txt (l.drop q1)) { p with ids := p.ids ++ [n1] }) := HSO.out _ ht
            rw [hnm] at cn1
            clear ht hnm HNO HSO
            have HS2 : Hid (txC n1 = [.string (toB n1)]) := rfl
            generalize hs2 : toB n1 = S2 at *
            obtain ⟨Av, ca, hv⟩ := hS.ids.form
            obtain ⟨M, hM⟩ : ∃ M, M = p.ids.length := ⟨_, rfl⟩
            rw [← hM] at hv
            clear hM
            subst hv
            go_wp2_with (first
              | (go_at_call 48; (with_reducible refine (c1 _).mono ?_); rintro e w' ⟨rfl, rfl⟩)
              | (go_at_call 49; (with_reducible refine (c2 _).mono ?_); rintro e w' ⟨rfl, rfl⟩)
              | (go_at_call 33; (with_reducible refine (cn1 _).mono ?_); rintro e w3 ⟨rfl, hb3⟩
                 have h3 := hS.next hb3
                 have KR3 := KR.next hb3
                 have hB3 := below_next hBr hb3
                 have c13 := (hb3.cell (p := ⟨w.heap.size + 1, 1, none⟩) hgl).trans s1
                 have hA := below_al (Below.refl w3.heap.size w3) (.cells #[.string S2] 9)
                 have hY := h3.ids.alloc (.cells #[.string S2] 9)
                 have hnc : ∀ (j : Nat) (u : Value), (txC n1)[j]? = some u → (w3.alloc (.cells #[.string S2] 9)).cell? ⟨w3.heap.size, j, none⟩ = some u := by
                   rw [HS2.out]
                   exact RowG.new_cells w3 9 [.string S2]
                 have hBA := below_al hB3 (.cells #[.string S2] 9))
              | (refine RowG.wpList_more _ (by rfl) _ _ 50 (by rfl) 9 txC 1 16 _ info_str Tryz.underlying50 rfl (by decide) txC_len txC_one w.heap.size _ p.ids n1 (by rfl) w3.heap.size _ (by rfl) hY hnc (by simp only [maxLen]; omega) (by omega) hBA.size ?_
                 intro v6 w6 hrow6 hg6 ho6
                 obtain ⟨A7, c7, hv7⟩ := hrow6.form
                 obtain ⟨M7, hM7⟩ : ∃ M7, M7 = (p.ids ++ [n1]).length := ⟨_, rfl⟩
                 rw [← hM7] at hv7
                 clear hM7
                 subst hv7
                 have h6 := h3.id_ hA hrow6 hg6 ho6
                 have hB6 := hBA.grown hg6 hBA.size (fun k hk => (World.ownsRow.lt hY k hk).1)
                 have k6 := blk_kt (h3.next hA).blk (KT.grown (e := 52) hY hg6 (by decide))
                 have kr6 := blk_kt (KR3.next hA) (KT.grown (e := 52) hY hg6 (by decide))
                 have krf := blk_setOther (p := ⟨w.heap.size + 1, 1, none⟩) kr6 (Nat.ne_of_lt (Nat.lt_succ_self _)) (.slice A7 M7 c7)
                 have hBf := hB6.setCell (p := ⟨w.heap.size + 1, 1, none⟩) (Nat.le_succ _) (.slice A7 M7 c7)
                 have f6 := k6.frozen 1
                 have x6 := k6.cell 1
                 simp only [List.getElem?_toArray, List.getElem?_cons_zero, List.getElem?_cons_succ] at x6))
            have hUne := HUN.out
            go_roundw
            case rel =>
              exact ⟨q1, n + 1, _, rfl, by go_num, hq1l, by omega, ⟨_, _, h6⟩, by show (p.ids ++ [n1]).length ≤ n + 1; rw [List.length_append]; exact Nat.succ_le_succ hi, Nat.le_succ_of_le hc, HK', HQ', HB', fun e => absurd e (by omega), fun _ => hUne, krf, hBf⟩
            case measure => simp [intOf]; omega
          | false =>
            rw [hnm, if_neg (by decide)] at ht
            have hX := HNO.out ht
            rw [hnm] at cn1
            clear ht hnm HNO HSO
            generalize toB n1 = S2 at *
            obtain ⟨f0, f1, f2, f3, f4⟩ := fz5 KR
            obtain ⟨y0, y1, y2, y3, y4⟩ := blk5 KR
            go_wp2_with (first
              | (go_at_call 48; (with_reducible refine (c1 _).mono ?_); rintro e w' ⟨rfl, rfl⟩)
              | (go_at_call 49; (with_reducible refine (c2 _).mono ?_); rintro e w' ⟨rfl, rfl⟩)
              | (go_at_call 33; (with_reducible refine (cn1 _).mono ?_); rintro e w3 ⟨rfl, hb3⟩
                 have h3 := hS.next hb3
                 have KR3 := KR.next hb3
                 have hB3 := below_next hBr hb3
                 obtain ⟨f0, f1, f2, f3, f4⟩ := fz5 KR3
                 obtain ⟨y0, y1, y2, y3, y4⟩ := blk5 KR3))
            have KRx := KR3
            have hBx := hB3
            generalize w3 = wx at *
            have K5 := blk_set5 KRx (.string ⟨#[]⟩) (.slice none 0 0) (.slice none 0 0) (.bool false) (.bool false)
            have B5 := below_set5 hBx (Nat.le_refl w.heap.size) (.string ⟨#[]⟩) (.slice none 0 0) (.slice none 0 0) (.bool false) (.bool false)
            generalize ((((wx.setCell ⟨w.heap.size, 0, none⟩ (.string ⟨#[]⟩)).setCell ⟨w.heap.size, 1, none⟩ (.slice none 0 0)).setCell ⟨w.heap.size, 2, none⟩ (.slice none 0 0)).setCell ⟨w.heap.size, 3, none⟩ (.bool false)).setCell ⟨w.heap.size, 4, none⟩ (.bool false) = WF at K5 B5 ⊢
            obtain ⟨r0, r1, r2, r3, r4⟩ := blk5 K5
            exact bodyPost_ret (v := .tuple #[.agg #[.string ⟨#[]⟩, .slice none 0 0, .slice none 0 0, .bool false, .bool false], .int .i64 0, .bool false]) (by simp [results, Tryz.results25, go_sem, r0, r1, r2, r3, r4]) rfl ⟨by (try rw [hX]); exact ⟨_, _, _, _, _, _, _, _, _, _, rfl⟩, B5⟩
        · have ht := at46 p n1
          rw [← hc3] at ht
          have hx : (c.toNat : Int) = 46 := by rw [hc3]; rfl
          simp only [hx] at c1
          clear hc3 hn62b
          cases hnm : nameB n1 with
          | true =>
            rw [hnm, if_pos rfl] at ht
            have HK' : Hid (R = goS (n + 1) (txt (l.drop q1)) { p with classes := p.classes ++ [n1] }) := HSO.out _ ht
            rw [hnm] at cn1
            clear ht hnm HNO HSO
            have HS2 : Hid (txC n1 = [.string (toB n1)]) := rfl
            generalize hs2 : toB n1 = S2 at *
            obtain ⟨Av, ca, hv⟩ := hS.classes.form
            obtain ⟨M, hM⟩ : ∃ M, M = p.classes.length := ⟨_, rfl⟩
            rw [← hM] at hv
            clear hM
            subst hv
            go_wp2_with (first
              | (go_at_call 48; (with_reducible refine (c1 _).mono ?_); rintro e w' ⟨rfl, rfl⟩)
              | (go_at_call 49; (with_reducible refine (c2 _).mono ?_); rintro e w' ⟨rfl, rfl⟩)
              | (go_at_call 33; (with_reducible refine (cn1 _).mono ?_); rintro e w3 ⟨rfl, hb3⟩
                 have h3 := hS.next hb3
                 have KR3 := KR.next hb3
                 have hB3 := below_next hBr hb3
                 have c13 := (hb3.cell (p := ⟨w.heap.size + 1, 2, none⟩) hgl).trans s2
                 have hA := below_al (Below.refl w3.heap.size w3) (.cells #[.string S2] 9)
                 have hY := h3.classes.alloc (.cells #[.string S2] 9)
                 have hnc : ∀ (j : Nat) (u : Value), (txC n1)[j]? = some u → (w3.alloc (.cells #[.string S2] 9)).cell? ⟨w3.heap.size, j, none⟩ = some u := by
                   rw [HS2.out]
                   exact RowG.new_cells w3 9 [.string S2]
                 have hBA := below_al hB3 (.cells #[.string S2] 9))
              | (refine RowG.wpList_more _ (by rfl) _ _ 50 (by rfl) 9 txC 1 16 _ info_str Tryz.underlying50 rfl (by decide) txC_len txC_one w.heap.size _ p.classes n1 (by rfl) w3.heap.size _ (by rfl) hY hnc (by simp only [maxLen]; omega) (by omega) hBA.size ?_
                 intro v6 w6 hrow6 hg6 ho6
                 obtain ⟨A7, c7, hv7⟩ := hrow6.form
                 obtain ⟨M7, hM7⟩ : ∃ M7, M7 = (p.classes ++ [n1]).length := ⟨_, rfl⟩
                 rw [← hM7] at hv7
                 clear hM7
                 subst hv7
                 have h6 := h3.class_ hA hrow6 hg6 ho6
                 have hB6 := hBA.grown hg6 hBA.size (fun k hk => (World.ownsRow.lt hY k hk).1)
                 have k6 := blk_kt (h3.next hA).blk (KT.grown (e := 52) hY hg6 (by decide))
                 have kr6 := blk_kt (KR3.next hA) (KT.grown (e := 52) hY hg6 (by decide))
                 have krf := blk_setOther (p := ⟨w.heap.size + 1, 2, none⟩) kr6 (Nat.ne_of_lt (Nat.lt_succ_self _)) (.slice A7 M7 c7)
                 have hBf := hB6.setCell (p := ⟨w.heap.size + 1, 2, none⟩) (Nat.le_succ _) (.slice A7 M7 c7)
                 have f6 := k6.frozen 2
                 have x6 := k6.cell 2
                 simp only [List.getElem?_toArray, List.getElem?_cons_zero, List.getElem?_cons_succ] at x6))
            have hUne := HUN.out
            go_roundw
            case rel =>
              exact ⟨q1, n + 1, _, rfl, by go_num, hq1l, by omega, ⟨_, _, h6⟩, Nat.le_succ_of_le hi, by show (p.classes ++ [n1]).length ≤ n + 1; rw [List.length_append]; exact Nat.succ_le_succ hc, HK', HQ', HB', fun e => absurd e (by omega), fun _ => hUne, krf, hBf⟩
            case measure => simp [intOf]; omega
          | false =>
            rw [hnm, if_neg (by decide)] at ht
            have hX := HNO.out ht
            rw [hnm] at cn1
            clear ht hnm HNO HSO
            generalize toB n1 = S2 at *
            obtain ⟨f0, f1, f2, f3, f4⟩ := fz5 KR
            obtain ⟨y0, y1, y2, y3, y4⟩ := blk5 KR
            go_wp2_with (first
              | (go_at_call 48; (with_reducible refine (c1 _).mono ?_); rintro e w' ⟨rfl, rfl⟩)
              | (go_at_call 49; (with_reducible refine (c2 _).mono ?_); rintro e w' ⟨rfl, rfl⟩)
              | (go_at_call 33; (with_reducible refine (cn1 _).mono ?_); rintro e w3 ⟨rfl, hb3⟩
                 have h3 := hS.next hb3
                 have KR3 := KR.next hb3
                 have hB3 := below_next hBr hb3
                 obtain ⟨f0, f1, f2, f3, f4⟩ := fz5 KR3
                 obtain ⟨y0, y1, y2, y3, y4⟩ := blk5 KR3))
            have KRx := KR3
            have hBx := hB3
            generalize w3 = wx at *
            have K5 := blk_set5 KRx (.string ⟨#[]⟩) (.slice none 0 0) (.slice none 0 0) (.bool false) (.bool false)
            have B5 := below_set5 hBx (Nat.le_refl w.heap.size) (.string ⟨#[]⟩) (.slice none 0 0) (.slice none 0 0) (.bool false) (.bool false)
            generalize ((((wx.setCell ⟨w.heap.size, 0, none⟩ (.string ⟨#[]⟩)).setCell ⟨w.heap.size, 1, none⟩ (.slice none 0 0)).setCell ⟨w.heap.size, 2, none⟩ (.slice none 0 0)).setCell ⟨w.heap.size, 3, none⟩ (.bool false)).setCell ⟨w.heap.size, 4, none⟩ (.bool false) = WF at K5 B5 ⊢
            obtain ⟨r0, r1, r2, r3, r4⟩ := blk5 K5
            exact bodyPost_ret (v := .tuple #[.agg #[.string ⟨#[]⟩, .slice none 0 0, .slice none 0 0, .bool false, .bool false], .int .i64 0, .bool false]) (by simp [results, Tryz.results25, go_sem, r0, r1, r2, r3, r4]) rfl ⟨by (try rw [hX]); exact ⟨_, _, _, _, _, _, _, _, _, _, rfl⟩, B5⟩
        · have ht := at58 p n1
          rw [← hc3] at ht
          have hx : (c.toNat : Int) = 58 := by rw [hc3]; rfl
          simp only [hx] at c1
          clear hc3 hn62b
          have zl := lit_eq n1 [108, 105, 110, 107]
          have zv := lit_eq n1 [118, 105, 115, 105, 116, 101, 100]
          by_cases hl4 : n1 = [108, 105, 110, 107]
          · rw [if_pos hl4] at ht
            rw [decide_eq_true hl4] at zl
            have zv0 : ((toB n1).toList == [118, 105, 115, 105, 116, 101, 100]) = false := by rw [lit_eq, hl4]; rfl
            clear zv hl4
            have HK' : Hid (R = goS (n + 1) (txt (l.drop q1)) { p with link := true }) := HSO.out _ ht
            clear ht HNO HSO cn1
            generalize toB n1 = S2 at *
            have h6 := hS.link_
            have krf := blk_setOther (p := ⟨w.heap.size + 1, 3, none⟩) KR (Nat.ne_of_lt (Nat.lt_succ_self _)) (.bool true)
            have hBf := hBr.setCell (p := ⟨w.heap.size + 1, 3, none⟩) (Nat.le_succ _) (.bool true)
            go_wp2_with (first
              | (go_at_call 48; (with_reducible refine (c1 _).mono ?_); rintro e w' ⟨rfl, rfl⟩)
              | (go_at_call 49; (with_reducible refine (c2 _).mono ?_); rintro e w' ⟨rfl, rfl⟩))
            have hUne := HUN.out
            go_roundw
            case rel =>
              exact ⟨q1, n + 1, _, rfl, by go_num, hq1l, by omega, ⟨_, _, h6⟩, Nat.le_succ_of_le hi, Nat.le_succ_of_le hc, HK', HQ', HB', fun e => absurd e (by omega), fun _ => hUne, krf, hBf⟩
            case measure => simp [intOf]; omega
          rw [if_neg hl4] at ht
          rw [decide_eq_false hl4] at zl
          by_cases hv7 : n1 = [118, 105, 115, 105, 116, 101, 100]
          · rw [if_pos hv7] at ht
            rw [decide_eq_true hv7] at zv
            clear hl4 hv7
            have HK' : Hid (R = goS (n + 1) (txt (l.drop q1)) { p with visited := true }) := HSO.out _ ht
            clear ht HNO HSO cn1
            generalize toB n1 = S2 at *
            have h6 := hS.vis_
            have krf := blk_setOther (p := ⟨w.heap.size + 1, 4, none⟩) KR (Nat.ne_of_lt (Nat.lt_succ_self _)) (.bool true)
            have hBf := hBr.setCell (p := ⟨w.heap.size + 1, 4, none⟩) (Nat.le_succ _) (.bool true)
            go_wp2_with (first
              | (go_at_call 48; (with_reducible refine (c1 _).mono ?_); rintro e w' ⟨rfl, rfl⟩)
              | (go_at_call 49; (with_reducible refine (c2 _).mono ?_); rintro e w' ⟨rfl, rfl⟩))
            have hUne := HUN.out
            go_roundw
            case rel =>
              exact ⟨q1, n + 1, _, rfl, by go_num, hq1l, by omega, ⟨_, _, h6⟩, Nat.le_succ_of_le hi, Nat.le_succ_of_le hc, HK', HQ', HB', fun e => absurd e (by omega), fun _ => hUne, krf, hBf⟩
            case measure => simp [intOf]; omega
          rw [if_neg hv7] at ht
          rw [decide_eq_false hv7] at zv
          have hX := HNO.out ht
          clear ht HNO HSO cn1 hl4 hv7
          generalize toB n1 = S2 at *
          obtain ⟨f0, f1, f2, f3, f4⟩ := fz5 KR
          obtain ⟨y0, y1, y2, y3, y4⟩ := blk5 KR
          go_wp2_with (first
            | (go_at_call 48; (with_reducible refine (c1 _).mono ?_); rintro e w' ⟨rfl, rfl⟩)
            | (go_at_call 49; (with_reducible refine (c2 _).mono ?_); rintro e w' ⟨rfl, rfl⟩))
          have KRx := KR
          have hBx := hBr
          generalize wr = wx at *
          have K5 := blk_set5 KRx (.string ⟨#[]⟩) (.slice none 0 0) (.slice none 0 0) (.bool false) (.bool false)
          have B5 := below_set5 hBx (Nat.le_refl w.heap.size) (.string ⟨#[]⟩) (.slice none 0 0) (.slice none 0 0) (.bool false) (.bool false)
          generalize ((((wx.setCell ⟨w.heap.size, 0, none⟩ (.string ⟨#[]⟩)).setCell ⟨w.heap.size, 1, none⟩ (.slice none 0 0)).setCell ⟨w.heap.size, 2, none⟩ (.slice none 0 0)).setCell ⟨w.heap.size, 3, none⟩ (.bool false)).setCell ⟨w.heap.size, 4, none⟩ (.bool false) = WF at K5 B5 ⊢
          obtain ⟨r0, r1, r2, r3, r4⟩ := blk5 K5
          exact bodyPost_ret (v := .tuple #[.agg #[.string ⟨#[]⟩, .slice none 0 0, .slice none 0 0, .bool false, .bool false], .int .i64 0, .bool false]) (by simp [results, Tryz.results25, go_sem, r0, r1, r2, r3, r4]) rfl ⟨by (try rw [hX]); exact ⟨_, _, _, _, _, _, _, _, _, _, rfl⟩, B5⟩
end Sel
end Go.Proofs.YthacboofbbfmlaaGreatDoor
/- The reference's Read: mathematics, and what it lays. Conditions: the text is not too long. -/
namespace Go.Proofs.YthacboofbbfmlaaGreatDoor
open Go.ChangeShapes Go.WideShapes Go.ChangeAt Go.RowKit Go.Shelf
namespace Sel
open Tok
open RowG (Row)
theorem info_rsim : (Tryz.prog.info? 52).map (fun i => (i.zero, i.size, i.bytes)) = some (some (.agg #[.string ⟨#[]⟩, .slice none 0 0, .slice none 0 0, .bool false, .bool false]), 5, 72) := by kernel_rfl
def PrL (w : World) (base : Nat) (v : Value) (ps : List Sim) : Prop := ∃ cs : List SC, Row w base 52 5 scC v cs ∧ cs.length = ps.length ∧ ∀ (i : Nat) (c : SC) (p : Sim), cs[i]? = some c → ps[i]? = some p → SIm w base c p
theorem PrL.kt {w w' : World} {base : Nat} {v : Value} {ps : List Sim} (h : PrL w base v ps) (k1 : KT w w' 52) (k2 : KT w w' 9) : PrL w' base v ps := by
  obtain ⟨cs, h1, h2, h3⟩ := h
  exact ⟨cs, row_kt h1 k1, h2, fun i c p a b => (h3 i c p a b).kt k2⟩
theorem PrL.next {w w' : World} {base : Nat} {v : Value} {ps : List Sim} (h : PrL w base v ps) (hb : Below w.heap.size w w') : PrL w' base v ps := h.kt (.below hb _) (.below hb _)
theorem PrL.nil (w : World) (base : Nat) : PrL w base (.slice none 0 0) [] := ⟨[], Row.nil _ _ _ _ _, rfl, fun i c p h => by simp at h⟩
theorem PrL.form {w : World} {base : Nat} {v : Value} {ps : List Sim} (h : PrL w base v ps) : ∃ A c, v = .slice A ps.length c := by
  obtain ⟨cs, h1, h2, -⟩ := h
  rw [← h2]
  exact h1.form
theorem PrL.more {w w' : World} {base : Nat} {v' : Value} {ps : List Sim} {cs : List SC} {c : SC} {p : Sim} (h3 : ∀ (i : Nat) (c : SC) (p : Sim), cs[i]? = some c → ps[i]? = some p → SIm w base c p) (h2 : cs.length = ps.length) (hrow : Row w' base 52 5 scC v' (cs ++ [c])) (k : KT w w' 9) (hc : SIm w base c p) : PrL w' base v' (ps ++ [p]) := by
  refine ⟨cs ++ [c], hrow, by rw [List.length_append, List.length_append, h2]; rfl, fun i d q hd hq => ?_⟩
  by_cases hi : i < cs.length
  · rw [List.getElem?_append_left hi] at hd
    rw [List.getElem?_append_left (by omega)] at hq
    exact (h3 i d q hd hq).kt k
  · rw [List.getElem?_append_right (by omega)] at hd hq
    by_cases e : i = cs.length
    · subst e
      rw [Nat.sub_self] at hd
      rw [h2, Nat.sub_self] at hq
      have hd : c = d := by simpa using hd
      have hq : p = q := by simpa using hq
      subst hd
      subst hq
      exact hc.kt k
    · rw [List.getElem?_eq_none (by simp; omega)] at hd
      cases hd
theorem PrL.reads {w : World} {base n c : Nat} {A : Option Addr} {ps : List Sim} (h : PrL w base (.slice A n c) ps) : SLR w w.heap.size A n ps ∧ n = ps.length := by
  obtain ⟨cs, h1, h2, h3⟩ := h
  obtain ⟨h4, h5⟩ := h1.reads
  rw [← h5] at h4
  refine ⟨⟨cs, h4, h2, fun i c p hc hp => ?_⟩, by rw [h5, h2]⟩
  obtain ⟨q1, q2, q3, q4, q5⟩ := h3 i c p hc hp
  obtain ⟨r1, r2⟩ := q2.reads
  obtain ⟨r3, r4⟩ := q3.reads
  rw [← r2] at r1
  rw [← r4] at r3
  exact ⟨q1, ⟨r2, r1⟩, ⟨r4, r3⟩, q4, q5⟩

/-! ### the mathematics -/
def rdS : Nat → List UInt8 → Nat → Option (List Sim × List Bool)
  | 0, _, _ => none
  | f + 1, l, n => match simF (txt l) with
    | none => none
    | some p => if 8 ≤ n then none else match (rst l).dropWhile isBlank with
      | [] => some ([p], [])
      | c :: r => (rdS f (if c = 62 then r.dropWhile isBlank else c :: r) (n + 1)).map fun y => (p :: y.1, decide (c = 62) :: y.2)
theorem gap_dw (k : Bool) : ∀ l : List UInt8, gap k l = gap k (l.dropWhile isBlank) := by
  intro l
  induction l with
  | nil => rfl
  | cons c t ih =>
    cases h : isBlank c with
    | true => rw [gap_blank h, List.dropWhile_cons, if_pos h]; exact ih
    | false => rw [List.dropWhile_cons, if_neg (by rw [h]; decide)]
theorem dw_head {l : List UInt8} {c : UInt8} {r : List UInt8} (h : l.dropWhile isBlank = c :: r) : isBlank c = false := dropWhile_first (p := isBlank) (l := l) h
theorem dw_len (l : List UInt8) : (l.dropWhile isBlank).length ≤ l.length := (List.dropWhile_sublist _).length_le
theorem simF_nil : simF [] = none := by unfold simF; rw [if_pos (.inl rfl)]
theorem rdS_fail {f : Nat} {l : List UInt8} {n : Nat} (h : txt l = []) : rdS f l n = none := by
  cases f with
  | zero => rfl
  | succ f => unfold rdS; rw [h, simF_nil]
theorem rst_lt {l : List UInt8} (h : txt l ≠ []) : (rst l).length < l.length := by
  have h1 : (txt l).length + (rst l).length = l.length := by
    have : txt l ++ rst l = l := List.takeWhile_append_dropWhile
    have := congrArg List.length this
    rwa [List.length_append] at this
  have : 0 < (txt l).length := List.length_pos_iff.2 h
  omega
theorem simF_ne {t : List UInt8} {p : Sim} (h : simF t = some p) : t ≠ [] := by
  rintro rfl
  rw [simF_nil] at h
  cases h
/-- What stands behind a part, less what stands between. -/
theorem gap_rst (l : List UInt8) : gap false (rst l) = match (rst l).dropWhile isBlank with
    | [] => some (false, [])
    | c :: r => if c = 62 then gap true (r.dropWhile isBlank) else some (false, c :: r) := by
  rw [gap_dw]
  cases h : (rst l).dropWhile isBlank with
  | nil => rfl
  | cons c r =>
    have hb := dw_head h
    by_cases hc : c = 62
    · subst hc
      rw [gap_kid, if_neg (by decide)]
      dsimp only
      rw [if_pos rfl]
      exact gap_dw true r
    · dsimp only
      rw [if_neg hc]
      refine gap_stop ?_ false r
      unfold isBt
      rw [hb]
      simpa using hc
theorem rdS_eq : ∀ (f : Nat) (l : List UInt8) (n : Nat), l.length < f → rdS f l n = match partF f l with
    | none => none
    | some (ts, cs) => if 8 < n + ts.length then none else (allS ts).map fun ps => (ps, cs) := by
  intro f
  induction f with
  | zero => intro l n h; omega
  | succ f ih =>
    intro l n hl
    have e1 : rdS (f + 1) l n = match simF (txt l) with
      | none => none
      | some p => if 8 ≤ n then none else match (rst l).dropWhile isBlank with
        | [] => some ([p], [])
        | c :: r => (rdS f (if c = 62 then r.dropWhile isBlank else c :: r) (n + 1)).map fun y => (p :: y.1, decide (c = 62) :: y.2) := rfl
    have e2 : partF (f + 1) l = match gap false (rst l) with
      | none => none
      | some (k, []) => if k then none else some ([txt l], [])
      | some (k, c :: r) => match partF f (c :: r) with
        | none => none
        | some (ts, cs) => some (txt l :: ts, k :: cs) := rfl
    rw [e1, e2, gap_rst]
    cases hr : (rst l).dropWhile isBlank with
    | nil =>
      dsimp only
      rw [if_neg (by decide)]
      dsimp only
      cases hs : simF (txt l) with
      | none =>
        dsimp only
        have : allS [txt l] = none := by unfold allS; rw [hs]
        rw [this]
        split <;> rfl
      | some p =>
        dsimp only
        have : allS [txt l] = some [p] := by unfold allS; rw [hs]; rfl
        rw [this]
        by_cases h8 : 8 ≤ n
        · rw [if_pos h8, if_pos (by show 8 < n + 1; omega)]
        · rw [if_neg h8, if_neg (by show ¬ 8 < n + 1; omega)]; rfl
    | cons c r =>
      dsimp only
      have hle : (c :: r).length ≤ (rst l).length := by rw [← hr]; exact dw_len _
      have hrl := rst_len l
      rw [List.length_cons] at hle
      cases hs : simF (txt l) with
      | none =>
        dsimp only
        have hall : ∀ ts, allS (txt l :: ts) = none := fun ts => by unfold allS; rw [hs]
        by_cases hc : c = 62
        · rw [if_pos hc]
          cases hg : gap true (r.dropWhile isBlank) with
          | none => rfl
          | some x =>
            obtain ⟨k, d⟩ := x
            cases d with
            | nil =>
              dsimp only
              cases k with
              | true => rw [if_pos rfl]
              | false => rw [if_neg (by decide)]; dsimp only; rw [hall]; split <;> rfl
            | cons e d =>
              dsimp only
              cases partF f (e :: d) with
              | none => rfl
              | some y => dsimp only; rw [hall]; split <;> rfl
        · rw [if_neg hc]
          dsimp only
          cases partF f (c :: r) with
          | none => rfl
          | some y => dsimp only; rw [hall]; split <;> rfl
      | some p =>
        have hlt := rst_lt (simF_ne hs)
        have hall : ∀ ts, allS (txt l :: ts) = (allS ts).map (p :: ·) := fun ts => by
          show (match simF (txt l) with | none => none | some p => match allS ts with | none => none | some ps => some (p :: ps)) = _
          rw [hs]
          cases allS ts <;> rfl
        dsimp only
        -- the step on which both agree
        have key : ∀ (k : Bool) (d : List UInt8), d.length < f → (if 8 ≤ n then none else (rdS f d (n + 1)).map fun y => (p :: y.1, k :: y.2)) = match (match partF f d with
            | none => none
            | some (ts, cs) => some (txt l :: ts, k :: cs)) with
            | none => none
            | some (ts, cs) => if 8 < n + ts.length then none else (allS ts).map fun ps => (ps, cs) := by
          intro k d hd
          rw [ih d (n + 1) hd]
          cases partF f d with
          | none => dsimp only; split <;> rfl
          | some y =>
            obtain ⟨ts, cs⟩ := y
            dsimp only
            rw [hall, List.length_cons]
            by_cases h8 : 8 ≤ n
            · rw [if_pos h8, if_pos (by omega)]
            · rw [if_neg h8]
              by_cases h9 : 8 < n + 1 + ts.length
              · rw [if_pos h9, if_pos (by omega)]; rfl
              · rw [if_neg h9, if_neg (by omega)]
                cases allS ts <;> rfl
        by_cases hc : c = 62
        · subst hc
          rw [if_pos rfl, if_pos rfl]
          have hdl := dw_len r
          rw [decide_eq_true rfl, key true (r.dropWhile isBlank) (by omega)]
          cases hd : r.dropWhile isBlank with
          | nil =>
            have : partF f [] = match gap false (rst []) with | none => none | some (k, []) => if k then none else some ([txt []], []) | some (k, c :: r) => match partF (f - 1) (c :: r) with | none => none | some (ts, cs) => some (txt [] :: ts, k :: cs) := by
              cases f with
              | zero => omega
              | succ f => rfl
            rw [this]
            show (match (match (some ([txt []], []) : Option (List (List UInt8) × List Bool)) with | none => none | some (ts, cs) => some (txt l :: ts, true :: cs)) with | none => none | some (ts, cs) => if 8 < n + ts.length then none else (allS ts).map fun ps => (ps, cs)) = none
            dsimp only
            rw [hall]
            have : allS [txt []] = none := by unfold allS; rw [show txt [] = [] from rfl, simF_nil]
            rw [this]
            split <;> rfl
          | cons e d =>
            have heb := dw_head hd
            by_cases he : e = 62
            · subst he
              rw [gap_kid, if_pos rfl]
              dsimp only
              have : rdS f (62 :: d) (n + 1) = none := rdS_fail (by unfold txt; rfl)
              have h2 := key true (62 :: d) (by rw [hd] at hdl; omega)
              rw [this] at h2
              rw [← h2]
              split <;> rfl
            · rw [gap_stop (by unfold isBt; rw [heb]; simpa using he)]
        · rw [if_neg hc, if_neg hc, decide_eq_false hc]
          exact key false (c :: r) (by rw [List.length_cons]; omega)
theorem readL_rdS (m : List UInt8) : readL m = (rdS (m.length + 1) m 0).map fun y => ⟨y.1, y.2⟩ := by
  rw [rdS_eq _ _ _ (Nat.lt_succ_self _)]
  unfold readL partP
  cases partF (m.length + 1) m with
  | none => rfl
  | some y =>
    obtain ⟨ts, cs⟩ := y
    dsimp only
    rw [Nat.zero_add]
    split
    · rfl
    · cases allS ts <;> rfl
end Sel
end Go.Proofs.YthacboofbbfmlaaGreatDoor
namespace Go.Proofs.YthacboofbbfmlaaGreatDoor
open Go.ChangeShapes Go.WideShapes Go.ChangeAt Go.RowKit Go.Shelf
namespace Sel
open Tok
open RowG (Row)
theorem drop_blE (l : List UInt8) (a : Nat) : l.drop (a + (blE (l.drop a)).length) = (l.drop a).dropWhile isBlank := by
  rw [← List.drop_drop]
  have h : blE (l.drop a) ++ (l.drop a).dropWhile isBlank = l.drop a := List.takeWhile_append_dropWhile
  have h2 : (blE (l.drop a) ++ (l.drop a).dropWhile isBlank).drop (blE (l.drop a)).length = (l.drop a).dropWhile isBlank := List.drop_left
  rwa [h] at h2
theorem drop_rst (l : List UInt8) (a : Nat) : l.drop (a + (txt (l.drop a)).length) = rst (l.drop a) := by
  rw [← List.drop_drop]
  exact (rst_eq _).symm
theorem txt_sum_le (l : List UInt8) (a : Nat) (h : a ≤ l.length) : a + (txt (l.drop a)).length ≤ l.length := by
  have := txt_le (l.drop a)
  rw [List.length_drop] at this
  omega
theorem blE_sum_le (l : List UInt8) (a : Nat) (h : a ≤ l.length) : a + (blE (l.drop a)).length ≤ l.length := tw_len _ l a h
theorem drop_cons {l r : List UInt8} {a : Nat} {c : UInt8} (h : l.drop a = c :: r) : ∃ hk : a < l.length, l[a] = c ∧ l.drop (a + 1) = r := by
  rcases Nat.lt_or_ge a l.length with hk | hk
  · rw [List.drop_eq_getElem_cons hk] at h
    injection h with h1 h2
    exact ⟨hk, h1, h2⟩
  · rw [List.drop_eq_nil_of_le hk] at h; cases h
theorem drop_nil {l : List UInt8} {a : Nat} (h : l.drop a = []) : l.length ≤ a := by
  have := congrArg List.length h
  rw [List.length_drop] at this
  simp at this
  omega
/-- What the reference's Read answers. -/
def RslR (w : World) (base : Nat) (x : Option Slr) (e : Ending) : Prop := match x with
  | none => e = .returned (.tuple #[.agg #[.slice none 0 0, .slice none 0 0], .bool false])
  | some x => ∃ vp vb, e = .returned (.tuple #[.agg #[vp, vb], .bool true]) ∧ PrL w base vp x.parts ∧ Row w base 4 1 boC vb x.close
set_option maxRecDepth 100000 in
set_option maxHeartbeats 64000000 in
theorem rread_any (text : List UInt8) (hl : text.length ≤ 100000) (w : World) :
    Calls Tryz.prog 8 #[.string (toB text)] w fun e w' => RslR w' w.heap.size (readP text) e ∧ Below w.heap.size w w' := by
  have ct : ∀ w, Calls Tryz.prog 24 #[.string (toB text)] w fun e w' => e = .returned (.string (toB (trimL text))) ∧ w = w' := fun w => rtrim_any (toB text) w (by rw [toB_size]; simp only [maxLen]; omega)
  have htl := trim_len text
  have cl : ∀ w, Calls Tryz.prog 23 #[.string (toB (trimL text))] w fun e w' => e = .returned (.string (toB (lowL (trimL text)))) ∧ Below w.heap.size w w' := fun w => rlower_any (toB (trimL text)) w (by rw [toB_size]; unfold mostB; omega)
  obtain ⟨X, hX⟩ : ∃ X, X = readP text := ⟨_, rfl⟩
  rw [← hX]
  have hml : (lowL (trimL text)).length ≤ 100000 := by rw [low_len]; omega
  unfold readP at hX
  rw [readL_rdS] at hX
  generalize lowL (trimL text) = m at *
  have HX0 : Hid (X = (rdS (m.length + 1) (m.drop 0) ([] : List Sim).length).map fun y : List Sim × List Bool => (⟨[] ++ y.1, [] ++ y.2⟩ : Slr)) := hX
  clear hX
  have hsz : (toB m).size = m.length := toB_size m
  have hat : ∀ (k : Nat) (h : k < (toB m).size) (h2 : k < m.length), (toB m)[k]'h = m[k]'h2 := fun k h h2 => rfl
  have HAT := Lib.hid hat
  have HSIM := Lib.hid (fun (a : Nat) (ha : a ≤ m.length) (w : World) => rsimple_any m a hml ha w)
  have HBLS := Lib.hid (fun (a : Nat) (ha : a ≤ m.length) (w : World) => rblanks_any m a hml ha w)
  clear hat htl
  have K0 := Blk.new w 30 #[.slice none 0 0, .slice none 0 0]
  have hB0 := below_al (Below.refl w.heap.size w) (.cells #[.slice none 0 0, .slice none 0 0] 30)
  generalize toB text = S0 at *
  generalize toB (trimL text) = S1 at *
  generalize toB m = s at *
  go_enter Tryz.func8, Tryz.ntmps8
  go_wp2_with (first
    | (go_at_call 24; (with_reducible refine (ct _).mono ?_); rintro e w1 ⟨rfl, rfl⟩)
    | (go_at_call 23; (with_reducible refine (cl _).mono ?_); rintro e w2 ⟨rfl, hb2⟩))
  have KG3 := Blk.new w2 30 #[.slice none 0 0, .slice none 0 0]
  have KR3 := (K0.next hb2).alloc (.cells #[.slice none 0 0, .slice none 0 0] 30)
  have hB3 := below_al (below_next hB0 hb2) (.cells #[.slice none 0 0, .slice none 0 0] 30)
  have hgl : w.heap.size < w2.heap.size := (K0.next hb2).lt
  clear K0 hB0 hb2 ct cl
  generalize w2.alloc (.cells #[.slice none 0 0, .slice none 0 0] 30) = W3 at *
  generalize w2.heap.size = g at *
  go_loopw [6] (fun v6 wr => ∃ (a f : Nat) (ps : List Sim) (cs : List Bool) (vp vc : Value), v6 = .int .i64 a ∧ a ≤ m.length ∧ ps.length ≤ 8 ∧ cs.length = ps.length ∧ Blk wr g 30 #[vp, vc] ∧ PrL wr w.heap.size vp ps ∧ Row wr w.heap.size 4 1 boC vc cs ∧ Hid (m.length - a < f) ∧ Hid (X = (rdS f (m.drop a) ps.length).map fun y : List Sim × List Bool => (⟨ps ++ y.1, cs ++ y.2⟩ : Slr)) ∧ Blk wr w.heap.size 30 #[.slice none 0 0, .slice none 0 0] ∧ Below w.heap.size w wr) (fun v6 _ => m.length + 1 - (intOf v6).toNat)
  case atStart => exact ⟨0, m.length + 1, [], [], .slice none 0 0, .slice none 0 0, rfl, Nat.zero_le _, Nat.zero_le _, rfl, KG3, PrL.nil _ _, Row.nil _ _ _ _ _, by show m.length - 0 < m.length + 1; omega, HX0, KR3, hB3⟩
  case round =>
    obtain ⟨a, f, ps, cs, vp, vc, rfl, hal, hp8, hcl, KG, hP, hC, HF, HX, KR, hBr⟩ := hrel
    clear HX0 KG3 KR3 hB3
    obtain ⟨css, hrow, hcl0, hall⟩ := hP
    have a0 : (0 : Int) ≤ (a : Int) := Int.natCast_nonneg _
    have cs1 := fun W' => HSIM.out a hal W'
    have hel := txt_sum_le m a hal
    have hrs := drop_rst m a
    obtain ⟨f1, hf1⟩ : ∃ f1, f = f1 + 1 := ⟨f - 1, by have := HF.out; omega⟩
    subst hf1
    have hXe : X = ((match simF (txt (m.drop a)) with
      | none => none
      | some p => if 8 ≤ ps.length then none else match (rst (m.drop a)).dropWhile isBlank with
        | [] => some ([p], [])
        | c :: r => (rdS f1 (if c = 62 then r.dropWhile isBlank else c :: r) (ps.length + 1)).map fun y : List Sim × List Bool => (p :: y.1, decide (c = 62) :: y.2)) : Option (List Sim × List Bool)).map fun y : List Sim × List Bool => (⟨ps ++ y.1, cs ++ y.2⟩ : Slr) := HX.out
    have hne := fun p => @simF_ne (txt (m.drop a)) p
    obtain ⟨x, hx⟩ : ∃ x, x = simF (txt (m.drop a)) := ⟨_, rfl⟩
    rw [← hx] at cs1 hXe hne
    obtain ⟨e, he⟩ : ∃ e, e = a + (txt (m.drop a)).length := ⟨_, rfl⟩
    rw [← he] at cs1 hel hrs
    have hae : txt (m.drop a) ≠ [] → a < e := fun h => by have := List.length_pos_iff.2 h; omega
    have HFF : Hid (m.length - a < f1 + 1) := HF
    clear hx he HX HF
    cases x with
    | none =>
      have hXn : X = none := hXe
      clear hXe hne HSIM HBLS
      go_wp2_with (go_at_call 25; (with_reducible refine (cs1 _).mono ?_); rintro e w4 ⟨⟨x0, A1, n1, d1, A2, n2, d2, x3, x4, i, rfl⟩, hb4⟩
                   have KR5 := (KR.next hb4).alloc (.cells #[.string x0, .slice A1 n1 d1, .slice A2 n2 d2, .bool x3, .bool x4] 52)
                   obtain ⟨f0, f1'⟩ := fz2 KR5
                   obtain ⟨y0, y1⟩ := blk2 KR5
                   have hB5 := below_al (below_next hBr hb4) (.cells #[.string x0, .slice A1 n1 d1, .slice A2 n2 d2, .bool x3, .bool x4] 52))
      have KRx := KR5
      have hBx := hB5
      generalize w4.alloc (.cells #[.string x0, .slice A1 n1 d1, .slice A2 n2 d2, .bool x3, .bool x4] 52) = wx at *
      have K5 := blk_set2 KRx (.slice none 0 0) (.slice none 0 0)
      have B5 := below_set2 hBx (Nat.le_refl w.heap.size) (.slice none 0 0) (.slice none 0 0)
      generalize ((wx.setCell ⟨w.heap.size, 0, none⟩ (.slice none 0 0)).setCell ⟨w.heap.size, 1, none⟩ (.slice none 0 0)) = WF at K5 B5 ⊢
      obtain ⟨r0, r1⟩ := blk2 K5
      exact bodyPost_ret (v := .tuple #[.agg #[.slice none 0 0, .slice none 0 0], .bool false]) (by simp [results, Tryz.results8, go_sem, r0, r1]) rfl ⟨by (try rw [hXn]); rfl, B5⟩
    | some p =>
      have hpl := hcl0
      obtain ⟨Ap, cp, hvp⟩ := hrow.form
      rw [hcl0] at hvp
      obtain ⟨n, hn⟩ : ∃ n, n = ps.length := ⟨_, rfl⟩
      rw [← hn] at hvp hp8 hXe hpl
      subst hvp
      have HN := Lib.hid hn
      have HC0 := Lib.hid hcl0
      have HCL := Lib.hid hcl
      have HPL := Lib.hid hpl
      clear hn hcl0 hcl hpl
      have n0 : (0 : Int) ≤ (n : Int) := Int.natCast_nonneg _
      by_cases h8 : 8 ≤ n
      · have hXn : X = none := by rw [hXe]; simp [h8]
        have h8i : (8 : Int) ≤ (n : Int) := by omega
        clear hXe hne HSIM HBLS
        go_wp2_with (go_at_call 25; (with_reducible refine (cs1 _).mono ?_); rintro e4 w4 ⟨⟨vi, vc5, rfl, hri, hrc⟩, hb4⟩
                     obtain ⟨Ai, ci, rfl⟩ := hri.form
                     obtain ⟨Ac, cc, rfl⟩ := hrc.form
                     unfold siV
                     have KR5 := (KR.next hb4).alloc (.cells #[.string (toB p.tag), .slice Ai p.ids.length ci, .slice Ac p.classes.length cc, .bool p.link, .bool p.visited] 52)
                     have KG5 := (KG.next hb4).alloc (.cells #[.string (toB p.tag), .slice Ai p.ids.length ci, .slice Ac p.classes.length cc, .bool p.link, .bool p.visited] 52)
                     obtain ⟨k0, k1⟩ := blk2 KG5
                     obtain ⟨f0, f1'⟩ := fz2 KR5
                     obtain ⟨y0, y1⟩ := blk2 KR5
                     have hB5 := below_al (below_next hBr hb4) (.cells #[.string (toB p.tag), .slice Ai p.ids.length ci, .slice Ac p.classes.length cc, .bool p.link, .bool p.visited] 52))
        have KRx := KR5
        have hBx := hB5
        generalize w4.alloc (.cells #[.string (toB p.tag), .slice Ai p.ids.length ci, .slice Ac p.classes.length cc, .bool p.link, .bool p.visited] 52) = wx at *
        have K5 := blk_set2 KRx (.slice none 0 0) (.slice none 0 0)
        have B5 := below_set2 hBx (Nat.le_refl w.heap.size) (.slice none 0 0) (.slice none 0 0)
        generalize ((wx.setCell ⟨w.heap.size, 0, none⟩ (.slice none 0 0)).setCell ⟨w.heap.size, 1, none⟩ (.slice none 0 0)) = WF at K5 B5 ⊢
        obtain ⟨r0, r1⟩ := blk2 K5
        exact bodyPost_ret (v := .tuple #[.agg #[.slice none 0 0, .slice none 0 0], .bool false]) (by simp [results, Tryz.results8, go_sem, r0, r1]) rfl ⟨by (try rw [hXn]); rfl, B5⟩
      have h8i : ¬ (8 : Int) ≤ (n : Int) := by omega
      have hn8 : n < 8 := by omega
      dsimp only at hXe
      rw [if_neg h8] at hXe
      have hae2 := hae (hne p rfl)
      have cb1 := fun W' => HBLS.out e hel W'
      have hdb := drop_blE m e
      have hbl := blE_sum_le m e hel
      obtain ⟨a2, ha2⟩ : ∃ a2, a2 = e + (blE (m.drop e)).length := ⟨_, rfl⟩
      rw [← ha2] at cb1 hdb hbl
      have hea2 : e ≤ a2 := by omega
      rw [hrs] at hdb
      rw [← hdb] at hXe
      have a20 : (0 : Int) ≤ (a2 : Int) := Int.natCast_nonneg _
      clear ha2 hrs hae hne HSIM h8
      cases hD : m.drop a2 with
      | nil =>
        have hXs : X = some ⟨ps ++ [p], cs⟩ := by rw [hXe, hD]; simp
        have hlt := drop_nil hD
        have hlti : (m.length : Int) ≤ (a2 : Int) := by omega
        obtain ⟨Ab, nb, cb, hvc⟩ : ∃ Ab nb cb, vc = .slice Ab nb cb := by
          obtain ⟨A, c, h⟩ := hC.form
          exact ⟨_, _, _, h⟩
        subst hvc
        clear hXe hD hdb
        go_wp2_with (first
          | (go_at_call 25; (with_reducible refine (cs1 _).mono ?_); rintro e4 w4 ⟨⟨vi, vc5, rfl, hri, hrc⟩, hb4⟩
             obtain ⟨Ai, ci, rfl⟩ := hri.form
             obtain ⟨Ac, cc, rfl⟩ := hrc.form
             unfold siV
             have KR5 := (KR.next hb4).alloc (.cells #[.string (toB p.tag), .slice Ai p.ids.length ci, .slice Ac p.classes.length cc, .bool p.link, .bool p.visited] 52)
             have KG5 := (KG.next hb4).alloc (.cells #[.string (toB p.tag), .slice Ai p.ids.length ci, .slice Ac p.classes.length cc, .bool p.link, .bool p.visited] 52)
             obtain ⟨k0, k1⟩ := blk2 KG5
             obtain ⟨f0, f1'⟩ := fz2 KR5
             obtain ⟨y0, y1⟩ := blk2 KR5
             have hB5 := below_al (below_next hBr hb4) (.cells #[.string (toB p.tag), .slice Ai p.ids.length ci, .slice Ac p.classes.length cc, .bool p.link, .bool p.visited] 52)
             have hri6 := ((row_less hri hBr.size).alloc (.cells #[.string (toB p.tag), .slice Ai p.ids.length ci, .slice Ac p.classes.length cc, .bool p.link, .bool p.visited] 52)).alloc (.cells #[.string (toB p.tag), .slice Ai p.ids.length ci, .slice Ac p.classes.length cc, .bool p.link, .bool p.visited] 52)
             have hrc6 := ((row_less hrc hBr.size).alloc (.cells #[.string (toB p.tag), .slice Ai p.ids.length ci, .slice Ac p.classes.length cc, .bool p.link, .bool p.visited] 52)).alloc (.cells #[.string (toB p.tag), .slice Ai p.ids.length ci, .slice Ac p.classes.length cc, .bool p.link, .bool p.visited] 52)
             have hA : Below wr.heap.size wr ((w4.alloc (.cells #[.string (toB p.tag), .slice Ai p.ids.length ci, .slice Ac p.classes.length cc, .bool p.link, .bool p.visited] 52)).alloc (.cells #[.string (toB p.tag), .slice Ai p.ids.length ci, .slice Ac p.classes.length cc, .bool p.link, .bool p.visited] 52)) := below_al (below_al hb4 (.cells #[.string (toB p.tag), .slice Ai p.ids.length ci, .slice Ac p.classes.length cc, .bool p.link, .bool p.visited] 52)) (.cells #[.string (toB p.tag), .slice Ai p.ids.length ci, .slice Ac p.classes.length cc, .bool p.link, .bool p.visited] 52)
             have hY := hrow.below hA
             have KG6 := KG.next hA
             have KR6 := KR.next hA
             have hC6 := hC.below hA
             have hB6 := below_next hBr hA
             have hnc : ∀ (j : Nat) (u : Value), (scC ⟨toB p.tag, Ai, p.ids.length, ci, Ac, p.classes.length, cc, p.link, p.visited⟩)[j]? = some u → ((w4.alloc (.cells #[.string (toB p.tag), .slice Ai p.ids.length ci, .slice Ac p.classes.length cc, .bool p.link, .bool p.visited] 52)).alloc (.cells #[.string (toB p.tag), .slice Ai p.ids.length ci, .slice Ac p.classes.length cc, .bool p.link, .bool p.visited] 52)).cell? ⟨(w4.alloc (.cells #[.string (toB p.tag), .slice Ai p.ids.length ci, .slice Ac p.classes.length cc, .bool p.link, .bool p.visited] 52)).heap.size, j, none⟩ = some u := RowG.new_cells _ 52 (scC ⟨toB p.tag, Ai, p.ids.length, ci, Ac, p.classes.length, cc, p.link, p.visited⟩)
             rw [size_al] at hnc)
          | (refine RowG.wpList_more _ (by rfl) _ _ 28 (by rfl) 52 scC 5 72 _ info_rsim Tryz.underlying28 rfl (by decide) scC_len scC_one w.heap.size _ css ⟨toB p.tag, Ai, p.ids.length, ci, Ac, p.classes.length, cc, p.link, p.visited⟩ (by rfl) (w4.heap.size + 1) _ (by rfl) hY hnc (by rw [HPL.out]; simp only [maxLen]; omega) (by rw [HPL.out]; omega) hB6.size ?_
             intro v7 w7 hrow7 hg7 ho7
             obtain ⟨A7, c7, hv7⟩ := hrow7.form
             rw [List.length_append, List.length_singleton, HPL.out] at hv7
             subst hv7
             have KG7 := blk_kt KG6 (KT.grown (e := 30) hY hg7 (by decide))
             obtain ⟨g0, g1⟩ := blk2 KG7
             obtain ⟨h0, h1⟩ := fz2 KG7
             have hks := KT.set (e := 9) KG7 (by decide) 0 (.slice A7 (n + 1) c7)
             have hkt := (KT.grown (e := 9) hY hg7 (by decide)).trans hks
             have hkb := (KT.grown (e := 4) hY hg7 (by decide)).trans (KT.set (e := 4) KG7 (by decide) 0 (.slice A7 (n + 1) c7))
             have hP8 := PrL.more (fun i c q a b => (hall i c q a b).kt (.below hA _)) HC0.out (row_kt hrow7 (KT.set (e := 52) KG7 (by decide) 0 (.slice A7 (n + 1) c7))) hkt (show SIm _ w.heap.size ⟨toB p.tag, Ai, p.ids.length, ci, Ac, p.classes.length, cc, p.link, p.visited⟩ p from ⟨rfl, hri6, hrc6, rfl, rfl⟩)
             have KG8 := KG7.set_ 0 (.slice A7 (n + 1) c7)
             have KR8 := blk_setOther (p := ⟨g, 0, none⟩) (blk_kt KR6 (KT.grown (e := 30) hY hg7 (by decide))) (Nat.ne_of_lt hgl) (.slice A7 (n + 1) c7)
             have hB8 : Below w.heap.size w (w7.setCell ⟨g, 0, none⟩ (.slice A7 (n + 1) c7)) := (hB6.grown hg7 hB6.size (fun j hj => (World.ownsRow.lt hY j hj).1)).setCell (Nat.le_of_lt hgl) _
             have hC8 := row_kt hC6 hkb
             obtain ⟨l0, l1⟩ := blk2 KG8
             obtain ⟨m0, m1⟩ := fz2 KG8
             obtain ⟨u0, u1⟩ := blk2 KR8
             obtain ⟨t0, t1⟩ := fz2 KR8)
          | (go_at_call 26; (first | (with_reducible refine (cb1 _).mono ?_)); rintro e5 w5 ⟨rfl, rfl⟩))
        have hks2 := kt_set2 (e := 52) KR8 (by decide) (.slice A7 (n + 1) c7) (.slice Ab nb cb)
        have hks3 := kt_set2 (e := 9) KR8 (by decide) (.slice A7 (n + 1) c7) (.slice Ab nb cb)
        have hks4 := kt_set2 (e := 4) KR8 (by decide) (.slice A7 (n + 1) c7) (.slice Ab nb cb)
        have hP9 := hP8.kt hks2 hks3
        have hC9 := row_kt hC8 hks4
        have K5 := blk_set2 KR8 (.slice A7 (n + 1) c7) (.slice Ab nb cb)
        have B5 := below_set2 hB8 (Nat.le_refl w.heap.size) (.slice A7 (n + 1) c7) (.slice Ab nb cb)
        generalize (((w7.setCell ⟨g, 0, none⟩ (.slice A7 (n + 1) c7)).setCell ⟨w.heap.size, 0, none⟩ (.slice A7 (n + 1) c7)).setCell ⟨w.heap.size, 1, none⟩ (.slice Ab nb cb)) = WF at K5 B5 hP9 hC9 ⊢
        obtain ⟨r0, r1⟩ := blk2 K5
        exact bodyPost_ret (v := .tuple #[.agg #[.slice A7 (n + 1) c7, .slice Ab nb cb], .bool true]) (by simp [results, Tryz.results8, go_sem, r0, r1]) rfl ⟨by (try rw [hXs]); exact ⟨_, _, rfl, hP9, hC9⟩, B5⟩
      | cons c r =>
        obtain ⟨hlt, hck, hdr⟩ := drop_cons hD
        have hps : a2 < s.size := by rw [hsz]; exact hlt
        have hgs := HAT.out a2 hps hlt
        rw [hck] at hgs
        have hlti : (a2 : Int) < (m.length : Int) := by omega
        rw [hD] at hXe
        obtain ⟨Ab, cb, hvc⟩ := hC.form
        rw [HCL.out, ← HN.out] at hvc
        subst hvc
        have hcb : ∀ d : Bool, (cs ++ [d]).length = (ps ++ [p]).length := fun d => by rw [List.length_append, List.length_append, HCL.out]; rfl
        have hpl1 : (ps ++ [p]).length = n + 1 := by rw [List.length_append, List.length_singleton, HN.out]
        by_cases hc : c = 62
        · have hx62 : (c.toNat : Int) = 62 := by rw [hc]; rfl
          dsimp only at hXe
          rw [if_pos hc, decide_eq_true hc] at hXe
          have hdb3 := drop_blE m (a2 + 1)
          have hbl3 := blE_sum_le m (a2 + 1) hlt
          have cb2 := fun W' => HBLS.out (a2 + 1) hlt W'
          obtain ⟨a3, ha3⟩ : ∃ a3, a3 = a2 + 1 + (blE (m.drop (a2 + 1))).length := ⟨_, rfl⟩
          rw [← ha3] at cb2 hdb3 hbl3
          have ha23 : a2 < a3 := by omega
          rw [hdr] at hdb3
          rw [← hdb3] at hXe
          have HF1 : Hid (m.length - a3 < f1) := by have := HFF.out; show _ < _; omega
          have HX1 : Hid (X = (rdS f1 (m.drop a3) (ps ++ [p]).length).map fun y : List Sim × List Bool => (⟨(ps ++ [p]) ++ y.1, (cs ++ [true]) ++ y.2⟩ : Slr)) := by
            show X = _
            rw [hXe, hpl1]
            cases rdS f1 (m.drop a3) (n + 1) <;> simp
          obtain ⟨b2, hb2e⟩ : ∃ b2, b2 = a2 + 1 := ⟨_, rfl⟩
          rw [← hb2e] at cb2
          have hb2i : (a2 : Int) + 1 = (b2 : Int) := by omega
          clear hXe hdb3 hdr hD hdb HBLS ha3 hb2e hck HFF
          go_wp2_with (first
            | (go_at_call 25; (with_reducible refine (cs1 _).mono ?_); rintro e4 w4 ⟨⟨vi, vc5, rfl, hri, hrc⟩, hb4⟩
               obtain ⟨Ai, ci, rfl⟩ := hri.form
               obtain ⟨Ac, cc, rfl⟩ := hrc.form
               unfold siV
               have KR5 := (KR.next hb4).alloc (.cells #[.string (toB p.tag), .slice Ai p.ids.length ci, .slice Ac p.classes.length cc, .bool p.link, .bool p.visited] 52)
               have KG5 := (KG.next hb4).alloc (.cells #[.string (toB p.tag), .slice Ai p.ids.length ci, .slice Ac p.classes.length cc, .bool p.link, .bool p.visited] 52)
               obtain ⟨k0, k1⟩ := blk2 KG5
               obtain ⟨f0, f1'⟩ := fz2 KR5
               obtain ⟨y0, y1⟩ := blk2 KR5
               have hB5 := below_al (below_next hBr hb4) (.cells #[.string (toB p.tag), .slice Ai p.ids.length ci, .slice Ac p.classes.length cc, .bool p.link, .bool p.visited] 52)
               have hri6 := ((row_less hri hBr.size).alloc (.cells #[.string (toB p.tag), .slice Ai p.ids.length ci, .slice Ac p.classes.length cc, .bool p.link, .bool p.visited] 52)).alloc (.cells #[.string (toB p.tag), .slice Ai p.ids.length ci, .slice Ac p.classes.length cc, .bool p.link, .bool p.visited] 52)
               have hrc6 := ((row_less hrc hBr.size).alloc (.cells #[.string (toB p.tag), .slice Ai p.ids.length ci, .slice Ac p.classes.length cc, .bool p.link, .bool p.visited] 52)).alloc (.cells #[.string (toB p.tag), .slice Ai p.ids.length ci, .slice Ac p.classes.length cc, .bool p.link, .bool p.visited] 52)
               have hA : Below wr.heap.size wr ((w4.alloc (.cells #[.string (toB p.tag), .slice Ai p.ids.length ci, .slice Ac p.classes.length cc, .bool p.link, .bool p.visited] 52)).alloc (.cells #[.string (toB p.tag), .slice Ai p.ids.length ci, .slice Ac p.classes.length cc, .bool p.link, .bool p.visited] 52)) := below_al (below_al hb4 (.cells #[.string (toB p.tag), .slice Ai p.ids.length ci, .slice Ac p.classes.length cc, .bool p.link, .bool p.visited] 52)) (.cells #[.string (toB p.tag), .slice Ai p.ids.length ci, .slice Ac p.classes.length cc, .bool p.link, .bool p.visited] 52)
               have hY := hrow.below hA
               have KG6 := KG.next hA
               have KR6 := KR.next hA
               have hC6 := hC.below hA
               have hB6 := below_next hBr hA
               have hnc : ∀ (j : Nat) (u : Value), (scC ⟨toB p.tag, Ai, p.ids.length, ci, Ac, p.classes.length, cc, p.link, p.visited⟩)[j]? = some u → ((w4.alloc (.cells #[.string (toB p.tag), .slice Ai p.ids.length ci, .slice Ac p.classes.length cc, .bool p.link, .bool p.visited] 52)).alloc (.cells #[.string (toB p.tag), .slice Ai p.ids.length ci, .slice Ac p.classes.length cc, .bool p.link, .bool p.visited] 52)).cell? ⟨(w4.alloc (.cells #[.string (toB p.tag), .slice Ai p.ids.length ci, .slice Ac p.classes.length cc, .bool p.link, .bool p.visited] 52)).heap.size, j, none⟩ = some u := RowG.new_cells _ 52 (scC ⟨toB p.tag, Ai, p.ids.length, ci, Ac, p.classes.length, cc, p.link, p.visited⟩)
               rw [size_al] at hnc)
            | (refine RowG.wpList_more _ (by rfl) _ _ 28 (by rfl) 52 scC 5 72 _ info_rsim Tryz.underlying28 rfl (by decide) scC_len scC_one w.heap.size _ css ⟨toB p.tag, Ai, p.ids.length, ci, Ac, p.classes.length, cc, p.link, p.visited⟩ (by rfl) (w4.heap.size + 1) _ (by rfl) hY hnc (by rw [HPL.out]; simp only [maxLen]; omega) (by rw [HPL.out]; omega) hB6.size ?_
               intro v7 w7 hrow7 hg7 ho7
               obtain ⟨A7, c7, hv7⟩ := hrow7.form
               rw [List.length_append, List.length_singleton, HPL.out] at hv7
               subst hv7
               have KG7 := blk_kt KG6 (KT.grown (e := 30) hY hg7 (by decide))
               obtain ⟨g0, g1⟩ := blk2 KG7
               obtain ⟨h0, h1⟩ := fz2 KG7
               have hks := KT.set (e := 9) KG7 (by decide) 0 (.slice A7 (n + 1) c7)
               have hkt := (KT.grown (e := 9) hY hg7 (by decide)).trans hks
               have hkb := (KT.grown (e := 4) hY hg7 (by decide)).trans (KT.set (e := 4) KG7 (by decide) 0 (.slice A7 (n + 1) c7))
               have hP8 := PrL.more (fun i c q a b => (hall i c q a b).kt (.below hA _)) HC0.out (row_kt hrow7 (KT.set (e := 52) KG7 (by decide) 0 (.slice A7 (n + 1) c7))) hkt (show SIm _ w.heap.size ⟨toB p.tag, Ai, p.ids.length, ci, Ac, p.classes.length, cc, p.link, p.visited⟩ p from ⟨rfl, hri6, hrc6, rfl, rfl⟩)
               have KG8 := KG7.set_ 0 (.slice A7 (n + 1) c7)
               have KR8 := blk_setOther (p := ⟨g, 0, none⟩) (blk_kt KR6 (KT.grown (e := 30) hY hg7 (by decide))) (Nat.ne_of_lt hgl) (.slice A7 (n + 1) c7)
               have hB8 : Below w.heap.size w (w7.setCell ⟨g, 0, none⟩ (.slice A7 (n + 1) c7)) := (hB6.grown hg7 hB6.size (fun j hj => (World.ownsRow.lt hY j hj).1)).setCell (Nat.le_of_lt hgl) _
               have hC8 := row_kt hC6 hkb
               obtain ⟨l0, l1⟩ := blk2 KG8
               obtain ⟨m0, m1⟩ := fz2 KG8
               obtain ⟨u0, u1⟩ := blk2 KR8
               obtain ⟨t0, t1⟩ := fz2 KR8
               have hnb : ∀ (j : Nat) (u : Value), (boC true)[j]? = some u → ((w7.setCell ⟨g, 0, none⟩ (.slice A7 (n + 1) c7)).alloc (.cells #[.bool true] 4)).cell? ⟨(w7.setCell ⟨g, 0, none⟩ (.slice A7 (n + 1) c7)).heap.size, j, none⟩ = some u := RowG.new_cells _ 4 (boC true)
               have hsz7 : (w7.setCell ⟨g, 0, none⟩ (.slice A7 (n + 1) c7)).heap.size = w7.heap.size := by simp
               rw [hsz7] at hnb
               have hYb := hC8.alloc (.cells #[.bool true] 4)
               have hBb := below_al hB8 (.cells #[.bool true] 4)
               have KG8a := KG8.alloc (.cells #[.bool true] 4)
               have KR8a := KR8.alloc (.cells #[.bool true] 4)
               have hP8a := hP8.kt (KT.below (below_al (Below.refl _ _) (.cells #[.bool true] 4)) _) (KT.below (below_al (Below.refl _ _) (.cells #[.bool true] 4)) _)
               obtain ⟨n0', n1'⟩ := blk2 KG8a)
            | (go_at_call 26; (first | (with_reducible refine (cb1 _).mono ?_) | (with_reducible refine (cb2 _).mono ?_)); rintro e5 w5 ⟨rfl, rfl⟩)
            | (refine RowG.wpList_more _ (by rfl) _ _ 23 (by rfl) 4 boC 1 1 _ info_bool Tryz.underlying23 rfl (by decide) boC_len boC_one w.heap.size _ cs true (by rfl) w7.heap.size _ (by rfl) hYb hnb (by rw [HCL.out, ← HN.out]; simp only [maxLen]; omega) (by rw [HCL.out, ← HN.out]; omega) hBb.size ?_
               intro v9 w9 hrow9 hg9 ho9
               obtain ⟨A9, c9, hv9⟩ := hrow9.form
               rw [List.length_append, List.length_singleton, HCL.out, ← HN.out] at hv9
               subst hv9
               have KG9 := blk_kt KG8a (KT.grown (e := 30) hYb hg9 (by decide))
               have KR9 := blk_kt KR8a (KT.grown (e := 30) hYb hg9 (by decide))
               have hP9 := hP8a.kt (KT.grown (e := 52) hYb hg9 (by decide)) (KT.grown (e := 9) hYb hg9 (by decide))
               have hB9 := hBb.grown hg9 hBb.size (fun j hj => (World.ownsRow.lt hYb j hj).1)
               obtain ⟨q0, q1⟩ := blk2 KG9
               obtain ⟨v0, v1⟩ := fz2 KG9))
          have KG10 := KG9.set_ 1 (.slice A9 (n + 1) c9)
          have KR10 := blk_setOther (p := ⟨g, 1, none⟩) KR9 (Nat.ne_of_lt hgl) (.slice A9 (n + 1) c9)
          have hP10 := hP9.kt (KT.set (e := 52) KG9 (by decide) 1 (.slice A9 (n + 1) c9)) (KT.set (e := 9) KG9 (by decide) 1 (.slice A9 (n + 1) c9))
          have hC10 := row_kt hrow9 (KT.set (e := 4) KG9 (by decide) 1 (.slice A9 (n + 1) c9))
          have hB10 := hB9.setCell (p := ⟨g, 1, none⟩) (Nat.le_of_lt hgl) (.slice A9 (n + 1) c9)
          go_roundw
          case rel => exact ⟨a3, f1, ps ++ [p], cs ++ [true], _, _, by go_num, by omega, by omega, hcb true, KG10, hP10, hC10, HF1, HX1, KR10, hB10⟩
          case measure => simp [intOf]; omega
        have hx62 : ¬ (c.toNat : Int) = 62 := by
          intro e
          apply hc
          have h1 : c.toNat = 62 := by omega
          exact UInt8.toNat_inj.1 h1
        have hx62b : ((c.toNat : Int) == 62) = false := beq_eq_false_iff_ne.2 hx62
        dsimp only at hXe
        rw [if_neg hc, decide_eq_false hc, ← hD] at hXe
        have HF1 : Hid (m.length - a2 < f1) := by have := HFF.out; show _ < _; omega
        have HX1 : Hid (X = (rdS f1 (m.drop a2) (ps ++ [p]).length).map fun y : List Sim × List Bool => (⟨(ps ++ [p]) ++ y.1, (cs ++ [false]) ++ y.2⟩ : Slr)) := by
          show X = _
          rw [hXe, hpl1]
          cases rdS f1 (m.drop a2) (n + 1) <;> simp
        clear hXe hdr hD hdb HBLS hck HFF hc hx62
        go_wp2_with (first
          | (go_at_call 25; (with_reducible refine (cs1 _).mono ?_); rintro e4 w4 ⟨⟨vi, vc5, rfl, hri, hrc⟩, hb4⟩
             obtain ⟨Ai, ci, rfl⟩ := hri.form
             obtain ⟨Ac, cc, rfl⟩ := hrc.form
             unfold siV
             have KR5 := (KR.next hb4).alloc (.cells #[.string (toB p.tag), .slice Ai p.ids.length ci, .slice Ac p.classes.length cc, .bool p.link, .bool p.visited] 52)
             have KG5 := (KG.next hb4).alloc (.cells #[.string (toB p.tag), .slice Ai p.ids.length ci, .slice Ac p.classes.length cc, .bool p.link, .bool p.visited] 52)
             obtain ⟨k0, k1⟩ := blk2 KG5
             obtain ⟨f0, f1'⟩ := fz2 KR5
             obtain ⟨y0, y1⟩ := blk2 KR5
             have hB5 := below_al (below_next hBr hb4) (.cells #[.string (toB p.tag), .slice Ai p.ids.length ci, .slice Ac p.classes.length cc, .bool p.link, .bool p.visited] 52)
             have hri6 := ((row_less hri hBr.size).alloc (.cells #[.string (toB p.tag), .slice Ai p.ids.length ci, .slice Ac p.classes.length cc, .bool p.link, .bool p.visited] 52)).alloc (.cells #[.string (toB p.tag), .slice Ai p.ids.length ci, .slice Ac p.classes.length cc, .bool p.link, .bool p.visited] 52)
             have hrc6 := ((row_less hrc hBr.size).alloc (.cells #[.string (toB p.tag), .slice Ai p.ids.length ci, .slice Ac p.classes.length cc, .bool p.link, .bool p.visited] 52)).alloc (.cells #[.string (toB p.tag), .slice Ai p.ids.length ci, .slice Ac p.classes.length cc, .bool p.link, .bool p.visited] 52)
             have hA : Below wr.heap.size wr ((w4.alloc (.cells #[.string (toB p.tag), .slice Ai p.ids.length ci, .slice Ac p.classes.length cc, .bool p.link, .bool p.visited] 52)).alloc (.cells #[.string (toB p.tag), .slice Ai p.ids.length ci, .slice Ac p.classes.length cc, .bool p.link, .bool p.visited] 52)) := below_al (below_al hb4 (.cells #[.string (toB p.tag), .slice Ai p.ids.length ci, .slice Ac p.classes.length cc, .bool p.link, .bool p.visited] 52)) (.cells #[.string (toB p.tag), .slice Ai p.ids.length ci, .slice Ac p.classes.length cc, .bool p.link, .bool p.visited] 52)
             have hY := hrow.below hA
             have KG6 := KG.next hA
             have KR6 := KR.next hA
             have hC6 := hC.below hA
             have hB6 := below_next hBr hA
             have hnc : ∀ (j : Nat) (u : Value), (scC ⟨toB p.tag, Ai, p.ids.length, ci, Ac, p.classes.length, cc, p.link, p.visited⟩)[j]? = some u → ((w4.alloc (.cells #[.string (toB p.tag), .slice Ai p.ids.length ci, .slice Ac p.classes.length cc, .bool p.link, .bool p.visited] 52)).alloc (.cells #[.string (toB p.tag), .slice Ai p.ids.length ci, .slice Ac p.classes.length cc, .bool p.link, .bool p.visited] 52)).cell? ⟨(w4.alloc (.cells #[.string (toB p.tag), .slice Ai p.ids.length ci, .slice Ac p.classes.length cc, .bool p.link, .bool p.visited] 52)).heap.size, j, none⟩ = some u := RowG.new_cells _ 52 (scC ⟨toB p.tag, Ai, p.ids.length, ci, Ac, p.classes.length, cc, p.link, p.visited⟩)
             rw [size_al] at hnc)
          | (refine RowG.wpList_more _ (by rfl) _ _ 28 (by rfl) 52 scC 5 72 _ info_rsim Tryz.underlying28 rfl (by decide) scC_len scC_one w.heap.size _ css ⟨toB p.tag, Ai, p.ids.length, ci, Ac, p.classes.length, cc, p.link, p.visited⟩ (by rfl) (w4.heap.size + 1) _ (by rfl) hY hnc (by rw [HPL.out]; simp only [maxLen]; omega) (by rw [HPL.out]; omega) hB6.size ?_
             intro v7 w7 hrow7 hg7 ho7
             obtain ⟨A7, c7, hv7⟩ := hrow7.form
             rw [List.length_append, List.length_singleton, HPL.out] at hv7
             subst hv7
             have KG7 := blk_kt KG6 (KT.grown (e := 30) hY hg7 (by decide))
             obtain ⟨g0, g1⟩ := blk2 KG7
             obtain ⟨h0, h1⟩ := fz2 KG7
             have hks := KT.set (e := 9) KG7 (by decide) 0 (.slice A7 (n + 1) c7)
             have hkt := (KT.grown (e := 9) hY hg7 (by decide)).trans hks
             have hkb := (KT.grown (e := 4) hY hg7 (by decide)).trans (KT.set (e := 4) KG7 (by decide) 0 (.slice A7 (n + 1) c7))
             have hP8 := PrL.more (fun i c q a b => (hall i c q a b).kt (.below hA _)) HC0.out (row_kt hrow7 (KT.set (e := 52) KG7 (by decide) 0 (.slice A7 (n + 1) c7))) hkt (show SIm _ w.heap.size ⟨toB p.tag, Ai, p.ids.length, ci, Ac, p.classes.length, cc, p.link, p.visited⟩ p from ⟨rfl, hri6, hrc6, rfl, rfl⟩)
             have KG8 := KG7.set_ 0 (.slice A7 (n + 1) c7)
             have KR8 := blk_setOther (p := ⟨g, 0, none⟩) (blk_kt KR6 (KT.grown (e := 30) hY hg7 (by decide))) (Nat.ne_of_lt hgl) (.slice A7 (n + 1) c7)
             have hB8 : Below w.heap.size w (w7.setCell ⟨g, 0, none⟩ (.slice A7 (n + 1) c7)) := (hB6.grown hg7 hB6.size (fun j hj => (World.ownsRow.lt hY j hj).1)).setCell (Nat.le_of_lt hgl) _
             have hC8 := row_kt hC6 hkb
             obtain ⟨l0, l1⟩ := blk2 KG8
             obtain ⟨m0, m1⟩ := fz2 KG8
             obtain ⟨u0, u1⟩ := blk2 KR8
             obtain ⟨t0, t1⟩ := fz2 KR8
             have hnb : ∀ (j : Nat) (u : Value), (boC false)[j]? = some u → ((w7.setCell ⟨g, 0, none⟩ (.slice A7 (n + 1) c7)).alloc (.cells #[.bool false] 4)).cell? ⟨(w7.setCell ⟨g, 0, none⟩ (.slice A7 (n + 1) c7)).heap.size, j, none⟩ = some u := RowG.new_cells _ 4 (boC false)
             have hsz7 : (w7.setCell ⟨g, 0, none⟩ (.slice A7 (n + 1) c7)).heap.size = w7.heap.size := by simp
             rw [hsz7] at hnb
             have hYb := hC8.alloc (.cells #[.bool false] 4)
             have hBb := below_al hB8 (.cells #[.bool false] 4)
             have KG8a := KG8.alloc (.cells #[.bool false] 4)
             have KR8a := KR8.alloc (.cells #[.bool false] 4)
             have hP8a := hP8.kt (KT.below (below_al (Below.refl _ _) (.cells #[.bool false] 4)) _) (KT.below (below_al (Below.refl _ _) (.cells #[.bool false] 4)) _)
             obtain ⟨n0', n1'⟩ := blk2 KG8a)
          | (go_at_call 26; (first | (with_reducible refine (cb1 _).mono ?_)); rintro e5 w5 ⟨rfl, rfl⟩)
          | (refine RowG.wpList_more _ (by rfl) _ _ 23 (by rfl) 4 boC 1 1 _ info_bool Tryz.underlying23 rfl (by decide) boC_len boC_one w.heap.size _ cs false (by rfl) w7.heap.size _ (by rfl) hYb hnb (by rw [HCL.out, ← HN.out]; simp only [maxLen]; omega) (by rw [HCL.out, ← HN.out]; omega) hBb.size ?_
             intro v9 w9 hrow9 hg9 ho9
             obtain ⟨A9, c9, hv9⟩ := hrow9.form
             rw [List.length_append, List.length_singleton, HCL.out, ← HN.out] at hv9
             subst hv9
             have KG9 := blk_kt KG8a (KT.grown (e := 30) hYb hg9 (by decide))
             have KR9 := blk_kt KR8a (KT.grown (e := 30) hYb hg9 (by decide))
             have hP9 := hP8a.kt (KT.grown (e := 52) hYb hg9 (by decide)) (KT.grown (e := 9) hYb hg9 (by decide))
             have hB9 := hBb.grown hg9 hBb.size (fun j hj => (World.ownsRow.lt hYb j hj).1)
             obtain ⟨q0, q1⟩ := blk2 KG9
             obtain ⟨v0, v1⟩ := fz2 KG9))
        have KG10 := KG9.set_ 1 (.slice A9 (n + 1) c9)
        have KR10 := blk_setOther (p := ⟨g, 1, none⟩) KR9 (Nat.ne_of_lt hgl) (.slice A9 (n + 1) c9)
        have hP10 := hP9.kt (KT.set (e := 52) KG9 (by decide) 1 (.slice A9 (n + 1) c9)) (KT.set (e := 9) KG9 (by decide) 1 (.slice A9 (n + 1) c9))
        have hC10 := row_kt hrow9 (KT.set (e := 4) KG9 (by decide) 1 (.slice A9 (n + 1) c9))
        have hB10 := hB9.setCell (p := ⟨g, 1, none⟩) (Nat.le_of_lt hgl) (.slice A9 (n + 1) c9)
        go_roundw
        case rel => exact ⟨a2, f1, ps ++ [p], cs ++ [false], _, _, by go_num, by omega, by omega, hcb false, KG10, hP10, hC10, HF1, HX1, KR10, hB10⟩
        case measure => simp [intOf]; omega
end Sel
end Go.Proofs.YthacboofbbfmlaaGreatDoor
