/- What the landed package flex's sharerOf answers. Conditions: the list lies in memory as it is read, and has 100 items at most. -/
import Derived.Test.YtnjnkcjhhgffjaaFlexB
import Derived.Laws.MakeOwn
import Derived.Deep.RegionLaw
import Derived.Test.YtnjnkcjhhgffjaaStillD
import Derived.Deep.RegionWith
import Derived.Deep.Cut
import Derived.Deep.CutRange
import Derived.Deep.DeepCutAuto
namespace Go.Proofs.Ytnjnkcjhhgffjaa
open Go.ChangeShapes Go.WideShapes Go.ChangeAt Go.RowKit
def ints (l : List Int) : Array Value := (l.map (Value.int .i64)).toArray
def bools (l : List Bool) : Array Value := (l.map Value.bool).toArray
theorem made_one (z : Value) (hz : z.cells = #[z]) (n : Nat) : madeCells z.cells (n * 1) = (List.replicate n z).toArray := by
  rw [hz, Nat.mul_one]
  unfold madeCells
  apply Array.ext
  · simp
  · intro i h1 h2
    simp [Nat.mod_one]
theorem info_bool : (Try.prog.info? 4).map (fun i => (i.zero, i.size, i.bytes)) = some (some (.bool false), 1, 1) := by kernel_rfl
theorem make_ints (n : Nat) (hn : n ≤ 100) (w : World) : (Instr.makeSlice 41 (.int .i64 (n : Int)) (.int .i64 (n : Int))).run Try.prog w = .ok (.slice (some ⟨w.heap.size, 0, none⟩) n n) (w.alloc (.cells (ints (List.replicate n 0)) 2)) := by
  obtain ⟨i0, hi0, hz0, hz1, hz2⟩ := info_parts info_IntsO
  have h := run_make (P := Try.prog) w 41 2 i0 (.int .i64 0) Try.underlying41 hi0 hz0 .i64 .i64 n n (by omega) (by omega) (by rw [hz2]; omega) (by omega)
  rw [hz1] at h
  simp only [Int.toNat_natCast] at h
  rw [made_one _ rfl] at h
  unfold ints
  rw [List.map_replicate]
  exact h
theorem make_bools (n : Nat) (hn : n ≤ 100) (w : World) : (Instr.makeSlice 80 (.int .i64 (n : Int)) (.int .i64 (n : Int))).run Try.prog w = .ok (.slice (some ⟨w.heap.size, 0, none⟩) n n) (w.alloc (.cells (bools (List.replicate n false)) 4)) := by
  obtain ⟨i0, hi0, hz0, hz1, hz2⟩ := info_parts info_bool
  have h := run_make (P := Try.prog) w 80 4 i0 (.bool false) Try.underlying80 hi0 hz0 .i64 .i64 n n (by omega) (by omega) (by rw [hz2]; omega) (by omega)
  rw [hz1] at h
  simp only [Int.toNat_natCast] at h
  rw [made_one _ rfl] at h
  unfold bools
  rw [List.map_replicate]
  exact h
theorem blk_at {w : World} {g : Nat} {t : TypeId} {cs : Array Value} (h : w.heap.size = g) : Blk (w.alloc (.cells cs t)) g t cs := by subst h; exact Blk.new w t cs
/-- What a sharer holds. -/
structure ShS (w : World) (g : Nat) (c : Bool) (A : Option Addr) (n cI : Nat) (room : Int) (gz gf : Nat) (L : List FIt) (Z : List Int) (F : List Bool) : Prop where
  hG : Blk w g 82 #[.bool c, .slice A n cI, .int .i64 room, .slice (some ⟨gz, 0, none⟩) n n, .slice (some ⟨gf, 0, none⟩) n n]
  hI : RowB w 61 4 A n (flatF L)
  hZ : Blk w gz 2 (ints Z)
  hF : Blk w gf 4 (bools F)
  lz : Z.length = n
  lf : F.length = n
theorem it_of {w : World} {B n k : Nat} {A : Option Addr} {l : List FIt} {r : FIt} (h : Reads w B 4 A n (flatF l)) (hk : l[k]? = some r) :
    ∃ ad, A = some ad ∧ ad.block < B ∧ w.cell? (ad.add (k * 4)) = some (.int .i64 r.b) ∧ w.cell? ⟨(ad.add (k * 4)).block, (ad.add (k * 4)).off + 1, none⟩ = some (.int .i64 r.e) ∧
      w.cell? ⟨(ad.add (k * 4)).block, (ad.add (k * 4)).off + 2, none⟩ = some (.int .i64 r.g) ∧ w.cell? ⟨(ad.add (k * 4)).block, (ad.add (k * 4)).off + 3, none⟩ = some (.int .i64 r.s) := by
  have hl : l.length = n := by have := h.1; rw [flatF_len] at this; omega
  have hkl := (List.getElem?_eq_some_iff.1 hk).1
  obtain ⟨ad, e, hb, hc⟩ := h.2 (by omega)
  obtain ⟨f0, f1, f2, f3⟩ := flatF_at l k r hk
  refine ⟨ad, e, hb, hc _ _ f0, ?_, ?_, ?_⟩
  · have := hc _ _ f1; rwa [← add_of_add, add_one] at this
  · have := hc _ _ f2; rwa [← add_of_add, add_one] at this
  · have := hc _ _ f3; rwa [← add_of_add, add_one] at this
set_option maxHeartbeats 8000000 in
set_option maxRecDepth 100000 in
theorem sharer_any (A : Option Addr) (n c : Nat) (l : List FIt) (room : Int) (w : World) (hr : Reads w w.heap.size 4 A n (flatF l)) (hn : n ≤ 100) :
    Calls Try.prog 42 #[.slice A n c, .int .i64 room] w fun e w' => ∃ (g gz gf : Nat) (A' : Option Addr) (cI : Nat), e = .returned (.pointer (some ⟨g, 0, none⟩)) ∧
      ShS w' g false A' n cI room gz gf (l.map FIt.cnt) (List.replicate n 0) (List.replicate n false) ∧ Below w.heap.size w w' ∧ w.heap.size ≤ g ∧ w.heap.size ≤ gz ∧ w.heap.size ≤ gf := by
  have hlen : l.length = n := by have := hr.1; rw [flatF_len] at this; omega
  have mk1 := make_ints n hn
  have mk2 := make_bools n hn
  go_enter Try.func42, Try.ntmps42
  go_upto_region 1 with (fail)
  go_cut [5] (fun s5 wx => ∃ (g gz gf : Nat), s5 = .pointer (some ⟨g, 0, none⟩) ∧ Below w.heap.size w wx ∧ w.heap.size ≤ g ∧ w.heap.size ≤ gz ∧ w.heap.size ≤ gf ∧
    Blk wx g 82 #[.bool false, .slice none 0 0, .int .i64 room, .slice (some ⟨gz, 0, none⟩) n n, .slice (some ⟨gf, 0, none⟩) n n] ∧ Blk wx gz 2 (ints (List.replicate n 0)) ∧ Blk wx gf 4 (bools (List.replicate n false)))
  case first =>
    generalize ints (List.replicate n 0) = Z0 at *
    generalize bools (List.replicate n false) = F0 at *
    go_region
    all_goals
      go_wp2
      go_meet
      first
        | (refine ⟨w.heap.size, w.heap.size + 1, w.heap.size + 1 + 1, rfl, Below.drew ?_, by omega, by omega, by omega, Blk.drew ?_, Blk.drew ?_, Blk.drew ?_⟩
           · exact below_al (below_al (below_al (Below.refl _ _) _) _) _
           all_goals repeat (first | ((with_reducible refine blk_at ?_); simp only [size_al]; done) | (with_reducible refine Blk.alloc ?_ _))
           done)
        | (refine ⟨w.heap.size, w.heap.size + 1 + 1, w.heap.size + 1, rfl, Below.drew ?_, by omega, by omega, by omega, Blk.drew ?_, Blk.drew ?_, Blk.drew ?_⟩
           · exact below_al (below_al (below_al (Below.refl _ _) _) _) _
           all_goals repeat (first | ((with_reducible refine blk_at ?_); simp only [size_al]; done) | (with_reducible refine Blk.alloc ?_ _))
           done)
        | (refine ⟨w.heap.size + 1, w.heap.size, w.heap.size + 1 + 1, rfl, Below.drew ?_, by omega, by omega, by omega, Blk.drew ?_, Blk.drew ?_, Blk.drew ?_⟩
           · exact below_al (below_al (below_al (Below.refl _ _) _) _) _
           all_goals repeat (first | ((with_reducible refine blk_at ?_); simp only [size_al]; done) | (with_reducible refine Blk.alloc ?_ _))
           done)
        | (refine ⟨w.heap.size + 1, w.heap.size + 1 + 1, w.heap.size, rfl, Below.drew ?_, by omega, by omega, by omega, Blk.drew ?_, Blk.drew ?_, Blk.drew ?_⟩
           · exact below_al (below_al (below_al (Below.refl _ _) _) _) _
           all_goals repeat (first | ((with_reducible refine blk_at ?_); simp only [size_al]; done) | (with_reducible refine Blk.alloc ?_ _))
           done)
        | (refine ⟨w.heap.size + 1 + 1, w.heap.size, w.heap.size + 1, rfl, Below.drew ?_, by omega, by omega, by omega, Blk.drew ?_, Blk.drew ?_, Blk.drew ?_⟩
           · exact below_al (below_al (below_al (Below.refl _ _) _) _) _
           all_goals repeat (first | ((with_reducible refine blk_at ?_); simp only [size_al]; done) | (with_reducible refine Blk.alloc ?_ _))
           done)
        | (refine ⟨w.heap.size + 1 + 1, w.heap.size + 1, w.heap.size, rfl, Below.drew ?_, by omega, by omega, by omega, Blk.drew ?_, Blk.drew ?_, Blk.drew ?_⟩
           · exact below_al (below_al (below_al (Below.refl _ _) _) _) _
           all_goals repeat (first | ((with_reducible refine blk_at ?_); simp only [size_al]; done) | (with_reducible refine Blk.alloc ?_ _))
           done)
  case rest =>
    obtain ⟨g, gz, gf, rfl, hB0, g1, g2, g3, KG, KZ, KF⟩ := hcut
    clear mk1 mk2
    generalize hz0 : ints (List.replicate n 0) = Z0 at *
    have HZ0 := Lib.hid hz0
    clear hz0
    generalize hf0 : bools (List.replicate n false) = F0 at *
    have HF0 := Lib.hid hf0
    clear hf0
    have HL := Lib.hid hlen
    clear hlen
    go_wp2
    go_loopw [18] (fun i wr => ∃ (k : Nat) (v : Value), k ≤ n ∧ i = .int .i64 k ∧ Below w.heap.size w wr ∧ Blk wr g 82 #[.bool false, v, .int .i64 room, .slice (some ⟨gz, 0, none⟩) n n, .slice (some ⟨gf, 0, none⟩) n n] ∧ Blk wr gz 2 Z0 ∧ Blk wr gf 4 F0 ∧ ItsO wr w.heap.size v ((l.take k).map FIt.cnt)) (fun i _ => n - (intOf i).toNat)
    case atStart => exact ⟨0, _, Nat.zero_le _, rfl, hB0, KG, KZ, KF, ItsO.nil _ _⟩
    case round =>
      obtain ⟨k, v, hk, rfl, hBr, Kr, Kz, Kf, hY⟩ := hrel
      clear hB0 KG KZ KF
      have hle := hBr.size
      have zg := Kr.lt
      by_cases hlt : k < n
      · have hkl : k < l.length := by rw [HL.out]; exact hlt
        obtain ⟨r, hrk⟩ : ∃ r, l[k]? = some r := ⟨l[k], List.getElem?_eq_getElem hkl⟩
        obtain ⟨ad, rfl, hab, e0, e1, e2, e3⟩ := it_of (hr.below hBr) hrk
        have HT := Lib.hid (show (l.take (k + 1)).map FIt.cnt = (l.take k).map FIt.cnt ++ [⟨cnt r.b 1099511627776, cnt r.e 1099511627776, cnt r.g 6400, cnt r.s 6400⟩] by rw [List.take_add_one, hrk, List.map_append]; rfl)
        have hol : ((l.take k).map FIt.cnt).length < 400000000 := by simp; omega
        have nv := own_blk_ne (t := 82) hY Kr (by decide)
        have nvz := own_blk_ne (t := 2) hY Kz (by decide)
        have nvf := own_blk_ne (t := 4) hY Kf (by decide)
        have c1 := Kr.cell 1
        have n4 : g ≠ wr.heap.size := Nat.ne_of_lt zg
        obtain ⟨rb, re, rg, rs⟩ := r
        simp only at e0 e1 e2 e3 HT
        have u1 := fun w => counted_any_ rb 1099511627776 w
        have u2 := fun w => counted_any_ re 1099511627776 w
        have u3 := fun w => counted_any_ rg 6400 w
        have u4 := fun w => counted_any_ rs 6400 w
        have hYa : ItsO (wr.alloc (.cells #[.int .i64 rb, .int .i64 re, .int .i64 rg, .int .i64 rs] 61)) w.heap.size v ((l.take k).map FIt.cnt) := World.ownsRow.alloc hY _
        have hBa := below_al hBr (.cells #[.int .i64 rb, .int .i64 re, .int .i64 rg, .int .i64 rs] 61)
        have Ka := Kr.alloc (.cells #[.int .i64 rb, .int .i64 re, .int .i64 rg, .int .i64 rs] 61)
        have Kaz := Kz.alloc (.cells #[.int .i64 rb, .int .i64 re, .int .i64 rg, .int .i64 rs] 61)
        have Kaf := Kf.alloc (.cells #[.int .i64 rb, .int .i64 re, .int .i64 rg, .int .i64 rs] 61)
        have hlea := hBa.size
        clear hrk hab hr
        generalize cnt rb 1099511627776 = xb at *
        generalize cnt re 1099511627776 = xe at *
        generalize cnt rg 6400 = xg at *
        generalize cnt rs 6400 = xs at *
        go_wp2
        have Kx := Blk.new wr 61 #[.int .i64 rb, .int .i64 re, .int .i64 rg, .int .i64 rs]
        have nx : some wr.heap.size ≠ v.ownBlock := fun e => by have := (World.ownsRow.lt hY _ e.symm).2; omega
        have hSk : ∀ w', Blk w' g 82 #[.bool false, v, .int .i64 room, .slice (some ⟨gz, 0, none⟩) n n, .slice (some ⟨gf, 0, none⟩) n n] → Blk w' wr.heap.size 61 #[.int .i64 rb, .int .i64 re, .int .i64 rg, .int .i64 rs] → (w'.cell? ⟨g, 1, none⟩ = some v ∧ w'.cell? ⟨wr.heap.size, 0, none⟩ = some (.int .i64 rb) ∧ w'.cell? ⟨wr.heap.size, 1, none⟩ = some (.int .i64 re) ∧ w'.cell? ⟨wr.heap.size, 2, none⟩ = some (.int .i64 rg) ∧ w'.cell? ⟨wr.heap.size, 3, none⟩ = some (.int .i64 rs)) := fun w' k1 k2 => ⟨k1.cell 1, blk4 k2⟩
        refine region_last (m := 18) (S := fun w' => w'.cell? ⟨g, 1, none⟩ = some v ∧ w'.cell? ⟨wr.heap.size, 0, none⟩ = some (.int .i64 rb) ∧ w'.cell? ⟨wr.heap.size, 1, none⟩ = some (.int .i64 re) ∧ w'.cell? ⟨wr.heap.size, 2, none⟩ = some (.int .i64 rg) ∧ w'.cell? ⟨wr.heap.size, 3, none⟩ = some (.int .i64 rs)) (by kernel_rfl) rfl (by kernel_rfl) ?_ (fun hHeld => ?_)
        · exact hSk _ Ka.drew Kx.drew
        refine held_take (i := 0) (v := ?_) rfl (by kernel_rfl) (fun _ _ _ h => h) rfl (by assumption) ?_ ?_
        rotate_left
        · intro w9 hSw; (try dsimp only at hSw); (try go_split_ands); go_simp; (try with_reducible rfl)
        (try simp only [Act.put]); (try simp only [List.setIfInBounds_toArray]); (try simp only [List.set_cons_succ]); (try simp only [List.set_cons_zero])
        refine held_take (i := 1) (v := ?_) rfl (by kernel_rfl) (fun _ _ _ h => h) rfl (by assumption) ?_ ?_
        rotate_left
        · intro w9 hSw; (try dsimp only at hSw); (try go_split_ands); go_simp; (try with_reducible rfl)
        (try simp only [Act.put]); (try simp only [List.setIfInBounds_toArray]); (try simp only [List.set_cons_succ]); (try simp only [List.set_cons_zero])
        refine held_take (i := 2) (v := ?_) rfl (by kernel_rfl) (fun _ _ _ h => h) rfl (by assumption) ?_ ?_
        rotate_left
        · intro w9 hSw; (try dsimp only at hSw); (try go_split_ands); go_simp; (try with_reducible rfl)
        (try simp only [Act.put]); (try simp only [List.setIfInBounds_toArray]); (try simp only [List.set_cons_succ]); (try simp only [List.set_cons_zero])
        refine held_take (i := 3) (v := ?_) rfl (by kernel_rfl) (fun _ _ _ h => h) rfl (by assumption) ?_ ?_
        rotate_left
        · intro w9 hSw; (try dsimp only at hSw); (try go_split_ands); go_simp; (try with_reducible rfl)
        (try simp only [Act.put]); (try simp only [List.setIfInBounds_toArray]); (try simp only [List.set_cons_succ]); (try simp only [List.set_cons_zero])
        refine held_take (i := 5) (v := ?_) rfl (by kernel_rfl) (fun _ _ _ h => h) rfl (by assumption) ?_ ?_
        rotate_left
        · intro w9 hSw; (try dsimp only at hSw); (try go_split_ands); go_simp; (try with_reducible rfl)
        (try simp only [Act.put]); (try simp only [List.setIfInBounds_toArray]); (try simp only [List.set_cons_succ]); (try simp only [List.set_cons_zero])
        refine held_take (i := 6) (v := ?_) rfl (by kernel_rfl) (fun _ _ _ h => h) rfl (by assumption) ?_ ?_
        rotate_left
        · intro w9 hSw; (try dsimp only at hSw); (try go_split_ands); go_simp; (try with_reducible rfl)
        (try simp only [Act.put]); (try simp only [List.setIfInBounds_toArray]); (try simp only [List.set_cons_succ]); (try simp only [List.set_cons_zero])
        refine held_take (i := 8) (v := ?_) rfl (by kernel_rfl) (fun _ _ _ h => h) rfl (by assumption) ?_ ?_
        rotate_left
        · intro w9 hSw; (try dsimp only at hSw); (try go_split_ands); go_simp; (try with_reducible rfl)
        (try simp only [Act.put]); (try simp only [List.setIfInBounds_toArray]); (try simp only [List.set_cons_succ]); (try simp only [List.set_cons_zero])
        refine held_take (i := 9) (v := ?_) rfl (by kernel_rfl) (fun _ _ _ h => h) rfl (by assumption) ?_ ?_
        rotate_left
        · intro w9 hSw; (try dsimp only at hSw); (try go_split_ands); go_simp; (try with_reducible rfl)
        (try simp only [Act.put]); (try simp only [List.setIfInBounds_toArray]); (try simp only [List.set_cons_succ]); (try simp only [List.set_cons_zero])
        refine held_take (i := 11) (v := ?_) rfl (by kernel_rfl) (fun _ _ _ h => h) rfl (by assumption) ?_ ?_
        rotate_left
        · intro w9 hSw; (try dsimp only at hSw); (try go_split_ands); go_simp; (try with_reducible rfl)
        (try simp only [Act.put]); (try simp only [List.setIfInBounds_toArray]); (try simp only [List.set_cons_succ]); (try simp only [List.set_cons_zero])
        refine held_take (i := 12) (v := ?_) rfl (by kernel_rfl) (fun _ _ _ h => h) rfl (by assumption) ?_ ?_
        rotate_left
        · intro w9 hSw; (try dsimp only at hSw); (try go_split_ands); go_simp; (try with_reducible rfl)
        (try simp only [Act.put]); (try simp only [List.setIfInBounds_toArray]); (try simp only [List.set_cons_succ]); (try simp only [List.set_cons_zero])
        refine wpAnyH_ready (rs := [4]) (by kernel_rfl) (by simp) ?_
        refine AllReadyH.cons rfl (fun K hK => ?_) AllReadyH.nil
        go_simp
        go_at_call 62; (with_reducible refine (u1 _).mono ?_); rintro e wb ⟨rfl, rfl⟩
        refine hK.out _ _ (by assumption) (fun hHeld => ?_)
        clear hK K
        (try simp only [Act.put]); (try simp only [List.setIfInBounds_toArray]); (try simp only [List.set_cons_succ]); (try simp only [List.set_cons_zero])
        refine wpAnyH_ready (rs := [7]) (by kernel_rfl) (by simp) ?_
        refine AllReadyH.cons rfl (fun K hK => ?_) AllReadyH.nil
        go_simp
        go_at_call 62; (with_reducible refine (u2 _).mono ?_); rintro e wb ⟨rfl, rfl⟩
        refine hK.out _ _ (by assumption) (fun hHeld => ?_)
        clear hK K
        (try simp only [Act.put]); (try simp only [List.setIfInBounds_toArray]); (try simp only [List.set_cons_succ]); (try simp only [List.set_cons_zero])
        refine wpAnyH_ready (rs := [10]) (by kernel_rfl) (by simp) ?_
        refine AllReadyH.cons rfl (fun K hK => ?_) AllReadyH.nil
        go_simp
        go_at_call 62; (with_reducible refine (u3 _).mono ?_); rintro e wb ⟨rfl, rfl⟩
        refine hK.out _ _ (by assumption) (fun hHeld => ?_)
        clear hK K
        (try simp only [Act.put]); (try simp only [List.setIfInBounds_toArray]); (try simp only [List.set_cons_succ]); (try simp only [List.set_cons_zero])
        refine wpAnyH_ready (rs := [13]) (by kernel_rfl) (by simp) ?_
        refine AllReadyH.cons rfl (fun K hK => ?_) AllReadyH.nil
        go_simp
        go_at_call 62; (with_reducible refine (u4 _).mono ?_); rintro e wb ⟨rfl, rfl⟩
        refine hK.out _ _ (by assumption) (fun hHeld => ?_)
        clear hK K
        (try simp only [Act.put]); (try simp only [List.setIfInBounds_toArray]); (try simp only [List.set_cons_succ]); (try simp only [List.set_cons_zero])
        refine held_take (i := 14) (v := ?_) rfl (by kernel_rfl) (fun _ _ _ h => h) rfl (by assumption) ?_ ?_
        rotate_left
        · intro w9 hSw; (try dsimp only at hSw); (try go_split_ands); go_simp; (try with_reducible rfl)
        (try simp only [Act.put]); (try simp only [List.setIfInBounds_toArray]); (try simp only [List.set_cons_succ]); (try simp only [List.set_cons_zero])
        refine wpAnyH_ready (rs := [15]) (by kernel_rfl) (by simp) ?_
        refine AllReadyH.cons rfl (fun K hK => ?_) AllReadyH.nil
        go_simp
        refine hK.out _ _ (hSk _ (Ka.drew.alloc _) (Kx.drew.alloc _)) (fun hHeld => ?_)
        clear hK K
        (try simp only [Act.put]); (try simp only [List.setIfInBounds_toArray]); (try simp only [List.set_cons_succ]); (try simp only [List.set_cons_zero])
        refine wpAnyH_ready (rs := [16]) (by kernel_rfl) (by simp) ?_
        refine AllReadyH.cons rfl (fun K hK => ?_) AllReadyH.nil
        refine step_ItsO _ (by rfl) (.tmp 23) (.tmp 37) (by rfl) w.heap.size v ((l.take k).map FIt.cnt) ⟨xb, xe, xg, xs⟩ (by rfl) (World.ownsRow.drew hYa) (wr.heap.size + 1) _ (size_al wr _) (by rfl) hol hlea ?_; intro v' w' hY' hg
        have K' := (Ka.drew.alloc _).grown hg (fun e => nv e.symm)
        have Kx' := (Kx.drew.alloc _).grown hg nx
        have Kz' := (Kaz.drew.alloc _).grown hg (fun e => nvz e.symm)
        have Kf' := (Kaf.drew.alloc _).grown hg (fun e => nvf e.symm)
        have hB' := below_own hBa.drew (World.ownsRow.drew hYa) hg
        refine hK.out _ _ (hSk _ K' Kx') (fun hHeld => ?_)
        clear hK K
        (try simp only [Act.put]); (try simp only [List.setIfInBounds_toArray]); (try simp only [List.set_cons_succ]); (try simp only [List.set_cons_zero])
        refine held_take (i := 17) (v := ?_) rfl (by kernel_rfl) (fun _ _ _ h => h) rfl (by assumption) ?_ ?_
        rotate_left
        · intro w9 hSw; (try dsimp only at hSw); (try go_split_ands); go_simp; (try with_reducible rfl)
        (try simp only [Act.put]); (try simp only [List.setIfInBounds_toArray]); (try simp only [List.set_cons_succ]); (try simp only [List.set_cons_zero])
        refine wpAnyH_done (by kernel_rfl) ?_ _
        simp only [beforeLast]
        have f1 := K'.frozen 1
        have c1' := K'.cell 1
        have nv' := own_blk_ne (t := 82) hY' K' (by decide)
        obtain ⟨A1, m1, c1v, rfl⟩ := own_slice hY'
        have hgz : gz ≠ g := Kz'.ne_ K' (by decide)
        have hgf : gf ≠ g := Kf'.ne_ K' (by decide)
        have hB2 := below_set hB' (p := ⟨g, 1, none⟩) g1 (.slice A1 m1 c1v)
        have K2 := K'.set_ 1 (.slice A1 m1 c1v)
        have Kz2 := Kz'.far (p := ⟨g, 1, none⟩) hgz (.slice A1 m1 c1v)
        have Kf2 := Kf'.far (p := ⟨g, 1, none⟩) hgf (.slice A1 m1 c1v)
        have hY2 := ownsRow_setCell_other hY' (a := ⟨g, 1, none⟩) nv' (.slice A1 m1 c1v)
        clear hY hYa hBa Ka Kaz Kaf Kx hSk hHeld Kr Kz Kf hg
        go_wp2
        go_roundw
        case rel =>
          rw [← HT.out] at hY2
          exact ⟨k + 1, .slice A1 m1 c1v, by omega, by go_num, hB2, K2, Kz2, Kf2, hY2⟩
        case measure => simp [intOf]; omega
      · obtain rfl : k = n := by omega
        have htk : l.take k = l := List.take_of_length_le (by rw [HL.out]; omega)
        rw [htk] at hY
        obtain ⟨A1, c1v, rfl⟩ := own_form' hY
        go_wp2
        go_ret
        have hlm : (l.map FIt.cnt).length = k := by rw [List.length_map]; exact HL.out
        rw [hlm] at Kr
        have hI : RowB wr 61 4 A1 k (flatF (l.map FIt.cnt)) := by
          have h := RowB.of_own (c := c1v) (n := (l.map FIt.cnt).length) hY
          rwa [hlm] at h
        exact ⟨g, gz, gf, A1, c1v, rfl, ⟨Kr, hI, by rw [HZ0.out]; exact Kz, by rw [HF0.out]; exact Kf, by simp, by simp⟩, hBr, g1, g2, g3⟩
end Go.Proofs.Ytnjnkcjhhgffjaa
