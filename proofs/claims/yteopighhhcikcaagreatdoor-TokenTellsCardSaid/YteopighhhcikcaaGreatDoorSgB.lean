/- (*strings.Replacer).build over pairs whose first is one byte. Conditions: as the theorem's premises say. -/
import Derived.Test.YteopighhhcikcaaGreatDoorSgA
import Derived.Test.YteopighhhcikcaaGreatDoorTokF
import Derived.Laws.MakeOwn
import Derived.WalkSpells
import Derived.Lib.SliceRun
namespace Go.Proofs.YteopighhhcikcaaGreatDoor
open Go.ChangeShapes Go.WideShapes Go.ChangeAt Go.RowKit
namespace Sg
open Rep (TxAt)
open RowG (Row)
open Tok (Lf)
/-- A byteStringReplacer in memory. -/
def BsOk (w : World) (G : Nat) (ps : List Pr) : Prop := ∃ rep A c, Blk w G 195 (bsC rep (.slice A ps.length c)) ∧ RepOk w rep ps ∧ Row w 0 9 1 strE (.slice A ps.length c) (ps.reverse.map fun p => [p.1])
theorem idx0 (c : UInt8) (w : World) : (Instr.index 9 (.string (toB [c])) (.int .i64 0)).run Tryz.prog w = .ok (.int .u8 (c.toNat : Int)) w := by kernel_rfl
theorem lf_one (w : World) (c : UInt8) : Lf (w.alloc (.cells #[.int .u8 (c.toNat : Int)] 5)) w.heap.size 0 [c] := by
  refine ⟨by rw [size_al]; exact Nat.lt_succ_self _, fun j d hj => ?_⟩
  match j, hj with
  | 0, hj =>
    obtain rfl := Option.some.inj hj
    exact (Blk.new w 5 #[.int .u8 (c.toNat : Int)]).cell 0
theorem size_set (w : World) (p : Addr) (v : Value) : (w.setCell p v).heap.size = w.heap.size := by simp
set_option maxRecDepth 100000 in
set_option maxHeartbeats 8000000 in
theorem build_any (ps : List Pr) (h2 : 2 ≤ ps.length) (h10 : ps.length ≤ 10) (hd : (ps.map (·.1)).Nodup) (hn : ∀ p ∈ ps, 2 ≤ p.2.length ∧ p.2.length ≤ 100) (b q cap : Nat) (w : World)
    (K : Blk w b 130 #[.int .u32 0, .int .i32 1, .int .u32 0, .nilIface, .slice (some ⟨q, 0, none⟩) (flat ps).length cap]) (hx : TxAt w q (flat ps)) :
    Calls Tryz.prog 126 #[.pointer (some ⟨b, 0, none⟩)] w fun e w' => (∃ G, e = .returned (.iface 196 (.pointer (some ⟨G, 0, none⟩))) ∧ w.heap.size ≤ G ∧ BsOk w' G ps) ∧ Below w.heap.size w w' := by
  have k4 := K.cell 4
  have hN := flat_len ps
  obtain ⟨N, hNe⟩ : ∃ N, N = (flat ps).length := ⟨_, rfl⟩
  rw [← hNe] at k4 K hN
  have n4 : ((N : Int) == 2) = false := by rw [beq_eq_false_iff_ne]; omega
  obtain ⟨i0, hi0, hz0, hz1, hz2⟩ := Rep.str_info'
  obtain ⟨w1, hmk, hown, hgr⟩ := run_make_own (P := Tryz.prog) (w := w) w.heap.size 87 9 i0 _ 1 Tryz.underlying87 hi0 hz0 hz1 .i64 .i64 ps.length (by rw [hz2]; omega) (by simp only [maxLen]; omega) (Nat.le_refl _)
  obtain ⟨m, hm⟩ : ∃ m, m = ps.length := ⟨_, rfl⟩
  rw [show ((ps.length : Nat) : Int) = (N : Int) / 2 by omega, ← hm] at hmk
  have hB1 : Below w.heap.size w w1 := (Below.refl _ _).grown hgr (Nat.le_refl _) (fun k hk => by cases hk)
  have hrow1 : Row w1 w.heap.size 9 1 strE (.slice (some ⟨w.heap.size, 0, none⟩) 0 m) [] := by rw [← hm] at hown; exact hown
  have h1 : N ≤ 2 * m := by omega
  have h1' : 2 * m ≤ N := by omega
  have h2' : 2 ≤ m := by omega
  have h3' : m ≤ 10 := by omega
  have HM := Lib.hid hm
  have hz := fun w => zero_bs w
  clear hNe hN hown hgr hi0 hz0 hz1 hz2 hm h2 h10
  go_enter Tryz.func126, Tryz.ntmps126
  go_wp2
  go_loop [4, 5] (fun av iv => ∃ (j i : Nat), i ≤ N ∧ Hid (i = 2 * j) ∧ iv = .int .i64 i ∧ ((j = 0 ∧ av = .bool true) ∨ (0 < j ∧ av = .bool false))) (fun _ iv => N - (intOf iv).toNat)
  case atStart => exact ⟨0, 0, Nat.zero_le _, rfl, rfl, .inl ⟨rfl, rfl⟩⟩
  case round =>
    obtain ⟨j, i, hi, HI, rfl, hav⟩ := hrel
    have i0 : (0 : Int) ≤ (i : Int) := Int.natCast_nonneg _
    by_cases hlt : i < N
    · have hI := HI.out
      have hjm : j < ps.length := by rw [← HM.out]; omega
      have hj := List.getElem?_eq_getElem hjm
      obtain ⟨f0, f1⟩ := flat_at ps j _ hj
      have hnp := hn _ (List.getElem_mem hjm)
      generalize ps[j] = p at *
      have x0 := hx.at_ f0
      have x1 := hx.at_ f1
      rw [← hI] at x0 x1
      have hlt1 : i + 1 < N := by omega
      have s0 : (toB [p.1]).size = 1 := rfl
      have s1 : (toB p.2).size = p.2.length := toB_size _
      have t1 : (((toB p.2).size : Int) != 1) = true := by rw [bne_iff_ne, s1]; omega
      have HI2 : Hid (i + 2 = 2 * (j + 1)) := by show _ = _; omega
      clear hI HI f0 f1 s1 hnp
      generalize toB [p.1] = ta at *
      generalize toB p.2 = tb at *
      rcases hav with ⟨-, rfl⟩ | ⟨-, rfl⟩
      all_goals
        go_wp2
        go_round
        case rel => exact ⟨j + 1, i + 2, by omega, HI2, by go_num, .inr ⟨Nat.succ_pos _, rfl⟩⟩
        case measure => simp [intOf]; omega
    · have hI := HI.out
      obtain rfl : i = N := by omega
      have hj : 0 < j := by omega
      obtain rfl : u4 = .bool false := by
        rcases hav with ⟨h, -⟩ | ⟨-, h⟩
        · omega
        · exact h
      clear hav hI HI hj
      go_wp2_with (with_reducible refine wpList_build_to rfl 195 _ rfl (bsC (fun _ => .slice none 0 0) (.slice (some ⟨w.heap.size, 0, none⟩) 0 m)) ?_ ?_; focus (kernel_rfl))
      have K0 := Blk.new w1 195 (bsC (fun _ => .slice none 0 0) (.slice none 0 0))
      have hst := store_bs _ w1.heap.size K0 rfl (some ⟨w.heap.size, 0, none⟩) 0 m
      rw [hst]
      have KG := setRow_blk (cells := bsC (fun _ => .slice none 0 0) (.slice (some ⟨w.heap.size, 0, none⟩) 0 m)) K0
      have hBG := below_setRow (below_al hB1 (.cells (bsC (fun _ => .slice none 0 0) (.slice none 0 0)) 195)) hB1.size (bsC (fun _ => .slice none 0 0) (.slice (some ⟨w.heap.size, 0, none⟩) 0 m))
      have hrowG : Row ((w1.alloc (.cells (bsC (fun _ => .slice none 0 0) (.slice none 0 0)) 195)).setRow w1.heap.size (bsC (fun _ => .slice none 0 0) (.slice (some ⟨w.heap.size, 0, none⟩) 0 m))) w.heap.size 9 1 strE (.slice (some ⟨w.heap.size, 0, none⟩) 0 m) [] := row_setRow (hrow1.alloc _) K0 (by decide)
      have hGw := hB1.size
      have hxG : TxAt ((w1.alloc (.cells (bsC (fun _ => .slice none 0 0) (.slice none 0 0)) 195)).setRow w1.heap.size (bsC (fun _ => .slice none 0 0) (.slice (some ⟨w.heap.size, 0, none⟩) 0 m))) q (flat ps) := hx.next hBG
      clear hst K0 hmk hB1 hrow1 hz K k4
      generalize (w1.alloc (.cells (bsC (fun _ => .slice none 0 0) (.slice none 0 0)) 195)).setRow w1.heap.size (bsC (fun _ => .slice none 0 0) (.slice (some ⟨w.heap.size, 0, none⟩) 0 m)) = W at *
      generalize w1.heap.size = G at *
      have hrep := repOk_nil W
      generalize hr0 : (fun _ : Nat => Value.slice none 0 0) = rep0 at *
      clear hr0
      go_wp2
      rw [show (i : Int) - 2 = 2 * (m : Int) - 2 by omega]
      have HD := Lib.hid hd
      have HNP := Lib.hid hn
      clear hd hn
      go_loopw [12] (fun iv wr => ∃ (j : Nat) (rep : Nat → Value) (v : Value), j ≤ m ∧ iv = .int .i64 (2 * (j : Int) - 2) ∧ Blk wr G 195 (bsC rep v) ∧ RepOk wr rep (ps.drop j) ∧ Row wr w.heap.size 9 1 strE v ((ps.drop j).reverse.map fun p => [p.1]) ∧ TxAt wr q (flat ps) ∧ Below w.heap.size w wr) (fun iv _ => (intOf iv + 2).toNat)
      case atStart =>
        have hdm : ps.drop m = [] := List.drop_of_length_le (by rw [← HM.out]; exact Nat.le_refl _)
        exact ⟨m, rep0, _, Nat.le_refl _, rfl, KG, by rw [hdm]; exact hrep, by rw [hdm]; exact hrowG, hxG, hBG⟩
      case round =>
        obtain ⟨j, rep, v, hj, rfl, Kr, hRr, hrow, hxr, hBr⟩ := hrel
        clear KG hrep hrowG hxG hBG
        cases j with
        | zero =>
          obtain ⟨A, c, rfl⟩ := hrow.form
          go_wp2
          go_ret
          have hlk : (List.map (fun p : Pr => [p.1]) (ps.drop 0).reverse).length = ps.length := by simp
          rw [hlk] at Kr hrow
          refine ⟨⟨G, rfl, hGw, rep, A, c, Kr, hRr, ?_⟩, hBr⟩
          exact Tok.row_le hrow (Nat.zero_le _)
        | succ n =>
          have hnm : n < ps.length := by rw [← HM.out]; omega
          obtain ⟨p, hp⟩ : ∃ p, ps[n]? = some p := ⟨_, List.getElem?_eq_getElem hnm⟩
          have hdn : ps.drop n = p :: ps.drop (n + 1) := by
            rw [List.drop_eq_getElem_cons hnm]
            rw [List.getElem?_eq_getElem hnm] at hp
            rw [Option.some.inj hp]
          obtain ⟨f0, f1⟩ := flat_at ps n p hp
          have x0 := hxr.at_ f0
          have x1 := hxr.at_ f1
          have hpn := HNP.out p (List.mem_of_getElem? hp)
          have hno : look (ps.drop (n + 1)) p.1 = none := by
            refine look_none (fun hm => ?_)
            have h := HD.out
            rw [← List.take_append_drop n ps, hdn, List.map_append, List.map_cons, List.nodup_append] at h
            exact (List.nodup_cons.1 h.2.1).1 hm
          have hr0 : rep p.1.toNat = .slice none 0 0 := by
            have := hRr p.1
            rw [hno] at this
            exact this
          have hlt := p.1.toNat_lt
          have ko := Kr.cell p.1.toNat
          rw [bsC_at _ _ hlt, hr0] at ko
          have k256 := Kr.cell 256
          rw [bsC_tr] at k256
          have i0 := idx0 p.1
          have hN2 : 2 * n + 1 < i := by omega
          rw [show (2 * ((n + 1 : Nat) : Int) - 2) = ((2 * n : Nat) : Int) by omega]
          obtain ⟨z, hz⟩ : ∃ z, z = 2 * n := ⟨_, rfl⟩
          rw [← hz] at x0 x1 hN2 ⊢
          have HZ := Lib.hid hz
          clear hz f0 f1 hno hp
          have z0 : (0 : Int) ≤ (z : Int) := Int.natCast_nonneg _
          have z1 : z < i := by omega
          obtain ⟨A, c, rfl⟩ := hrow.form
          have hlen : (List.map (fun p : Pr => [p.1]) (ps.drop (n + 1)).reverse).length ≤ 10 := by
            rw [List.length_map, List.length_reverse, List.length_drop]
            have := HM.out
            omega
          have hl1 := lf_one wr p.1
          have htx := Tok.textV hl1 1 1 (Nat.le_refl _)
          rw [show ([p.1] : List UInt8).take 1 = [p.1] from rfl] at htx
          have hnc := RowG.new_cells (wr.alloc (.cells #[.int .u8 (p.1.toNat : Int)] 5)) 9 (strE [p.1])
          have hrow3 := (hrow.alloc (.cells #[.int .u8 (p.1.toNat : Int)] 5)).alloc (.cells (strE [p.1]).toArray 9)
          have hB3 := below_al (below_al hBr (.cells #[.int .u8 (p.1.toNat : Int)] 5)) (.cells (strE [p.1]).toArray 9)
          have K3 := (Kr.alloc (.cells #[.int .u8 (p.1.toNat : Int)] 5)).alloc (.cells (strE [p.1]).toArray 9)
          have hne3 := own_blk_ne hrow3 K3 (by decide)
          rw [size_al] at hnc
          have heq := fun w a n c => Lib.run_eql_slice_nil (P := Tryz.prog) w 74 5 a n c 0 0 Tryz.underlying74
          have hcvt := fun wx => run_bytesT p.2 wx
          have hGr := Kr.lt
          have y0 : (0 : Int) ≤ (p.1.toNat : Int) := Int.natCast_nonneg _
          have y1 : (p.1.toNat : Int) < 256 := by omega
          have HKS : Hid ((List.map (fun p : Pr => [p.1]) (ps.drop n).reverse) = (List.map (fun p : Pr => [p.1]) (ps.drop (n + 1)).reverse) ++ [[p.1]]) := by show _ = _; rw [hdn]; simp
          generalize (List.map (fun p : Pr => [p.1]) (ps.drop (n + 1)).reverse) = ks at *
          go_wp2_with (first
            | (refine RowG.wpList_more _ (by rfl) _ _ 87 (by rfl) 9 strE 1 16 _ Rep.str_info Tryz.underlying87 rfl (by decide) strE_len strE_one w.heap.size _ ks [p.1] (by rfl) (wr.heap.size + 1) _ (by rfl) hrow3 hnc (by simp only [maxLen]; omega) (by omega) hB3.size ?_
               intro v5 w5 hrow5 hg5 ho5
               obtain ⟨A5, c5, hv5⟩ := hrow5.form
               generalize (ks ++ [[p.1]]).length = M5 at hv5
               subst hv5
               have K5 := K3.grown hg5 (fun e => hne3 e.symm)
               have k5 := K5.cell 256
               have f5 := K5.frozen 256
               rw [bsC_tr] at k5
               have K6 := K5.set_ 256 (.slice A5 M5 c5)
               rw [bsC_setT] at K6
               have hR6 : RepOk (w5.setCell ⟨G, 256, none⟩ (.slice A5 M5 c5)) rep (ps.drop (n + 1)) := hRr.next (fun g l h => by
                 have h1 := ((h.next (below_al (Below.refl _ _) (.cells #[.int .u8 (p.1.toNat : Int)] 5))).next (below_al (Below.refl _ _) (.cells (strE [p.1]).toArray 9))).grown hrow3 (by decide) hg5
                 exact h1.far (p := ⟨G, 256, none⟩) (h1.ne K5 (by decide)) _)
               have hrow6 := ownsRow_setCell_other hrow5 (a := ⟨G, 256, none⟩) (own_blk_ne hrow5 K5 (by decide)) (.slice A5 M5 c5)
               have hB6 := below_set (RowG.below_row hB3 hrow3 hg5) (p := ⟨G, 256, none⟩) hGw (.slice A5 M5 c5)
               obtain ⟨w7, c7, hrun7, hc7, hL7, hB7, hz7⟩ := run_bytesT p.2 (w5.setCell ⟨G, 256, none⟩ (.slice A5 M5 c5))
               rw [size_set] at hrun7 hL7
               have K7 := K6.next hB7
               have k7 := K7.cell p.1.toNat
               have f7 := K7.frozen p.1.toNat
               rw [bsC_at _ _ hlt, hr0] at k7))
          have K8 := K7.set_ p.1.toNat (.slice (some ⟨w5.heap.size, 0, none⟩) p.2.length c7)
          rw [bsC_set _ _ _ hlt] at K8
          have hB8 := below_set (below_next hB6 hB7) (p := ⟨G, p.1.toNat, none⟩) hGw (.slice (some ⟨w5.heap.size, 0, none⟩) p.2.length c7)
          have hR8 : RepOk (w7.setCell ⟨G, p.1.toNat, none⟩ (.slice (some ⟨w5.heap.size, 0, none⟩) p.2.length c7)) (updV rep p.1.toNat (.slice (some ⟨w5.heap.size, 0, none⟩) p.2.length c7)) (p :: ps.drop (n + 1)) :=
            RepOk.cons (hR6.next (fun g l h => by
              have h1 := h.next hB7
              exact h1.far (p := ⟨G, p.1.toNat, none⟩) (h1.ne K7 (by decide)) _)) hc7 (hL7.far (p := ⟨G, p.1.toNat, none⟩) (hL7.ne K7 (by decide)) _)
          have hrow7 := RowG.Row.below (l := ks ++ [[p.1]]) (enc := strE) hrow6 hB7
          have hrow8 := ownsRow_setCell_other hrow7 (a := ⟨G, p.1.toNat, none⟩) (own_blk_ne hrow7 K7 (by decide)) (.slice (some ⟨w5.heap.size, 0, none⟩) p.2.length c7)
          go_roundw
          case rel => exact ⟨n, _, _, by omega, by rw [HZ.out]; go_num, K8, by rw [hdn]; exact hR8, by rw [HKS.out]; exact hrow8, hx.next hB8, hB8⟩
          case measure => simp [intOf]; omega
end Sg
end Go.Proofs.YteopighhhcikcaaGreatDoor
