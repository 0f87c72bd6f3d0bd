/- (*strings.byteStringReplacer).Replace over pairs whose first is one byte. Conditions: as the theorem's premises say. -/
import Derived.Test.YteopighhhcikcaaGreatDoorSgB
import Derived.Test.YteopighhhcikcaaGreatDoorSgM
import Derived.Laws.CopyOwn
import Derived.Deep.RegionLaw
import Derived.RegionTactic
import Derived.Deep.QuietTactic
import Derived.BigQuiet
namespace Go.Proofs.YteopighhhcikcaaGreatDoor
open Go.ChangeShapes Go.WideShapes Go.ChangeAt Go.RowKit
namespace Sg
open RowG (Row)
/-- The buffer's cells: what is written, and noughts. -/
def bufL (a : List UInt8) (r : Nat) : List Value := a.map bv ++ List.replicate r (.int .u8 0)
theorem bufL_len (a : List UInt8) (r : Nat) : (bufL a r).length = a.length + r := by unfold bufL; simp
theorem bufL_at (a : List UInt8) (r : Nat) : (bufL a (r + 1))[a.length]? = some (.int .u8 0) := by
  unfold bufL
  rw [List.getElem?_append_right (by simp)]
  simp
theorem bufL_set (a : List UInt8) (r : Nat) (c : UInt8) : (bufL a (r + 1)).set a.length (bv c) = bufL (a ++ [c]) r := by
  unfold bufL
  rw [List.set_append_right _ _ (by simp)]
  simp [List.replicate_succ]
theorem bufL_splice (a b : List UInt8) (r : Nat) : splice (bufL a (b.length + r)) a.length (b.map bv) = bufL (a ++ b) r := by
  unfold splice bufL
  rw [List.take_left' (by simp), List.length_map, List.map_append, List.append_assoc]
  congr 2
  rw [List.drop_append]
  simp
theorem bv_one (a : List UInt8) : ∀ v ∈ a.map bv, v.oneCell' = true := by
  intro v hv
  obtain ⟨c, -, rfl⟩ := List.mem_map.1 hv
  rfl
theorem bufL_lf {w : World} {g : Nat} {a : List UInt8} (K : Blk w g 5 (bufL a 0).toArray) : Tok.Lf w g 0 a := by
  refine ⟨K.lt, fun j c hc => ?_⟩
  rw [Nat.zero_add, K.cell j]
  unfold bufL
  rw [List.getElem?_toArray, List.replicate_zero, List.append_nil, List.getElem?_map, hc]
  rfl
set_option maxRecDepth 100000 in
theorem cutl_run (g N j : Nat) (hj : j < N) (w : World) : (Instr.slice 74 (.slice (some ⟨g, 0, none⟩) N N) (some (.int .i64 j)) none none).run Tryz.prog w = .ok (.slice (some ⟨g, j, none⟩) (N - j) (N - j)) w := by
  have h1 := run_slice_l (P := Tryz.prog) (w := w) (t := 74) (a := some ⟨g, 0, none⟩) (len := N) (cap := N) Tryz.underlying74 .i64 j (by omega) (by omega)
  have hs : ∀ w, (sizeOf (Tryz.prog.elem 74)).run Tryz.prog w = .ok 1 w := fun w => by kernel_rfl
  rw [h1, hs]
  have : ¬ N = j := by omega
  simp [Result.andThen, sliced, Addr.add, this]
  intro h; exact h.symm
set_option maxRecDepth 100000 in
set_option maxHeartbeats 8000000 in
theorem repl_any (ps : List Pr) (h2 : 2 ≤ ps.length) (h10 : ps.length ≤ 10) (hd : (ps.map (·.1)).Nodup) (hn : ∀ p ∈ ps, 2 ≤ p.2.length ∧ p.2.length ≤ 100) (l : List UInt8) (hl : l.length ≤ 100000) (G : Nat) (w : World) (hG : BsOk w G ps) :
    Calls Tryz.prog 220 #[.pointer (some ⟨G, 0, none⟩), .string (toB l)] w fun e w' => e = .returned (.string (toB (subL ps l))) ∧ Below w.heap.size w w' := by
  obtain ⟨rep, A, cA, KG, hR, hTr⟩ := hG
  have hTr := hTr.reads.1
  rw [List.length_map, List.length_reverse, ← strs_flat] at hTr
  have hz : (toB l).size = l.length := toB_size l
  have hrl : ∀ c, 1 ≤ (rL ps c).length ∧ (rL ps c).length ≤ 100 := by
    intro c
    cases hc : look ps c with
    | none => rw [(rL_miss hc).1]; exact ⟨Nat.le_refl _, by show 1 ≤ 100; decide⟩
    | some n => rw [(rL_hit hc).1]; have := hn _ (look_mem hc); simp only at this; omega
  have hsl := subL_len ps hrl l
  have HRL := Lib.hid hrl
  have HD := Lib.hid hd
  have k256 := KG.cell 256
  rw [bsC_tr] at k256
  obtain ⟨m, hm⟩ : ∃ m, m = ps.length := ⟨_, rfl⟩
  rw [← hm] at k256 KG hTr h2 h10
  have HM := Lib.hid hm
  obtain ⟨N, hNe⟩ : ∃ N, N = (subL ps l).length := ⟨_, rfl⟩
  rw [← hNe] at hsl
  have HN := Lib.hid hNe
  obtain ⟨any, hany⟩ : ∃ any, any = l.any (hitB ps) := ⟨_, rfl⟩
  have HA := Lib.hid hany
  obtain ⟨s, hs⟩ : ∃ s, s = toB l := ⟨_, rfl⟩
  rw [← hs] at hz ⊢
  have HS := Lib.hid hs
  clear hm hNe hany hs hd hrl hn
  go_enter Tryz.func220, Tryz.ntmps220
  go_upto_if 26 with (fail)
  go_cut [5, 6] (fun s5 s6 wx => s5 = .int .i64 N ∧ s6 = .bool any ∧ Below w.heap.size w wx)
  case first =>
    have w0r : ∀ W, Below w.heap.size w W → Blk W G 195 (bsC rep (.slice A m cA)) ∧ RepOk W rep ps ∧ Reads W w.heap.size 1 A m (strs (ps.reverse.map fun p => [p.1])) := fun W hB => ⟨KG.next hB, hR.next (fun _ _ h => h.next hB), hTr.below hB⟩
    have HW := Lib.hid w0r
    clear hTr w0r hR KG
    have hidx := fun c w => idx0 c w
    by_cases hb : m * 8 ≤ l.length
    · have hb' : (m : Int) * 8 ≤ (l.length : Int) := by omega
      obtain ⟨ks, hks⟩ : ∃ ks, ks = ps.reverse.map (·.1) := ⟨_, rfl⟩
      have hkl : ks.length = m := by rw [hks, List.length_map, List.length_reverse]; exact HM.out.symm
      have hkat : ∀ (k : Nat) (c : UInt8), ks[k]? = some c → (strs (ps.reverse.map fun p => [p.1]))[k]? = some (.string (toB [c])) := by
        intro k c hc
        rw [hks, List.getElem?_map] at hc
        unfold strs
        rw [List.getElem?_map, List.getElem?_map]
        cases hp : ps.reverse[k]? with
        | none => rw [hp] at hc; cases hc
        | some p =>
          rw [hp] at hc
          injection hc with hc
          subst hc
          rfl
      have hkn : ks.Nodup := by rw [hks, List.map_reverse]; exact List.pairwise_reverse.2 (List.Pairwise.imp (fun h e => h e.symm) HD.out)
      have hkm : ∀ c, c ∈ ks ↔ hitB ps c = true := by
        intro c
        rw [hks]
        constructor
        · intro h
          refine look_some ?_
          rw [List.map_reverse] at h
          exact List.mem_reverse.1 h
        · intro h
          unfold hitB at h
          cases hc : look ps c with
          | none => rw [hc] at h; cases h
          | some n => exact List.mem_map.2 ⟨(c, n), List.mem_reverse.2 (look_mem hc), rfl⟩
      have HKL := Lib.hid hkl
      have HKA := Lib.hid hkat
      have HKN := Lib.hid hkn
      have HKM := Lib.hid hkm
      clear hkl hkat hkn hkm hks hb
      rw [show decide ((m : Int) * 8 ≤ (l.length : Int)) = true from decide_eq_true hb']
      go_wp2
      go_loopw [5, 6, 32] (fun a b i wr => ∃ k : Nat, k ≤ m ∧ i = .int .i64 k ∧ a = .int .i64 (szK ps (ks.take k) l : Nat) ∧ b = .bool (anyK (ks.take k) l) ∧ Below w.heap.size w wr) (fun _ _ i _ => m - (intOf i).toNat)
      case atStart => exact ⟨0, Nat.zero_le _, rfl, by rw [List.take_zero, szK_nil], by rw [List.take_zero, anyK_nil], Below.refl _ _⟩
      case round =>
        obtain ⟨k, hk, rfl, rfl, rfl, hBr⟩ := hrel
        obtain ⟨Kr, hRr, hTrr⟩ := HW.out wr hBr
        by_cases hlt : k < m
        · have hkk : k < ks.length := by rw [HKL.out]; exact hlt
          obtain ⟨c, hc⟩ : ∃ c, ks[k]? = some c := ⟨_, List.getElem?_eq_getElem hkk⟩
          obtain ⟨ad, u, rfl, -, hu, hcell⟩ := hTrr.at_ hlt
          rw [HKA.out k c hc] at hu
          obtain rfl := (Option.some.inj hu).symm
          have hcm : c ∈ ks := List.mem_of_getElem? hc
          obtain ⟨n, hln⟩ := Option.isSome_iff_exists.1 ((HKM.out c).1 hcm)
          have hcr := hRr c
          rw [hln] at hcr
          obtain ⟨g, gc, hrc, hgc, hLg⟩ := hcr
          have hlt2 := c.toNat_lt
          have ko := Kr.cell c.toNat
          rw [bsC_at _ _ hlt2, hrc] at ko
          have k256r := Kr.cell 256
          rw [bsC_tr] at k256r
          have htk : ks.take (k + 1) = ks.take k ++ [c] := by
            rw [List.take_add_one, hc]; rfl
          have hno : c ∉ ks.take k := by
            intro hm
            have h := HKN.out
            rw [← List.take_append_drop (k + 1) ks, htk, List.append_assoc, List.nodup_append] at h
            exact h.2.2 c hm c (by simp) rfl
          have hr1 := HRL.out c
          have hs1 := szK_more ps (ks.take k) c hno hr1.1 l
          have ha1 := anyK_more (ks.take k) l c
          rw [← htk] at hs1 ha1
          rw [(rL_hit hln).1] at hs1 hr1
          have hb1 := szK_le ps (ks.take k) HRL.out l
          have cc := fun w => Tryz.strings_Count_one s c w
          rw [show s.data.toList = l by rw [HS.out]; rfl] at cc
          unfold Lib.countByte at cc
          have hcnt := count_le l c
          have hx := hidx c
          obtain ⟨cnt, hcn⟩ : ∃ cnt, cnt = l.count c := ⟨_, rfl⟩
          rw [← hcn] at hcnt cc hs1 ha1
          obtain ⟨S1, hS1⟩ : ∃ S1, S1 = szK ps (ks.take (k + 1)) l := ⟨_, rfl⟩
          obtain ⟨a1, hA1⟩ : ∃ a1, a1 = anyK (ks.take (k + 1)) l := ⟨_, rfl⟩
          rw [← hS1] at hs1
          rw [← hA1] at ha1
          have HS1 := Lib.hid hS1
          have HA1 := Lib.hid hA1
          generalize szK ps (ks.take k) l = S0 at *
          generalize anyK (ks.take k) l = a0 at *
          generalize n.length = nl at *
          have k0 : (0 : Int) ≤ (k : Int) := Int.natCast_nonneg _
          have c0 : (0 : Int) ≤ (cnt : Int) := Int.natCast_nonneg _
          have tB : toB [c] = ⟨#[c]⟩ := rfl
          rw [← tB] at cc
          clear hS1 hA1 hcn htk hno hc hu hrc hln tB hcm
          by_cases hc0 : cnt = 0
          · have hc1 : ((cnt : Int) != 0) = false := by rw [bne_eq_false_iff_eq]; omega
            have HSe : Hid (S1 = S0) := by show _ = _; rw [hs1, hc0]; simp
            have HAe : Hid (a1 = a0) := by show _ = _; rw [ha1, hc0]; simp
            clear hs1 ha1 hc0
            go_wp2_with (go_at_call 222; (with_reducible refine (cc _).mono ?_); rintro e w2 ⟨rfl, rfl⟩)
            go_roundw
            case rel => exact ⟨k + 1, by omega, by go_num, by rw [← HS1.out, HSe.out], by rw [← HA1.out, HAe.out], hBr⟩
            case measure => simp [intOf]; omega
          · have hc1 : ((cnt : Int) != 0) = true := by rw [bne_iff_ne]; omega
            have HAe : Hid (a1 = true) := by show _ = _; rw [ha1, decide_eq_true (by omega)]; simp
            have hpr : cnt * (nl - 1) ≤ 10000000 := Nat.le_trans (Nat.mul_le_mul (by omega : cnt ≤ 100000) (by omega : nl - 1 ≤ 100)) (by omega)
            have hpi : (cnt : Int) * ((nl : Int) - 1) = ((cnt * (nl - 1) : Nat) : Int) := by
              rw [Int.natCast_mul]
              congr 1
              omega
            have HP := Lib.hid hpi
            have w1 : IntKind.i64.wrap ((nl : Int) - 1) = (nl : Int) - 1 := IntWalk.i64_in _ (by omega)
            have w2 : IntKind.i64.wrap ((cnt : Int) * ((nl : Int) - 1)) = (cnt : Int) * ((nl : Int) - 1) := IntWalk.i64_in _ (by rw [hpi]; omega)
            have w3 : IntKind.i64.wrap ((S0 : Int) + (cnt : Int) * ((nl : Int) - 1)) = (S0 : Int) + (cnt : Int) * ((nl : Int) - 1) := IntWalk.i64_in _ (by rw [hpi]; omega)
            have HSe := Lib.hid hs1
            clear hs1 ha1 hc0 hpi hpr
            go_wp2_with (go_at_call 222; (with_reducible refine (cc _).mono ?_); rintro e w2 ⟨rfl, rfl⟩)
            go_quiet (fail)
            go_wp2
            go_roundw
            case rel => exact ⟨k + 1, by omega, by go_num, by rw [← HS1.out, HSe.out, HP.out]; go_num, by rw [← HA1.out, HAe.out], below_dr hBr _⟩
            case measure => simp [intOf]; omega
        · obtain rfl : k = m := by omega
          have hfull : ks.take k = ks := List.take_of_length_le (by rw [HKL.out]; exact Nat.le_refl _)
          rw [hfull, szK_all ps ks (fun c hc => by
            cases hq : look ps c with
            | none => rfl
            | some n => exact absurd ((HKM.out c).2 (rL_hit hq).2) hc) l, anyK_all ps ks HKM.out l, ← HN.out, ← HA.out]
          clear hfull
          go_wp2
          go_meet
          exact ⟨rfl, rfl, hBr⟩
    · have hb' : decide ((m : Int) * 8 ≤ (l.length : Int)) = false := decide_eq_false (by omega)
      rw [hb']
      clear hb
      go_wp2
      go_loopw [5, 6, 10] (fun a b i wr => ∃ k : Nat, k ≤ l.length ∧ i = .int .i64 k ∧ a = .int .i64 ((subL ps (l.take k)).length + (l.length - k) : Nat) ∧ b = .bool ((l.take k).any (hitB ps)) ∧ wr = w) (fun _ _ i _ => l.length - (intOf i).toNat)
      case atStart => exact ⟨0, Nat.zero_le _, rfl, by rw [List.take_zero]; simp [subL], by rw [List.take_zero]; rfl, rfl⟩
      case round =>
        obtain ⟨k, hk, rfl, rfl, rfl, rfl⟩ := hrel
        obtain ⟨Kr, hRr, -⟩ := HW.out wr (Below.refl _ _)
        by_cases hlt : k < l.length
        · have hks : k < s.size := by omega
          have hgc : s[k]'hks = l[k] := by have h := HS.out; subst h; rfl
          have hst := subL_take (ps := ps) hlt
          have han : (l.take (k + 1)).any (hitB ps) = ((l.take k).any (hitB ps) || hitB ps l[k]) := by rw [List.take_succ_eq_append_getElem hlt, List.any_append]; simp
          have hsb := subL_len ps HRL.out (l.take k)
          rw [List.length_take, Nat.min_eq_left hk] at hsb
          have hr1 := HRL.out l[k]
          have hcr := hRr l[k]
          generalize l[k] = c at *
          have hlt2 := c.toNat_lt
          have ko := Kr.cell c.toNat
          rw [bsC_at _ _ hlt2] at ko
          have y0 : (0 : Int) ≤ (c.toNat : Int) := Int.natCast_nonneg _
          have y1 : (c.toNat : Int) < 256 := by omega
          have hneq := fun w a n c => run_neq_slice_nil_any (P := Tryz.prog) w 74 5 a n c 0 0 Tryz.underlying74
          obtain ⟨S1, hS1⟩ : ∃ S1, S1 = (subL ps (l.take (k + 1))).length + (l.length - (k + 1)) := ⟨_, rfl⟩
          have HS1 := Lib.hid hS1
          obtain ⟨a1, hA1⟩ : ∃ a1, a1 = (l.take (k + 1)).any (hitB ps) := ⟨_, rfl⟩
          have HA1 := Lib.hid hA1
          rw [hst, List.length_append] at hS1
          rw [han] at hA1
          generalize (subL ps (l.take k)).length = q0 at *
          generalize (l.take k).any (hitB ps) = a0 at *
          cases hlk : look ps c with
          | none =>
            rw [hlk] at hcr
            rw [hcr] at ko
            rw [(rL_miss hlk).1] at hS1
            rw [(rL_miss hlk).2, Bool.or_false] at hA1
            have hS2 : S1 = q0 + (l.length - k) := by rw [hS1]; simp only [List.length_cons, List.length_nil]; omega
            have HS2 := Lib.hid hS2
            have HA2 := Lib.hid hA1
            clear hcr hS1 hA1 hS2 hst han hlk hr1
            go_wp2
            go_roundw
            case rel => exact ⟨k + 1, by omega, by go_num, by rw [← HS1.out, HS2.out], by rw [← HA1.out, HA2.out], by first | trivial | rfl⟩
            case measure => simp [intOf]; omega
          | some n =>
            rw [hlk] at hcr
            obtain ⟨g, gc, hrc, hgc2, hLg⟩ := hcr
            rw [hrc] at ko
            rw [(rL_hit hlk).1] at hS1 hr1
            rw [(rL_hit hlk).2, Bool.or_true] at hA1
            generalize n.length = nl at *
            have hS2 : (S1 : Int) = ((q0 + (l.length - k) : Nat) : Int) + ((nl : Int) - 1) := by rw [hS1]; omega
            have HS2 := Lib.hid hS2
            have HA2 := Lib.hid hA1
            have q1 : q0 + (l.length - k) ≤ 100000000 := by omega
            generalize q0 + (l.length - k) = Q at *
            clear hS1 hA1 hS2 hst han hlk hrc
            go_wp2
            go_roundw
            case rel => exact ⟨k + 1, by omega, by go_num, by rw [← HS1.out, HS2.out], by rw [← HA1.out, HA2.out], by first | trivial | rfl⟩
            case measure => simp [intOf]; omega
        · obtain rfl : k = l.length := by omega
          rw [List.take_length, Nat.sub_self, Nat.add_zero, ← HN.out, ← HA.out]
          go_wp2
          go_meet
          exact ⟨rfl, rfl, Below.refl _ _⟩
  case rest =>
    obtain ⟨rfl, rfl, hB⟩ := hcut
    have hRw := hR.next (fun _ _ h => LfT.next h hB)
    have Kw := KG.next hB
    clear hR KG hTr k256
    cases any with
    | false =>
      have he : Hid (s = toB (subL ps l)) := by show _ = _; rw [HS.out, subL_same HA.out.symm]
      go_wp2
      go_ret
      exact ⟨by rw [← he.out]; rfl, hB⟩
    | true =>
      obtain ⟨i0, hi0, hz0, hz1, hz2⟩ := info_parts u8_info
      have hmk := run_make (P := Tryz.prog) (w := wc) 74 5 i0 _ Tryz.underlying74 hi0 hz0 .i64 .i64 N N (by omega) (Int.le_refl _) (by rw [hz2]; omega) (by omega)
      simp only [Int.toNat_natCast, hz1] at hmk
      have KB := Blk.new wc 5 (madeCells (Value.int .u8 0).cells N)
      have hml : madeCells (Value.int .u8 0).cells N = (bufL [] N).toArray := by
        apply Array.ext'
        rw [show (Value.int .u8 0).cells = #[.int .u8 0] from rfl, toList_madeCells_one]
        unfold bufL
        simp
      rw [Nat.mul_one] at hmk
      rw [hml] at hmk KB
      have hBm := below_al (Below.refl wc.heap.size wc) (.cells (bufL [] N).toArray 5)
      have w0r : ∀ W, Below wc.heap.size wc W → Blk W G 195 (bsC rep (.slice A m cA)) ∧ RepOk W rep ps := fun W hB => ⟨Kw.next hB, hRw.next (fun _ _ h => h.next hB)⟩
      have HW := Lib.hid w0r
      have hGc := Kw.lt
      have hN1 : (N : Int) ≤ 10000000 := by omega
      have hN0 : (0 : Int) ≤ (N : Int) := Int.natCast_nonneg _
      clear w0r hRw Kw hi0 hz0 hz1 hz2 hml HA
      go_wp2
      go_loopw [13, 14] (fun jv iv wr => ∃ k : Nat, k ≤ l.length ∧ iv = .int .i64 k ∧ jv = .int .i64 (subL ps (l.take k)).length ∧ Blk wr wc.heap.size 5 (bufL (subL ps (l.take k)) (subL ps (l.drop k)).length).toArray ∧ Below wc.heap.size wc wr) (fun _ iv _ => l.length - (intOf iv).toNat)
      case atStart => exact ⟨0, Nat.zero_le _, rfl, rfl, by rw [List.take_zero, List.drop_zero, ← HN.out]; exact KB, hBm⟩
      case round =>
        obtain ⟨k, hk, rfl, rfl, Kr, hBr⟩ := hrel
        obtain ⟨KGr, hRr⟩ := HW.out wr hBr
        clear KB hBm hmk
        by_cases hlt : k < l.length
        · have hks : k < s.size := by omega
          have hgc : s[k]'hks = l[k] := by have h := HS.out; subst h; rfl
          have hst := subL_take (ps := ps) hlt
          have hdr : subL ps (l.drop k) = rL ps l[k] ++ subL ps (l.drop (k + 1)) := by rw [List.drop_eq_getElem_cons hlt]; rfl
          have hNs : (subL ps (l.take k)).length + (subL ps (l.drop k)).length = N := by
            rw [HN.out]
            conv => rhs; rw [← List.take_append_drop k l]
            rw [subL_app, List.length_append]
          have hr1 := HRL.out l[k]
          have hcr := hRr l[k]
          generalize l[k] = c at *
          have hlt2 := c.toNat_lt
          have ko := KGr.cell c.toNat
          rw [bsC_at _ _ hlt2] at ko
          have y0 : (0 : Int) ≤ (c.toNat : Int) := Int.natCast_nonneg _
          have y1 : (c.toNat : Int) < 256 := by omega
          have hneq := fun w a n c => run_neq_slice_nil_any (P := Tryz.prog) w 74 5 a n c 0 0 Tryz.underlying74
          obtain ⟨sk, hsk⟩ : ∃ sk, sk = subL ps (l.take k) := ⟨_, rfl⟩
          obtain ⟨sd, hsd⟩ : ∃ sd, sd = subL ps (l.drop (k + 1)) := ⟨_, rfl⟩
          rw [← hsk] at hst Kr hNs ⊢
          rw [← hsd] at hdr
          rw [hdr] at Kr hNs
          have HST := Lib.hid hst
          have HSD := Lib.hid hsd
          rw [List.length_append] at Kr hNs
          clear hst hdr hsk hsd
          cases hlk : look ps c with
          | none =>
            rw [hlk] at hcr
            rw [hcr] at ko
            have hrl := (rL_miss hlk).1
            rw [hrl, show ([c] : List UInt8).length + sd.length = sd.length + 1 from Nat.add_comm _ _] at Kr
            rw [hrl] at hNs hr1
            have HRc := Lib.hid hrl
            have kj := Kr.cell sk.length
            have fj := Kr.frozen sk.length
            rw [List.getElem?_toArray, bufL_at] at kj
            have hK2 : Blk (wr.setCell ⟨wc.heap.size, sk.length, none⟩ (bv c)) wc.heap.size 5 (bufL (sk ++ [c]) sd.length).toArray := by
              have h := Kr.set_ sk.length (bv c)
              rw [List.setIfInBounds_toArray, bufL_set] at h
              exact h
            have hBB := below_set hBr (p := ⟨wc.heap.size, sk.length, none⟩) (Nat.le_refl _) (bv c)
            rw [List.length_singleton] at hNs
            have hj1 : (sk.length : Int) < (N : Int) := by omega
            have hj0 : (0 : Int) ≤ (sk.length : Int) := Int.natCast_nonneg _
            obtain ⟨jl, hjl⟩ : ∃ jl, jl = sk.length := ⟨_, rfl⟩
            rw [← hjl] at kj fj hK2 hj1 hj0 hBB ⊢
            have HJ := Lib.hid hjl
            clear hcr hlk hrl Kr hjl hNs hr1
            unfold bv at hK2 hBB
            go_wp2
            go_roundw
            case rel => exact ⟨k + 1, by omega, by go_num, by rw [HST.out, HRc.out, List.length_append, List.length_singleton, HJ.out]; go_num, by rw [HST.out, HRc.out, ← HSD.out]; exact hK2, hBB⟩
            case measure => simp [intOf]; omega
          | some n =>
            rw [hlk] at hcr
            obtain ⟨g, gc, hrc, hgc2, hLg⟩ := hcr
            rw [hrc] at ko
            have hrl := (rL_hit hlk).1
            rw [hrl] at Kr hNs hr1
            have HRc := Lib.hid hrl
            have hsp := bufL_splice sk n sd.length
            have hcells : ∀ (j : Nat) (v : Value), (n.map bv)[j]? = some v → wr.cell? ((⟨g, 0, none⟩ : Addr).add j) = some v := by
              intro j v hv
              rw [List.getElem?_map] at hv
              cases hj : n[j]? with
              | none => rw [hj] at hv; cases hv
              | some d =>
                rw [hj] at hv
                injection hv with hv
                subst hv
                rw [Tok.add_off]
                exact hLg.1.2 j d hj
            obtain ⟨jl, hjl⟩ : ∃ jl, jl = sk.length := ⟨_, rfl⟩
            obtain ⟨nl, hnl⟩ : ∃ nl, nl = n.length := ⟨_, rfl⟩
            have hjN : jl < N := by omega
            have hcut := fun w => cutl_run wc.heap.size N jl hjN w
            have hfit : jl + (n.map bv).length ≤ (bufL sk (n.length + sd.length)).length := by rw [bufL_len, List.length_map]; omega
            have hmin : (n.map bv).length = Nat.min nl (N - jl) := by rw [List.length_map]; show n.length = min nl (N - jl); rw [Nat.min_def]; split <;> omega
            have hcl : (n.map bv).length = nl := by rw [List.length_map]; exact hnl.symm
            have hbo := bv_one n
            obtain ⟨cs, hcs⟩ : ∃ cs, cs = n.map bv := ⟨_, rfl⟩
            obtain ⟨cur, hcur⟩ : ∃ cur, cur = bufL sk (n.length + sd.length) := ⟨_, rfl⟩
            rw [← hcs] at hcells hfit hmin hbo hsp hcl
            rw [← hcur] at Kr hfit hsp
            rw [← hnl] at hrc ko hgc2 hr1 hNs
            rw [← hjl] at hsp hNs ⊢
            have HJ := Lib.hid hjl
            have HNL := Lib.hid hnl
            have HSP := Lib.hid hsp
            have HCL := Lib.hid hcl
            have HC := Lib.hid hcells
            have HMN := Lib.hid hmin
            have hj0 : (0 : Int) ≤ (jl : Int) := Int.natCast_nonneg _
            have n0 : (0 : Int) ≤ (nl : Int) := Int.natCast_nonneg _
            have n1 : (nl : Int) ≤ 100 := by omega
            have j1 : (jl : Int) ≤ 10000000 := by omega
            have cl1 : cs.length ≤ 100 := by omega
            have wa : IntKind.i64.wrap ((jl : Int) + (cs.length : Int)) = (jl : Int) + (cs.length : Int) := IntWalk.i64_in _ (by omega)
            clear hlk hrl hjl hnl hsp hcl hcells hcs hcur hrc hmin
            go_wp2
            go_region_law (refine step_copy_splice rfl (.tmp 105) (.tmp 111) 74 74 rfl 5 Tryz.underlying74 (by kernel_rfl) (some ⟨wc.heap.size, jl, none⟩) (some ⟨g, 0, none⟩) (N - jl) (N - jl) nl gc rfl rfl wc.heap.size jl cur 5 Kr cs HMN.out (fun _ => ⟨rfl, _, rfl, HC.out⟩) hfit hbo wc.heap.size wc hBr.drew (Nat.le_refl _) ?_; intro w4 hg4 hb4)
            all_goals
              go_wp2
              go_roundw
              case rel => exact ⟨k + 1, by omega, by go_num, by
                rw [HST.out, HRc.out, List.length_append, ← HJ.out, ← HNL.out, ← HCL.out]; go_num, by
                have h := hg4.out
                rw [HSP.out] at h
                rw [HST.out, HRc.out, ← HSD.out]
                exact h, hb4⟩
              case measure => simp [intOf]; omega
        · obtain rfl : k = l.length := by omega
          rw [List.take_length, List.drop_length] at Kr
          have hL := bufL_lf Kr
          have htx := Tok.textV hL (subL ps l).length N (Nat.le_refl _)
          rw [List.take_length, ← HN.out] at htx
          rw [List.take_length]
          obtain ⟨R, hR⟩ : ∃ R, R = toB (subL ps l) := ⟨_, rfl⟩
          rw [← hR] at htx
          have HR := Lib.hid hR
          clear hR Kr hL
          go_wp2
          go_ret
          exact ⟨by rw [← HR.out]; rfl, below_next hB hBr⟩
end Sg
end Go.Proofs.YteopighhhcikcaaGreatDoor
