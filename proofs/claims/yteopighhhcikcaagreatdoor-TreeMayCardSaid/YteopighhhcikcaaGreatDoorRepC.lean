/- strings.makeGenericReplacer, over the four signs. Conditions: the texts lie in memory. -/
import Derived.Test.YteopighhhcikcaaGreatDoorRepE
namespace Go.Proofs.YteopighhhcikcaaGreatDoor
open Go.ChangeShapes Go.WideShapes Go.ChangeAt Go.RowKit
namespace Rep
def tellP : List (List UInt8) := [[38, 108, 116, 59], [60], [38, 103, 116, 59], [62], [38, 97, 109, 112, 59], [38], [38, 113, 117, 111, 116, 59], [34]]
def markB (m : Nat → Int) (key : List UInt8) : Nat → Int := key.foldl (fun m c => upd m c.toNat 1) m
theorem markB_step (m : Nat → Int) (key : List UInt8) (q : Nat) (h : q < key.length) : markB m (key.take (q + 1)) = upd (markB m (key.take q)) (key[q]).toNat 1 := by
  unfold markB
  rw [List.take_succ_eq_append_getElem h, List.foldl_append]
  rfl
def markK (l : List (List UInt8)) : Nat → (Nat → Int)
  | 0 => fun _ => 0
  | k + 1 => markB (markK l k) (l.getD (2 * k) [])
def sumK (m : Nat → Int) : Nat → Int
  | 0 => 0
  | k + 1 => sumK m k + m k
def bits (m : Nat → Int) : Prop := ∀ i, m i = 0 ∨ m i = 1
theorem bits_markB {m : Nat → Int} (h : bits m) : ∀ key : List UInt8, bits (markB m key) := by
  intro key
  induction key generalizing m with
  | nil => exact h
  | cons c t ih =>
    refine ih (m := upd m c.toNat 1) (fun i => ?_)
    unfold upd
    split
    · exact .inr rfl
    · exact h i
theorem bits_markK (l : List (List UInt8)) : ∀ k, bits (markK l k) := by
  intro k
  induction k with
  | zero => exact fun i => .inl rfl
  | succ k ih => exact bits_markB ih _
theorem sumK_le {m : Nat → Int} (h : bits m) : ∀ k : Nat, 0 ≤ sumK m k ∧ sumK m k ≤ k := by
  intro k
  induction k with
  | zero => exact ⟨Int.le_refl _, Int.le_refl _⟩
  | succ k ih => have := h k; unfold sumK; omega
/-- The mapping, when it is turned up to k. -/
def turnK (m : Nat → Int) (ts : Int) (k : Nat) : Nat → Int := fun i => if i < k then (if m i = 0 then ts else sumK m i) else m i
theorem turn_step (m : Nat → Int) (ts : Int) (k : Nat) (v : Int) (hv : v = if m k = 0 then ts else sumK m k) : upd (turnK m ts k) k v = turnK m ts (k + 1) := by
  funext i
  unfold upd turnK
  by_cases e : i = k
  · subst e
    rw [if_pos rfl, if_pos (by omega), hv]
  · rw [if_neg e]
    by_cases h : i < k
    · simp only [h, show i < k + 1 by omega, if_true]
    · simp only [h, show ¬ i < k + 1 by omega, if_false]
theorem turn_zero (m : Nat → Int) (ts : Int) : turnK m ts 0 = m := by funext i; unfold turnK; rw [if_neg (by omega)]
theorem sumK_mono {m : Nat → Int} (h : bits m) {k n : Nat} (hk : k ≤ n) : sumK m k ≤ sumK m n := by
  induction n with
  | zero =>
    obtain rfl : k = 0 := by omega
    exact Int.le_refl _
  | succ n ih =>
    by_cases e : k = n + 1
    · subst e; exact Int.le_refl _
    · have := ih (by omega)
      have := h n
      rw [sumK]
      omega
theorem gen_cells {W : World} {G : Nat} {tab : Value} {ts : Int} {m : Nat → Int} (K : Blk W G 221 (genC tab ts m)) {j : Nat} {v : Value} (hv : (mapL m)[j]? = some v) : W.cell? ((⟨G, 6, none⟩ : Addr).add j) = some v := by
  have hj : j < 256 := by have := (List.getElem?_eq_some_iff.1 hv).1; rwa [mapL_len] at this
  rw [mapL_at m hj] at hv
  have hadd : (⟨G, 6, none⟩ : Addr).add j = ⟨G, 6 + j, none⟩ := by unfold Addr.add; split <;> simp_all
  rw [hadd, K.cell (6 + j), genC_at _ _ _ hj]
  exact hv
/-- The mapping of the four signs' bytes. -/
def mapT : Nat → Int := turnK (markK tellP 4) 11 256
theorem mapT_vals : mapT 38 = 0 ∧ mapT 108 = 4 ∧ mapT 103 = 3 ∧ mapT 97 = 2 ∧ mapT 113 = 8 := by decide +kernel
/-- The trie, as it grows: after each of the four signs. -/
def St1 (w : World) (T0 N1 : Nat) : Prop := T0 < N1 ∧ Blk w T0 216 (tabC (updV nilP 0 (ptr N1))) ∧ Blk w (N1 + 1) 219 (nodeC (toB [60]) 8 ⟨#[]⟩ (.pointer none) nilS)
def St2 (w : World) (N1 A : Nat) (f : Nat → Value) : Prop := N1 + 1 < A ∧ Blk w N1 219 (nodeC ⟨#[]⟩ 0 ⟨#[]⟩ (.pointer none) (tabS (A + 2))) ∧ Blk w A 219 (nodeC ⟨#[]⟩ 0 (toB [116, 59]) (ptr (N1 + 1)) nilS) ∧
  Blk w (A + 1) 219 (nodeC ⟨#[]⟩ 0 (toB [116, 59]) (ptr (A + 3)) nilS) ∧ Blk w (A + 2) 216 (tabC f) ∧ Blk w (A + 3) 219 (nodeC (toB [62]) 6 ⟨#[]⟩ (.pointer none) nilS)
def St3 (w : World) (A N6 : Nat) : Prop := A + 3 < N6 ∧ Blk w N6 219 (nodeC ⟨#[]⟩ 0 (toB [109, 112, 59]) (ptr (N6 + 1)) nilS) ∧ Blk w (N6 + 1) 219 (nodeC (toB [38]) 4 ⟨#[]⟩ (.pointer none) nilS)
def St4 (w : World) (N6 N8 : Nat) : Prop := N6 + 1 < N8 ∧ Blk w N8 219 (nodeC ⟨#[]⟩ 0 (toB [117, 111, 116, 59]) (ptr (N8 + 1)) nilS) ∧ Blk w (N8 + 1) 219 (nodeC (toB [34]) 2 ⟨#[]⟩ (.pointer none) nilS)
def fT (A : Nat) : Nat → Value := updV (updV nilP 4 (ptr A)) 3 (ptr (A + 1))
def GB (w : World) (G T0 : Nat) : Prop := G < T0 ∧ Blk w G 221 (genC (tabS T0) 11 mapT)
def StK (w : World) (G : Nat) : Nat → Prop
  | 0 => ∃ T0, GB w G T0 ∧ Blk w T0 216 (tabC nilP)
  | 1 => ∃ T0 N1, GB w G T0 ∧ St1 w T0 N1 ∧ Blk w N1 219 (nodeC ⟨#[]⟩ 0 (toB [108, 116, 59]) (ptr (N1 + 1)) nilS)
  | 2 => ∃ T0 N1 A, GB w G T0 ∧ St1 w T0 N1 ∧ St2 w N1 A (fT A)
  | 3 => ∃ T0 N1 A N6, GB w G T0 ∧ St1 w T0 N1 ∧ St2 w N1 A (updV (fT A) 2 (ptr N6)) ∧ St3 w A N6
  | _ => ∃ T0 N1 A N6 N8, GB w G T0 ∧ St1 w T0 N1 ∧ St2 w N1 A (updV (updV (fT A) 2 (ptr N6)) 8 (ptr N8)) ∧ St3 w A N6 ∧ St4 w N6 N8
def GenOk (w : World) (G : Nat) : Prop := StK w G 4
theorem Oth.undrew2 {b : Nat} {w w' : World} (h : Oth b w.drew.drew w') : Oth b w w' := ⟨h.os, h.tape, h.output, h.size, h.block⟩
theorem gb_cells {w : World} {G T0 : Nat} (h : GB w G T0) : w.cell? ⟨G, 2, none⟩ = some (.string ⟨#[]⟩) ∧ w.cell? ⟨G, 4, none⟩ = some (tabS T0) ∧ w.cell? ⟨G, 5, none⟩ = some (.int .i64 11) ∧
    ∀ (c : UInt8) (v : Nat), mapT c.toNat = (v : Int) → w.cell? ⟨G, 6 + c.toNat, none⟩ = some (.int .u8 (v : Int)) :=
  ⟨(h.2.cell 2).trans rfl, (h.2.cell 4).trans (genC_4 _ _ _), (h.2.cell 5).trans (genC_5 _ _ _), fun c v hv => (h.2.cell (6 + c.toNat)).trans (by rw [genC_at _ _ _ c.toNat_lt, hv])⟩
theorem GB.oth {w w' : World} {G T0 b : Nat} (h : GB w G T0) (hO : Oth b w w') (hb : ¬ G = b) : GB w' G T0 := ⟨h.1, blk_oth h.2 hO hb⟩
def addC (G : Nat) (key val : List UInt8) (prio : Int) (w : World) (R : World → Prop) : Prop := Calls Tryz.prog 166 #[ptr G, .string (toB key), .string (toB val), .int .i64 prio, ptr G] w fun e w' => e = .returned (.tuple #[]) ∧ R w'
theorem tx_oth {w w' : World} {g b : Nat} {l : List (List UInt8)} (h : TxAt w g l) (hO : Oth b w w') (hb : g < b) : TxAt w' g l :=
  ⟨Nat.lt_of_lt_of_le h.1 hO.size, fun j x hx => (hO.cell h.1 (Nat.ne_of_lt hb)).trans (h.2 j x hx)⟩
theorem step0 (w : World) (G : Nat) (h : StK w G 0) : addC G [38, 108, 116, 59] [60] 8 w fun w' => StK w' G 1 ∧ ∃ b, G < b ∧ Oth b w w' := by
  obtain ⟨T0, hG, KT⟩ := h
  obtain ⟨h2, h4, h5, hm⟩ := gb_cells hG
  have hGT : ¬ G = T0 := Nat.ne_of_lt hG.1
  refine (add_new G T0 G 38 [108, 116, 59] (by decide) 0 (by decide) nilP rfl (toB [60]) 8 w h2 h4 KT (hm 38 0 mapT_vals.1) hGT).mono ?_
  rintro e w' ⟨rfl, KT', KN, KV, hO⟩
  exact ⟨rfl, ⟨T0, w.heap.size, hG.oth hO hGT, ⟨KT.lt, KT', KV⟩, KN⟩, T0, hG.1, hO⟩
theorem step1 (w : World) (G : Nat) (h : StK w G 1) : addC G [38, 103, 116, 59] [62] 6 w fun w' => StK w' G 2 ∧ ∃ b, G < b ∧ Oth b w w' := by
  obtain ⟨T0, N1, hG, ⟨hT, KT, KV⟩, KN⟩ := h
  obtain ⟨h2, h4, h5, hm⟩ := gb_cells hG
  have hGN : G < N1 := Nat.lt_trans hG.1 hT
  refine add_down G T0 G N1 38 [103, 116, 59] 0 (by decide) (updV nilP 0 (ptr N1)) rfl (toB [62]) 6 w h2 h4 KT (hm 38 0 mapT_vals.1) _ ?_
  refine (add_split N1 G (N1 + 1) 108 [116, 59] (by decide) 103 [116, 59] (by decide) (by decide) 4 3 (by decide) (by decide) (toB [62]) 6 w.drew.drew KN h5 (hm 103 3 mapT_vals.2.2.1) (hm 108 4 mapT_vals.2.1) (Nat.ne_of_lt hGN)).mono ?_
  rintro e w' ⟨rfl, Ka, KA, KB, KT2, KN2, hO⟩
  have hO := hO.undrew2
  exact ⟨rfl, ⟨T0, N1, w.heap.size, hG.oth hO (Nat.ne_of_lt hGN), ⟨hT, blk_oth KT hO (Nat.ne_of_lt hT), blk_oth KV hO (by omega)⟩, ⟨KV.lt, Ka, KA, KB, KT2, KN2⟩⟩, N1, hGN, hO⟩
theorem step2 (w : World) (G : Nat) (h : StK w G 2) : addC G [38, 97, 109, 112, 59] [38] 4 w fun w' => StK w' G 3 ∧ ∃ b, G < b ∧ Oth b w w' := by
  obtain ⟨T0, N1, A, hG, ⟨hT, KT, KV⟩, ⟨hA, Ka, KA, KB, KT2, KN2⟩⟩ := h
  obtain ⟨h2, h4, h5, hm⟩ := gb_cells hG
  have hG1 := hG.1
  refine add_down G T0 G N1 38 [97, 109, 112, 59] 0 (by decide) (updV nilP 0 (ptr N1)) rfl (toB [38]) 4 w h2 h4 KT (hm 38 0 mapT_vals.1) _ ?_
  refine (add_new N1 (A + 2) G 97 [109, 112, 59] (by decide) 2 (by decide) (fT A) rfl (toB [38]) 4 w.drew.drew (Ka.cell 2) (Ka.cell 4) KT2 (hm 97 2 mapT_vals.2.2.2.1) (by omega)).mono ?_
  rintro e w' ⟨rfl, KT3, KN3, KV3, hO⟩
  have hO := hO.undrew2
  exact ⟨rfl, ⟨T0, N1, A, w.heap.size, hG.oth hO (by omega), ⟨hT, blk_oth KT hO (by omega), blk_oth KV hO (by omega)⟩, ⟨hA, blk_oth Ka hO (by omega), blk_oth KA hO (by omega), blk_oth KB hO (by omega), KT3, blk_oth KN2 hO (by omega)⟩, ⟨KN2.lt, KN3, KV3⟩⟩, A + 2, by omega, hO⟩
theorem step3 (w : World) (G : Nat) (h : StK w G 3) : addC G [38, 113, 117, 111, 116, 59] [34] 2 w fun w' => StK w' G 4 ∧ ∃ b, G < b ∧ Oth b w w' := by
  obtain ⟨T0, N1, A, N6, hG, ⟨hT, KT, KV⟩, ⟨hA, Ka, KA, KB, KT2, KN2⟩, ⟨hN6, K6, K7⟩⟩ := h
  obtain ⟨h2, h4, h5, hm⟩ := gb_cells hG
  have hG1 := hG.1
  refine add_down G T0 G N1 38 [113, 117, 111, 116, 59] 0 (by decide) (updV nilP 0 (ptr N1)) rfl (toB [34]) 2 w h2 h4 KT (hm 38 0 mapT_vals.1) _ ?_
  refine (add_new N1 (A + 2) G 113 [117, 111, 116, 59] (by decide) 8 (by decide) (updV (fT A) 2 (ptr N6)) rfl (toB [34]) 2 w.drew.drew (Ka.cell 2) (Ka.cell 4) KT2 (hm 113 8 mapT_vals.2.2.2.2) (by omega)).mono ?_
  rintro e w' ⟨rfl, KT3, KN3, KV3, hO⟩
  have hO := hO.undrew2
  exact ⟨rfl, ⟨T0, N1, A, N6, w.heap.size, hG.oth hO (by omega), ⟨hT, blk_oth KT hO (by omega), blk_oth KV hO (by omega)⟩, ⟨hA, blk_oth Ka hO (by omega), blk_oth KA hO (by omega), blk_oth KB hO (by omega), KT3, blk_oth KN2 hO (by omega)⟩, ⟨hN6, blk_oth K6 hO (by omega), blk_oth K7 hO (by omega)⟩, ⟨K7.lt, KN3, KV3⟩⟩, A + 2, by omega, hO⟩
set_option maxRecDepth 100000 in
set_option maxHeartbeats 8000000 in
theorem gen_any (l : List (List UInt8)) (hl : l = tellP) (g c : Nat) (w : World) (hx : TxAt w g l) :
    Calls Tryz.prog 149 #[.slice (some ⟨g, 0, none⟩) 8 c] w fun e w' => e = .returned (.pointer (some ⟨w.heap.size, 0, none⟩)) ∧ GenOk w' w.heap.size ∧ Below w.heap.size w w' := by
  have hz := fun w => zero_gen w
  have hlen : l.length = 8 := by rw [hl]; rfl
  have hlt : g < w.heap.size := hx.1
  have hng := Nat.ne_of_lt hlt
  have HL := Lib.hid hl
  clear hl
  have hx1 := hx.alloc (.cells (genC (.slice none 0 0) 0 (fun _ => 0)) 221)
  have K1 := Blk.new w 221 (genC (.slice none 0 0) 0 (fun _ => 0))
  have hB := below_al (Below.refl w.heap.size w) (.cells (genC (.slice none 0 0) 0 (fun _ => 0)) 221)
  go_enter Tryz.func149, Tryz.ntmps149
  go_upto_region 2 with (fail)
  generalize w.alloc (.cells (genC (.slice none 0 0) 0 (fun _ => 0)) 221) = E at *
  obtain ⟨G, hG⟩ : ∃ G, G = w.heap.size := ⟨_, rfl⟩
  rw [← hG] at hng K1 ⊢
  have hwG : w.heap.size ≤ G := by omega
  have HG := Lib.hid hG
  clear hG hx
  go_wp2
  go_loopw [4, 5, 6] (fun i _ _ wr => ∃ k : Nat, k ≤ 4 ∧ i = .int .i64 (2 * (k : Int)) ∧ Blk wr G 221 (genC (.slice none 0 0) 0 (markK l k)) ∧ TxAt wr g l ∧ Below w.heap.size w wr) (fun i _ _ _ => 8 - (intOf i).toNat)
  case atStart => exact ⟨0, by omega, rfl, K1, hx1, hB⟩
  case round =>
    obtain ⟨k, hk, rfl, Kr, Tr, hBr⟩ := hrel
    clear K1 hx1 hB
    by_cases hk4 : k < 4
    · obtain ⟨key, hkey⟩ : ∃ key, l[2 * k]? = some key := ⟨l[2 * k], List.getElem?_eq_getElem (by omega)⟩
      have hgd : l.getD (2 * k) [] = key := by rw [List.getD_eq_getElem?_getD, hkey]; rfl
      have hc := Tr.at_ hkey
      have hmk : markK l (k + 1) = markB (markK l k) key := by rw [markK, hgd]
      have hks : key.length ≤ 100 := by
        have : ∀ j : Fin 4, (tellP.getD (2 * j.val) []).length ≤ 100 := by decide
        have := this ⟨k, hk4⟩
        rw [← HL.out] at this
        simp only at this
        rw [hgd] at this
        exact this
      have hz2 : (toB key).size = key.length := toB_size key
      have k0 : (0 : Int) ≤ (k : Int) := Int.natCast_nonneg _
      have k1 : (k : Int) < 4 := by omega
      generalize markK l k = m0 at *
      clear hc
      have hc := Tr.at_ hkey
      go_upto_region 6 with (fail)
      clear hc
      go_wp2
      rw [show decide (2 * (k : Int) < 8) = true from decide_eq_true (by omega)]
      go_loopw [6] (fun j wi => ∃ q : Nat, q ≤ key.length ∧ j = .int .i64 q ∧ Blk wi G 221 (genC (.slice none 0 0) 0 (markB m0 (key.take q))) ∧ TxAt wi g l ∧ Below w.heap.size w wi) (fun j _ => key.length - (intOf j).toNat)
      case atStart => exact ⟨0, Nat.zero_le _, rfl, Kr, Tr, hBr⟩
      case round =>
        obtain ⟨q, hq, rfl, Kq, Tq, hBq⟩ := hrel
        clear Kr Tr hBr
        by_cases hqk : q < key.length
        · have hqz : q < (toB key).size := by omega
          obtain ⟨cn, hcn⟩ : ∃ cn, cn = (key[q]'hqk).toNat := ⟨_, rfl⟩
          have hv : ((toB key)[q]'hqz).toNat = cn := by rw [hcn]; rfl
          have hcl : cn < 256 := by rw [hcn]; exact (key[q]'hqk).toNat_lt
          have hst : markB m0 (key.take (q + 1)) = upd (markB m0 (key.take q)) cn 1 := by rw [markB_step _ _ _ hqk, hcn]
          generalize markB m0 (key.take q) = mq at *
          have x0 := Kq.cell (6 + cn)
          rw [genC_at _ _ _ hcl] at x0
          have f0 := Kq.frozen (6 + cn)
          have Kn := Kq.set_ (6 + cn) (.int .u8 1)
          rw [genC_set, ← hst] at Kn
          have Tn := Tq.far (p := ⟨G, 6 + cn, none⟩) hng (.int .u8 1)
          have hBn := below_set hBq (p := ⟨G, 6 + cn, none⟩) hwG (.int .u8 1)
          have c0 : (0 : Int) ≤ (cn : Int) := Int.natCast_nonneg _
          have c1 : (cn : Int) < 256 := by omega
          have HS := Lib.hid hst
          clear hst hcn hmk
          go_wp2
          first | (go_region_with (fail)) | (fail)
          all_goals
            go_wp2
            go_roundw
            case rel => exact ⟨q + 1, by omega, by go_num, Kn, Tn, hBn.drew⟩
            case measure => simp [intOf]; omega
        · obtain rfl : q = key.length := by omega
          rw [List.take_length, ← hmk] at Kq
          clear hmk
          go_wp2
          go_roundw
          case rel => exact ⟨k + 1, by omega, by go_num, Kq, Tq, hBq⟩
          case measure => simp [intOf]; omega
    · obtain rfl : k = 4 := by omega
      rw [show (2 * ((4 : Nat) : Int)) = 8 from rfl]
      have hts : sumK (markK l 4) 256 = 11 := by rw [HL.out]; decide +kernel
      have hbits := bits_markK l 4
      have hmono : ∀ k : Nat, k ≤ 256 → sumK (markK l 4) k ≤ 11 := fun k hk => by rw [← hts]; exact sumK_mono hbits hk
      obtain ⟨M, hM⟩ : ∃ M, M = turnK (markK l 4) 11 256 := ⟨_, rfl⟩
      have HM := Lib.hid hM
      have HM2 : Hid (M = mapT) := by show M = _; rw [hM, HL.out]; rfl
      clear hM
      generalize markK l 4 = m at *
      have hcells : ∀ (W : World), Blk W G 221 (genC (.slice none 0 0) (sumK m 0) m) → ∀ (j : Nat) (v : Value), (mapL m)[j]? = some v → W.cell? ((⟨G, 6, none⟩ : Addr).add j) = some v := fun W K j v hv => gen_cells K hv
      have hc0 := hcells _ Kr
      clear hcells
      go_upto_region 10 with (fail)
      go_wp2_with (first
        | (refine wpList_load_at (by rfl) 190 (.tmp 39) (by rfl) ⟨G, 6, none⟩ (by rfl) (mapL m) _ hc0 Tryz.underlying190 rfl (by rw [mapL_len]; kernel_rfl) ?_))
      clear hc0
      go_loopw [8, 41] (fun _ i wr => ∃ k : Nat, k ≤ 256 ∧ i = .int .i64 k ∧ Blk wr G 221 (genC (.slice none 0 0) (sumK m k) m) ∧ TxAt wr g l ∧ Below w.heap.size w wr) (fun _ i _ => 256 - (intOf i).toNat)
      case atStart => exact ⟨0, Nat.zero_le _, rfl, Kr, Tr, hBr⟩
      case round =>
        obtain ⟨k, hk, rfl, Kq, Tq, hBq⟩ := hrel
        clear Kr Tr hBr
        by_cases hk2 : k < 256
        · have hidx := fun w => idx_map m hk2 w
          have k0 : (0 : Int) ≤ (k : Int) := Int.natCast_nonneg _
          have k1 : (k : Int) < 256 := by omega
          have hb : 0 ≤ m k ∧ m k ≤ 1 := by have := hbits k; omega
          have hS := sumK_le hbits k
          have hSn : sumK m (k + 1) = sumK m k + m k := rfl
          have x5 := Kq.cell 5
          rw [genC_5] at x5
          have f5 := Kq.frozen 5
          have Kn := Kq.set_ 5 (.int .i64 (sumK m k + m k))
          rw [genC_set5] at Kn
          have Tn := Tq.far (p := ⟨G, 5, none⟩) hng (.int .i64 (sumK m k + m k))
          have hBn := below_set hBq (p := ⟨G, 5, none⟩) hwG (.int .i64 (sumK m k + m k))
          have HSn := Lib.hid hSn
          generalize m k = b at *
          generalize sumK m k = S at *
          clear hSn
          go_wp2
          go_roundw
          case rel => exact ⟨k + 1, by omega, by go_num, by rw [HSn.out]; exact Kn, Tn, hBn⟩
          case measure => simp [intOf]; omega
        · obtain rfl : k = 256 := by omega
          rw [hts] at Kq
          rw [show ((256 : Nat) : Int) = 256 from rfl]
          have hc1 : ∀ (j : Nat) (v : Value), (mapL m)[j]? = some v → wr.cell? ((⟨G, 6, none⟩ : Addr).add j) = some v := fun j v hv => gen_cells Kq hv
          have Kt : Blk wr G 221 (genC (.slice none 0 0) 11 (turnK m 11 0)) := by rw [turn_zero]; exact Kq
          go_upto_region 16 with (fail)
          go_wp2_with (first
            | (refine wpList_load_at (by rfl) 190 (.tmp 56) (by rfl) ⟨G, 6, none⟩ (by rfl) (mapL m) _ hc1 Tryz.underlying190 rfl (by rw [mapL_len]; kernel_rfl) ?_))
          clear hc1 Kq
          go_loopw [9, 10, 11, 58] (fun ix _ _ i wr => ∃ k : Nat, k ≤ 256 ∧ i = .int .i64 k ∧ ix = .int .u8 (sumK m k) ∧ Blk wr G 221 (genC (.slice none 0 0) 11 (turnK m 11 k)) ∧ TxAt wr g l ∧ Below w.heap.size w wr) (fun _ _ _ i _ => 256 - (intOf i).toNat)
          case atStart => exact ⟨0, Nat.zero_le _, rfl, rfl, Kt, Tq, hBq⟩
          case round =>
            obtain ⟨k, hk, rfl, rfl, Ku, Tu, hBu⟩ := hrel
            clear Kt Tq hBq
            by_cases hk2 : k < 256
            · have hidx := fun w => idx_map m hk2 w
              have k0 : (0 : Int) ≤ (k : Int) := Int.natCast_nonneg _
              have k1 : (k : Int) < 256 := by omega
              have hS := sumK_le hbits k
              have hS2 := hmono (k + 1) (by omega)
              have hSn : sumK m (k + 1) = sumK m k + m k := rfl
              have x5 := Ku.cell 5
              rw [genC_5] at x5
              have f5 := Ku.frozen 5
              have x6 := Ku.cell (6 + k)
              rw [genC_at _ _ _ hk2] at x6
              have f6 := Ku.frozen (6 + k)
              have HSn := Lib.hid hSn
              rcases hbits k with hb | hb
              · have hst := turn_step m 11 k 11 (by rw [if_pos hb])
                have Kn := Ku.set_ (6 + k) (.int .u8 11)
                rw [genC_set, hst] at Kn
                have Tn := Tu.far (p := ⟨G, 6 + k, none⟩) hng (.int .u8 11)
                have hBn := below_set hBu (p := ⟨G, 6 + k, none⟩) hwG (.int .u8 11)
                rw [hb] at hidx
                have HB := Lib.hid hb
                clear hst hSn hb hS2
                generalize sumK m k = S at *
                generalize turnK m 11 k k = tk at *
                go_wp2
                first | (go_region_with (fail)) | (fail)
                all_goals
                  go_wp2
                  go_roundw
                  case rel => exact ⟨k + 1, by omega, by go_num, by rw [HSn.out, HB.out, Int.add_zero], Kn, Tn, hBn.drew⟩
                  case measure => simp [intOf]; omega
              · have hst := turn_step m 11 k (sumK m k) (by rw [if_neg (by omega)])
                have Kn := Ku.set_ (6 + k) (.int .u8 (sumK m k))
                rw [genC_set, hst] at Kn
                have Tn := Tu.far (p := ⟨G, 6 + k, none⟩) hng (.int .u8 (sumK m k))
                have hBn := below_set hBu (p := ⟨G, 6 + k, none⟩) hwG (.int .u8 (sumK m k))
                rw [hb] at hidx
                have hS3 : sumK m k + 1 ≤ 11 := by rw [hSn, hb] at hS2; exact hS2
                have HB := Lib.hid hb
                clear hst hSn hb hS2
                generalize sumK m k = S at *
                generalize turnK m 11 k k = tk at *
                go_wp2
                go_roundw
                case rel => exact ⟨k + 1, by omega, by go_num, by rw [HSn.out, HB.out], Kn, Tn, hBn⟩
                case measure => simp [intOf]; omega
            · obtain rfl : k = 256 := by omega
              rw [← HM.out] at Ku
              rw [HM2.out] at Ku
              rw [show ((256 : Nat) : Int) = 256 from rfl]
              have HMT : mapT = mapT := rfl
              have y5 := Ku.cell 5
              rw [genC_5] at y5
              have y4 := Ku.cell 4
              rw [genC_4] at y4
              have z4 := Ku.frozen 4
              have hGl : G < wr.heap.size := Ku.lt
              have hGn : ¬ G = wr.heap.size := Nat.ne_of_lt hGl
              have hmk := fun W => make_tab W
              unfold tabS at hmk
              clear hts hmono hbits HM HM2 hz
              go_upto_region 25 with (fail)
              generalize hE5 : (wr.setCell ⟨G, 4, none⟩ (.slice (some ⟨wr.heap.size, 0, none⟩) 11 11)).alloc (.cells (tabC nilP) 216) = E5
              have hsz : (wr.setCell ⟨G, 4, none⟩ (.slice (some ⟨wr.heap.size, 0, none⟩) 11 11)).heap.size = wr.heap.size := by simp
              have S0 : StK E5 G 0 := by
                refine ⟨wr.heap.size, ⟨hGl, ?_⟩, ?_⟩
                · rw [← hE5]
                  have := Ku.set_ 4 (tabS wr.heap.size)
                  rw [genC_set4] at this
                  exact Blk.alloc this _
                · rw [← hE5]
                  have := Blk.new (wr.setCell ⟨G, 4, none⟩ (.slice (some ⟨wr.heap.size, 0, none⟩) 11 11)) 216 (tabC nilP)
                  rw [hsz] at this
                  exact this
              have T5 : TxAt E5 g l := by rw [← hE5]; exact (Tu.far (p := ⟨G, 4, none⟩) hng _).alloc _
              have hB5 : Below w.heap.size w E5 := by rw [← hE5]; exact below_al (below_set hBu (p := ⟨G, 4, none⟩) hwG _) _
              clear hE5 hsz Ku Tu hBu y5 y4 z4 hGn hGl HMT hmk
              have hgG : g < G := by omega
              go_wp2
              go_loopw [12] (fun i wq => ∃ k : Nat, k ≤ 4 ∧ i = .int .i64 (2 * (k : Int)) ∧ StK wq G k ∧ TxAt wq g l ∧ Below w.heap.size w wq) (fun i _ => 8 - (intOf i).toNat)
              case atStart => exact ⟨0, Nat.zero_le _, rfl, S0, T5, hB5⟩
              case round =>
                obtain ⟨k, hk, rfl, Sq, Tq, hBq⟩ := hrel
                clear S0 T5 hB5
                rcases (by omega : k = 0 ∨ k = 1 ∨ k = 2 ∨ k = 3 ∨ k = 4) with rfl | rfl | rfl | rfl | rfl
                · have x1 : wr.cell? ⟨g, 0, none⟩ = some (.string (toB [38, 108, 116, 59])) := Tq.at_ (by rw [HL.out]; rfl)
                  have x2 : wr.cell? ⟨g, 1, none⟩ = some (.string (toB [60])) := Tq.at_ (by rw [HL.out]; rfl)
                  have cs := step0 wr.drew G Sq
                  unfold addC ptr at cs
                  generalize toB [38, 108, 116, 59] = key at *
                  generalize toB [60] = val at *
                  go_wp2
                  first
                  | (go_region_with (first
                      | (go_at_call 166; (with_reducible refine cs.mono ?_); rintro e w1 ⟨rfl, hS, b, hbG, hO⟩)))
                  | (fail)
                  all_goals
                    go_wp2
                    go_roundw
                    case rel => exact ⟨1, by omega, rfl, hS, tx_oth (w := wr.drew) Tq.drew hO (by omega), hO.below hBq.drew (by omega)⟩
                    case measure => simp [intOf]
                · have x1 : wr.cell? ⟨g, 2, none⟩ = some (.string (toB [38, 103, 116, 59])) := Tq.at_ (by rw [HL.out]; rfl)
                  have x2 : wr.cell? ⟨g, 3, none⟩ = some (.string (toB [62])) := Tq.at_ (by rw [HL.out]; rfl)
                  have cs := step1 wr.drew G Sq
                  unfold addC ptr at cs
                  generalize toB [38, 103, 116, 59] = key at *
                  generalize toB [62] = val at *
                  go_wp2
                  first
                  | (go_region_with (first
                      | (go_at_call 166; (with_reducible refine cs.mono ?_); rintro e w1 ⟨rfl, hS, b, hbG, hO⟩)))
                  | (fail)
                  all_goals
                    go_wp2
                    go_roundw
                    case rel => exact ⟨2, by omega, rfl, hS, tx_oth (w := wr.drew) Tq.drew hO (by omega), hO.below hBq.drew (by omega)⟩
                    case measure => simp [intOf]
                · have x1 : wr.cell? ⟨g, 4, none⟩ = some (.string (toB [38, 97, 109, 112, 59])) := Tq.at_ (by rw [HL.out]; rfl)
                  have x2 : wr.cell? ⟨g, 5, none⟩ = some (.string (toB [38])) := Tq.at_ (by rw [HL.out]; rfl)
                  have cs := step2 wr.drew G Sq
                  unfold addC ptr at cs
                  generalize toB [38, 97, 109, 112, 59] = key at *
                  generalize toB [38] = val at *
                  go_wp2
                  first
                  | (go_region_with (first
                      | (go_at_call 166; (with_reducible refine cs.mono ?_); rintro e w1 ⟨rfl, hS, b, hbG, hO⟩)))
                  | (fail)
                  all_goals
                    go_wp2
                    go_roundw
                    case rel => exact ⟨3, by omega, rfl, hS, tx_oth (w := wr.drew) Tq.drew hO (by omega), hO.below hBq.drew (by omega)⟩
                    case measure => simp [intOf]
                · have x1 : wr.cell? ⟨g, 6, none⟩ = some (.string (toB [38, 113, 117, 111, 116, 59])) := Tq.at_ (by rw [HL.out]; rfl)
                  have x2 : wr.cell? ⟨g, 7, none⟩ = some (.string (toB [34])) := Tq.at_ (by rw [HL.out]; rfl)
                  have cs := step3 wr.drew G Sq
                  unfold addC ptr at cs
                  generalize toB [38, 113, 117, 111, 116, 59] = key at *
                  generalize toB [34] = val at *
                  go_wp2
                  first
                  | (go_region_with (first
                      | (go_at_call 166; (with_reducible refine cs.mono ?_); rintro e w1 ⟨rfl, hS, b, hbG, hO⟩)))
                  | (fail)
                  all_goals
                    go_wp2
                    go_roundw
                    case rel => exact ⟨4, by omega, rfl, hS, tx_oth (w := wr.drew) Tq.drew hO (by omega), hO.below hBq.drew (by omega)⟩
                    case measure => simp [intOf]
                · go_upto_region 29 with (fail)
                  go_wp2
                  go_ret
                  have e := HG.out
                  subst e
                  exact ⟨rfl, Sq, hBq⟩
end Rep
end Go.Proofs.YteopighhhcikcaaGreatDoor
