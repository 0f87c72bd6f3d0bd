/- (*strings.trieNode).add, where a node is turned into a table of two. Conditions: as the theorem's premises say. -/
import Derived.Test.YteopighhhcikcaaGreatDoorRepD
namespace Go.Proofs.YteopighhhcikcaaGreatDoor
open Go.ChangeShapes Go.WideShapes Go.ChangeAt Go.RowKit
namespace Rep
theorem Oth.cell {a : Nat} {w W : World} (h : Oth a w W) {g o : Nat} (hg : g < w.heap.size) (hn : ¬ g = a) : W.cell? ⟨g, o, none⟩ = w.cell? ⟨g, o, none⟩ := by
  have := h.block g hg hn
  simp only [World.cell?, this]
theorem node_info : (Tryz.prog.info? 216).map (fun i => (i.zero, i.size, i.bytes)) = some (some (.pointer none), 1, 8) := by kernel_rfl
theorem tab_zero : madeCells (Value.pointer none).cells 11 = tabC nilP := by kernel_rfl
theorem make_tab (W : World) : (Instr.makeSlice 217 (.int .i64 11) (.int .i64 11)).run Tryz.prog W = .ok (tabS W.heap.size) (W.alloc (.cells (tabC nilP) 216)) := by
  have h := node_info
  cases hi : Tryz.prog.info? 216 with
  | none => rw [hi] at h; cases h
  | some i =>
    rw [hi] at h
    simp only [Option.map_some, Option.some.injEq, Prod.mk.injEq] at h
    have hr := run_makeSlice (P := Tryz.prog) (w := W) 217 216 i (.pointer none) Tryz.underlying217 hi h.1 .i64 .i64 11 11 (by decide) (by decide) (by rw [h.2.1]; decide) (by rw [h.2.2]; decide) (by decide)
    rw [h.2.1, show (11 : Int).toNat = 11 from rfl, Nat.mul_one, tab_zero] at hr
    exact hr
set_option maxRecDepth 100000 in
set_option maxHeartbeats 8000000 in
/-- A node with a prefix of two bytes or more that begins otherwise than the key: it is turned into a table of two. -/
theorem add_split (a G nx : Nat) (d : UInt8) (pt : List UInt8) (hpt : pt ≠ []) (c : UInt8) (t : List UInt8) (ht : t ≠ []) (hcd : ¬ d = c) (id ix : Nat) (hid : id < 11) (hix : ix < 11) (val : ByteArray) (prio : Int) (w : World)
    (K : Blk w a 219 (nodeC ⟨#[]⟩ 0 (toB (d :: pt)) (ptr nx) nilS)) (h5 : w.cell? ⟨G, 5, none⟩ = some (.int .i64 11)) (hmc : w.cell? ⟨G, 6 + c.toNat, none⟩ = some (.int .u8 (ix : Int))) (hmd : w.cell? ⟨G, 6 + d.toNat, none⟩ = some (.int .u8 (id : Int))) (hGa : ¬ G = a) :
    Calls Tryz.prog 166 #[ptr a, .string (toB (c :: t)), .string val, .int .i64 prio, ptr G] w fun e w' => e = .returned (.tuple #[]) ∧
      Blk w' a 219 (nodeC ⟨#[]⟩ 0 ⟨#[]⟩ (.pointer none) (tabS (w.heap.size + 2))) ∧ Blk w' w.heap.size 219 (nodeC ⟨#[]⟩ 0 (toB pt) (ptr nx) nilS) ∧
      Blk w' (w.heap.size + 1) 219 (nodeC ⟨#[]⟩ 0 (toB t) (ptr (w.heap.size + 3)) nilS) ∧ Blk w' (w.heap.size + 2) 216 (tabC (updV (updV nilP id (ptr w.heap.size)) ix (ptr (w.heap.size + 1)))) ∧
      Blk w' (w.heap.size + 3) 219 (nodeC val prio ⟨#[]⟩ (.pointer none) nilS) ∧ Oth a w w' := by
  have hne : (toB (c :: t)).toList.isEmpty = false := by
    rw [List.isEmpty_eq_false_iff, ByteArray.toList_eq]
    exact List.cons_ne_nil _ _
  have hne2 : (toB (d :: pt)).toList.isEmpty = false := by
    rw [List.isEmpty_eq_false_iff, ByteArray.toList_eq]
    exact List.cons_ne_nil _ _
  have hz : (toB (c :: t)).size = t.length + 1 := by rw [toB_size]; rfl
  have hz2 : (toB (d :: pt)).size = pt.length + 1 := by rw [toB_size]; rfl
  have hpl : 0 < pt.length := List.length_pos_iff.2 hpt
  have hz0 : 0 < (toB (c :: t)).size := by omega
  have hg0 : (toB (c :: t))[0]'hz0 = c := rfl
  have hz20 : 0 < (toB (d :: pt)).size := by omega
  have hg20 : (toB (d :: pt))[0]'hz20 = d := rfl
  have hp1 : ((pt.length : Int) + 1 == 1) = false := by rw [beq_eq_false_iff_ne]; omega
  have hp0 : ((0 : Int) == (pt.length : Int) + 1) = false := by rw [beq_eq_false_iff_ne]; omega
  have hcutc := cut_head c t
  have hcutd := cut_head d pt
  have k2 := K.cell 2
  have k3 := K.cell 3
  have k4 := K.cell 4
  have f2 := K.frozen 2
  have f3 := K.frozen 3
  have f4 := K.frozen 4
  have hdc : ((d.toNat : Int) != (c.toNat : Int)) = true := by
    rw [bne_iff_ne]
    intro e
    exact hcd (UInt8.toNat_inj.1 (by omega))
  have hmk := fun W => make_tab W
  unfold tabS at hmk
  have hla : a < w.heap.size := K.lt
  have hlG : G < w.heap.size := lt_of_cell' h5
  have hNa := Nat.ne_of_lt hla
  have hNG := Nat.ne_of_lt hlG
  unfold nodeC nilS at k2 k3 k4
  unfold ptr at *
  go_enter Tryz.func166, Tryz.ntmps166
  go_upto_region 5 with (fail)
  go_wp2
  refine wp_loop_rounds 1 ?_
  rw [rounds_succ]
  go_wp2
  go_region
  go_upto_region 15 with (fail)
  go_region
  go_upto_region 17 with (fail)
  generalize hE : ((w.alloc (.cells #[.string ⟨#[]⟩, .int .i64 0, .string (toB pt), .pointer (some ⟨nx, 0, none⟩), .slice none 0 0] 219)).alloc (.cells #[.string ⟨#[]⟩, .int .i64 0, .string ⟨#[]⟩, .pointer none, .slice none 0 0] 219)).drew.drew = E
  have Ka1 : Blk E a 219 (nodeC ⟨#[]⟩ 0 (toB (d :: pt)) (ptr nx) nilS) := by rw [← hE]; exact (K.alloc _).alloc _
  have KA1 : Blk E w.heap.size 219 (nodeC ⟨#[]⟩ 0 (toB pt) (ptr nx) nilS) := by rw [← hE]; exact (Blk.new w _ _).alloc _
  have KB1 : Blk E (w.heap.size + 1) 219 (nodeC ⟨#[]⟩ 0 ⟨#[]⟩ (.pointer none) nilS) := by
    rw [← hE]
    have := Blk.new (w.alloc (.cells #[.string ⟨#[]⟩, .int .i64 0, .string (toB pt), .pointer (some ⟨nx, 0, none⟩), .slice none 0 0] 219)) 219 #[.string ⟨#[]⟩, .int .i64 0, .string ⟨#[]⟩, .pointer none, .slice none 0 0]
    rw [size_al] at this
    exact this
  have hs1 : E.heap.size = w.heap.size + 2 := by rw [← hE]; show ((w.alloc _).alloc _).heap.size = _; rw [size_al, size_al]
  have hO1 : Oth a w E := by rw [← hE]; exact (((Oth.refl a w).alloc _).alloc _).drew.drew
  have g5 : E.cell? ⟨G, 5, none⟩ = some (.int .i64 11) := (hO1.cell hlG hGa).trans h5
  have gc : E.cell? ⟨G, 6 + c.toNat, none⟩ = some (.int .u8 (ix : Int)) := (hO1.cell hlG hGa).trans hmc
  have gd : E.cell? ⟨G, 6 + d.toNat, none⟩ = some (.int .u8 (id : Int)) := (hO1.cell hlG hGa).trans hmd
  clear hE K k2 k3 k4 f2 f3 f4 h5 hmc hmd
  have k2 := Ka1.cell 2
  have k3 := Ka1.cell 3
  have k4 := Ka1.cell 4
  have f4 := Ka1.frozen 4
  have hla1 : a < E.heap.size := Ka1.lt
  have hlG1 : G < E.heap.size := lt_of_cell' g5
  have hNa1 : ¬ a = E.heap.size := Nat.ne_of_lt hla1
  have hNG1 : ¬ G = E.heap.size := Nat.ne_of_lt hlG1
  have HS1 := Lib.hid hs1
  clear hs1
  unfold nodeC nilS ptr at k2 k3 k4
  go_upto_region 18 with (fail)
  obtain ⟨T, hT⟩ : ∃ T, T = E.heap.size := ⟨_, rfl⟩
  rw [← hT] at hNa1 hNG1 ⊢
  generalize hE2 : (E.setCell ⟨a, 4, none⟩ (.slice (some ⟨T, 0, none⟩) 11 11)).alloc (.cells (tabC nilP) 216) = E2
  have hsz : (E.setCell ⟨a, 4, none⟩ (.slice (some ⟨T, 0, none⟩) 11 11)).heap.size = T := by rw [hT]; simp
  have Ka2 : Blk E2 a 219 (nodeC ⟨#[]⟩ 0 (toB (d :: pt)) (ptr nx) (tabS T)) := by rw [← hE2]; exact Blk.alloc (Ka1.set_ 4 (tabS T)) _
  have KA2 : Blk E2 w.heap.size 219 (nodeC ⟨#[]⟩ 0 (toB pt) (ptr nx) nilS) := by rw [← hE2]; exact Blk.alloc (KA1.far (p := ⟨a, 4, none⟩) (fun e => hNa e.symm) _) _
  have KB2 : Blk E2 (w.heap.size + 1) 219 (nodeC ⟨#[]⟩ 0 ⟨#[]⟩ (.pointer none) nilS) := by rw [← hE2]; exact Blk.alloc (KB1.far (p := ⟨a, 4, none⟩) (by show ¬ _ = a; omega) _) _
  have KT2 : Blk E2 T 216 (tabC nilP) := by
    rw [← hE2]
    have := Blk.new (E.setCell ⟨a, 4, none⟩ (.slice (some ⟨T, 0, none⟩) 11 11)) 216 (tabC nilP)
    rw [hsz] at this
    exact this
  have hO2 : Oth a w E2 := by rw [← hE2]; exact (hO1.set_ (p := ⟨a, 4, none⟩) (.inl rfl) _).alloc _
  have hs2 : E2.heap.size = T + 1 := by rw [← hE2, size_al, hsz]
  have gc2 : E2.cell? ⟨G, 6 + c.toNat, none⟩ = some (.int .u8 (ix : Int)) := (hO2.cell hlG hGa).trans ((hO1.cell hlG hGa).symm.trans gc)
  have gd2 : E2.cell? ⟨G, 6 + d.toNat, none⟩ = some (.int .u8 (id : Int)) := (hO2.cell hlG hGa).trans ((hO1.cell hlG hGa).symm.trans gd)
  have hTw : T = w.heap.size + 2 := hT.trans HS1.out
  have HT := Lib.hid hTw
  have HS2 := Lib.hid hs2
  clear hE2 hsz Ka1 KA1 KB1 gc gd g5 k2 k3 k4 f4 hmk hs2 hla1 hlG1
  have haT : ¬ a = T := hNa1
  have hGT : ¬ G = T := hNG1
  have m2 := Ka2.cell 2
  have m4 := Ka2.cell 4
  have i0 : (0 : Int) ≤ (id : Int) := Int.natCast_nonneg _
  have i1 : (id : Int) < 11 := by omega
  have j0 : (0 : Int) ≤ (ix : Int) := Int.natCast_nonneg _
  have j1 : (ix : Int) < 11 := by omega
  have d0 : (0 : Int) ≤ (d.toNat : Int) := Int.natCast_nonneg _
  have d2 : d.toNat < 256 := d.toNat_lt
  have d1 : (d.toNat : Int) < 256 := by omega
  have c0 : (0 : Int) ≤ (c.toNat : Int) := Int.natCast_nonneg _
  have c2 : c.toNat < 256 := c.toNat_lt
  have c1 : (c.toNat : Int) < 256 := by omega
  have t1 := KT2.cell id
  rw [tabC_at _ hid] at t1
  have u1 := KT2.frozen id
  unfold nodeC ptr tabS at m2 m4
  unfold nilP at t1
  clear hT hTw
  go_region
  go_upto_region 19 with (fail)
  generalize hE3 : (E2.setCell ⟨T, id, none⟩ (.pointer (some ⟨w.heap.size, 0, none⟩))).drew = E3
  have hTA : ¬ w.heap.size = T := by rw [HT.out]; omega
  have hTB : ¬ w.heap.size + 1 = T := by rw [HT.out]; omega
  have hTw : w.heap.size ≤ T := by rw [HT.out]; omega
  have Ka3 : Blk E3 a 219 (nodeC ⟨#[]⟩ 0 (toB (d :: pt)) (ptr nx) (tabS T)) := by rw [← hE3]; exact Ka2.far (p := ⟨T, id, none⟩) haT _
  have KA3 : Blk E3 w.heap.size 219 (nodeC ⟨#[]⟩ 0 (toB pt) (ptr nx) nilS) := by rw [← hE3]; exact KA2.far (p := ⟨T, id, none⟩) hTA _
  have KB3 : Blk E3 (w.heap.size + 1) 219 (nodeC ⟨#[]⟩ 0 ⟨#[]⟩ (.pointer none) nilS) := by rw [← hE3]; exact KB2.far (p := ⟨T, id, none⟩) hTB _
  have KT3 : Blk E3 T 216 (tabC (updV nilP id (ptr w.heap.size))) := by
    rw [← hE3, ← tabC_set]
    exact KT2.set_ id (ptr w.heap.size)
  have hO3 : Oth a w E3 := by rw [← hE3]; exact (hO2.set_ (p := ⟨T, id, none⟩) (.inr hTw) _).drew
  have gc3 : E3.cell? ⟨G, 6 + c.toNat, none⟩ = some (.int .u8 (ix : Int)) := (hO3.cell hlG hGa).trans ((hO2.cell hlG hGa).symm.trans gc2)
  have hs3 : E3.heap.size = T + 1 := by rw [← hE3]; show (E2.setCell _ _).heap.size = _; simpa using HS2.out
  have HS3 := Lib.hid hs3
  clear hE3 Ka2 KA2 KB2 KT2 hO2 gc2 gd2 m2 m4 t1 u1 hs3
  have m2 := Ka3.cell 2
  have m3 := Ka3.cell 3
  have m4 := Ka3.cell 4
  have f2 := Ka3.frozen 2
  have f3 := Ka3.frozen 3
  have t1 := KT3.cell ix
  rw [tabC_at _ hix] at t1
  have u1 := KT3.frozen ix
  have hva : (¬ T = a) := fun e => haT e.symm
  unfold nodeC ptr tabS at m2 m3 m4
  generalize updV nilP id (ptr w.heap.size) ix = old at *
  go_region
  go_upto_region 22 with (fail)
  generalize hE4 : (((E3.setCell ⟨T, ix, none⟩ (.pointer (some ⟨w.heap.size + 1, 0, none⟩))).setCell ⟨a, 2, none⟩ (.string ⟨#[]⟩)).setCell ⟨a, 3, none⟩ (.pointer none)).drew = E4
  have hNb : ¬ w.heap.size + 1 = a := by omega
  have Ka4 : Blk E4 a 219 (nodeC ⟨#[]⟩ 0 ⟨#[]⟩ (.pointer none) (tabS T)) := by
    rw [← hE4]
    exact ((Ka3.far (p := ⟨T, ix, none⟩) haT _).set_ 2 (.string ⟨#[]⟩)).set_ 3 (.pointer none)
  have KA4 : Blk E4 w.heap.size 219 (nodeC ⟨#[]⟩ 0 (toB pt) (ptr nx) nilS) := by
    rw [← hE4]
    exact ((KA3.far (p := ⟨T, ix, none⟩) hTA _).far (p := ⟨a, 2, none⟩) (fun e => hNa e.symm) _).far (p := ⟨a, 3, none⟩) (fun e => hNa e.symm) _
  have KB4 : Blk E4 (w.heap.size + 1) 219 (nodeC ⟨#[]⟩ 0 ⟨#[]⟩ (.pointer none) nilS) := by
    rw [← hE4]
    exact ((KB3.far (p := ⟨T, ix, none⟩) hTB _).far (p := ⟨a, 2, none⟩) hNb _).far (p := ⟨a, 3, none⟩) hNb _
  have KT4 : Blk E4 T 216 (tabC (updV (updV nilP id (ptr w.heap.size)) ix (ptr (w.heap.size + 1)))) := by
    rw [← hE4, ← tabC_set]
    exact ((KT3.set_ ix (ptr (w.heap.size + 1))).far (p := ⟨a, 2, none⟩) hva _).far (p := ⟨a, 3, none⟩) hva _
  have hO4 : Oth a w E4 := by rw [← hE4]; exact (((hO3.set_ (p := ⟨T, ix, none⟩) (.inr hTw) _).set_ (p := ⟨a, 2, none⟩) (.inl rfl) _).set_ (p := ⟨a, 3, none⟩) (.inl rfl) _).drew
  have hs4 : E4.heap.size = w.heap.size + 3 := by
    rw [← hE4]
    show (((E3.setCell _ _).setCell _ _).setCell _ _).heap.size = _
    have := HS3.out
    have := HT.out
    simp
    omega
  clear hE4 Ka3 KA3 KB3 KT3 hO3 gc3 m2 m3 m4 t1 u1 f2 f3
  have cf := add_fresh (w.heap.size + 1) t ht val prio (ptr G) E4 KB4
  rw [hs4] at cf
  unfold ptr at cf
  clear hs4 HS2 HS3
  go_wp2_with (go_at_call 166; (with_reducible refine cf.mono ?_); rintro e w1 ⟨rfl, KB5, KN5, hO5⟩)
  first | go_end0 | refine bodyPost_ret (results_none rfl _ _ _) rfl ?_
  rw [HT.out] at Ka4 KT4
  have hTB2 : ¬ w.heap.size + 2 = w.heap.size + 1 := by omega
  have hTB3 : ¬ w.heap.size = w.heap.size + 1 := by omega
  exact ⟨rfl, blk_oth Ka4 hO5 (fun e => hNb e.symm), blk_oth KA4 hO5 hTB3, KB5, blk_oth KT4 hO5 hTB2, KN5, hO4.trans hO5 (.inr (Nat.le_succ _))⟩
end Rep
end Go.Proofs.YteopighhhcikcaaGreatDoor
