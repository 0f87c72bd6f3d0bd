/- token.Sign. Conditions: the text is not too long. -/
import Derived.Test.YteopighhhcikcaaGreatDoorSgC
import Derived.Test.YteopighhhcikcaaGreatDoorRepK
namespace Go.Proofs.YteopighhhcikcaaGreatDoor
open Go.ChangeShapes Go.WideShapes Go.ChangeAt Go.RowKit
namespace Sg
open Rep (TxAt Oth)
open RowG (Row)
theorem row_set {α : Type} {w : World} {base k g i : Nat} {e t : TypeId} {enc : α → List Value} {v : Value} {l : List α} {cs : Array Value} (h : Row w base e k enc v l) (K : Blk w g t cs) (ht : e ≠ t) (u : Value) : Row (w.setCell ⟨g, i, none⟩ u) base e k enc v l :=
  ownsRow_setCell_other h (a := ⟨g, i, none⟩) (own_blk_ne h K ht) u
theorem bs_set {w : World} {G b i : Nat} {ps : List Pr} {cs : Array Value} (h : BsOk w G ps) (K : Blk w b 130 cs) (v : Value) : BsOk (w.setCell ⟨b, i, none⟩ v) G ps := by
  obtain ⟨rep, A, c, KG, hR, hrow⟩ := h
  exact ⟨rep, A, c, KG.far (p := ⟨b, i, none⟩) (Blk.ne_ KG K (by decide)) v, hR.next (fun g l h => h.far (p := ⟨b, i, none⟩) (h.ne K (by decide)) v), row_set hrow K (by decide) v⟩
theorem bs_next {w w' : World} {G : Nat} {ps : List Pr} (h : BsOk w G ps) (hb : Below w.heap.size w w') : BsOk w' G ps := by
  obtain ⟨rep, A, c, KG, hR, hrow⟩ := h
  exact ⟨rep, A, c, KG.next hb, hR.next (fun g l h => h.next hb), hrow.below hb⟩
/-- What is asked of pairs. -/
def PsOk (ps : List Pr) : Prop := 2 ≤ ps.length ∧ ps.length ≤ 10 ∧ (ps.map (·.1)).Nodup ∧ ∀ p ∈ ps, 2 ≤ p.2.length ∧ p.2.length ≤ 100
def SignR (ps : List Pr) (w0 : World) (W : World) (X : Value) : Prop := ∃ G, X = .iface 196 (.pointer (some ⟨G, 0, none⟩)) ∧ BsOk W G ps ∧ Below w0.heap.size w0 W
set_option maxRecDepth 100000 in
set_option maxHeartbeats 8000000 in
theorem once_sign (ps : List Pr) (hp : PsOk ps) (w0 : World) (b q cap : Nat) (w : World) (hb : w0.heap.size ≤ b) (hB0 : Below w0.heap.size w0 w) (K : Blk w b 130 #[.int .u32 0, .int .i32 1, .int .u32 0, .nilIface, .slice (some ⟨q, 0, none⟩) (flat ps).length cap]) (hx : TxAt w q (flat ps)) :
    Calls Tryz.prog 95 #[.pointer (some ⟨b, 0, none⟩)] w fun e w' => e = .returned (.tuple #[]) ∧ ∃ X, Blk w' b 130 #[.int .u32 0, .int .i32 1, .int .u32 0, X, .slice none 0 0] ∧ SignR ps w0 w' X := by
  have cb := build_any ps hp.1 hp.2.1 hp.2.2.1 hp.2.2.2 b q cap w K hx
  have hlt := K.lt
  go_enter Tryz.func95, Tryz.ntmps95
  go_wp2_with (go_at_call 126; (with_reducible refine cb.mono ?_); rintro e w1 ⟨⟨G, rfl, hGb, hG⟩, hB⟩
               have K1 := K.next hB
               have k3 := K1.cell 3
               have k4 := K1.cell 4
               have f3 := K1.frozen 3
               have f4 := K1.frozen 4)
  first | go_end0 | refine bodyPost_ret (results_none rfl _ _ _) rfl ?_
  have K2 := K1.set_ 3 (.iface 196 (.pointer (some ⟨G, 0, none⟩)))
  have hG2 := bs_set (i := 4) (bs_set (i := 3) hG K1 (.iface 196 (.pointer (some ⟨G, 0, none⟩)))) K2 (.slice none 0 0)
  exact ⟨rfl, _, K2.set_ 4 _, G, rfl, hG2, below_set (below_set (below_next hB0 hB) (p := ⟨b, 3, none⟩) hb _) (p := ⟨b, 4, none⟩) hb _⟩
theorem method_bs (f G : Nat) (w : World) : (method (f + 1) 196 (.pointer (some ⟨G, 0, none⟩)) "Replace").run Tryz.prog w = .ok (220, .pointer (some ⟨G, 0, none⟩)) w := by kernel_rfl
set_option maxRecDepth 100000 in
set_option maxHeartbeats 8000000 in
theorem replace_sign (ps : List Pr) (hp : PsOk ps) (l : List UInt8) (hl : l.length ≤ 100000) (w0 : World) (b q cap : Nat) (w : World) (hb : w0.heap.size ≤ b) (hB : Below w0.heap.size w0 w) (K : Blk w b 130 #[.int .u32 0, .int .i32 0, .int .u32 0, .nilIface, .slice (some ⟨q, 0, none⟩) (flat ps).length cap]) (hx : TxAt w q (flat ps)) (hqb : ¬ q = b) :
    Calls Tryz.prog 61 #[.pointer (some ⟨b, 0, none⟩), .string (toB l)] w fun e w' => e = .returned (.string (toB (subL ps l))) ∧ Below w0.heap.size w0 w' := by
  have cd := Once.do_first b .nilIface (.slice (some ⟨q, 0, none⟩) (flat ps).length cap) (SignR ps w0) w K (fun W hK hW => by
    subst hW
    exact once_sign ps hp w0 b q cap _ hb (below_set hB (p := ⟨b, 1, none⟩) hb _) hK (hx.far (p := ⟨b, 1, none⟩) hqb _))
  have hme : ∀ G w, (method 383 196 (.pointer (some ⟨G, 0, none⟩)) "Replace").run Tryz.prog w = .ok (220, .pointer (some ⟨G, 0, none⟩)) w := fun G w => method_bs 382 G w
  have hmf : ∀ (fn : Fn) (first cap : Array Value) (w : World), (Instr.makeFunc fn first cap).run Tryz.prog w = .ok (.func fn first cap) w := fun _ _ _ _ => rfl
  have cr := fun G w h => repl_any ps hp.1 hp.2.1 hp.2.2.1 hp.2.2.2 l hl G w h
  generalize toB l = s at *
  generalize toB (subL ps l) = R at *
  clear hx
  go_enter Tryz.func61, Tryz.ntmps61
  go_wp2_with (first
    | (go_at_call 94; (with_reducible refine cd.mono ?_); rintro e w2 ⟨rfl, W0, X, KX, ⟨G, rfl, hG, hB0⟩, rfl⟩
       have K1 := KX.set_ 0 (.int .u32 1)
       have k3 := KX.cell 3
       have hG2 : BsOk ((W0.setCell ⟨b, 0, none⟩ (.int .u32 1)).setCell ⟨b, 1, none⟩ (.int .i32 0)).drew G ps := bs_set (i := 1) (bs_set (i := 0) hG KX (.int .u32 1)) K1 (.int .i32 0)
       have hB2 : Below w0.heap.size w0 ((W0.setCell ⟨b, 0, none⟩ (.int .u32 1)).setCell ⟨b, 1, none⟩ (.int .i32 0)).drew := (below_set (below_set hB0 (p := ⟨b, 0, none⟩) hb (.int .u32 1)) (p := ⟨b, 1, none⟩) hb (.int .i32 0)).drew)
    | (go_at_call 220; (with_reducible refine (cr _ _ hG2).mono ?_); rintro e w3 ⟨rfl, hb3⟩))
  go_ret
  exact ⟨rfl, below_next hB2 hb3⟩
def psT (q : Bool) : List Pr := [(38, [38, 97, 109, 112, 59]), (60, [38, 108, 116, 59]), (62, [38, 103, 116, 59])] ++ (if q then [(34, [38, 113, 117, 111, 116, 59])] else [])
theorem psT_ok (q : Bool) : PsOk (psT q) := by
  cases q
  · exact ⟨by decide, by decide, by decide, by decide⟩
  · exact ⟨by decide, by decide, by decide, by decide⟩
theorem rL_sg (q : Bool) (c : UInt8) : rL (psT q) c = Tok.sgC q c := by
  unfold rL Tok.sgC psT
  by_cases h1 : c = 38
  · subst h1; rfl
  · by_cases h2 : c = 60
    · subst h2; rfl
    · by_cases h3 : c = 62
      · subst h3; rfl
      · have n1 : ¬ (38 : UInt8) = c := fun e => h1 e.symm
        have n2 : ¬ (60 : UInt8) = c := fun e => h2 e.symm
        have n3 : ¬ (62 : UInt8) = c := fun e => h3 e.symm
        rw [if_neg h1, if_neg h2, if_neg h3]
        cases q
        · simp [look, n1, n2, n3]
        · by_cases h4 : c = 34
          · subst h4; rfl
          · have n4 : ¬ (34 : UInt8) = c := fun e => h4 e.symm
            simp [look, n1, n2, n3, n4, h4]
theorem sub_sign (q : Bool) (l : List UInt8) : subL (psT q) l = Tok.signL q l := by
  induction l with
  | nil => rfl
  | cons c t ih => show rL (psT q) c ++ subL (psT q) t = Tok.sgC q c ++ Tok.signL q t; rw [rL_sg, ih]
set_option maxRecDepth 100000 in
set_option maxHeartbeats 8000000 in
/-- Sign answers what is signed. -/
theorem sign_any (l : List UInt8) (q : Bool) (hl : l.length ≤ 100000) (w : World) : Calls Tryz.prog 24 #[.string (toB l), .bool q] w fun e w' => e = .returned (.string (toB (Tok.signL q l))) ∧ Below w.heap.size w w' := by
  rw [← sub_sign]
  cases q with
  | false =>
    have hT := Rep.tx_new w (flat (psT false)) 9
    have hB := below_al (Below.refl w.heap.size w) (.cells (strs (flat (psT false))).toArray 9)
    have cn := Rep.new_any (flat (psT false)) (by decide) (by decide) (by decide) w.heap.size 6 _ hT
    have cr := fun b q cap W hb hB K hx hqb => replace_sign (psT false) (psT_ok false) l hl w b q cap W hb hB K hx hqb
    have hz := size_al w (.cells (strs (flat (psT false))).toArray 9)
    generalize toB l = s at *
    generalize toB (subL (psT false) l) = R at *
    go_enter Tryz.func24, Tryz.ntmps24
    go_wp2_with (first
      | (go_at_call 60; (refine cn.mono ?_); rintro e w2 ⟨q, b, cap, rfl, K2, hx2, hqb, hq, hb, hb2⟩
         have hB2 := below_next hB hb2
         have hb3 : w.heap.size ≤ b := by omega)
      | (go_at_call 61; (with_reducible refine (cr b q cap _ hb3 hB2 K2 hx2 hqb).mono ?_); rintro e w3 ⟨rfl, hB3⟩))
    go_ret
    exact ⟨rfl, hB3⟩
  | true =>
    have hB := below_al (Below.refl w.heap.size w) (.cells (strs (flat (psT false))).toArray 9)
    have hown : (w.alloc (.cells (strs (flat (psT false))).toArray 9)).ownsRow w.heap.size 9 1 (.slice (some ⟨w.heap.size, 0, none⟩) 6 6) 6 (strs (flat (psT false))) :=
      ⟨rfl, .inr ⟨w.heap.size, 6, (strs (flat (psT false))).toArray, rfl, Nat.le_refl _, heap_alloc_new w _, Nat.le_refl _, by decide, rfl, rfl⟩⟩
    obtain ⟨i0, hi0, hz0, hz1, hz2⟩ := Rep.str_info'
    have hB2 := below_al hB (.cells (strs [[34], [38, 113, 117, 111, 116, 59]]).toArray 9)
    have hnc := RowG.new_cells (w.alloc (.cells (strs (flat (psT false))).toArray 9)) 9 (strs [[34], [38, 113, 117, 111, 116, 59]])
    rw [size_al] at hnc
    have hr : Reads ((w.alloc (.cells (strs (flat (psT false))).toArray 9)).alloc (.cells (strs [[34], [38, 113, 117, 111, 116, 59]]).toArray 9)) (w.heap.size + 2) 1 (some ⟨w.heap.size + 1, 0, none⟩) 2 (strs [[34], [38, 113, 117, 111, 116, 59]]) :=
      ⟨rfl, fun _ => ⟨_, rfl, Nat.lt_succ_self _, fun j u hu => by rw [add_zero_]; exact hnc j u hu⟩⟩
    obtain ⟨v', w', hrun, hown', hg, -⟩ := run_append_any (P := Tryz.prog) _ w.heap.size 87 87 9 i0 _ 1 16 Tryz.underlying87 hi0 hz0 hz1 hz2 rfl (by decide) _ 6 _ (World.ownsRow.alloc hown (.cells (strs [[34], [38, 113, 117, 111, 116, 59]]).toArray 9)) (w.heap.size + 2) _ 2 2 _ hr (by
      intro u hu
      simp only [strs, List.map_cons, List.map_nil, List.mem_cons, List.not_mem_nil, or_false] at hu
      rcases hu with rfl | rfl <;> rfl) (by decide) (by decide) hB2.size
    have hbg : Below w.heap.size w w' := hB2.grown hg hB2.size (fun k hk => (World.ownsRow.lt hown k hk).1)
    obtain ⟨g, cap, rfl, hcell⟩ : ∃ g cap, v' = .slice (some ⟨g, 0, none⟩) 8 cap ∧ TxAt w' g (flat (psT true)) := by
      rcases hown'.2 with ⟨-, h0⟩ | ⟨g, cap, cur, rfl, h1, h2, h3, h4, h5, h6⟩
      · exact absurd h0 (by decide)
      · refine ⟨g, cap, rfl, ?_, fun j x hj => ?_⟩
        · exact (Array.getElem?_eq_some_iff.1 h2).1
        · rw [cell_of_row w' g j cur _ _ h2]
          have hlt : j < 8 := (List.getElem?_eq_some_iff.1 hj).1
          have h7 : (cur.toList.take 8)[j]? = some x := by
            have e : cur.toList.take (8 * 1) = strs (flat (psT true)) := h6
            rw [Nat.mul_one] at e
            rw [e]; exact hj
          rw [List.getElem?_take, if_pos hlt] at h7
          simpa using h7
    have cn := Rep.new_any (flat (psT true)) (by decide) (by decide) (by decide) g cap w' hcell
    have cr := fun b q cap W hb hB K hx hqb => replace_sign (psT true) (psT_ok true) l hl w b q cap W hb hB K hx hqb
    have hsz := hbg.size
    generalize toB l = s at *
    generalize toB (subL (psT true) l) = R at *
    clear hr hnc hown hown' hi0 hz0 hz1 hz2 hcell
    go_enter Tryz.func24, Tryz.ntmps24
    go_wp2_with (first
      | (refine Rep.wpList_app (by rfl) (.tmp 8) (.tmp 9) 87 (by rfl) (.slice (some ⟨w.heap.size, 0, none⟩) 6 6) (.slice (some ⟨w.heap.size + 1, 0, none⟩) 2 2) _ _ (by rfl) (by rfl) hrun ?_)
      | (go_at_call 60; (refine cn.mono ?_); rintro e w2 ⟨q, b, cap2, rfl, K2, hx2, hqb, hq, hb, hb2⟩
         have hB2 := below_next hbg hb2
         have hb3 : w.heap.size ≤ b := by omega)
      | (go_at_call 61; (with_reducible refine (cr b q cap2 _ hb3 hB2 K2 hx2 hqb).mono ?_); rintro e w3 ⟨rfl, hB3⟩))
    go_ret
    exact ⟨rfl, hB3⟩
end Sg
end Go.Proofs.YteopighhhcikcaaGreatDoor
