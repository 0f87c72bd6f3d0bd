/- (*strings.genericReplacer).Replace, over the four signs. Conditions: the trie lies in memory; the text is not too long. -/
import Derived.Test.YteopighhhcikcaaGreatDoorRepI
namespace Go.Proofs.YteopighhhcikcaaGreatDoor
open Go.ChangeShapes Go.WideShapes Go.ChangeAt Go.RowKit
namespace Rep
/-- The writer's bytes as a text. -/
theorem asw_text {w : World} {base : Nat} {v : Value} {l : List UInt8} (h : Bys w base v l) : (convert 266 9 v).run Tryz.prog w = .ok (.string ⟨l.toArray⟩) w := by
  rcases h.2 with ⟨rfl, h0⟩ | ⟨g, cap, cur, rfl, hb, hg, hc, hm, hsz, ht⟩
  · obtain rfl : l = [] := List.eq_nil_of_length_eq_zero h0
    rw [run_convert_bytes_string w 266 9 5 none 0 0 Tryz.underlying266 Tryz.underlying5 Tryz.underlying9]
    simp [Conv.bytesToString, Sem.run_pure]
    rfl
  · refine run_convert_bytes_back w 266 9 5 ⟨g, 0, none⟩ cap l Tryz.underlying266 Tryz.underlying5 Tryz.underlying9 fun j hj => ?_
    rw [add_zero_]
    have hr := (Reads.of_own h).2 (by omega)
    obtain ⟨ad, e, _, hcc⟩ := hr
    injection e with e
    subst e
    have := hcc j (bv l[j]) (by rw [List.getElem?_map, List.getElem?_eq_getElem hj]; rfl)
    rwa [add_zero_] at this
set_option maxRecDepth 100000 in
set_option maxHeartbeats 8000000 in
theorem rep_any (l : List UInt8) (hl : l.length ≤ 1000000) (G : Nat) (w : World) (hG : GenOk w G) :
    Calls Tryz.prog 214 #[ptr G, .string (toB l)] w fun e w' => e = .returned (.string (toB (tellL l))) ∧ Below w.heap.size w w' := by
  obtain ⟨i0, hi0, hz0, hz1, hz2⟩ := info_parts u8_info
  have hz : (toB l).size = l.length := toB_size l
  obtain ⟨w1, hrun, hown, hg⟩ := run_make_own (P := Tryz.prog) (w := w) w.heap.size 266 5 i0 _ 1 Tryz.underlying266 hi0 hz0 hz1 .i64 .i64 l.length (by rw [hz2]; omega) (by simp only [maxLen]; omega) (Nat.le_refl _)
  have hB1 : Below w.heap.size w w1 := (Below.refl _ _).grown hg (Nat.le_refl _) (fun k hk => by cases hk)
  have hown1 : Bys w1 w.heap.size (.slice (some ⟨w.heap.size, 0, none⟩) 0 l.length) [] := hown
  have hG1 := gen_next hG hB1
  have K := Blk.new w1 266 #[.slice (some ⟨w.heap.size, 0, none⟩) 0 l.length]
  have cw := ws_any l hl G w1.heap.size (.slice (some ⟨w.heap.size, 0, none⟩) 0 l.length) w (w1.alloc (.cells #[.slice (some ⟨w.heap.size, 0, none⟩) 0 l.length] 266)) (gen_next hG1 (below_al (Below.refl _ _) _)) K (hown1.alloc _) hB1.size (below_al hB1 _)
  unfold ptr at *
  generalize toB l = s at *
  clear hown hi0 hz0 hz1 hz2 hG hG1 K
  go_enter Tryz.func214, Tryz.ntmps214
  go_wp2_with (go_at_call 215; (with_reducible refine cw.mono ?_); rintro e w2 ⟨⟨n, rfl⟩, v2, K2, ho2, hB2⟩
               have k2 := K2.cell 0
               obtain ⟨A2, n2, c2, rfl⟩ := bys_slice ho2
               have hcv := asw_text ho2)
  go_ret
  exact ⟨rfl, hB2⟩
end Rep
end Go.Proofs.YteopighhhcikcaaGreatDoor
