/- Rows of whole numbers: sorted, and what comes twice struck. -/
import Derived.Test.YtmbhlmpdkkjedaaPp
import Derived.Test.YtmbhlmpdkkjedaaPn
import Derived.Test.YtmbhlmpdkkjedaaShelf
import Derived.Sort.OwnSortedInts
namespace Go.Proofs.Ytmbhlmpdkkjedaa.To
open Go.Sort Go.ChangeShapes Go.WideShapes Go.ChangeAt Go.RowKit
open Go.Proofs.Ytmbhlmpdkkjedaa.Al

abbrev ints (L : List Int) : List Value := L.map (Value.int .i64)
theorem srt_len (L : List Int) : (srt L).length = L.length := (srt_perm L).length_eq
theorem sort_any (L : List Int) (c : Nat) (w w0 : World) (B g : Nat) (hb : Below B w0 w) (h : w.ownsRow B 2 1 (.slice (some ⟨g, 0, none⟩) L.length c) L.length (ints L)) (hl : L.length ≤ 1000) :
    Calls Try.prog 50 #[.slice (some ⟨g, 0, none⟩) L.length c] w fun e w' => e = .returned (.tuple #[]) ∧ w'.ownsRow B 2 1 (.slice (some ⟨g, 0, none⟩) L.length c) L.length (ints (srt L)) ∧ Below B w0 w' := by
  rcases h.2 with ⟨h0, _⟩ | ⟨g', c', cur, hv, hbg, hh, hc, hm, hs, ht⟩
  · cases h0
  · simp at hv
    obtain ⟨rfl, rfl⟩ := hv
    have hg : g < w.heap.size := (Array.getElem?_eq_some_iff.1 hh).1
    refine (Try.slices_Sort_int g 0 c L w (holds_of_blockI hh (by simpa using ht)) hg (by omega)).mono ?_
    rintro e w' ⟨rfl, n, os, rfl⟩
    refine ⟨rfl, ?_, ?_⟩
    · exact ownsRow_sortedI (ss := L) (ts := srt L) (srt_len L) hbg hh hc hm hs
    · exact hb.grown (grownBy_sortedI _) (by omega) (fun k hk => by cases hk; exact hbg)
theorem comp_len (L : List Int) : (Lib.compact L).length ≤ L.length := by
  unfold Lib.compact Lib.compactUpTo
  rw [List.length_map]
  have := List.length_filter_le (Lib.keeps L.toArray) (List.range L.length)
  simpa using this
theorem compact_any (L : List Int) (c : Nat) (w w0 : World) (B g : Nat) (hb : Below B w0 w) (h : w.ownsRow B 2 1 (.slice (some ⟨g, 0, none⟩) L.length c) L.length (ints L)) (hl : L.length ≤ 1000) :
    Calls Try.prog 51 #[.slice (some ⟨g, 0, none⟩) L.length c] w fun e w' => e = .returned (.slice (some ⟨g, 0, none⟩) (Lib.compact L).length c) ∧ w'.ownsRow B 2 1 (.slice (some ⟨g, 0, none⟩) L.length c) L.length (ints (Lib.compact L ++ List.replicate (L.length - (Lib.compact L).length) 0)) ∧ Below B w0 w' := by
  rcases h.2 with ⟨h0, _⟩ | ⟨g', c', cur, hv, hbg, hh, hc, hm, hs, ht⟩
  · cases h0
  · simp at hv
    obtain ⟨rfl, rfl⟩ := hv
    have hg : g < w.heap.size := (Array.getElem?_eq_some_iff.1 hh).1
    have hcl := comp_len L
    refine (Try.slices_Compact_int g 0 c L w (holds_of_blockI hh (by simpa using ht)) (by omega) hc).mono ?_
    rintro e w' ⟨rfl, n, rfl⟩
    rw [← grow_empty (putRow _ _ _ _ _)]
    refine ⟨rfl, ?_, ?_⟩
    · exact ownsRow_sortedI (ss := L) (ts := Lib.compact L ++ List.replicate (L.length - (Lib.compact L).length) 0) (by simp; omega) hbg hh hc hm hs
    · exact hb.grown (grownBy_sortedI _) (by omega) (fun k hk => by cases hk; exact hbg)
end Go.Proofs.Ytmbhlmpdkkjedaa.To
