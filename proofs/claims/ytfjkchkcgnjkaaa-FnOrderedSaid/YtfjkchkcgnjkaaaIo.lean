/- Lists of floats: copied, opened; Order of the program. -/
import Derived.Test.YtfjkchkcgnjkaaaSd
import Derived.Test.YtfjkchkcgnjkaaaFlM
import Derived.Test.YtfjkchkcgnjkaaaIf
import Derived.Laws.CopyOwn
namespace Go.Proofs.Ytfjkchkcgnjkaaa.Fls
open Go.ChangeShapes Go.WideShapes Go.ChangeAt Go.RowKit Go.Deep
open Go.Proofs.Ytfjkchkcgnjkaaa.Flt
attribute [local go_sem] run_store_flt
set_option maxHeartbeats 1000000 in
theorem to_own (w : World) (v : Value) (L : List Nat) (h : Reads w v L) (hl : L.length ≤ 1048576) :
    Calls Try.prog 6 #[v] w fun e w' => e = .returned (.slice (some ⟨w.heap.size, 0, none⟩) L.length L.length) ∧ w'.ownsRow w.heap.size 31 1 (.slice (some ⟨w.heap.size, 0, none⟩) L.length L.length) L.length (flts L) ∧ Below w.heap.size w w' := by
  obtain ⟨i0, hi, hzz⟩ := Option.map_eq_some_iff.1 Fls.Try.info31
  have hz0 : i0.zero = some (.float .f64 0) := congrArg Prod.fst hzz
  have hz1 : i0.size = 1 := congrArg (fun q => q.2.1) hzz
  have hz2 : i0.bytes = 8 := congrArg (fun q => q.2.2) hzz
  clear hzz
  have hcell : ∃ f : Nat → Nat × Nat, (∀ i, i < L.length → w.cell? ⟨(f 0).1, (f 0).2 + i, none⟩ = some (.float .f64 (L.getD i 0))) ∧ (0 < L.length → (f 0).1 < w.heap.size ∧ ∃ cap, v = .slice (some ⟨(f 0).1, (f 0).2, none⟩) L.length cap) := by
    rcases h with ⟨rfl, _⟩ | ⟨b, o, cap, h1, h2, h3, h4, h5⟩
    · exact ⟨fun _ => (0, 0), fun i hi => by simp at hi, fun hi => by simp at hi⟩
    · exact ⟨fun _ => (b, o), h5, fun _ => ⟨h4, cap, h1⟩⟩
  obtain ⟨f, hc, hv⟩ := hcell
  obtain ⟨a, cap, rfl⟩ := h.form
  have hcap : L.length ≤ 1048576 := hl
  have HC : Hid (∀ i, i < L.length → w.cell? ⟨(f 0).1, (f 0).2 + i, none⟩ = some (.float .f64 (L.getD i 0))) := hc
  have HV : Hid (0 < L.length → (f 0).1 < w.heap.size ∧ a = some ⟨(f 0).1, (f 0).2, none⟩) := fun hi => by
    obtain ⟨h1, c, h2⟩ := hv hi
    simp at h2
    exact ⟨h1, h2.1⟩
  have FZ : Hid ((madeCells (Value.float .f64 0).cells (L.length * 1)).toList = flts (fill L 0)) := fill_zero L
  obtain ⟨n, hn⟩ : ∃ n, n = L.length := ⟨_, rfl⟩
  rw [← hn] at hl FZ ⊢
  have HN : Hid (n = L.length) := hn
  clear h hc hv hn hcap
  go_enter Try.func6, Try.ntmps6
  go_wp2_with (at_make; refine wpList_make_full _ rfl _ _ 22 rfl w.heap.size 31 i0 (.float .f64 0) 1 Try.underlying22 hi hz0 hz1 .i64 .i64 (n : Int) (n : Int) n rfl rfl rfl rfl (by rw [hz2]; omega) (by unfold maxLen; omega) (Nat.le_refl _) ?_; intro w4 hown hgrow)
  rw [FZ.out] at hown
  have R0 : Hid (w4.ownsRow w.heap.size 31 1 (.slice (some ⟨w.heap.size, 0, none⟩) n n) n (flts (fill L 0))) := hown
  have B0 : Hid (Below w.heap.size w w4) := (Below.refl _ _).grown hgrow (Nat.le_refl _) (fun k hk => by cases hk)
  clear hown hgrow
  go_loopw [4] (fun c wr => ∃ j : Nat, j ≤ n ∧ c = .int .i64 j ∧ Hid (wr.ownsRow w.heap.size 31 1 (.slice (some ⟨w.heap.size, 0, none⟩) n n) n (flts (fill L j))) ∧ Hid (Below w.heap.size w wr)) (fun c _ => n - (intOf c).toNat)
  case atStart => exact ⟨0, Nat.zero_le _, rfl, R0, B0⟩
  case round =>
    obtain ⟨j, hj, rfl, R, BB⟩ := hrel
    by_cases hlt : j < n
    · have hlt' : j < L.length := by rw [← HN.out]; exact hlt
      obtain ⟨v1, v2⟩ := HV.out (by omega)
      subst v2
      have i0 : (0 : Int) ≤ (j : Int) := by omega
      have i1 : (j : Int) < (n : Int) := by omega
      have q0 : wr.cell? ⟨(f 0).1, (f 0).2 + j, none⟩ = some (.float .f64 (L.getD j 0)) := (BB.out.cell (p := ⟨(f 0).1, (f 0).2 + j, none⟩) v1).trans (HC.out j hlt')
      have q1 : ∃ z, wr.cell? ⟨w.heap.size, j, none⟩ = some (.float .f64 z) := by
        have := R.out.cellAt j (by omega)
        rw [this]
        have hl : j < (fill L j).length := by rw [fill_len]; exact hlt'
        exact ⟨(fill L j)[j], by simp [flts, List.getElem?_map, List.getElem?_eq_getElem hl]⟩
      obtain ⟨z, q1⟩ := q1
      have q2 : wr.frozen? ⟨w.heap.size, j, none⟩ = false := R.out.frozenAt j
      have R' : Hid ((wr.setCell ⟨w.heap.size, j, none⟩ (.float .f64 (L.getD j 0))).ownsRow w.heap.size 31 1 (.slice (some ⟨w.heap.size, 0, none⟩) n n) n (flts (fill L (j + 1)))) := by
        show World.ownsRow _ _ _ _ _ _ _
        rw [← fill_set, ← flts_set]
        exact (R.out.stored j _).1
      have B' : Hid (Below w.heap.size w (wr.setCell ⟨w.heap.size, j, none⟩ (.float .f64 (L.getD j 0)))) := BB.out.setCell (p := ⟨w.heap.size, j, none⟩) (Nat.le_refl _) _
      generalize L.getD j 0 = x at *
      go_wp2_with fail
      go_roundw
      case rel => exact ⟨j + 1, by omega, by go_num, R', B'⟩
      case measure => simp [intOf]; omega
    · have hjn : j = n := by omega
      subst hjn
      have RE : Hid (wr.ownsRow w.heap.size 31 1 (.slice (some ⟨w.heap.size, 0, none⟩) j j) j (flts L)) := by
        show World.ownsRow _ _ _ _ _ _ _
        have := R.out
        rw [HN.out, fill_all] at this
        rw [HN.out]
        exact this
      clear R
      go_wp2_with fail
      go_ret
      exact ⟨rfl, RE.out, BB.out⟩

variable {H : Type} {enc : TypeId × Value → H} {w : World} {base : Nat} {spare : Nat → Bool} {held : Bool}
theorem float_of_trod {fuel : Nat} {c : Value} {y : DataW H × List MemPlace} (h : DataW.trod enc Try.prog w base spare held fuel 31 [c] = some y) : ∃ b, c = .float .f64 b ∧ b < 18446744073709551616 := by
  cases fuel with
  | zero => simp [DataW.trod] at h
  | succ n =>
    cases c <;> simp [DataW.trod, Try.underlying31] at h
    rename_i k b
    obtain ⟨⟨rfl, hb⟩, _⟩ := h
    exact ⟨b, rfl, by simpa [Lit.wf] using hb⟩

theorem openFloats {v : Value} {fuel : Nat} {x : DataW H × List MemPlace} {a : Option Addr} {len cap : Nat} (hv : v = .slice a len cap) (h : DataW.trod enc Try.prog w base spare held fuel 22 v.cells.toList = some x) :
    ∃ L : List Nat, Reads w v L ∧ ∀ z ∈ L, z < 18446744073709551616 := by
  subst hv
  rcases open_slice Try.underlying22 h with ⟨hcs, _⟩ | ⟨ad, l, c, m, n, D, Pl, hcs, _, hl, hm, hmm, _, hel⟩
  · simp [Value.cells] at hcs
    obtain ⟨rfl, rfl, rfl⟩ := hcs
    exact ⟨[], Or.inl ⟨rfl, _, _, rfl⟩, fun z hz => by simp at hz⟩
  · simp [Value.cells] at hcs
    obtain ⟨rfl, rfl, rfl⟩ := hcs
    have hle : len ≤ m := by rw [hmm]; split <;> omega
    have hone : ∀ i, i < len → ∃ b, w.cell? (ad.add i) = some (.float .f64 b) ∧ b < 18446744073709551616 := by
      intro i hi
      obtain ⟨cs', h1, h2⟩ := hel i (by omega)
      rw [cells31, Nat.mul_one] at h1
      obtain ⟨c, rfl⟩ : ∃ c, cs' = [c] := by
        have hl := (World.cells?_some h1).2.1
        clear h1 h2
        match cs', hl with
        | [c], _ => exact ⟨c, rfl⟩
      obtain ⟨b, rfl, hb⟩ := float_of_trod h2
      exact ⟨b, cell_of_cells?_one h1, hb⟩
    have hf : ∃ f : Nat → Nat, ∀ i, i < len → w.cell? (ad.add i) = some (.float .f64 (f i)) ∧ f i < 18446744073709551616 :=
      ⟨fun i => if h : i < len then Classical.choose (hone i h) else 0, fun i hi => by simp only [hi, dif_pos]; exact Classical.choose_spec (hone i hi)⟩
    obtain ⟨f, hf⟩ := hf
    have hlen : ((List.range len).map f).length = len := by simp
    refine ⟨(List.range len).map f, ?_, fun z hz => ?_⟩
    · by_cases h0 : len = 0
      · subst h0
        exact Or.inl ⟨rfl, _, _, rfl⟩
      · obtain ⟨b, o, spot⟩ := ad
        have hc := (hf 0 (by omega)).1
        have hspot : spot = none := by simpa [Addr.add] using World.cell?_spot hc
        subst hspot
        refine Or.inr ⟨b, o, cap, by rw [hlen], by rw [hlen]; exact hl, hm, World.block_lt_of_cell? w _ hc, fun i hi => ?_⟩
        rw [hlen] at hi
        have := (hf i hi).1
        have e : (⟨b, o, none⟩ : Addr).add i = ⟨b, o + i, none⟩ := by
          unfold Addr.add
          split
          · rename_i h; subst h; rfl
          · rfl
        rw [e] at this
        rw [this]
        simp [hi]
    · obtain ⟨i, hi, rfl⟩ := List.mem_map.1 hz
      exact (hf i (List.mem_range.1 hi)).2
theorem row_below {B : Nat} {e : TypeId} {k : Nat} {v : Value} {n : Nat} {xs : List Value} {w w' : World} (h : w.ownsRow B e k v n xs) (hb : Below w.heap.size w w') : w'.ownsRow B e k v n xs := by
  refine ⟨h.1, ?_⟩
  rcases h.2 with h2 | ⟨g, cap, cur, h1, h2, h3, h4⟩
  · exact .inl h2
  · have hg : g < w.heap.size := by
      rcases Nat.lt_or_ge g w.heap.size with x | x
      · exact x
      · rw [Array.getElem?_eq_none x] at h3; cases h3
    exact .inr ⟨g, cap, cur, h1, h2, (hb.block g hg).trans h3, h4⟩
theorem row_grown {w w' : World} {base n k : Nat} {e : TypeId} {v : Value} {xs : List Value} {row : Option Nat} (h : w.ownsRow base e k v n xs) (hg : w.grownBy w' row) (hne : ∀ g, v.ownBlock = some g → row ≠ some g) : w'.ownsRow base e k v n xs := by
  refine ⟨h.1, ?_⟩
  rcases h.2 with h2 | ⟨g, cap, cur, h1, h2, h3, h4⟩
  · exact .inl h2
  · have hlt : g < w.heap.size := by
      rcases Nat.lt_or_ge g w.heap.size with x | x
      · exact x
      · rw [Array.getElem?_eq_none x] at h3; cases h3
    exact .inr ⟨g, cap, cur, h1, h2, (hg.block g hlt (fun e => hne g (by rw [h1]; rfl) e.symm)).trans h3, h4⟩

theorem row_of_heap {w : World} {base g n : Nat} {cur : List Value} (hb : base ≤ g) (hh : w.heap[g]? = some (.cells cur.toArray 31 (0, 0))) (hl : cur.length = n) (hm : n ≤ maxLen) : w.ownsRow base 31 1 (.slice (some ⟨g, 0, none⟩) n n) n cur := by
  refine ⟨by omega, .inr ⟨g, n, cur.toArray, rfl, hb, hh, Nat.le_refl _, hm, by simp; omega, ?_⟩⟩
  simp only [Nat.mul_one]
  exact List.take_of_length_le (by omega)

end Go.Proofs.Ytfjkchkcgnjkaaa.Fls
namespace Go.Proofs.Ytfjkchkcgnjkaaa.Srt
open Go.ChangeShapes Go.WideShapes Go.ChangeAt Go.RowKit
open Go.Proofs.Ytfjkchkcgnjkaaa.Flt Go.Proofs.Ytfjkchkcgnjkaaa.St Go.Proofs.Ytfjkchkcgnjkaaa.Fls
attribute [local go_sem] Fls.run_store_flt

set_option maxHeartbeats 1000000 in
theorem iorder_far (a : Option Addr) (n c : Nat) (w : World) (h : 4000 < n) :
    Calls Try.prog 7 #[.slice a n c] w fun e w' => e = .returned (.slice none 0 0) ∧ w' = w := by
  have i1 : (4000 : Int) < (n : Int) := by omega
  go_enter Try.func7, Try.ntmps7
  go_wp2_with fail
  go_ret
  exact ⟨rfl, rfl⟩

set_option maxHeartbeats 2000000 in
theorem iorder_yes (w : World) (b o cap : Nat) (L : List Nat) (n : Nat) (hn : n = L.length) (h1 : 1 ≤ n) (h2 : n ≤ 4000) (hb : b < w.heap.size) (bd : Bd L)
    (K : ∀ i, i < n → w.cell? ⟨b, o + i, none⟩ = some (.float .f64 (L.getD i 0))) :
    Calls Try.prog 7 #[.slice (some ⟨b, o, none⟩) n cap] w fun e w' => ∃ v' M, e = .returned v' ∧ w'.ownsRow w.heap.size 31 1 v' M.length (flts M) ∧ OR L M ∧ Below w.heap.size w w' := by
  obtain ⟨i0, hi, hzz⟩ := Option.map_eq_some_iff.1 Fls.Try.info31
  have hz0 : i0.zero = some (.float .f64 0) := congrArg Prod.fst hzz
  have hz1 : i0.size = 1 := congrArg (fun q => q.2.1) hzz
  have hz2 : i0.bytes = 8 := congrArg (fun q => q.2.2) hzz
  clear hzz
  have hsz : (Try.prog.info? 31).map (·.size) = some 1 := by kernel_rfl
  have FZ : Hid ((madeCells (Value.float .f64 0).cells (L.length * 1)).toList = flts (fill L 0)) := fill_zero L
  have FL : Hid ((flts (fill L 0)).length = L.length) := (by show _ = _; simp [fill_len])
  have SRC : Hid (∀ w', Below w.heap.size w w' → ∀ j u, (flts L)[j]? = some u → w'.cell? ((⟨b, o, none⟩ : Addr).add j) = some u) := fun w' hw j u hj => by
    have hl : j < L.length := by
      have := (List.getElem?_eq_some_iff.1 hj).1
      simpa [flts] using this
    have e : (⟨b, o, none⟩ : Addr).add j = ⟨b, o + j, none⟩ := by
      unfold Addr.add
      split
      · rename_i h; subst h; rfl
      · rfl
    rw [e, (hw.cell (p := ⟨b, o + j, none⟩) hb).trans (K j (by omega))]
    simp [flts, List.getElem?_map, List.getElem?_eq_getElem hl] at hj
    rw [← hj]
    simp [List.getD_eq_getElem?_getD, hl]
  rw [← hn] at FZ FL
  have HN : Hid (n = L.length) := hn
  have SO : Hid (∀ (w5 : World), w5.ownsRow w.heap.size 31 1 (.slice (some ⟨w.heap.size, 0, none⟩) n n) n (flts L) → Below w.heap.size w w5 → Calls Try.prog 15 #[.slice (some ⟨w.heap.size, 0, none⟩) n n, .func (.func 16) #[] #[]] w5 fun e w' => e = .returned (.tuple #[]) ∧ ∃ M, w'.ownsRow w.heap.size 31 1 (.slice (some ⟨w.heap.size, 0, none⟩) n n) (List.length M) (flts M) ∧ OR L M ∧ Below w.heap.size w w') := by
    intro w5 ho hB
    refine (sorted_any w w.heap.size w.heap.size n n (Nat.le_refl _) h2 L w5 ⟨ho, hB, hn.symm, bd⟩).mono ?_
    rintro e w' ⟨rfl, M, r, p, s⟩
    have hl : M.length = n := r.len
    refine ⟨rfl, M, by rw [hl]; exact r.own, ?_, r.bel⟩
    unfold OR
    rw [if_pos (by omega)]
    exact ⟨p.perm, asc_srt (by rw [hl]; exact s)⟩
  have i1 : ¬ (4000 : Int) < (n : Int) := by omega
  clear K hn bd
  go_enter Try.func7, Try.ntmps7
  go_upto_region 4 with (at_make; refine wpList_make_full _ rfl _ _ 22 rfl w.heap.size 31 i0 (.float .f64 0) 1 Try.underlying22 hi hz0 hz1 .i64 .i64 (n : Int) (n : Int) n rfl rfl rfl rfl (by rw [hz2]; omega) (by unfold maxLen; omega) (Nat.le_refl _) ?_; intro w4 hown hgrow)
  rw [FZ.out] at hown
  have B0 : Below w.heap.size w w4 := (Below.refl _ _).grown hgrow (Nat.le_refl _) (fun k hk => by cases hk)
  obtain ⟨hl0, hrow⟩ := hown
  rcases hrow with ⟨hno, _⟩ | ⟨g, c, cur, hv, hbg, hh, hc, hm, hs, ht⟩
  · cases hno
  · simp at hv
    obtain ⟨rfl, rfl⟩ := hv
    have hcl : cur.toList.length = n := by simp; omega
    have hh' : w4.heap[w.heap.size]? = some (.cells cur.toList.toArray 31 (0, 0)) := by simpa using hh
    have HB4 : Hid (Below w.heap.size w w4) := B0
    have HH4 : Hid (w4.heap[w.heap.size]? = some (.cells cur.toList.toArray 31 (0, 0))) := hh'
    have HCL : Hid (cur.toList.length = n) := hcl
    have HIL : Hid ((flts L).length = n) := (by show _ = _; rw [List.length_map, HN.out])
    have HFIN : Hid (∀ w' : World, w'.heap[w.heap.size]? = some (Obj.cells (splice cur.toList 0 (flts L)).toArray 31 (0, 0)) → w'.ownsRow w.heap.size 31 1 (.slice (some ⟨w.heap.size, 0, none⟩) n n) n (flts L)) := fun w' h => by
      have e : splice cur.toList 0 (flts L) = flts L := by
        unfold splice
        rw [List.take_zero, List.nil_append, List.drop_eq_nil_of_le (by rw [HCL.out, HIL.out]; omega), List.append_nil]
      rw [e] at h
      exact row_of_heap (Nat.le_refl _) h HIL.out (by unfold maxLen; omega)
    clear B0 hh hh' hcl hl0 ht hs hgrow FZ FL hbg hc hm
    generalize cur.toList = cl at *
    obtain ⟨src, hsrc⟩ : ∃ src, src = flts L := ⟨_, rfl⟩
    have HO : Hid (∀ u ∈ src, u.oneCell' = true) := (by rw [hsrc]; exact one_flts L)
    have HSR : Hid (∀ j u, src[j]? = some u → w4.cell? ((⟨b, o, none⟩ : Addr).add j) = some u) := (by rw [hsrc]; exact SRC.out w4 HB4.out)
    rw [← hsrc] at HIL HFIN
    have HSE : Hid (src = flts L) := hsrc
    clear hsrc SRC
    go_wp2_with (refine wpList_copy_splice rfl (.tmp 10) (.tmp 11) 22 22 rfl 31 Try.underlying22 hsz (some ⟨w.heap.size, 0, none⟩) (some ⟨b, o, none⟩) n n n cap (by rfl) (by rfl) w.heap.size 0 cl 31 HH4.out src (by rw [HIL.out]; exact (Nat.min_self n).symm) (fun _ => ⟨rfl, _, rfl, HSR.out⟩) (by rw [HIL.out, HCL.out]; omega) HO.out w.heap.size w HB4.out (Nat.le_refl _) ?_; intro w5 HG5 hB5)
    have HB5 : Hid (Below w.heap.size w w5) := hB5
    have HR5 : Hid (w5.ownsRow w.heap.size 31 1 (.slice (some ⟨w.heap.size, 0, none⟩) n n) n src) := HFIN.out w5 HG5.out
    clear hB5 HG5 HFIN HH4 HSR
    have C := SO.out w5 (by rw [← HSE.out]; exact HR5.out) HB5.out
    go_wp2_with fail
    refine C.mono ?_
    rintro e w6 ⟨rfl, M, m1, m2, m3⟩
    have X : Hid (w6.ownsRow w.heap.size 31 1 (.slice (some ⟨w.heap.size, 0, none⟩) n n) (List.length M) (flts M) ∧ OR L M ∧ Below w.heap.size w w6) := ⟨m1, m2, m3⟩
    clear m1 m2 m3 C SO HR5 HB5 HSE
    go_wp2_with fail
    go_ret
    exact ⟨_, M, rfl, X.out⟩
end Go.Proofs.Ytfjkchkcgnjkaaa.Srt
