/- Homogen: plainly; a copy of a series; the step. -/
import Derived.Test.YtcdajejapcbllaaBm
import Derived.Laws.CopyOwn
import Derived.Maps.AppendAt
import Derived.Deep.Cut
namespace Go.Proofs.Ytcdajejapcbllaa.Hg
open Go.ChangeShapes Go.WideShapes Go.ChangeAt Go.RowKit
open Go.Proofs.Ytcdajejapcbllaa.Lists Go.Proofs.Ytcdajejapcbllaa.Al Go.Proofs.Ytcdajejapcbllaa.Su Go.Proofs.Ytcdajejapcbllaa.Se Go.Proofs.Ytcdajejapcbllaa.Bk

def kk (L : List Int) : Nat := (at_ L).toNat
theorem kk_at {L : List Int} (h : okS L = true) : at_ L = (kk L : Int) ∧ kk L < L.length ∧ (kk L = 0 → L.length = 1) := by
  obtain ⟨l1, _, _⟩ := okS_parts h
  have e : at_ L = (bk (off L) (L.length - 1)).1 := by unfold at_; rw [h]; rfl
  by_cases hn : L.length = 1
  · have : at_ L = 0 := by rw [e, hn]; rfl
    unfold kk
    rw [this]
    exact ⟨rfl, by simp; omega, fun _ => hn⟩
  · obtain ⟨j, a, b, c, _⟩ := bk_at (off L) (L.length - 1) (fun _ => by have := off_nn L 1; omega) (by omega)
    unfold kk
    rw [e, c]
    refine ⟨by simp, by simp; omega, fun h0 => by simp at h0; omega⟩
def num (L : List Int) (k : Nat) : Int := (tot L L.length - tot L k) * (k : Int) - tot L k * ((L.length : Int) - (k : Int))
def den (L : List Int) (k : Nat) : Int := (k : Int) * ((L.length : Int) - (k : Int))
def stp (L : List Int) : Int := if kk L = 0 then 0 else (num L (kk L)).tdiv (den L (kk L))
def bmp (L : List Int) (s : Int) (j : Nat) : List Int := (List.range L.length).map fun i => if i < j then L.getD i 0 + s else L.getD i 0
theorem bmp_len (L : List Int) (s : Int) (j : Nat) : (bmp L s j).length = L.length := by simp [bmp]
theorem bmp_zero (L : List Int) (s : Int) : bmp L s 0 = L := by
  apply List.ext_getElem (bmp_len _ _ _)
  intro i h1 h2
  simp [bmp, List.getElem?_eq_getElem h2]
theorem bmp_get (L : List Int) (s : Int) (j : Nat) (hj : j < L.length) : (bmp L s j).getD j 0 = L.getD j 0 := by
  simp [bmp, List.getD_eq_getElem?_getD, hj]
theorem bmp_set (L : List Int) (s : Int) (j : Nat) : (bmp L s j).set j (L.getD j 0 + s) = bmp L s (j + 1) := by
  apply List.ext_getElem (by simp [bmp_len])
  intro i h1 h2
  rw [List.getElem_set]
  by_cases e : j = i
  · subst e; simp [bmp]
  · rw [if_neg e]
    simp only [bmp, List.getElem_map, List.getElem_range]
    by_cases x : i < j
    · rw [if_pos x, if_pos (by omega)]
    · rw [if_neg x, if_neg (by omega)]
theorem parts_bd {L : List Int} (h : okS L = true) (k : Nat) (hk : k < L.length) : (-50000000 ≤ tot L k ∧ tot L k ≤ 50000000) ∧ (-50000000 ≤ tot L L.length - tot L k ∧ tot L L.length - tot L k ≤ 50000000) ∧ (-25000000000 ≤ (tot L L.length - tot L k) * (k : Int) ∧ (tot L L.length - tot L k) * (k : Int) ≤ 25000000000) ∧ (-25000000000 ≤ tot L k * ((L.length : Int) - (k : Int)) ∧ tot L k * ((L.length : Int) - (k : Int)) ≤ 25000000000) ∧ (-250000 ≤ den L k ∧ den L k ≤ 250000) := by
  obtain ⟨l1, l2, hz⟩ := okS_parts h
  have a := tot_bd hz k (by omega)
  have b := tot_bd (bd_drop hz k) (L.drop k).length (Nat.le_refl _)
  rw [tot_drop L k (by omega)] at b
  have hl : (L.drop k).length = L.length - k := by simp
  rw [hl] at b
  refine ⟨by omega, by omega, ?_, ?_, ?_⟩
  · exact mul_bd (M := 50000000) (N := 500) (by omega) (by omega)
  · exact mul_bd (M := 50000000) (N := 500) (by omega) (by omega)
  · exact mul_bd (M := 500) (N := 500) (by omega) (by omega)
theorem den_pos {L : List Int} (k : Nat) (h1 : 1 ≤ k) (hk : k < L.length) : 1 ≤ den L k := by
  unfold den
  have : (0 : Int) < (k : Int) * ((L.length : Int) - (k : Int)) := Int.mul_pos (by omega) (by omega)
  omega
theorem tdiv_abs (a b : Int) (M : Int) (h : -M ≤ a ∧ a ≤ M) : -M ≤ a.tdiv b ∧ a.tdiv b ≤ M := by
  have h2 : (a.tdiv b).natAbs ≤ a.natAbs := by rw [Int.natAbs_tdiv]; exact Nat.div_le_self _ _
  omega
theorem stp_bd {L : List Int} (h : okS L = true) : -50000000000 ≤ stp L ∧ stp L ≤ 50000000000 := by
  unfold stp
  split
  · omega
  · obtain ⟨_, hk, _⟩ := kk_at h
    obtain ⟨a, b, c, d, _⟩ := parts_bd h (kk L) hk
    exact tdiv_abs _ _ _ (by unfold num; omega)
/- what is told -/
def good (L : List Int) : Bool := okS L && okS (bmp L (stp L) (kk L))
def X0 (L : List Int) : List Int := if good L then bmp L (stp L) (kk L) else []
def R1 (L : List Int) : Int := if good L then stp L else 0

theorem row_of_heap {w : World} {base g n : Nat} {cur : List Value} (hb : base ≤ g) (hh : w.heap[g]? = some (.cells cur.toArray 2 (0, 0))) (hl : cur.length = n) (hm : n ≤ maxLen) : w.ownsRow base 2 1 (.slice (some ⟨g, 0, none⟩) n n) n cur := by
  refine ⟨by omega, .inr ⟨g, n, cur.toArray, rfl, hb, hh, Nat.le_refl _, hm, by simp; omega, ?_⟩⟩
  simp only [Nat.mul_one]
  exact List.take_of_length_le (by omega)

set_option maxHeartbeats 1000000 in
theorem copy_any (L : List Int) (v : Value) (w : World) (hL : Lists.Reads w v L) (h1 : 1 ≤ L.length) (h2 : L.length ≤ 1000) :
    Calls Try.prog 20 #[v] w fun e w' => e = .returned (.slice (some ⟨w.heap.size, 0, none⟩) L.length L.length) ∧ w'.ownsRow w.heap.size 2 1 (.slice (some ⟨w.heap.size, 0, none⟩) L.length L.length) L.length (ints L) ∧ Below w.heap.size w w' := by
  obtain ⟨i0, hi, hz0, hz1, hz2⟩ := info_parts Lists.Try.info2
  have hsz : (Try.prog.info? 2).map (·.size) = some 1 := by kernel_rfl
  obtain ⟨b, o, hcell, hvv⟩ := reads_at hL
  obtain ⟨a, cap, rfl⟩ := hL.form
  have HC : Hid (∀ i, i < L.length → w.cell? ⟨b, o + i, none⟩ = some (.int .i64 (L.getD i 0))) := hcell
  have HB : Hid (0 < L.length → b < w.heap.size ∧ a = some ⟨b, o, none⟩) := fun hi => by
    obtain ⟨h1, c, h2⟩ := hvv hi
    simp at h2
    exact ⟨h1, h2.1⟩
  obtain ⟨hb, hx⟩ := HB.out (by omega)
  subst hx
  have FZ : Hid ((madeCells (Value.int .i64 0).cells (L.length * 1)).toList = ints (fill L 0)) := fill_zero L
  have FL : Hid ((ints (fill L 0)).length = L.length) := (by show _ = _; simp [fill_len])
  have SRC : Hid (∀ w', Below w.heap.size w w' → ∀ j u, (ints L)[j]? = some u → w'.cell? ((⟨b, o, none⟩ : Addr).add j) = some u) := fun w' hw j u hj => by
    have hl : j < L.length := by
      have := (List.getElem?_eq_some_iff.1 hj).1
      simpa [ints] using this
    have e : (⟨b, o, none⟩ : Addr).add j = ⟨b, o + j, none⟩ := by
      unfold Addr.add
      split
      · rename_i h; subst h; rfl
      · rfl
    rw [e, (hw.cell (p := ⟨b, o + j, none⟩) hb).trans (HC.out j hl)]
    simp [ints, List.getElem?_map, List.getElem?_eq_getElem hl] at hj
    rw [← hj]
    simp [List.getD_eq_getElem?_getD, hl]
  obtain ⟨n, hn⟩ : ∃ n, n = L.length := ⟨_, rfl⟩
  rw [← hn] at h1 h2 FZ FL ⊢
  have HN : Hid (n = L.length) := hn
  clear hL hcell hvv hn
  go_enter Try.func20, Try.ntmps20
  go_upto_region 2 with (at_make; refine wpList_make_full _ rfl _ _ 24 rfl w.heap.size 2 i0 (.int .i64 0) 1 Try.underlying24 hi hz0 hz1 .i64 .i64 (n : Int) (n : Int) n rfl rfl rfl rfl (by rw [hz2]; omega) (by unfold maxLen; omega) (Nat.le_refl _) ?_; intro w4 hown hgrow)
  rw [FZ.out] at hown
  have B0 : Below w.heap.size w w4 := (Below.refl _ _).grown hgrow (Nat.le_refl _) (fun k hk => by cases hk)
  obtain ⟨hl0, hrow⟩ := hown
  rcases hrow with ⟨hno, _⟩ | ⟨g, c, cur, hv, hbg, hh, hc, hm, hs, ht⟩
  · cases hno
  · simp at hv
    obtain ⟨rfl, rfl⟩ := hv
    have hcl : cur.toList.length = n := by simp; omega
    have hh' : w4.heap[w.heap.size]? = some (.cells cur.toList.toArray 2 (0, 0)) := by simpa using hh
    have HB4 : Hid (Below w.heap.size w w4) := B0
    have HH4 : Hid (w4.heap[w.heap.size]? = some (.cells cur.toList.toArray 2 (0, 0))) := hh'
    have HCL : Hid (cur.toList.length = n) := hcl
    have HIL : Hid ((ints L).length = n) := (by show _ = _; rw [List.length_map, HN.out])
    have HFIN : Hid (∀ w' : World, w'.heap[w.heap.size]? = some (Obj.cells (splice cur.toList 0 (ints L)).toArray 2 (0, 0)) → w'.ownsRow w.heap.size 2 1 (.slice (some ⟨w.heap.size, 0, none⟩) n n) n (ints L)) := fun w' h => by
      have e : splice cur.toList 0 (ints L) = ints L := by
        unfold splice
        rw [List.take_zero, List.nil_append, List.drop_eq_nil_of_le (by rw [HCL.out, HIL.out]; omega), List.append_nil]
      rw [e] at h
      exact row_of_heap (Nat.le_refl _) h HIL.out (by unfold maxLen; omega)
    clear B0 hh hh' hcl hl0 ht hs hgrow FZ FL hbg hc hm
    generalize cur.toList = cl at *
    obtain ⟨src, hsrc⟩ : ∃ src, src = ints L := ⟨_, rfl⟩
    have HO : Hid (∀ u ∈ src, u.oneCell' = true) := (by rw [hsrc]; intro u hu; simp [ints] at hu; obtain ⟨z, _, rfl⟩ := hu; rfl)
    have HSR : Hid (∀ j u, src[j]? = some u → w4.cell? ((⟨b, o, none⟩ : Addr).add j) = some u) := (by rw [hsrc]; exact SRC.out w4 HB4.out)
    rw [← hsrc] at HIL HFIN
    have HSE : Hid (src = ints L) := hsrc
    clear hsrc SRC
    go_wp2_with (refine wpList_copy_splice rfl (.tmp 7) (.tmp 8) 24 24 rfl 2 Try.underlying24 hsz (some ⟨w.heap.size, 0, none⟩) (some ⟨b, o, none⟩) n n n cap (by rfl) (by rfl) w.heap.size 0 cl 2 HH4.out src (by rw [HIL.out]; exact (Nat.min_self n).symm) (fun _ => ⟨rfl, _, rfl, HSR.out⟩) (by rw [HIL.out, HCL.out]; omega) HO.out w.heap.size w HB4.out (Nat.le_refl _) ?_; intro w5 HG5 hB5)
    have HB5 : Hid (Below w.heap.size w w5) := hB5
    have HR5 : Hid (w5.ownsRow w.heap.size 2 1 (.slice (some ⟨w.heap.size, 0, none⟩) n n) n src) := HFIN.out w5 HG5.out
    clear hB5 HG5 HFIN HH4 HSR
    go_wp2_with fail
    go_ret
    exact ⟨rfl, by rw [← HSE.out]; exact HR5.out, HB5.out⟩

set_option maxHeartbeats 1000000 in
theorem step_any (L : List Int) (k : Nat) (v : Value) (w : World) (hL : Lists.Reads w v L) (hok : okS L = true) (hk1 : 1 ≤ k) (hk : k < L.length) :
    Calls Try.prog 19 #[v, .int .i64 (k : Int)] w fun e w' => e = .returned (.int .i64 ((num L k).tdiv (den L k))) ∧ ∃ m, w' = w.drewN m := by
  obtain ⟨l1, l2, hz⟩ := okS_parts hok
  obtain ⟨p1, p2, p3, p4, p5⟩ := parts_bd hok k hk
  have p6 := den_pos k hk1 hk
  have p7 := tdiv_abs (num L k) (den L k) 50000000000 (by unfold num; omega)
  rcases hL with ⟨rfl, _⟩ | ⟨b, o, cap, rfl, h2, h3, h4, h5⟩
  · simp at hk
  · have hR : Lists.Reads w (.slice (some ⟨b, o, none⟩) L.length cap) L := Or.inr ⟨b, o, cap, rfl, h2, h3, h4, h5⟩
    have C1 : Hid (∀ m, Calls Try.prog 21 #[.slice (some ⟨b, o + k, none⟩) (L.length - k) (cap - k)] (w.drewN m) fun e w' => e = .returned (.int .i64 (tot L L.length - tot L k)) ∧ w' = w.drewN m) := fun m => by
      have := isum_any (L.drop k) _ (w.drewN m) (reads_drop hR rfl k (by omega)) (by simp; omega) (by simp; omega) (bd_drop hz k)
      rw [tot_drop L k (by omega)] at this
      exact this
    have C2 : Hid (∀ m, Calls Try.prog 21 #[.slice (some ⟨b, o, none⟩) k cap] (w.drewN m) fun e w' => e = .returned (.int .i64 (tot L k)) ∧ w' = w.drewN m) := fun m => by
      have := isum_any (L.take k) _ (w.drewN m) (reads_take hR rfl k (by omega)) (by simp; omega) (by simp; omega) (bd_take hz k)
      rw [tot_take L k (by omega)] at this
      exact this
    have E1 : Hid (num L k = (tot L L.length - tot L k) * (k : Int) - tot L k * ((L.length : Int) - (k : Int))) := rfl
    have E2 : Hid (den L k = (k : Int) * ((L.length : Int) - (k : Int))) := rfl
    have J0 : IntKind.i64.wrap ((L.length : Int) - (k : Int)) = (L.length : Int) - (k : Int) := IntWalk.i64_in _ (by omega)
    have J1 : IntKind.i64.wrap ((tot L L.length - tot L k) * (k : Int)) = (tot L L.length - tot L k) * (k : Int) := IntWalk.i64_in _ (by omega)
    have J2 : IntKind.i64.wrap (tot L k * ((L.length : Int) - (k : Int))) = tot L k * ((L.length : Int) - (k : Int)) := IntWalk.i64_in _ (by omega)
    have J3 : IntKind.i64.wrap ((tot L L.length - tot L k) * (k : Int) - tot L k * ((L.length : Int) - (k : Int))) = num L k := by rw [← E1.out]; exact IntWalk.i64_in _ (by rw [E1.out]; omega)
    have J4 : IntKind.i64.wrap ((k : Int) * ((L.length : Int) - (k : Int))) = den L k := by rw [← E2.out]; exact IntWalk.i64_in _ (by omega)
    have J5 : IntKind.i64.wrap ((num L k).tdiv (den L k)) = (num L k).tdiv (den L k) := IntWalk.i64_in _ (by omega)
    have g1 : (den L k == 0) = false := by simp; omega
    have g0 : ¬ den L k = 0 := by omega
    have g2 : ((k : Int) == 0) = false := by simp; omega
    have g3 : (0 : Int) ≤ (k : Int) := by omega
    have g4 : (k : Int) ≤ (L.length : Int) := by omega
    have g5 : (L.length : Int) ≤ (cap : Int) := by omega
    have g6 : (k : Int) ≤ (cap : Int) := by omega
    have g7 : ¬ cap = k := by omega
    have g8 : ¬ k = cap := by omega
    unfold maxLen at h3
    clear hR h4 h5 hz hok p1 p2 p3 p4 p5 p6 p7 E1 E2
    generalize num L k = nu at *
    generalize den L k = de at *
    generalize tot L L.length - tot L k = t2 at *
    generalize tot L k = t1 at *
    generalize L.length = n at *
    go_enter Try.func19, Try.ntmps19
    go_wp2_with fail
    go_quiet ((first | (go_at_call_of 21 (Value.slice (some ⟨b, o + k, none⟩) (n - k) (cap - k)); exact Calls.quiet_of_same (C1.out _)) | (go_at_call 21; exact Calls.quiet_of_same (C2.out _))))
    go_wp2_with fail
    go_ret
    exact ⟨rfl, _, rfl⟩
end Go.Proofs.Ytcdajejapcbllaa.Hg
