/- Whether a Packed is right, as the model tells it. -/
import Derived.Test.YtjphljofhfokeaaXoM
namespace Go.Proofs.Ytjphljofhfokeaa.Pkd
open Go.ChangeShapes Go.WideShapes Go.ChangeAt Go.RowKit
open Go.Proofs.Ytjphljofhfokeaa.Lists

set_option maxHeartbeats 1000000 in
theorem spok_empty (cnt dec ref : Int) (d b : Nat) (th cd : List Int) (tv cv : Value) (w : World) (hT : Bytes.Reads w tv th) (hC : Lists.Reads w cv cd) (l1 : th.length ≤ 1048576) (l2 : cd.length ≤ 1048576)
    (h1 : 0 ≤ cnt) (h2 : cnt ≤ 4096) (h3 : -3 ≤ dec) (h4 : dec ≤ 6) (h5 : 1 ≤ b) (h6 : b ≤ 24) (h7 : d ≤ 41) (h8 : -1099511627776 ≤ ref) (h9 : ref ≤ 1099511627776) (ht : th = []) (hc : (cd.length : Int) = cnt) :
    Calls Try.prog 32 #[.agg #[.int .i64 cnt, .int .i64 dec, .int .i64 ref, .int .i64 (d : Int), .int .i64 (b : Int), tv, cv]] w fun e w' => e = .returned (.bool (cd.all (cok (mst b d)))) ∧ Below w.heap.size w w' := by
  have ht0 : th.length = 0 := by rw [ht]; rfl
  obtain ⟨r, hr⟩ : ∃ r, r = cd.all (cok (mst b d)) := ⟨_, rfl⟩
  rw [← hr]
  have HG : Hid (r = cd.all (cok (mst b d))) := hr
  clear hr
  obtain ⟨y, cap, rfl⟩ := hT.form
  obtain ⟨x, cap2, rfl⟩ := hC.form
  obtain ⟨nt, hnt⟩ : ∃ n, n = th.length := ⟨_, rfl⟩
  obtain ⟨nc, hnc⟩ : ∃ n, n = cd.length := ⟨_, rfl⟩
  have HNT : Hid (nt = th.length) := hnt
  have HNC : Hid (nc = cd.length) := hnc
  rw [← hnt] at hT
  rw [← hnc] at hC
  rw [← hnt, ← hnc]
  rw [← hnt] at l1
  rw [← hnc] at l2
  have BW : Hid (Below w.heap.size w (w.alloc (Obj.cells #[.int .i64 cnt, .int .i64 dec, .int .i64 ref, .int .i64 (d : Int), .int .i64 (b : Int), .slice y nt cap, .slice x nc cap2] 26))) := (Below.refl _ _).alloc (Nat.le_refl _) _
  have RT := hT.on BW.out
  have RC := hC.on BW.out
  have CT : (w.alloc (Obj.cells #[.int .i64 cnt, .int .i64 dec, .int .i64 ref, .int .i64 (d : Int), .int .i64 (b : Int), .slice y nt cap, .slice x nc cap2] 26)).cell? ⟨w.heap.size, 5, none⟩ = some (.slice y nt cap) := by simp [go_sem]
  have CC : (w.alloc (Obj.cells #[.int .i64 cnt, .int .i64 dec, .int .i64 ref, .int .i64 (d : Int), .int .i64 (b : Int), .slice y nt cap, .slice x nc cap2] 26)).cell? ⟨w.heap.size, 6, none⟩ = some (.slice x nc cap2) := by simp [go_sem]
  have C4 : (w.alloc (Obj.cells #[.int .i64 cnt, .int .i64 dec, .int .i64 ref, .int .i64 (d : Int), .int .i64 (b : Int), .slice y nt cap, .slice x nc cap2] 26)).cell? ⟨w.heap.size, 4, none⟩ = some (.int .i64 (b : Int)) := by simp [go_sem]
  have C3 : (w.alloc (Obj.cells #[.int .i64 cnt, .int .i64 dec, .int .i64 ref, .int .i64 (d : Int), .int .i64 (b : Int), .slice y nt cap, .slice x nc cap2] 26)).cell? ⟨w.heap.size, 3, none⟩ = some (.int .i64 (d : Int)) := by simp [go_sem]
  have C0 : (w.alloc (Obj.cells #[.int .i64 cnt, .int .i64 dec, .int .i64 ref, .int .i64 (d : Int), .int .i64 (b : Int), .slice y nt cap, .slice x nc cap2] 26)).cell? ⟨w.heap.size, 0, none⟩ = some (.int .i64 cnt) := by simp [go_sem]
  have hct : ∃ f : Nat → Nat × Nat, (0 < nt → y = some ⟨(f 0).1, (f 0).2, none⟩) ∧ ∀ i, i < nt → (w.alloc (Obj.cells #[.int .i64 cnt, .int .i64 dec, .int .i64 ref, .int .i64 (d : Int), .int .i64 (b : Int), .slice y nt cap, .slice x nc cap2] 26)).cell? ⟨(f 0).1, (f 0).2 + i, none⟩ = some (.int .u8 (th.getD i 0)) := by
    rcases RT with ⟨h, _⟩ | ⟨b, o, cap, h1, h2, h3, h4, h5⟩
    · have : nt = 0 := by rw [hnt, h]; rfl
      exact ⟨fun _ => (0, 0), fun hi => by omega, fun i hi => by omega⟩
    · refine ⟨fun _ => (b, o), fun _ => ?_, fun i hi => h5 i (by omega)⟩
      simp at h1
      exact h1.1
  have hcc : ∃ f : Nat → Nat × Nat, (0 < nc → x = some ⟨(f 0).1, (f 0).2, none⟩) ∧ ∀ i, i < nc → (w.alloc (Obj.cells #[.int .i64 cnt, .int .i64 dec, .int .i64 ref, .int .i64 (d : Int), .int .i64 (b : Int), .slice y nt cap, .slice x nc cap2] 26)).cell? ⟨(f 0).1, (f 0).2 + i, none⟩ = some (.int .i64 (cd.getD i 0)) := by
    rcases RC with ⟨h, _⟩ | ⟨b, o, cap, h1, h2, h3, h4, h5⟩
    · have : nc = 0 := by rw [hnc, h]; rfl
      exact ⟨fun _ => (0, 0), fun hi => by omega, fun i hi => by omega⟩
    · refine ⟨fun _ => (b, o), fun _ => ?_, fun i hi => h5 i (by omega)⟩
      simp at h1
      exact h1.1
  obtain ⟨f, hx, hc⟩ := hct
  obtain ⟨g, gx, gc⟩ := hcc
  have FX : Hid (0 < nt → y = some ⟨(f 0).1, (f 0).2, none⟩) := hx
  have FC : Hid (∀ i, i < nt → (w.alloc (Obj.cells #[.int .i64 cnt, .int .i64 dec, .int .i64 ref, .int .i64 (d : Int), .int .i64 (b : Int), .slice y nt cap, .slice x nc cap2] 26)).cell? ⟨(f 0).1, (f 0).2 + i, none⟩ = some (.int .u8 (th.getD i 0))) := hc
  have GX : Hid (0 < nc → x = some ⟨(g 0).1, (g 0).2, none⟩) := gx
  have GC : Hid (∀ i, i < nc → (w.alloc (Obj.cells #[.int .i64 cnt, .int .i64 dec, .int .i64 ref, .int .i64 (d : Int), .int .i64 (b : Int), .slice y nt cap, .slice x nc cap2] 26)).cell? ⟨(g 0).1, (g 0).2 + i, none⟩ = some (.int .i64 (cd.getD i 0))) := gc
  have HCK : Hid (∀ c, cok (mst b d) c = !(decide (c < 0) || decide ((2 : Int) ^ b ≤ c) || decide (4398046511104 / (2 : Int) ^ d < c))) := fun c => cok_iff b d c h6
  have hw2 : wrap64 (2 ^ b) = (2 : Int) ^ b := (mst_w b h6).1
  clear hT hC RT RC hx hc gx gc hnt hnc
  have hn0 : nt = 0 := by rw [HNT.out]; exact ht0
  subst hn0
  have hc' : (nc : Int) = cnt := by rw [HNC.out]; exact hc
  have hcc : ((nc : Int) != cnt) = false := by simp [hc']
  clear hc hc' ht ht0
  go_enter Try.func32, Try.ntmps32
  go_wp2_with (go_at_call 42; refine (sin_any _ _ _ _).mono ?_; rintro e w' ⟨rfl, hw⟩; subst hw)
  generalize (w.alloc (Obj.cells #[.int .i64 cnt, .int .i64 dec, .int .i64 ref, .int .i64 (d : Int), .int .i64 (b : Int), .slice y 0 cap, .slice x nc cap2] 26)) = w1 at *
  go_loopw [5] (fun i wr => ∃ k q : Nat, k ≤ nc ∧ i = .int .i64 k ∧ Hid (wr = w1.drewN q) ∧ Hid ((cd.take k).all (cok (mst b d)) = true)) (fun i _ => nc - (intOf i).toNat)
  case atStart => exact ⟨0, 0, Nat.zero_le _, rfl, rfl, rfl⟩
  case round =>
    obtain ⟨k, q, hk, rfl, HW, HA⟩ := hrel
    by_cases hlt : k < nc
    · have hx := GX.out (by omega)
      subst hx
      have q1 : wr.cell? ⟨(g 0).1, (g 0).2 + k, none⟩ = some (.int .i64 (cd.getD k 0)) := by rw [HW.out]; exact GC.out k hlt
      have q3 : wr.cell? ⟨w.heap.size, 3, none⟩ = some (.int .i64 (d : Int)) := by rw [HW.out]; exact C3
      have q4 : wr.cell? ⟨w.heap.size, 4, none⟩ = some (.int .i64 (b : Int)) := by rw [HW.out]; exact C4
      have q6 : wr.cell? ⟨w.heap.size, 6, none⟩ = some (.slice (some ⟨(g 0).1, (g 0).2, none⟩) nc cap2) := by rw [HW.out]; exact CC
      have i0 : (0 : Int) ≤ (k : Int) := by omega
      have i1 : (k : Int) < (nc : Int) := by omega
      have TK : Hid (cd.take (k + 1) = cd.take k ++ [cd.getD k 0]) := (by
        have hk : k < cd.length := by rw [← HNC.out]; exact hlt
        show _ = _
        rw [List.take_succ_eq_append_getElem hk]
        simp [List.getD_eq_getElem?_getD, hk])
      have ME : Hid (cd.getD k 0 ∈ cd) := (by
        have hk : k < cd.length := by rw [← HNC.out]; exact hlt
        show _ ∈ _
        simp [List.getD_eq_getElem?_getD, hk])
      generalize cd.getD k 0 = z at *
      have HZ : Hid (cok (mst b d) z = !(decide (z < 0) || decide ((2 : Int) ^ b ≤ z) || decide (4398046511104 / (2 : Int) ^ d < z))) := HCK.out z
      have F0 : Hid (cok (mst b d) z = false → cd.all (cok (mst b d)) = false) := fun h => (by
        rw [List.all_eq_false]
        exact ⟨z, ME.out, by rw [h]; simp⟩)
      by_cases c1 : z < 0
      · have d1 : decide (z < 0) = true := by simp [c1]
        have HF : Hid (cd.all (cok (mst b d)) = false) := F0.out (by rw [HZ.out, d1]; rfl)
        clear HZ F0
        go_wp2_with fail
        go_quiet (fail)
        go_wp2_with fail
        go_ret
        exact ⟨congrArg (fun x => Ending.returned (Value.bool x)) (HG.out.trans HF.out).symm, by rw [HW.out]; exact below_drewN (below_drewN BW.out _) _⟩
      have d1 : decide (z < 0) = false := by simp; omega
      by_cases c2 : (2 : Int) ^ b ≤ z
      · have d2 : decide ((2 : Int) ^ b ≤ z) = true := by simp [c2]
        have HF : Hid (cd.all (cok (mst b d)) = false) := F0.out (by rw [HZ.out, d1, d2]; rfl)
        clear HZ F0
        go_wp2_with fail
        go_quiet (fail)
        go_wp2_with fail
        go_ret
        exact ⟨congrArg (fun x => Ending.returned (Value.bool x)) (HG.out.trans HF.out).symm, by rw [HW.out]; exact below_drewN (below_drewN BW.out _) _⟩
      have d2 : decide ((2 : Int) ^ b ≤ z) = false := decide_eq_false c2
      by_cases c3 : 4398046511104 / (2 : Int) ^ d < z
      · have d3 : decide (4398046511104 / (2 : Int) ^ d < z) = true := by simp [c3]
        have HF : Hid (cd.all (cok (mst b d)) = false) := F0.out (by rw [HZ.out, d1, d2, d3]; rfl)
        clear HZ F0
        go_wp2_with fail
        go_quiet (fail)
        go_wp2_with fail
        go_ret
        exact ⟨congrArg (fun x => Ending.returned (Value.bool x)) (HG.out.trans HF.out).symm, by rw [HW.out]; exact below_drewN (below_drewN BW.out _) _⟩
      have d3 : decide (4398046511104 / (2 : Int) ^ d < z) = false := decide_eq_false c3
      have HY : Hid (cok (mst b d) z = true) := (by show _ = _; rw [HZ.out, d1, d2, d3]; rfl)
      clear HZ F0
      go_wp2_with fail
      go_quiet (fail)
      go_wp2_with fail
      go_roundw
      case rel => exact ⟨k + 1, q + nq, by omega, by go_num, (by show _ = _; rw [HW.out]; exact World.drewN_drewN _ _ _), by show _ = _; rw [TK.out, List.all_append, HA.out]; simp [HY.out]⟩
      case measure => simp [intOf]; omega
    · have e1 : cd.take k = cd := List.take_of_length_le (by rw [← HNC.out]; omega)
      have HF : Hid (cd.all (cok (mst b d)) = true) := (by have := HA.out; rw [e1] at this; exact this)
      clear e1
      have q6 : wr.cell? ⟨w.heap.size, 6, none⟩ = some (.slice x nc cap2) := by rw [HW.out]; exact CC
      go_wp2_with fail
      go_ret
      exact ⟨congrArg (fun x => Ending.returned (Value.bool x)) (HG.out.trans HF.out).symm, by rw [HW.out]; exact below_drewN BW.out _⟩
set_option maxHeartbeats 1000000 in
theorem spok_full (cnt dec ref : Int) (d b : Nat) (th cd : List Int) (tv cv : Value) (w : World) (hT : Bytes.Reads w tv th) (hC : Lists.Reads w cv cd) (l1 : th.length ≤ 1048576) (l2 : cd.length ≤ 1048576)
    (h1 : 0 ≤ cnt) (h2 : cnt ≤ 4096) (h3 : -3 ≤ dec) (h4 : dec ≤ 6) (h5 : 1 ≤ b) (h6 : b ≤ 24) (h7 : d ≤ 41) (h8 : -1099511627776 ≤ ref) (h9 : ref ≤ 1099511627776) (ht : th.length ≠ 0) (hc : (th.length : Int) = cnt) (hB : byts th) :
    Calls Try.prog 32 #[.agg #[.int .i64 cnt, .int .i64 dec, .int .i64 ref, .int .i64 (d : Int), .int .i64 (b : Int), tv, cv]] w fun e w' => e = .returned (.bool (thB cnt th cd.length && cd.all (cok (mst b d)))) ∧ Below w.heap.size w w' := by
  have T1 : Hid (∀ nc, th.all bitB = false → thB cnt th nc = false) := fun nc h => th_big cnt th nc hB ht h
  have T2 : Hid (∀ nc, th.all bitB = true → th.sum = cnt → thB cnt th nc = false) := fun nc h hs => th_full cnt th nc hB ht h hc hs
  have T3 : Hid (∀ nc : Nat, th.all bitB = true → th.sum ≠ cnt → thB cnt th nc = decide ((nc : Int) = th.sum)) := fun nc h hs => th_yes cnt th nc hB ht h hc hs
  have SL : Hid (∀ k, (th.take k).all bitB = true → 0 ≤ (th.take k).sum ∧ (th.take k).sum ≤ (th.take k).length) := fun k h => sum_le _ (byts_take th hB k) h
  have HB : Hid (byts th) := hB
  obtain ⟨r, hr⟩ : ∃ r, r = (thB cnt th cd.length && cd.all (cok (mst b d))) := ⟨_, rfl⟩
  rw [← hr]
  have HR : Hid (r = (thB cnt th cd.length && cd.all (cok (mst b d)))) := hr
  clear hr
  obtain ⟨y, cap, rfl⟩ := hT.form
  obtain ⟨x, cap2, rfl⟩ := hC.form
  obtain ⟨nt, hnt⟩ : ∃ n, n = th.length := ⟨_, rfl⟩
  obtain ⟨nc, hnc⟩ : ∃ n, n = cd.length := ⟨_, rfl⟩
  have HNT : Hid (nt = th.length) := hnt
  have HNC : Hid (nc = cd.length) := hnc
  rw [← hnt] at hT
  rw [← hnc] at hC
  rw [← hnt, ← hnc]
  rw [← hnt] at l1
  rw [← hnc] at l2
  have BW : Hid (Below w.heap.size w (w.alloc (Obj.cells #[.int .i64 cnt, .int .i64 dec, .int .i64 ref, .int .i64 (d : Int), .int .i64 (b : Int), .slice y nt cap, .slice x nc cap2] 26))) := (Below.refl _ _).alloc (Nat.le_refl _) _
  have RT := hT.on BW.out
  have RC := hC.on BW.out
  have CT : (w.alloc (Obj.cells #[.int .i64 cnt, .int .i64 dec, .int .i64 ref, .int .i64 (d : Int), .int .i64 (b : Int), .slice y nt cap, .slice x nc cap2] 26)).cell? ⟨w.heap.size, 5, none⟩ = some (.slice y nt cap) := by simp [go_sem]
  have CC : (w.alloc (Obj.cells #[.int .i64 cnt, .int .i64 dec, .int .i64 ref, .int .i64 (d : Int), .int .i64 (b : Int), .slice y nt cap, .slice x nc cap2] 26)).cell? ⟨w.heap.size, 6, none⟩ = some (.slice x nc cap2) := by simp [go_sem]
  have C4 : (w.alloc (Obj.cells #[.int .i64 cnt, .int .i64 dec, .int .i64 ref, .int .i64 (d : Int), .int .i64 (b : Int), .slice y nt cap, .slice x nc cap2] 26)).cell? ⟨w.heap.size, 4, none⟩ = some (.int .i64 (b : Int)) := by simp [go_sem]
  have C3 : (w.alloc (Obj.cells #[.int .i64 cnt, .int .i64 dec, .int .i64 ref, .int .i64 (d : Int), .int .i64 (b : Int), .slice y nt cap, .slice x nc cap2] 26)).cell? ⟨w.heap.size, 3, none⟩ = some (.int .i64 (d : Int)) := by simp [go_sem]
  have C0 : (w.alloc (Obj.cells #[.int .i64 cnt, .int .i64 dec, .int .i64 ref, .int .i64 (d : Int), .int .i64 (b : Int), .slice y nt cap, .slice x nc cap2] 26)).cell? ⟨w.heap.size, 0, none⟩ = some (.int .i64 cnt) := by simp [go_sem]
  have hct : ∃ f : Nat → Nat × Nat, (0 < nt → y = some ⟨(f 0).1, (f 0).2, none⟩) ∧ ∀ i, i < nt → (w.alloc (Obj.cells #[.int .i64 cnt, .int .i64 dec, .int .i64 ref, .int .i64 (d : Int), .int .i64 (b : Int), .slice y nt cap, .slice x nc cap2] 26)).cell? ⟨(f 0).1, (f 0).2 + i, none⟩ = some (.int .u8 (th.getD i 0)) := by
    rcases RT with ⟨h, _⟩ | ⟨b, o, cap, h1, h2, h3, h4, h5⟩
    · have : nt = 0 := by rw [hnt, h]; rfl
      exact ⟨fun _ => (0, 0), fun hi => by omega, fun i hi => by omega⟩
    · refine ⟨fun _ => (b, o), fun _ => ?_, fun i hi => h5 i (by omega)⟩
      simp at h1
      exact h1.1
  have hcc : ∃ f : Nat → Nat × Nat, (0 < nc → x = some ⟨(f 0).1, (f 0).2, none⟩) ∧ ∀ i, i < nc → (w.alloc (Obj.cells #[.int .i64 cnt, .int .i64 dec, .int .i64 ref, .int .i64 (d : Int), .int .i64 (b : Int), .slice y nt cap, .slice x nc cap2] 26)).cell? ⟨(f 0).1, (f 0).2 + i, none⟩ = some (.int .i64 (cd.getD i 0)) := by
    rcases RC with ⟨h, _⟩ | ⟨b, o, cap, h1, h2, h3, h4, h5⟩
    · have : nc = 0 := by rw [hnc, h]; rfl
      exact ⟨fun _ => (0, 0), fun hi => by omega, fun i hi => by omega⟩
    · refine ⟨fun _ => (b, o), fun _ => ?_, fun i hi => h5 i (by omega)⟩
      simp at h1
      exact h1.1
  obtain ⟨f, hx, hc⟩ := hct
  obtain ⟨g, gx, gc⟩ := hcc
  have FX : Hid (0 < nt → y = some ⟨(f 0).1, (f 0).2, none⟩) := hx
  have FC : Hid (∀ i, i < nt → (w.alloc (Obj.cells #[.int .i64 cnt, .int .i64 dec, .int .i64 ref, .int .i64 (d : Int), .int .i64 (b : Int), .slice y nt cap, .slice x nc cap2] 26)).cell? ⟨(f 0).1, (f 0).2 + i, none⟩ = some (.int .u8 (th.getD i 0))) := hc
  have GX : Hid (0 < nc → x = some ⟨(g 0).1, (g 0).2, none⟩) := gx
  have GC : Hid (∀ i, i < nc → (w.alloc (Obj.cells #[.int .i64 cnt, .int .i64 dec, .int .i64 ref, .int .i64 (d : Int), .int .i64 (b : Int), .slice y nt cap, .slice x nc cap2] 26)).cell? ⟨(g 0).1, (g 0).2 + i, none⟩ = some (.int .i64 (cd.getD i 0))) := gc
  have HCK : Hid (∀ c, cok (mst b d) c = !(decide (c < 0) || decide ((2 : Int) ^ b ≤ c) || decide (4398046511104 / (2 : Int) ^ d < c))) := fun c => cok_iff b d c h6
  have hw2 : wrap64 (2 ^ b) = (2 : Int) ^ b := (mst_w b h6).1
  clear hT hC RT RC hx hc gx gc hnt hnc
  have hn0 : 0 < nt := by have := HNT.out; omega
  have hc' : (nt : Int) = cnt := by rw [HNT.out]; exact hc
  have hcc : ((nt : Int) != cnt) = false := by simp [hc']
  have HCN : Hid ((nt : Int) = cnt) := hc'
  clear hc hc' ht hB
  go_enter Try.func32, Try.ntmps32
  go_wp2_with (go_at_call 42; refine (sin_any _ _ _ _).mono ?_; rintro e w' ⟨rfl, hw⟩; subst hw)
  generalize (w.alloc (Obj.cells #[.int .i64 cnt, .int .i64 dec, .int .i64 ref, .int .i64 (d : Int), .int .i64 (b : Int), .slice y nt cap, .slice x nc cap2] 26)) = w1 at *
  go_loopw [3, 4] (fun t i wr => ∃ k q : Nat, k ≤ nt ∧ i = .int .i64 k ∧ t = .int .i64 (th.take k).sum ∧ Hid (wr = w1.drewN q) ∧ Hid ((th.take k).all bitB = true)) (fun _ i _ => nt - (intOf i).toNat)
  case atStart => exact ⟨0, 0, Nat.zero_le _, rfl, rfl, rfl, rfl⟩
  case round =>
    obtain ⟨k, q, hk, rfl, rfl, HW, HA⟩ := hrel
    have q5 : wr.cell? ⟨w.heap.size, 5, none⟩ = some (.slice y nt cap) := by rw [HW.out]; exact CT
    obtain ⟨s0, s1⟩ := SL.out k HA.out
    have s2 : (th.take k).length ≤ k := by rw [List.length_take]; omega
    by_cases hlt : k < nt
    · have hx := FX.out (by omega)
      subst hx
      have q1 : wr.cell? ⟨(f 0).1, (f 0).2 + k, none⟩ = some (.int .u8 (th.getD k 0)) := by rw [HW.out]; exact FC.out k hlt
      have i0 : (0 : Int) ≤ (k : Int) := by omega
      have i1 : (k : Int) < (nt : Int) := by omega
      have hkl : k < th.length := by rw [← HNT.out]; exact hlt
      have TK : Hid (th.take (k + 1) = th.take k ++ [th.getD k 0]) := (by
        show _ = _
        rw [List.take_succ_eq_append_getElem hkl]
        simp [List.getD_eq_getElem?_getD, hkl])
      have me : th.getD k 0 ∈ th := (by simp [List.getD_eq_getElem?_getD, hkl])
      have ME : Hid (th.getD k 0 ∈ th) := me
      have SK : Hid ((th.take (k + 1)).sum = (th.take k).sum + th.getD k 0) := sum_take th k hkl
      obtain ⟨z0, z1⟩ := HB.out _ me
      clear me hkl
      generalize th.getD k 0 = z at *
      generalize (th.take k).sum = su at *
      by_cases c1 : 1 < z
      · have hz : bitB z = false := by simp [bitB]; omega
        have HF : Hid (th.all bitB = false) := (by
          show _ = _
          rw [List.all_eq_false]
          exact ⟨z, ME.out, by rw [hz]; simp⟩)
        clear hz
        have HF2 : Hid (r = false) := (by show _ = _; rw [HR.out, T1.out _ HF.out]; rfl)
        go_wp2_with fail
        go_ret
        exact ⟨congrArg (fun x => Ending.returned (Value.bool x)) HF2.out.symm, by rw [HW.out]; exact below_drewN BW.out _⟩
      · have hz : bitB z = true := by simp [bitB]; omega
        have HY : Hid (bitB z = true) := hz
        have d1 : decide (1 < z) = false := decide_eq_false c1
        clear hz
        go_wp2_with fail
        go_roundw
        case rel => exact ⟨k + 1, q, by omega, by go_num, by rw [SK.out], HW, by show _ = _; rw [TK.out, List.all_append, HA.out]; simp [HY.out]⟩
        case measure => simp [intOf]; omega
    · have e1 : th.take k = th := List.take_of_length_le (by rw [← HNT.out]; omega)
      have HF : Hid (th.all bitB = true) := (by have := HA.out; rw [e1] at this; exact this)
      rw [e1] at s0 s1 ⊢
      have q6 : wr.cell? ⟨w.heap.size, 6, none⟩ = some (.slice x nc cap2) := by rw [HW.out]; exact CC
      have q0 : wr.cell? ⟨w.heap.size, 0, none⟩ = some (.int .i64 cnt) := by rw [HW.out]; exact C0
      have HS : Hid (∃ su, su = th.sum) := ⟨_, rfl⟩
      obtain ⟨su, hsu⟩ := HS.out
      rw [← hsu] at s0 s1 ⊢
      have T2' : Hid (su = cnt → r = false) := fun h => by rw [HR.out, T2.out _ HF.out (hsu.symm.trans h)]; rfl
      have T3' : Hid (su ≠ cnt → r = (decide ((nc : Int) = su) && cd.all (cok (mst b d)))) := fun h => by rw [HR.out, T3.out _ HF.out (by rw [← hsu]; exact h), hsu, HNC.out]
      clear e1 hsu HS T1 T2 T3 SL HR HA
      by_cases c1 : su = cnt
      · have HF2 : Hid (r = false) := T2'.out c1
        have d1 : (su == cnt) = true := by simp [c1]
        clear T2' T3'
        go_wp2_with fail
        go_ret
        exact ⟨congrArg (fun x => Ending.returned (Value.bool x)) HF2.out.symm, by rw [HW.out]; exact below_drewN BW.out _⟩
      · have d1 : (su == cnt) = false := by simp [c1]
        have HR3 := T3'.out c1
        by_cases c2 : (nc : Int) = su
        · have d2 : ((nc : Int) != su) = false := by simp [c2]
          have HG : Hid (r = cd.all (cok (mst b d))) := (by show _ = _; rw [HR3]; simp [c2])
          clear T2' T3' HR3 c2
          go_wp2_with fail
          go_loopw [5] (fun i wr => ∃ k q : Nat, k ≤ nc ∧ i = .int .i64 k ∧ Hid (wr = w1.drewN q) ∧ Hid ((cd.take k).all (cok (mst b d)) = true)) (fun i _ => nc - (intOf i).toNat)
          case atStart => exact ⟨0, q, Nat.zero_le _, rfl, HW, rfl⟩
          case round =>
            obtain ⟨k, q, hk, rfl, HV, HA⟩ := hrel
            by_cases hlt : k < nc
            · have hx := GX.out (by omega)
              subst hx
              have q1 : wr.cell? ⟨(g 0).1, (g 0).2 + k, none⟩ = some (.int .i64 (cd.getD k 0)) := by rw [HV.out]; exact GC.out k hlt
              have q3 : wr.cell? ⟨w.heap.size, 3, none⟩ = some (.int .i64 (d : Int)) := by rw [HV.out]; exact C3
              have q4 : wr.cell? ⟨w.heap.size, 4, none⟩ = some (.int .i64 (b : Int)) := by rw [HV.out]; exact C4
              have q6 : wr.cell? ⟨w.heap.size, 6, none⟩ = some (.slice (some ⟨(g 0).1, (g 0).2, none⟩) nc cap2) := by rw [HV.out]; exact CC
              have i0 : (0 : Int) ≤ (k : Int) := by omega
              have i1 : (k : Int) < (nc : Int) := by omega
              have TK : Hid (cd.take (k + 1) = cd.take k ++ [cd.getD k 0]) := (by
                have hk : k < cd.length := by rw [← HNC.out]; exact hlt
                show _ = _
                rw [List.take_succ_eq_append_getElem hk]
                simp [List.getD_eq_getElem?_getD, hk])
              have ME : Hid (cd.getD k 0 ∈ cd) := (by
                have hk : k < cd.length := by rw [← HNC.out]; exact hlt
                show _ ∈ _
                simp [List.getD_eq_getElem?_getD, hk])
              generalize cd.getD k 0 = z at *
              have HZ : Hid (cok (mst b d) z = !(decide (z < 0) || decide ((2 : Int) ^ b ≤ z) || decide (4398046511104 / (2 : Int) ^ d < z))) := HCK.out z
              have F0 : Hid (cok (mst b d) z = false → cd.all (cok (mst b d)) = false) := fun h => (by
                rw [List.all_eq_false]
                exact ⟨z, ME.out, by rw [h]; simp⟩)
              by_cases c1 : z < 0
              · have d1 : decide (z < 0) = true := by simp [c1]
                have HF : Hid (cd.all (cok (mst b d)) = false) := F0.out (by rw [HZ.out, d1]; rfl)
                clear HZ F0
                go_wp2_with fail
                go_quiet (fail)
                go_wp2_with fail
                go_ret
                exact ⟨congrArg (fun x => Ending.returned (Value.bool x)) (HG.out.trans HF.out).symm, by rw [HV.out]; exact below_drewN (below_drewN BW.out _) _⟩
              have d1 : decide (z < 0) = false := by simp; omega
              by_cases c2 : (2 : Int) ^ b ≤ z
              · have d2 : decide ((2 : Int) ^ b ≤ z) = true := by simp [c2]
                have HF : Hid (cd.all (cok (mst b d)) = false) := F0.out (by rw [HZ.out, d1, d2]; rfl)
                clear HZ F0
                go_wp2_with fail
                go_quiet (fail)
                go_wp2_with fail
                go_ret
                exact ⟨congrArg (fun x => Ending.returned (Value.bool x)) (HG.out.trans HF.out).symm, by rw [HV.out]; exact below_drewN (below_drewN BW.out _) _⟩
              have d2 : decide ((2 : Int) ^ b ≤ z) = false := decide_eq_false c2
              by_cases c3 : 4398046511104 / (2 : Int) ^ d < z
              · have d3 : decide (4398046511104 / (2 : Int) ^ d < z) = true := by simp [c3]
                have HF : Hid (cd.all (cok (mst b d)) = false) := F0.out (by rw [HZ.out, d1, d2, d3]; rfl)
                clear HZ F0
                go_wp2_with fail
                go_quiet (fail)
                go_wp2_with fail
                go_ret
                exact ⟨congrArg (fun x => Ending.returned (Value.bool x)) (HG.out.trans HF.out).symm, by rw [HV.out]; exact below_drewN (below_drewN BW.out _) _⟩
              have d3 : decide (4398046511104 / (2 : Int) ^ d < z) = false := decide_eq_false c3
              have HY : Hid (cok (mst b d) z = true) := (by show _ = _; rw [HZ.out, d1, d2, d3]; rfl)
              clear HZ F0
              go_wp2_with fail
              go_quiet (fail)
              go_wp2_with fail
              go_roundw
              case rel => exact ⟨k + 1, q + nq, by omega, by go_num, (by show _ = _; rw [HV.out]; exact World.drewN_drewN _ _ _), by show _ = _; rw [TK.out, List.all_append, HA.out]; simp [HY.out]⟩
              case measure => simp [intOf]; omega
            · have e1 : cd.take k = cd := List.take_of_length_le (by rw [← HNC.out]; omega)
              have HF : Hid (cd.all (cok (mst b d)) = true) := (by have := HA.out; rw [e1] at this; exact this)
              clear e1
              have q6 : wr.cell? ⟨w.heap.size, 6, none⟩ = some (.slice x nc cap2) := by rw [HV.out]; exact CC
              go_wp2_with fail
              go_ret
              exact ⟨congrArg (fun x => Ending.returned (Value.bool x)) (HG.out.trans HF.out).symm, by rw [HV.out]; exact below_drewN BW.out _⟩
        · have d2 : ((nc : Int) != su) = true := by simp [c2]
          have HF2 : Hid (r = false) := (by show _ = _; rw [HR3]; simp [c2])
          clear T2' T3' HR3
          go_wp2_with fail
          go_ret
          exact ⟨congrArg (fun x => Ending.returned (Value.bool x)) HF2.out.symm, by rw [HW.out]; exact below_drewN BW.out _⟩
end Go.Proofs.Ytjphljofhfokeaa.Pkd
