/- A field drawn. -/
import Derived.Test.YtgajajpcjbpalaaZw
import Derived.Test.YtgajajpcjbpalaaRdK
import Derived.Maps.AppendAt
namespace Go.Proofs.Ytgajajpcjbpalaa.Rd
open Go.ChangeShapes Go.WideShapes Go.ChangeAt Go.RowKit
open Go.Proofs.Ytgajajpcjbpalaa.Lists Go.Proofs.Ytgajajpcjbpalaa.Flt Go.Proofs.Ytgajajpcjbpalaa.Fls Go.Proofs.Ytgajajpcjbpalaa.Pkd

set_option maxHeartbeats 1000000 in
theorem size_any (r : Nat) (w : World) (h : Rd r w) : Calls Try.prog 48 #[.pointer (some ⟨r, 0, none⟩), .int .i64 4, .int .i64 60] w (Drawn r w fun u => 1 ≤ u ∧ u ≤ 60) := by
  have hh := h
  obtain ⟨a, n, cap, p, h1, h2, h3, h4, h5, h6, h7⟩ := hh
  have H : Hid (Rd r w) := h
  clear h h7
  obtain ⟨q, hq⟩ : ∃ q : Nat, q = n / 4 := ⟨_, rfl⟩
  have e1 : (n : Int).tdiv 4 = (q : Int) := by rw [Int.tdiv_eq_ediv_of_nonneg (by omega)]; omega
  have bq : q ≤ 400000 := by omega
  clear hq
  by_cases g : (60 : Int) < 1 + (q : Int)
  · go_enter Try.func48, Try.ntmps48
    go_wp2_with fail
    refine (below_all r _ H.out 60 (by omega) (by omega)).mono ?_
    rintro e w1 ⟨⟨u, ⟨hu1, hu2⟩, rfl⟩, k1, k2⟩
    have K : Hid (Rd r w1 ∧ Turn r w w1) := ⟨k1, k2⟩
    clear k1 k2
    go_wp2_with fail
    go_ret
    exact ⟨⟨1 + u, by omega, rfl⟩, K.out.1, K.out.2⟩
  · have C : Hid (Calls Try.prog 32 #[.pointer (some ⟨r, 0, none⟩), .int .i64 (1 + (q : Int))] w (Drawn r w fun u => 0 ≤ u ∧ u < 1 + (q : Int))) := (by
      have := below_all r w H.out (1 + q) (by omega) (by omega)
      rw [Int.natCast_add] at this
      exact this)
    go_enter Try.func48, Try.ntmps48
    go_wp2_with fail
    refine C.out.mono ?_
    rintro e w1 ⟨⟨u, ⟨hu1, hu2⟩, rfl⟩, k1, k2⟩
    have K : Hid (Rd r w1 ∧ Turn r w w1) := ⟨k1, k2⟩
    clear k1 k2
    go_wp2_with fail
    go_ret
    exact ⟨⟨1 + u, by omega, rfl⟩, K.out.1, K.out.2⟩



theorem row_turn {e : TypeId} {r B n : Nat} {w w' : World} {v : Value} {xs : List Value} (h : w.ownsRow B e 1 v n xs) (t : Turn r w w') (hr : r < B) : w'.ownsRow B e 1 v n xs := by
  refine h.kept (row := some r) ⟨t.bel.os, t.bel.tape, t.bel.output, t.bel.size, fun k hk hne => ?_⟩ ?_
  · by_cases e : k < r
    · exact t.bel.block k e
    · have : k ≠ r := fun x => hne (by rw [x])
      exact t.abv k (by omega) hk
  · cases e : v.ownBlock with
    | none => exact Or.inl rfl
    | some k =>
      refine Or.inr fun x => ?_
      have := (h.lt k e).1
      simp at x
      omega
/-- The reader, and a list of floats that is being drawn. -/
structure FS (r : Nat) (w wx : World) (v : Value) (n : Nat) (L : List Nat) : Prop where
  rd : Rd r wx
  tn : Turn r w wx
  row : wx.ownsRow w.heap.size 40 1 v n (flts L)
theorem FS.turn {r n : Nat} {w wx wy : World} {v : Value} {L : List Nat} (h : FS r w wx v n L) (hr : r < w.heap.size) (h1 : Rd r wy) (h2 : Turn r wx wy) : FS r w wy v n L := ⟨h1, h.tn.trans h2, row_turn h.row h2 hr⟩
theorem FS.drewN {r n : Nat} {w wx : World} {v : Value} {L : List Nat} (h : FS r w wx v n L) (m : Nat) : FS r w (wx.drewN m) v n L := ⟨h.rd.drewN m, h.tn.drewN m, h.row⟩
theorem FS.push {r n : Nat} {w wx w6 : World} {v v' : Value} {L : List Nat} {x : Nat} {ob : Obj} (h : FS r w wx v n L) (hr : r < w.heap.size)
    (hown : w6.ownsRow w.heap.size 40 1 v' (n + 1) (flts L ++ [.float .f64 x])) (hgrow : (wx.alloc ob).grownBy w6 v.ownBlock) : FS r w w6 v' (n + 1) (L ++ [x]) := by
  have hlt : r < wx.heap.size := h.rd.lt
  have bA : Below w.heap.size (wx.alloc ob) w6 := (Below.refl _ _).grown hgrow (by have := h.tn.size; simp; omega) (fun k hk => (h.row.lt k hk).1)
  have bB : Below w.heap.size wx w6 := ((Below.refl w.heap.size wx).alloc (h.tn.size) _).trans bA
  have e : flts (L ++ [x]) = flts L ++ [.float .f64 x] := by simp [flts]
  refine ⟨h.rd.kept bB hr, ⟨h.tn.bel.trans (bB.mono (by omega)), fun k h1 h2 => (bB.block k h2).trans (h.tn.abv k h1 h2)⟩, by rw [e]; exact hown⟩

set_option maxHeartbeats 2000000 in
theorem field_any (r : Nat) (w : World) (h : Rd r w) : Calls Try.prog 31 #[.pointer (some ⟨r, 0, none⟩), .int .i64 60] w fun e w' => ∃ v L, e = .returned v ∧ (1 ≤ L.length ∧ L.length ≤ 60) ∧ FS r w w' v L.length L := by
  have hr := h.lt
  obtain ⟨i0, hi, hz0, hz1, hz2⟩ := info_parts Pkd.Try.info40
  have hQ : ∀ x y w, (binOp .quo 40 (.float .f64 x) (.float .f64 y)).run Try.prog w = .ok (.float .f64 (opB .quo x y w)) (w.drewN (opD .quo x y)) := fun x y w => run_op Try.prog .quo arQuo 40 x y w
  have hA : ∀ x y w, (binOp .add 40 (.float .f64 x) (.float .f64 y)).run Try.prog w = .ok (.float .f64 (opB .add x y w)) (w.drewN (opD .add x y)) := fun x y w => run_op Try.prog .add arAdd 40 x y w
  have S : Hid (Calls Try.prog 48 #[.pointer (some ⟨r, 0, none⟩), .int .i64 4, .int .i64 60] w (Drawn r w fun u => 1 ≤ u ∧ u ≤ 60)) := size_any r w h
  clear h
  go_enter Try.func31, Try.ntmps31
  go_wp2_with fail
  refine S.out.mono ?_
  rintro e w1 ⟨⟨u, ⟨hu1, hu2⟩, rfl⟩, k1, k2⟩
  obtain ⟨n, rfl⟩ : ∃ n : Nat, u = (n : Int) := ⟨u.toNat, by omega⟩
  have z1 := k2.size
  have F1 : Hid (FS r w (w1.alloc (.cells #[] 40)) (.slice (some ⟨w1.heap.size, 0, none⟩) 0 0) 0 []) := ⟨k1.kept ((Below.refl w1.heap.size w1).alloc (Nat.le_refl _) _) (by omega), k2.alloc hr _, World.ownsRow_lit w1 #[] 0 (by omega) (by unfold maxLen; omega) rfl⟩
  clear S k1 k2
  go_upto_region 3 with fail
  generalize w1.alloc (Obj.cells #[] 40) = w2 at F1 ⊢
  go_wp2_with fail
  refine (below_any r w2 F1.out.rd 300 (by omega) (by omega)).mono ?_
  rintro e w3 ⟨⟨u, ⟨hv1, hv2⟩, rfl⟩, k1, k2⟩
  have F3 : Hid (FS r w w3 (.slice (some ⟨w1.heap.size, 0, none⟩) 0 0) 0 []) := F1.out.turn hr k1 k2
  clear k1 k2 F1
  go_upto_region 4 with fail
  have F4 : Hid (FS r w (w3.drewN (opD .quo (floatOfInt .f64 u) 4621819117588971520)) (.slice (some ⟨w1.heap.size, 0, none⟩) 0 0) 0 []) := F3.out.drewN _
  generalize w3.drewN (opD .quo (floatOfInt .f64 u) 4621819117588971520) = w4 at F4 ⊢
  generalize opB .quo (floatOfInt .f64 u) 4621819117588971520 w3 = x0
  clear F3
  go_wp2_with fail
  go_loopw [6, 7, 8] (fun v xv i wr => ∃ (k : Nat) (x : Nat) (L : List Nat), k ≤ n ∧ i = .int .i64 k ∧ xv = .float .f64 x ∧ Hid (L.length = k) ∧ Hid (FS r w wr v k L)) (fun _ _ i _ => n - (intOf i).toNat)
  case atStart => exact ⟨0, x0, [], Nat.zero_le _, rfl, rfl, rfl, F4⟩
  case round =>
    obtain ⟨k, x, L, hk, rfl, rfl, HL, F⟩ := hrel
    by_cases hlt : k < n
    · have i0' : (0 : Int) ≤ (k : Int) := by omega
      have i1 : (k : Int) < (n : Int) := by omega
      obtain ⟨va, vc, ev⟩ : ∃ a c, u6 = .slice a k c := row_form F.out.row
      subst ev
      go_wp2_with fail
      refine (below_any r wr F.out.rd 40 (by omega) (by omega)).mono ?_
      rintro e w5 ⟨⟨u, ⟨hu1, hu2⟩, rfl⟩, k1, k2⟩
      have F5 : Hid (FS r w w5 (.slice va k vc) k L) := F.out.turn hr k1 k2
      have eu : IntKind.i64.wrap (u - 20) = u - 20 := IntWalk.i64_in _ (by omega)
      clear k1 k2 F
      have FF : Hid (∀ q, FS r w (w5.drewN q) (.slice va k vc) k L) := fun q => F5.out.drewN q
      clear F5
      go_upto_region 8 with fail
      generalize opB .add x _ _ = y
      generalize hw6 : w5.drewN _ = w6
      have F6 : Hid (FS r w w6 (.slice va k vc) k L) := hw6 ▸ FF.out _
      clear hw6 FF
      go_wp2_with fail
      refine (once_any r w6 F6.out.rd 12 (by omega) (by omega)).mono ?_
      rintro e w7 ⟨⟨q, rfl⟩, k1, k2⟩
      have F7 : Hid (FS r w w7 (.slice va k vc) k L) := F6.out.turn hr k1 k2
      clear k1 k2 F6
      have s7 := F7.out.tn.size
      cases q
      · go_wp2_with (at_builtin; refine wpList_append_own_at _ rfl _ _ 22 rfl w.heap.size 40 i0 (.float .f64 0) 1 8 Try.underlying22 hi hz0 hz1 hz2 rfl (by decide) _ _ _ rfl (F7.out.row.alloc _) ⟨w7.heap.size, 0, none⟩ 1 1 [.float .f64 y] rfl rfl (cell_one_at w7 _ _) ?c2 ?c3 ?c4 ?c5 ?_)
        case c2 => intro u hu; simp at hu; subst hu; rfl
        case c3 => unfold maxLen; omega
        case c4 => omega
        case c5 => simp; omega
        intro v' w9 hown hgrow hnil hat
        
        have F9 : Hid (FS r w w9 v' (k + 1) (L ++ [y])) := F7.out.push hr hown hgrow
        clear hown hgrow hnil hat F7
        go_wp2_with fail
        go_roundw
        case rel => exact ⟨k + 1, y, L ++ [y], by omega, by go_num, rfl, (by show _ = _; rw [List.length_append, HL.out]; rfl), F9⟩
        case measure => simp [intOf]; omega
      · go_wp2_with fail
        refine (none_any w7).mono ?_
        rintro e w8 ⟨b, rfl, hcn, hlb, hw⟩
        have F8 : Hid (FS r w w8 (.slice va k vc) k L) := (by show FS _ _ _ _ _ _; rw [hw]; exact F7.out.drewN 1)
        have s8 := F8.out.tn.size
        clear hw hcn F7 s7
        go_wp2_with (at_builtin; refine wpList_append_own_at _ rfl _ _ 22 rfl w.heap.size 40 i0 (.float .f64 0) 1 8 Try.underlying22 hi hz0 hz1 hz2 rfl (by decide) _ _ _ rfl (F8.out.row.alloc _) ⟨w8.heap.size, 0, none⟩ 1 1 [.float .f64 b] rfl rfl (cell_one_at w8 _ _) ?c2 ?c3 ?c4 ?c5 ?_)
        case c2 => intro u hu; simp at hu; subst hu; rfl
        case c3 => unfold maxLen; omega
        case c4 => omega
        case c5 => simp; omega
        intro v' w9 hown hgrow hnil hat
        
        have F9 : Hid (FS r w w9 v' (k + 1) (L ++ [b])) := F8.out.push hr hown hgrow
        clear hown hgrow hnil hat F8
        go_wp2_with fail
        go_roundw
        case rel => exact ⟨k + 1, y, L ++ [b], by omega, by go_num, rfl, (by show _ = _; rw [List.length_append, HL.out]; rfl), F9⟩
        case measure => simp [intOf]; omega
    · have hkn : k = n := by omega
      subst hkn
      go_wp2_with fail
      go_ret
      exact ⟨_, L, rfl, ⟨by rw [HL.out]; omega, by rw [HL.out]; omega⟩, by rw [HL.out]; exact F.out⟩

end Go.Proofs.Ytgajajpcjbpalaa.Rd
