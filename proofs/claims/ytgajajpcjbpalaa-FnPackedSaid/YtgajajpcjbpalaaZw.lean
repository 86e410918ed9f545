/- Zi, Zj, Zk -/
import Derived.Test.YtgajajpcjbpalaaZh
import Derived.Laws.BytesArg
/- What is packed comes back value by value, plain. -/
namespace Go.Proofs.Ytgajajpcjbpalaa.Pkd
open Go.ChangeShapes Go.WideShapes Go.ChangeAt Go.RowKit
open Go.Proofs.Ytgajajpcjbpalaa.Lists Go.Proofs.Ytgajajpcjbpalaa.Flt Go.Proofs.Ytgajajpcjbpalaa.Fls


/-- What a value comes back as. -/
def bk (dec r : Int) (e : Nat) (x : Nat) : Nat := if nan x then qn else vl dec (wh r e (cod (nn dec x - r) e))
theorem rl_app (A B : List Nat) : rl (A ++ B) = rl A ++ rl B := by simp [rl, List.filter_append]
theorem rl_at (L : List Nat) (i : Nat) (hi : i < L.length) (hn : nan (L.getD i 0) = false) : (rl (L.take i)).length < (rl L).length ∧ (rl L).getD (rl (L.take i)).length 0 = L.getD i 0 := by
  have e : L = L.take i ++ L.getD i 0 :: L.drop (i + 1) := by
    have h : L.getD i 0 = L[i] := by simp [List.getD_eq_getElem?_getD, hi]
    rw [h, ← List.drop_eq_getElem_cons hi, List.take_append_drop]
  have e2 : rl L = rl (L.take i) ++ L.getD i 0 :: rl (L.drop (i + 1)) := by
    conv => lhs; rw [e]
    rw [rl_app]
    congr 1
    unfold rl
    rw [List.filter_cons_of_pos (by rw [hn]; rfl)]
  rw [e2]
  constructor
  · simp
  · rw [List.getD_eq_getElem?_getD, List.getElem?_append_right (Nat.le_refl _), Nat.sub_self]
    rfl
theorem rl_full (L : List Nat) (h : ¬ (rl L).length < L.length) : ∀ x ∈ L, nan x = false := by
  intro x hx
  have hl := rl_le L
  have : L.filter (fun x => !nan x) = L := List.filter_eq_self.2 (by
    have := List.length_filter_eq_length_iff.1 (show (L.filter fun x => !nan x).length = L.length by unfold rl at h hl; omega)
    exact this)
  have h2 := List.filter_eq_self.1 this x hx
  simpa using h2
theorem nz_ths (L : List Nat) (i : Nat) (h0 : L.length ≠ 0) : nz (ths L) i = (rl (L.take i)).length := by
  unfold nz
  rw [if_neg (by rw [ths_len]; exact h0)]
  have e : (ths L).take i = ths (L.take i) := by unfold ths; rw [List.map_take]
  rw [e]
  induction L.take i with
  | nil => rfl
  | cons x T ih =>
    have e1 : ths (x :: T) = th1 x :: ths T := rfl
    rw [e1, List.countP_cons, ih]
    cases hx : nan x
    · have : rl (x :: T) = x :: rl T := by simp [rl, hx]
      rw [this]
      simp [th1, hx, nzB]
    · have : rl (x :: T) = rl T := by simp [rl, hx]
      rw [this]
      simp [th1, hx, nzB]
/-- The values that come back, one by one. -/
theorem outs_bk (L : List Nat) (dec b r : Int) (e : Nat) (cd : List Int) (h : IsPk (ws dec L) b r e cd) :
    outs dec r e (if (rl L).length < L.length then ths L else []) cd L.length = L.map (bk dec r e) := by
  have hcd : cd = (ws dec L).map fun n => cod (n - r) e := by
    rcases h with ⟨h0, _, _, h3⟩ | ⟨M, _, _, _, h4⟩
    · rw [h0, h3]; rfl
    · exact h4
  apply List.ext_getElem (by rw [outs_len, List.length_map])
  intro i h1 h2
  rw [outs_len] at h1
  have hL : L[i] = L.getD i 0 := by simp [List.getD_eq_getElem?_getD, h1]
  rw [List.getElem_map, hL]
  have eo : (outs dec r e (if (rl L).length < L.length then ths L else []) cd L.length)[i] = el dec r e (if (rl L).length < L.length then ths L else []) cd i := by simp [outs]
  rw [eo]
  have hmiss : miss (if (rl L).length < L.length then ths L else []) i = nan (L.getD i 0) := by
    split
    · unfold miss
      rw [ths_at L i h1, ths_len, decide_eq_true (show 0 < L.length by omega)]
      unfold th1
      cases nan (L.getD i 0) <;> rfl
    · rename_i hc
      rw [rl_full L hc _ (fmem L i h1)]
      rfl
  have hnz : nz (if (rl L).length < L.length then ths L else []) i = (rl (L.take i)).length := by
    split
    · exact nz_ths L i (by omega)
    · rename_i hc
      have : rl (L.take i) = L.take i := List.filter_eq_self.2 fun x hx => by rw [rl_full L hc x (List.mem_of_mem_take hx)]; rfl
      rw [this, List.length_take]
      show i = min i L.length
      omega
  clear eo
  generalize (if (rl L).length < L.length then ths L else []) = T at hmiss hnz ⊢
  unfold el bk
  rw [hmiss]
  cases hx : nan (L.getD i 0)
  · obtain ⟨a1, a2⟩ := rl_at L i h1 hx
    have e3 : ((ws dec L).map fun n => cod (n - r) e).getD (rl (L.take i)).length 0 = cod (nn dec ((rl L).getD (rl (L.take i)).length 0) - r) e := by
      unfold ws
      rw [List.map_map]
      simp [List.getD_eq_getElem?_getD, a1]
    rw [if_neg (by decide), if_neg (by decide), hnz, hcd, e3, a2]
  · rw [if_pos rfl, if_pos rfl]

/-- All that is asked of what was packed without a fault. -/
structure Good (L : List Nat) (b dec r : Int) (e : Nat) (cd : List Int) : Prop where
  b1 : 1 ≤ b
  b2 : b ≤ 24
  d1 : -3 ≤ dec
  d2 : dec ≤ 6
  ln : L.length ≤ 4096
  af : allf dec L = true
  pk : IsPk (ws dec L) b r e cd
theorem Good.fits {L : List Nat} {b dec r : Int} {e : Nat} {cd : List Int} (h : Good L b dec r e cd) : ∀ n ∈ ws dec L, -1099511627776 ≤ n ∧ n ≤ 1099511627776 := by
  have := h.af
  unfold allf at this
  simp only [Bool.and_eq_true] at this
  exact all_fit this.2
theorem Good.rng {L : List Nat} {b dec r : Int} {e : Nat} {cd : List Int} (h : Good L b dec r e cd) : -1099511627776 ≤ r ∧ r ≤ 1099511627776 ∧ e ≤ 41 ∧ ∀ n ∈ ws dec L, 0 ≤ n - r ∧ n - r ≤ 2199023255552 := by
  have hf := h.fits
  rcases h.pk with ⟨h0, h1, h2, _⟩ | ⟨M, h1, h2, h3, _⟩
  · rw [h1, h2, h0]
    exact ⟨by omega, by omega, by omega, fun n hn => by cases hn⟩
  · have a1 := hf r h1.1
    have a2 := hf M h2.1
    have a3 := h1.2 M h2.1
    exact ⟨a1.1, a1.2, ex_le (M - r) b e (by omega) (by omega) h.b1 h.b2 h3.2, fun n hn => by have := hf n hn; have := h1.2 n hn; omega⟩
theorem mem_ws {L : List Nat} {dec : Int} {x : Nat} (hx : x ∈ L) (hn : nan x = false) : nn dec x ∈ ws dec L := List.mem_map.2 ⟨x, List.mem_filter.2 ⟨hx, by simp [hn]⟩, rfl⟩
theorem Good.wh {L : List Nat} {b dec r : Int} {e : Nat} {cd : List Int} (h : Good L b dec r e cd) (n : Int) (hn : n ∈ ws dec L) : 2 * (n - Pkd.wh r e (cod (n - r) e)).natAbs ≤ 2 ^ e ∧ (Pkd.wh r e (cod (n - r) e)).natAbs ≤ 6000000000000 := by
  obtain ⟨r1, r2, he, hr⟩ := h.rng
  have hb := h.fits n hn
  have ho := cod_off (n - r) e (by omega)
  have e1 : n - Pkd.wh r e (cod (n - r) e) = n - r - cod (n - r) e * 2 ^ e := by unfold Pkd.wh; omega
  rw [e1]
  refine ⟨ho, ?_⟩
  have hp : (2 : Nat) ^ e ≤ 2199023255552 := Nat.pow_le_pow_right (by decide) he
  have e2 : Pkd.wh r e (cod (n - r) e) = n - (n - r - cod (n - r) e * 2 ^ e) := by unfold Pkd.wh; omega
  rw [e2]
  omega
theorem Good.bk {L : List Nat} {b dec r : Int} {e : Nat} {cd : List Int} (h : Good L b dec r e cd) (x : Nat) (hx : x ∈ L) : nan (Pkd.bk dec r e x) = nan x ∧ (nan x = false → kb dec (Pkd.bk dec r e x) = true ∧ nn dec (Pkd.bk dec r e x) = Pkd.wh r e (cod (nn dec x - r) e)) := by
  unfold Pkd.bk
  cases hn : nan x
  · simp only [Bool.false_eq_true, if_false]
    obtain ⟨a1, a2, a3⟩ := back_nn dec (Pkd.wh r e (cod (nn dec x - r) e)) h.d1 h.d2 (h.wh _ (mem_ws hx hn)).2
    exact ⟨a1, fun _ => ⟨a2, a3⟩⟩
  · simp only [if_true]
    exact ⟨nan_qn, fun h => by cases h⟩
theorem Good.rl {L : List Nat} {b dec r : Int} {e : Nat} {cd : List Int} (h : Good L b dec r e cd) : Pkd.rl (L.map (Pkd.bk dec r e)) = (Pkd.rl L).map (Pkd.bk dec r e) := by
  unfold Pkd.rl
  rw [List.filter_map]
  congr 1
  refine List.filter_congr fun x hx => ?_
  show (!nan (Pkd.bk dec r e x)) = !nan x
  rw [(h.bk x hx).1]
theorem Good.cdl {L : List Nat} {b dec r : Int} {e : Nat} {cd : List Int} (h : Good L b dec r e cd) : cd = (ws dec L).map fun n => cod (n - r) e := by
  rcases h.pk with ⟨h0, _, _, h3⟩ | ⟨M, _, _, _, h4⟩
  · rw [h0, h3]; rfl
  · exact h4
theorem Good.ws {L : List Nat} {b dec r : Int} {e : Nat} {cd : List Int} (h : Good L b dec r e cd) : Pkd.ws dec (L.map (Pkd.bk dec r e)) = cd.map (Pkd.wh r e) := by
  rw [h.cdl]
  unfold Pkd.ws
  rw [h.rl, List.map_map, List.map_map, List.map_map]
  refine List.map_congr_left fun x hx => ?_
  have hx2 := List.mem_filter.1 hx
  exact ((h.bk x hx2.1).2 (by simpa using hx2.2)).2
theorem Good.ths {L : List Nat} {b dec r : Int} {e : Nat} {cd : List Int} (h : Good L b dec r e cd) : Pkd.ths (L.map (Pkd.bk dec r e)) = Pkd.ths L := by
  unfold Pkd.ths
  rw [List.map_map]
  refine List.map_congr_left fun x hx => ?_
  show th1 (Pkd.bk dec r e x) = th1 x
  unfold th1
  rw [(h.bk x hx).1]
/-- Packed again it is the same, where it can be. -/
theorem Good.again {L : List Nat} {b dec r : Int} {e : Nat} {cd : List Int} (h : Good L b dec r e cd) {p : Pk} (hr : Res (L.map (Pkd.bk dec r e)) b dec p 0) :
    p = ⟨L.length, dec, r, (e : Nat), b, if (Pkd.rl L).length < L.length then Pkd.ths L else [], cd⟩ := by
  rcases hr with ⟨_, _, h3⟩ | ⟨_, _, _, h3⟩ | ⟨_, _, _, r', e', cd', h4, h5⟩
  · cases h3
  · cases h3
  · rw [h.ws] at h4
    obtain ⟨q1, q2, q3⟩ := h4.same (pk_again _ cd b r e h.b1 h.pk)
    subst q1 q2 q3
    rw [h5, List.length_map, h.rl, List.length_map, h.ths]
/-- One value alone: its Ref is its whole number. -/
theorem res_one {x : Nat} {b dec : Int} {p : Pk} (hr : Res [x] b dec p 0) (hn : nan x = false) : p.ref = nn dec x := by
  rcases hr with ⟨_, _, h3⟩ | ⟨_, _, _, h3⟩ | ⟨_, _, _, r', e', cd', h4, h5⟩
  · cases h3
  · cases h3
  · have e1 : Pkd.ws dec [x] = [nn dec x] := by simp [Pkd.ws, Pkd.rl, hn]
    rw [e1] at h4
    rw [h5]
    rcases h4 with ⟨h, _⟩ | ⟨M, h, _⟩
    · cases h
    · exact h.same (min_one _)

end Go.Proofs.Ytgajajpcjbpalaa.Pkd

/- What was packed without a fault is right, plain; abs. -/
namespace Go.Proofs.Ytgajajpcjbpalaa.Pkd
open Go.ChangeShapes Go.WideShapes Go.ChangeAt Go.RowKit
open Go.Proofs.Ytgajajpcjbpalaa.Lists Go.Proofs.Ytgajajpcjbpalaa.Flt Go.Proofs.Ytgajajpcjbpalaa.Fls


theorem ths_byts (L : List Nat) : byts (ths L) := by
  intro x hx
  obtain ⟨y, _, rfl⟩ := List.mem_map.1 hx
  unfold th1
  split <;> omega
theorem ths_bit (L : List Nat) : (ths L).all bitB = true := by
  rw [List.all_eq_true]
  intro x hx
  obtain ⟨y, _, rfl⟩ := List.mem_map.1 hx
  unfold th1 bitB
  split <;> simp
theorem ths_sum (L : List Nat) : (ths L).sum = (rl L).length := by
  induction L with
  | nil => rfl
  | cons x T ih =>
    have e1 : ths (x :: T) = th1 x :: ths T := rfl
    rw [e1, List.sum_cons, ih]
    cases hx : nan x
    · have : rl (x :: T) = x :: rl T := by unfold rl; rw [List.filter_cons_of_pos (by rw [hx]; rfl)]
      rw [this, List.length_cons]
      unfold th1
      rw [hx]
      simp
      omega
    · have : rl (x :: T) = rl T := by unfold rl; rw [List.filter_cons_of_neg (by rw [hx]; simp)]
      rw [this]
      unfold th1
      rw [hx]
      simp
theorem Good.ok {L : List Nat} {b dec r : Int} {e : Nat} {cd : List Int} (h : Good L b dec r e cd) : okI ⟨L.length, dec, r, (e : Nat), b, if (Pkd.rl L).length < L.length then Pkd.ths L else [], cd⟩ = true := by
  obtain ⟨r1, r2, he, hr⟩ := h.rng
  have h1 := h.b1
  have h2 := h.b2
  have h3 := h.d1
  have h4 := h.d2
  have h5 := h.ln
  have hcl : cd.length = (Pkd.rl L).length := by rw [h.cdl, List.length_map, ws_len]
  have hrl := rl_le L
  have H1 : heads ⟨L.length, dec, r, (e : Nat), b, if (Pkd.rl L).length < L.length then Pkd.ths L else [], cd⟩ = true := by
    unfold heads inn
    simp [h1, h2, h3, h4, r1, r2]
    omega
  have H2 : thB (L.length : Int) (if (Pkd.rl L).length < L.length then Pkd.ths L else []) cd.length = true := by
    split
    · rename_i c
      rw [th_yes _ _ _ (ths_byts L) (by rw [ths_len]; omega) (ths_bit L) (by rw [ths_len]) (by rw [ths_sum]; omega), ths_sum, hcl]
      simp
    · rw [th_nil, hcl]
      exact decide_eq_true (by omega)
  have H3 : cd.all (cok (mst b.toNat e)) = true := by
    rw [List.all_eq_true, h.cdl]
    intro c hc
    obtain ⟨n, hn, rfl⟩ := List.mem_map.1 hc
    obtain ⟨g1, g2⟩ := hr n hn
    obtain ⟨p0, p1⟩ := pow42 e (by omega)
    have c0 : 0 ≤ cod (n - r) e := by rw [← cod_zero e]; exact cod_mono _ _ e g1
    have c1 : cod (n - r) e < 2 ^ b.toNat := by
      rcases h.pk with ⟨h0, _⟩ | ⟨M, k1, k2, k3, _⟩
      · rw [h0] at hn; cases hn
      · have := cod_mono (n - r) (M - r) e (by have := k2.2 n hn; omega)
        have := k3.1
        omega
    have c2 : cod (n - r) e ≤ 4398046511104 / 2 ^ e := by
      unfold cod
      have hpe : (2 : Int) ^ e ≤ 2199023255552 := by
        have key : ∀ q : Fin 42, (2 : Int) ^ q.val ≤ 2199023255552 := by decide +kernel
        exact key ⟨e, by omega⟩
      exact Int.ediv_le_ediv (by omega) (by omega)
    rw [cok_iff _ _ _ (by omega)]
    simp only [Bool.not_eq_true', Bool.or_eq_false_iff, decide_eq_false_iff_not]
    omega
  unfold okI
  simp only [Int.toNat_natCast]
  rw [H1, H2, H3]
  rfl
theorem Res.good {L : List Nat} {b dec : Int} {p : Pk} (h : Res L b dec p 0) : ∃ r e cd, Good L b dec r e cd ∧ p = ⟨L.length, dec, r, (e : Nat), b, if (rl L).length < L.length then ths L else [], cd⟩ := by
  rcases h with ⟨_, _, h3⟩ | ⟨_, _, _, h3⟩ | ⟨h1, h2, _, r, e, cd, h4, h5⟩
  · cases h3
  · cases h3
  · unfold okA at h1
    simp only [Bool.and_eq_true, decide_eq_true_eq] at h1
    exact ⟨r, e, cd, ⟨h1.2.1.1, h1.2.1.2, h1.2.2.1, h1.2.2.2, h1.1, h2, h4⟩, h5⟩
theorem Good.ups {L : List Nat} {b dec r : Int} {e : Nat} {cd : List Int} (h : Good L b dec r e cd) : Pkd.ups ⟨L.length, dec, r, (e : Nat), b, if (Pkd.rl L).length < L.length then Pkd.ths L else [], cd⟩ = L.map (Pkd.bk dec r e) := by
  unfold Pkd.ups
  rw [h.ok, if_pos rfl]
  show outs dec r (e : Int).toNat _ cd (L.length : Int).toNat = _
  rw [Int.toNat_natCast, Int.toNat_natCast]
  exact outs_bk L dec b r e cd h.pk

set_option maxHeartbeats 400000 in
theorem abs_any (x : Int) (w : World) (h : x.natAbs ≤ 9000000000000000) : Calls Try.prog 17 #[.int .i64 x] w fun e w' => e = .returned (.int .i64 (x.natAbs : Int)) ∧ w' = w := by
  by_cases c : x < 0
  · have e1 : IntKind.i64.wrap (-x) = (x.natAbs : Int) := by rw [IntWalk.i64_in _ (by omega)]; omega
    have e2 : wrap64 (-x) = (x.natAbs : Int) := by rw [IntWalk.wrap64_in _ (by omega)]; omega
    generalize (x.natAbs : Int) = y at *
    go_enter Try.func17, Try.ntmps17
    go_wp2
    go_ret
    exact ⟨rfl, rfl⟩
  · have HX : Hid ((x.natAbs : Int) = x) := (by show _ = _; omega)
    clear h
    go_enter Try.func17, Try.ntmps17
    go_wp2
    go_ret
    exact ⟨by rw [HX.out]; rfl, rfl⟩

end Go.Proofs.Ytgajajpcjbpalaa.Pkd

/- Two lists of numbers, two Packed, that are the same. -/
namespace Go.Proofs.Ytgajajpcjbpalaa.Pkd
open Go.ChangeShapes Go.WideShapes Go.ChangeAt Go.RowKit
open Go.Proofs.Ytgajajpcjbpalaa.Lists Go.Proofs.Ytgajajpcjbpalaa.Flt Go.Proofs.Ytgajajpcjbpalaa.Fls

set_option maxHeartbeats 1000000 in
theorem sints_any (w : World) (b1 b2 : Nat) (v1 v2 : Value) (L : List Int) (h1 : w.ownsRow b1 2 1 v1 L.length (ints L)) (h2 : w.ownsRow b2 2 1 v2 L.length (ints L)) :
    Calls Try.prog 36 #[v1, v2] w fun e w' => e = .returned (.bool true) ∧ ∃ n, w' = w.drewN n := by
  rcases Lists.row_cases h1 with ⟨rfl, rfl⟩ | ⟨g1, c1, rfl, _, _, x1, x2⟩
  · rcases Lists.row_cases h2 with ⟨_, rfl⟩ | ⟨g2, c2, rfl, _, _, _, _⟩
    · go_enter Try.func36, Try.ntmps36
      go_wp2
      go_loop [5] (fun i => i = .int .i64 0) (fun _ => 0)
      case atStart => rfl
      case round =>
        subst hrel
        go_wp2
        go_ret
        exact ⟨rfl, 0, rfl⟩
    · go_enter Try.func36, Try.ntmps36
      go_wp2
      go_loop [5] (fun i => i = .int .i64 0) (fun _ => 0)
      case atStart => rfl
      case round =>
        subst hrel
        go_wp2
        go_ret
        exact ⟨rfl, 0, rfl⟩
  · rcases Lists.row_cases h2 with ⟨e, rfl⟩ | ⟨g2, c2, rfl, _, _, y1, y2⟩
    · subst e
      go_enter Try.func36, Try.ntmps36
      go_wp2
      go_loop [5] (fun i => i = .int .i64 0) (fun _ => 0)
      case atStart => rfl
      case round =>
        subst hrel
        go_wp2
        go_ret
        exact ⟨rfl, 0, rfl⟩
    · have k1 := Lists.row_cell h1
      have k2 := Lists.row_cell h2
      have K1 : Hid (∀ i, i < L.length → w.cell? ⟨g1, i, none⟩ = some (.int .i64 (L.getD i 0))) := k1
      have K2 : Hid (∀ i, i < L.length → w.cell? ⟨g2, i, none⟩ = some (.int .i64 (L.getD i 0))) := k2
      obtain ⟨n, hn⟩ : ∃ n, n = L.length := ⟨_, rfl⟩
      rw [← hn] at x1 y1 ⊢
      have HN : Hid (n = L.length) := hn
      unfold maxLen at x2 y2
      clear k1 k2 h1 h2 hn
      go_enter Try.func36, Try.ntmps36
      go_wp2
      go_loopw [5] (fun i wr => ∃ k m : Nat, k ≤ n ∧ i = .int .i64 k ∧ wr = w.drewN m) (fun i _ => n - (intOf i).toNat)
      case atStart => exact ⟨0, 0, Nat.zero_le _, rfl, rfl⟩
      case round =>
        obtain ⟨k, m, hk, rfl, rfl⟩ := hrel
        by_cases hlt : k < n
        · have q1 := K1.out k (by rw [← HN.out]; exact hlt)
          have q2 := K2.out k (by rw [← HN.out]; exact hlt)
          have i0 : (0 : Int) ≤ (k : Int) := by omega
          have i1 : (k : Int) < (n : Int) := by omega
          have hne : (L.getD k 0 != L.getD k 0) = false := by simp
          generalize L.getD k 0 = z at *
          go_wp2_with fail
          go_quiet (fail)
          go_wp2_with fail
          go_roundw
          case rel => exact ⟨k + 1, m + nq, by omega, by go_num, rfl⟩
          case measure => simp [intOf]; omega
        · go_wp2
          go_ret
          exact ⟨rfl, m, rfl⟩


theorem conv_any (w : World) (v : Value) (T : List Int) (h : Bytes.Reads w v T) : (convert 23 9 v).run Try.prog w = .ok (.string (strOfNums T)) w := by
  rcases h with ⟨rfl, a, cap, rfl⟩ | ⟨b, o, cap, rfl, h1, h2, h3, h4⟩
  · rw [run_convert_bytes_string w 23 9 5 a 0 cap Try.underlying23 Try.underlying5 Try.underlying9]
    cases a <;> simp [Conv.bytesToString, loadCells]
    all_goals rfl
  · exact run_convert_bytes_arg (P := Try.prog) w 23 5 Try.underlying23 Try.underlying5 b o T.length cap T rfl h4 9 Try.underlying9

set_option maxHeartbeats 1000000 in
theorem samep_any (p : Pk) (t1 t2 c1 c2 : Value) (A B C D : Nat) (w : World) (hA : w.ownsRow A 5 1 t1 p.th.length (Bytes.bys p.th)) (hB : w.ownsRow B 5 1 t2 p.th.length (Bytes.bys p.th)) (hC : w.ownsRow C 2 1 c1 p.cd.length (ints p.cd)) (hD : w.ownsRow D 2 1 c2 p.cd.length (ints p.cd)) :
    Calls Try.prog 15 #[pkv p t1 c1, pkv p t2 c2] w fun e w' => e = .returned (.bool true) ∧ Below w.heap.size w w' := by
  obtain ⟨a1, x1, rfl⟩ : ∃ a c, t1 = .slice a p.th.length c := row_form hA
  obtain ⟨a2, x2, rfl⟩ : ∃ a c, t2 = .slice a p.th.length c := row_form hB
  obtain ⟨a3, x3, rfl⟩ : ∃ a c, c1 = .slice a p.cd.length c := row_form hC
  obtain ⟨a4, x4, rfl⟩ : ∃ a c, c2 = .slice a p.cd.length c := row_form hD
  obtain ⟨w2, hw2⟩ : ∃ w2, w2 = (w.alloc (.cells #[.int .i64 p.cnt, .int .i64 p.dec, .int .i64 p.ref, .int .i64 p.exp, .int .i64 p.bits, .slice a1 p.th.length x1, .slice a3 p.cd.length x3] 26)).alloc (.cells #[.int .i64 p.cnt, .int .i64 p.dec, .int .i64 p.ref, .int .i64 p.exp, .int .i64 p.bits, .slice a2 p.th.length x2, .slice a4 p.cd.length x4] 26) := ⟨_, rfl⟩
  have HW : Hid (w2 = (w.alloc (.cells #[.int .i64 p.cnt, .int .i64 p.dec, .int .i64 p.ref, .int .i64 p.exp, .int .i64 p.bits, .slice a1 p.th.length x1, .slice a3 p.cd.length x3] 26)).alloc (.cells #[.int .i64 p.cnt, .int .i64 p.dec, .int .i64 p.ref, .int .i64 p.exp, .int .i64 p.bits, .slice a2 p.th.length x2, .slice a4 p.cd.length x4] 26)) := hw2
  have B2 : Hid (Below w.heap.size w w2) := (by show Below _ _ _; rw [hw2]; exact ((Below.refl _ _).alloc (Nat.le_refl _) _).alloc (by simp) _)
  have X1 : Box7 w2 w.heap.size (.int .i64 p.cnt) (.int .i64 p.dec) (.int .i64 p.ref) (.int .i64 p.exp) (.int .i64 p.bits) (.slice a1 p.th.length x1) (.slice a3 p.cd.length x3) := (by rw [hw2]; unfold Box7; simp [go_sem])
  have X2 : Box7 w2 (w.heap.size + 1) (.int .i64 p.cnt) (.int .i64 p.dec) (.int .i64 p.ref) (.int .i64 p.exp) (.int .i64 p.bits) (.slice a2 p.th.length x2) (.slice a4 p.cd.length x4) := (by rw [hw2]; unfold Box7; simp [go_sem])
  have q1 := conv_any w2 _ p.th ((Bytes.reads_row hA).on B2.out)
  have q2 := conv_any w2 _ p.th ((Bytes.reads_row hB).on B2.out)
  have CS : Hid (Calls Try.prog 36 #[.slice a3 p.cd.length x3, .slice a4 p.cd.length x4] w2 fun e w' => e = .returned (.bool true) ∧ ∃ n, w' = w2.drewN n) := sints_any w2 C D _ _ p.cd (row_later hC B2.out (Nat.le_refl _)) (row_later hD B2.out (Nat.le_refl _))
  obtain ⟨y0, y1, y2, y3, y4, y5, y6⟩ := X1
  obtain ⟨z0, z1, z2, z3, z4, z5, z6⟩ := X2
  clear hw2 hA hB hC hD
  generalize strOfNums p.th = S at *
  unfold pkv
  go_enter Try.func15, Try.ntmps15
  go_upto_region 1 with fail
  rw [← HW.out]
  go_wp2_with fail
  refine CS.out.mono ?_
  rintro e w3 ⟨rfl, m, hw⟩
  subst hw
  go_wp2_with fail
  go_ret
  exact ⟨rfl, below_drewN B2.out m⟩

end Go.Proofs.Ytgajajpcjbpalaa.Pkd
