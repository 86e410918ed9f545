/- What a Packed unpacks to, plain. -/
import Derived.Test.YtgajajpcjbpalaaXoV
namespace Go.Proofs.Ytgajajpcjbpalaa.Pkd
open Go.ChangeShapes Go.WideShapes Go.ChangeAt Go.RowKit
open Go.Proofs.Ytgajajpcjbpalaa.Lists Go.Proofs.Ytgajajpcjbpalaa.Flt Go.Proofs.Ytgajajpcjbpalaa.Fls

def nzB (x : Int) : Bool := decide (x ≠ 0)
def nz (T : List Int) (i : Nat) : Nat := if T.length = 0 then i else (T.take i).countP nzB
def miss (T : List Int) (i : Nat) : Bool := decide (0 < T.length) && decide (T.getD i 0 = 0)
def el (dec r : Int) (d : Nat) (T L : List Int) (i : Nat) : Nat := if miss T i then qn else vl dec (wh r d (L.getD (nz T i) 0))
def outs (dec r : Int) (d : Nat) (T L : List Int) (n : Nat) : List Nat := (List.range n).map (el dec r d T L)
theorem outs_len (dec r : Int) (d : Nat) (T L : List Int) (n : Nat) : (outs dec r d T L n).length = n := by simp [outs]
theorem outs_succ (dec r : Int) (d : Nat) (T L : List Int) (n : Nat) : outs dec r d T L (n + 1) = outs dec r d T L n ++ [el dec r d T L n] := by simp [outs, List.range_succ]
theorem nz_zero (T : List Int) : nz T 0 = 0 := by unfold nz; split <;> simp
theorem cnt_take (T : List Int) (i : Nat) (h : i < T.length) : (T.take (i + 1)).countP nzB = (T.take i).countP nzB + (if nzB (T.getD i 0) then 1 else 0) := by
  rw [List.take_succ_eq_append_getElem h, List.countP_append]
  congr 1
  simp [List.countP_cons, List.getD_eq_getElem?_getD, h]
theorem nz_miss (T : List Int) (i : Nat) (hi : T.length = 0 ∨ i < T.length) (h : miss T i = true) : nz T (i + 1) = nz T i := by
  unfold miss at h
  simp at h
  unfold nz
  rw [if_neg (by omega), if_neg (by omega), cnt_take T i (by omega)]
  have : nzB (T.getD i 0) = false := by unfold nzB; simp; simpa using h.2
  rw [this]
  simp
theorem nz_yes (T : List Int) (i : Nat) (hi : T.length = 0 ∨ i < T.length) (h : miss T i = false) : nz T (i + 1) = nz T i + 1 := by
  unfold miss at h
  unfold nz
  by_cases h0 : T.length = 0
  · rw [if_pos h0, if_pos h0]
  · rw [if_neg h0, if_neg h0, cnt_take T i (by omega)]
    have : nzB (T.getD i 0) = true := by
      unfold nzB
      rw [decide_eq_true (by omega : 0 < T.length), Bool.true_and] at h
      simp at h ⊢
      exact h
    rw [this]
    simp
theorem cnt_one (T : List Int) (hT : byts T) (h : T.all bitB = true) : T.countP nzB = one T := by
  induction T with
  | nil => rfl
  | cons x T ih =>
    obtain ⟨h0, h1⟩ := hT x List.mem_cons_self
    rw [List.all_cons, Bool.and_eq_true] at h
    have hx : x ≤ 1 := by have := h.1; unfold bitB at this; simpa using this
    rw [(one_cons x T h0 h1).1, List.countP_cons, ih (fun y hy => hT y (List.mem_cons_of_mem _ hy)) h.2]
    unfold nzB
    rcases (by omega : x = 0 ∨ x = 1) with rfl | rfl <;> simp
theorem th_true (cnt : Int) (T : List Int) (nc : Nat) (hT : byts T) (h : thB cnt T nc = true) : (T.length = 0 ∧ (nc : Int) = cnt) ∨ (T.length ≠ 0 ∧ (T.length : Int) = cnt ∧ T.countP nzB = nc) := by
  by_cases h0 : T.length = 0
  · have : T = [] := List.eq_nil_of_length_eq_zero h0
    subst this
    rw [th_nil] at h
    exact .inl ⟨rfl, by simpa using h⟩
  · have ha : T.all bitB = true := by
      cases e : T.all bitB
      · rw [th_big cnt T nc hT h0 e] at h; cases h
      · rfl
    unfold thB at h
    rw [if_neg h0] at h
    split at h
    · cases h
    · simp only [Bool.and_eq_true, decide_eq_true_eq] at h
      exact .inr ⟨h0, h.1, by rw [cnt_one T hT ha]; exact h.2⟩
theorem nz_lt (cnt : Int) (T : List Int) (nc i : Nat) (hT : byts T) (h : thB cnt T nc = true) (hi : (i : Int) < cnt) (hm : miss T i = false) : nz T i < nc := by
  rcases th_true cnt T nc hT h with ⟨h0, h1⟩ | ⟨h0, h1, h2⟩
  · unfold nz; rw [if_pos h0]; omega
  · have hy := nz_yes T i (.inr (by omega)) hm
    have hle : nz T (i + 1) ≤ nc := by
      unfold nz
      rw [if_neg h0, ← h2]
      exact (List.take_sublist _ _).countP_le
    omega
theorem th_place (cnt : Int) (T : List Int) (nc i : Nat) (hT : byts T) (h : thB cnt T nc = true) (hi : (i : Int) < cnt) : T.length = 0 ∨ i < T.length := by
  rcases th_true cnt T nc hT h with ⟨h0, h1⟩ | ⟨h0, h1, h2⟩
  · exact .inl h0
  · exact .inr (by omega)
theorem nc_le (cnt : Int) (T : List Int) (nc : Nat) (hT : byts T) (h : thB cnt T nc = true) (hc : cnt ≤ 4096) : nc ≤ 4096 ∧ T.length ≤ 4096 := by
  rcases th_true cnt T nc hT h with ⟨h0, h1⟩ | ⟨h0, h1, h2⟩
  · omega
  · have := List.countP_le_length (p := nzB) (l := T)
    omega

def wmid (O : List Nat) (j : Nat) : List Nat := (List.range O.length).map fun i => if i < j then O.getD i 0 else 0
theorem wmid_len (O : List Nat) (j : Nat) : (wmid O j).length = O.length := by simp [wmid]
theorem wmid_zero (O : List Nat) : (madeCells (Value.float .f64 0).cells (O.length * 1)).toList = flts (wmid O 0) := by
  apply List.ext_getElem
  · simp [madeCells, flts, wmid]
  · intro i h1 h2
    simp [madeCells, flts, wmid, Value.cells, Nat.mod_one]
theorem wmid_all (O : List Nat) : wmid O O.length = O := by
  apply List.ext_getElem (wmid_len _ _)
  intro i h1 h2
  simp [wmid, h2]
theorem wmid_set (O : List Nat) (j : Nat) : (wmid O j).set j (O.getD j 0) = wmid O (j + 1) := by
  apply List.ext_getElem (by rw [List.length_set, wmid_len, wmid_len])
  intro i h1 h2
  rw [List.getElem_set]
  by_cases e : j = i
  · subst e; simp [wmid]
  · rw [if_neg e]
    simp only [wmid, List.getElem_map, List.getElem_range]
    by_cases x : i < j
    · rw [if_pos x, if_pos (by omega)]
    · rw [if_neg x, if_neg (by omega)]
theorem outs_get (dec r : Int) (d : Nat) (T L : List Int) (n i : Nat) (h : i < n) : (outs dec r d T L n).getD i 0 = el dec r d T L i := by simp [outs, List.getD_eq_getElem?_getD, h]
theorem wh_bound (b d : Nat) (r : Int) (L : List Int) (hb : b ≤ 24) (hr0 : -1099511627776 ≤ r) (hr1 : r ≤ 1099511627776) (hk : L.all (cok (mst b d)) = true) (i : Nat) (hi : i < L.length) : (wh r d (L.getD i 0)).natAbs < 9007199254740992 := by
  have me : L.getD i 0 ∈ L := (by simp [List.getD_eq_getElem?_getD, hi])
  rw [List.all_eq_true] at hk
  obtain ⟨p0, p1, _⟩ := pow_bound b d _ (hk _ me) hb
  unfold wh
  omega
end Go.Proofs.Ytgajajpcjbpalaa.Pkd
