/- Upper: what one rune becomes in the model, and by the language's own reading of it. -/
import Derived.Test.YtpehoakdhbicfaaDoorUp
import Derived.Laws.IdiomStrings
namespace Go.Proofs.YtpehoakdhbicfaaDoor.Uq
open Go.Proofs.YtpehoakdhbicfaaDoor.Ru
open Go.ChangeShapes Go.WideShapes Go.ChangeAt Go.RowKit

/-- what stands for a rune of ASCII -/
def upb (c : Nat) : UInt8 := if 97 ≤ c ∧ c ≤ 122 then UInt8.ofNat (c - 32) else UInt8.ofNat c
/-- what stands for the rune at a place -/
def ol (s : ByteArray) (p : Nat) : List UInt8 := if bt s p < 128 then [upb (bt s p)] else plain (Utf8.decode s p).1
theorem ol_size (s : ByteArray) (p : Nat) : (ol s p).length ≤ 2 := by
  unfold ol
  split
  · simp
  · exact plain_size _

theorem one_at (w : World) (c : UInt8) : (Instr.index 9 (.string ⟨#[c]⟩) (.int .i64 0)).run Tryd.prog w = .ok (.int .u8 c.toNat) w := by
  have := run_index_string (P := Tryd.prog) w 9 ⟨#[c]⟩ .i64 0 Tryd.underlying9
  rw [this]
  rfl

theorem conv_one (z : Nat) (wr : World) (h1 : 97 ≤ z) (h2 : z ≤ 122) : (convert 22 9 (.slice (some ⟨wr.heap.size, 0, none⟩) 1 1)).run Tryd.prog (wr.alloc (.cells #[.int .u8 ((z : Int) - 32)] 5)) = .ok (.string ⟨[UInt8.ofNat (z - 32)].toArray⟩) (wr.alloc (.cells #[.int .u8 ((z : Int) - 32)] 5)) := by
  refine run_convert_bytes_back (P := Tryd.prog) _ 22 9 5 ⟨wr.heap.size, 0, none⟩ 1 [UInt8.ofNat (z - 32)] Tryd.underlying22 Tryd.underlying5 Tryd.underlying9 ?_
  intro j hj
  simp at hj
  subst hj
  simp [Addr.add, go_sem]
  omega

set_option maxHeartbeats 1000000 in
set_option maxRecDepth 8000 in
theorem up_small (c : UInt8) (w : World) (h1 : 97 ≤ c.toNat) (h2 : c.toNat ≤ 122) : Calls Tryd.prog 25 #[.string ⟨#[c]⟩] w (Piece [upb c.toNat] w) := by
  have hx := one_at w c
  have hy := fun wr => conv_one c.toNat wr h1 h2
  have e : upb c.toNat = UInt8.ofNat (c.toNat - 32) := by unfold upb; rw [if_pos ⟨h1, h2⟩]
  rw [e]
  clear e
  unfold Piece
  generalize c.toNat = z at hx h1 h2 hy ⊢
  go_enter Tryd.func25, Tryd.ntmps25
  go_wp2
  go_ret
  exact ⟨rfl, (Below.refl _ _).alloc (Nat.le_refl _) _⟩
set_option maxHeartbeats 1000000 in
set_option maxRecDepth 8000 in
theorem up_same (c : UInt8) (w : World) (h0 : c.toNat < 128) (h1 : c.toNat < 97 ∨ 122 < c.toNat) : Calls Tryd.prog 25 #[.string ⟨#[c]⟩] w (Piece [upb c.toNat] w) := by
  have hx := one_at w c
  have e : upb c.toNat = c := by unfold upb; rw [if_neg (by omega)]; simp
  rw [e]
  clear e
  unfold Piece
  generalize hc : c.toNat = z at hx h1 h0
  clear hc
  rcases h1 with h1 | h1
  · go_enter Tryd.func25, Tryd.ntmps25
    go_wp2
    go_ret
    exact ⟨rfl, Below.refl _ _⟩
  · go_enter Tryd.func25, Tryd.ntmps25
    go_wp2
    go_ret
    exact ⟨rfl, Below.refl _ _⟩
set_option maxHeartbeats 1000000 in
set_option maxRecDepth 8000 in
theorem up_high (c : UInt8) (w : World) (h0 : 128 ≤ c.toNat) : Calls Tryd.prog 25 #[.string ⟨#[c]⟩] w (Piece [63] w) := by
  have hx := one_at w c
  unfold Piece
  generalize hc : c.toNat = z at hx h0
  clear hc
  go_enter Tryd.func25, Tryd.ntmps25
  go_wp2
  go_ret
  exact ⟨rfl, Below.refl _ _⟩

theorem len_data (b : ByteArray) : b.data.toList.length = b.size := by
  rw [Array.length_toList]
  rfl
theorem ext_size (s : ByteArray) (p n : Nat) (h : p + n ≤ s.size) : (s.extract p (p + n)).size = n := by
  rw [ByteArray.size_extract]
  omega
theorem ext_at (s : ByteArray) (p n k : Nat) (h : p + n ≤ s.size) (hk : k < n) : (s.extract p (p + n))[k]'(by rw [ext_size s p n h]; exact hk) = s[p + k]'(by omega) := by
  rw [ByteArray.getElem_extract]
theorem ext_list (s : ByteArray) (p n k : Nat) (h : p + n ≤ s.size) (hk : k < n) : (s.extract p (p + n)).data.toList[k]? = some (s[p + k]'(by omega)) := by
  have hl : k < (s.extract p (p + n)).size := by rw [ext_size s p n h]; exact hk
  rw [List.getElem?_eq_getElem (by rw [len_data]; exact hl), ← ext_at s p n k h hk]
  simp [ByteArray.getElem_eq_getElem_data]
theorem ext_one (s : ByteArray) (p : Nat) (h : p + 1 ≤ s.size) : s.extract p (p + 1) = ⟨#[s[p]'(by omega)]⟩ := by
  apply ByteArray.ext
  apply Array.ext'
  have h0 := ext_list s p 1 0 h (by omega)
  have hs := ext_size s p 1 h
  have hl : (s.extract p (p + 1)).data.toList.length = 1 := by rw [len_data]; exact hs
  match hL : (s.extract p (p + 1)).data.toList, hl with
  | [x], _ =>
    rw [hL] at h0
    simp at h0
    subst h0
    rfl
theorem ext_two (s : ByteArray) (p : Nat) (h : p + 2 ≤ s.size) : s.extract p (p + 2) = ⟨#[s[p]'(by omega), s[p + 1]'(by omega)]⟩ := by
  apply ByteArray.ext
  apply Array.ext'
  have h0 := ext_list s p 2 0 h (by omega)
  have h1 := ext_list s p 2 1 h (by omega)
  have hs := ext_size s p 2 h
  have hl : (s.extract p (p + 2)).data.toList.length = 2 := by rw [len_data]; exact hs
  match hL : (s.extract p (p + 2)).data.toList, hl with
  | [x, y], _ =>
    rw [hL] at h0 h1
    simp at h0 h1
    subst h0 h1
    rfl

/-- a piece of two bytes that a number of 192 to 255 stands in -/
theorem two_of {s : ByteArray} {p r n : Nat} (hp : p < s.size) (hd : Utf8.decode s p = (r, n)) (_hn : 2 ≤ n) (h1 : 192 ≤ r) (h2 : r < 256) :
    p + 2 ≤ s.size ∧ n = 2 ∧ bt s p = 195 ∧ bt s (p + 1) = r - 64 := by
  have hw := wd_in s p hp
  have ew : wd s p = n := by unfold wd; rw [hd]
  by_cases c1 : bt s p < 128
  · rw [dec_one c1] at hd
    simp at hd
    omega
  by_cases c2 : bt s p < 192 ∨ 248 ≤ bt s p
  · rw [show Utf8.decode s p = (65533, 1) from dec_none (by omega)] at hd
    simp at hd
    omega
  by_cases c3 : bt s p < 224
  · have M := many_two (s := s) (p := p) (by omega) c3
    by_cases hQ : okc s p (2 - 1) ∧ good 128 (acc s p (bt s p - 192) (2 - 1))
    · have e := M.dec.1 hQ
      rw [hd] at e
      simp only [Prod.mk.injEq] at e
      have ea : acc s p (bt s p - 192) (2 - 1) = (bt s p - 192) * 64 + bt s (p + 1) - 128 := rfl
      have hc : co s (p + 1) := hQ.1.2
      have hc2 := hc.2
      rw [ea] at e
      refine ⟨by omega, e.2, ?_, ?_⟩ <;> omega
    · have e := M.dec.2 hQ
      rw [hd] at e
      simp at e
      omega
  by_cases c4 : bt s p < 240
  · have M := many_three (s := s) (p := p) (by omega) c4
    by_cases hQ : okc s p (3 - 1) ∧ good 2048 (acc s p (bt s p - 224) (3 - 1))
    · have e := M.dec.1 hQ
      rw [hd] at e
      simp only [Prod.mk.injEq] at e
      have := hQ.2.1
      omega
    · have e := M.dec.2 hQ
      rw [hd] at e
      simp at e
      omega
  · have M := many_four (s := s) (p := p) (by omega) (by omega)
    by_cases hQ : okc s p (4 - 1) ∧ good 65536 (acc s p (bt s p - 240) (4 - 1))
    · have e := M.dec.1 hQ
      rw [hd] at e
      simp only [Prod.mk.injEq] at e
      have := hQ.2.1
      omega
    · have e := M.dec.2 hQ
      rw [hd] at e
      simp at e
      omega

theorem not_piece {s : ByteArray} {p r n c : Nat} (hd : Utf8.decode s p = (r, n)) (hin : p + n ≤ s.size) (h1 : 192 ≤ c) (h2 : c < 256) (hr : r ≠ c) (x : UInt8) (hx : x.toNat = c - 64) :
    ((s.extract p (p + n)).toList == [195, x]) = false := by
  rw [beq_eq_false_iff_ne, ByteArray.toList_eq]
  intro e
  have hl : (s.extract p (p + n)).data.toList.length = n := by rw [len_data]; exact ext_size s p n hin
  rw [e] at hl
  have en : n = 2 := hl.symm
  subst en
  have e0 := ext_list s p 2 0 hin (by omega)
  have e1 := ext_list s p 2 1 hin (by omega)
  rw [e] at e0 e1
  simp at e0 e1
  have b0 : bt s p = 195 := by rw [← bt_at s p (by omega), ← e0]; rfl
  have b1 : bt s (p + 1) = c - 64 := by rw [← bt_at s (p + 1) (by omega), ← e1, hx]
  have M := many_two (s := s) (p := p) (by omega) (by omega)
  have ea : acc s p (bt s p - 192) (2 - 1) = (bt s p - 192) * 64 + bt s (p + 1) - 128 := rfl
  have hQ : okc s p (2 - 1) ∧ good 128 (acc s p (bt s p - 192) (2 - 1)) := by
    refine ⟨⟨trivial, (⟨by omega, by omega, by omega⟩ : co s (p + 1))⟩, ?_⟩
    rw [ea]
    unfold good
    omega
  have := M.dec.1 hQ
  rw [hd, ea] at this
  simp only [Prod.mk.injEq] at this
  omega

theorem wide_or_bad {s : ByteArray} {p : Nat} (h : 128 ≤ bt s p) : bad s p ∨ 2 ≤ wd s p := by
  rcases first_of s p with c | c | ⟨m, low, b, M⟩
  · omega
  · exact .inl (dec_none c)
  · by_cases hQ : okc s p (m - 1) ∧ good low (acc s p (bt s p - b) (m - 1))
    · have e := M.dec.1 hQ
      have h2 := M.two
      exact .inr (by unfold wd; rw [e]; exact h2)
    · exact .inl (M.dec.2 hQ)
theorem bt_eq {s : ByteArray} {p c : Nat} (hp : p < s.size) (x : UInt8) (h : bt s p = c) (hx : x.toNat = c) : s[p]'hp = x := by
  have := bt_at s p hp
  apply UInt8.toNat_inj.1
  rw [this, h, hx]
theorem two_piece {s : ByteArray} {p r n : Nat} (hp : p < s.size) (hd : Utf8.decode s p = (r, n)) (hn : 2 ≤ n) (h1 : 192 ≤ r) (h2 : r < 256) (x : UInt8) (hx : x.toNat = r - 64) :
    s.extract p (p + n) = ⟨#[195, x]⟩ := by
  obtain ⟨a, b, c, d⟩ := two_of hp hd hn h1 h2
  subst b
  rw [ext_two s p a, bt_eq (by omega) 195 c rfl, bt_eq (by omega) x d hx]

/-- the model's letter for a rune -/
theorem up_any (s : ByteArray) (p : Nat) (w : World) (hp : p < s.size) : Calls Tryd.prog 25 #[.string (s.extract p (p + wd s p))] w (Piece (ol s p) w) := by
  have hw := wd_in s p hp
  by_cases h : bt s p < 128
  · have e1 : wd s p = 1 := by unfold wd; rw [dec_one h]
    have e2 : ol s p = [upb (bt s p)] := by unfold ol; rw [if_pos h]
    have e3 := bt_at s p hp
    rw [e1, e2, ext_one s p (by omega), ← e3]
    rw [← e3] at h
    by_cases c : 97 ≤ (s[p]'hp).toNat ∧ (s[p]'hp).toNat ≤ 122
    · exact up_small _ w c.1 c.2
    · exact up_same _ w h (by omega)
  · have e2 : ol s p = plain (Utf8.decode s p).1 := by unfold ol; rw [if_neg h]
    rcases wide_or_bad (s := s) (p := p) (by omega) with c | c
    · have e1 := (rn_bad c).2
      have e3 := bt_at s p hp
      rw [e1, e2, show Utf8.decode s p = (65533, 1) from c, ext_one s p (by omega)]
      have e4 : plain 65533 = [63] := by decide
      show Calls _ _ _ _ (Piece (plain 65533) w)
      rw [e4]
      exact up_high _ w (by rw [e3]; omega)
    · obtain ⟨r, hr⟩ : ∃ r, r = (Utf8.decode s p).1 := ⟨_, rfl⟩
      obtain ⟨n, hn⟩ : ∃ n, n = wd s p := ⟨_, rfl⟩
      have hd : Utf8.decode s p = (r, n) := by rw [hr, hn]; rfl
      rw [e2, ← hr, ← hn]
      rw [← hn] at hw c
      by_cases e228 : r = 228
      · rw [two_piece hp hd c (by omega) (by omega) 164 (by rw [e228]; rfl), e228]
        exact up_228 w
      by_cases e196 : r = 196
      · rw [two_piece hp hd c (by omega) (by omega) 132 (by rw [e196]; rfl), e196]
        exact up_196 w
      by_cases e246 : r = 246
      · rw [two_piece hp hd c (by omega) (by omega) 182 (by rw [e246]; rfl), e246]
        exact up_246 w
      by_cases e214 : r = 214
      · rw [two_piece hp hd c (by omega) (by omega) 150 (by rw [e214]; rfl), e214]
        exact up_214 w
      by_cases e248 : r = 248
      · rw [two_piece hp hd c (by omega) (by omega) 184 (by rw [e248]; rfl), e248]
        exact up_248 w
      by_cases e216 : r = 216
      · rw [two_piece hp hd c (by omega) (by omega) 152 (by rw [e216]; rfl), e216]
        exact up_216 w
      by_cases e252 : r = 252
      · rw [two_piece hp hd c (by omega) (by omega) 188 (by rw [e252]; rfl), e252]
        exact up_252 w
      by_cases e220 : r = 220
      · rw [two_piece hp hd c (by omega) (by omega) 156 (by rw [e220]; rfl), e220]
        exact up_220 w
      by_cases e229 : r = 229
      · rw [two_piece hp hd c (by omega) (by omega) 165 (by rw [e229]; rfl), e229]
        exact up_229 w
      by_cases e197 : r = 197
      · rw [two_piece hp hd c (by omega) (by omega) 133 (by rw [e197]; rfl), e197]
        exact up_197 w
      by_cases e223 : r = 223
      · rw [two_piece hp hd c (by omega) (by omega) 159 (by rw [e223]; rfl), e223]
        exact up_223 w
      by_cases e233 : r = 233
      · rw [two_piece hp hd c (by omega) (by omega) 169 (by rw [e233]; rfl), e233]
        exact up_233 w
      by_cases e232 : r = 232
      · rw [two_piece hp hd c (by omega) (by omega) 168 (by rw [e232]; rfl), e232]
        exact up_232 w
      by_cases e234 : r = 234
      · rw [two_piece hp hd c (by omega) (by omega) 170 (by rw [e234]; rfl), e234]
        exact up_234 w
      by_cases e201 : r = 201
      · rw [two_piece hp hd c (by omega) (by omega) 137 (by rw [e201]; rfl), e201]
        exact up_201 w
      by_cases e200 : r = 200
      · rw [two_piece hp hd c (by omega) (by omega) 136 (by rw [e200]; rfl), e200]
        exact up_200 w
      by_cases e202 : r = 202
      · rw [two_piece hp hd c (by omega) (by omega) 138 (by rw [e202]; rfl), e202]
        exact up_202 w
      by_cases e225 : r = 225
      · rw [two_piece hp hd c (by omega) (by omega) 161 (by rw [e225]; rfl), e225]
        exact up_225 w
      by_cases e224 : r = 224
      · rw [two_piece hp hd c (by omega) (by omega) 160 (by rw [e224]; rfl), e224]
        exact up_224 w
      by_cases e226 : r = 226
      · rw [two_piece hp hd c (by omega) (by omega) 162 (by rw [e226]; rfl), e226]
        exact up_226 w
      by_cases e193 : r = 193
      · rw [two_piece hp hd c (by omega) (by omega) 129 (by rw [e193]; rfl), e193]
        exact up_193 w
      by_cases e192 : r = 192
      · rw [two_piece hp hd c (by omega) (by omega) 128 (by rw [e192]; rfl), e192]
        exact up_192 w
      by_cases e194 : r = 194
      · rw [two_piece hp hd c (by omega) (by omega) 130 (by rw [e194]; rfl), e194]
        exact up_194 w
      by_cases e241 : r = 241
      · rw [two_piece hp hd c (by omega) (by omega) 177 (by rw [e241]; rfl), e241]
        exact up_241 w
      by_cases e209 : r = 209
      · rw [two_piece hp hd c (by omega) (by omega) 145 (by rw [e209]; rfl), e209]
        exact up_209 w
      rw [plain_none r (by
        unfold letters
        simp only [List.mem_cons, List.not_mem_nil, or_false, forall_eq_or_imp, forall_eq]
        exact ⟨e228, e196, e246, e214, e248, e216, e252, e220, e229, e197, e223, e233, e232, e234, e201, e200, e202, e225, e224, e226, e193, e192, e194, e241, e209⟩)]
      refine up_other _ w (by rw [ext_size s p n hw.2.2]; omega) ?_ ?_ ?_ ?_ ?_ ?_ ?_ ?_ ?_ ?_ ?_ ?_ ?_ ?_ ?_ ?_ ?_ ?_ ?_ ?_ ?_ ?_ ?_ ?_ ?_
      · exact not_piece hd hw.2.2 (c := 228) (by omega) (by omega) e228 164 rfl
      · exact not_piece hd hw.2.2 (c := 196) (by omega) (by omega) e196 132 rfl
      · exact not_piece hd hw.2.2 (c := 246) (by omega) (by omega) e246 182 rfl
      · exact not_piece hd hw.2.2 (c := 214) (by omega) (by omega) e214 150 rfl
      · exact not_piece hd hw.2.2 (c := 248) (by omega) (by omega) e248 184 rfl
      · exact not_piece hd hw.2.2 (c := 216) (by omega) (by omega) e216 152 rfl
      · exact not_piece hd hw.2.2 (c := 252) (by omega) (by omega) e252 188 rfl
      · exact not_piece hd hw.2.2 (c := 220) (by omega) (by omega) e220 156 rfl
      · exact not_piece hd hw.2.2 (c := 229) (by omega) (by omega) e229 165 rfl
      · exact not_piece hd hw.2.2 (c := 197) (by omega) (by omega) e197 133 rfl
      · exact not_piece hd hw.2.2 (c := 223) (by omega) (by omega) e223 159 rfl
      · exact not_piece hd hw.2.2 (c := 233) (by omega) (by omega) e233 169 rfl
      · exact not_piece hd hw.2.2 (c := 232) (by omega) (by omega) e232 168 rfl
      · exact not_piece hd hw.2.2 (c := 234) (by omega) (by omega) e234 170 rfl
      · exact not_piece hd hw.2.2 (c := 201) (by omega) (by omega) e201 137 rfl
      · exact not_piece hd hw.2.2 (c := 200) (by omega) (by omega) e200 136 rfl
      · exact not_piece hd hw.2.2 (c := 202) (by omega) (by omega) e202 138 rfl
      · exact not_piece hd hw.2.2 (c := 225) (by omega) (by omega) e225 161 rfl
      · exact not_piece hd hw.2.2 (c := 224) (by omega) (by omega) e224 160 rfl
      · exact not_piece hd hw.2.2 (c := 226) (by omega) (by omega) e226 162 rfl
      · exact not_piece hd hw.2.2 (c := 193) (by omega) (by omega) e193 129 rfl
      · exact not_piece hd hw.2.2 (c := 192) (by omega) (by omega) e192 128 rfl
      · exact not_piece hd hw.2.2 (c := 194) (by omega) (by omega) e194 130 rfl
      · exact not_piece hd hw.2.2 (c := 241) (by omega) (by omega) e241 177 rfl
      · exact not_piece hd hw.2.2 (c := 209) (by omega) (by omega) e209 145 rfl

theorem ascii_or (s : ByteArray) (p : Nat) (hp : p < s.size) : (bt s p < 128 ∧ (Utf8.decode s p).1 = bt s p) ∨ (128 ≤ bt s p ∧ 128 ≤ (Utf8.decode s p).1) := by
  by_cases c : bt s p < 128
  · exact .inl ⟨c, by rw [dec_one c]⟩
  · exact .inr ⟨by omega, (decode_high s p hp (by rw [bt_at s p hp]; omega)).1⟩
end Go.Proofs.YtpehoakdhbicfaaDoor.Uq
