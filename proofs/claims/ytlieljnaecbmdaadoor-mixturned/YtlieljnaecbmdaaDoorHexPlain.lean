/-
  Plain mathematics of bytes as hexadecimal text: what Hex and Unhex come to as functions on lists of bytes, and that each undoes the other.
-/
namespace Go.Proofs.YtlieljnaecbmdaaDoor.Hx

/-- The sixteen digits. -/
def digs : List UInt8 := [48, 49, 50, 51, 52, 53, 54, 55, 56, 57, 97, 98, 99, 100, 101, 102]

/-- What one byte is as text. -/
def one (c : UInt8) : List UInt8 := [digs.getD (c.toNat / 16) 0, digs.getD (c.toNat % 16) 0]

/-- What bytes are as text. -/
def hex : List UInt8 → List UInt8
  | [] => []
  | c :: r => one c ++ hex r

/-- What a digit is worth; 16: it is none. -/
def worth (c : UInt8) : Nat := if 48 ≤ c.toNat ∧ c.toNat ≤ 57 then c.toNat - 48 else if 97 ≤ c.toNat ∧ c.toNat ≤ 102 then c.toNat - 87 else 16

/-- What text is as bytes. -/
def unhex : List UInt8 → Option (List UInt8)
  | [] => some []
  | [_] => none
  | a :: b :: r => if worth a < 16 ∧ worth b < 16 then (unhex r).map (fun t => UInt8.ofNat (16 * worth a + worth b) :: t) else none

theorem hex_length (l : List UInt8) : (hex l).length = 2 * l.length := by
  induction l with
  | nil => rfl
  | cons c r ih => simp only [hex, one, List.length_append, List.length_cons, List.length_nil, ih]; omega

theorem hex_append (a b : List UInt8) : hex (a ++ b) = hex a ++ hex b := by
  induction a with
  | nil => rfl
  | cons c r ih => simp only [List.cons_append, hex, ih, List.append_assoc]

theorem hex_snoc (l : List UInt8) (c : UInt8) : hex (l ++ [c]) = hex l ++ [digs.getD (c.toNat / 16) 0, digs.getD (c.toNat % 16) 0] := by
  rw [hex_append]; simp [hex, one]

theorem worth_digs : ∀ k : Fin 16, worth (digs.getD k.val 0) = k.val := by decide

theorem worth_dig (k : Nat) (h : k < 16) : worth (digs.getD k 0) = k := worth_digs ⟨k, h⟩

theorem unhex_hex (l : List UInt8) : unhex (hex l) = some l := by
  induction l with
  | nil => rfl
  | cons c r ih =>
    have h1 := worth_dig (c.toNat / 16) (by have := c.toNat_lt; omega)
    have h2 := worth_dig (c.toNat % 16) (by omega)
    have hd : 16 * (c.toNat / 16) + c.toNat % 16 = c.toNat := by omega
    show unhex (digs.getD (c.toNat / 16) 0 :: digs.getD (c.toNat % 16) 0 :: hex r) = _
    rw [unhex, if_pos ⟨by rw [h1]; have := c.toNat_lt; omega, by rw [h2]; omega⟩, h1, h2, hd, ih]
    simp

theorem dig_worths : ∀ k : Fin 256, worth (UInt8.ofNat k.val) < 16 → digs.getD (worth (UInt8.ofNat k.val)) 0 = UInt8.ofNat k.val := by decide +kernel

theorem dig_worth (c : UInt8) (h : worth c < 16) : digs.getD (worth c) 0 = c := by
  have := dig_worths ⟨c.toNat, c.toNat_lt⟩
  simp only [UInt8.ofNat_toNat] at this
  exact this h

theorem hex_unhex : ∀ (n : Nat) (t c : List UInt8), t.length ≤ n → unhex t = some c → hex c = t
  | _, [], c, _, h => by simp [unhex] at h; subst h; rfl
  | _, [_], c, _, h => by simp [unhex] at h
  | 0, _ :: _ :: _, _, hn, _ => by simp at hn
  | n + 1, a :: b :: r, c, hn, h => by
    simp only [unhex] at h
    by_cases hw : worth a < 16 ∧ worth b < 16
    · rw [if_pos hw, Option.map_eq_some_iff] at h
      obtain ⟨u, hu, rfl⟩ := h
      have ih := hex_unhex n r u (by simp at hn; omega) hu
      have e : (UInt8.ofNat (16 * worth a + worth b)).toNat = 16 * worth a + worth b := by
        rw [UInt8.toNat_ofNat']; exact Nat.mod_eq_of_lt (by omega)
      have e1 : (16 * worth a + worth b) / 16 = worth a := by omega
      have e2 : (16 * worth a + worth b) % 16 = worth b := by omega
      simp only [hex, one, e, e1, e2, dig_worth a hw.1, dig_worth b hw.2, ih]
      rfl
    · rw [if_neg hw] at h; cases h

theorem unhex_length : ∀ (n : Nat) (t c : List UInt8), t.length ≤ n → unhex t = some c → 2 * c.length = t.length := by
  intro n t c hn h
  have := hex_unhex n t c hn h
  rw [← this, hex_length]

/-- A step of the loop: two digits more. -/
theorem unhex_step (a b : UInt8) (r acc : List UInt8) (h : worth a < 16 ∧ worth b < 16) :
    (unhex (a :: b :: r)).map (acc ++ ·) = (unhex r).map ((acc ++ [UInt8.ofNat (16 * worth a + worth b)]) ++ ·) := by
  simp only [unhex]
  rw [if_pos h, Option.map_map]
  congr 1
  funext t
  simp

theorem unhex_stop (a b : UInt8) (r : List UInt8) (h : ¬ (worth a < 16 ∧ worth b < 16)) : unhex (a :: b :: r) = none := by
  simp only [unhex]; rw [if_neg h]

theorem unhex_odd : ∀ (n : Nat) (t : List UInt8), t.length ≤ n → t.length % 2 = 1 → unhex t = none
  | _, [], _, h => by simp at h
  | _, [_], _, _ => rfl
  | 0, _ :: _ :: _, hn, _ => by simp at hn
  | n + 1, a :: b :: r, hn, h => by
    have ih := unhex_odd n r (by simp at hn; omega) (by simp at h; omega)
    simp only [unhex, ih]
    by_cases hw : worth a < 16 ∧ worth b < 16
    · rw [if_pos hw]; rfl
    · rw [if_neg hw]

end Go.Proofs.YtlieljnaecbmdaaDoor.Hx
