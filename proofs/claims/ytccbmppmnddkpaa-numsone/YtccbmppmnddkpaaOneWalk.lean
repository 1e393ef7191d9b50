/-
  The law NumsOne, walked: whatever bytes came in, it returns true and writes nothing that was there.
-/
import Derived.Test.YtccbmppmnddkpaaArgRow
import Derived.Test.YtccbmppmnddkpaaRNum
import Derived.Test.YtccbmppmnddkpaaWNum
import Derived.Test.YtccbmppmnddkpaaWBytes
import Derived.Deep.RegionHeld3
namespace Go.Proofs.Ytccbmppmnddkpaa
open Go.RowKit
set_option linter.unusedVariables false

theorem up_nat (n : Nat) : up (n : Int) = n := by unfold up; omega

set_option maxHeartbeats 3200000 in
set_option maxRecDepth 100000 in
/-- The bytes read as L, and the number that they begin with is read: then it is laid down as just these. -/
theorem one_ok (a : Option Addr) (len cap : Nat) (L : List UInt8) (n k : Nat) (w : World) (hlen : L.length = len) (hcap : len ≤ cap) (hmax : cap ≤ maxLen) (h31 : len ≤ 2147483647) (hR : Reads w (.slice a len cap) L)
    (hF : Nm.first L 9223372036854775807 = ((n : Int), (k : Int), 0)) (hk1 : 1 ≤ k) (hk : k ≤ len) (hn : n < 9223372036854775808) (henc : Nm.enc 8 n = L.take k)
    (x : Addr) (hx : a = some x) (hRk : ∀ w', Below w.heap.size w w' → Reads w' (.slice (some x) k cap) (L.take k)) :
    Calls Try.prog 6 #[.slice a len cap] w fun e w' => e = .returned (.bool true) ∧ Below w.heap.size w w' := by
  subst hx
  have g31 : (len : Int) ≤ 2147483647 := by omega
  have hk1' : (1 : Int) ≤ (k : Int) := by omega
  have hk' : (k : Int) ≤ (len : Int) := by omega
  have hkc : (k : Int) ≤ (cap : Int) := by omega
  have HF := aside hF
  have HE := aside henc
  have HK := aside hRk
  have HN := aside hn
  have HL := aside hlen
  have hn' : (n : Int) ≤ 9223372036854775807 := by omega
  unfold maxLen at hmax
  have hs : (⟨L.toArray⟩ : ByteArray).size ≤ 4294967296 := by show L.toArray.size ≤ _; simp; omega
  clear hF henc hRk hn hlen hk hk1 h31
  go_enter Try.func6, Try.ntmps6
  go_wp2_with fail
  refine (newReader_any _ L _ hR).mono ?_
  rintro e w1 ⟨rfl, hw1⟩
  have r1 : IsR w.heap.size ⟨L.toArray⟩ ((0 : Nat) : Int) 0 w1 := by rw [hw1]; exact isR_new w _
  have k1 : Keeps (fun _ => False) w w1 := by rw [hw1]; exact (Keeps.refl _ _).alloc _
  clear hw1
  go_wp2_with fail
  refine (rnum_any w.heap.size ⟨L.toArray⟩ 0 9223372036854775807 n k 0 _ r1 (by omega) hs HF.out).mono ?_
  rintro e w2 ⟨rfl, r2, k2⟩
  rw [show (((0 : Nat) : Int) + (k : Int)) = (k : Int) from by omega] at r2
  go_wp2_with fail
  refine (rerr_any w.heap.size _ _ _ _ r2).mono ?_
  rintro e w2' ⟨rfl, rfl⟩
  go_wp2_with fail
  refine (newWriter_any _).mono ?_
  rintro e w3 ⟨rfl, hw3⟩
  have b2 : w.heap.size < w2'.heap.size := r2.lt
  have W3 : IsW 60 w2'.heap.size w2'.heap.size none [] w3 := by rw [hw3]; exact isW_new _ _ _ (Nat.le_refl _)
  have k3 : Keeps (fun _ => False) w2' w3 := by rw [hw3]; exact (Keeps.refl _ _).alloc _
  have s3 : w2'.heap.size ≤ w3.heap.size := k3.size
  clear hw3
  go_wp2_with fail
  refine (wnum_any w2'.heap.size w2'.heap.size none [] n _ W3 s3 hn' (by omega) (by simp)).mono ?_
  rintro e w4 ⟨rfl, g', W4, fr4, k4⟩
  have r4 : IsR w.heap.size ⟨L.toArray⟩ (k : Int) 0 w4 := (r2.keep k3 (fun h => h)).keep k4 (fun h => h.elim (fun h => by omega) (fun h => by cases h))
  go_wp2_with fail
  refine (rat_any w.heap.size _ _ _ _ r4).mono ?_
  rintro e w4' ⟨rfl, rfl⟩
  rw [List.nil_append, up_nat, HE.out] at W4
  have bel4 : Below w.heap.size w w4' := by
    refine (k1.below (Nat.le_refl _) (fun _ _ h => h)).trans ((k2.below k1.size (fun j hj h => by omega)).trans ((k3.below (Nat.le_of_lt b2) (fun _ _ h => h)).trans (k4.below (Nat.le_trans (Nat.le_of_lt b2) s3) (fun j hj h => h.elim (fun h => by omega) (fun h => by cases h)))))
  have hL : (L.take k).length ≤ 70368744177664 := by rw [List.length_take]; have := HL.out; omega
  clear r2 r4 k1 k2 k3 k4 W3 fr4 r1 s3 b2 hR
  go_wp2_with fail
  go_region_held3 (fun _ => True) (trivial)
    (first | (go_at_call 12; (refine (bytes_any w2'.heap.size w2'.heap.size g' (L.take k) _ (by exact W4) hL).mono ?_); rintro e w5 ⟨v', rfl, ho5, k5⟩) | (go_at_call 16; (refine (sameBytes_any _ _ (L.take k) (L.take k) _ (by exact reads_own ho5) (by exact HK.out _ (bel4.drew.trans (k5.below bel4.size (fun _ _ h => h))))).mono ?_); rintro e w6 ⟨rfl, rfl⟩))
  all_goals
    go_wp2
    go_ret
    exact ⟨rfl, bel4.drew.trans (k5.below bel4.size (fun _ _ h => h))⟩

set_option maxHeartbeats 1600000 in
set_option maxRecDepth 100000 in
/-- The bytes read as L, and they begin with no number: nothing is answered, nothing is read. -/
theorem one_bad (a : Option Addr) (len cap : Nat) (L : List UInt8) (e : Int) (w : World) (hlen : L.length = len) (h31 : len ≤ 2147483647) (hR : Reads w (.slice a len cap) L)
    (hF : Nm.first L 9223372036854775807 = (0, 0, e)) (he : e ≠ 0) :
    Calls Try.prog 6 #[.slice a len cap] w fun e w' => e = .returned (.bool true) ∧ Below w.heap.size w w' := by
  have g31 : (len : Int) ≤ 2147483647 := by omega
  have hs : (⟨L.toArray⟩ : ByteArray).size ≤ 4294967296 := by show L.toArray.size ≤ _; simp; omega
  have hne : (e != 0) = true := by rw [bne_iff_ne]; exact he
  have HF := aside hF
  clear hF h31 hlen he
  go_enter Try.func6, Try.ntmps6
  go_wp2_with fail
  refine (newReader_any _ L _ hR).mono ?_
  rintro r w1 ⟨rfl, hw1⟩
  have r1 : IsR w.heap.size ⟨L.toArray⟩ ((0 : Nat) : Int) 0 w1 := by rw [hw1]; exact isR_new w _
  have k1 : Keeps (fun _ => False) w w1 := by rw [hw1]; exact (Keeps.refl _ _).alloc _
  clear hw1
  go_wp2_with fail
  refine (rnum_any w.heap.size ⟨L.toArray⟩ 0 9223372036854775807 0 0 e _ r1 (by omega) hs HF.out).mono ?_
  rintro r w2 ⟨rfl, r2, k2⟩
  rw [show (((0 : Nat) : Int) + 0) = 0 from rfl] at r2
  go_wp2_with fail
  refine (rerr_any w.heap.size _ _ _ _ r2).mono ?_
  rintro r w2' ⟨rfl, rfl⟩
  go_wp2_with fail
  refine (rat_any w.heap.size _ _ _ _ r2).mono ?_
  rintro r w2'' ⟨rfl, rfl⟩
  go_wp2
  go_ret
  exact ⟨rfl, (k1.below (Nat.le_refl _) (fun _ _ h => h)).trans (k2.below k1.size (fun j hj h => by omega))⟩

set_option maxHeartbeats 400000 in
theorem one_beyond (a : Option Addr) (len cap : Nat) (w : World) (h31 : ¬ len ≤ 2147483647) :
    Calls Try.prog 6 #[.slice a len cap] w fun e w' => e = .returned (.bool true) ∧ Below w.heap.size w w' := by
  have g31 : (2147483647 : Int) < len := by omega
  go_enter Try.func6, Try.ntmps6
  go_wp2
  go_ret
  exact ⟨rfl, Below.refl _ _⟩

theorem one_walk (a : Option Addr) (len cap : Nat) (zs : List Int) (w : World) (hrow : IsRow w a len cap zs) :
    Calls Try.prog 6 #[.slice a len cap] w fun e w' => e = .returned (.bool true) ∧ Below w.heap.size w w' := by
  by_cases h31 : len ≤ 2147483647
  · rcases hrow with ⟨rfl, rfl, rfl, rfl⟩ | ⟨x, rfl, hl, hm, hz, hc, hw⟩
    · exact one_bad none 0 0 [] 10 w rfl (by omega) (reads_nil w) rfl (by omega)
    · by_cases h0 : len = 0
      · subst h0
        have hR : Reads w (.slice (some x) 0 cap) [] := fun m => run_convert_bytes_back (P := Try.prog) (w.drewN m) 29 9 5 x cap [] Try.underlying29 Try.underlying5 Try.underlying9 (fun j hj => by simp at hj)
        exact one_bad (some x) 0 cap [] 10 w rfl (by omega) hR rfl (by omega)
      · have hb : x.block < w.heap.size := by
          have := World.block_lt_of_cell? w _ (hc 0 (by omega))
          simpa [Addr.add] using this
        have hR := fun (n : Nat) (hn : n ≤ zs.length) (w' : World) (bel : Below w.heap.size w w') => reads_row (len := len) (cap := cap) hn hb bel hc hw
        have hlen : (bytesOf (zs.take len)).length = len := by rw [bytesOf_length, List.length_take]; omega
        obtain ⟨n, k, e, hF, hkl, hk9, he0, he12, hbad, hn63, hk1⟩ := Nm.first_form (bytesOf (zs.take len)) 9223372036854775807
        by_cases he : e = 0
        · subst he
          have hd : Nm.dec 8 (bytesOf (zs.take len)) = (n, k, 0) := by
            have h := hF
            simp only [Nm.first] at h
            generalize Nm.dec 8 (bytesOf (zs.take len)) = d at h
            obtain ⟨dn, dk, de⟩ := d
            simp only at h
            by_cases hde : de = 0
            · subst hde
              simp only [ne_eq, not_true_eq_false, if_false] at h
              by_cases hbig : (9223372036854775807 : Int) < (dn : Int)
              · rw [if_pos hbig] at h; simp at h
              · rw [if_neg hbig] at h
                simp only [Prod.mk.injEq, and_true] at h
                obtain ⟨h1, h2⟩ := h
                simp only [Prod.mk.injEq, and_true]
                omega
            · simp only [ne_eq, hde, not_false_eq_true, if_true, Prod.mk.injEq] at h
              omega
          have hke : Nm.enc 8 n = (bytesOf (zs.take len)).take k := (Nm.enc_dec 8 _ n k hd).1
          have htk : (bytesOf (zs.take len)).take k = bytesOf (zs.take k) := by
            simp only [bytesOf, ← List.map_take, List.take_take]
            rw [Nat.min_eq_left (by omega)]
          exact one_ok (some x) len cap _ n k w hlen hl hm h31 (hR len (by omega) w (Below.refl _ _)) hF (hk1 rfl) (by omega) (by omega) hke x rfl (fun w' bel => by rw [htk]; exact hR k (by omega) w' bel)
        · obtain ⟨rfl, rfl⟩ := hbad he
          exact one_bad (some x) len cap _ e w hlen h31 (hR len (by omega) w (Below.refl _ _)) hF he
  · exact one_beyond a len cap w h31

end Go.Proofs.Ytccbmppmnddkpaa
