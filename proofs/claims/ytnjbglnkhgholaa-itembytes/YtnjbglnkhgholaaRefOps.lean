/-
  Num, Text, Word and Flag of the document's own reader, by contracts.
-/
import Derived.Test.YtnjbglnkhgholaaRefNum
import Derived.Test.YtnjbglnkhgholaaRText
import Derived.Test.YtnjbglnkhgholaaRWord
namespace Go.Proofs.Ytnjbglnkhgholaa
open Go.RowKit
set_option linter.unusedVariables false

set_option maxHeartbeats 400000 in
theorem rrnum_broken (B b : Nat) (v : Value) (l : List UInt8) (p e most : Int) (w : World) (h : IsRR B b v l p e w) (he : e ≠ 0) :
    Calls Try.prog 56 #[.pointer (some ⟨b, 0, none⟩), .int .i64 most] w fun r w' => r = .returned (.int .i64 0) ∧ w' = w := by
  have h2 := h.c2
  have hb : (e != 0) = true := by simp [he]
  go_enter Try.func56, Try.ntmps56
  go_wp2
  go_ret
  exact ⟨rfl, rfl⟩

/-- number, its three answers named. -/
theorem number_at (B b : Nat) (v : Value) (l : List UInt8) (p : Nat) (e0 most n k e : Int) (w : World) (h : IsRR B b v l (p : Int) e0 w) (hp : p ≤ l.length) (hs : l.length ≤ 1099511627776) (hF : Nm.first (l.drop p) most = (n, k, e)) :
    Calls Try.prog 62 #[.pointer (some ⟨b, 0, none⟩), .int .i64 most] w fun r w' => r = .returned (.tuple #[.int .i64 n, .int .i64 k, .int .i64 e]) ∧ ∃ q, w' = w.drewN q := by
  have := number_any B b v l p e0 most w h hp hs
  rw [hF] at this
  exact this

theorem first_small {l : List UInt8} {most n k e : Int} (hF : Nm.first l most = (n, k, e)) : 0 ≤ k ∧ k ≤ 9 ∧ k ≤ (l.length : Int) ∧ 0 ≤ n ∧ n < 9223372036854775808 ∧ (e ≠ 0 → n = 0 ∧ k = 0) := by
  obtain ⟨n', k', e', hf, h1, h9, _, _, h2, h3, _⟩ := Nm.first_form l most
  rw [hF] at hf
  simp only [Prod.mk.injEq] at hf
  obtain ⟨rfl, rfl, rfl⟩ := hf
  refine ⟨by omega, by omega, by omega, by omega, h3, fun he => ?_⟩
  have := h2 he
  omega

set_option maxHeartbeats 1600000 in
set_option maxRecDepth 100000 in
theorem rrnum_any (B b : Nat) (v : Value) (l : List UInt8) (p : Nat) (most n k e : Int) (w : World) (h : IsRR B b v l (p : Int) 0 w) (hp : p ≤ l.length) (hs : l.length ≤ 1099511627776) (hF : Nm.first (l.drop p) most = (n, k, e)) :
    Calls Try.prog 56 #[.pointer (some ⟨b, 0, none⟩), .int .i64 most] w fun r w' => r = .returned (.int .i64 n) ∧ IsRR B b v l ((p : Int) + k) e w' ∧ Keeps (fun x => x = b) w w' := by
  have hk := first_small hF
  have hk0 := hk.1
  have hk9 := hk.2.1
  have hl' : (l.length : Int) ≤ 1099511627776 := by omega
  have hp1 : (p : Int) ≤ (l.length : Int) := by omega
  have HF := aside hF
  have H := aside h
  have h1 := h.c1
  have h2 := h.c2
  have hf1 := h.f1
  have hf2 := h.f2
  clear hF hk h
  go_enter Try.func56, Try.ntmps56
  go_wp2_with fail
  refine (number_at B b v l p 0 most n k e _ H.out hp hs HF.out).mono ?_
  rintro r w1 ⟨rfl, q, rfl⟩
  go_wp2
  go_ret
  exact ⟨rfl, ((H.out.drewN q).set2 e).set1 _, (((Keeps.refl (fun x => x = b) w).drewN q).setCell (p := ⟨b, 2, none⟩) (fun _ => rfl) _).setCell (p := ⟨b, 1, none⟩) (fun _ => rfl) _⟩

set_option maxHeartbeats 400000 in
theorem rrtext_broken (B b : Nat) (v : Value) (l : List UInt8) (p e most : Int) (w : World) (h : IsRR B b v l p e w) (he : e ≠ 0) :
    Calls Try.prog 55 #[.pointer (some ⟨b, 0, none⟩), .int .i64 most] w fun r w' => r = .returned (.string ⟨#[]⟩) ∧ w' = w := by
  have h2 := h.c2
  have hb : (e != 0) = true := by simp [he]
  go_enter Try.func55, Try.ntmps55
  go_wp2
  go_ret
  exact ⟨rfl, rfl⟩

set_option maxHeartbeats 1600000 in
set_option maxRecDepth 100000 in
theorem rrtext_bad (B b : Nat) (v : Value) (l : List UInt8) (p : Nat) (most e : Int) (w : World) (h : IsRR B b v l (p : Int) 0 w) (hp : p ≤ l.length) (hs : l.length ≤ 1099511627776) (hF : Nm.first (l.drop p) most = (0, 0, e)) (he : e ≠ 0) :
    Calls Try.prog 55 #[.pointer (some ⟨b, 0, none⟩), .int .i64 most] w fun r w' => r = .returned (.string ⟨#[]⟩) ∧ IsRR B b v l (p : Int) e w' ∧ Keeps (fun x => x = b) w w' := by
  have HF := aside hF
  have H := aside h
  have h2 := h.c2
  have hf2 := h.f2
  have b1 : (e == 0) = false := by rw [beq_eq_false_iff_ne]; exact he
  have b2 : (e != 0) = true := by rw [bne_iff_ne]; exact he
  clear hF h he
  go_enter Try.func55, Try.ntmps55
  go_wp2_with fail
  refine (number_at B b v l p 0 most 0 0 e _ H.out hp hs HF.out).mono ?_
  rintro r w1 ⟨rfl, q, rfl⟩
  go_wp2_with fail
  go_quiet (fail)
  go_wp2
  go_ret
  exact ⟨rfl, (H.out.drewN q).set2 e, (((Keeps.refl (fun x => x = b) w).drewN _).setCell (p := ⟨b, 2, none⟩) (fun _ => rfl) _)⟩

set_option maxHeartbeats 1600000 in
set_option maxRecDepth 100000 in
theorem rrtext_short (B b : Nat) (v : Value) (l : List UInt8) (p : Nat) (most : Int) (n k : Nat) (w : World) (h : IsRR B b v l (p : Int) 0 w) (hp : p ≤ l.length) (hs : l.length ≤ 1099511627776) (hF : Nm.first (l.drop p) most = ((n : Int), (k : Int), 0)) (hpk : p + k ≤ l.length) (hn : (l.length : Int) - ((p : Int) + (k : Int)) < (n : Int)) :
    Calls Try.prog 55 #[.pointer (some ⟨b, 0, none⟩), .int .i64 most] w fun r w' => r = .returned (.string ⟨#[]⟩) ∧ IsRR B b v l (p : Int) 10 w' ∧ Keeps (fun x => x = b) w w' := by
  obtain ⟨ra, rc, rfl, hrc⟩ := h.form
  have HF := aside hF
  have H := aside h
  have h0 := h.c0
  have h1 := h.c1
  have h2 := h.c2
  have hf2 := h.f2
  have hl' : (l.length : Int) ≤ 1099511627776 := by omega
  have hp1 : (p : Int) + (k : Int) ≤ (l.length : Int) := by omega
  have hn' : (l.length : Int) - (p : Int) - (k : Int) < (n : Int) := by omega
  clear hF h hn
  go_enter Try.func55, Try.ntmps55
  go_wp2_with fail
  refine (number_at B b _ l p 0 most n k 0 _ H.out hp hs HF.out).mono ?_
  rintro r w1 ⟨rfl, q, rfl⟩
  go_wp2_with fail
  go_quiet (fail)
  go_wp2
  go_ret
  exact ⟨rfl, (H.out.drewN q).set2 10, (((Keeps.refl (fun x => x = b) w).drewN _).setCell (p := ⟨b, 2, none⟩) (fun _ => rfl) _)⟩

theorem slice_run (a : Option Addr) (len rc : Nat) (l h : Int) (h0 : 0 ≤ l) (h1 : l ≤ h) (h2 : h ≤ rc) (w : World) :
    (Instr.slice 40 (.slice a len rc) (some (.int .i64 l)) (some (.int .i64 h)) none).run Try.prog w = .ok (sliced a l.toNat h.toNat rc 1) w := by
  rw [run_slice_lh w 40 a len rc (by kernel_rfl) .i64 .i64 l h h0 h1 h2]
  have e : (sizeOf (Try.prog.elem 40)).run Try.prog w = .ok 1 w := by kernel_rfl
  rw [e]
  rfl

/-- A part of a row that is owned, read as text. -/
theorem reads_part {W : World} {B g rc : Nat} {l : List UInt8} (hown : W.ownsRow B 5 1 (.slice (some ⟨g, 0, none⟩) l.length rc) l.length (Lib.byteCells l)) (hrc : l.length ≤ rc) (lo n : Nat) (h : lo + n ≤ l.length) :
    Reads W (sliced (some ⟨g, 0, none⟩) lo (lo + n) rc 1) ((l.drop lo).take n) := by
  intro m
  have hlen : ((l.drop lo).take n).length = n := by rw [List.length_take, List.length_drop]; omega
  have hsl : sliced (some ⟨g, 0, none⟩) lo (lo + n) rc 1 = .slice (if rc = lo then some ⟨g, 0, none⟩ else some ((⟨g, 0, none⟩ : Addr).add (lo * 1))) ((l.drop lo).take n).length (rc - lo) := by
    unfold sliced
    rw [hlen, show lo + n - lo = n from by omega]
    rfl
  rw [hsl]
  by_cases e : rc = lo
  · rw [if_pos e]
    exact run_convert_bytes_back (P := Try.prog) (W.drewN m) 40 9 5 _ _ _ Try.underlying40 Try.underlying5 Try.underlying9 (fun j hj => by omega)
  · rw [if_neg e]
    refine run_convert_bytes_back (P := Try.prog) (W.drewN m) 40 9 5 _ _ _ Try.underlying40 Try.underlying5 Try.underlying9 (fun j hj => ?_)
    have hj' : lo + j < l.length := by omega
    have hadd : ((⟨g, 0, none⟩ : Addr).add (lo * 1)).add j = ⟨g, lo + j, none⟩ := by
      unfold Addr.add
      by_cases h1 : lo = 0 <;> by_cases h2 : j = 0 <;> simp [h1, h2]
    rw [hadd]
    show W.cell? _ = _
    rw [hown.cellAt (lo + j) (by omega)]
    simp [Lib.byteCells, hj']

set_option maxHeartbeats 1600000 in
set_option maxRecDepth 100000 in
theorem rrtext_ok (B b : Nat) (v : Value) (l : List UInt8) (p : Nat) (most : Int) (n k : Nat) (w : World) (h : IsRR B b v l (p : Int) 0 w) (hp : p ≤ l.length) (hs : l.length ≤ 1099511627776) (hF : Nm.first (l.drop p) most = ((n : Int), (k : Int), 0)) (hk1 : 1 ≤ k) (hpk : p + k + n ≤ l.length) :
    Calls Try.prog 55 #[.pointer (some ⟨b, 0, none⟩), .int .i64 most] w fun r w' => r = .returned (.string ⟨((l.drop (p + k)).take n).toArray⟩) ∧ IsRR B b v l ((p : Int) + (k : Int) + (n : Int)) 0 w' ∧ Keeps (fun x => x = b) w w' := by
  obtain ⟨g, rc, rfl, _⟩ := h.byte p (by omega)
  obtain ⟨ra', rc', hv', hrc'⟩ := h.form
  obtain rfl : rc = rc' := by injection hv'
  have HF := aside hF
  have H := aside h
  have h0 := h.c0
  have h1 := h.c1
  have h2 := h.c2
  have hf1 := h.f1
  have hl' : (l.length : Int) ≤ 1099511627776 := by omega
  have hp1 : (p : Int) + (k : Int) + (n : Int) ≤ (l.length : Int) := by omega
  have hn' : ¬ (l.length : Int) - (p : Int) - (k : Int) < (n : Int) := by omega
  have hsl := slice_run (some ⟨g, 0, none⟩) l.length rc ((p : Int) + (k : Int)) ((p : Int) + (k : Int) + (n : Int)) (by omega) (by omega) (by omega)
  rw [show ((p : Int) + (k : Int)).toNat = p + k from by omega, show ((p : Int) + (k : Int) + (n : Int)).toNat = p + k + n from by omega] at hsl
  have hRD := fun q : Nat => reads_part ((H.out.drewN q).set1 ((p : Int) + (k : Int) + (n : Int))).2.1 hrc' (p + k) n (by omega)
  obtain ⟨v2, hv2⟩ : ∃ v2, v2 = sliced (some ⟨g, 0, none⟩) (p + k) (p + k + n) rc 1 := ⟨_, rfl⟩
  rw [← hv2] at hsl hRD
  have hcv := fun q => hRD q
  unfold Reads at hcv
  clear hF h hv' hv2 hRD
  go_enter Try.func55, Try.ntmps55
  go_wp2_with fail
  refine (number_at B b _ l p 0 most n k 0 _ H.out hp hs HF.out).mono ?_
  rintro r w1 ⟨rfl, q, rfl⟩
  go_wp2_with fail
  go_quiet (fail)
  go_wp2
  go_quiet (fail)
  go_wp2
  go_ret
  exact ⟨rfl, (H.out.drewN q).set1 _, ((Keeps.refl (fun x => x = b) w).setCell (p := ⟨b, 1, none⟩) (fun _ => rfl) _).trans ⟨rfl, rfl, rfl, Nat.le_refl _, fun _ _ _ => rfl⟩⟩

end Go.Proofs.Ytnjbglnkhgholaa
