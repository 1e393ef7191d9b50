/-
  read: one step asked of both readers answers true, and both stand alike behind it; sameReaders answers true of two that do.
-/
import Derived.Test.YtccbmppmnddkpaaReadSt
import Derived.Test.YtccbmppmnddkpaaWStep
import Derived.Deep.RegionHeld3
namespace Go.Proofs.Ytccbmppmnddkpaa
open Go.RowKit
set_option linter.unusedVariables false

set_option maxHeartbeats 1600000 in
set_option maxRecDepth 100000 in
theorem sameReaders_any (B br bd : Nat) (s : ByteArray) (v : Value) (l : List UInt8) (p : Nat) (e : Int) (w : World) (h : TwoR B br bd s v l p e w) :
    Calls Try.prog 20 #[.pointer (some ⟨br, 0, none⟩), .pointer (some ⟨bd, 0, none⟩)] w fun r w' => r = .returned (.bool true) ∧ ∃ n, w' = w.drewN n := by
  have hsz : (s.size : Int) = (l.length : Int) := by rw [h.size]
  have hle : (p : Int) ≤ (l.length : Int) := by have := h.le; omega
  have hsm := h.small
  have hss : s.size ≤ 1099511627776 := by rw [h.size]; exact hsm
  have hps : (p : Int) ≤ (s.size : Int) := by omega
  have HSZ := aside hsz
  have H := aside h
  clear h hsz
  go_enter Try.func20, Try.ntmps20
  go_wp2_with fail
  refine (rerr_any br s (p : Int) e _ H.out.code).mono ?_
  rintro r w1 ⟨rfl, rfl⟩
  go_wp2_with fail
  refine (rrerr_any B bd v l (p : Int) e _ H.out.doc).mono ?_
  rintro r w1' ⟨rfl, rfl⟩
  go_wp2_with fail
  refine (rat_any br s (p : Int) e _ H.out.code).mono ?_
  rintro r w2 ⟨rfl, rfl⟩
  go_wp2_with fail
  refine (rrat_any B bd v l (p : Int) e _ H.out.doc).mono ?_
  rintro r w3 ⟨rfl, rfl⟩
  go_wp2_with fail
  refine (rleft_any br s (p : Int) e _ H.out.code (by omega) hps hss).mono ?_
  rintro r w4 ⟨rfl, q1, rfl⟩
  rw [HSZ.out]
  go_wp2_with fail
  refine (rrleft_any B bd v l (p : Int) e _ (by exact H.out.doc) (by omega) hle hsm).mono ?_
  rintro r w5 ⟨rfl, q2, rfl⟩
  go_wp2_with fail
  refine (rdone_any br s (p : Int) e _ (by exact H.out.code) (by omega) hps hss).mono ?_
  rintro r w6 ⟨rfl, q3, rfl⟩
  rw [HSZ.out]
  go_wp2_with fail
  refine (rrdone_any B bd v l (p : Int) e _ (by exact H.out.doc) (by omega) hle hsm).mono ?_
  rintro r w7 ⟨rfl, q4, rfl⟩
  go_wp2
  go_ret
  exact ⟨rfl, _, rfl⟩

set_option maxHeartbeats 3200000 in
set_option maxRecDepth 100000 in
theorem read_any (B br bd : Nat) (s : ByteArray) (v : Value) (l : List UInt8) (p : Nat) (e : Int) (kind n : Int) (tx : ByteArray) (u : Nat) (is : Bool) (w : World) (h : TwoR B br bd s v l p e w) :
    Calls Try.prog 21 #[.pointer (some ⟨br, 0, none⟩), .pointer (some ⟨bd, 0, none⟩), .agg #[.int .i64 kind, .int .i64 n, .string tx, .int .u64 (u : Int), .bool is]] w fun r w' => r = .returned (.bool true) ∧
      (∃ p' e', TwoR B br bd s v l p' e' w') ∧ Keeps (fun x => x = br ∨ x = bd) w w' := by
  have hle := h.le
  have hsm := h.small
  have hlr := h.code.lt
  have hld := h.doc.lt
  have hT : ∀ o, TwoR B br bd s v l p e (w.alloc o) := fun o => ⟨h.code.keep ((Keeps.refl (fun _ => False) w).alloc o) (fun x => x), h.doc.keep ((Keeps.refl (fun _ => False) w).alloc o) (fun x => x) (fun _ _ x => x), h.text, h.ne, h.vr, h.le, h.small⟩
  have HT := aside hT
  have hne1 : w.heap.size ≠ br := by omega
  have hne2 : w.heap.size ≠ bd := by omega
  clear h hT
  by_cases h0 : kind = 0
  · subst h0
    go_enter Try.func21, Try.ntmps21
    go_wp2_with fail
    generalize hW4 : w.alloc _ = w4
    have t4 : TwoR B br bd s v l p e w4 := by rw [← hW4]; exact HT.out _
    have k4 : Keeps (fun x => x = br ∨ x = bd) w w4 := by rw [← hW4]; exact (Keeps.refl _ _).alloc _
    have hsb : w4.heap[w.heap.size]? = some (.cells #[.int .i64 0, .int .i64 n, .string tx, .int .u64 (u : Int), .bool is] 34 (0, 0)) := by rw [← hW4]; exact heap_alloc_new w _
    have e1 : w4.cell? ⟨w.heap.size, 1, none⟩ = some (.int .i64 n) := by rw [cell_of_row w4 _ 1 _ _ _ hsb]; rfl
    have sz4 : w.heap.size < w4.heap.size := (Array.getElem?_eq_some_iff.1 hsb).1
    clear hW4 hsb HT
    go_region_held3 (fun w' => w'.cell? ⟨w.heap.size, 1, none⟩ = some (.int .i64 n)) (first | go_keep | (rw [k6.cell (Nat.lt_of_lt_of_le sz4 k5.size) (fun h => hne2 h)]; assumption) | (rw [k5.cell sz4 (fun h => hne1 h)]; assumption))
      (first | (go_at_call 22; refine (code_num _ n (by exact ⟨t4.code, t4.doc, t4.text, t4.ne, t4.vr, t4.le, t4.small⟩)).mono ?_; rintro r w5 ⟨rfl, r5, k5⟩) | (go_at_call 47; refine (doc_num _ n (by exact TwoR.later (w := w4.drew) ⟨t4.code, t4.doc, t4.text, t4.ne, t4.vr, t4.le, t4.small⟩ k5) hle hsm).mono ?_; rintro r w6 ⟨rfl, d6, k6⟩))
    go_wp2
    go_ret
    exact ⟨rfl, ⟨_, _, ⟨r5.keep k6 (fun x => t4.ne x), d6, t4.text, t4.ne, t4.vr, numSt_le l p e n hle, t4.small⟩⟩, k4.trans (Keeps.trans (b := w4.drew) ((Keeps.refl _ _).drewN 1) ((k5.mono (fun _ _ x => Or.inl x)).trans (k6.mono (fun _ _ x => Or.inr x))))⟩
  by_cases h1 : kind = 1
  · subst h1
    clear h0
    go_enter Try.func21, Try.ntmps21
    go_wp2_with fail
    generalize hW4 : w.alloc _ = w4
    have t4 : TwoR B br bd s v l p e w4 := by rw [← hW4]; exact HT.out _
    have k4 : Keeps (fun x => x = br ∨ x = bd) w w4 := by rw [← hW4]; exact (Keeps.refl _ _).alloc _
    have hsb : w4.heap[w.heap.size]? = some (.cells #[.int .i64 1, .int .i64 n, .string tx, .int .u64 (u : Int), .bool is] 34 (0, 0)) := by rw [← hW4]; exact heap_alloc_new w _
    have e1 : w4.cell? ⟨w.heap.size, 1, none⟩ = some (.int .i64 n) := by rw [cell_of_row w4 _ 1 _ _ _ hsb]; rfl
    have sz4 : w.heap.size < w4.heap.size := (Array.getElem?_eq_some_iff.1 hsb).1
    clear hW4 hsb HT
    go_region_held3 (fun w' => w'.cell? ⟨w.heap.size, 1, none⟩ = some (.int .i64 n)) (first | go_keep | (rw [k6.cell (Nat.lt_of_lt_of_le sz4 k5.size) (fun h => hne2 h)]; assumption) | (rw [k5.cell sz4 (fun h => hne1 h)]; assumption))
      (first | (go_at_call 23; refine (code_text _ n (by exact ⟨t4.code, t4.doc, t4.text, t4.ne, t4.vr, t4.le, t4.small⟩)).mono ?_; rintro r w5 ⟨rfl, r5, k5⟩) | (go_at_call 48; refine (doc_text _ n (by exact TwoR.later (w := w4.drew) ⟨t4.code, t4.doc, t4.text, t4.ne, t4.vr, t4.le, t4.small⟩ k5) hle hsm).mono ?_; rintro r w6 ⟨rfl, d6, k6⟩))
    go_wp2
    go_ret
    exact ⟨rfl, ⟨_, _, ⟨r5.keep k6 (fun x => t4.ne x), d6, t4.text, t4.ne, t4.vr, textSt_le l p e n hle, t4.small⟩⟩, k4.trans (Keeps.trans (b := w4.drew) ((Keeps.refl _ _).drewN 1) ((k5.mono (fun _ _ x => Or.inl x)).trans (k6.mono (fun _ _ x => Or.inr x))))⟩
  by_cases h2 : kind = 2
  · subst h2
    clear h0 h1
    go_enter Try.func21, Try.ntmps21
    go_wp2_with fail
    generalize hW4 : w.alloc _ = w4
    have t4 : TwoR B br bd s v l p e w4 := by rw [← hW4]; exact HT.out _
    have k4 : Keeps (fun x => x = br ∨ x = bd) w w4 := by rw [← hW4]; exact (Keeps.refl _ _).alloc _
    have hsb : w4.heap[w.heap.size]? = some (.cells #[.int .i64 2, .int .i64 n, .string tx, .int .u64 (u : Int), .bool is] 34 (0, 0)) := by rw [← hW4]; exact heap_alloc_new w _
    have e1 : w4.cell? ⟨w.heap.size, 1, none⟩ = some (.int .i64 n) := by rw [cell_of_row w4 _ 1 _ _ _ hsb]; rfl
    have sz4 : w.heap.size < w4.heap.size := (Array.getElem?_eq_some_iff.1 hsb).1
    clear hW4 hsb HT
    refine (code_word _ (by exact t4)).mono ?_
    rintro r w5 ⟨rfl, r5, k5⟩
    go_wp2_with fail
    refine (doc_word _ (by exact t4.later k5) hle hsm).mono ?_
    rintro r w6 ⟨rfl, d6, k6⟩
    go_wp2
    go_ret
    exact ⟨rfl, ⟨_, _, ⟨r5.keep k6 (fun x => t4.ne x), d6, t4.text, t4.ne, t4.vr, wordSt_le l p e hle, t4.small⟩⟩, k4.trans ((k5.mono (fun _ _ x => Or.inl x)).trans (k6.mono (fun _ _ x => Or.inr x)))⟩
  by_cases h3 : kind = 3
  · subst h3
    clear h0 h1 h2
    go_enter Try.func21, Try.ntmps21
    go_wp2_with fail
    generalize hW4 : w.alloc _ = w4
    have t4 : TwoR B br bd s v l p e w4 := by rw [← hW4]; exact HT.out _
    have k4 : Keeps (fun x => x = br ∨ x = bd) w w4 := by rw [← hW4]; exact (Keeps.refl _ _).alloc _
    have hsb : w4.heap[w.heap.size]? = some (.cells #[.int .i64 3, .int .i64 n, .string tx, .int .u64 (u : Int), .bool is] 34 (0, 0)) := by rw [← hW4]; exact heap_alloc_new w _
    have e1 : w4.cell? ⟨w.heap.size, 1, none⟩ = some (.int .i64 n) := by rw [cell_of_row w4 _ 1 _ _ _ hsb]; rfl
    have sz4 : w.heap.size < w4.heap.size := (Array.getElem?_eq_some_iff.1 hsb).1
    clear hW4 hsb HT
    refine (code_flag _ (by exact t4)).mono ?_
    rintro r w5 ⟨rfl, r5, k5⟩
    go_wp2_with fail
    refine (doc_flag _ (by exact t4.later k5) hle hsm).mono ?_
    rintro r w6 ⟨rfl, d6, k6⟩
    go_wp2
    go_ret
    exact ⟨rfl, ⟨_, _, ⟨r5.keep k6 (fun x => t4.ne x), d6, t4.text, t4.ne, t4.vr, flagSt_le l p e hle, t4.small⟩⟩, k4.trans ((k5.mono (fun _ _ x => Or.inl x)).trans (k6.mono (fun _ _ x => Or.inr x)))⟩
  by_cases h4 : kind = 4
  · subst h4
    clear h0 h1 h2 h3
    go_enter Try.func21, Try.ntmps21
    go_wp2_with fail
    generalize hW4 : w.alloc _ = w4
    have t4 : TwoR B br bd s v l p e w4 := by rw [← hW4]; exact HT.out _
    have k4 : Keeps (fun x => x = br ∨ x = bd) w w4 := by rw [← hW4]; exact (Keeps.refl _ _).alloc _
    have hsb : w4.heap[w.heap.size]? = some (.cells #[.int .i64 4, .int .i64 n, .string tx, .int .u64 (u : Int), .bool is] 34 (0, 0)) := by rw [← hW4]; exact heap_alloc_new w _
    have e1 : w4.cell? ⟨w.heap.size, 1, none⟩ = some (.int .i64 n) := by rw [cell_of_row w4 _ 1 _ _ _ hsb]; rfl
    have sz4 : w.heap.size < w4.heap.size := (Array.getElem?_eq_some_iff.1 hsb).1
    clear hW4 hsb HT
    refine (rfail_any br s (p : Int) e n _ t4.code).mono ?_
    rintro r w5 ⟨rfl, r5, k5⟩
    have e2 : w5.cell? ⟨w.heap.size, 1, none⟩ = some (.int .i64 n) := by rw [k5.cell sz4 (fun h => hne1 h)]; exact e1
    go_wp2_with fail
    refine (rrfail_any B bd v l (p : Int) e n _ (by exact t4.later k5)).mono ?_
    rintro r w6 ⟨rfl, d6, k6⟩
    go_wp2
    go_ret
    exact ⟨rfl, ⟨_, _, ⟨r5.keep k6 (fun x => t4.ne x), d6, t4.text, t4.ne, t4.vr, hle, t4.small⟩⟩, k4.trans ((k5.mono (fun _ _ x => Or.inl x)).trans (k6.mono (fun _ _ x => Or.inr x)))⟩
  · have b0 : (kind == 0) = false := beq_eq_false_iff_ne.2 h0
    have b1 : (kind == 1) = false := beq_eq_false_iff_ne.2 h1
    have b2 : (kind == 2) = false := beq_eq_false_iff_ne.2 h2
    have b3 : (kind == 3) = false := beq_eq_false_iff_ne.2 h3
    have b4 : (kind == 4) = false := beq_eq_false_iff_ne.2 h4
    clear h0 h1 h2 h3 h4
    go_enter Try.func21, Try.ntmps21
    go_wp2_with fail
    go_ret
    exact ⟨rfl, ⟨p, e, HT.out _⟩, (Keeps.refl _ _).alloc _⟩

end Go.Proofs.Ytccbmppmnddkpaa
