/-
  The code's Load of an image.
-/
import Derived.Test.YtlbkcndmljlnmaaDoorBx25
import Derived.Defers
import Derived.Recover
namespace Go.Proofs.YtlbkcndmljlnmaaDoor
open Go.RowKit
set_option linter.unusedVariables false
/-- What Load of an image says. -/
def ImSay (w : World) (l : List UInt8) (r : Ending) (w' : World) : Prop :=
  (∃ nd ck es sb g tb, ImgIs l nd ck es ∧ r = .returned (.tuple #[.pointer (some ⟨sb, 0, none⟩), .int .i64 0]) ∧ Sto w' sb g tb nd ck es ∧ w.heap.size ≤ sb ∧ w.heap.size ≤ g ∧ w.heap.size ≤ tb ∧ Lanes w') ∨ ((∀ nd ck es, ¬ ImgIs l nd ck es) ∧ r = .returned (.tuple #[.pointer none, .int .i64 100]))
set_option maxHeartbeats 6400000 in
set_option maxRecDepth 100000 in
theorem errorOf_any (w : World) : Calls Tryd.prog 42 #[.iface 123 (.agg #[])] w fun e w' => e = .returned (.int .i64 100) ∧ Below w.heap.size w w' := by
  have hta : ∀ (t : TypeId) (w : World), (Instr.typeAssert (.iface 123 (.agg #[])) t 123 true).run Tryd.prog w = .ok (.tuple #[.agg #[], .bool true]) w := fun t w => by first | kernel_rfl | rfl | simp [go_sem]
  go_enter Tryd.func42, Tryd.ntmps42
  go_wp2
  go_ret
  exact ⟨rfl, bnew _ _⟩
set_option maxHeartbeats 6400000 in
set_option maxRecDepth 100000 in
theorem catch_pan (p1 p2 : Nat) (w : World) (h1 : w.heap[p1]? = some (.cells #[.pointer none] 24 (0, 0))) (h2 : w.heap[p2]? = some (.cells #[.int .i64 0] 25 (0, 0))) :
    CallsD Tryd.prog 41 #[.pointer (some ⟨p1, 0, none⟩), .pointer (some ⟨p2, 0, none⟩)] (.panicking ({ v := .iface 123 (.agg #[]), recovered := false } :: [])) w fun e u' w' =>
      e = .returned (.tuple #[]) ∧ u' = .panicking ({ v := .iface 123 (.agg #[]), recovered := true } :: []) ∧ w'.cell? ⟨p1, 0, none⟩ = some (.pointer none) ∧ w'.cell? ⟨p2, 0, none⟩ = some (.int .i64 100) ∧ Keeps (fun x => x = p1 ∨ x = p2) w w' := by
  have H1 := aside h1
  have H2 := aside h2
  clear h1 h2
  refine callsD_of_wpS Tryd.func41 rfl fun c₀ cs hu => ?_
  apply wpS_seq
  apply wpS_region
  simp [wpOpsS, go_sem, recoverD, hu, Tryd.ntmps41, Exit.thenS]
  simp only [Array.replicate_succ, Array.replicate_zero, List.push_toArray, List.append_toArray, List.nil_append, List.cons_append, List.setIfInBounds_toArray, List.set_cons_zero, List.set_cons_succ]
  refine wpS_of_wp ?_
  go_wp2_with fail
  refine (errorOf_any w).mono ?_
  rintro e w1 ⟨rfl, b1⟩
  have H1' := aside (blk_on H1.out b1)
  have H2' := aside (blk_on H2.out b1)
  have KB := aside (Keeps.of_below b1 (fun x => x = p1 ∨ x = p2))
  have HN := aside (show p1 ≠ p2 from fun e => by have h9 := H2.out; rw [← e, H1.out] at h9; simp at h9)
  have hn1 : ¬ p1 = p2 := HN.out
  have hn2 : ¬ p2 = p1 := fun e => HN.out e.symm
  have c1 := cell_one H1'.out
  have z1 := frozen_one H1'.out
  have c2 := cell_one H2'.out
  have z2 := frozen_one H2'.out
  clear b1
  go_wp2
  have hm : ∀ (a : Array Value), (results Tryd.f41 a).run Tryd.prog ((w1.setCell ⟨p1, 0, none⟩ (.pointer none)).setCell ⟨p2, 0, none⟩ (.int .i64 100)) = .ok (.tuple #[]) ((w1.setCell ⟨p1, 0, none⟩ (.pointer none)).setCell ⟨p2, 0, none⟩ (.int .i64 100)) := fun a => by simp [results, Tryd.results41]
  refine ⟨rfl, _, rfl, _, hm _, rfl, rfl, ?_, ?_, ?_⟩
  · have g1 := heap_setCell_same w1 p1 0 _ _ (.pointer none) H1'.out
    have g2 := (heap_setCell_other (w1.setCell ⟨p1, 0, none⟩ (.pointer none)) ⟨p2, 0, none⟩ p1 (.int .i64 100) HN.out).trans g1
    exact cell_one g2
  · have g1 := (heap_setCell_other w1 ⟨p1, 0, none⟩ p2 (.pointer none) (fun e => HN.out e.symm)).trans H2'.out
    have g2 := heap_setCell_same (w1.setCell ⟨p1, 0, none⟩ (.pointer none)) p2 0 _ _ (.int .i64 100) g1
    exact cell_one g2
  · exact (KB.out.setCell (p := ⟨p1, 0, none⟩) (fun _ => .inl rfl) _).setCell (p := ⟨p2, 0, none⟩) (fun _ => .inr rfl) _
set_option maxHeartbeats 6400000 in
set_option maxRecDepth 100000 in
theorem catch_calm (p1 p2 : Nat) (w : World) :
    CallsD Tryd.prog 41 #[.pointer (some ⟨p1, 0, none⟩), .pointer (some ⟨p2, 0, none⟩)] .returning w fun e u' w' => e = .returned (.tuple #[]) ∧ u' = .returning ∧ w' = w := by
  refine callsD_of_wpS Tryd.func41 rfl fun c₀ cs hu => ?_
  apply wpS_seq
  apply wpS_region
  simp [wpOpsS, go_sem, recoverD, hu, Tryd.ntmps41, Exit.thenS]
  simp only [Array.replicate_succ, Array.replicate_zero, List.push_toArray, List.append_toArray, List.nil_append, List.cons_append, List.setIfInBounds_toArray, List.set_cons_zero, List.set_cons_succ]
  refine wpS_of_wp ?_
  go_wp2
  cases c₀
  simp_all [bodyPostS, results, Tryd.results41]
set_option maxHeartbeats 6400000 in
set_option maxRecDepth 100000 in
theorem imload {w : World} {a : Option Addr} {len cap : Nat} {l : List UInt8} (hR : ∀ w', Below w.heap.size w w' → Reads w' (.slice a len cap) l) (hlen : len = l.length) (L : Lanes w) :
    Calls Tryd.prog 14 #[.slice a len cap] w fun r w' => Below w.heap.size w w' ∧ ImSay w l r w' := by
  have hmf : ∀ (fn : Fn) (first cap : Array Value) (w : World), (Instr.makeFunc fn first cap).run Tryd.prog w = .ok (.func fn first cap) w := fun _ _ _ _ => rfl
  have NB := bthen (bnew w (.cells #[.pointer none] 24)) (bnew (w.alloc (.cells #[.pointer none] 24)) (.cells #[.int .i64 0] 25))
  have K1 := blk_on (heap_alloc_new w (.cells #[.pointer none] 24)) (bnew (w.alloc (.cells #[.pointer none] 24)) (.cells #[.int .i64 0] 25))
  have K2 := heap_alloc_new (w.alloc (.cells #[.pointer none] 24)) (.cells #[.int .i64 0] 25)
  rw [World.size_alloc] at K2
  have CR := aside (rdstore (hR _ NB) hlen (L.keep NB))
  have HL0 := aside (show 0 < w.heap.size from World.block_lt_of_cell? w _ L.c5)
  have HNB := aside NB
  have HK1 := aside K1
  have HK2 := aside K2
  clear hR hlen L NB K1 K2
  go_enter_defers Tryd.func14, Tryd.ntmps14
  go_wp2_with fail
  obtain ⟨p1, hp1⟩ : ∃ p1, w.heap.size = p1 := ⟨_, rfl⟩
  have HP1 := aside hp1
  obtain ⟨p2, hp2⟩ : ∃ p2, p1 + 1 = p2 := ⟨_, rfl⟩
  have HP2 := aside hp2
  obtain ⟨w0, hw0⟩ : ∃ w0, (w.alloc (.cells #[.pointer none] 24)).alloc (.cells #[.int .i64 0] 25) = w0 := ⟨_, rfl⟩
  rw [hw0] at CR HNB HK1 HK2 ⊢
  have HW0 := aside (show w.heap.size ≤ w0.heap.size from HNB.out.size)
  rw [hp1] at HK1 HK2 ⊢
  rw [hp2] at HK2 ⊢
  clear hw0 hp1 hp2
  refine CR.out.mono ?_
  rintro r w3 ⟨b3, ⟨nd, ck, es, sb, g, tb, hI, rfl, hst, l1, l2, l3, L3⟩ | ⟨hno, rfl⟩⟩
  case inr =>
    have H1' := aside (blk_on HK1.out b3)
    have H2' := aside (blk_on HK2.out b3)
    have HNO := aside hno
    have HB := aside (bthen HNB.out b3)
    clear hno b3 CR
    go_wp2
    refine leaves_cons (f := 41) (args := #[.pointer (some ⟨p1, 0, none⟩), .pointer (some ⟨p2, 0, none⟩)]) (by simp) (by simp [go_sem]) ?_
    refine (catch_pan p1 p2 w3 H1'.out H2'.out).mono ?_
    rintro e u' w4 ⟨rfl, rfl, c1, c2, k⟩
    have HB4 := aside (HB.out.trans (k.below HB.out.size (fun i hi e => by have h1 := HP1.out; have h2 := HP2.out; omega)))
    simp [Leaves, settle, results, Tryd.results14, go_sem, c1, c2]
    exact ⟨HB4.out, .inr ⟨HNO.out, rfl⟩⟩
  have H1' := aside (blk_on HK1.out b3)
  have H2' := aside (blk_on HK2.out b3)
  have HB := aside (bthen HNB.out b3)
  have HN := aside (show p1 ≠ p2 from by have := HP2.out; omega)
  have hn1 : ¬ p1 = p2 := HN.out
  have hn2 : ¬ p2 = p1 := fun e => HN.out e.symm
  have RES := aside (show ImgIs l nd ck es ∧ Sto w3 sb g tb nd ck es ∧ (w0.heap.size ≤ sb ∧ w0.heap.size ≤ g ∧ w0.heap.size ≤ tb) ∧ Lanes w3 from ⟨hI, hst, ⟨l1, l2, l3⟩, L3⟩)
  have c1 := cell_one H1'.out
  have z1 := frozen_one H1'.out
  have c2 := cell_one H2'.out
  have z2 := frozen_one H2'.out
  clear hI hst l1 l2 l3 L3 b3 CR
  go_wp2
  refine leaves_cons (f := 41) (args := #[.pointer (some ⟨p1, 0, none⟩), .pointer (some ⟨p2, 0, none⟩)]) (by simp) (by simp [go_sem]) ?_
  refine (catch_calm p1 p2 _).mono ?_
  rintro e u' w4 ⟨rfl, rfl, rfl⟩
  have g1 := (heap_setCell_other (w3.setCell ⟨p1, 0, none⟩ (.pointer (some ⟨sb, 0, none⟩))) ⟨p2, 0, none⟩ p1 (.int .i64 0) hn1).trans (heap_setCell_same w3 p1 0 _ _ (.pointer (some ⟨sb, 0, none⟩)) H1'.out)
  have g2 := heap_setCell_same (w3.setCell ⟨p1, 0, none⟩ (.pointer (some ⟨sb, 0, none⟩))) p2 0 _ _ (.int .i64 0) ((heap_setCell_other w3 ⟨p1, 0, none⟩ p2 (.pointer (some ⟨sb, 0, none⟩)) hn2).trans H2'.out)
  have d1 := cell_one g1
  have d2 := cell_one g2
  have k := ((Keeps.refl (fun x => x = p1 ∨ x = p2) w3).setCell (p := ⟨p1, 0, none⟩) (fun _ => .inl rfl) (.pointer (some ⟨sb, 0, none⟩))).setCell (p := ⟨p2, 0, none⟩) (fun _ => .inr rfl) (.int .i64 0)
  have HB4 := HB.out.trans (k.below HB.out.size (fun i hi e => by have h1 := HP1.out; have h2 := HP2.out; omega))
  have S4 : Sto ((w3.setCell ⟨p1, 0, none⟩ (.pointer (some ⟨sb, 0, none⟩))).setCell ⟨p2, 0, none⟩ (.int .i64 0)) sb g tb nd ck es := RES.out.2.1.other k (fun hi hU e => by
    rcases e with e | e
    · rw [e, H1'.out] at hi
      simp only [Option.some.injEq, Obj.cells.injEq] at hi
      rcases hU with rfl | rfl | rfl | rfl <;> exact absurd hi.2.1 (by decide)
    · rw [e, H2'.out] at hi
      simp only [Option.some.injEq, Obj.cells.injEq] at hi
      rcases hU with rfl | rfl | rfl | rfl <;> exact absurd hi.2.1 (by decide))
  have L4 := RES.out.2.2.2.keeps k (fun e => by have h1 := HL0.out; have h2 := HP1.out; have h3 := HP2.out; omega)
  simp [Leaves, settle, results, Tryd.results14, go_sem, d1, d2]
  exact ⟨HB4, .inl ⟨nd, ck, es, sb, g, tb, RES.out.1, rfl, S4, by have := RES.out.2.2.1; have := HW0.out; omega, by have := RES.out.2.2.1; have := HW0.out; omega, by have := RES.out.2.2.1; have := HW0.out; omega, L4⟩⟩
end Go.Proofs.YtlbkcndmljlnmaaDoor
