/-
  Meet, the code's: it returns what the plain function gives, and writes nothing that was there.
-/
import Derived.Test.YtidajlnaehhkkaaSEmp
import Derived.Laws.ResultCell
namespace Go.Proofs.Ytidajlnaehhkkaa
open Go.RowKit

/-- A block of three cells, as the walk asks for it. -/
theorem box_out {W : World} {k : Nat} {a b c : Value} {t : TypeId} (h : W.heap[k]? = some (.cells #[a, b, c] t (0, 0))) :
    (W.cell? ⟨k, 0, none⟩ = some a ∧ W.cell? ⟨k, 1, none⟩ = some b ∧ W.cell? ⟨k, 2, none⟩ = some c) ∧ (W.frozen? ⟨k, 0, none⟩ = false ∧ W.frozen? ⟨k, 1, none⟩ = false ∧ W.frozen? ⟨k, 2, none⟩ = false) := by
  simp [World.cell?, World.frozen?, h]

theorem run_max2 (w : World) (ts : Array TypeId) (t : TypeId) (x y : ByteArray) : (Builtin.max_ ts t #[.string x, .string y]).run Try.prog w = .ok (.string (Rg.mx x y)) w := by
  cases h : Op.bytesLess x.toList y.toList <;> simp [Builtin.max_, Builtin.max2, Op.stringOp, asBool, Rg.mx, h]

theorem empty_at {lo hi : ByteArray} {op m : Bool} (h : Rg.emp ⟨lo, hi, op⟩ = m) (w : World) :
    Calls Try.prog 12 #[.agg #[.string lo, .string hi, .bool op]] w fun e w' => e = .returned (.bool m) ∧ Below w.heap.size w w' := by
  subst h; exact empty_any lo hi op w

theorem heap_new (w : World) (o : Obj) : (w.alloc o).heap[w.heap.size]? = some o := heap_alloc_new w o

theorem lies {w : World} {k : Nat} {o : Obj} (h : w.heap[k]? = some o) : k < w.heap.size := (Array.getElem?_eq_some_iff.1 h).1

theorem keep {k : Nat} {w1 w2 : World} {o : Obj} (h : w1.heap[k]? = some o) (b : Below w1.heap.size w1 w2) : w2.heap[k]? = some o :=
  (b.block k (Array.getElem?_eq_some_iff.1 h).1).trans h

theorem keepA {k : Nat} {w1 : World} {o p : Obj} (h : w1.heap[k]? = some o) : (w1.alloc p).heap[k]? = some o :=
  (Below.heap_alloc w1 p k (Array.getElem?_eq_some_iff.1 h).1).trans h

theorem two_new {w w1 : World} {o1 o2 : Obj} (b : Below ((w.alloc o1).alloc o2).heap.size ((w.alloc o1).alloc o2) w1) :
    w1.heap[w.heap.size]? = some o1 ∧ w1.heap[w.heap.size + 1]? = some o2 ∧ Below w.heap.size w w1 := by
  have e1 : (w.alloc o1).heap.size = w.heap.size + 1 := by simp
  refine ⟨keep (keepA (heap_new w o1)) b, ?_, bthen (bthen (bnew w o1) (bnew _ o2)) b⟩
  have h := heap_new (w.alloc o1) o2
  rw [e1] at h
  exact keep h b

theorem three_new {w w1 : World} {o1 o2 o3 : Obj} (b : Below (((w.alloc o1).alloc o2).alloc o3).heap.size (((w.alloc o1).alloc o2).alloc o3) w1) :
    w1.heap[w.heap.size]? = some o1 ∧ w1.heap[w.heap.size + 1]? = some o2 ∧ w1.heap[w.heap.size + 1 + 1]? = some o3 ∧ Below w.heap.size w w1 := by
  have e1 : (w.alloc o1).heap.size = w.heap.size + 1 := by simp
  have e2 : ((w.alloc o1).alloc o2).heap.size = w.heap.size + 1 + 1 := by simp
  have h2 := heap_new (w.alloc o1) o2
  have h3 := heap_new ((w.alloc o1).alloc o2) o3
  rw [e1] at h2
  rw [e2] at h3
  exact ⟨keep (keepA (keepA (heap_new w o1))) b, keep (keepA h2) b, keep h3 b, bthen (bthen (bthen (bnew w o1) (bnew _ o2)) (bnew _ o3)) b⟩

theorem meet_some {a b r : Rg} (hA : a.emp = false) (hB : b.emp = false) (h : Rg.both a b = r) (he : r.emp = false) : Rg.meetV (Rg.meet a b) = .tuple #[.agg #[.string r.lo, .string r.hi, .bool r.op], .bool true] := by
  simp [Rg.meet, hA, hB, h, he, Rg.meetV]
theorem meet_none {a b r : Rg} (hA : a.emp = false) (hB : b.emp = false) (h : Rg.both a b = r) (he : r.emp = true) : Rg.meetV (Rg.meet a b) = .tuple #[.agg #[.string ⟨#[]⟩, .string ⟨#[]⟩, .bool false], .bool false] := by
  simp [Rg.meet, hA, hB, h, he, Rg.meetV]
theorem ret_val {u v : Value} (h : v = u) : Ending.returned u = .returned v := by rw [h]

set_option maxHeartbeats 3200000 in
theorem meet_core (alo ahi blo bhi : ByteArray) (aop bop : Bool) (m : ByteArray) (w : World) (hA : Rg.emp ⟨alo, ahi, aop⟩ = false) (hB : Rg.emp ⟨blo, bhi, bop⟩ = false) (hm : Rg.mx alo blo = m) :
    Calls Try.prog 16 #[.agg #[.string alo, .string ahi, .bool aop], .agg #[.string blo, .string bhi, .bool bop]] w fun e w' => e = .returned (Rg.meetV (Rg.meet ⟨alo, ahi, aop⟩ ⟨blo, bhi, bop⟩)) ∧ Below w.heap.size w w' := by
  have CA := aside (fun w => empty_at hA w)
  have CB := aside (fun w => empty_at hB w)
  have hmx : ∀ ts t w, (Builtin.max_ ts t #[.string alo, .string blo]).run Try.prog w = .ok (.string m) w := fun ts t w => by rw [run_max2, hm]
  go_enter Try.func16, Try.ntmps16
  go_wp2_with fail
  refine (CA.out _).mono ?_
  rintro e w1 ⟨rfl, b1⟩
  obtain ⟨kA, kB, kR, b0⟩ := three_new b1
  have KA := aside kA; have KB := aside kB; have KR := aside kR
  obtain ⟨⟨a0, a1, a2⟩, -⟩ := box_out kA
  obtain ⟨⟨c0, c1, c2⟩, -⟩ := box_out kB
  clear kA kB kR b1
  go_wp2_with fail
  refine (CB.out _).mono ?_
  rintro e w2 ⟨rfl, b2⟩
  clear a0 a1 a2 c0 c1 c2
  have kA := keep KA.out b2
  have kB := keep KB.out b2
  have kR := keep KR.out b2
  have b02 := bthen b0 b2
  clear KA KB KR b2 b0
  have KA := aside kA; have KB := aside kB; have KR := aside kR
  obtain ⟨⟨a0, a1, a2⟩, -⟩ := box_out kA
  obtain ⟨⟨c0, c1, c2⟩, -⟩ := box_out kB
  have n1 := lies kA; have n2 := lies kB; have n3 := lies kR
  obtain ⟨-, f0, f1, f2⟩ := box_out kR
  clear kA kB kR
  cases aop
  · cases bop
    · cases hl : Op.bytesLess bhi.toList ahi.toList
      · have hb := aside (show Rg.both ⟨alo, ahi, false⟩ ⟨blo, bhi, false⟩ = ⟨m, ahi, false⟩ from by simp [Rg.both, hm, hl])
        cases he : Rg.emp ⟨m, ahi, false⟩
        · go_wp2_with fail
          refine (empty_at he _).mono ?_
          rintro e w3 ⟨rfl, b3⟩
          have kR := keep (keepA (p := .cells #[.string m, .string ahi, .bool false] 23) KR.out) (w1 := w2.alloc (.cells #[.string m, .string ahi, .bool false] 23)) b3
          have kM := keep (heap_new w2 (.cells #[.string m, .string ahi, .bool false] 23)) b3
          obtain ⟨⟨r0, r1, r2⟩, r3, r4, r5⟩ := box_out kR
          obtain ⟨⟨m0, m1, m2⟩, -⟩ := box_out kM
          have b03 := bthen b02 (bthen (bnew w2 (.cells #[.string m, .string ahi, .bool false] 23)) b3)
          clear kR kM b3
          go_wp2
          refine bodyPost_ret (v := .tuple #[.agg #[.string m, .string ahi, .bool false], .bool true]) (by simp [results, Try.results16, go_sem, r0, r1, r2]) rfl ⟨ret_val (meet_some hA hB hb.out he), ?_⟩
          exact ((b03.setCell (p := ⟨w.heap.size + 1 + 1, 0, none⟩) (by simp; omega) _).setCell (p := ⟨w.heap.size + 1 + 1, 1, none⟩) (by simp; omega) _).setCell (p := ⟨w.heap.size + 1 + 1, 2, none⟩) (by simp; omega) _
        · go_wp2_with fail
          refine (empty_at he _).mono ?_
          rintro e w3 ⟨rfl, b3⟩
          have kR := keep (keepA (p := .cells #[.string m, .string ahi, .bool false] 23) KR.out) (w1 := w2.alloc (.cells #[.string m, .string ahi, .bool false] 23)) b3
          have kM := keep (heap_new w2 (.cells #[.string m, .string ahi, .bool false] 23)) b3
          obtain ⟨⟨r0, r1, r2⟩, r3, r4, r5⟩ := box_out kR
          obtain ⟨⟨m0, m1, m2⟩, -⟩ := box_out kM
          have b03 := bthen b02 (bthen (bnew w2 (.cells #[.string m, .string ahi, .bool false] 23)) b3)
          clear kR kM b3
          go_wp2
          refine bodyPost_ret (v := .tuple #[.agg #[.string ⟨#[]⟩, .string ⟨#[]⟩, .bool false], .bool false]) (by simp [results, Try.results16, go_sem, r0, r1, r2]) rfl ⟨ret_val (meet_none hA hB hb.out he), ?_⟩
          exact ((b03.setCell (p := ⟨w.heap.size + 1 + 1, 0, none⟩) (by simp; omega) _).setCell (p := ⟨w.heap.size + 1 + 1, 1, none⟩) (by simp; omega) _).setCell (p := ⟨w.heap.size + 1 + 1, 2, none⟩) (by simp; omega) _
      · have hb := aside (show Rg.both ⟨alo, ahi, false⟩ ⟨blo, bhi, false⟩ = ⟨m, bhi, false⟩ from by simp [Rg.both, hm, hl])
        cases he : Rg.emp ⟨m, bhi, false⟩
        · go_wp2_with fail
          go_region
          go_wp2_with fail
          refine (empty_at he _).mono ?_
          rintro e w3 ⟨rfl, b3⟩
          have kR := keep (keepA (p := .cells #[.string m, .string bhi, .bool false] 23) KR.out) (w1 := (w2.alloc (.cells #[.string m, .string bhi, .bool false] 23)).drew) b3
          have kM := keep (w1 := (w2.alloc (.cells #[.string m, .string bhi, .bool false] 23)).drew) (heap_new w2 (.cells #[.string m, .string bhi, .bool false] 23)) b3
          obtain ⟨⟨r0, r1, r2⟩, r3, r4, r5⟩ := box_out kR
          obtain ⟨⟨m0, m1, m2⟩, -⟩ := box_out kM
          have b03 := bthen b02 (bthen (bnew w2 (.cells #[.string m, .string bhi, .bool false] 23)).drew b3)
          clear kR kM b3
          go_wp2
          refine bodyPost_ret (v := .tuple #[.agg #[.string m, .string bhi, .bool false], .bool true]) (by simp [results, Try.results16, go_sem, r0, r1, r2]) rfl ⟨ret_val (meet_some hA hB hb.out he), ?_⟩
          exact ((b03.setCell (p := ⟨w.heap.size + 1 + 1, 0, none⟩) (by simp; omega) _).setCell (p := ⟨w.heap.size + 1 + 1, 1, none⟩) (by simp; omega) _).setCell (p := ⟨w.heap.size + 1 + 1, 2, none⟩) (by simp; omega) _
        · go_wp2_with fail
          go_region
          go_wp2_with fail
          refine (empty_at he _).mono ?_
          rintro e w3 ⟨rfl, b3⟩
          have kR := keep (keepA (p := .cells #[.string m, .string bhi, .bool false] 23) KR.out) (w1 := (w2.alloc (.cells #[.string m, .string bhi, .bool false] 23)).drew) b3
          have kM := keep (w1 := (w2.alloc (.cells #[.string m, .string bhi, .bool false] 23)).drew) (heap_new w2 (.cells #[.string m, .string bhi, .bool false] 23)) b3
          obtain ⟨⟨r0, r1, r2⟩, r3, r4, r5⟩ := box_out kR
          obtain ⟨⟨m0, m1, m2⟩, -⟩ := box_out kM
          have b03 := bthen b02 (bthen (bnew w2 (.cells #[.string m, .string bhi, .bool false] 23)).drew b3)
          clear kR kM b3
          go_wp2
          refine bodyPost_ret (v := .tuple #[.agg #[.string ⟨#[]⟩, .string ⟨#[]⟩, .bool false], .bool false]) (by simp [results, Try.results16, go_sem, r0, r1, r2]) rfl ⟨ret_val (meet_none hA hB hb.out he), ?_⟩
          exact ((b03.setCell (p := ⟨w.heap.size + 1 + 1, 0, none⟩) (by simp; omega) _).setCell (p := ⟨w.heap.size + 1 + 1, 1, none⟩) (by simp; omega) _).setCell (p := ⟨w.heap.size + 1 + 1, 2, none⟩) (by simp; omega) _
    · have hb := aside (show Rg.both ⟨alo, ahi, false⟩ ⟨blo, bhi, true⟩ = ⟨m, ahi, false⟩ from by simp [Rg.both, hm])
      cases he : Rg.emp ⟨m, ahi, false⟩
      · go_wp2_with fail
        refine (empty_at he _).mono ?_
        rintro e w3 ⟨rfl, b3⟩
        have kR := keep (keepA (p := .cells #[.string m, .string ahi, .bool false] 23) KR.out) (w1 := w2.alloc (.cells #[.string m, .string ahi, .bool false] 23)) b3
        have kM := keep (heap_new w2 (.cells #[.string m, .string ahi, .bool false] 23)) b3
        obtain ⟨⟨r0, r1, r2⟩, r3, r4, r5⟩ := box_out kR
        obtain ⟨⟨m0, m1, m2⟩, -⟩ := box_out kM
        have b03 := bthen b02 (bthen (bnew w2 (.cells #[.string m, .string ahi, .bool false] 23)) b3)
        clear kR kM b3
        go_wp2
        refine bodyPost_ret (v := .tuple #[.agg #[.string m, .string ahi, .bool false], .bool true]) (by simp [results, Try.results16, go_sem, r0, r1, r2]) rfl ⟨ret_val (meet_some hA hB hb.out he), ?_⟩
        exact ((b03.setCell (p := ⟨w.heap.size + 1 + 1, 0, none⟩) (by simp; omega) _).setCell (p := ⟨w.heap.size + 1 + 1, 1, none⟩) (by simp; omega) _).setCell (p := ⟨w.heap.size + 1 + 1, 2, none⟩) (by simp; omega) _
      · go_wp2_with fail
        refine (empty_at he _).mono ?_
        rintro e w3 ⟨rfl, b3⟩
        have kR := keep (keepA (p := .cells #[.string m, .string ahi, .bool false] 23) KR.out) (w1 := w2.alloc (.cells #[.string m, .string ahi, .bool false] 23)) b3
        have kM := keep (heap_new w2 (.cells #[.string m, .string ahi, .bool false] 23)) b3
        obtain ⟨⟨r0, r1, r2⟩, r3, r4, r5⟩ := box_out kR
        obtain ⟨⟨m0, m1, m2⟩, -⟩ := box_out kM
        have b03 := bthen b02 (bthen (bnew w2 (.cells #[.string m, .string ahi, .bool false] 23)) b3)
        clear kR kM b3
        go_wp2
        refine bodyPost_ret (v := .tuple #[.agg #[.string ⟨#[]⟩, .string ⟨#[]⟩, .bool false], .bool false]) (by simp [results, Try.results16, go_sem, r0, r1, r2]) rfl ⟨ret_val (meet_none hA hB hb.out he), ?_⟩
        exact ((b03.setCell (p := ⟨w.heap.size + 1 + 1, 0, none⟩) (by simp; omega) _).setCell (p := ⟨w.heap.size + 1 + 1, 1, none⟩) (by simp; omega) _).setCell (p := ⟨w.heap.size + 1 + 1, 2, none⟩) (by simp; omega) _
  · have hb := aside (show Rg.both ⟨alo, ahi, true⟩ ⟨blo, bhi, bop⟩ = ⟨m, bhi, bop⟩ from by simp [Rg.both, hm])
    cases he : Rg.emp ⟨m, bhi, bop⟩
    · go_wp2_with fail
      go_region
      go_wp2_with fail
      refine (empty_at he _).mono ?_
      rintro e w3 ⟨rfl, b3⟩
      have kR := keep (keepA (p := .cells #[.string m, .string bhi, .bool bop] 23) KR.out) (w1 := (w2.alloc (.cells #[.string m, .string bhi, .bool bop] 23)).drew) b3
      have kM := keep (w1 := (w2.alloc (.cells #[.string m, .string bhi, .bool bop] 23)).drew) (heap_new w2 (.cells #[.string m, .string bhi, .bool bop] 23)) b3
      obtain ⟨⟨r0, r1, r2⟩, r3, r4, r5⟩ := box_out kR
      obtain ⟨⟨m0, m1, m2⟩, -⟩ := box_out kM
      have b03 := bthen b02 (bthen (bnew w2 (.cells #[.string m, .string bhi, .bool bop] 23)).drew b3)
      clear kR kM b3
      go_wp2
      refine bodyPost_ret (v := .tuple #[.agg #[.string m, .string bhi, .bool bop], .bool true]) (by simp [results, Try.results16, go_sem, r0, r1, r2]) rfl ⟨ret_val (meet_some hA hB hb.out he), ?_⟩
      exact ((b03.setCell (p := ⟨w.heap.size + 1 + 1, 0, none⟩) (by simp; omega) _).setCell (p := ⟨w.heap.size + 1 + 1, 1, none⟩) (by simp; omega) _).setCell (p := ⟨w.heap.size + 1 + 1, 2, none⟩) (by simp; omega) _
    · go_wp2_with fail
      go_region
      go_wp2_with fail
      refine (empty_at he _).mono ?_
      rintro e w3 ⟨rfl, b3⟩
      have kR := keep (keepA (p := .cells #[.string m, .string bhi, .bool bop] 23) KR.out) (w1 := (w2.alloc (.cells #[.string m, .string bhi, .bool bop] 23)).drew) b3
      have kM := keep (w1 := (w2.alloc (.cells #[.string m, .string bhi, .bool bop] 23)).drew) (heap_new w2 (.cells #[.string m, .string bhi, .bool bop] 23)) b3
      obtain ⟨⟨r0, r1, r2⟩, r3, r4, r5⟩ := box_out kR
      obtain ⟨⟨m0, m1, m2⟩, -⟩ := box_out kM
      have b03 := bthen b02 (bthen (bnew w2 (.cells #[.string m, .string bhi, .bool bop] 23)).drew b3)
      clear kR kM b3
      go_wp2
      refine bodyPost_ret (v := .tuple #[.agg #[.string ⟨#[]⟩, .string ⟨#[]⟩, .bool false], .bool false]) (by simp [results, Try.results16, go_sem, r0, r1, r2]) rfl ⟨ret_val (meet_none hA hB hb.out he), ?_⟩
      exact ((b03.setCell (p := ⟨w.heap.size + 1 + 1, 0, none⟩) (by simp; omega) _).setCell (p := ⟨w.heap.size + 1 + 1, 1, none⟩) (by simp; omega) _).setCell (p := ⟨w.heap.size + 1 + 1, 2, none⟩) (by simp; omega) _

end Go.Proofs.Ytidajlnaehhkkaa
