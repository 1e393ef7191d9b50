/-
  The code's Of: the words of a key, and all words mixed.
  The document's words, lane and Of.
  Of and All of tallies, of the code and of the document.
  The store's small calls: Len, Clock, Node, Joins, a new one.
  hold: an entry is put, the clock is met.
  roomFor, Get, rows and Fold.
-/
import Derived.Test.YtoflalflacopdaaDoorBg2
import Derived.Deep.RegionWith
import Derived.Test.YtoflalflacopdaaDoorBg3
import Derived.Test.YtoflalflacopdaaDoorBg15
import Derived.Deep.RegionHeld
import Derived.OrdersHeld
import Derived.Deep.RegionHeld3
namespace Go.Proofs.YtoflalflacopdaaDoor
open Go.RowKit
set_option linter.unusedVariables false
/-- What the loop over a word's bytes has come to, from byte m on. -/
def restN (k : List UInt8) (h m : Nat) : Nat := leB ((k.drop m).take (h - m))
theorem restN_end (k : List UInt8) (h : Nat) : restN k h h = 0 := by simp [restN, leB]
theorem restN_step (k : List UInt8) (h m : Nat) (hm : m < h) (hk : m < k.length) : restN k h m = restN k h (m + 1) * 256 + k[m].toNat := by
  unfold restN
  rw [List.drop_eq_getElem_cons hk, show h - m = (h - (m + 1)) + 1 from by omega, List.take_succ_cons]
  simp only [leB]
  omega
theorem restN_lt (k : List UInt8) (h m : Nat) (hm : h ≤ m + 8) : restN k h m < 18446744073709551616 := by
  have hl := leB_lt ((k.drop m).take (h - m))
  have hb : ((k.drop m).take (h - m)).length ≤ 8 := by simp; omega
  have : 256 ^ ((k.drop m).take (h - m)).length ≤ 256 ^ 8 := Nat.pow_le_pow_right (by decide) hb
  unfold restN
  omega
theorem restN_word (k : List UInt8) (s h : Nat) (hh : h = min (s + 8) k.length) (hs : s ≤ k.length) : restN k h s = wordN k s := by
  unfold restN wordN
  by_cases h8 : s + 8 ≤ k.length
  · rw [show h - s = 8 from by omega]
  · rw [List.take_of_length_le (by simp; omega), List.take_of_length_le (by simp; omega)]
def WordAtRel (k : ByteArray) (s h : Nat) (w : World) (v i : Value) (wr : World) : Prop :=
  ∃ m : Nat, v = .int .u64 (restN k.data.toList h m : Int) ∧ i = .int .i64 ((m : Int) - 1) ∧ s ≤ m ∧ m ≤ h ∧ wr = w
set_option maxHeartbeats 1600000 in
set_option maxRecDepth 100000 in
theorem wordAt_any (k : ByteArray) (s : Nat) (w : World) (hk : k.size ≤ 140737488355328) (hs : s < k.size) :
    Calls Tryd.prog 107 #[.string k, .int .i64 (s : Int)] w fun e w' => e = .returned (.int .u64 (wordN k.data.toList s : Int)) ∧ w' = w := by
  have hlen : k.data.toList.length = k.size := by show k.data.toList.length = k.data.size; simp
  have hw8 : IntKind.i64.wrap ((s : Int) + 8) = (s : Int) + 8 := by rw [IntKind.wrap_i64]; omega
  obtain ⟨top, hh⟩ : ∃ h, h = min (s + 8) k.size := ⟨_, rfl⟩
  have HH := aside hh
  clear hh
  go_enter Tryd.func107, Tryd.ntmps107
  go_wp2
  all_goals
    rename_i hc
    go_loopw [5, 6] (fun v i wr => WordAtRel k s top w v i wr) (fun _ i _ => (intOf i + 1).toNat)
    case atStart =>
      refine ⟨top, by rw [restN_end]; rfl, ?_, by have := HH.out; omega, Nat.le_refl _, rfl⟩
      congr 1
      have := HH.out
      omega
    case round =>
      obtain ⟨m, rfl, rfl, hsm, hmh, rfl⟩ := hrel
      by_cases hge : (s : Int) ≤ (m : Int) - 1
      · obtain ⟨p, rfl⟩ : ∃ p, m = p + 1 := ⟨m - 1, by omega⟩
        have hp : ((p + 1 : Nat) : Int) - 1 = (p : Int) := by omega
        rw [hp]
        have hpk : p < k.size := by have := HH.out; omega
        have hps : (s : Int) ≤ (p : Int) := by omega
        have hix := idx_str' k p hpk (p : Int) rfl wr
        have hst := restN_step k.data.toList top p (by omega) (by omega)
        have hlt := restN_lt k.data.toList top (p + 1) (by have := HH.out; omega)
        have hlt' := restN_lt k.data.toList top p (by have := HH.out; omega)
        generalize restN k.data.toList top (p + 1) = a at *
        obtain ⟨b, hb⟩ : ∃ b, b = restN k.data.toList top p := ⟨_, rfl⟩
        rw [← hb] at hst hlt'
        have hgt : k.data.toList[p]'(by omega) = k[p] := rfl
        rw [hgt] at hst
        have hc2 := k[p].toNat_lt
        generalize k[p].toNat = c at *
        have hs3 : IntKind.u64.wrap (c : Int) = (c : Int) := by rw [IntKind.wrap_u64]; omega
        have hs1 : IntKind.u64.wrap ((a : Int) * 256) = (a : Int) * 256 := by rw [IntKind.wrap_u64]; omega
        have hs2 : IntKind.u64.wrap ((a : Int) * 256 + (c : Int)) = (b : Int) := by rw [IntKind.wrap_u64]; omega
        have HB := aside hb
        clear hb hst hlt hlt' hgt hc hc2
        go_wp2
        go_roundw
        case rel => exact ⟨p, by rw [← HB.out], by go_num, by omega, by omega, rfl⟩
        case measure => simp [intOf]
      · have hms : m = s := by omega
        have hng : ¬ (s : Int) ≤ (m : Int) - 1 := hge
        subst hms
        go_wp2
        go_ret
        exact ⟨by rw [restN_word k.data.toList m top (by rw [hlen]; exact HH.out) (by omega)]; rfl, rfl⟩
/-- The memory of Of: the version, the result, the sum. -/
def of3 (w : World) (c n r0 r1 x0 x1 : Int) : World :=
  ((w.alloc (.cells #[.int .i64 c, .int .i64 n] 31)).alloc (.cells #[.int .u64 r0, .int .u64 r1] 38)).alloc (.cells #[.int .u64 x0, .int .u64 x1] 38)
/-- What is kept of the memory while words are mixed. -/
structure OfSt (w wr : World) (c n x0 x1 : Int) : Prop where
  below : Below w.heap.size w wr
  sz : w.heap.size + 3 ≤ wr.heap.size
  v : wr.heap[w.heap.size]? = some (.cells #[.int .i64 c, .int .i64 n] 31 (0, 0))
  r : wr.heap[w.heap.size + 1]? = some (.cells #[.int .u64 0, .int .u64 0] 38 (0, 0))
  s : wr.heap[w.heap.size + 2]? = some (.cells #[.int .u64 x0, .int .u64 x1] 38 (0, 0))
theorem OfSt.keep {w wr w2 : World} {c n x0 x1 : Int} (h : OfSt w wr c n x0 x1) (b : Below wr.heap.size wr w2) : OfSt w w2 c n x0 x1 :=
  ⟨h.below.trans (b.mono h.below.size), by have := b.size; have := h.sz; omega, blk_on h.v b, blk_on h.r b, blk_on h.s b⟩
theorem OfSt.drew {w wr : World} {c n x0 x1 : Int} (h : OfSt w wr c n x0 x1) : OfSt w wr.drew c n x0 x1 := ⟨h.below.drew, h.sz, h.v, h.r, h.s⟩
theorem OfSt.set {w wr : World} {c n x0 x1 : Int} (h : OfSt w wr c n x0 x1) (y0 y1 : Int) : OfSt w ((wr.setCell ⟨w.heap.size + 2, 0, none⟩ (.int .u64 y0)).setCell ⟨w.heap.size + 2, 1, none⟩ (.int .u64 y1)) c n y0 y1 := by
  have s1 := heap_setCell_same wr (w.heap.size + 2) 0 _ _ (.int .u64 y0) h.s
  have s2 := heap_setCell_same _ (w.heap.size + 2) 1 _ _ (.int .u64 y1) s1
  refine ⟨(h.below.setCell (by simp) _).setCell (by simp) _, by simpa using h.sz, ?_, ?_, s2⟩
  · rw [heap_setCell_other _ _ _ _ (by simp), heap_setCell_other _ _ _ _ (by simp)]; exact h.v
  · rw [heap_setCell_other _ _ _ _ (by simp), heap_setCell_other _ _ _ _ (by simp)]; exact h.r
theorem of3_st (w : World) (c n x0 x1 : Int) : OfSt w (of3 w c n 0 0 x0 x1) c n x0 x1 := by
  refine ⟨((bnew w _).alloc (by simp) _).alloc (by simp; omega) _, by simp [of3], ?_, ?_, ?_⟩
  · exact blk_on (blk_on (heap_alloc_new w _) (bnew _ _)) (bnew _ _)
  · exact blk_on (by have := heap_alloc_new (w.alloc (.cells #[.int .i64 c, .int .i64 n] 31)) (.cells #[.int .u64 0, .int .u64 0] 38); simpa using this) (bnew _ _)
  · have := heap_alloc_new ((w.alloc (.cells #[.int .i64 c, .int .i64 n] 31)).alloc (.cells #[.int .u64 0, .int .u64 0] 38)) (.cells #[.int .u64 x0, .int .u64 x1] 38)
    simpa [of3] using this
def headW (k : ByteArray) (j : Nat) : List Int := (k.size : Int) :: keyW k.data.toList j
theorem head0 (k : ByteArray) (j : Nat) : lane0 (headW k (j + 1)) = mixI 11400714819323198485 29 (lane0 (headW k j)) (wordN k.data.toList (8 * j) : Int) := by
  rw [headW, keyW_succ, ← List.cons_append, lane0_snoc]; rfl
theorem head1 (k : ByteArray) (j : Nat) : lane1 (headW k (j + 1)) = mixI 14029467366897019727 32 (lane1 (headW k j)) (wordN k.data.toList (8 * j) : Int) := by
  rw [headW, keyW_succ, ← List.cons_append, lane1_snoc]; rfl
theorem of0_end (k : ByteArray) (c n : Int) {j : Nat} (h : j = keyN k.size) : of0 k c n = mixI 11400714819323198485 29 (mixI 11400714819323198485 29 (lane0 (headW k j)) (IntKind.u64.wrap c)) (IntKind.u64.wrap n) := by
  subst h; rw [of0, wordsI_snoc, lane0_snoc, lane0_snoc]; rfl
theorem of1_end (k : ByteArray) (c n : Int) {j : Nat} (h : j = keyN k.size) : of1 k c n = mixI 14029467366897019727 32 (mixI 14029467366897019727 32 (lane1 (headW k j)) (IntKind.u64.wrap c)) (IntKind.u64.wrap n) := by
  subst h; rw [of1, wordsI_snoc, lane1_snoc, lane1_snoc]; rfl
def OfRel (w : World) (k : ByteArray) (c n : Int) (i : Value) (wr : World) : Prop :=
  ∃ j : Nat, i = .int .i64 ((8 * j : Nat) : Int) ∧ j ≤ keyN k.size ∧ OfSt w wr c n (lane0 (headW k j)) (lane1 (headW k j))
def OfRel0 (w : World) (c n : Int) (i : Value) (wr : World) : Prop :=
  (i = .int .i64 0 ∧ wr = of3 w c n 0 0 0 0) ∨ (i = .int .i64 1 ∧ wr = of3 w c n 0 0 2611923443488327891 0) ∨ (i = .int .i64 2 ∧ wr = of3 w c n 0 0 2611923443488327891 1376283091369227076)
set_option maxHeartbeats 1600000 in
set_option maxRecDepth 100000 in
theorem of_any (k : ByteArray) (c n : Int) (w : World) (L : Lanes w) (hk : k.size ≤ 140737488355328) :
    Calls Tryd.prog 81 #[.string k, .agg #[.int .i64 c, .int .i64 n]] w fun e w' => e = .returned (ofV k c n) ∧ Below w.heap.size w w' := by
  have h0 := L.pos
  have LL := aside L
  obtain ⟨c0, c1, c2, c3, c4, c5⟩ := L
  go_enter Tryd.func81, Tryd.ntmps81
  go_wp2
  go_loopw [8] (fun i wr => OfRel0 w c n i wr) (fun i _ => 2 - (intOf i).toNat)
  case atStart => exact .inl ⟨rfl, rfl⟩
  case round =>
    obtain ⟨rfl, rfl⟩ | ⟨rfl, rfl⟩ | ⟨rfl, rfl⟩ := hrel
    · unfold of3
      go_wp2
      go_roundw
      case rel => exact .inr (.inl ⟨rfl, rfl⟩)
      case measure => simp [intOf]
    · unfold of3
      go_wp2
      go_roundw
      case rel => exact .inr (.inr ⟨rfl, rfl⟩)
      case measure => simp [intOf]
    · unfold of3
      go_wp2_with fail
      refine (mixed_any _ _ _ _ (LL.out.keep (of3_st w c n _ _).below)).mono ?_
      rintro e w1 ⟨rfl, b1⟩
      have S1 := (of3_st w c n _ _).keep b1
      have H1 := aside S1
      obtain ⟨-, z1, -, -, s1⟩ := S1
      obtain ⟨p0, p1, p2, p3⟩ := pair s1
      clear b1 s1 c0 c1 c2 c3 c4 c5
      go_wp2_with fail
      have H2 := H1.out.set (lane0 (headW k 0)) (lane1 (headW k 0))
      have HH2 := aside H2
      clear H1 H2
      go_loopw [7] (fun i wr => OfRel w k c n i wr) (fun i _ => (k.size + 8 - (intOf i).toNat))
      case atStart => exact ⟨0, rfl, Nat.zero_le _, HH2.out⟩
      case round =>
        obtain ⟨j, rfl, hj, S⟩ := hrel
        clear HH2 p0 p1 p2 p3
        have L2 := aside (LL.out.keep S.drew.below)
        have HS := aside S
        obtain ⟨-, z1, s2, s3, s1⟩ := S
        obtain ⟨p0, p1, p2, p3⟩ := pair s1
        by_cases hlt : ((8 * j : Nat) : Int) < (k.size : Int)
        · clear s1 s2 s3
          have wa : ∀ W, Hid _ := fun W => aside (wordAt_any k (8 * j) W hk (by omega))
          have hw8 : IntKind.i64.wrap (8 * (j : Int) + 8) = 8 * (j : Int) + 8 := by rw [IntKind.wrap_i64]; omega
          go_wp2
          go_region_with (first | (go_at_call 107; refine (wa _).out.mono ?_; rintro e w' ⟨rfl, rfl⟩) | (go_at_call 106; refine (mixed_any _ _ _ _ L2.out).mono ?_; rintro e w2 ⟨rfl, b2⟩; have S2 := HS.out.drew.keep b2; have HS2 := aside S2; obtain ⟨-, -, -, -, s1⟩ := S2; obtain ⟨q0, q1, q2, q3⟩ := pair s1; clear s1))
          all_goals
            go_wp2
            go_roundw
            case rel =>
              refine ⟨j + 1, by congr 1, by unfold keyN; omega, ?_⟩
              rw [head0, head1]
              exact HS2.out.set _ _
            case measure => simp [intOf]; omega
        · obtain ⟨q0, q1, q2, q3⟩ := pair s2
          clear s1 s2 s3
          have hjn : j = keyN k.size := by unfold keyN at hj ⊢; omega
          have HJ := aside hjn
          clear hjn hj
          go_wp2_with fail
          refine (mixed_any _ _ _ _ (LL.out.keep HS.out.below)).mono ?_
          rintro e w2 ⟨rfl, b2⟩
          have S2 := HS.out.keep b2
          have HS2 := aside (S2.set (mixI 11400714819323198485 29 (lane0 (headW k j)) (IntKind.u64.wrap c)) (mixI 14029467366897019727 32 (lane1 (headW k j)) (IntKind.u64.wrap c)))
          clear HS L2 p0 p1 p2 p3 q0 q1 q2 q3 b2 z1
          obtain ⟨-, z1, s2, s3, s1⟩ := S2
          obtain ⟨p0, p1, p2, p3⟩ := pair s1
          obtain ⟨q0, q1, q2, q3⟩ := pair s2
          clear s1 s2 s3
          go_wp2_with fail
          refine (mixed_any _ _ _ _ (LL.out.keep HS2.out.below)).mono ?_
          rintro e w3 ⟨rfl, b3⟩
          have S3 := HS2.out.keep b3
          have HS3 := aside S3
          clear HS2 p0 p1 p2 p3 q0 q1 q2 q3 b3 z1
          obtain ⟨-, z1, s2, s3, s1⟩ := S3
          obtain ⟨p0, p1, p2, p3⟩ := pair s3
          clear s1 s2 s3
          go_wp2_with fail
          have e0 := of0_end k c n HJ.out
          have e1 := of1_end k c n HJ.out
          generalize mixI 11400714819323198485 29 (mixI 11400714819323198485 29 (lane0 (headW k j)) (IntKind.u64.wrap c)) (IntKind.u64.wrap n) = x0 at *
          generalize mixI 14029467366897019727 32 (mixI 14029467366897019727 32 (lane1 (headW k j)) (IntKind.u64.wrap c)) (IntKind.u64.wrap n) = x1 at *
          refine bodyPost_ret (v := .agg #[.int .u64 x0, .int .u64 x1]) (by simp [results, Tryd.results81, go_sem, p0, p1]) rfl ⟨by rw [ofV, e0, e1], ?_⟩
          exact (HS3.out.below.setCell (by simp) _).setCell (by simp) _
end Go.Proofs.YtoflalflacopdaaDoor
namespace Go.Proofs.YtoflalflacopdaaDoor
open Go.RowKit
set_option linter.unusedVariables false
end Go.Proofs.YtoflalflacopdaaDoor
namespace Go.Proofs.YtoflalflacopdaaDoor
open Go.RowKit
set_option linter.unusedVariables false
set_option maxHeartbeats 1600000 in
set_option maxRecDepth 100000 in
theorem tof_any (k : ByteArray) (c n : Int) (v : ByteArray) (d : Bool) (w : World) (L : Lanes w) (hk : k.size ≤ 140737488351232) :
    Calls Tryd.prog 45 #[.agg #[.string k, .int .i64 c, .int .i64 n, .string v, .bool d]] w fun e w' => e = .returned (.agg #[.int .i64 1, .int .u64 (of0 k c n), .int .u64 (of1 k c n)]) ∧ Below w.heap.size w w' := by
  have LL := aside L
  clear L
  have B0 := aside (bthen (bnew w (.cells #[.string k, .int .i64 c, .int .i64 n, .string v, .bool d] 33)) (bnew _ (.cells #[.int .i64 0, .int .u64 0, .int .u64 0] 40)))
  have G := aside (heap_alloc_new (w.alloc (.cells #[.string k, .int .i64 c, .int .i64 n, .string v, .bool d] 33)) (.cells #[.int .i64 0, .int .u64 0, .int .u64 0] 40))
  have hz : (w.alloc (.cells #[.string k, .int .i64 c, .int .i64 n, .string v, .bool d] 33)).heap.size = w.heap.size + 1 := by simp
  rw [hz] at G
  obtain ⟨x, hx⟩ : ∃ x, of0 k c n = x := ⟨_, rfl⟩
  obtain ⟨y, hy⟩ : ∃ y, of1 k c n = y := ⟨_, rfl⟩
  have CO : Hid (∀ W, Below w.heap.size w W → Calls Tryd.prog 81 #[.string k, .agg #[.int .i64 c, .int .i64 n]] W fun e w' => e = .returned (.agg #[.int .u64 x, .int .u64 y]) ∧ Below W.heap.size W w') := fun W bw => by
    rw [← hx, ← hy]
    exact of_any k c n W (LL.out.keep bw) (by omega)
  rw [hx, hy]
  clear hz hx hy
  go_enter Tryd.func45, Tryd.ntmps45
  go_wp2_with fail
  generalize (w.alloc (.cells #[.string k, .int .i64 c, .int .i64 n, .string v, .bool d] 33)).alloc (.cells #[.int .i64 0, .int .u64 0, .int .u64 0] 40) = V at *
  refine (CO.out _ B0.out).mono ?_
  rintro e w1 ⟨rfl, b1⟩
  have B1 := aside (bthen B0.out b1)
  obtain ⟨s0, s1, s2, z0, z1, z2⟩ := tri (blk_on G.out b1)
  clear b1 G B0
  go_wp2
  exact bodyPost_ret (v := .agg #[.int .i64 1, .int .u64 x, .int .u64 y]) (by simp [results, Tryd.results45, go_sem, s0, s1, s2]) rfl ⟨rfl, ((B1.out.setCell (by simp) _).setCell (by simp) _).setCell (by simp) _⟩
end Go.Proofs.YtoflalflacopdaaDoor
namespace Go.Proofs.YtoflalflacopdaaDoor
open Go.RowKit
set_option linter.unusedVariables false
set_option maxHeartbeats 3200000 in
set_option maxRecDepth 100000 in
theorem slen {w : World} {sb g tb : Nat} {nd ck : Int} {T : Tr En Tl} {n : Nat} (h : IsSt w sb g tb nd ck T n) : Calls Tryd.prog 29 #[.pointer (some ⟨sb, 0, none⟩)] w fun e w' => e = .returned (.int .i64 (T.cnt : Int)) ∧ w' = w := by
  obtain ⟨-, -, -, c3, -⟩ := quad h.blk
  have C := aside (ylenE h.tree)
  generalize (T.cnt : Int) = m at *
  clear h
  go_enter Tryd.func29, Tryd.ntmps29
  go_wp2_with fail
  refine C.out.mono ?_
  rintro e w1 ⟨rfl, rfl⟩
  go_wp2
  go_ret
  exact ⟨rfl, rfl⟩
set_option maxHeartbeats 3200000 in
set_option maxRecDepth 100000 in
theorem sclock {w : World} {sb g tb : Nat} {nd ck : Int} {T : Tr En Tl} {n : Nat} (h : IsSt w sb g tb nd ck T n) : Calls Tryd.prog 30 #[.pointer (some ⟨sb, 0, none⟩)] w fun e w' => e = .returned (.int .i64 ck) ∧ w' = w := by
  obtain ⟨-, c1, -, -, -⟩ := quad h.blk
  clear h
  go_enter Tryd.func30, Tryd.ntmps30
  go_wp2
  go_ret
  exact ⟨rfl, rfl⟩
set_option maxHeartbeats 3200000 in
set_option maxRecDepth 100000 in
theorem sempty (nd ck : Int) (w : World) : Calls Tryd.prog 63 #[.int .i64 nd, .int .i64 ck] w fun e w' => ∃ sb g tb, e = .returned (.pointer (some ⟨sb, 0, none⟩)) ∧ IsSt w' sb g tb nd ck .nil 0 ∧ Below w.heap.size w w' ∧ w.heap.size ≤ sb ∧ w.heap.size ≤ g ∧ w.heap.size ≤ tb := by
  have hmf : ∀ (fn : Fn) (first cap : Array Value) (w : World), (Instr.makeFunc fn first cap).run Tryd.prog w = .ok (.func fn first cap) w := fun _ _ _ _ => rfl
  have C1 := aside (newMeter_any w)
  have C2 := aside (fun (W : World) => ynewE (.func 92) #[.pointer (some ⟨w.heap.size, 0, none⟩)] #[] W)
  have M := aside (heap_alloc_new w (.cells #[.int .i64 0] 184))
  have B0 := aside (bnew w (.cells #[.int .i64 0] 184))
  go_enter Tryd.func63, Tryd.ntmps63
  go_wp2_with fail
  refine C1.out.mono ?_
  rintro e w1 ⟨rfl, rfl⟩
  go_wp2_with fail
  refine (C2.out _).mono ?_
  rintro e w2 ⟨tb, rfl, ht, hb, hlt⟩
  have HT := aside ht
  have HB := aside hb
  have HL := aside hlt
  clear ht hb hlt C1 C2
  go_wp2
  go_ret
  have hs := HL.out
  simp at hs
  refine ⟨w2.heap.size, w.heap.size, tb, rfl, ⟨heap_alloc_new w2 _, fun b e => ?_, HT.out.below (bnew _ _)⟩, bthen (bthen B0.out HB.out) (bnew _ _), (by have := HB.out.size; simp at this; omega), Nat.le_refl _, by omega⟩
  cases e
  exact blk_on (blk_on M.out HB.out) (bnew _ _)
end Go.Proofs.YtoflalflacopdaaDoor
namespace Go.Proofs.YtoflalflacopdaaDoor
open Go.RowKit
set_option linter.unusedVariables false
/-- The clock that has met a counter. -/
def ckm (ck c : Int) : Int := if ck < c then c else ck
theorem held_hold {w X : World} {sb g tb : Nat} {nd ck : Int} {T : Tr En Tl} {n : Nat} {e : En} (h : IsSt X sb g tb nd ck T n) (hb : X.heap[w.heap.size]? = some (.cells #[.string e.k, .int .i64 e.c, .int .i64 e.n, .string e.v, .bool e.d] 33 (0, 0))) : X.cell? ⟨sb, 3, none⟩ = some (.pointer (some ⟨tb, 0, none⟩)) ∧ X.cell? ⟨w.heap.size, 0, none⟩ = some (.string e.k) ∧ X.cell? ⟨w.heap.size, 1, none⟩ = some (.int .i64 e.c) ∧ X.cell? ⟨w.heap.size, 2, none⟩ = some (.int .i64 e.n) ∧ X.cell? ⟨w.heap.size, 3, none⟩ = some (.string e.v) ∧ X.cell? ⟨w.heap.size, 4, none⟩ = some (.bool e.d) := by
  obtain ⟨c0, c1, c2, c3, -⟩ := quad h.blk
  obtain ⟨b0, b1, b2, b3, b4, -⟩ := penta hb
  exact ⟨c3, b0, b1, b2, b3, b4⟩
theorem hold_end {w X : World} {sb g tb : Nat} {nd ck : Int} {T : Tr En Tl} {n : Nat} (h : IsSt X sb g tb nd ck T n) (k : Keeps (Of sb g tb) w X) (c : Int) : IsSt (X.setCell ⟨sb, 1, none⟩ (.int .i64 c)) sb g tb nd c T n ∧ Keeps (Of sb g tb) w (X.setCell ⟨sb, 1, none⟩ (.int .i64 c)) := by
  obtain ⟨a1, a2, a3⟩ := h.apart
  obtain ⟨p, ht, hT⟩ := h.tree
  refine ⟨⟨heap_setCell_same X sb 1 _ _ (.int .i64 c) h.blk, h.cnt.setCell (p := ⟨sb, 1, none⟩) _ (fun e => a1 (by cases e; rfl)), ⟨p, (heap_setCell_other _ _ _ _ (fun e => a2 (by dsimp only at e; exact e.symm))).trans ht, hT.on ((Stay.refl _ X).setCell _ (fun cs e => by dsimp only at e; rw [h.blk] at e; simp at e))⟩⟩, k.setCell (p := ⟨sb, 1, none⟩) (fun _ => .inl rfl) _⟩
theorem hold_mid {w V W : World} {sb g tb : Nat} {nd ck : Int} {T T' : Tr En Tl} {n m : Nat} {e : En} (h : IsSt V sb g tb nd ck T n) (hg : V.heap[w.heap.size]? = some (.cells #[.string e.k, .int .i64 e.c, .int .i64 e.n, .string e.v, .bool e.d] 33 (0, 0))) (b : Below w.heap.size w V) (c : CntE (some g) m W) (k : Keeps (fun x => x = tb ∨ OnC (some g) x) V W) (t : TreeE W tb (jvE g) T') :
    (W.cell? ⟨sb, 3, none⟩ = some (.pointer (some ⟨tb, 0, none⟩)) ∧ W.cell? ⟨w.heap.size, 0, none⟩ = some (.string e.k) ∧ W.cell? ⟨w.heap.size, 1, none⟩ = some (.int .i64 e.c) ∧ W.cell? ⟨w.heap.size, 2, none⟩ = some (.int .i64 e.n) ∧ W.cell? ⟨w.heap.size, 3, none⟩ = some (.string e.v) ∧ W.cell? ⟨w.heap.size, 4, none⟩ = some (.bool e.d)) ∧ IsSt W sb g tb nd ck T' m ∧ W.heap[w.heap.size]? = some (.cells #[.string e.k, .int .i64 e.c, .int .i64 e.n, .string e.v, .bool e.d] 33 (0, 0)) ∧ Keeps (Of sb g tb) w W := by
  obtain ⟨a1, a2, a3⟩ := h.apart
  have hn := h.not hg (by decide) (by decide) (by decide)
  have G : W.heap[w.heap.size]? = some (.cells #[.string e.k, .int .i64 e.c, .int .i64 e.n, .string e.v, .bool e.d] 33 (0, 0)) := blk_keep hg k (fun x => hn (by rcases x with x | x; exact .inr (.inl x); exact .inr (.inr (Option.some.inj x).symm)))
  have H : IsSt W sb g tb nd ck T' m := ⟨blk_keep h.blk k (fun x => by rcases x with x | x; exact a2 x; exact a1 (Option.some.inj x).symm), c, t⟩
  exact ⟨held_hold H G, H, G, (Keeps.of_below b _).trans (k.mono (fun _ _ x => by rcases x with x | x; exact .inr (.inl x); exact .inr (.inr (Option.some.inj x).symm)))⟩
set_option maxHeartbeats 3200000 in
set_option maxRecDepth 100000 in
theorem shold (e : En) {Ls : List En} {w : World} {sb g tb : Nat} {nd ck : Int} {T : Tr En Tl} {n : Nat} (h : IsSt w sb g tb nd ck T n) (L : Lanes w) (hH : Hol T Ls) (hl : Ls.length ≤ 1000000) (hk : e.k.size ≤ 140737488351232) :
    Calls Tryd.prog 36 #[.pointer (some ⟨sb, 0, none⟩), .agg #[.string e.k, .int .i64 e.c, .int .i64 e.n, .string e.v, .bool e.d]] w fun r w' => r = .returned (.tuple #[]) ∧ IsSt w' sb g tb nd (ckm ck e.c) (Tr.put e.k e (tof e) T) (n + Tr.putC e.k e (tof e) T) ∧ Keeps (Of sb g tb) w w' := by
  have B0 := aside (bnew w (.cells #[.string e.k, .int .i64 e.c, .int .i64 e.n, .string e.v, .bool e.d] 33))
  have G := aside (heap_alloc_new w (.cells #[.string e.k, .int .i64 e.c, .int .i64 e.n, .string e.v, .bool e.d] 33))
  have H := aside (h.alloc (.cells #[.string e.k, .int .i64 e.c, .int .i64 e.n, .string e.v, .bool e.d] 33))
  have CO : Hid (∀ W : World, Lanes W → Calls Tryd.prog 45 #[.agg #[.string e.k, .int .i64 e.c, .int .i64 e.n, .string e.v, .bool e.d]] W fun r w' => r = .returned (.agg #[.int .i64 (tof e).n, .int .u64 (tof e).a, .int .u64 (tof e).b]) ∧ Below W.heap.size W w') := fun W hW => by
    rw [tof_n, tof_a, tof_b]
    exact tof_any e.k e.c e.n e.v e.d W hW hk
  have CP : Hid (∀ W : World, IsSt W sb g tb nd ck T n → Calls Tryd.prog 67 #[.pointer (some ⟨tb, 0, none⟩), .string e.k, .agg #[.string e.k, .int .i64 e.c, .int .i64 e.n, .string e.v, .bool e.d], .agg #[.int .i64 (tof e).n, .int .u64 (tof e).a, .int .u64 (tof e).b]] W fun r w' => r = .returned (.tuple #[.agg #[.string ((Tr.found e.k T).val eNone).k, .int .i64 ((Tr.found e.k T).val eNone).c, .int .i64 ((Tr.found e.k T).val eNone).n, .string ((Tr.found e.k T).val eNone).v, .bool ((Tr.found e.k T).val eNone).d], .bool (!(Tr.found e.k T).isNil)]) ∧ TreeE w' tb (jvE g) (Tr.put e.k e (tof e) T) ∧ CntE (some g) (n + Tr.putC e.k e (tof e) T) w' ∧ Keeps (fun x => x = tb ∨ OnC (some g) x) W w') := fun W hW =>
    yputE e.k e (tof e) hW.tree (bothJv g) hW.cnt hH.gd (by show Ls.length + 1 + 0 ≤ _; omega)
  have LL := aside (L.keep B0.out)
  generalize Tr.putC e.k e (tof e) T = pc at *
  generalize Tr.put e.k e (tof e) T = T' at *
  generalize (Tr.found e.k T).val eNone = fv at *
  generalize (!(Tr.found e.k T).isNil) = fb at *
  generalize (tof e).n = t0 at *
  generalize (tof e).a = t1 at *
  generalize (tof e).b = t2 at *
  clear h L hH hl hk
  go_enter Tryd.func36, Tryd.ntmps36
  go_wp2_with fail
  generalize w.alloc (.cells #[.string e.k, .int .i64 e.c, .int .i64 e.n, .string e.v, .bool e.d] 33) = V at *
  refine wp_region_held_drew (S := fun X => X.cell? ⟨sb, 3, none⟩ = some (.pointer (some ⟨tb, 0, none⟩)) ∧ X.cell? ⟨w.heap.size, 0, none⟩ = some (.string e.k) ∧ X.cell? ⟨w.heap.size, 1, none⟩ = some (.int .i64 e.c) ∧ X.cell? ⟨w.heap.size, 2, none⟩ = some (.int .i64 e.n) ∧ X.cell? ⟨w.heap.size, 3, none⟩ = some (.string e.v) ∧ X.cell? ⟨w.heap.size, 4, none⟩ = some (.bool e.d)) (by kernel_rfl) (held_hold H.out.drew G.out) (fun hHeld => ?_)
  refine wpAnyH_take (i := 0) (v := ?_) rfl (by kernel_rfl) (by kernel_rfl) (by kernel_rfl) (fun _ _ _ h => h) (Or.inl ⟨by rfl, ?_⟩) (by assumption) ?_
  rotate_left
  · intro w hSw
    go_simp
    try with_reducible rfl
  simp only [Act.put, List.getElem_toArray, List.getElem_cons_zero, List.setIfInBounds_toArray, List.set_cons_zero, List.set_cons_succ]
  refine wpAnyH_take (i := 1) (v := ?_) rfl (by kernel_rfl) (by kernel_rfl) (by kernel_rfl) (fun _ _ _ h => h) (Or.inl ⟨by rfl, ?_⟩) (by assumption) ?_
  rotate_left
  · intro w hSw
    go_simp
    try with_reducible rfl
  simp only [Act.put, List.getElem_toArray, List.getElem_cons_zero, List.getElem_cons_succ, List.setIfInBounds_toArray, List.set_cons_zero, List.set_cons_succ]
  refine wpAnyH_take (i := 2) (v := ?_) rfl (by kernel_rfl) (by kernel_rfl) (by kernel_rfl) (fun _ _ _ h => h) (Or.inl ⟨by rfl, ?_⟩) (by assumption) ?_
  rotate_left
  · intro w hSw
    go_simp
    try with_reducible rfl
  simp only [Act.put, List.getElem_toArray, List.getElem_cons_zero, List.getElem_cons_succ, List.setIfInBounds_toArray, List.set_cons_zero, List.set_cons_succ]
  refine wpAnyH_take (i := 3) (v := ?_) rfl (by kernel_rfl) (by kernel_rfl) (by kernel_rfl) (fun _ _ _ h => h) (Or.inl ⟨by rfl, ?_⟩) (by assumption) ?_
  rotate_left
  · intro w hSw
    go_simp
    try with_reducible rfl
  simp only [Act.put, List.getElem_toArray, List.getElem_cons_zero, List.getElem_cons_succ, List.setIfInBounds_toArray, List.set_cons_zero, List.set_cons_succ]
  refine wpAnyH_take (i := 4) (v := ?_) rfl (by kernel_rfl) (by kernel_rfl) (by kernel_rfl) (fun _ _ _ h => h) (Or.inl ⟨by rfl, ?_⟩) (by assumption) ?_
  rotate_left
  · intro w hSw
    go_simp
    try with_reducible rfl
  simp only [Act.put, List.getElem_toArray, List.getElem_cons_zero, List.getElem_cons_succ, List.setIfInBounds_toArray, List.set_cons_zero, List.set_cons_succ]
  refine wpAnyH_take (i := 5) (v := ?_) rfl (by kernel_rfl) (by kernel_rfl) (by kernel_rfl) (fun _ _ _ h => h) (Or.inl ⟨by rfl, ?_⟩) (by assumption) ?_
  rotate_left
  · intro w hSw
    go_simp
    try with_reducible rfl
  simp only [Act.put, List.getElem_toArray, List.getElem_cons_zero, List.getElem_cons_succ, List.setIfInBounds_toArray, List.set_cons_zero, List.set_cons_succ]
  refine wpAnyH_take (i := 6) (v := ?_) rfl (by kernel_rfl) (by kernel_rfl) (by kernel_rfl) (fun _ _ _ h => h) (Or.inl ⟨by rfl, ?_⟩) (by assumption) ?_
  rotate_left
  · intro w hSw
    go_simp
    try with_reducible rfl
  simp only [Act.put, List.getElem_toArray, List.getElem_cons_zero, List.getElem_cons_succ, List.setIfInBounds_toArray, List.set_cons_zero, List.set_cons_succ]
  refine wpAnyH_take (i := 7) (v := ?_) rfl (by kernel_rfl) (by kernel_rfl) (by kernel_rfl) (fun _ _ _ h => h) (Or.inl ⟨by rfl, ?_⟩) (by assumption) ?_
  rotate_left
  · intro w hSw
    go_simp
    try with_reducible rfl
  simp only [Act.put, List.getElem_toArray, List.getElem_cons_zero, List.getElem_cons_succ, List.setIfInBounds_toArray, List.set_cons_zero, List.set_cons_succ]
  refine wpAnyH_ready (rs := [8]) (by kernel_rfl) (by simp) ?_
  refine AllReadyH.cons rfl (fun K hK => ?_) AllReadyH.nil
  go_simp
  refine (CO.out _ LL.out.drew).mono ?_
  rintro e w9 ⟨rfl, bb⟩
  refine hK.out _ _ (held_hold (H.out.drew.below bb) (blk_on (show V.drew.heap[w.heap.size]? = some _ from G.out) bb)) (fun hHeld => ?_)
  clear hK K 
  have H1 := aside (H.out.drew.below bb)
  have G1 := aside (blk_on (show V.drew.heap[w.heap.size]? = some _ from G.out) bb)
  have B1 := aside (B0.out.drew.trans (bb.mono B0.out.drew.size))
  clear bb H G B0 LL CO
  refine wpAnyH_ready (rs := [9]) (by kernel_rfl) (by simp) ?_
  refine AllReadyH.cons rfl (fun K hK => ?_) AllReadyH.nil
  go_simp
  have HF := aside (fun (W : World) (c : CntE (some g) (n + pc) W) (k : Keeps (fun x => x = tb ∨ OnC (some g) x) w9 W) (t : TreeE W tb (jvE g) T') => hold_mid (e := e) H1.out G1.out B1.out c k t)
  refine (CP.out _ H1.out).mono ?_
  rintro e w8 ⟨rfl, ht, bb2, kk⟩
  refine hK.out _ _ ((HF.out _ bb2 kk ht).1) (fun hHeld => ?_)
  clear hK K 
  obtain ⟨-, H2, G2, K2⟩ := HF.out _ bb2 kk ht
  have H2' := aside H2
  have G2' := aside G2
  have K2' := aside K2
  clear H2 G2 K2 ht bb2 kk HF H1 G1 B1 CP hHeld
  refine wpAnyH_done (by kernel_rfl) ?_ _
  go_wp2_with fail
  refine wp_region_held_drew (S := fun X => X.cell? ⟨w.heap.size, 1, none⟩ = some (.int .i64 e.c)) (by kernel_rfl) (penta (show w8.drew.heap[w.heap.size]? = some _ from G2'.out)).2.1 (fun hHeld => ?_)
  refine wpAnyH_take (i := 0) (v := ?_) rfl (by kernel_rfl) (by kernel_rfl) (by kernel_rfl) (fun _ _ _ h => h) (Or.inl ⟨by rfl, ?_⟩) (by assumption) ?_
  rotate_left
  · intro w hSw
    go_simp
    try with_reducible rfl
  simp only [Act.put, List.getElem_toArray, List.getElem_cons_zero, List.setIfInBounds_toArray, List.set_cons_zero, List.set_cons_succ]
  refine wpAnyH_take (i := 1) (v := ?_) rfl (by kernel_rfl) (by kernel_rfl) (by kernel_rfl) (fun _ _ _ h => h) (Or.inl ⟨by rfl, ?_⟩) (by assumption) ?_
  rotate_left
  · intro w hSw
    go_simp
    try with_reducible rfl
  simp only [Act.put, List.getElem_toArray, List.getElem_cons_zero, List.getElem_cons_succ, List.setIfInBounds_toArray, List.set_cons_zero, List.set_cons_succ]
  refine wpAnyH_take (i := 2) (v := ?_) rfl (by kernel_rfl) (by kernel_rfl) (by kernel_rfl) (fun _ _ _ h => h) (Or.inl ⟨by rfl, ?_⟩) (by assumption) ?_
  rotate_left
  · intro w hSw
    go_simp
    try with_reducible rfl
  simp only [Act.put, List.getElem_toArray, List.getElem_cons_zero, List.getElem_cons_succ, List.setIfInBounds_toArray, List.set_cons_zero, List.set_cons_succ]
  refine wpAnyH_take (i := 3) (v := ?_) rfl (by kernel_rfl) (by kernel_rfl) (by kernel_rfl) (fun _ _ _ h => h) (Or.inl ⟨by rfl, ?_⟩) (by assumption) ?_
  rotate_left
  · intro w hSw
    go_simp
    try with_reducible rfl
  simp only [Act.put, List.getElem_toArray, List.getElem_cons_zero, List.getElem_cons_succ, List.setIfInBounds_toArray, List.set_cons_zero, List.set_cons_succ]
  refine wpAnyH_take (i := 5) (v := ?_) rfl (by kernel_rfl) (by kernel_rfl) (by kernel_rfl) (fun _ _ _ h => h) (Or.inl ⟨by rfl, ?_⟩) (by assumption) ?_
  rotate_left
  · intro w hSw
    go_simp
    try with_reducible rfl
  simp only [Act.put, List.getElem_toArray, List.getElem_cons_zero, List.getElem_cons_succ, List.setIfInBounds_toArray, List.set_cons_zero, List.set_cons_succ]
  refine wpAnyH_take (i := 6) (v := ?_) rfl (by kernel_rfl) (by kernel_rfl) (by kernel_rfl) (fun _ _ _ h => h) (Or.inl ⟨by rfl, ?_⟩) (by assumption) ?_
  rotate_left
  · intro w hSw
    go_simp
    try with_reducible rfl
  simp only [Act.put, List.getElem_toArray, List.getElem_cons_zero, List.getElem_cons_succ, List.setIfInBounds_toArray, List.set_cons_zero, List.set_cons_succ]
  refine wpAnyH_take (i := 7) (v := ?_) rfl (by kernel_rfl) (by kernel_rfl) (by kernel_rfl) (fun _ _ _ h => h) (Or.inl ⟨by rfl, ?_⟩) (by assumption) ?_
  rotate_left
  · intro w hSw
    go_simp
    try with_reducible rfl
  simp only [Act.put, List.getElem_toArray, List.getElem_cons_zero, List.getElem_cons_succ, List.setIfInBounds_toArray, List.set_cons_zero, List.set_cons_succ]
  obtain ⟨-, s1, -, -, z1⟩ := quad H2'.out.drew.blk
  refine wpAnyH_ready (rs := [4]) (by kernel_rfl) (by simp) ?_
  refine AllReadyH.cons rfl (fun K hK => ?_) AllReadyH.nil
  go_simp
  refine hK.out _ _ (hHeld) (fun hHeld => ?_)
  clear hK K 
  refine wpAnyH_take (i := 8) (v := ?_) rfl (by kernel_rfl) (by kernel_rfl) (by kernel_rfl) (fun _ _ _ h => h) (Or.inl ⟨by rfl, ?_⟩) (by assumption) ?_
  rotate_left
  · intro w hSw
    go_simp
    try with_reducible rfl
  simp only [Act.put, List.getElem_toArray, List.getElem_cons_zero, List.getElem_cons_succ, List.setIfInBounds_toArray, List.set_cons_zero, List.set_cons_succ]
  generalize hm : (if ck < e.c then e.c else ck) = mh
  have HM := aside (show ckm ck e.c = mh from hm)
  clear hm
  refine wpAnyH_take (i := 9) (v := ?_) rfl (by kernel_rfl) (by kernel_rfl) (by kernel_rfl) (fun _ _ _ h => h) (Or.inl ⟨by rfl, ?_⟩) (by assumption) ?_
  rotate_left
  · intro w hSw
    go_simp
    try with_reducible rfl
  simp only [Act.put, List.getElem_toArray, List.getElem_cons_zero, List.getElem_cons_succ, List.setIfInBounds_toArray, List.set_cons_zero, List.set_cons_succ]
  refine wpAnyH_take (i := 10) (v := ?_) rfl (by kernel_rfl) (by kernel_rfl) (by kernel_rfl) (fun _ _ _ h => h) (Or.inl ⟨by rfl, ?_⟩) (by assumption) ?_
  rotate_left
  · intro w hSw
    go_simp
    try with_reducible rfl
  simp only [Act.put, List.getElem_toArray, List.getElem_cons_zero, List.getElem_cons_succ, List.setIfInBounds_toArray, List.set_cons_zero, List.set_cons_succ]
  refine wpAnyH_ready (rs := [11]) (by kernel_rfl) (by simp) ?_
  refine AllReadyH.cons rfl (fun K hK => ?_) AllReadyH.nil
  go_simp
  refine hK.out _ _ ((penta ((heap_setCell_other _ ⟨sb, 1, none⟩ _ _ (fun e => by have h9 := H2'.out.blk; have h8 := G2'.out; dsimp only at e; rw [e, h9] at h8; simp at h8)).trans (show w8.drew.heap[w.heap.size]? = some _ from G2'.out))).2.1) (fun hHeld => ?_)
  clear hK K 
  refine wpAnyH_done (by kernel_rfl) ?_ _
  go_wp2
  go_end0
  rw [HM.out]
  obtain ⟨k1, k2⟩ := hold_end H2'.out K2'.out mh
  exact ⟨rfl, k1.drew, k2.drew⟩
end Go.Proofs.YtoflalflacopdaaDoor
namespace Go.Proofs.YtoflalflacopdaaDoor
open Go.RowKit
set_option linter.unusedVariables false
theorem yget_at {w : World} {tb g : Nat} {T : Tr En Tl} {Ls : List En} (k : ByteArray) {o : En} {q : Bool} (h : TreeE w tb (jvE g) T) (hH : Hol T Ls) (hl : Ls.length ≤ 1000000) (ho : (lookE k Ls).getD eNone = o) (hq : (lookE k Ls).isSome = q) :
    Calls Tryd.prog 34 #[.pointer (some ⟨tb, 0, none⟩), .string k] w fun e w' => e = .returned (.tuple #[.agg #[.string o.k, .int .i64 o.c, .int .i64 o.n, .string o.v, .bool o.d], .bool q]) ∧ Below w.heap.size w w' := by
  have h1 := ygetE k h hH.gd (by omega)
  rw [(hH.found k).1, (hH.found k).2, ho, hq] at h1
  exact h1
/-- Is there room for an entry under a key? -/
def roomB (k : ByteArray) (Ls : List En) : Bool := (lookE k Ls).isSome || decide (Ls.length < 256)
set_option maxHeartbeats 3200000 in
set_option maxRecDepth 100000 in
theorem sroom (k : ByteArray) {Ls : List En} {w : World} {sb g tb : Nat} {nd ck : Int} {T : Tr En Tl} {n : Nat} (h : IsSt w sb g tb nd ck T n) (hH : Hol T Ls) (hl : Ls.length ≤ 1000000) :
    Calls Tryd.prog 33 #[.pointer (some ⟨sb, 0, none⟩), .string k] w fun r w' => r = .returned (.bool (roomB k Ls)) ∧ Below w.heap.size w w' := by
  obtain ⟨o, ho⟩ : ∃ o, (lookE k Ls).getD eNone = o := ⟨_, rfl⟩
  have H := aside h
  have HC := aside (show (T.cnt : Int) = (Ls.length : Int) from by rw [hH.cnt])
  obtain ⟨-, -, -, c3, -⟩ := quad h.blk
  cases hq : (lookE k Ls).isSome
  · have C := aside (yget_at k h.tree hH hl ho hq)
    by_cases h2 : Ls.length < 256
    · have HR := aside (show roomB k Ls = true from by unfold roomB; rw [hq]; simp [h2])
      have h2' : (Ls.length : Int) < 256 := by omega
      clear h hH hl ho hq h2
      go_enter Tryd.func33, Tryd.ntmps33
      go_wp2_with fail
      refine C.out.mono ?_
      rintro e w1 ⟨rfl, b1⟩
      have B1 := aside (bthen b1 (bnew w1 (.cells #[.string o.k, .int .i64 o.c, .int .i64 o.n, .string o.v, .bool o.d] 33)))
      have CL := aside (slen (H.out.below B1.out))
      rw [HC.out] at CL
      clear b1 c3 C
      go_wp2_with fail
      refine CL.out.mono ?_
      rintro e w2 ⟨rfl, rfl⟩
      go_wp2
      go_ret
      exact ⟨by rw [HR.out]; first | rfl | (rw [← show decide ((Ls.length : Int) < 256) = false from decide_eq_false (by omega)]; rfl), B1.out⟩
    · have HR := aside (show roomB k Ls = false from by unfold roomB; rw [hq]; simp [h2])
      have h2' : ¬ (Ls.length : Int) < 256 := by omega
      clear h hH hl ho hq h2
      go_enter Tryd.func33, Tryd.ntmps33
      go_wp2_with fail
      refine C.out.mono ?_
      rintro e w1 ⟨rfl, b1⟩
      have B1 := aside (bthen b1 (bnew w1 (.cells #[.string o.k, .int .i64 o.c, .int .i64 o.n, .string o.v, .bool o.d] 33)))
      have CL := aside (slen (H.out.below B1.out))
      rw [HC.out] at CL
      clear b1 c3 C
      go_wp2_with fail
      refine CL.out.mono ?_
      rintro e w2 ⟨rfl, rfl⟩
      go_wp2
      go_ret
      exact ⟨by rw [HR.out]; first | rfl | (rw [← show decide ((Ls.length : Int) < 256) = false from decide_eq_false (by omega)]; rfl), B1.out⟩
  · have C := aside (yget_at k h.tree hH hl ho hq)
    have HR := aside (show roomB k Ls = true from by unfold roomB; rw [hq]; rfl)
    clear h hH hl ho hq
    go_enter Tryd.func33, Tryd.ntmps33
    go_wp2_with fail
    refine C.out.mono ?_
    rintro e w1 ⟨rfl, b1⟩
    have B1 := aside (bthen b1 (bnew w1 (.cells #[.string o.k, .int .i64 o.c, .int .i64 o.n, .string o.v, .bool o.d] 33)))
    clear b1 c3 C
    go_wp2
    go_ret
    exact ⟨by rw [HR.out]; first | rfl | (rw [← show decide ((Ls.length : Int) < 256) = false from decide_eq_false (by omega)]; rfl), B1.out⟩
set_option maxHeartbeats 3200000 in
set_option maxRecDepth 100000 in
theorem sget (k : ByteArray) {Ls : List En} {w : World} {sb g tb : Nat} {nd ck : Int} {T : Tr En Tl} {n : Nat} (h : IsSt w sb g tb nd ck T n) (hH : Hol T Ls) (hl : Ls.length ≤ 1000000) :
    Calls Tryd.prog 28 #[.pointer (some ⟨sb, 0, none⟩), .string k] w fun r w' => r = .returned (if (16 : Int) < k.size then .tuple #[.agg #[.string ⟨#[]⟩, .int .i64 0, .int .i64 0, .string ⟨#[]⟩, .bool false], .bool false, .int .i64 20] else .tuple #[.agg #[.string ((lookE k Ls).getD eNone).k, .int .i64 ((lookE k Ls).getD eNone).c, .int .i64 ((lookE k Ls).getD eNone).n, .string ((lookE k Ls).getD eNone).v, .bool ((lookE k Ls).getD eNone).d], .bool (lookE k Ls).isSome, .int .i64 0]) ∧ Below w.heap.size w w' := by
  obtain ⟨o, ho⟩ : ∃ o, (lookE k Ls).getD eNone = o := ⟨_, rfl⟩
  obtain ⟨q, hq⟩ : ∃ q, (lookE k Ls).isSome = q := ⟨_, rfl⟩
  rw [ho, hq]
  have b0 := bnew w (.cells #[.string ⟨#[]⟩, .int .i64 0, .int .i64 0, .string ⟨#[]⟩, .bool false] 33)
  obtain ⟨-, -, -, c3, -⟩ := quad (blk_on h.blk b0)
  have G := aside (heap_alloc_new w (.cells #[.string ⟨#[]⟩, .int .i64 0, .int .i64 0, .string ⟨#[]⟩, .bool false] 33))
  have C := aside (yget_at k (h.tree.below b0) hH hl ho hq)
  have B0 := aside b0
  by_cases h2 : (16 : Int) < k.size
  · rw [if_pos h2]
    obtain ⟨s0, s1, s2, s3, s4, z0, z1, z2, z3, z4⟩ := penta G.out
    clear h hH hl ho hq b0 c3 C
    go_enter Tryd.func28, Tryd.ntmps28
    go_wp2
    refine bodyPost_ret (v := .tuple #[.agg #[.string ⟨#[]⟩, .int .i64 0, .int .i64 0, .string ⟨#[]⟩, .bool false], .bool false, .int .i64 20]) (by simp [results, Tryd.results28, go_sem]) rfl ⟨rfl, B0.out⟩
  · rw [if_neg h2]
    clear h hH hl ho hq b0
    go_enter Tryd.func28, Tryd.ntmps28
    go_wp2_with fail
    refine C.out.mono ?_
    rintro e w1 ⟨rfl, b1⟩
    obtain ⟨s0, s1, s2, s3, s4, z0, z1, z2, z3, z4⟩ := penta (blk_on (blk_on G.out b1) (bnew w1 (.cells #[.string o.k, .int .i64 o.c, .int .i64 o.n, .string o.v, .bool o.d] 33)))
    have B1 := aside (bthen (bthen B0.out b1) (bnew w1 (.cells #[.string o.k, .int .i64 o.c, .int .i64 o.n, .string o.v, .bool o.d] 33)))
    clear b1 c3 C
    go_wp2
    refine bodyPost_ret (v := .tuple #[.agg #[.string o.k, .int .i64 o.c, .int .i64 o.n, .string o.v, .bool o.d], .bool q, .int .i64 0]) (by simp [results, Tryd.results28, go_sem, s0, s1, s2, s3, s4]) rfl ⟨rfl, ?_⟩
    exact ((((B1.out.setCell (by dsimp only; omega) _).setCell (by dsimp only; omega) _).setCell (by dsimp only; omega) _).setCell (by dsimp only; omega) _).setCell (by dsimp only; omega) _
end Go.Proofs.YtoflalflacopdaaDoor
