/-
  The code's Print and Parse of a sum.
-/
import Derived.Test.YtlieljnaecbmdaaDoorMBase
import Derived.Test.YtlieljnaecbmdaaDoorWWord
import Derived.Test.YtlieljnaecbmdaaDoorWBytes
import Derived.Test.YtlieljnaecbmdaaDoorRWord
import Derived.Test.YtlieljnaecbmdaaDoorHexWalks2
import Derived.Test.YtlieljnaecbmdaaDoorHexWalks4
import Derived.Lib.ConvBytes
namespace Go.Proofs.YtlieljnaecbmdaaDoor
open Go.RowKit
set_option linter.unusedVariables false

/-- A sum's text. -/
def txtL (a b : Nat) : List UInt8 := Hx.hex (wordB a ++ wordB b)

theorem wordB_length (u : Nat) : (wordB u).length = 8 := rfl

theorem txtL_length (a b : Nat) : (txtL a b).length = 32 := by rw [txtL, Hx.hex_length, List.length_append, wordB_length, wordB_length]

def PRel (w : World) (a b : Nat) (i : Value) (wr : World) : Prop :=
  ∃ (l : List UInt8) (g : Option Nat), IsW 67 (w.heap.size + 1) (w.heap.size + 1) g l wr ∧ Below w.heap.size w wr ∧ w.heap.size + 2 ≤ wr.heap.size ∧
    ((i = .int .i64 0 ∧ l = []) ∨ (i = .int .i64 1 ∧ l = wordB a) ∨ (i = .int .i64 2 ∧ l = wordB a ++ wordB b))

theorem below_w {w wr w2 : World} {b : Nat} {g : Option Nat} {l : List UInt8} (h : Below w.heap.size w wr) (hW : IsW 67 (w.heap.size + 1) b g l wr) (k : Keeps (fun k => k = b ∨ g = some k) wr w2) : Below w.heap.size w w2 := by
  refine h.trans (k.below h.size (fun j hj hs => ?_))
  rcases hs with rfl | hs
  · exact absurd hW.1 (by omega)
  · exact absurd (hW.row j hs).1 (by omega)

set_option maxHeartbeats 1600000 in
set_option maxRecDepth 100000 in
theorem print_any (a b : Nat) (w : World) (ha : a < 18446744073709551616) (hb : b < 18446744073709551616) :
    Calls Tryd.prog 19 #[.agg #[.int .u64 (a : Int), .int .u64 (b : Int)]] w fun e w' => e = .returned (.string ⟨(txtL a b).toArray⟩) ∧ Below w.heap.size w w' := by
  have HA := aside ha
  have HB := aside hb
  have ix0 : ∀ w : World, (Instr.index 27 (.agg #[.int .u64 (a : Int), .int .u64 (b : Int)]) (.int .i64 0)).run Tryd.prog w = .ok (.int .u64 (a : Int)) w := fun _ => by kernel_rfl
  have ix1 : ∀ w : World, (Instr.index 27 (.agg #[.int .u64 (a : Int), .int .u64 (b : Int)]) (.int .i64 1)).run Tryd.prog w = .ok (.int .u64 (b : Int)) w := fun _ => by kernel_rfl
  clear ha hb
  go_enter Tryd.func19, Tryd.ntmps19
  go_wp2_with fail
  refine (newWriter_any _).mono ?_
  rintro e w1 ⟨rfl, rfl⟩
  go_wp2_with fail
  go_loopw [8] (fun i wr => PRel w a b i wr) (fun i _ => 2 - (intOf i).toNat)
  case atStart =>
    refine ⟨[], none, ?_, (bnew w _).alloc (by simp) _, by simp, .inl ⟨rfl, rfl⟩⟩
    have := isW_new 67 (w.heap.size + 1) (w.alloc (.cells #[.int .u64 (a : Int), .int .u64 (b : Int)] 27)) (by simp)
    simpa using this
  case round =>
    obtain ⟨l, g, hW, hbl, hsz, ⟨rfl, rfl⟩ | ⟨rfl, rfl⟩ | ⟨rfl, rfl⟩⟩ := hrel
    · have H := aside hW
      clear hW
      go_wp2_with fail
      refine (wword_any _ _ _ _ a _ H.out (by omega) HA.out (by simp)).mono ?_
      rintro e w2 ⟨rfl, g', W2, fr, k2⟩
      have B2 := aside (below_w hbl H.out k2)
      have sz2 := k2.size
      have H2 := aside W2
      clear W2 k2 fr
      go_wp2
      go_roundw
      case rel => exact ⟨_, g', H2.out, B2.out, by omega, .inr (.inl ⟨rfl, rfl⟩)⟩
      case measure => simp [intOf]
    · have H := aside hW
      clear hW
      go_wp2_with fail
      refine (wword_any _ _ _ _ b _ H.out (by omega) HB.out (by rw [wordB_length]; decide)).mono ?_
      rintro e w2 ⟨rfl, g', W2, fr, k2⟩
      have B2 := aside (below_w hbl H.out k2)
      have sz2 := k2.size
      have H2 := aside W2
      clear W2 k2 fr
      go_wp2
      go_roundw
      case rel => exact ⟨_, g', H2.out, B2.out, by omega, .inr (.inr ⟨rfl, rfl⟩)⟩
      case measure => simp [intOf]
    · have H := aside hW
      clear hW
      obtain ⟨l, hl⟩ : ∃ l, l = wordB a ++ wordB b := ⟨_, rfl⟩
      rw [← hl] at H
      have hll : l.length = 16 := by rw [hl]; rfl
      have htx : txtL a b = Hx.hex l := by rw [hl]; rfl
      have HT := aside htx
      clear hl htx
      go_wp2_with fail
      refine (bytes_any _ _ _ _ _ H.out (by omega)).mono ?_
      rintro e w2 ⟨v', rfl, ho, k2⟩
      have cv := conv_own w2 _ v' l ho
      have B2 := aside (hbl.trans (k2.below hbl.size (fun _ _ h => h)))
      clear ho k2
      go_wp2_with fail
      refine (hex_any ⟨l.toArray⟩ _ (by show l.toArray.size ≤ _; simp; omega)).mono ?_
      rintro e w3 ⟨rfl, b3⟩
      have B3 := aside (B2.out.trans (b3.mono B2.out.size))
      clear cv b3
      go_wp2
      go_ret
      exact ⟨by rw [HT.out]; rfl, B3.out⟩

/-- What Parse answers. -/
def parseV (l : List UInt8) : Value := if l.length = 32 then
  match Hx.unhex l with
  | some r => .tuple #[.agg #[.int .u64 (valB (r.take 8) : Int), .int .u64 (valB ((r.drop 8).take 8) : Int)], .int .i64 0]
  | none => .tuple #[.agg #[.int .u64 0, .int .u64 0], .int .i64 23]
  else .tuple #[.agg #[.int .u64 0, .int .u64 0], .int .i64 23]

theorem parseV_len {l : List UInt8} (h : l.length ≠ 32) : parseV l = .tuple #[.agg #[.int .u64 0, .int .u64 0], .int .i64 23] := if_neg h
theorem parseV_none {l : List UInt8} (h : Hx.unhex l = none) : parseV l = .tuple #[.agg #[.int .u64 0, .int .u64 0], .int .i64 23] := by
  unfold parseV; split <;> simp [h]
theorem parseV_some {l r : List UInt8} (h : l.length = 32) (hr : Hx.unhex l = some r) : parseV l = .tuple #[.agg #[.int .u64 (valB (r.take 8) : Int), .int .u64 (valB ((r.drop 8).take 8) : Int)], .int .i64 0] := by
  unfold parseV; rw [if_pos h, hr]

/-- What is kept of the memory while words are read. -/
structure ParseSt (w wr : World) (b : Nat) (s : ByteArray) (p x0 x1 : Int) : Prop where
  below : Below w.heap.size w wr
  lt : w.heap.size < b
  R : IsR b s p 0 wr
  r : wr.heap[w.heap.size]? = some (.cells #[.int .u64 0, .int .u64 0] 27 (0, 0))
  m : wr.heap[b + 1]? = some (.cells #[.int .u64 x0, .int .u64 x1] 27 (0, 0))

theorem ParseSt.step {w wr w2 : World} {b : Nat} {s : ByteArray} {p q x0 x1 : Int} (h : ParseSt w wr b s p x0 x1) (R : IsR b s q 0 w2) (k : Keeps (fun x => x = b) wr w2) : ParseSt w w2 b s q x0 x1 :=
  ⟨h.below.trans (k.below h.below.size (fun j hj hs => by have := h.lt; omega)), h.lt, R,
   (k.block _ (Array.getElem?_eq_some_iff.1 h.r).1 (by have := h.lt; omega)).trans h.r, (k.block _ (Array.getElem?_eq_some_iff.1 h.m).1 (by omega)).trans h.m⟩

theorem ParseSt.put0 {w wr : World} {b : Nat} {s : ByteArray} {p x0 x1 : Int} (h : ParseSt w wr b s p x0 x1) (y : Int) : ParseSt w (wr.setCell ⟨b + 1, 0, none⟩ (.int .u64 y)) b s p y x1 :=
  ⟨h.below.setCell (by have := h.lt; simp; omega) _, h.lt, by unfold IsR; rw [heap_setCell_other _ _ _ _ (by simp)]; exact h.R,
   by rw [heap_setCell_other _ _ _ _ (by have := h.lt; simp; omega)]; exact h.r, heap_setCell_same wr (b + 1) 0 _ _ (.int .u64 y) h.m⟩

theorem ParseSt.put1 {w wr : World} {b : Nat} {s : ByteArray} {p x0 x1 : Int} (h : ParseSt w wr b s p x0 x1) (y : Int) : ParseSt w (wr.setCell ⟨b + 1, 1, none⟩ (.int .u64 y)) b s p x0 y :=
  ⟨h.below.setCell (by have := h.lt; simp; omega) _, h.lt, by unfold IsR; rw [heap_setCell_other _ _ _ _ (by simp)]; exact h.R,
   by rw [heap_setCell_other _ _ _ _ (by have := h.lt; simp; omega)]; exact h.r, heap_setCell_same wr (b + 1) 1 _ _ (.int .u64 y) h.m⟩

def PaRel (w : World) (b : Nat) (s : ByteArray) (v0 v1 : Int) (i : Value) (wr : World) : Prop :=
  (i = .int .i64 0 ∧ ParseSt w wr b s 0 0 0) ∨ (i = .int .i64 1 ∧ ParseSt w wr b s 8 v0 0) ∨ (i = .int .i64 2 ∧ ParseSt w wr b s 16 v0 v1)

theorem reads_bytes (w : World) (s : ByteArray) (cap : Nat) : Reads (Lib.bytesWorld w 5 s) (.slice (some ⟨w.heap.size, 0, none⟩) s.size cap) s.data.toList := by
  intro n
  have hl : s.size = s.data.toList.length := by show s.data.size = _; simp
  rw [hl]
  refine run_convert_bytes_back (P := Tryd.prog) _ 59 9 5 ⟨w.heap.size, 0, none⟩ cap s.data.toList Tryd.underlying59 Tryd.underlying5 Tryd.underlying9 (fun j hj => ?_)
  have := Lib.bytesWorld_cell w 5 s j (by omega)
  rw [Addr.add_lit]
  rw [show s.data.toList.getD j 0 = s.data.toList[j] from by rw [List.getD, List.getElem?_eq_getElem hj]; rfl] at this
  simpa using this

theorem parse_start {w X : World} (s : ByteArray) (B : Below w.heap.size w X) (r : X.heap[w.heap.size]? = some (.cells #[.int .u64 0, .int .u64 0] 27 (0, 0))) :
    ParseSt w ((X.alloc (.cells #[.string s, .int .i64 0, .int .i64 0] 71)).alloc (.cells #[.int .u64 0, .int .u64 0] 27)) X.heap.size s 0 0 0 := by
  refine ⟨bthen (bthen B (bnew X _)) (bnew _ _), (Array.getElem?_eq_some_iff.1 r).1, blk_on (heap_alloc_new X _) (bnew _ _), blk_on (blk_on r (bnew X _)) (bnew _ _), ?_⟩
  have := heap_alloc_new (X.alloc (.cells #[.string s, .int .i64 0, .int .i64 0] 71)) (.cells #[.int .u64 0, .int .u64 0] 27)
  simpa using this

theorem bytes_below (w : World) (s : ByteArray) : Below w.heap.size w (Lib.bytesWorld w 5 s) :=
  ⟨rfl, rfl, rfl, by rw [Lib.bytesWorld_size]; omega, fun j hj => Lib.bytesWorld_at_old w _ s j hj⟩

set_option maxHeartbeats 1600000 in
set_option maxRecDepth 100000 in
theorem parse_any (s : ByteArray) (w : World) :
    Calls Tryd.prog 20 #[.string s] w fun e w' => e = .returned (parseV s.data.toList) ∧ Below w.heap.size w w' := by
  have hlen : s.data.toList.length = s.size := by show s.data.toList.length = s.data.size; simp
  by_cases h32 : s.size = 32
  · have hne : ((s.size : Int) != 32) = false := by rw [h32]; rfl
    have HU := aside (fun W => unhex_any s W (by omega))
    have HL := aside (hlen.trans h32)
    clear hlen h32
    cases hu : Hx.unhex s.data.toList with
    | none =>
      have HV := aside (parseV_none hu)
      rw [unhexVal_none hu] at HU
      clear hu
      go_enter Tryd.func20, Tryd.ntmps20
      go_wp2_with fail
      refine (HU.out _).mono ?_
      rintro e w1 ⟨rfl, b1⟩
      have r1 := pair (blk_on (heap_alloc_new w _) b1)
      have B1 := aside (bthen (bnew w _) b1)
      obtain ⟨p0, p1, p2, p3⟩ := r1
      clear b1
      go_wp2
      exact bodyPost_ret (v := .tuple #[.agg #[.int .u64 0, .int .u64 0], .int .i64 23]) (by simp [results, Tryd.results20, go_sem, p0, p1]) rfl ⟨by rw [HV.out], (B1.out.setCell (by simp) _).setCell (by simp) _⟩
    | some r =>
      have HV := aside (parseV_some HL.out hu)
      have hrl := Hx.unhex_length _ _ _ (Nat.le_refl _) hu
      rw [HL.out] at hrl
      rw [unhexVal_some hu] at HU
      clear hu
      go_enter Tryd.func20, Tryd.ntmps20
      go_wp2_with fail
      refine (HU.out _).mono ?_
      rintro e w1 ⟨rfl, b1⟩
      have r1 := blk_on (heap_alloc_new w _) b1
      have B1 := aside (bthen (bnew w _) b1)
      have hcv := Lib.run_convert_string_bytes (P := Tryd.prog) w1 9 59 5 ⟨r.toArray⟩ (u := .string) Tryd.underlying9 Tryd.underlying59 Tryd.underlying5
      have rd := reads_bytes w1 ⟨r.toArray⟩ (grownCap w1 r.length 0 5)
      have bX := bytes_below w1 ⟨r.toArray⟩
      have hrs : (⟨r.toArray⟩ : ByteArray).size = r.length := by show r.toArray.size = _; simp
      have hrl' : r.toArray.toList = r := by simp
      rw [hrs] at hcv rd
      have r2 := blk_on r1 bX
      have B2 := aside (bthen B1.out bX)
      clear bX r1 b1 B1
      go_wp2_with fail
      clear hcv
      generalize Lib.bytesWorld w1 5 ⟨r.toArray⟩ = X at *
      refine (newReader_any _ _ _ rd).mono ?_
      rintro e w2 ⟨rfl, rfl⟩
      clear rd
      have hnX : w.heap.size < X.heap.size := (Array.getElem?_eq_some_iff.1 r2).1
      have S0 := aside (parse_start ⟨r.toArray⟩ B2.out r2)
      have e0 : ((⟨r.toArray⟩ : ByteArray).data.toList.drop 0).take 8 = r.take 8 := by simp
      have e8 : ((⟨r.toArray⟩ : ByteArray).data.toList.drop 8).take 8 = (r.drop 8).take 8 := by simp
      have rw0 := fun (W : World) (h : IsR X.heap.size ⟨r.toArray⟩ ((0 : Nat) : Int) 0 W) => rword_ok X.heap.size ⟨r.toArray⟩ 0 W h (by rw [hrs]; omega) (by rw [hrs]; omega)
      have rw8 := fun (W : World) (h : IsR X.heap.size ⟨r.toArray⟩ ((8 : Nat) : Int) 0 W) => rword_ok X.heap.size ⟨r.toArray⟩ 8 W h (by rw [hrs]; omega) (by rw [hrs]; omega)
      rw [e0] at rw0
      rw [e8] at rw8
      generalize valB (r.take 8) = v0 at *
      generalize valB ((r.drop 8).take 8) = v1 at *
      have RW0 := aside rw0
      have RW8 := aside rw8
      go_wp2_with fail
      clear rw0 rw8 e0 e8 r2 B2 hrs hrl hrl' HU
      generalize X.heap.size = b at *
      generalize (⟨r.toArray⟩ : ByteArray) = t at *
      go_loopw [25] (fun i wr => PaRel w b t (v0 : Int) (v1 : Int) i wr) (fun i _ => 2 - (intOf i).toNat)
      case atStart => exact .inl ⟨rfl, S0.out⟩
      case round =>
        clear S0
        obtain ⟨rfl, S⟩ | ⟨rfl, S⟩ | ⟨rfl, S⟩ := hrel
        · have H := aside S
          clear S
          go_wp2_with fail
          refine (RW0.out _ H.out.R).mono ?_
          rintro e w2 ⟨rfl, R2, k2⟩
          have S2 := H.out.step R2 k2
          have H2 := aside S2
          obtain ⟨p0, p1, p2, p3⟩ := pair S2.m
          clear S2 R2 k2
          go_wp2
          go_roundw
          case rel => exact .inr (.inl ⟨rfl, H2.out.put0 _⟩)
          case measure => simp [intOf]
        · have H := aside S
          clear S
          go_wp2_with fail
          refine (RW8.out _ H.out.R).mono ?_
          rintro e w2 ⟨rfl, R2, k2⟩
          have S2 := H.out.step R2 k2
          have H2 := aside S2
          obtain ⟨p0, p1, p2, p3⟩ := pair S2.m
          clear S2 R2 k2
          go_wp2
          go_roundw
          case rel => exact .inr (.inr ⟨rfl, H2.out.put1 _⟩)
          case measure => simp [intOf]
        · have H := aside S
          obtain ⟨p0, p1, p2, p3⟩ := pair S.m
          obtain ⟨q0, q1, q2, q3⟩ := pair S.r
          clear S
          go_wp2
          exact bodyPost_ret (v := .tuple #[.agg #[.int .u64 (v0 : Int), .int .u64 (v1 : Int)], .int .i64 0]) (by simp [results, Tryd.results20, go_sem, q0, q1]) rfl ⟨by rw [HV.out], (H.out.below.setCell (by simp) _).setCell (by simp) _⟩
  · have hne : ((s.size : Int) != 32) = true := by rw [bne_iff_ne]; omega
    have HV := aside (parseV_len (l := s.data.toList) (by omega))
    clear hlen h32
    go_enter Tryd.func20, Tryd.ntmps20
    go_wp2
    exact bodyPost_ret (v := .tuple #[.agg #[.int .u64 0, .int .u64 0], .int .i64 23]) (by simp [results, Tryd.results20, go_sem]) rfl ⟨by rw [HV.out], (bnew w _)⟩

end Go.Proofs.YtlieljnaecbmdaaDoor
