/-
  The document's Print and Parse of a sum.
-/
import Derived.Test.YtlieljnaecbmdaaDoorMTxt
namespace Go.Proofs.YtlieljnaecbmdaaDoor
open Go.RowKit
set_option linter.unusedVariables false

theorem word_digit (a i : Nat) (h : i < 16) : (Hx.hex (wordB a)).getD i 0 = Hx.digs.getD (a / 2 ^ (60 - 4 * i) % 16) 0 := by
  match i, h with
  | 0, _ | 1, _ | 2, _ | 3, _ | 4, _ | 5, _ | 6, _ | 7, _ | 8, _ | 9, _ | 10, _ | 11, _ | 12, _ | 13, _ | 14, _ | 15, _ =>
    simp only [Hx.hex, wordB, wordFrom, Hx.one, List.cons_append, List.nil_append, List.getD_cons_zero, List.getD_cons_succ, UInt8.toNat_ofNat']
    congr 1
    simp only [Nat.reduceSub, Nat.reduceMul, Nat.reducePow, Nat.reduceAdd]
    omega
  | n + 16, h => omega

theorem hexword_length (a : Nat) : (Hx.hex (wordB a)).length = 16 := by rw [Hx.hex_length, wordB_length]

theorem txt_digit0 (a b i : Nat) (h : i < 16) : (txtL a b).getD i 0 = Hx.digs.getD (a / 2 ^ (60 - 4 * i) % 16) 0 := by
  rw [← word_digit a i h, txtL, Hx.hex_append]
  simp only [List.getD]
  rw [List.getElem?_append_left (by rw [hexword_length]; exact h)]

theorem txt_digit1 (a b i : Nat) (h : i < 16) : (txtL a b).getD (16 + i) 0 = Hx.digs.getD (b / 2 ^ (60 - 4 * i) % 16) 0 := by
  rw [← word_digit b i h, txtL, Hx.hex_append]
  simp only [List.getD]
  rw [List.getElem?_append_right (by rw [hexword_length]; omega), hexword_length]
  congr 2
  omega

/-- One of the sixteen digits, cut out as a text. -/
theorem cut_dig64 (n : Nat) (hn : n < 16) (w : World) :
    (Instr.slice 9 (.string ⟨#[48, 49, 50, 51, 52, 53, 54, 55, 56, 57, 97, 98, 99, 100, 101, 102]⟩) (some (.int .i64 (n : Int))) (some (.int .i64 ((n : Int) + 1))) none).run Tryd.prog w = .ok (.string ⟨#[Hx.digs.getD n 0]⟩) w := by
  rw [run_slice_string w 9 _ .i64 .i64 _ _ Tryd.underlying9 (by omega) (by omega) (by show (n : Int) + 1 ≤ ((16 : Nat) : Int); omega)]
  match n, hn with
  | 0, _ | 1, _ | 2, _ | 3, _ | 4, _ | 5, _ | 6, _ | 7, _ | 8, _ | 9, _ | 10, _ | 11, _ | 12, _ | 13, _ | 14, _ | 15, _ => rfl
  | n + 16, h => omega

def PrRel (W : World) (a b : Nat) (v i : Value) (wr : World) : Prop :=
  ∃ (j : Nat) (t : ByteArray), j ≤ 32 ∧ v = .string t ∧ i = .int .i64 (j : Int) ∧ Hid (t = ⟨((txtL a b).take j).toArray⟩) ∧ wr = W

theorem take_getD {l : List UInt8} {j : Nat} (h : j < l.length) : l.take (j + 1) = l.take j ++ [l.getD j 0] := by
  rw [List.take_succ_eq_append_getElem h, List.getD, List.getElem?_eq_getElem h]; rfl

set_option maxHeartbeats 3200000 in
set_option maxRecDepth 100000 in
theorem printRef_any (a b : Nat) (w : World) (ha : a < 18446744073709551616) (hb : b < 18446744073709551616) :
    Calls Tryd.prog 21 #[.agg #[.int .u64 (a : Int), .int .u64 (b : Int)]] w fun e w' => e = .returned (.string ⟨(txtL a b).toArray⟩) ∧ Below w.heap.size w w' := by
  go_enter Tryd.func21, Tryd.ntmps21
  go_wp2
  go_loopw [3, 4] (fun v i wr => PrRel (w.alloc (.cells #[.int .u64 (a : Int), .int .u64 (b : Int)] 27)) a b v i wr) (fun _ i _ => 32 - (intOf i).toNat)
  case atStart => exact ⟨0, _, by omega, rfl, rfl, rfl, rfl⟩
  case round =>
    obtain ⟨j, t, hj, rfl, rfl, HT, rfl⟩ := hrel
    by_cases hlt : (j : Int) < 32
    · have hx : ∃ (x q r : Nat), j = 16 * q + r ∧ r < 16 ∧ ((q = 0 ∧ x = a) ∨ (q = 1 ∧ x = b)) ∧ (txtL a b).getD j 0 = Hx.digs.getD (x / 2 ^ (60 - 4 * r) % 16) 0 := by
        by_cases h16 : j < 16
        · exact ⟨a, 0, j, by omega, h16, .inl ⟨rfl, rfl⟩, txt_digit0 a b j h16⟩
        · have := txt_digit1 a b (j - 16) (by omega)
          rw [show 16 + (j - 16) = j from by omega] at this
          exact ⟨b, 1, j - 16, by omega, by omega, .inr ⟨rfl, rfl⟩, this⟩
      obtain ⟨x, q, r, hjq, hr, hqx, hd⟩ := hx
      have hj0 : (0 : Int) ≤ (j : Int) := by omega
      have hm : (j : Int) % 16 = (r : Int) := by omega
      have hm' : (j : Int).tmod 16 = (r : Int) := by rw [Int.tmod_eq_emod_of_nonneg (by omega)]; omega
      have hq1 : (j : Int) / 16 = (q : Int) := by omega
      have hq2 : (j : Int).tdiv 16 = (q : Int) := by rw [Int.tdiv_eq_ediv_of_nonneg (by omega)]; omega
      have hw1 : IntKind.i64.wrap (4 * (r : Int)) = 4 * (r : Int) := by rw [IntKind.wrap_i64]; omega
      have hw2 : IntKind.i64.wrap (60 - 4 * (r : Int)) = 60 - 4 * (r : Int) := by rw [IntKind.wrap_i64]; omega
      have hs0 : (0 : Int) ≤ 60 - 4 * (r : Int) := by omega
      have hs1 : 60 - 4 * (r : Int) ≤ 64 := by omega
      obtain ⟨d, hdd⟩ : ∃ d, d = x / 2 ^ (60 - 4 * r) % 16 := ⟨_, rfl⟩
      rw [← hdd] at hd
      have hd16 : d < 16 := by rw [hdd]; omega
      have hsh : ((x : Int) / 2 ^ (60 - 4 * r)) % 16 = (d : Int) := by
        rw [hdd]
        push_cast
        rfl
      have hsh' : ((x : Int) / 2 ^ (60 - 4 * r)).tmod 16 = (d : Int) := by
        rw [Int.tmod_eq_emod_of_nonneg (Int.ediv_nonneg (by omega) (Int.pow_nonneg (by decide)))]; exact hsh
      have hw3 : IntKind.i64.wrap (d : Int) = (d : Int) := by rw [IntKind.wrap_i64]; omega
      have hw4 : IntKind.i64.wrap ((d : Int) + 1) = (d : Int) + 1 := by rw [IntKind.wrap_i64]; omega
      have hcut := cut_dig64 d hd16
      obtain ⟨dx, hdx⟩ : ∃ y : ByteArray, y = ⟨#[Hx.digs.getD d 0]⟩ := ⟨_, rfl⟩
      rw [← hdx] at hcut
      have htl : t.size ≤ 32 := by
        rw [HT.out]
        show ((txtL a b).take j).toArray.size ≤ 32
        simp only [List.size_toArray, List.length_take]
        omega
      obtain ⟨t', ht'⟩ : ∃ y : ByteArray, y = t ++ dx := ⟨_, rfl⟩
      have hadd : ∀ wx, (Op.stringOp .add t dx).run Tryd.prog wx = .ok (.string t') wx := fun wx => by rw [ht']; exact run_string_add_sum wx t dx (by rw [hdx]; show t.size + 1 ≤ _; omega)
      have HN : Hid (t' = ⟨((txtL a b).take (j + 1)).toArray⟩) := by
        show t' = _
        rw [take_getD (by rw [txtL_length]; omega), hd, ht', HT.out, hdx]
        apply ByteArray.ext
        simp
      clear hd hdd hdx ht' htl HT hd16 hr ha hb
      rcases hqx with ⟨rfl, rfl⟩ | ⟨rfl, rfl⟩
      all_goals
        clear hjq
        go_wp2
        go_roundw
        case rel => exact ⟨j + 1, t', by omega, rfl, by go_num, HN, rfl⟩
        case measure => simp [intOf]; omega
    · have hj32 : j = 32 := by omega
      subst hj32
      have HE : Hid (t = ⟨(txtL a b).toArray⟩) := by
        show t = _
        rw [HT.out, List.take_of_length_le (by rw [txtL_length]; omega)]
      clear HT
      go_wp2
      go_ret
      exact ⟨by rw [← HE.out]; rfl, bnew w _⟩

/-- Digits as one number, the highest first. -/
def val16 (l : List UInt8) : Nat := l.foldl (fun a c => a * 16 + Hx.worth c) 0

theorem val16_snoc (l : List UInt8) (c : UInt8) : val16 (l ++ [c]) = val16 l * 16 + Hx.worth c := by simp [val16]

theorem val16_lt : ∀ (l : List UInt8), (∀ c ∈ l, Hx.worth c < 16) → val16 l < 16 ^ l.length := by
  intro l
  suffices H : ∀ (l : List UInt8) (a n : Nat), a < 16 ^ n → (∀ c ∈ l, Hx.worth c < 16) → l.foldl (fun a c => a * 16 + Hx.worth c) a < 16 ^ (n + l.length) by
    intro h; simpa [val16] using H l 0 0 (by simp) h
  intro l
  induction l with
  | nil => intro a n h _; simpa using h
  | cons c r ih =>
    intro a n h hc
    have hw := hc c (by simp)
    have := ih (a * 16 + Hx.worth c) (n + 1) (by rw [Nat.pow_succ]; omega) (fun x hx => hc x (by simp [hx]))
    simpa [Nat.add_assoc, Nat.add_comm 1] using this

theorem unhex_val : ∀ (n : Nat) (l r : List UInt8) (a : Nat), l.length ≤ n → Hx.unhex l = some r → r.foldl (fun a c => a * 256 + c.toNat) a = l.foldl (fun a c => a * 16 + Hx.worth c) a
  | _, [], r, a, _, h => by simp [Hx.unhex] at h; subst h; rfl
  | _, [_], r, a, _, h => by simp [Hx.unhex] at h
  | 0, _ :: _ :: _, _, _, hn, _ => by simp at hn
  | n + 1, x :: y :: t, r, a, hn, h => by
    simp only [Hx.unhex] at h
    by_cases hw : Hx.worth x < 16 ∧ Hx.worth y < 16
    · rw [if_pos hw] at h
      cases hu : Hx.unhex t with
      | none => simp [hu] at h
      | some q =>
        rw [hu, Option.map_some, Option.some.injEq] at h
        subst h
        simp only [List.foldl_cons]
        rw [unhex_val n t q _ (by simp at hn; omega) hu]
        congr 1
        rw [UInt8.toNat_ofNat', Nat.mod_eq_of_lt (by omega)]
        omega
    · rw [if_neg hw] at h; simp at h

theorem unhex_cut : ∀ (n : Nat) (l r : List UInt8), Hx.unhex l = some r → Hx.unhex (l.take (2 * n)) = some (r.take n) ∧ Hx.unhex (l.drop (2 * n)) = some (r.drop n)
  | 0, l, r, h => by simpa [Hx.unhex] using h
  | n + 1, [], r, h => by simp [Hx.unhex] at h; subst h; simp [Hx.unhex]
  | n + 1, [_], r, h => by simp [Hx.unhex] at h
  | n + 1, x :: y :: t, r, h => by
    simp only [Hx.unhex] at h
    by_cases hw : Hx.worth x < 16 ∧ Hx.worth y < 16
    · rw [if_pos hw] at h
      cases hu : Hx.unhex t with
      | none => simp [hu] at h
      | some q =>
        simp [hu] at h
        subst h
        obtain ⟨h1, h2⟩ := unhex_cut n t q hu
        rw [show 2 * (n + 1) = 2 * n + 1 + 1 from by omega]
        simp only [List.take_succ_cons, List.drop_succ_cons, Hx.unhex]
        rw [if_pos hw, h1, h2]
        simp
    · rw [if_neg hw] at h; simp at h

theorem unhex_mem : ∀ (n : Nat) (l r : List UInt8), l.length ≤ n → Hx.unhex l = some r → ∀ c ∈ l, Hx.worth c < 16
  | _, [], _, _, _ => by simp
  | _, [_], _, _, h => by simp [Hx.unhex] at h
  | 0, _ :: _ :: _, _, hn, _ => by simp at hn
  | n + 1, x :: y :: t, r, hn, h => by
    simp only [Hx.unhex] at h
    by_cases hw : Hx.worth x < 16 ∧ Hx.worth y < 16
    · rw [if_pos hw] at h
      cases hu : Hx.unhex t with
      | none => simp [hu] at h
      | some q =>
        intro c hc
        rcases List.mem_cons.1 hc with rfl | hc
        · exact hw.1
        · rcases List.mem_cons.1 hc with rfl | hc
          · exact hw.2
          · exact unhex_mem n t q (by simp at hn; omega) hu c hc
    · rw [if_neg hw] at h; simp at h

theorem unhex_all : ∀ (n : Nat) (l : List UInt8), l.length ≤ n → l.length % 2 = 0 → (∀ c ∈ l, Hx.worth c < 16) → ∃ r, Hx.unhex l = some r
  | _, [], _, _, _ => ⟨[], rfl⟩
  | _, [_], _, h, _ => by simp at h
  | 0, _ :: _ :: _, hn, _, _ => by simp at hn
  | n + 1, x :: y :: t, hn, h, hc => by
    obtain ⟨q, hq⟩ := unhex_all n t (by simp at hn; omega) (by simp at h; omega) (fun c hm => hc c (by simp [hm]))
    refine ⟨UInt8.ofNat (16 * Hx.worth x + Hx.worth y) :: q, ?_⟩
    simp only [Hx.unhex]
    rw [if_pos ⟨hc x (by simp), hc y (by simp)⟩, hq]
    rfl

/-- What Parse answers, by the digits. -/
theorem parseV_digits {l : List UInt8} (h : l.length = 32) (hc : ∀ c ∈ l, Hx.worth c < 16) :
    parseV l = .tuple #[.agg #[.int .u64 (val16 (l.take 16) : Int), .int .u64 (val16 ((l.drop 16).take 16) : Int)], .int .i64 0] := by
  obtain ⟨r, hr⟩ := unhex_all _ l (Nat.le_refl _) (by omega) hc
  obtain ⟨h1, h2⟩ := unhex_cut 8 l r hr
  obtain ⟨h3, -⟩ := unhex_cut 8 _ _ h2
  rw [parseV_some h hr]
  have e1 : valB (r.take 8) = val16 (l.take 16) := unhex_val _ _ _ 0 (Nat.le_refl _) h1
  have e2 : valB ((r.drop 8).take 8) = val16 ((l.drop 16).take 16) := unhex_val _ _ _ 0 (Nat.le_refl _) h3
  rw [e1, e2]

theorem parseV_bad {l : List UInt8} {c : UInt8} (hc : c ∈ l) (hw : ¬ Hx.worth c < 16) : parseV l = .tuple #[.agg #[.int .u64 0, .int .u64 0], .int .i64 23] := by
  cases hu : Hx.unhex l with
  | none => exact parseV_none hu
  | some r => exact absurd (unhex_mem _ l r (Nat.le_refl _) hu c hc) hw

/-- The two numbers that the document's loop has made of the first j digits. -/
def hiV (l : List UInt8) (j : Nat) : Nat := val16 ((l.take 16).take j)
def loV (l : List UInt8) (j : Nat) : Nat := val16 ((l.drop 16).take (j - 16))

theorem hi_step {l : List UInt8} {j : Nat} (h : j < l.length) (hj : j < 16) : hiV l (j + 1) = hiV l j * 16 + Hx.worth l[j] ∧ loV l (j + 1) = loV l j := by
  constructor
  · unfold hiV
    rw [List.take_succ_eq_append_getElem (by rw [List.length_take]; omega), val16_snoc, List.getElem_take]
  · unfold loV
    rw [show j + 1 - 16 = j - 16 from by omega]

theorem lo_step {l : List UInt8} {j : Nat} (h : j < l.length) (hj : 16 ≤ j) : loV l (j + 1) = loV l j * 16 + Hx.worth l[j] ∧ hiV l (j + 1) = hiV l j := by
  constructor
  · unfold loV
    have e : j + 1 - 16 = (j - 16) + 1 := by omega
    rw [e, List.take_succ_eq_append_getElem (by rw [List.length_drop]; omega), val16_snoc]
    congr 2
    rw [List.getElem_drop]
    congr 1
    omega
  · unfold hiV
    rw [List.take_take, List.take_take, show min (j + 1) 16 = 16 from by omega, show min j 16 = 16 from by omega]

theorem hi_lt {l : List UInt8} {j : Nat} (hc : ∀ c ∈ l.take j, Hx.worth c < 16) : hiV l j < 18446744073709551616 := by
  have h := val16_lt ((l.take 16).take j) (fun c hm => hc c (by rw [List.take_take, Nat.min_comm, ← List.take_take] at hm; exact List.mem_of_mem_take hm))
  have hl : ((l.take 16).take j).length ≤ 16 := by simp; omega
  have : 16 ^ ((l.take 16).take j).length ≤ 16 ^ 16 := Nat.pow_le_pow_right (by decide) hl
  unfold hiV
  omega

theorem lo_lt {l : List UInt8} {j : Nat} (hc : ∀ c ∈ l.take j, Hx.worth c < 16) (hj : j ≤ 32) : loV l j < 18446744073709551616 := by
  have h := val16_lt ((l.drop 16).take (j - 16)) (fun c hm => hc c (by rw [← List.drop_take] at hm; exact List.mem_of_mem_drop hm))
  have hl : ((l.drop 16).take (j - 16)).length ≤ 16 := by simp; omega
  have : 16 ^ ((l.drop 16).take (j - 16)).length ≤ 16 ^ 16 := Nat.pow_le_pow_right (by decide) hl
  unfold loV
  omega

def pw2 (w : World) (x0 x1 : Int) : World :=
  (w.alloc (.cells #[.int .u64 0, .int .u64 0] 27)).alloc (.cells #[.int .u64 x0, .int .u64 x1] 27)

def PaRefRel (w : World) (l : List UInt8) (i : Value) (wr : World) : Prop :=
  ∃ j : Nat, j ≤ 32 ∧ i = .int .i64 (j : Int) ∧ Hid (∀ c ∈ l.take j, Hx.worth c < 16) ∧ wr = pw2 w (hiV l j : Int) (loV l j : Int)

theorem worth_09 {c : UInt8} (h1 : (48 : Int) ≤ c.toNat) (h2 : (c.toNat : Int) ≤ 57) : (Hx.worth c : Int) = (c.toNat : Int) - 48 := by
  unfold Hx.worth; rw [if_pos ⟨by omega, by omega⟩]; omega
theorem worth_af {c : UInt8} (h1 : (97 : Int) ≤ c.toNat) (h2 : (c.toNat : Int) ≤ 102) : (Hx.worth c : Int) = (c.toNat : Int) - 97 + 10 := by
  unfold Hx.worth; rw [if_neg (by omega), if_pos ⟨by omega, by omega⟩]; omega
theorem worth_no {c : UInt8} (h1 : ¬ ((48 : Int) ≤ c.toNat ∧ (c.toNat : Int) ≤ 57)) (h2 : ¬ ((97 : Int) ≤ c.toNat ∧ (c.toNat : Int) ≤ 102)) : ¬ Hx.worth c < 16 := by
  unfold Hx.worth; rw [if_neg (by omega), if_neg (by omega)]; omega

set_option maxHeartbeats 3200000 in
set_option maxRecDepth 100000 in
theorem parseRef_any (s : ByteArray) (w : World) :
    Calls Tryd.prog 22 #[.string s] w fun e w' => e = .returned (parseV s.data.toList) ∧ Below w.heap.size w w' := by
  have hlen : s.data.toList.length = s.size := by show s.data.toList.length = s.data.size; simp
  by_cases h32 : s.size = 32
  · have hne : ((s.size : Int) != 32) = false := by rw [h32]; rfl
    go_enter Tryd.func22, Tryd.ntmps22
    go_wp2
    go_loopw [5] (fun i wr => PaRefRel w s.data.toList i wr) (fun i _ => 32 - (intOf i).toNat)
    case atStart => exact ⟨0, by omega, rfl, fun c hc => by simp at hc, rfl⟩
    case round =>
      obtain ⟨j, hj, rfl, HC, rfl⟩ := hrel
      by_cases hlt : (j : Int) < 32
      · have hjs : j < s.size := by omega
        have hix := fun W => idx_str' s j hjs (j : Int) rfl W
        have hgt : s.data.toList[j]'(by omega) = s[j] := rfl
        have hmem : s[j] ∈ s.data.toList := by rw [← hgt]; exact List.getElem_mem _
        have hnext : Hx.worth s[j] < 16 → ∀ c ∈ s.data.toList.take (j + 1), Hx.worth c < 16 := by
          intro hw c hc
          rw [take_snoc s j hjs] at hc
          rcases List.mem_append.1 hc with hc | hc
          · exact HC.out c hc
          · simp at hc; rw [hc]; exact hw
        have hcases : (j < 16 ∧ (j : Int) / 16 = 0 ∧ (j : Int).tdiv 16 = 0 ∧ hiV s.data.toList (j + 1) = hiV s.data.toList j * 16 + Hx.worth s[j] ∧ loV s.data.toList (j + 1) = loV s.data.toList j) ∨
            (¬ j < 16 ∧ (j : Int) / 16 = 1 ∧ (j : Int).tdiv 16 = 1 ∧ loV s.data.toList (j + 1) = loV s.data.toList j * 16 + Hx.worth s[j] ∧ hiV s.data.toList (j + 1) = hiV s.data.toList j) := by
          by_cases h16 : j < 16
          · have := hi_step (l := s.data.toList) (j := j) (by omega) h16
            rw [hgt] at this
            exact .inl ⟨h16, by omega, by rw [Int.tdiv_eq_ediv_of_nonneg (by omega)]; omega, this⟩
          · have := lo_step (l := s.data.toList) (j := j) (by omega) (by omega)
            rw [hgt] at this
            exact .inr ⟨h16, by omega, by rw [Int.tdiv_eq_ediv_of_nonneg (by omega)]; omega, this⟩
        have hb1 : Hx.worth s[j] < 16 → hiV s.data.toList (j + 1) < 18446744073709551616 := fun h => hi_lt (hnext h)
        have hb2 : Hx.worth s[j] < 16 → loV s.data.toList (j + 1) < 18446744073709551616 := fun h => lo_lt (hnext h) (by omega)
        have hcl := s[j].toNat_lt
        have hcl' : (s[j].toNat : Int) < 256 := by omega
        generalize s[j] = c at *
        have hj0 : (0 : Int) ≤ (j : Int) := by omega
        clear hgt hjs hcl
        by_cases h1 : (48 : Int) ≤ c.toNat
        · by_cases h2 : (c.toNat : Int) ≤ 57
          · have hwd := worth_09 h1 h2
            have hw16 : Hx.worth c < 16 := by omega
            have HNX := aside (hnext hw16)
            have B1 := hb1 hw16
            have B2 := hb2 hw16
            generalize Hx.worth c = d at *
            generalize c.toNat = n at *

            have hs1 : IntKind.u8.wrap ((n : Int) - 48) = (d : Int) := by rw [IntKind.wrap_u8]; omega
            have hs2 : IntKind.i64.wrap (d : Int) = (d : Int) := by rw [IntKind.wrap_i64]; omega

            have hs4 : IntKind.u64.wrap (d : Int) = (d : Int) := by rw [IntKind.wrap_u64]; omega
            rcases hcases with ⟨-, hq1, hq2, hy, hz⟩ | ⟨-, hq1, hq2, hy, hz⟩
            · have hs5 : IntKind.u64.wrap ((hiV s.data.toList j : Nat) * 16 : Int) = (hiV s.data.toList j : Nat) * 16 := by rw [IntKind.wrap_u64]; omega
              have hs6 : IntKind.u64.wrap ((hiV s.data.toList j : Nat) * 16 + (d : Int)) = ((hiV s.data.toList (j + 1) : Nat) : Int) := by rw [IntKind.wrap_u64]; omega
              have HY := aside hy
              have HZ := aside hz
              obtain ⟨y, hyy⟩ : ∃ y, y = hiV s.data.toList (j + 1) := ⟨_, rfl⟩
              rw [← hyy] at hs6
              have HYY := aside hyy
              clear hy hz hyy B1 B2 hwd hw16 hnext hb1 hb2 hmem HC
              generalize hiV s.data.toList j = x at *
              unfold pw2
              go_wp2
              go_roundw
              case rel => exact ⟨j + 1, by omega, by go_num, HNX, by rw [HZ.out, ← HYY.out]; rfl⟩
              case measure => simp [intOf]; omega
            · have hs5 : IntKind.u64.wrap ((loV s.data.toList j : Nat) * 16 : Int) = (loV s.data.toList j : Nat) * 16 := by rw [IntKind.wrap_u64]; omega
              have hs6 : IntKind.u64.wrap ((loV s.data.toList j : Nat) * 16 + (d : Int)) = ((loV s.data.toList (j + 1) : Nat) : Int) := by rw [IntKind.wrap_u64]; omega
              have HY := aside hy
              have HZ := aside hz
              obtain ⟨y, hyy⟩ : ∃ y, y = loV s.data.toList (j + 1) := ⟨_, rfl⟩
              rw [← hyy] at hs6
              have HYY := aside hyy
              clear hy hz hyy B1 B2 hwd hw16 hnext hb1 hb2 hmem HC
              generalize loV s.data.toList j = x at *
              unfold pw2
              go_wp2
              go_roundw
              case rel => exact ⟨j + 1, by omega, by go_num, HNX, by rw [HZ.out, ← HYY.out]; rfl⟩
              case measure => simp [intOf]; omega
          · by_cases h3 : (97 : Int) ≤ c.toNat
            · by_cases h4 : (c.toNat : Int) ≤ 102
              · have hwd := worth_af h3 h4
                have hw16 : Hx.worth c < 16 := by omega
                have HNX := aside (hnext hw16)
                have B1 := hb1 hw16
                have B2 := hb2 hw16
                generalize Hx.worth c = d at *
                generalize c.toNat = n at *

                obtain ⟨e, he⟩ : ∃ e : Nat, (e : Int) = (n : Int) - 97 := ⟨n - 97, by omega⟩
                have hs1 : IntKind.u8.wrap ((n : Int) - 97) = (e : Int) := by rw [IntKind.wrap_u8]; omega
                have hs2 : IntKind.i64.wrap (e : Int) = (e : Int) := by rw [IntKind.wrap_i64]; omega
                have hs3 : IntKind.i64.wrap ((e : Int) + 10) = (d : Int) := by rw [IntKind.wrap_i64]; omega
                have h1' : (48 : Int) ≤ (n : Int) := by omega
                have h2' : ¬ (n : Int) ≤ 57 := by omega

                have hs4 : IntKind.u64.wrap (d : Int) = (d : Int) := by rw [IntKind.wrap_u64]; omega
                rcases hcases with ⟨-, hq1, hq2, hy, hz⟩ | ⟨-, hq1, hq2, hy, hz⟩
                · have hs5 : IntKind.u64.wrap ((hiV s.data.toList j : Nat) * 16 : Int) = (hiV s.data.toList j : Nat) * 16 := by rw [IntKind.wrap_u64]; omega
                  have hs6 : IntKind.u64.wrap ((hiV s.data.toList j : Nat) * 16 + (d : Int)) = ((hiV s.data.toList (j + 1) : Nat) : Int) := by rw [IntKind.wrap_u64]; omega
                  have hs7 : IntKind.u64.wrap ((hiV s.data.toList j : Nat) * 16 + ((n : Int) - 97 + 10)) = ((hiV s.data.toList (j + 1) : Nat) : Int) := by rw [IntKind.wrap_u64]; omega
                  have HY := aside hy
                  have HZ := aside hz
                  obtain ⟨y, hyy⟩ : ∃ y, y = hiV s.data.toList (j + 1) := ⟨_, rfl⟩
                  rw [← hyy] at hs6 hs7
                  have HYY := aside hyy
                  clear hy hz hyy B1 B2 hwd hw16 hnext hb1 hb2 hmem HC
                  generalize hiV s.data.toList j = x at *
                  unfold pw2
                  go_wp2
                  go_roundw
                  case rel => exact ⟨j + 1, by omega, by go_num, HNX, by rw [HZ.out, ← HYY.out]; rfl⟩
                  case measure => simp [intOf]; omega
                · have hs5 : IntKind.u64.wrap ((loV s.data.toList j : Nat) * 16 : Int) = (loV s.data.toList j : Nat) * 16 := by rw [IntKind.wrap_u64]; omega
                  have hs6 : IntKind.u64.wrap ((loV s.data.toList j : Nat) * 16 + (d : Int)) = ((loV s.data.toList (j + 1) : Nat) : Int) := by rw [IntKind.wrap_u64]; omega
                  have hs7 : IntKind.u64.wrap ((loV s.data.toList j : Nat) * 16 + ((n : Int) - 97 + 10)) = ((loV s.data.toList (j + 1) : Nat) : Int) := by rw [IntKind.wrap_u64]; omega
                  have HY := aside hy
                  have HZ := aside hz
                  obtain ⟨y, hyy⟩ : ∃ y, y = loV s.data.toList (j + 1) := ⟨_, rfl⟩
                  rw [← hyy] at hs6 hs7
                  have HYY := aside hyy
                  clear hy hz hyy B1 B2 hwd hw16 hnext hb1 hb2 hmem HC
                  generalize loV s.data.toList j = x at *
                  unfold pw2
                  go_wp2
                  go_roundw
                  case rel => exact ⟨j + 1, by omega, by go_num, HNX, by rw [HZ.out, ← HYY.out]; rfl⟩
                  case measure => simp [intOf]; omega
              · have HV := aside (parseV_bad hmem (worth_no (c := c) (by omega) (by omega)))
                generalize c.toNat = n at *
                clear hnext hb1 hb2 hcases hmem HC
                generalize hiV s.data.toList j = x at *
                generalize loV s.data.toList j = x' at *
                unfold pw2
                go_wp2
                exact bodyPost_ret (v := .tuple #[.agg #[.int .u64 0, .int .u64 0], .int .i64 23]) (by simp [results, Tryd.results22, go_sem]) rfl ⟨by rw [HV.out], (bnew w _).alloc (by simp) _⟩
            · have HV := aside (parseV_bad hmem (worth_no (c := c) (by omega) (by omega)))
              generalize c.toNat = n at *
              clear hnext hb1 hb2 hcases hmem HC
              generalize hiV s.data.toList j = x at *
              generalize loV s.data.toList j = x' at *
              unfold pw2
              go_wp2
              exact bodyPost_ret (v := .tuple #[.agg #[.int .u64 0, .int .u64 0], .int .i64 23]) (by simp [results, Tryd.results22, go_sem]) rfl ⟨by rw [HV.out], (bnew w _).alloc (by simp) _⟩
        · have h3 : ¬ (97 : Int) ≤ c.toNat := by omega
          have HV := aside (parseV_bad hmem (worth_no (c := c) (by omega) (by omega)))
          generalize c.toNat = n at *
          clear hnext hb1 hb2 hcases hmem HC
          generalize hiV s.data.toList j = x at *
          generalize loV s.data.toList j = x' at *
          unfold pw2
          go_wp2
          exact bodyPost_ret (v := .tuple #[.agg #[.int .u64 0, .int .u64 0], .int .i64 23]) (by simp [results, Tryd.results22, go_sem]) rfl ⟨by rw [HV.out], (bnew w _).alloc (by simp) _⟩
      · have hj32 : j = 32 := by omega
        subst hj32
        have hall : ∀ c ∈ s.data.toList, Hx.worth c < 16 := by
          have := HC.out
          rwa [List.take_of_length_le (by omega)] at this
        have HV := aside (parseV_digits (by omega) hall)
        have e1 : hiV s.data.toList 32 = val16 (s.data.toList.take 16) := by unfold hiV; rw [List.take_of_length_le (by rw [List.length_take]; omega)]
        have e2 : loV s.data.toList 32 = val16 ((s.data.toList.drop 16).take 16) := rfl
        rw [← e1, ← e2] at HV
        generalize hiV s.data.toList 32 = v0 at *
        generalize loV s.data.toList 32 = v1 at *
        clear e1 e2 hall HC
        unfold pw2
        go_wp2
        exact bodyPost_ret (v := .tuple #[.agg #[.int .u64 (v0 : Int), .int .u64 (v1 : Int)], .int .i64 0]) (by simp [results, Tryd.results22, go_sem]) rfl ⟨by rw [HV.out], (bnew w _).alloc (by simp) _⟩
  · have hne : ((s.size : Int) != 32) = true := by rw [bne_iff_ne]; omega
    have HV := aside (parseV_len (l := s.data.toList) (by omega))
    clear hlen h32
    go_enter Tryd.func22, Tryd.ntmps22
    go_wp2
    exact bodyPost_ret (v := .tuple #[.agg #[.int .u64 0, .int .u64 0], .int .i64 23]) (by simp [results, Tryd.results22, go_sem]) rfl ⟨by rw [HV.out], (bnew w _)⟩

end Go.Proofs.YtlieljnaecbmdaaDoor
