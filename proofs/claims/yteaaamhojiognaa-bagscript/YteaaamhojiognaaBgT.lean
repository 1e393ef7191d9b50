/-
  Calls on the code's bag and on the document's, beside one another: what they answer and what is kept, by plain states.
-/
import Derived.Test.YteaaamhojiognaaBgQ
namespace Go.Proofs.Yteaaamhojiognaa
open Go.RowKit
set_option linter.unusedVariables false

/-- A bag's state, plain. -/
structure PSt where
  last : Nat
  lost : Nat
  pl : List Pp
instance (f t : Int) : Decidable (NodeOk f t) := by unfold NodeOk; infer_instance
def PSt.lose (s : PSt) : PSt := ⟨s.last, s.lost + 1, s.pl⟩
def PSt.lay (s : PSt) (f t : Int) (L : List UInt8) : PSt := ⟨s.last + 1, s.lost, s.pl ++ [⟨(s.last : Int) + 1, f, t, L⟩]⟩
def PSt.eras (s : PSt) (i : Nat) : PSt := ⟨s.last, s.lost, s.pl.take i ++ s.pl.drop (i + 1)⟩
def layP (room : Nat) (s : PSt) (f t : Int) (L : List UInt8) : Int × PSt := if s.pl.length = room then (0, s.lose) else ((s.last : Int) + 1, s.lay f t L)
def sndP (room : Nat) (s : PSt) (f t : Int) (dl : Nat) (L : List UInt8) : Int × Int × PSt := if NodeOk f t then (if 65536 < dl then (0, 120, s) else ((layP room s f t L).1, 0, (layP room s f t L).2)) else (0, 1, s)
def tkP (s : PSt) (i : Int) : Pp × Int × PSt := if i < 0 ∨ (s.pl.length : Int) ≤ i then (⟨0, 0, 0, []⟩, 161, s) else (s.pl.getD i.toNat ⟨0, 0, 0, []⟩, 0, s.eras i.toNat)
def drP (s : PSt) (i : Int) : Int × PSt := if i < 0 ∨ (s.pl.length : Int) ≤ i then (161, s) else (0, (s.eras i.toNat).lose)
def dbP (room : Nat) (s : PSt) (i : Int) : Int × Int × PSt := if i < 0 ∨ (s.pl.length : Int) ≤ i then (0, 161, s) else ((layP room s (s.pl.getD i.toNat ⟨0, 0, 0, []⟩).frm (s.pl.getD i.toNat ⟨0, 0, 0, []⟩).dst (s.pl.getD i.toNat ⟨0, 0, 0, []⟩).L).1, 0, (layP room s (s.pl.getD i.toNat ⟨0, 0, 0, []⟩).frm (s.pl.getD i.toNat ⟨0, 0, 0, []⟩).dst (s.pl.getD i.toNat ⟨0, 0, 0, []⟩).L).2)
def PSt.le (s : PSt) (k : Nat) : Prop := s.last ≤ k ∧ s.lost ≤ k
theorem PSt.le.up {s : PSt} {k : Nat} (h : s.le k) : s.le (k + 1) := ⟨Nat.le_succ_of_le h.1, Nat.le_succ_of_le h.2⟩
theorem lay_le {s : PSt} {k room : Nat} (h : s.le k) (f t : Int) (L : List UInt8) : (layP room s f t L).2.le (k + 1) := by
  unfold layP
  split
  · exact ⟨Nat.le_succ_of_le h.1, Nat.succ_le_succ h.2⟩
  · exact ⟨Nat.succ_le_succ h.1, Nat.le_succ_of_le h.2⟩
theorem snd_le {s : PSt} {k room : Nat} (h : s.le k) (f t : Int) (dl : Nat) (L : List UInt8) : (sndP room s f t dl L).2.2.le (k + 1) := by
  unfold sndP
  split
  · split
    · exact h.up
    · exact lay_le h f t L
  · exact h.up
theorem tk_le {s : PSt} {k : Nat} (h : s.le k) (i : Int) : (tkP s i).2.2.le (k + 1) := by
  unfold tkP
  split
  · exact h.up
  · exact h.up
theorem dr_le {s : PSt} {k : Nat} (h : s.le k) (i : Int) : (drP s i).2.le (k + 1) := by
  unfold drP
  split
  · exact h.up
  · exact ⟨Nat.le_succ_of_le h.1, Nat.succ_le_succ h.2⟩
theorem db_le {s : PSt} {k room : Nat} (h : s.le k) (i : Int) : (dbP room s i).2.2.le (k + 1) := by
  unfold dbP
  split
  · exact h.up
  · exact lay_le h _ _ _
/-- Both bags, each with its plain state, and the iterators. -/
def SB (E : Nat → Prop) (w0 W : World) (b bR room : Nat) (s t : PSt) (vw : Value) (K : List Wk) : Prop := ∃ v l vR lR, SInv E w0 W b v room s.last s.lost l bR vR t.last t.lost lR vw K ∧ l.map Pk.pl = s.pl ∧ lR.map Pk.pl = t.pl
/-- Other blocks stay. -/
def KO (W W' : World) : Prop := W.heap.size ≤ W'.heap.size ∧ ∀ T, T ≠ 60 → T ≠ 62 → T ≠ 39 → Stay T W W'
theorem KO.of_below {W W' : World} (b : Below W.heap.size W W') : KO W W' := ⟨b.size, fun T _ _ _ => stay_below b⟩
theorem KO.t {A B C : World} (h : KO A B) (k : KO B C) : KO A C := ⟨Nat.le_trans h.1 k.1, fun T h1 h2 h3 => (h.2 T h1 h2 h3).trans (k.2 T h1 h2 h3)⟩
theorem own_ko {W W' : World} (k : KO W W') {B e s n : Nat} {v : Value} {xs : List Value} (h : W.ownsRow B e s v n xs) (h1 : e ≠ 60) (h2 : e ≠ 62) (h3 : e ≠ 39) : W'.ownsRow B e s v n xs := by
  obtain ⟨h4, h5 | ⟨g, cap, cur, e2, hb, hg, r⟩⟩ := h
  · exact ⟨h4, .inl h5⟩
  · exact ⟨h4, .inr ⟨g, cap, cur, e2, hb, k.2 e h1 h2 h3 _ _ hg, r⟩⟩
section
variable {E E' : Nat → Prop} {w0 W W' : World} {b bR room : Nat} {s t : PSt} {vw : Value} {K : List Wk}
theorem SB.on (h : SB E w0 W b bR room s t vw K) (bb : Below W.heap.size W W') : SB E w0 W' b bR room s t vw K := by
  obtain ⟨v, l, vR, lR, h1, h2, h3⟩ := h
  exact ⟨v, l, vR, lR, h1.on bb, h2, h3⟩
theorem SB.bel (h : SB E w0 W b bR room s t vw K) : Below w0.heap.size w0 W := by
  obtain ⟨v, l, vR, lR, h1, h2, h3⟩ := h
  exact h1.bel
theorem SB.row (h : SB E w0 W b bR room s t vw K) : W.ownsRow w0.heap.size 51 2 vw K.length (rowC wkV K) := by
  obtain ⟨v, l, vR, lR, h1, h2, h3⟩ := h
  exact h1.row
theorem SB.excl (h : SB E' w0 W b bR room s t vw K) (hE : ∀ j, E j → W.heap.size ≤ j) : SB E w0 W b bR room s t vw K := by
  obtain ⟨v, l, vR, lR, h1, h2, h3⟩ := h
  exact ⟨v, l, vR, lR, h1.excl hE, h2, h3⟩
theorem SB.weak (h : SB E w0 W b bR room s t vw K) (hE : ∀ j, E' j → E j) : SB E' w0 W b bR room s t vw K := by
  obtain ⟨v, l, vR, lR, h1, h2, h3⟩ := h
  exact ⟨v, l, vR, lR, h1.weak hE, h2, h3⟩
theorem SB.byte (h : SB E w0 W b bR room s t vw K) (kk : Keeps E W W') (hT : ∀ j, E j → ∃ cs, W.heap[j]? = some (.cells cs 5 (0, 0))) (hB : ∀ j, E j → w0.heap.size ≤ j) : SB (fun _ => False) w0 W' b bR room s t vw K := by
  obtain ⟨v, l, vR, lR, h1, h2, h3⟩ := h
  exact ⟨v, l, vR, lR, h1.byte kk hT hB, h2, h3⟩
theorem SInv.koC {v : Value} {last lost : Nat} {l : List Pk} {vR : Value} {lastR lostR : Nat} {lR : List Pk} (h : SInv E w0 W b v room last lost l bR vR lastR lostR lR vw K) (kk : Keeps (BgS b v) W W') : KO W W' :=
  ⟨kk.size, fun T h1 h2 h3 i cs hi => blk_keep hi kk (fun hs => hs.elim (typ_ne hi h.bag.bx h1) (own_typed h.bag.row hi (Ne.symm h3)))⟩
theorem SInv.koR {v : Value} {last lost : Nat} {l : List Pk} {vR : Value} {lastR lostR : Nat} {lR : List Pk} (h : SInv E w0 W b v room last lost l bR vR lastR lostR lR vw K) (kk : Keeps (BgS bR vR) W W') : KO W W' :=
  ⟨kk.size, fun T h1 h2 h3 i cs hi => blk_keep hi kk (fun hs => hs.elim (typ_ne hi h.rb.bx h2) (own_typed h.rb.row hi (Ne.symm h3)))⟩
theorem bgs_b {v : Value} (k : Keeps (fun x => x = b) W W') : Keeps (BgS b v) W W' := k.mono (fun _ _ h => .inl h)

/-- What a call that may lay one more leaves: the code's bag. -/
theorem lay_code {v : Value} {l : List Pk} {vR : Value} {lR : List Pk} (h1 : SInv E w0 W b v room s.last s.lost l bR vR t.last t.lost lR vw K) (h2 : l.map Pk.pl = s.pl) (h3 : lR.map Pk.pl = t.pl) (hE : ∀ j, E j → j < W.heap.size) {f d n : Int} {L : List UInt8} (kk : Keeps (BgS b v) W W') (ha : AddSayK W w0.heap.size b v room s.last s.lost l f d L (.returned (.int .i64 n)) W') :
    n = (layP room s f d L).1 ∧ SB E w0 W' b bR room (layP room s f d L).2 t vw K := by
  have hl : s.pl.length = l.length := by rw [← h2, List.length_map]
  unfold layP
  rcases ha with ⟨e, en, hb⟩ | ⟨e, en, v', p', hp, hd, hb, hs⟩
  · rw [if_pos (by rw [hl]; exact e)]
    injection en with en
    injection en with _ en
    exact ⟨en, v, l, vR, lR, h1.turnC kk hb (.inl ⟨rfl, List.prefix_refl _⟩) h1.exl, h2, h3⟩
  · rw [if_neg (by rw [hl]; omega)]
    injection en with en
    injection en with _ en
    refine ⟨en, v', l ++ [p'], vR, lR, h1.turnC kk hb ?_ (fun p hm j hj he => ?_), ?_, h3⟩
    · rcases hs with e | ⟨⟨g, e, hg⟩, kb⟩
      · exact .inl ⟨e, List.prefix_append _ _⟩
      · refine .inr ⟨fun g' e' => ?_, kb⟩
        rw [e] at e'
        injection e' with e'
        omega
    · rcases List.mem_append.1 hm with hm | hm
      · exact h1.exl p hm j hj he
      · rcases List.mem_singleton.1 hm with rfl
        have h5 := (hd.1.lt j hj).1
        have h6 := hE j he
        omega
    · rw [List.map_append, h2]
      show s.pl ++ [Pk.pl p'] = _
      rw [hp]
      rfl
/-- The same: the document's. -/
theorem lay_ref {W1 : World} {v : Value} {l : List Pk} {vR : Value} {lR : List Pk} (h1 : SInv E w0 W b v room s.last s.lost l bR vR t.last t.lost lR vw K) (h2 : l.map Pk.pl = s.pl) (h3 : lR.map Pk.pl = t.pl) (hE : ∀ j, E j → j < W.heap.size) {f d n : Int} {L : List UInt8} (kk : Keeps (BgS bR vR) W W') (hW : W.heap.size ≤ W1.heap.size) (ha : LaySay W1 w0.heap.size bR vR room t.last t.lost lR f d L (.returned (.int .i64 n)) W') :
    n = (layP room t f d L).1 ∧ SB E w0 W' b bR room s (layP room t f d L).2 vw K := by
  have hl : t.pl.length = lR.length := by rw [← h3, List.length_map]
  unfold layP
  rcases ha with ⟨e, en, hb⟩ | ⟨e, en, v', p', hp, hd, hb, hs⟩
  · rw [if_pos (by rw [hl]; exact e)]
    injection en with en
    injection en with _ en
    exact ⟨en, v, l, vR, lR, h1.turnR kk hb (fun j hj => .inl hj) h1.exr, h2, h3⟩
  · rw [if_neg (by rw [hl]; omega)]
    injection en with en
    injection en with _ en
    refine ⟨en, v, l, v', lR ++ [p'], h1.turnR kk hb (fun j hj => ?_) (fun p hm x hx he => ?_), h2, ?_⟩
    · rcases hs with e | ⟨g, e, hg⟩
      · exact .inl (e ▸ hj)
      · rw [e] at hj
        injection hj with hj
        exact .inr (by omega)
    · rcases List.mem_append.1 hm with hm | hm
      · exact h1.exr p hm x hx he
      · rcases List.mem_singleton.1 hm with rfl
        have h5 := hd.ge hx
        have h6 := hE _ he
        omega
    · rw [List.map_append, h3]
      show t.pl ++ [Pk.pl p'] = _
      rw [hp]
      rfl
theorem c_send (h : SB E w0 W b bR room s t vw K) (hE : ∀ j, E j → j < W.heap.size) (f d : Int) (a : Option Addr) (len cap : Nat) (L : List UInt8) (hi : ByIn W a len cap L) (hf : ∀ x, a = some x → ∃ cs, W.heap[x.block]? = some (.cells cs 5 (0, 0))) {k : Nat} (hk : s.le k) (hk2 : k ≤ 4611686018427387904) :
    Calls Try.prog 11 #[.pointer (some ⟨b, 0, none⟩), .int .i64 f, .int .i64 d, .slice a len cap] W fun e w' => e = .returned (.tuple #[.int .i64 (sndP room s f d len L).1, .int .i64 (sndP room s f d len L).2.1]) ∧ SB E w0 w' b bR room (sndP room s f d len L).2.2 t vw K ∧ KO W w' := by
  obtain ⟨v, l, vR, lR, h1, h2, h3⟩ := id h
  unfold sndP
  by_cases hno : NodeOk f d
  · by_cases hbig : 65536 < len
    · refine (bsend_big b f d a len cap hno hbig W).mono ?_
      rintro e w' ⟨rfl, rfl⟩
      rw [if_pos hno, if_pos hbig]
      exact ⟨rfl, h, KO.of_below (Below.refl _ _)⟩
    · refine (bsend_keep h1.bag f d a len cap L hno (by omega) hi (fun _ x hx hs => ?_) (Nat.le_trans hk.1 hk2) (Nat.le_trans hk.2 hk2) h1.bel.size).mono ?_
      · obtain ⟨cs, hc⟩ := hf x hx
        exact hs.elim (typ_ne hc h1.bag.bx (by decide)) (own_typed h1.bag.row hc (by decide))
      · rintro e w' ⟨n, rfl, kk, ha⟩
        obtain ⟨rfl, hb⟩ := lay_code h1 h2 h3 hE kk ha
        rw [if_pos hno, if_neg hbig]
        exact ⟨rfl, hb, h1.koC kk⟩
  · refine (bsend_arg b f d a len cap hno W).mono ?_
    rintro e w' ⟨rfl, rfl⟩
    rw [if_neg hno]
    exact ⟨rfl, h, KO.of_below (Below.refl _ _)⟩
theorem r_send (h : SB E w0 W b bR room s t vw K) (hE : ∀ j, E j → j < W.heap.size) (f d : Int) (a : Option Addr) (len cap : Nat) (L : List UInt8) (hi : ByIn W a len cap L) {k : Nat} (hk : t.le k) (hk2 : k ≤ 4611686018427387904) :
    Calls Try.prog 12 #[.pointer (some ⟨bR, 0, none⟩), .int .i64 f, .int .i64 d, .slice a len cap] W fun e w' => e = .returned (.tuple #[.int .i64 (sndP room t f d len L).1, .int .i64 (sndP room t f d len L).2.1]) ∧ SB E w0 w' b bR room s (sndP room t f d len L).2.2 vw K ∧ KO W w' := by
  obtain ⟨v, l, vR, lR, h1, h2, h3⟩ := id h
  unfold sndP
  by_cases hno : NodeOk f d
  · by_cases hbig : 65536 < len
    · refine (rsend_big bR f d a len cap hno hbig W).mono ?_
      rintro e w' ⟨rfl, rfl⟩
      rw [if_pos hno, if_pos hbig]
      exact ⟨rfl, h, KO.of_below (Below.refl _ _)⟩
    · refine (rsend_ok h1.rb f d a len cap L hno (by omega) hi (Nat.le_trans hk.1 hk2) (Nat.le_trans hk.2 hk2) h1.bel.size).mono ?_
      rintro e w' ⟨n, rfl, kk, ha⟩
      obtain ⟨rfl, hb⟩ := lay_ref h1 h2 h3 hE kk (Nat.le_refl _) ha
      rw [if_pos hno, if_neg hbig]
      exact ⟨rfl, hb, h1.koR kk⟩
  · refine (rsend_arg bR f d a len cap hno W).mono ?_
    rintro e w' ⟨rfl, rfl⟩
    rw [if_neg hno]
    exact ⟨rfl, h, KO.of_below (Below.refl _ _)⟩
theorem pl_at {l : List Pk} (h2 : l.map Pk.pl = s.pl) {i : Nat} {p : Pk} (hp : l[i]? = some p) : s.pl.getD i ⟨0, 0, 0, []⟩ = Pk.pl p := by
  rw [← h2, List.getD_eq_getElem?_getD, List.getElem?_map, hp]
  rfl
theorem pl_eras {l : List Pk} (h2 : l.map Pk.pl = s.pl) (i : Nat) : (l.take i ++ l.drop (i + 1)).map Pk.pl = (s.eras i).pl := by
  rw [List.map_append, List.map_take, List.map_drop, h2]
  rfl
theorem mem_eras {α : Type} {l : List α} {i : Nat} {x : α} (h : x ∈ l.take i ++ l.drop (i + 1)) : x ∈ l := (List.mem_append.1 h).elim List.mem_of_mem_take List.mem_of_mem_drop
theorem c_double (h : SB E w0 W b bR room s t vw K) (hE : ∀ j, E j → j < W.heap.size) (i : Int) {k : Nat} (hk : s.le k) (hk2 : k ≤ 4611686018427387904) :
    Calls Try.prog 18 #[.pointer (some ⟨b, 0, none⟩), .int .i64 i] W fun e w' => e = .returned (.tuple #[.int .i64 (dbP room s i).1, .int .i64 (dbP room s i).2.1]) ∧ SB E w0 w' b bR room (dbP room s i).2.2 t vw K ∧ KO W w' := by
  obtain ⟨v, l, vR, lR, h1, h2, h3⟩ := id h
  have hl : s.pl.length = l.length := by rw [← h2, List.length_map]
  unfold dbP
  by_cases hno : i < 0 ∨ (s.pl.length : Int) ≤ i
  · refine (bdouble_no h1.bag i (by rw [← hl]; exact hno)).mono ?_
    rintro e w' ⟨rfl, rfl⟩
    rw [if_pos hno]
    exact ⟨rfl, h, KO.of_below (Below.refl _ _)⟩
  · rw [if_neg hno]
    obtain ⟨i, rfl⟩ : ∃ j : Nat, i = (j : Int) := ⟨i.toNat, by omega⟩
    obtain ⟨p, hp⟩ : ∃ p, l[i]? = some p := ⟨l[i]'(by omega), List.getElem?_eq_getElem _⟩
    rw [Int.toNat_natCast, pl_at h2 hp]
    refine (bdouble_keep h1.bag i p hp (Nat.le_trans hk.1 hk2) (Nat.le_trans hk.2 hk2) h1.bel.size).mono ?_
    rintro e w' ⟨n, rfl, kk, ha⟩
    obtain ⟨rfl, hb⟩ := lay_code h1 h2 h3 hE kk ha
    exact ⟨rfl, hb, h1.koC kk⟩
theorem r_double (h : SB E w0 W b bR room s t vw K) (hE : ∀ j, E j → j < W.heap.size) (i : Int) {k : Nat} (hk : t.le k) (hk2 : k ≤ 4611686018427387904) :
    Calls Try.prog 19 #[.pointer (some ⟨bR, 0, none⟩), .int .i64 i] W fun e w' => e = .returned (.tuple #[.int .i64 (dbP room t i).1, .int .i64 (dbP room t i).2.1]) ∧ SB E w0 w' b bR room s (dbP room t i).2.2 vw K ∧ KO W w' := by
  obtain ⟨v, l, vR, lR, h1, h2, h3⟩ := id h
  have hl : t.pl.length = lR.length := by rw [← h3, List.length_map]
  unfold dbP
  by_cases hno : i < 0 ∨ (t.pl.length : Int) ≤ i
  · refine (rdouble_no h1.rb i (by rw [← hl]; exact hno)).mono ?_
    rintro e w' ⟨rfl, rfl⟩
    rw [if_pos hno]
    exact ⟨rfl, h, KO.of_below (Below.refl _ _)⟩
  · rw [if_neg hno]
    obtain ⟨i, rfl⟩ : ∃ j : Nat, i = (j : Int) := ⟨i.toNat, by omega⟩
    obtain ⟨p, hp⟩ : ∃ p, lR[i]? = some p := ⟨lR[i]'(by omega), List.getElem?_eq_getElem _⟩
    rw [Int.toNat_natCast, pl_at h3 hp]
    refine (rdouble_yes h1.rb i p hp (Nat.le_trans hk.1 hk2) (Nat.le_trans hk.2 hk2) h1.bel.size).mono ?_
    rintro e w' ⟨n, rfl, kk, W1, hW, ha⟩
    obtain ⟨rfl, hb⟩ := lay_ref h1 h2 h3 hE kk hW.size ha
    exact ⟨rfl, hb, h1.koR kk⟩
theorem c_drop (h : SB E w0 W b bR room s t vw K) (i : Int) {k : Nat} (hk : s.le k) (hk2 : k ≤ 4611686018427387904) :
    Calls Try.prog 16 #[.pointer (some ⟨b, 0, none⟩), .int .i64 i] W fun e w' => e = .returned (.int .i64 (drP s i).1) ∧ SB E w0 w' b bR room (drP s i).2 t vw K ∧ KO W w' := by
  obtain ⟨v, l, vR, lR, h1, h2, h3⟩ := id h
  have hl : s.pl.length = l.length := by rw [← h2, List.length_map]
  unfold drP
  by_cases hno : i < 0 ∨ (s.pl.length : Int) ≤ i
  · refine (bdrop_no h1.bag i (by rw [← hl]; exact hno)).mono ?_
    rintro e w' ⟨rfl, rfl⟩
    rw [if_pos hno]
    exact ⟨rfl, h, KO.of_below (Below.refl _ _)⟩
  · rw [if_neg hno]
    obtain ⟨i, rfl⟩ : ∃ j : Nat, i = (j : Int) := ⟨i.toNat, by omega⟩
    rw [Int.toNat_natCast]
    refine (bdrop_keep h1.bag i (by omega) (Nat.le_trans hk.2 hk2) h1.bel.size).mono ?_
    rintro e w' ⟨rfl, v', hb, kk, hv⟩
    exact ⟨rfl, ⟨v', _, vR, lR, h1.turnC (bgs_b kk) hb (.inr ⟨hv, kk⟩) (fun p hp => h1.exl p (mem_eras hp)), pl_eras h2 i, h3⟩, h1.koC (bgs_b kk)⟩
theorem r_drop (h : SB E w0 W b bR room s t vw K) (i : Int) {k : Nat} (hk : t.le k) (hk2 : k ≤ 4611686018427387904) :
    Calls Try.prog 17 #[.pointer (some ⟨bR, 0, none⟩), .int .i64 i] W fun e w' => e = .returned (.int .i64 (drP t i).1) ∧ SB E w0 w' b bR room s (drP t i).2 vw K ∧ KO W w' := by
  obtain ⟨v, l, vR, lR, h1, h2, h3⟩ := id h
  have hl : t.pl.length = lR.length := by rw [← h3, List.length_map]
  unfold drP
  by_cases hno : i < 0 ∨ (t.pl.length : Int) ≤ i
  · refine (rdrop_no h1.rb i (by rw [← hl]; exact hno)).mono ?_
    rintro e w' ⟨rfl, hb⟩
    rw [if_pos hno]
    exact ⟨rfl, h.on hb, KO.of_below hb⟩
  · rw [if_neg hno]
    obtain ⟨i, rfl⟩ : ∃ j : Nat, i = (j : Int) := ⟨i.toNat, by omega⟩
    rw [Int.toNat_natCast]
    refine (rdrop_yes h1.rb i (by omega) (Nat.le_trans hk.2 hk2) h1.bel.size).mono ?_
    rintro e w' ⟨rfl, v', hb, kk, hv⟩
    exact ⟨rfl, ⟨v, l, v', _, h1.turnR kk hb (fun j hj => .inr (hv j hj)) (fun p hp => h1.exr p (mem_eras hp)), h2, pl_eras h3 i⟩, h1.koR kk⟩
theorem c_take (h : SB (fun _ => False) w0 W b bR room s t vw K) (i : Int) :
    Calls Try.prog 13 #[.pointer (some ⟨b, 0, none⟩), .int .i64 i] W fun e w' => ∃ p : Pk, e = .returned (.tuple #[Pk.v p, .int .i64 (tkP s i).2.1]) ∧ Pk.pl p = (tkP s i).1 ∧ Dat W.heap.size w' p ∧ SB (fun j => pkOwn p = some j) w0 w' b bR room (tkP s i).2.2 t vw K ∧ KO W w' := by
  obtain ⟨v, l, vR, lR, h1, h2, h3⟩ := id h
  have hl : s.pl.length = l.length := by rw [← h2, List.length_map]
  unfold tkP
  by_cases hno : i < 0 ∨ (s.pl.length : Int) ≤ i
  · refine (btake_no h1.bag i (by rw [← hl]; exact hno)).mono ?_
    rintro e w' ⟨rfl, hb⟩
    rw [if_pos hno]
    exact ⟨⟨0, 0, 0, none, 0, 0, []⟩, rfl, rfl, ⟨⟨rfl, .inl ⟨rfl, rfl⟩⟩, Nat.zero_le _⟩, (h.on hb).excl (fun j hj => by cases hj), KO.of_below hb⟩
  · rw [if_neg hno]
    obtain ⟨i, rfl⟩ : ∃ j : Nat, i = (j : Int) := ⟨i.toNat, by omega⟩
    obtain ⟨p, hp⟩ : ∃ p, l[i]? = some p := ⟨l[i]'(by omega), List.getElem?_eq_getElem _⟩
    rw [Int.toNat_natCast, pl_at h2 hp]
    refine (btake_keep h1.bag i p hp h1.bel.size).mono ?_
    rintro e w' ⟨p', rfl, hpp, hd, v', hb, kk, hv⟩
    have h4 := h1.excl (E := fun j => pkOwn p' = some j) (fun j hj => (hd.1.lt j hj).1)
    exact ⟨p', rfl, hpp, hd, ⟨v', _, vR, lR, h4.turnC (bgs_b kk) hb (.inr ⟨hv, kk⟩) (fun q hq => h4.exl q (mem_eras hq)), pl_eras h2 i, h3⟩, h1.koC (bgs_b kk)⟩
theorem r_take {W1 : World} (h : SB E w0 W1 b bR room s t vw K) (bb : Below W1.heap.size W1 W) (i : Int) :
    Calls Try.prog 14 #[.pointer (some ⟨bR, 0, none⟩), .int .i64 i] W fun e w' => ∃ p : Pk, e = .returned (.tuple #[Pk.v p, .int .i64 (tkP t i).2.1]) ∧ Pk.pl p = (tkP t i).1 ∧ ByIn w' p.da p.dl p.dc p.L ∧ SB E w0 w' b bR room s (tkP t i).2.2 vw K ∧ KO W w' ∧ ∀ i, W1.heap.size ≤ i → i < W.heap.size → w'.heap[i]? = W.heap[i]? := by
  obtain ⟨v, l, vR, lR, h0, h2, h3⟩ := id h
  have h1 := h0.on bb
  have hl : t.pl.length = lR.length := by rw [← h3, List.length_map]
  unfold tkP
  by_cases hno : i < 0 ∨ (t.pl.length : Int) ≤ i
  · refine (rtake_no h1.rb i (by rw [← hl]; exact hno)).mono ?_
    rintro e w' ⟨rfl, hb⟩
    rw [if_pos hno]
    exact ⟨⟨0, 0, 0, none, 0, 0, []⟩, rfl, rfl, ⟨rfl, Nat.le_refl _, Nat.zero_le _, .inl ⟨rfl, rfl, rfl⟩⟩, (h.on bb).on hb, KO.of_below hb, fun i _ hi => hb.block i hi⟩
  · rw [if_neg hno]
    obtain ⟨i, rfl⟩ : ∃ j : Nat, i = (j : Int) := ⟨i.toNat, by omega⟩
    obtain ⟨p, hp⟩ : ∃ p, lR[i]? = some p := ⟨lR[i]'(by omega), List.getElem?_eq_getElem _⟩
    rw [Int.toNat_natCast, pl_at h3 hp]
    refine (rtake_yes h1.rb i p hp h1.bel.size).mono ?_
    rintro e w' ⟨rfl, hd, v', hb, kk, hv⟩
    refine ⟨p, rfl, rfl, hd.1, ⟨v, l, v', _, h1.turnR kk hb (fun j hj => .inr (hv j hj)) (fun q hq => h1.exr q (mem_eras hq)), h2, pl_eras h3 i⟩, h1.koR kk, fun j h4 h5 => kk.block j h5 (fun hs => ?_)⟩
    rcases hs with e | e
    · have := lt_of_blk h0.rb.bx; omega
    · have := (h0.rb.row.lt j e).2; omega
theorem c_len (h : SB E w0 W b bR room s t vw K) : Calls Try.prog 23 #[.pointer (some ⟨b, 0, none⟩)] W fun e w' => e = .returned (.int .i64 (s.pl.length : Int)) ∧ w' = W := by
  obtain ⟨v, l, vR, lR, h1, h2, h3⟩ := h
  rw [← h2, List.length_map]
  exact blen_any h1.bag
theorem c_lost (h : SB E w0 W b bR room s t vw K) : Calls Try.prog 25 #[.pointer (some ⟨b, 0, none⟩)] W fun e w' => e = .returned (.int .i64 (s.lost : Int)) ∧ w' = W := by
  obtain ⟨v, l, vR, lR, h1, h2, h3⟩ := h
  exact blost_any h1.bag
theorem r_len (h : SB E w0 W b bR room s t vw K) : Calls Try.prog 24 #[.pointer (some ⟨bR, 0, none⟩)] W fun e w' => e = .returned (.int .i64 (t.pl.length : Int)) ∧ w' = W := by
  obtain ⟨v, l, vR, lR, h1, h2, h3⟩ := h
  rw [← h3, List.length_map]
  exact rlen_any h1.rb
theorem r_lost (h : SB E w0 W b bR room s t vw K) : Calls Try.prog 26 #[.pointer (some ⟨bR, 0, none⟩)] W fun e w' => e = .returned (.int .i64 (t.lost : Int)) ∧ w' = W := by
  obtain ⟨v, l, vR, lR, h1, h2, h3⟩ := h
  exact rlost_any h1.rb
theorem c_all (h : SB E w0 W b bR room s t vw K) : Calls Try.prog 20 #[.pointer (some ⟨b, 0, none⟩)] W fun e w' => Below W.heap.size W w' ∧ ∃ u, e = .returned (.func (.func 34) #[] #[.pointer (some ⟨u, 0, none⟩)]) ∧ W.heap.size ≤ u ∧ ∃ v l vR lR a c, v = .slice a l.length c ∧ SInv E w0 W b v room s.last s.lost l bR vR t.last t.lost lR vw K ∧ l.map Pk.pl = s.pl ∧ lR.map Pk.pl = t.pl ∧ w'.heap[u]? = some (.cells #[.slice a l.length l.length] 48 (0, 0)) := by
  obtain ⟨v, l, vR, lR, h1, h2, h3⟩ := h
  refine (ball_any h1.bag).mono ?_
  rintro e w' ⟨hb, u, a, c, hv, rfl, hu, hc⟩
  exact ⟨hb, u, rfl, hu, v, l, vR, lR, a, c, hv, h1, h2, h3, hc⟩
end
end Go.Proofs.Yteaaamhojiognaa
