/-
  isNode, Held and Both of the code's ghost: lists cloned.
-/
import Derived.Test.YtfkdhambbpkmpaaGuA
namespace Go.Proofs.Ytfkdhambbpkmpaa
open Go.RowKit
set_option linter.unusedVariables false

theorem entsG_of {w : World} {B n c : Nat} {a : Option Addr} {l : List En} (h : w.ownsRow B 31 5 (.slice a n c) n (entCells l)) (hk : KeysOk l) : ∃ T, EntsIn w a n c T ∧ firstE T n = l ∧ ((a = none ∧ n = 0 ∧ c = 0) ∨ ∃ y, a = some y) := by
  have hl : l.length = n := by have := h.1; rw [entCells_length] at this; omega
  obtain ⟨a', c', e, hn, hm, hform⟩ := own_slice h
  injection e with e1 _ e3
  subst e1 e3
  refine ⟨nthE l, ?_, by rw [← hl]; exact firstE_nth l, ?_⟩
  · rcases hform with ⟨rfl, rfl, rfl⟩ | ⟨g, rfl, hb⟩
    · exact ⟨Nat.le_refl _, Nat.zero_le _, .inl rfl⟩
    · have := ents_of_row h hk (o := 0) (m := n) (c := c) (by omega) hn hm (a := some ⟨g, 0, none⟩) (.inr (by simp))
      simpa using this
  · rcases hform with h1 | ⟨g, rfl, hb⟩
    · exact .inl h1
    · exact .inr ⟨_, rfl⟩
theorem mapKeys {l : List En} (h : MapL l) : KeysOk l := fun e he => by have := (chk_pos (h.chk e he)).2.1; omega
set_option maxHeartbeats 1600000 in
theorem gisnode_any (n : Int) (w : World) : Calls Try.prog 23 #[.int .i64 n] w fun e w' => e = .returned (.bool (decide (0 ≤ n ∧ n < 8))) ∧ w' = w := by
  by_cases h1 : 0 ≤ n
  · by_cases h2 : n < 8
    · rw [decide_eq_true (show 0 ≤ n ∧ n < 8 from ⟨h1, h2⟩)]
      go_enter Try.func23, Try.ntmps23
      go_wp2
      go_ret
      exact ⟨rfl, rfl⟩
    · rw [decide_eq_false (show ¬ (0 ≤ n ∧ n < 8) from fun h => h2 h.2)]
      go_enter Try.func23, Try.ntmps23
      go_wp2
      go_ret
      exact ⟨rfl, rfl⟩
  · rw [decide_eq_false (show ¬ (0 ≤ n ∧ n < 8) from fun h => h1 h.1)]
    go_enter Try.func23, Try.ntmps23
    go_wp2
    go_ret
    exact ⟨rfl, rfl⟩
/-- What a call hands out: a list of its own. -/
def Gvs (w : World) (n : Nat) (l : List En) (e : Ending) (w' : World) : Prop := ∃ a c, e = .returned (.slice a n c) ∧ w'.ownsRow w.heap.size 31 5 (.slice a n c) n (entCells l) ∧ Below w.heap.size w w'
set_option maxHeartbeats 1600000 in
theorem gclone_any (a : Option Addr) (n c : Nat) (T : Nat → En) (w : World) (h : EntsIn w a n c T) (hform : (a = none ∧ n = 0 ∧ c = 0) ∨ ∃ y, a = some y) (hn : n ≤ 2147483648) :
    Calls Try.prog 24 #[.slice a n c] w fun e w' => Gvs w n (firstE T n) e w' := by
  rcases hform with ⟨rfl, rfl, rfl⟩ | ⟨y, rfl⟩
  · have hnil : ∀ w, (binOp .eql 32 (.slice none 0 0) (.slice none 0 0)).run Try.prog w = .ok (.bool true) w := fun w => by kernel_rfl
    have FIN := aside (show w.ownsRow w.heap.size 31 5 (.slice none 0 0) 0 (entCells (firstE T 0)) from ⟨rfl, .inl ⟨rfl, rfl⟩⟩)
    clear h hn
    go_enter Try.func24, Try.ntmps24
    go_wp2
    go_ret
    exact ⟨_, _, rfl, FIN.out, Below.refl _ _⟩
  · have HL := aside h
    have HN := aside hn
    have BE := aside (bnew w (.cells #[] 31))
    have OE := aside (own_emptyE w w.heap.size (Nat.le_refl _))
    have hnil : ∀ w, (binOp .eql 32 (.slice (some y) n c) (.slice none 0 0)).run Try.prog w = .ok (.bool false) w := fun w => by kernel_rfl
    clear h hn
    go_enter Try.func24, Try.ntmps24
    go_wp2_with (at_builtin; go_loud (refine wpList_plain rfl fun K hK => op_append_entsG _ _ rfl w.heap.size 0 _ [] (by rfl) OE.out (some y) n c n T (by rfl) (HL.out.keep BE.out) (.inr ⟨y, rfl⟩) (by omega) (by have := HN.out; omega) (by simp) ?_); intro a3 c3 w3 own3 gr3; refine hK _ _ ?_; refine Hid.out ?_)
    refine aside ?_
    have B3 := aside (BE.out.grown gr3 (by simp) (fun k e => (OE.out.lt k e).1))
    have O3 := aside (show w3.ownsRow w.heap.size 31 5 (.slice a3 n c3) n (entCells (firstE T n)) from own3)
    clear own3 gr3 OE BE
    go_wp2
    go_ret
    exact ⟨_, _, rfl, O3.out, B3.out⟩
/-- What a node held, by any number. -/
def heldG (H : Nat → Hd) (node : Int) : Hd := if 0 ≤ node ∧ node < 8 then H node.toNat else hd0
theorem Gh.one {w : World} {B p m N : Nat} {L : List En} {H : Nat → Hd} (h : Gh w B p m N L H) (node : Int) : w.ownsRow B 31 5 (heldG H node).v (heldG H node).n (entCells (heldG H node).l) ∧ MapL (heldG H node).l ∧ (heldG H node).n ≤ 1073741824 := by
  unfold heldG
  split
  · exact ⟨h.held _ (by omega), h.maps _ (by omega), h.sz _ (by omega)⟩
  · exact ⟨⟨rfl, .inl ⟨rfl, rfl⟩⟩, MapL.nil, Nat.zero_le _⟩
set_option maxHeartbeats 3200000 in
theorem gheld_any {w : World} {B p m N : Nat} {L : List En} {H : Nat → Hd} (h : Gh w B p m N L H) (node : Int) : Calls Try.prog 10 #[.pointer (some ⟨p, 0, none⟩), .int .i64 node] w fun e w' => Gvs w (heldG H node).n (heldG H node).l e w' := by
  have ND := aside (gisnode_any node w)
  by_cases hn : 0 ≤ node ∧ node < 8
  · have hg : heldG H node = H node.toNat := by unfold heldG; rw [if_pos hn]
    rw [decide_eq_true hn] at ND
    rw [hg]
    obtain ⟨i, rfl⟩ : ∃ i : Nat, node = (i : Int) := ⟨node.toNat, by omega⟩
    rw [Int.toNat_natCast]
    have hi : i < 8 := by omega
    have c0 := h.cellH i hi
    obtain ⟨T, hE, hT, hf⟩ := entsG_of (h.held i hi) (mapKeys (h.maps i hi))
    have CL := aside (gclone_any (H i).a (H i).n (H i).c T w hE hf (by have := h.sz i hi; omega))
    rw [hT] at CL
    have hi0 : (0 : Int) ≤ (i : Int) := by omega
    have hi8 : (i : Int) < 8 := by omega
    unfold Hd.v at c0
    generalize H i = hd at *
    clear h hE hT hf hn hg hi
    go_enter Try.func10, Try.ntmps10
    go_wp2_with fail
    refine ND.out.mono ?_
    rintro e w' ⟨rfl, rfl⟩
    go_wp2_with fail
    refine CL.out.mono ?_
    rintro e w' ⟨a', c', rfl, ho, hb⟩
    have HO := aside ho
    have HB := aside hb
    clear ho hb
    go_wp2
    go_ret
    exact ⟨_, _, rfl, HO.out, HB.out⟩
  · have hg : heldG H node = hd0 := by unfold heldG; rw [if_neg hn]
    rw [decide_eq_false hn] at ND
    rw [hg]
    clear h hg hn
    go_enter Try.func10, Try.ntmps10
    go_wp2_with fail
    refine ND.out.mono ?_
    rintro e w' ⟨rfl, rfl⟩
    go_wp2
    go_ret
    exact ⟨none, 0, rfl, ⟨rfl, .inl ⟨rfl, rfl⟩⟩, Below.refl _ _⟩
/-- What Both hands out of maps. -/
def BothG (w : World) (l : List (En × En)) (e : Ending) (w' : World) : Prop := ∃ (Ba : Nat) (a : Option Addr) (la ca : Nat) (A : Nat → En) (b : Option Addr) (lb cb : Nat) (B : Nat → En), e = .returned (.func (.func 37) #[] #[.pointer (some ⟨Ba, 0, none⟩), .pointer (some ⟨Ba + 1, 0, none⟩)]) ∧
  SD Ba (Ba + 1) a la ca A b lb cb B w' ∧ prs (firstE A la) (firstE B lb) = l ∧ Below w.heap.size w w'
set_option maxHeartbeats 3200000 in
theorem gboth_any (a : Option Addr) (la ca : Nat) (A : Nat → En) (b : Option Addr) (lb cb : Nat) (B : Nat → En) (w : World) (hA : EntsIn w a la ca A) (hB : EntsIn w b lb cb B) (fa : (a = none ∧ la = 0 ∧ ca = 0) ∨ ∃ y, a = some y) (fb : (b = none ∧ lb = 0 ∧ cb = 0) ∨ ∃ y, b = some y) (ha : la ≤ 2147483648) (hb : lb ≤ 2147483648) (hq : ck2 A la B lb = 0) :
    Calls Try.prog 28 #[.slice a la ca, .slice b lb cb] w fun e w' => BothG w (prs (firstE A la) (firstE B lb)) e w' := by
  have CK := aside (mchk2_any a la ca A b lb cb B w hA hB)
  rw [hq] at CK
  obtain ⟨mA, mB⟩ := ck2_ok.1 hq
  have KA := aside (mapKeys mA)
  have KB := aside (mapKeys mB)
  have CA := aside (fun (W : World) (bb : Below w.heap.size w W) => gclone_any a la ca A W (hA.keep bb) fa ha)
  have CB := aside (fun (W : World) (bb : Below w.heap.size w W) => gclone_any b lb cb B W (hB.keep bb) fb hb)
  clear hA hB fa fb ha hb hq mA mB
  go_enter Try.func28, Try.ntmps28
  go_wp2_with fail
  refine CK.out.mono ?_
  rintro e w1 ⟨rfl, b1⟩
  have B1 := aside b1
  clear b1 CK
  go_wp2_with fail
  refine (CA.out _ B1.out).mono ?_
  rintro e w2 ⟨a2, c2, rfl, o2, b2⟩
  have B2 := aside (bthen B1.out b2)
  have O2 := aside o2
  clear o2 b2 CA
  go_wp2_with fail
  refine (CB.out _ B2.out).mono ?_
  rintro e w3 ⟨a3, c3, rfl, o3, b3⟩
  have B3 := aside (bthen B2.out b3)
  have O3 := aside o3
  replace O2 := aside (own_on O2.out b3)
  clear o3 b3 CB
  go_wp2_with fail
  refine (side_any _ _ _ _ _ _ _).mono ?_
  rintro e w4 ⟨rfl, rfl⟩
  obtain ⟨A2, eA, rA, -⟩ := entsG_of O2.out KA.out
  obtain ⟨B2', eB, rB, -⟩ := entsG_of O3.out KB.out
  have S4 := aside (side_sd eA eB)
  have RA := aside rA
  have RB := aside rB
  have B4 := aside (bthen (bthen B3.out (bnew w3 (.cells #[.slice a2 la c2] 32))) (bnew _ (.cells #[.slice a3 lb c3] 32)))
  clear eA eB rA rB
  go_wp2
  go_ret
  exact ⟨w3.heap.size, a2, la, c2, A2, a3, lb, c3, B2', rfl, S4.out, by rw [RA.out, RB.out], B4.out⟩
end Go.Proofs.Ytfkdhambbpkmpaa
