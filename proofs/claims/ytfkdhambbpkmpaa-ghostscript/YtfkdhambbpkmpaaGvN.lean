/-
  Sees of both ghosts, of any list.
-/
import Derived.Test.YtfkdhambbpkmpaaGvZ
namespace Go.Proofs.Ytfkdhambbpkmpaa
open Go.RowKit
set_option linter.unusedVariables false

/-- What Sees tells. -/
def seeR (L l0 : List En) (node : Int) (l : List En) (ck : Int) : ByteArray × Int := if 0 ≤ node ∧ node < 8 then (if ck = 0 then (scanR L (prs l0 l)).getD (⟨#[]⟩, 0) else (⟨#[]⟩, ck)) else (⟨#[]⟩, 1)
/-- What is held at a node behind it. -/
def seeU (H : Nat → Hd) (node c : Int) (l : List En) (i : Nat) : List En := if c = 0 ∧ node = (i : Int) then l else (H i).l
theorem seeU_no {H : Nat → Hd} {node c : Int} {l : List En} (h : ¬ c = 0) (i : Nat) : (H i).l = seeU H node c l i := by
  unfold seeU
  rw [if_neg (fun h9 => h h9.1)]
theorem scanR_some {L : List En} {z : ByteArray × Int} : ∀ {P : List (En × En)}, scanR L P = some z → ¬ z.2 = 0
  | [], h => by cases h
  | x :: r, h => by
    have h1 : (match scanR1 L x with | some z => some z | none => scanR L r) = some z := h
    cases hx : scanR1 L x with
    | some y =>
      rw [hx] at h1
      injection h1 with h1
      rw [← h1]
      unfold scanR1 at hx
      split at hx
      · injection hx with hx; rw [← hx]; show ¬ (191 : Int) = 0; decide
      · split at hx
        · injection hx with hx; rw [← hx]; show ¬ (192 : Int) = 0; decide
        · cases hx
    | none => rw [hx] at h1; exact scanR_some h1
theorem gsees_r {w : World} {B p m N : Nat} {L : List En} {H : Nat → Hd} (h : Gh w B p m N L H) (node : Int) (b : Option Addr) (lb cb : Nat) (T : Nat → En) (hT : EntsIn w b lb cb T) (hf : (b = none ∧ lb = 0 ∧ cb = 0) ∨ ∃ y, b = some y) (hl : lb ≤ 1073741824) (hB : B ≤ w.heap.size) :
    Calls Try.prog 14 #[.pointer (some ⟨p, 0, none⟩), .int .i64 node, .slice b lb cb] w fun e w' => e = .returned (.tuple #[.string (seeR L (heldG H node).l node (firstE T lb) (ckN T lb)).1, .int .i64 (seeR L (heldG H node).l node (firstE T lb) (ckN T lb)).2]) ∧ Keeps (fun x => x = p) w w' ∧ ∃ H', Gh w' B p m N L H' ∧ (∀ i, i < 8 → (H' i).l = seeU H node (seeR L (heldG H node).l node (firstE T lb) (ckN T lb)).2 (firstE T lb) i) ∧ ∀ i, i < 8 → ∀ j, (H' i).v.ownBlock = some j → (H i).v.ownBlock = some j ∨ w.heap.size ≤ j := by
  by_cases hn : 0 ≤ node ∧ node < 8
  · obtain ⟨i, rfl⟩ : ∃ i : Nat, node = (i : Int) := ⟨node.toNat, by omega⟩
    have hi : i < 8 := by omega
    have hg : heldG H (i : Int) = H i := by unfold heldG; rw [if_pos hn, Int.toNat_natCast]
    rw [hg]
    by_cases hm : MapL (firstE T lb)
    · have h0 : ckN T lb = 0 := (ck_map lb).2 hm
      refine (gsees_any h i hi b lb cb T hT hf hl hm hB).mono ?_
      rintro e w' (⟨k, c, hs, rfl, hG, hb⟩ | ⟨hs, rfl, hb, hd, h1, h2, hfr, hG⟩)
      · rw [scan_same (h.maps i hi) hm] at hs
        have hz : seeR L (H i).l (i : Int) (firstE T lb) (ckN T lb) = (k, c) := by unfold seeR; rw [if_pos hn, if_pos h0, hs]; rfl
        exact ⟨by rw [hz], Keeps.of_below hb _, H, hG, fun k _ => by rw [hz]; exact seeU_no (scanR_some hs) k, fun _ _ _ hj => .inl hj⟩
      · rw [scan_same (h.maps i hi) hm] at hs
        have hz : seeR L (H i).l (i : Int) (firstE T lb) (ckN T lb) = (⟨#[]⟩, 0) := by unfold seeR; rw [if_pos hn, if_pos h0, hs]; rfl
        refine ⟨by rw [hz], hb, _, hG, fun k hk => ?_, fun k hk j hj => ?_⟩
        · rw [hz]
          unfold updH seeU
          by_cases e : k = i
          · rw [if_pos e, if_pos ⟨rfl, by omega⟩]; exact h1
          · rw [if_neg e, if_neg (fun h9 => e (by have := h9.2; omega))]
        · unfold updH at hj
          by_cases e : k = i
          · rw [if_pos e] at hj; exact .inr (hfr j hj)
          · rw [if_neg e] at hj; exact .inl hj
    · have hc : ¬ ckN T lb = 0 := fun h0 => hm ((ck_map lb).1 h0)
      refine (gsees_bad h i hi b lb cb T hT hf hl (c := ckN T lb) (fun A hA => ?_) hc).mono ?_
      · unfold ck2
        rw [if_neg]
        have : ckN A (H i).n = 0 := (ck_map _).2 (by rw [hA]; exact h.maps i hi)
        rw [this]; simp
      · rintro e w' ⟨rfl, hG, hb⟩
        have hz : seeR L (H i).l (i : Int) (firstE T lb) (ckN T lb) = (⟨#[]⟩, ckN T lb) := by unfold seeR; rw [if_pos hn, if_neg hc]
        exact ⟨by rw [hz], Keeps.of_below hb _, H, hG, fun k _ => by rw [hz]; exact seeU_no hc k, fun _ _ _ hj => .inl hj⟩
  · refine (gsees_node h node hn b lb cb).mono ?_
    rintro e w' ⟨rfl, hG, hb⟩
    have hz : seeR L (heldG H node).l node (firstE T lb) (ckN T lb) = (⟨#[]⟩, 1) := by unfold seeR; rw [if_neg hn]
    exact ⟨by rw [hz], Keeps.of_below hb _, H, hG, fun k _ => by rw [hz]; exact seeU_no (by decide) k, fun _ _ _ hj => .inl hj⟩
theorem rhsees_r {w : World} {B q : Nat} {va : Value} {L : List En} {H : Nat → Hd} (h : Rh w B q va L H) (h1 : OneW L) (node : Int) (b : Option Addr) (lb cb : Nat) (T : Nat → En) (hT : EntsIn w b lb cb T) (hf : (b = none ∧ lb = 0 ∧ cb = 0) ∨ ∃ y, b = some y) (hl : lb ≤ 1073741824) :
    Calls Try.prog 20 #[.pointer (some ⟨q, 0, none⟩), .int .i64 node, .slice b lb cb] w fun e w' => e = .returned (.tuple #[.string (seeR L (heldG H node).l node (firstE T lb) (ckN T lb)).1, .int .i64 (seeR L (heldG H node).l node (firstE T lb) (ckN T lb)).2]) ∧ Keeps (fun x => x = q) w w' ∧ ∃ H', Rh w' B q va L H' ∧ (∀ i, i < 8 → (H' i).l = seeU H node (seeR L (heldG H node).l node (firstE T lb) (ckN T lb)).2 (firstE T lb) i) ∧ ∀ i, i < 8 → ∀ j, (H' i).v.ownBlock = some j → (H i).v.ownBlock = some j ∨ w.heap.size ≤ j := by
  by_cases hn : 0 ≤ node ∧ node < 8
  · obtain ⟨i, rfl⟩ : ∃ i : Nat, node = (i : Int) := ⟨node.toNat, by omega⟩
    have hi : i < 8 := by omega
    have hg : heldG H (i : Int) = H i := by unfold heldG; rw [if_pos hn, Int.toNat_natCast]
    rw [hg]
    by_cases hm : MapL (firstE T lb)
    · have h0 : ckN T lb = 0 := (ck_map lb).2 hm
      refine (rhsees_any h i hi b lb cb T hT hf hl hm h1).mono ?_
      rintro e w' (⟨k, c, hs, rfl, hb⟩ | ⟨hs, rfl, hb, hd, h1, h2, hfr, hG⟩)
      · have hz : seeR L (H i).l (i : Int) (firstE T lb) (ckN T lb) = (k, c) := by unfold seeR; rw [if_pos hn, if_pos h0, hs]; rfl
        exact ⟨by rw [hz], Keeps.of_below hb _, H, h.on hb, fun k _ => by rw [hz]; exact seeU_no (scanR_some hs) k, fun _ _ _ hj => .inl hj⟩
      · have hz : seeR L (H i).l (i : Int) (firstE T lb) (ckN T lb) = (⟨#[]⟩, 0) := by unfold seeR; rw [if_pos hn, if_pos h0, hs]; rfl
        refine ⟨by rw [hz], hb, _, hG, fun k hk => ?_, fun k hk j hj => ?_⟩
        · rw [hz]
          unfold updH seeU
          by_cases e : k = i
          · rw [if_pos e, if_pos ⟨rfl, by omega⟩]; exact h1
          · rw [if_neg e, if_neg (fun h9 => e (by have := h9.2; omega))]
        · unfold updH at hj
          by_cases e : k = i
          · rw [if_pos e] at hj; exact .inr (hfr j hj)
          · rw [if_neg e] at hj; exact .inl hj
    · have hc : ¬ ckN T lb = 0 := fun h0 => hm ((ck_map lb).1 h0)
      refine (rhsees_bad w q i hi b lb cb T hT rfl hc).mono ?_
      rintro e w' ⟨rfl, hb⟩
      have hz : seeR L (H i).l (i : Int) (firstE T lb) (ckN T lb) = (⟨#[]⟩, ckN T lb) := by unfold seeR; rw [if_pos hn, if_neg hc]
      exact ⟨by rw [hz], Keeps.of_below hb _, H, h.on hb, fun k _ => by rw [hz]; exact seeU_no hc k, fun _ _ _ hj => .inl hj⟩
  · refine (rhsees_node w q node hn b lb cb).mono ?_
    rintro e w' ⟨rfl, hb⟩
    have hz : seeR L (heldG H node).l node (firstE T lb) (ckN T lb) = (⟨#[]⟩, 1) := by unfold seeR; rw [if_neg hn]
    exact ⟨by rw [hz], Keeps.of_below hb _, H, h.on hb, fun k _ => by rw [hz]; exact seeU_no (by decide) k, fun _ _ _ hj => .inl hj⟩
end Go.Proofs.Ytfkdhambbpkmpaa
