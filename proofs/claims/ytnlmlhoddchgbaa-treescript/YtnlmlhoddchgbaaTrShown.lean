/-
  The examples of the document, at the head of the statements.
-/
import Derived.Test.YtnlmlhoddchgbaaTgDQ
namespace Go.Proofs.Ytnlmlhoddchgbaa
open Go.RowKit
set_option linter.unusedVariables false

def kA : ByteArray := ⟨#[97]⟩
def kB : ByteArray := ⟨#[98]⟩
def kC : ByteArray := ⟨#[99]⟩
def kBB : ByteArray := ⟨#[98, 98]⟩

theorem lt_ab : kLt kA kB = true := by simp [kLt, kA, kB, ByteArray.toList_eq, Op.bytesLess]
theorem lt_ba : kLt kB kA = false := kLt_asymm lt_ab
theorem lt_bc : kLt kB kC = true := by simp [kLt, kB, kC, ByteArray.toList_eq, Op.bytesLess]
theorem lt_cb : kLt kC kB = false := kLt_asymm lt_bc
theorem lt_bbb : kLt kB kBB = true := by simp [kLt, kB, kBB, ByteArray.toList_eq, Op.bytesLess]
theorem lt_bbc : kLt kBB kC = true := by simp [kLt, kBB, kC, ByteArray.toList_eq, Op.bytesLess]

abbrev TQ := Tr Int ByteArray
def sT1 : TQ := .node .nil kB 1 ⟨#[66]⟩ .nil
def sT2 : TQ := .node (.node .nil kA 2 ⟨#[65]⟩ .nil) kB 1 ⟨#[66]⟩ .nil
def sT3 : TQ := .node (.node .nil kA 2 ⟨#[65]⟩ .nil) kB 1 ⟨#[66]⟩ (.node .nil kC 3 ⟨#[67]⟩ .nil)
def sT4 : TQ := .node (.node .nil kA 2 ⟨#[65]⟩ .nil) kB 4 ⟨#[120]⟩ (.node .nil kC 3 ⟨#[67]⟩ .nil)

theorem sput1 : Tr.put kB 1 ⟨#[66]⟩ (.nil : TQ) = sT1 := rfl
theorem sput2 : Tr.put kA 2 ⟨#[65]⟩ sT1 = sT2 := by simp [Tr.put, sT1, sT2, lt_ab, Tr.level, Tr.ht]
theorem sput3 : Tr.put kC 3 ⟨#[67]⟩ sT2 = sT3 := by simp [Tr.put, sT2, sT3, lt_bc, lt_cb, Tr.level, Tr.ht]
theorem sput4 : Tr.put kB 4 ⟨#[120]⟩ sT3 = sT4 := by simp [Tr.put, sT3, sT4, kLt_irrefl]
theorem sfound2 : Tr.found kA sT1 = .nil := by simp [Tr.found, sT1, lt_ab]
theorem sfound3 : Tr.found kC sT2 = .nil := by simp [Tr.found, sT2, lt_bc, lt_cb]
theorem sfound4 : Tr.found kB sT3 = sT3 := by simp [Tr.found, sT3, kLt_irrefl]
theorem snth : Tr.nth sT4 1 = sT4 := by simp [Tr.nth, sT4, Tr.cnt]
theorem slower : Tr.lower kBB sT4 = 2 := by simp [Tr.lower, sT4, kLt_asymm lt_bbb, lt_bbb, lt_bbc, Tr.cnt]
theorem sg1 : Gd sSz (.nil : TQ) 0 := Gd.nil _
theorem sg2 : Gd sSz sT1 2 := by have := sg1.put kB 1 ⟨#[66]⟩; rw [sput1] at this; exact this.mono (by decide)
theorem sg3 : Gd sSz sT2 4 := by have := sg2.put kA 2 ⟨#[65]⟩; rw [sput2] at this; exact this.mono (by decide)
theorem sg4 : Gd sSz sT3 6 := by have := sg3.put kC 3 ⟨#[67]⟩; rw [sput3] at this; exact this.mono (by decide)
theorem sg5 : Gd sSz sT4 8 := by have := sg4.put kB 4 ⟨#[120]⟩; rw [sput4] at this; exact this.mono (by decide)
theorem sf1 : Tr.fol sJoin sZero sT4 (-5) 99 = ⟨#[65, 120, 67]⟩ := by rfl
theorem sf2 : Tr.fol sJoin sZero sT4 1 3 = ⟨#[120, 67]⟩ := by rfl
theorem sf3 : Tr.fol sJoin sZero sT4 2 1 = ⟨#[]⟩ := by rfl

/-- The tree of the examples, in memory that was made since w. -/
structure Sh (w W : World) (tb : Nat) (T : TQ) : Prop where
  tree : TreeQ W tb (.func (.func 36) #[] #[]) T
  below : Below w.heap.size w W
  lo : w.heap.size ≤ tb

theorem Sh.on {w W W' : World} {tb : Nat} {T : TQ} (h : Sh w W tb T) (b : Below W.heap.size W W') : Sh w W' tb T := ⟨h.tree.below b, bthen h.below b, h.lo⟩
theorem keeps_none {A B : World} (k : Keeps (OnC none) A B) : Below A.heap.size A B := k.below (Nat.le_refl _) (fun _ _ e => by cases e)
theorem Sh.put {w W W' : World} {tb : Nat} {T T' : TQ} (h : Sh w W tb T) (h1 : TreeQ W' tb (.func (.func 36) #[] #[]) T') (k : Keeps (fun x => x = tb ∨ OnC none x) W W') : Sh w W' tb T' :=
  ⟨h1, h.below.trans (k.below h.below.size (fun i hi e => by rcases e with e | e; have := h.lo; omega; cases e)), h.lo⟩

theorem sPut (k : ByteArray) (v : Int) (s : ByteArray) {w W : World} {tb m : Nat} {T T' : TQ} {x : Int} {q : Bool} (h : Sh w W tb T) (g : Gd sSz T m) (hm : m + 1 + sSz s ≤ 281474976710655) (e : Tr.put k v s T = T') (hx : (Tr.found k T).val 0 = x) (hq : (!(Tr.found k T).isNil) = q) :
    Calls Try.prog 37 #[.pointer (some ⟨tb, 0, none⟩), .string k, .int .i64 v, .string s] W fun e w' => e = .returned (.tuple #[.int .i64 x, .bool q]) ∧ Sh w w' tb T' := by
  subst e hx hq
  exact (yputQ k v s h.tree bothStrQ (cnt_none 0 W) g hm).mono fun e w' ⟨h1, h2, h3, h4⟩ => ⟨h1, h.put h2 h4⟩

theorem sFold (i j : Int) {w W : World} {tb m : Nat} {T : TQ} {x : ByteArray} (h : Sh w W tb T) (g : Gd sSz T m) (hm : m ≤ 281474976710655) (e : Tr.fol sJoin sZero T i j = x) :
    Calls Try.prog 40 #[.pointer (some ⟨tb, 0, none⟩), .int .i64 i, .int .i64 j] W fun e w' => e = .returned (.string x) ∧ Sh w w' tb T := by
  subst e
  exact (yfoldQ i j h.tree bothStrQ (cnt_none 0 W) g hm).mono fun e w' ⟨h1, h2, h3⟩ => ⟨h1, h.on (keeps_none h3)⟩

set_option maxHeartbeats 3200000 in
set_option maxRecDepth 100000 in
theorem shown_any (w : World) : Calls Try.prog 8 #[] w fun e w' => e = .returned (.bool true) ∧ Below w.heap.size w w' := by
  go_enter Try.func8, Try.ntmps8
  go_wp2_with fail
  refine (ynewQ (.func 36) #[] w).mono ?_
  rintro e w1 ⟨tb, rfl, h1, h2, h3⟩
  have S0 := aside (⟨h1, h2, h3⟩ : Sh w w1 tb .nil)
  clear h1 h2 h3
  go_wp2_with fail
  refine (sPut kB 1 ⟨#[66]⟩ S0.out sg1 (by decide) sput1 (x := 0) (q := false) rfl rfl).mono ?_
  rintro e w2 ⟨rfl, h1⟩
  have S1 := aside h1
  clear h1 S0
  go_wp2_with fail
  refine (sPut kA 2 ⟨#[65]⟩ S1.out sg2 (by decide) sput2 (x := 0) (q := false) (by rw [sfound2]; rfl) (by rw [sfound2]; rfl)).mono ?_
  rintro e w3 ⟨rfl, h1⟩
  have S2 := aside h1
  clear h1 S1
  go_wp2_with fail
  refine (sPut kC 3 ⟨#[67]⟩ S2.out sg3 (by decide) sput3 (x := 0) (q := false) (by rw [sfound3]; rfl) (by rw [sfound3]; rfl)).mono ?_
  rintro e w4 ⟨rfl, h1⟩
  have S3 := aside h1
  clear h1 S2
  go_wp2_with fail
  refine (sPut kB 4 ⟨#[120]⟩ S3.out sg4 (by decide) sput4 (x := 1) (q := true) (by rw [sfound4]; rfl) (by rw [sfound4]; rfl)).mono ?_
  rintro e w5 ⟨rfl, h1⟩
  have S4 := aside h1
  clear h1 S3
  go_wp2_with fail
  have hA := yatQ 1 S4.out.tree sg5 (by decide) (by decide) (by decide)
  rw [snth, show Tr.key sT4 = ⟨#[98]⟩ from rfl, show Tr.val 0 sT4 = 4 from rfl, show (!Tr.isNil sT4) = true from rfl] at hA
  refine hA.mono ?_
  clear hA
  rintro e w6 ⟨rfl, h1⟩
  have S5 := aside (S4.out.on h1)
  clear h1 S4
  go_wp2_with fail
  have hL := ylenQ S5.out.tree
  rw [show ((Tr.cnt sT4 : Nat) : Int) = 3 from rfl] at hL
  refine hL.mono ?_
  clear hL
  rintro e w7 ⟨rfl, rfl⟩
  go_wp2_with fail
  refine (sFold (-5) 99 S5.out sg5 (by decide) sf1).mono ?_
  rintro e w8 ⟨rfl, h1⟩
  have S6 := aside h1
  clear h1 S5
  go_wp2_with fail
  refine (sFold 1 3 S6.out sg5 (by decide) sf2).mono ?_
  rintro e w9 ⟨rfl, h1⟩
  have S7 := aside h1
  clear h1 S6
  go_wp2_with fail
  refine (sFold 2 1 S7.out sg5 (by decide) sf3).mono ?_
  rintro e w10 ⟨rfl, h1⟩
  have S8 := aside h1
  clear h1 S7
  go_wp2_with fail
  have hR := yrankQ kBB S8.out.tree sg5 (by decide)
  rw [slower] at hR
  refine hR.mono ?_
  clear hR
  rintro e w11 ⟨rfl, h1⟩
  have S9 := aside (S8.out.on h1)
  clear h1 S8
  go_wp2
  go_ret
  exact ⟨rfl, S9.out.below⟩

end Go.Proofs.Ytnlmlhoddchgbaa
