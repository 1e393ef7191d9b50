/-
  Get as one plain function of the bytes, the place and the error: both keep to it.
-/
import Derived.Test.YtnjbglnkhgholaaIGetRef
namespace Go.Proofs.Ytnjbglnkhgholaa
open Go.RowKit
set_option linter.unusedVariables false

/-- The end of Get: the value's text, the Counter's error, the answer. -/
def getFin (l : List UInt8) (tk : List UInt8) (c n : Int) (d : Bool) (p4 : Nat) (e4 : Int) : En × Nat × Int :=
  match d with
  | true => if c = 0 then (⟨⟨#[]⟩, 0, 0, ⟨#[]⟩, false⟩, p4, failOf e4 30) else if e4 = 0 then (⟨⟨tk.toArray⟩, c, n, ⟨#[]⟩, true⟩, p4, 0) else (⟨⟨#[]⟩, 0, 0, ⟨#[]⟩, false⟩, p4, e4)
  | false =>
    match textSt l p4 e4 32 with
    | (tv, p5, e5) => if c = 0 then (⟨⟨#[]⟩, 0, 0, ⟨#[]⟩, false⟩, p5, failOf e5 30) else if e5 = 0 then (⟨⟨tk.toArray⟩, c, n, ⟨tv.toArray⟩, false⟩, p5, 0) else (⟨⟨#[]⟩, 0, 0, ⟨#[]⟩, false⟩, p5, e5)

/-- Get. -/
def getSt (l : List UInt8) (p : Nat) (e : Int) : En × Nat × Int :=
  match textSt l p e 16 with
  | (tk, p1, e1) =>
    match numSt l p1 e1 1099511627776 with
    | (c, p2, e2) =>
      match numSt l p2 e2 7 with
      | (n, p3, e3) =>
        match flagSt l p3 e3 with
        | (d, p4, e4) => getFin l tk c n d p4 e4

theorem failOf_ne (e : Int) : (failOf e 30 != 0) = true := by
  unfold failOf; split
  · rfl
  · rename_i h; simp [h]

theorem getSt_eq {l : List UInt8} {p p1 p2 p3 p4 : Nat} {e e1 e2 e3 e4 : Int} {tk : List UInt8} {c n : Int} {d : Bool} (h1 : textSt l p e 16 = (tk, p1, e1)) (h2 : numSt l p1 e1 1099511627776 = (c, p2, e2)) (h3 : numSt l p2 e2 7 = (n, p3, e3)) (h4 : flagSt l p3 e3 = (d, p4, e4)) :
    getSt l p e = getFin l tk c n d p4 e4 := by
  unfold getSt; rw [h1]; simp only; rw [h2]; simp only; rw [h3]; simp only; rw [h4]

set_option maxHeartbeats 1000000 in
theorem get_at {br : Nat} {s : ByteArray} {l : List UInt8} {p p' : Nat} {e e' : Int} {R : En} {w : World} (h : OneR br s l p e w) (hg : getSt l p e = (R, p', e')) :
    Calls Try.prog 36 #[.pointer (some ⟨br, 0, none⟩)] w fun r w' => r = .returned (.agg #[.string R.k, .int .i64 R.c, .int .i64 R.n, .string R.v, .bool R.d]) ∧ OneR br s l p' e' w' ∧ Keeps (fun x => x = br) w w' := by
  rcases h1 : textSt l p e 16 with ⟨tk, p1, e1⟩
  rcases h2 : numSt l p1 e1 1099511627776 with ⟨c, p2, e2⟩
  rcases h3 : numSt l p2 e2 7 with ⟨n, p3, e3⟩
  rcases h4 : flagSt l p3 e3 with ⟨d, p4, e4⟩
  rw [getSt_eq h1 h2 h3 h4] at hg
  cases d
  · rcases h5 : textSt l p4 e4 32 with ⟨tv, p5, e5⟩
    simp only [getFin] at hg
    rw [h5] at hg
    simp only at hg
    by_cases hc : c = 0
    · rw [if_pos hc] at hg
      cases hg
      exact get_011 br s l p e _ tk c n false ⟨tv.toArray⟩ tv p1 p2 p3 p4 p' e1 e2 e3 e4 e5 _ w h rfl h1 h2 h3 h4 rfl h5 hc rfl (failOf_ne e5)
    · rw [if_neg hc] at hg
      by_cases he : e5 = 0
      · rw [if_pos he] at hg
        cases hg
        have := get_000 br s l p e _ tk c n false ⟨tv.toArray⟩ tv p1 p2 p3 p4 p' e1 e2 e3 e4 e5 0 w h rfl h1 h2 h3 h4 rfl h5 (by simp [hc]) he
        rw [he] at this
        exact this
      · rw [if_neg he] at hg
        cases hg
        exact get_001 br s l p e _ tk c n false ⟨tv.toArray⟩ tv p1 p2 p3 p4 p' e1 e2 e3 e4 e' 0 w h rfl h1 h2 h3 h4 rfl h5 (by simp [hc]) (by simp [he])
  · simp only [getFin] at hg
    by_cases hc : c = 0
    · rw [if_pos hc] at hg
      cases hg
      exact get_111 br s l p e _ tk c n true ⟨#[]⟩ [] p1 p2 p3 p' 0 e1 e2 e3 e4 0 _ w h rfl h1 h2 h3 h4 hc rfl (failOf_ne e4)
    · rw [if_neg hc] at hg
      by_cases he : e4 = 0
      · rw [if_pos he] at hg
        cases hg
        have := get_100 br s l p e _ tk c n true ⟨#[]⟩ [] p1 p2 p3 p' 0 e1 e2 e3 e4 0 0 w h rfl h1 h2 h3 h4 (by simp [hc]) he
        rw [he] at this
        exact this
      · rw [if_neg he] at hg
        cases hg
        exact get_101 br s l p e _ tk c n true ⟨#[]⟩ [] p1 p2 p3 p' 0 e1 e2 e3 e' 0 0 w h rfl h1 h2 h3 h4 (by simp [hc]) (by simp [he])

set_option maxHeartbeats 1000000 in
theorem getRef_at {B br : Nat} {v : Value} {l : List UInt8} {p p' : Nat} {e e' : Int} {R : En} {w : World} (h : DocR B br v l p e w) (hg : getSt l p e = (R, p', e')) :
    Calls Try.prog 39 #[.pointer (some ⟨br, 0, none⟩)] w fun r w' => r = .returned (.agg #[.string R.k, .int .i64 R.c, .int .i64 R.n, .string R.v, .bool R.d]) ∧ DocR B br v l p' e' w' ∧ Keeps (fun x => x = br) w w' := by
  have hv : ∀ j, v.ownBlock = some j → j < w.heap.size := fun j hj => (h.doc.2.1.lt j hj).2
  rcases h1 : textSt l p e 16 with ⟨tk, p1, e1⟩
  rcases h2 : numSt l p1 e1 1099511627776 with ⟨c, p2, e2⟩
  rcases h3 : numSt l p2 e2 7 with ⟨n, p3, e3⟩
  rcases h4 : flagSt l p3 e3 with ⟨d, p4, e4⟩
  rw [getSt_eq h1 h2 h3 h4] at hg
  cases d
  · rcases h5 : textSt l p4 e4 32 with ⟨tv, p5, e5⟩
    simp only [getFin] at hg
    rw [h5] at hg
    simp only at hg
    by_cases hc : c = 0
    · rw [if_pos hc] at hg
      cases hg
      exact getRef_011 B br v l p e _ tk c n false ⟨tv.toArray⟩ tv p1 p2 p3 p4 p' e1 e2 e3 e4 e5 _ w h hv rfl h1 h2 h3 h4 rfl h5 hc rfl (failOf_ne e5)
    · rw [if_neg hc] at hg
      by_cases he : e5 = 0
      · rw [if_pos he] at hg
        cases hg
        have := getRef_000 B br v l p e _ tk c n false ⟨tv.toArray⟩ tv p1 p2 p3 p4 p' e1 e2 e3 e4 e5 0 w h hv rfl h1 h2 h3 h4 rfl h5 (by simp [hc]) he
        rw [he] at this
        exact this
      · rw [if_neg he] at hg
        cases hg
        exact getRef_001 B br v l p e _ tk c n false ⟨tv.toArray⟩ tv p1 p2 p3 p4 p' e1 e2 e3 e4 e' 0 w h hv rfl h1 h2 h3 h4 rfl h5 (by simp [hc]) (by simp [he])
  · simp only [getFin] at hg
    by_cases hc : c = 0
    · rw [if_pos hc] at hg
      cases hg
      exact getRef_111 B br v l p e _ tk c n true ⟨#[]⟩ [] p1 p2 p3 p' 0 e1 e2 e3 e4 0 _ w h hv rfl h1 h2 h3 h4 hc rfl (failOf_ne e4)
    · rw [if_neg hc] at hg
      by_cases he : e4 = 0
      · rw [if_pos he] at hg
        cases hg
        have := getRef_100 B br v l p e _ tk c n true ⟨#[]⟩ [] p1 p2 p3 p' 0 e1 e2 e3 e4 0 0 w h hv rfl h1 h2 h3 h4 (by simp [hc]) he
        rw [he] at this
        exact this
      · rw [if_neg he] at hg
        cases hg
        exact getRef_101 B br v l p e _ tk c n true ⟨#[]⟩ [] p1 p2 p3 p' 0 e1 e2 e3 e' 0 0 w h hv rfl h1 h2 h3 h4 (by simp [hc]) (by simp [he])

end Go.Proofs.Ytnjbglnkhgholaa
