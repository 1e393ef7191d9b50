/-
  Plain laws of maps: the newest of both hangs on no order and on no grouping, and is above both.
-/
import Derived.Test.YtfkdhambbpkmpaaDoorMgPlain
namespace Go.Proofs.YtfkdhambbpkmpaaDoor
open Go.RowKit
set_option linter.unusedVariables false

/-- Of what P says no two entries of one key and one version are unlike. -/
def OneP (P : En → Prop) : Prop := ∀ x y, P x → P y → x.k = y.k → x.c = y.c → x.n = y.n → x = y
theorem one2 {a b : List En} (ha : MapL a) (hb : MapL b) (h : CleanL a b) : OneP (fun x => x ∈ a ∨ x ∈ b) := by
  rintro x y (hx | hx) (hy | hy)
  · exact CleanL.self ha x hx y hy
  · exact h x hx y hy
  · exact h.symm x hx y hy
  · exact CleanL.self hb x hx y hy
theorem one3 {a b c : List En} (ha : MapL a) (hb : MapL b) (hc : MapL c) (h1 : CleanL a b) (h2 : CleanL b c) (h3 : CleanL a c) : OneP (fun x => (x ∈ a ∨ x ∈ b) ∨ x ∈ c) := by
  rintro x y ((hx | hx) | hx) ((hy | hy) | hy)
  · exact CleanL.self ha x hx y hy
  · exact h1 x hx y hy
  · exact h3 x hx y hy
  · exact h1.symm x hx y hy
  · exact CleanL.self hb x hx y hy
  · exact h2 x hx y hy
  · exact h3.symm x hx y hy
  · exact h2.symm x hx y hy
  · exact CleanL.self hc x hx y hy
theorem mx_comm {a b : List En} (ha : MapL a) (hb : MapL b) (h : CleanL a b) : mxL a b = mxL b a :=
  ((Nws.list ha).max (Nws.list hb)).one (((Nws.list hb).max (Nws.list ha)).of (fun x => or_comm)) (one2 ha hb h)
theorem mx_self {a : List En} (ha : MapL a) : mxL a a = a :=
  (((Nws.list ha).max (Nws.list ha)).of (fun x => or_self_iff)).one (Nws.list ha) (fun x y hx hy hk _ _ => key_one ha.rises hx hy hk)
theorem mx_assoc {a b c : List En} (ha : MapL a) (hb : MapL b) (hc : MapL c) (h1 : CleanL a b) (h2 : CleanL b c) (h3 : CleanL a c) : mxL (mxL a b) c = mxL a (mxL b c) :=
  (((Nws.list ha).max (Nws.list hb)).max (Nws.list hc)).one (((Nws.list ha).max ((Nws.list hb).max (Nws.list hc))).of (fun x => or_assoc.symm)) (one3 ha hb hc h1 h2 h3)
theorem mx_above {a b : List En} (ha : MapL a) (hb : MapL b) : abL (mxL a b) a = true ∧ abL (mxL a b) b = true := by
  have h := (Nws.list ha).max (Nws.list hb)
  exact ⟨(ab_iff h.map ha).2 (fun y hy => h.best y (.inl hy)), (ab_iff h.map hb).2 (fun y hy => h.best y (.inr hy))⟩

end Go.Proofs.YtfkdhambbpkmpaaDoor
