/-
  The examples of images, walked.
-/
import Derived.Test.YtlbkcndmljlnmaaDoorBx26
import Derived.Test.YtlbkcndmljlnmaaDoorBx27
namespace Go.Proofs.YtlbkcndmljlnmaaDoor
open Go.RowKit
set_option linter.unusedVariables false
theorem own_pre {w : World} {B g n m cap : Nat} {xs : List Value} (h : w.ownsRow B 5 1 (.slice (some ⟨g, 0, none⟩) n cap) n xs) (hm : m ≤ n) : w.ownsRow B 5 1 (.slice (some ⟨g, 0, none⟩) m cap) m (xs.take m) := by
  refine ⟨by rw [List.length_take, h.1]; omega, ?_⟩
  rcases h.2 with ⟨h1, _⟩ | ⟨g', cap', cur, h1, h2, h3, h4, h5, h6, h7⟩
  · cases h1
  · injection h1 with e1 e2 e3
    injection e1 with e1
    injection e1 with e1
    subst e1 e3
    refine .inr ⟨g, cap, cur, rfl, h2, h3, by omega, h5, h6, ?_⟩
    rw [← h7, List.take_take, Nat.min_eq_left (by omega)]; simp
theorem op_append_bytes {w : World} {o : Oper} {act : Act} {K : Act → World → Prop} {Q : Exit → Act → World → Prop} (s x : Operand)
    (ho : o.op = .call { callee := .builtin .append, args := #[s, x], argTypes := #[31, 31] })
    (B n g0 c0 : Nat) (xs : List Value) (hs : act.eval s = .slice (some ⟨g0, 0, none⟩) n c0) (hA : w.ownsRow B 5 1 (.slice (some ⟨g0, 0, none⟩) n c0) n xs) (b m c : Nat) (news : List Value) (hx : act.eval x = .slice (some ⟨b, 0, none⟩) m c)
    (hc : ∀ j u, news[j]? = some u → w.cell? ((⟨b, 0, none⟩ : Addr).add j) = some u) (hn : news.length = m) (h1c : ∀ u ∈ news, u.oneCell' = true) (hlen : n + m ≤ 140737488351232) (hB : B ≤ w.heap.size) (hm : 0 < m)
    (h : ∀ g cap w', w'.ownsRow B 5 1 (.slice (some ⟨g, 0, none⟩) (n + m) cap) (n + m) (xs ++ news) → ((g = g0 ∧ cap = c0 ∧ w.grownBy w' (some g0)) ∨ (w.heap.size ≤ g ∧ w.grownBy w' none)) → K (act.put o.dst (.slice (some ⟨g, 0, none⟩) (n + m) cap)) w') : o.wp Tryd.prog act w K Q := by
  obtain ⟨i0, hi, hz0, hz1, hz2⟩ := info_parts info8
  by_cases hroom : n + m ≤ c0
  · obtain ⟨w', hrun, r1, r2⟩ := run_append_fits (P := Tryd.prog) w B 31 o.type 5 i0 1 Tryd.underlying31 hi hz1 g0 n c0 xs hA ⟨b, 0, none⟩ m c news (by rw [hn]; omega) hc h1c hroom
    unfold Oper.wp
    simp [execOp, ho, resolve, invoke, builtin, hs, hx, hrun, Result.andThen]
    exact h g0 c0 w' r1 (.inl ⟨rfl, rfl, r2⟩)
  · have hl : xs.length = n * 1 := hA.1
    obtain ⟨v', w', hrun, r1, r2⟩ := run_append_arg_grows (P := Tryd.prog) w 31 o.type 5 i0 _ 1 1 Tryd.underlying31 hi hz0 hz1 hz2 rfl (by decide) ⟨g0, 0, none⟩ n c0 xs hl (fun j u hj => by
      have hjl : j < n * 1 := by rw [← hl]; exact (List.getElem?_eq_some_iff.1 hj).1
      rw [Addr.add_lit, Nat.zero_add, hA.cellAt j (by omega)]
      exact hj) ⟨b, 0, none⟩ m c news (by rw [hn]; omega) hc (by omega) (by unfold maxLen; omega) (by omega)
    unfold Oper.wp
    simp [execOp, ho, resolve, invoke, builtin, hs, hx, hrun, Result.andThen]
    rcases r1.2 with ⟨h1, h2⟩ | ⟨g, cap', cur, rfl, hge, _⟩
    · omega
    · exact h g cap' w' (own_low r1 hB) (.inr ⟨hge, r2⟩)
theorem argB_own {w : World} {B : Nat} {a : Option Addr} {n c : Nat} {l : List UInt8} (h : w.ownsRow B 5 1 (.slice a n c) l.length (Lib.byteCells l)) : ArgB w a n c l := by
  rcases h.2 with ⟨h1, h2⟩ | ⟨g, cap, cur, h1, h2, h3, h4, h5, h6⟩
  · injection h1 with e1 e2 e3
    subst e1 e2 e3
    exact ⟨h2, Nat.le_refl _, by unfold maxLen; omega, .inl ⟨rfl, rfl, rfl⟩⟩
  · injection h1 with e1 e2 e3
    subst e1 e2 e3
    refine ⟨rfl, h4, h5, .inr ⟨_, rfl, fun j u hj => ?_⟩⟩
    have hjl : j < l.length := by
      have := (List.getElem?_eq_some_iff.1 hj).1
      rw [Lib.byteCells_length] at this
      exact this
    rw [Addr.add_lit, Nat.zero_add, h.cellAt j (by omega)]
    exact hj
theorem own_keepI {w w' : World} {S : Nat → Prop} {B : Nat} {e : TypeId} {s : Nat} {v : Value} {n : Nat} {xs : List Value} (h : w.ownsRow B e s v n xs) (k : Keeps S w w') (hn : ∀ i cs, w.heap[i]? = some (.cells cs e (0, 0)) → ¬ S i) : w'.ownsRow B e s v n xs := by
  refine ⟨h.1, ?_⟩
  rcases h.2 with h5 | ⟨g2, cap, cur, e1, e2, e3, e4⟩
  · exact .inl h5
  · exact .inr ⟨g2, cap, cur, e1, e2, blk_keep e3 k (hn _ _ e3), e4⟩
theorem own_notsI {w : World} {B : Nat} {e t : TypeId} {s n k : Nat} {v : Value} {xs : List Value} {cs : Array Value} (h : w.ownsRow B e s v n xs) (hk : w.heap[k]? = some (.cells cs t (0, 0))) (ht : e ≠ t) : ¬ v.ownBlock = some k := by
  intro h1
  rcases h.2 with ⟨h2, _⟩ | ⟨g, cap, cur, h2, h3, h4, h5⟩
  · rw [h2] at h1; cases h1
  · rw [h2] at h1
    have e1 : g = k := by simpa [Value.ownBlock] using h1
    subst e1
    rw [hk] at h4
    injection h4 with h4
    injection h4 with _ h4 _
    exact ht h4.symm
theorem own_some {w : World} {B : Nat} {T : TypeId} {v : Value} {n : Nat} {xs : List Value} (h : w.ownsRow B T 1 v n xs) (hn : 0 < n) : ∃ g c, v = .slice (some ⟨g, 0, none⟩) n c := by
  rcases h.2 with ⟨h1, h2⟩ | ⟨g, c, cur, h1, -⟩
  · omega
  · exact ⟨g, c, h1⟩
/-- A row of bytes stays while the store is turned. -/
theorem own_turn {w w' : World} {B : Nat} {v : Value} {n : Nat} {xs : List Value} {sb g tb : Nat} {nd ck : Int} {Ls : List En} (h : w.ownsRow B 5 1 v n xs) (hs : Sto w sb g tb nd ck Ls) (k : Keeps (Of sb g tb) w w') : w'.ownsRow B 5 1 v n xs :=
  own_keepI h k (fun i cs hi => hs.not hi (by decide) (by decide) (by decide))
def shA : En := ⟨⟨#[97]⟩, 1, 3, ⟨#[98, 99]⟩, false⟩
def shB : En := ⟨⟨#[98]⟩, 2, 3, ⟨#[]⟩, true⟩
theorem sh_e1 : wrErr ⟨#[97]⟩ ⟨#[98, 99]⟩ 3 0 [] = 0 := by kernel_rfl
theorem sh_l1 : insE (wrEn ⟨#[97]⟩ ⟨#[98, 99]⟩ false 3 0) [] = [shA] := by kernel_rfl
theorem sh_e2 : wrErr ⟨#[98]⟩ ⟨#[]⟩ 3 (0 + 1) [shA] = 0 := by kernel_rfl
theorem sh_l2 : insE (wrEn ⟨#[98]⟩ ⟨#[]⟩ true 3 (0 + 1)) [shA] = [shA, shB] := by kernel_rfl
theorem sh_ok0 : LdOk 3 0 [] := ⟨by decide, by decide, by decide, by decide, MapL.nil, by simp⟩
theorem sh_ok2 : LdOk 3 (0 + 1 + 1) [shA, shB] := ⟨by decide, by decide, by decide, by decide, ⟨by
  refine List.Pairwise.cons (fun x hx => ?_) (List.pairwise_singleton _ _)
  rw [List.mem_singleton] at hx
  subst hx
  kernel_rfl, fun e he => by
  simp only [List.mem_cons, List.not_mem_nil, or_false] at he
  rcases he with rfl | rfl <;> kernel_rfl⟩, fun e he => by
  simp only [List.mem_cons, List.not_mem_nil, or_false] at he
  rcases he with rfl | rfl <;> decide⟩
theorem sh_b0 : imgB 3 0 [] = [4, 116, 105, 100, 101, 3, 0, 0] := by kernel_rfl
theorem sh_b2 : imgB 3 (0 + 1 + 1) [shA, shB] = [4, 116, 105, 100, 101, 3, 2, 2, 1, 97, 1, 3, 0, 2, 98, 99, 1, 98, 2, 3, 1] := by kernel_rfl
theorem sh_no9 (nd ck : Int) (es : List En) : ¬ ImgIs [4, 116, 105, 100, 101, 3, 0, 0, 0] nd ck es := by
  have h := img_longer (nd' := nd) (ck' := ck) (es' := es) (m := [0]) sh_ok0 (by decide)
  rw [sh_b0] at h
  exact h
set_option maxHeartbeats 6400000 in
set_option maxRecDepth 100000 in
theorem shown10 (w : World) (L : Lanes w) : Calls Tryd.prog 8 #[] w fun e w' => e = .returned (.bool true) ∧ Below w.heap.size w w' := by
  have HL := aside L
  have HL0 := aside L
  clear L
  go_enter Tryd.func8, Tryd.ntmps8
  go_wp2_with fail
  refine (qnew 3 w).mono ?_
  rintro e w1 ⟨b1, ⟨h0, -⟩ | ⟨-, sb, g, tb, rfl, s1, l1, l2, l3⟩⟩
  · exact absurd h0 (by decide)
  have HG := aside (show w.heap.size ≤ sb ∧ w.heap.size ≤ g ∧ w.heap.size ≤ tb from ⟨l1, l2, l3⟩)
  have BB := aside b1
  have SS := aside s1
  replace HL := aside (HL.out.keep b1)
  clear b1 s1 l1 l2 l3
  go_wp2_with fail
  refine (imput SS.out sh_ok0).mono ?_
  rintro e w2 ⟨va, rfl, oa, b2⟩
  rw [sh_b0] at oa
  have OA := aside (own_low oa (show w.heap.size ≤ w1.heap.size from BB.out.size))
  replace BB := aside (bthen BB.out b2)
  replace SS := aside (SS.out.below b2)
  replace HL := aside (HL.out.keep b2)
  clear oa b2
  go_wp2_with fail
  refine (qput ⟨#[97]⟩ ⟨#[98, 99]⟩ SS.out HL.out (by simp)).mono ?_
  rintro e w3 ⟨c3, m3, er3, rfl, he3, k3, L3, ⟨h3, -⟩ | ⟨-, -, -, s3⟩⟩
  · exact absurd (he3.trans sh_e1) h3
  rw [sh_l1] at s3
  replace OA := aside (own_turn OA.out SS.out k3)
  replace BB := aside (BB.out.trans (k3.below BB.out.size (fun i hi e => by have := HG.out; unfold Of at e; omega)))
  replace SS := aside s3
  replace HL := aside L3
  clear s3 k3 L3 he3
  go_wp2_with fail
  refine (qdel ⟨#[98]⟩ SS.out HL.out (by simp)).mono ?_
  rintro e w4 ⟨c4, m4, er4, rfl, he4, k4, L4, ⟨h4, -⟩ | ⟨-, -, -, s4⟩⟩
  · exact absurd (he4.trans sh_e2) h4
  rw [sh_l2] at s4
  replace OA := aside (own_turn OA.out SS.out k4)
  replace BB := aside (BB.out.trans (k4.below BB.out.size (fun i hi e => by have := HG.out; unfold Of at e; omega)))
  replace SS := aside s4
  replace HL := aside L4
  clear s4 k4 L4 he4
  go_wp2_with fail
  refine (imput SS.out sh_ok2).mono ?_
  rintro e w5 ⟨vb, rfl, ob, b5⟩
  have HI2 := aside (img_put sh_ok2)
  rw [sh_b2] at ob HI2
  have OB := aside (own_low ob (show w.heap.size ≤ w4.heap.size from BB.out.size))
  have HAB := aside (show ∀ k, va.ownBlock = some k → ¬ vb.ownBlock = some k from fun k e1 e2 => by have := (OA.out.lt k e1).2; have := (ob.lt k e2).1; omega)
  replace OA := aside (own_on OA.out b5)
  replace BB := aside (bthen BB.out b5)
  replace HL := aside (HL.out.keep b5)
  clear ob b5 SS
  obtain ⟨gb, cb, rfl⟩ := own_some OB.out (by decide)
  obtain ⟨ga, ca, rfl⟩ := own_some OA.out (by decide)
  replace HAB := aside (show ¬ ga = gb from fun e => HAB.out ga rfl (by rw [e]; rfl))
  have CL := aside (imload (l := [4, 116, 105, 100, 101, 3, 2, 2, 1, 97, 1, 3, 0, 2, 98, 99, 1, 98, 2, 3, 1]) (fun w' bb => reads_own (own_on OB.out bb)) rfl HL.out)
  go_wp2_with fail
  refine CL.out.mono ?_
  rintro e w6 ⟨b6, ⟨nd, ck, es, sb6, g6, tb6, hI, rfl, s6, -, -, -, L6⟩ | ⟨hno, -⟩⟩
  case inr => exact absurd HI2.out (hno _ _ _)
  obtain ⟨rfl, rfl, rfl⟩ := imgIs_same hI HI2.out
  have S6 := aside s6
  replace OA := aside (own_on OA.out b6)
  replace OB := aside (own_on OB.out b6)
  replace BB := aside (bthen BB.out b6)
  replace HL := aside L6
  clear hI s6 L6 b6 CL
  have KZ := aside (heap_alloc_new w6 (.cells #[.int .u8 0] 5))
  have NB := bnew w6 (.cells #[.int .u8 0] 5)
  replace OA := aside (own_on OA.out NB)
  replace OB := aside (own_on OB.out NB)
  replace BB := aside (bthen BB.out NB)
  replace HL := aside (HL.out.keep NB)
  replace S6 := aside (S6.out.below NB)
  clear NB
  go_wp2_with (at_builtin; refine wpList_plain rfl fun K hK => op_append_bytes _ _ rfl w.heap.size 8 ga ca (Lib.byteCells [4, 116, 105, 100, 101, 3, 0, 0]) (by rfl) OA.out w6.heap.size 1 1 [.int .u8 0] (by rfl) (World.news_of_block (cs := #[.int .u8 0]) (t := 5) (fr := (0, 0)) KZ.out) rfl (fun u hu => by simp at hu; subst hu; rfl) (by omega) BB.out.size (by omega) ?_; intro g3 cap3 w7 own7 gr7; refine hK _ _ ?_; refine Hid.out ?_)
  refine aside ?_
  have kg : Keeps (fun x => x = ga) (w6.alloc (.cells #[.int .u8 0] 5)) w7 := by
    rcases gr7 with ⟨-, -, gr7⟩ | ⟨-, gr7⟩
    · exact (Keeps.refl _ _).grown gr7 (fun k hk _ => (Option.some.inj hk).symm)
    · exact (Keeps.refl _ _).grown gr7 (fun k hk _ => by cases hk)
  have HW1 := aside (show w.heap.size ≤ ga from (OA.out.lt ga rfl).1)
  have OA' := aside (show w7.ownsRow w.heap.size 5 1 (.slice (some ⟨ga, 0, none⟩) 8 ca) 8 (Lib.byteCells [4, 116, 105, 100, 101, 3, 0, 0]) from by
    rcases gr7 with ⟨rfl, rfl, gr7⟩ | ⟨-, gr7⟩
    · exact own_pre own7 (by omega)
    · exact ownsRow_keep OA.out ((Keeps.refl (fun _ => False) _).grown gr7 (fun k hk _ => by cases hk)) (fun _ _ h => h))
  replace OB := aside (ownsRow_keep OB.out kg (fun j hj x => by
    have h1 : gb = j := (by simpa [Value.ownBlock] using hj)
    have := HAB.out
    omega))
  replace S6 := aside (S6.out.other kg (fun hi h he => by subst he; exact own_notsI OA.out hi (by rcases h with rfl | rfl | rfl | rfl <;> decide) rfl))
  replace BB := aside (BB.out.trans (kg.below BB.out.size (fun k hk e => by have := HW1.out; omega)))
  have O3 := aside (show w7.ownsRow w.heap.size 5 1 (.slice (some ⟨g3, 0, none⟩) 9 cap3) 9 (Lib.byteCells [4, 116, 105, 100, 101, 3, 0, 0, 0]) from own7)
  replace HL := aside (HL0.out.keep BB.out)
  clear kg gr7 own7 OA HW1 KZ HAB
  have CL := aside (imload (l := [4, 116, 105, 100, 101, 3, 0, 0, 0]) (fun w' bb => reads_own (own_on O3.out bb)) rfl HL.out)
  go_wp2_with fail
  refine CL.out.mono ?_
  rintro e w8 ⟨b8, ⟨nd, ck, es, sb8, g8, tb8, hI, -⟩ | ⟨-, rfl⟩⟩
  · exact absurd hI (sh_no9 _ _ _)
  replace OA' := aside (own_on OA'.out b8)
  replace OB := aside (own_on OB.out b8)
  replace BB := aside (bthen BB.out b8)
  replace S6 := aside (S6.out.below b8)
  clear b8 O3 CL
  have q1 := conv_own w8 w.heap.size (.slice (some ⟨ga, 0, none⟩) 8 ca) [4, 116, 105, 100, 101, 3, 0, 0] OA'.out
  have q2 := conv_own w8 w.heap.size (.slice (some ⟨gb, 0, none⟩) 21 cb) [4, 116, 105, 100, 101, 3, 2, 2, 1, 97, 1, 3, 0, 2, 98, 99, 1, 98, 2, 3, 1] OB.out
  go_wp2_with fail
  refine (qlen S6.out).mono ?_
  rintro r w9 ⟨rfl, e⟩
  obtain rfl : w8 = w9 := e.symm
  go_wp2
  go_ret
  exact ⟨rfl, BB.out⟩
end Go.Proofs.YtlbkcndmljlnmaaDoor
