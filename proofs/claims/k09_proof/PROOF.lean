import PyProof.Rows.All
import Wide.All
import OpenK.AllK
import Wide.FinOn
import HandS.ForMost
import HandS.SetKeys
import HandS.More
import HandS.Conv
import HandS.Wide
import HandS.EndBits
import HandS.IsInst
import HandS.Flow
import HandS.Exc
import HandS.ExcInit
import HandS.WordsExc
import HandS.Star
import HandS.Defaults
import HandS.CallLocal
import HandS.NoneIn
import PyProof.DictUpdate
import PyProof.Tail
import PySem.Challenge.RW_askedfor_k09_large_types
import PyProof.ZipIter
import HandS.Zip
import KE.KItemsList
import HandS.Codes
import HandS.ExcIs
import HandS.ExcField
import HandS.ExcOwn
import KE.KExcIs
set_option Elab.async false
set_option linter.all false
namespace Km
theorem small6 {n : Nat} (h : n ≤ 100000) : n < PySem.sizeLine := Nat.lt_of_le_of_lt h (by decide)
end Km
namespace Km
open PySem PySem.Spec L2 PyProof.Rows
/-! ### order of texts -/
theorem lt_tr : ∀ {a b c : List Nat}, ltCps b a = false → ltCps c b = false → ltCps c a = false
  | [], [], [], _, _ => rfl
  | [], [], _ :: _, _, h => by simp [ltCps] at h ⊢
  | [], _ :: _, [], _, h => by simp [ltCps] at h
  | [], _ :: _, _ :: _, _, _ => by simp [ltCps]
  | _ :: _, [], [], h, _ => by simp [ltCps] at h
  | _ :: _, [], _ :: _, h, _ => by simp [ltCps] at h
  | _ :: _, _ :: _, [], _, h => by simp [ltCps] at h
  | x :: xs, y :: ys, z :: zs, h, h' => by
    simp only [ltCps, Bool.or_eq_false_iff, Bool.and_eq_false_iff, decide_eq_false_iff_not, beq_eq_false_iff_ne] at h h' ⊢
    obtain ⟨h1, h2⟩ := h
    obtain ⟨h3, h4⟩ := h'
    refine ⟨by omega, ?_⟩
    by_cases e : z = x
    · right
      have e1 : y = x := by omega
      have e2 : z = y := by omega
      exact lt_tr (h2.resolve_left fun q => q e1) (h4.resolve_left fun q => q e2)
    · exact .inl e
theorem lt_anti : ∀ {a b : List Nat}, ltCps a b = false → ltCps b a = false → a = b
  | [], [], _, _ => rfl
  | [], _ :: _, h, _ => by simp [ltCps] at h
  | _ :: _, [], _, h => by simp [ltCps] at h
  | x :: xs, y :: ys, h, h' => by
    simp only [ltCps, Bool.or_eq_false_iff, Bool.and_eq_false_iff, decide_eq_false_iff_not, beq_eq_false_iff_ne] at h h'
    obtain ⟨h1, h2⟩ := h
    obtain ⟨h3, h4⟩ := h'
    have e : x = y := by omega
    rw [e, lt_anti (h2.resolve_left fun q => q e) (h4.resolve_left fun q => q e.symm)]
def leS (a b : Str) : Prop := ltCps b.cps.toList a.cps.toList = false
theorem leS_tr {a b c : Str} (h : leS a b) (h' : leS b c) : leS a c := lt_tr h h'
theorem leS_anti {a b : Str} (h : leS a b) (h' : leS b a) : a = b := by
  have e : a.cps.toList = b.cps.toList := lt_anti h' h
  cases a
  cases b
  have e2 := congrArg List.toArray e
  simpa using e2
theorem rising_pw : ∀ {l : List Str} {p : Str}, risingS p l = true → (p :: l).Pairwise leS
  | [], p, _ => by simp
  | x :: r, p, h => by
    unfold risingS at h
    rw [Bool.and_eq_true] at h
    have h1 : leS p x := by
      unfold leS
      simpa using h.1
    have ih := rising_pw h.2
    refine List.Pairwise.cons (fun y hy => ?_) ih
    rcases List.mem_cons.mp hy with e | e
    · rw [e]; exact h1
    · exact leS_tr h1 ((List.pairwise_cons.mp ih).1 y e)
theorem sorted_pw {l : List Str} (h : sortedS l = true) : l.Pairwise leS := by
  cases l with
  | nil => exact List.Pairwise.nil
  | cons x r => exact rising_pw h
theorem pw_uniq : ∀ {l m : List Str}, l.Pairwise leS → m.Pairwise leS → l.Nodup → m.Nodup → (∀ s, s ∈ l ↔ s ∈ m) → l = m
  | [], [], _, _, _, _, _ => rfl
  | [], y :: m, _, _, _, _, h => by have := (h y).mpr (List.mem_cons_self ..); cases this
  | x :: l, [], _, _, _, _, h => by have := (h x).mp (List.mem_cons_self ..); cases this
  | x :: l, y :: m, h1, h2, n1, n2, h => by
    have p1 := List.pairwise_cons.mp h1
    have p2 := List.pairwise_cons.mp h2
    have q1 := List.nodup_cons.mp n1
    have q2 := List.nodup_cons.mp n2
    have e : x = y := by
      rcases List.mem_cons.mp ((h x).mp (List.mem_cons_self ..)) with e | e
      · exact e
      · rcases List.mem_cons.mp ((h y).mpr (List.mem_cons_self ..)) with e' | e'
        · exact e'.symm
        · exact leS_anti (p1.1 y e') (p2.1 x e)
    subst e
    rw [pw_uniq p1.2 p2.2 q1.2 q2.2 fun s => ?_]
    constructor
    · intro hs
      rcases List.mem_cons.mp ((h s).mp (List.mem_cons_of_mem _ hs)) with e | e
      · subst e; exact absurd hs q1.1
      · exact e
    · intro hs
      rcases List.mem_cons.mp ((h s).mpr (List.mem_cons_of_mem _ hs)) with e | e
      · subst e; exact absurd hs q2.1
      · exact e
/-! ### what must be in a row -/
inductive Must (S : Nat → Str → Prop) (E : Nat → Nat → List Str → Prop) : Nat → Str → Prop where
  | base {i s} : S i s → Must S E i s
  | step {i j s w} : Must S E i s → E i j w → s ∉ w → Must S E j s
theorem Must.mono {S S' : Nat → Str → Prop} {E E' : Nat → Nat → List Str → Prop} (hS : ∀ i s, S i s → S' i s) (hE : ∀ i j w, E i j w → E' i j w) {i : Nat} {s : Str} (h : Must S E i s) : Must S' E' i s := by
  induction h with
  | base h => exact .base (hS _ _ h)
  | step _ h n ih => exact .step ih (hE _ _ _ h) n
/-- the rows are the least ones -/
structure Least (n : Nat) (M : Nat → Str → Prop) (rows : List (List Str)) : Prop where
  len : rows.length = n
  pw : ∀ (i : Nat) (r : List Str), rows[i]? = some r → r.Pairwise leS
  nd : ∀ (i : Nat) (r : List Str), rows[i]? = some r → r.Nodup
  mem : ∀ (i : Nat) (r : List Str), rows[i]? = some r → ∀ s, s ∈ r ↔ M i s
theorem Least.uniq {n : Nat} {M : Nat → Str → Prop} {r r' : List (List Str)} (a : Least n M r) (b : Least n M r') : r = r' := by
  apply List.ext_getElem? 
  intro i
  cases e : r[i]? with
  | none =>
    have h1 := List.getElem?_eq_none_iff.mp e
    rw [a.len] at h1
    exact (List.getElem?_eq_none_iff.mpr (by rw [b.len]; exact h1)).symm
  | some x =>
    have h1 := (List.getElem?_eq_some_iff.mp e).1
    rw [a.len] at h1
    have h2 : i < r'.length := by rw [b.len]; exact h1
    rw [List.getElem?_eq_getElem h2]
    congr 1
    exact pw_uniq (a.pw i x e) (b.pw i _ (List.getElem?_eq_getElem h2)) (a.nd i x e) (b.nd i _ (List.getElem?_eq_getElem h2)) fun s =>
      (a.mem i x e s).trans (b.mem i _ (List.getElem?_eq_getElem h2) s).symm
theorem Least.congr {n : Nat} {M M' : Nat → Str → Prop} {r : List (List Str)} (a : Least n M r) (h : ∀ i s, M i s ↔ M' i s) : Least n M' r :=
  ⟨a.len, a.pw, a.nd, fun i r e s => (a.mem i r e s).trans (h i s)⟩
end Km


set_option Elab.async false
set_option linter.all false
set_option maxRecDepth 100000
set_option maxHeartbeats 4000000
namespace Ka
open PySem PySem.Spec L2 PyProof.Rows Km
/-! ### the text by places -/
def topS (i : Nat) : Stmt := PySem.Challenge.pw_askedfor_k09_large_types.main.body.getD i (.Pass ⟨0, 0, 0, 0⟩)
abbrev sInit : Stmt := inClass (topS 10) 0
abbrev sFresh : Stmt := inClass (topS 10) 1
abbrev sContain : Stmt := inClass (topS 10) 2
abbrev sFlow : Stmt := inClass (topS 10) 3
abbrev sSame : Stmt := inClass (topS 10) 4
abbrev sLeast : Stmt := inClass (topS 10) 5
abbrev sReached : Stmt := inClass (topS 10) 6
abbrev sState : Stmt := topS 35
abbrev sTake : Stmt := topS 36
/-! ### changes of the heap -/
structure Ch (F : Addr → Prop) (H H' : Hp) : Prop where
  keep : ∀ a o, H a = some o → ¬ F a → H' a = some o
  tup : ∀ a xs, H a = some (HO.tup xs) → H' a = some (HO.tup xs)
  dom : ∀ a o, H a = some o → ∃ o', H' a = some o'
abbrev F0 : Addr → Prop := fun _ => False
theorem Ch.refl (F : Addr → Prop) (H : Hp) : Ch F H H where
  keep := fun _ _ h _ => h
  tup := fun _ _ h => h
  dom := fun _ o h => ⟨o, h⟩
theorem Ch.trans {F F1 : Addr → Prop} {H H1 H2 : Hp} (a : Ch F H H1) (b : Ch F1 H1 H2) (hF : ∀ x, F1 x → F x ∨ H x = none) : Ch F H H2 :=
  { keep := fun x o h n => b.keep x o (a.keep x o h n) fun f => (hF x f).elim n (fun e => (by rw [h] at e; cases e))
    tup := fun x xs h => b.tup x xs (a.tup x xs h)
    dom := fun x o h => let ⟨o', h'⟩ := a.dom x o h; b.dom x o' h' }
theorem Ch.trans0 {F : Addr → Prop} {H H1 H2 : Hp} (a : Ch F H H1) (b : Ch F0 H1 H2) : Ch F H H2 := a.trans b fun _ f => f.elim
theorem Ch.mono {F F1 : Addr → Prop} {H H1 : Hp} (a : Ch F H H1) (hF : ∀ x, F x → F1 x) : Ch F1 H H1 := ⟨fun x o h n => a.keep x o h fun f => n (hF x f), a.tup, a.dom⟩
theorem Ch.same {H H1 : Hp} (a : Ch F0 H H1) : Same H H1 := fun b o h => a.keep b o h fun f => f
theorem ch_of_same {F : Addr → Prop} {H H1 : Hp} (a : Same H H1) : Ch F H H1 := ⟨fun x o h _ => a x o h, fun x xs h => a x _ h, fun x o h => ⟨o, a x o h⟩⟩
theorem Ch.free {F : Addr → Prop} {H H1 : Hp} (a : Ch F H H1) {x : Addr} (h : H1 x = none) : H x = none := by
  cases e : H x with
  | none => rfl
  | some o =>
    obtain ⟨o', h'⟩ := a.dom x o e
    rw [h'] at h
    cases h
theorem same_new {H : Hp} {p : Addr} {o : HO} (h : H p = none) : Same H (upd H p o) := fun b x e => by
  rw [upd_ne (ne_of_none e h)]
  exact e
theorem ch_new {F : Addr → Prop} {H : Hp} {p : Addr} {o : HO} (h : H p = none) : Ch F H (upd H p o) := ch_of_same (same_new h)
theorem ch_at {F : Addr → Prop} {H : Hp} {p : Addr} {o u : HO} (h : H p = some u) (hn : ∀ xs, u ≠ HO.tup xs) (hF : F p) : Ch F H (upd H p o) :=
  ⟨fun b x e n => by rw [upd_ne fun q => n (by rw [q]; exact hF)]; exact e, fun b xs e => by rw [upd_ne fun q => hn xs (by rw [q, h] at e; exact Option.some.inj e)]; exact e,
   fun b x e => by
    by_cases q : b = p
    · exact ⟨o, by rw [q, upd_same]⟩
    · exact ⟨x, by rw [upd_ne q]; exact e⟩⟩
theorem same_upd_at {H0 H : Hp} {p : Addr} {o : HO} (s : Same H0 H) (h : H0 p = none) : Same H0 (upd H p o) := fun b x e => by
  rw [upd_ne (ne_of_none e h)]
  exact s b x e
/-! ### facts of the top that are shared -/
section
variable {P : Program} {w : World} {K : PySem.W.Frag} {mg : Str → Option Value} {base : Heap}
/-! ### the state -/
def Bits (z : Int) : Prop := 0 ≤ z
def StAt (H : Hp) (s c : Addr) : Prop := ∃ (i : Int) (cs : List Int), H s = some (.lst [.int i, .ref c]) ∧ H c = some (.lst (cs.map V.int)) ∧ cs ≠ [] ∧ cs.length ≤ 63 ∧ ∀ z ∈ cs, Bits z
abbrev Fst (s c : Addr) : Addr → Prop := fun a => a = s ∨ a = c
theorem StAt.stay {F : Addr → Prop} {H H' : Hp} {s c : Addr} (h : StAt H s c) (k : Ch F H H') (hs : ¬ F s) (hc : ¬ F c) : StAt H' s c := by
  obtain ⟨i, cs, h1, h2, h3⟩ := h
  exact ⟨i, cs, k.keep _ _ h1 hs, k.keep _ _ h2 hc, h3⟩
def spTake : Sp := fun vs H Q _ => ∃ (s c : Addr) (m : Int), vs = [.ref s, .int m] ∧ 0 < m ∧ m < 1073741824 ∧ StAt H s c ∧
  ∀ (H' : Hp) (v : Int), StAt H' s c → Ch (Fst s c) H H' → 0 ≤ v → v < m → Q (.int v) H'
theorem scTake : FnScope ["_law_state_here", "_law_most", "_law_cells", "_law_at", "_law_cell", "_law_mixed"] ["_law_state_here", "_law_most"] (defScope sTake) := ⟨rfl, rfl, rfl, by decide +kernel, rfl, by decide +kernel, by decide +kernel⟩
theorem fdiv_bits {z m : Int} (h : Bits z) (hm : 0 < m) : Bits (z / m) := by
  exact Int.ediv_nonneg h (by omega)
theorem set_map {cs : List Int} {j : Nat} {z : Int} : (cs.map V.int).set j (.int z) = (cs.set j z).map V.int := by
  rw [List.map_set]
theorem st_ne {i : Int} {c : Addr} {cs : List Int} : HO.lst [V.int i, V.ref c] ≠ HO.lst (cs.map V.int) := by
  intro q
  have q2 := HO.lst.inj q
  cases cs with
  | nil => cases q2
  | cons x r =>
    cases r with
    | nil => simp at q2
    | cons y r => simp at q2
theorem ok_take {f : Addr} {fd : FuncData} (F : Fun K "_law_take" "_law_take" sTake f fd) (ml : mg "len" = none) (mi : mg "int" = none) : FnOk P w K mg base CX0 1 f fd ["_law_state_here", "_law_most"] spTake := by
  refine F.ok scTake (fun vs H Q E h => ?_) (fun cdv A outer s H vs Q E hr h => ?_)
  · obtain ⟨s, c, m, rfl, _⟩ := h
    rfl
  · obtain ⟨a, c, m, rfl, hm0, hm1, ⟨i, cs, hs, hc, hne, hlen, hb⟩, k⟩ := h
    refine ⟨_, pss_cons (ps_set (i := 2) scTake.nd rfl (Or.inl rfl) (pe_ix ix_list (pv 0) pe_int (fun _ _ => rfl)))
      (pss_cons (ps_set (i := 3) scTake.nd rfl (Or.inl rfl) (pe_op op_mod (pe_ix ix_list (pv 0) pe_int (fun _ _ => rfl)) (pe_callB call_len_seq (by rfl) ml PySem.boot_len (pa_cons (pv 2) pa_nil))))
      (pss_cons (ps_set (i := 4) scTake.nd rfl (Or.inl rfl) (pe_ix ix_list (pv 2) (pv 3) (fun _ _ => rfl)))
      (pss_cons (ps_if (pt_cmpR op_ge (pv 4) pe_int (nomark _))
        (pss_cons (ps_asg (pe_op op_fdivW (pv 4) (pv 1)) (pg_sub (pv 2) (pv 3) set_list))
          (pss_one (ps_ret (pe_op op_mod (pv 4) (pv 1))))) pss_nil)
      (pss_cons (ps_asg (pe_op op_add (pe_ix ix_list (pv 0) pe_int (fun _ _ => rfl)) pe_int) (pg_sub (pv 0) pe_int set_list))
      (pss_cons (ps_set (i := 5) scTake.nd rfl (Or.inl rfl) (pe_op op_mod (pe_callTy call_int1 (by rfl) mi (by decide +kernel) (pa_cons (pe_op op_add (pe_op op_mul (pv 4) pe_int) (pe_op op_mul (pe_ix ix_list (pv 0) pe_int (fun _ _ => rfl)) pe_int)) pa_nil)) pe_int))
      (pss_cons (ps_set (i := 5) scTake.nd rfl (Or.inl rfl) (pe_op op_mod (pe_callTy call_int1 (by rfl) mi (by decide +kernel) (pa_cons (pe_op op_add (pe_op op_mul (pv 5) pe_int) (pe_op op_mul (pe_ix ix_list (pv 0) pe_int (fun _ _ => rfl)) pe_int)) pa_nil)) pe_int))
      (pss_one (ps_ret (pe_op op_mod (pe_op op_fdivW (pv 5) pe_int) (pv 1)))))))))), ?_⟩
    have hcl : 0 < cs.length := by
      cases cs with
      | nil => exact absurd rfl hne
      | cons x r => exact Nat.succ_pos _
    -- cells = state[1]
    refine ⟨_, rfl, a, _, 1, _, rfl, rfl, SqL.of hs, atI_nat (j := 1) rfl, ?_⟩
    -- at = state[0] % len(cells)
    refine ⟨_, rfl, a, _, 0, _, rfl, rfl, SqL.of hs, atI_nat (j := 0) rfl, _, rfl, c, _, rfl, .inl (SqL.of hc), i, (cs.length : Int), rfl, (by rw [List.length_map]), (by omega), ?_⟩
    have r0 : 0 ≤ i % (cs.length : Int) := Int.emod_nonneg i (by omega)
    have r1 : i % (cs.length : Int) < (cs.length : Int) := Int.emod_lt_of_pos i (by omega)
    obtain ⟨j, hj⟩ : ∃ j : Nat, i % (cs.length : Int) = (j : Int) := ⟨(i % (cs.length : Int)).toNat, by omega⟩
    rw [hj] at r0 r1
    show gName 3 (.int (i % (cs.length : Int))) _ _ _
    rw [hj]
    have hjl : j < cs.length := by omega
    have hat : (cs.map V.int)[j]? = some (.int cs[j]) := by
      rw [List.getElem?_map, List.getElem?_eq_getElem hjl]
      rfl
    have hz : Bits cs[j] := hb _ (List.getElem_mem hjl)
    generalize cs[j] = z at hat hz
    -- cell = cells[at]
    refine ⟨_, rfl, _, rfl, c, _, _, _, rfl, rfl, SqL.of hc, atI_nat hat, ?_⟩
    -- if cell >= 10 ** 18
    refine ⟨_, rfl, _, _, rfl, rfl, _, rfl, ite2 (fun h => ?_) (fun h => ?_)⟩
    · have ac : a ≠ c := ne_of hs hc st_ne
      have hix : ixN (cs.map V.int).length (j : Int) = some j := by
        unfold ixN
        rw [List.length_map, if_pos (by omega), if_pos (by omega)]
        rfl
      refine ⟨_, rfl, _, rfl, _, _, rfl, rfl, wide_div (b := 30) hm0 (by omega) (by decide) (by decide), _, rfl, _, rfl, c, _, _, j, rfl, rfl, hc, hix, ?_⟩
      · refine ⟨_, rfl, _, rfl, _, _, rfl, rfl, by omega, ?_⟩
        refine k _ _ ⟨i, cs.set j (z / m), by rw [upd_ne ac]; exact hs, by rw [upd_same, set_map], ?_, ?_, ?_⟩ (ch_at hc (by intro xs q; cases q) (.inr rfl)) (Int.emod_nonneg _ (by omega)) (Int.emod_lt_of_pos _ hm0)
        · intro q
          have := congrArg List.length q
          rw [List.length_set] at this
          exact hne (List.length_eq_zero_iff.mp this)
        · rw [List.length_set]; exact hlen
        · intro y hy
          rcases List.mem_or_eq_of_mem_set hy with q | q
          · exact hb y q
          · rw [q]; exact fdiv_bits hz hm0
    · have hz1 : z < 1000000000000000000 := by
        have h2 : ¬ (decide ((1000000000000000000 : Int) ≤ z) = true) := h
        rw [decide_eq_true_eq] at h2
        omega
      have hz0 : 0 ≤ z := hz
      have ac : c ≠ a := (ne_of hs hc st_ne).symm
      -- state[0] = state[0] + 1
      refine ⟨_, rfl, a, _, 0, _, rfl, rfl, SqL.of hs, atI_nat (j := 0) rfl, _, _, rfl, rfl, _, rfl, a, _, _, 0, rfl, rfl, hs, rfl, ?_⟩
      have hs' : (upd H a (.lst [V.int (i + 1), V.ref c])) a = some (.lst [V.int (i + 1), V.ref c]) := upd_same
      -- mixed, twice
      refine ⟨_, rfl, _, _, rfl, rfl, .inl ⟨by omega, by omega⟩, _, rfl, a, _, 0, _, rfl, rfl, SqL.of hs', atI_nat (j := 0) rfl, _, _, rfl, rfl, .inr ⟨by decide, by decide⟩, _, _, rfl, rfl, .inl ⟨_, rfl, _, _, rfl, rfl, (by show (0 : Int) < 2147483647; decide), ?_⟩⟩
      have b1 : 0 ≤ (z * 48271 + (i + 1) * 69621) % 2147483647 := Int.emod_nonneg _ (by decide)
      have b2 : (z * 48271 + (i + 1) * 69621) % 2147483647 < 2147483647 := Int.emod_lt_of_pos _ (by decide)
      show gName 5 (.int ((z * 48271 + (i + 1) * 69621) % 2147483647)) _ _ _
      generalize (z * 48271 + (i + 1) * 69621) % 2147483647 = y at b1 b2
      refine ⟨_, rfl, _, _, rfl, rfl, .inl ⟨by omega, by omega⟩, _, rfl, a, _, 0, _, rfl, rfl, SqL.of hs', atI_nat (j := 0) rfl, _, _, rfl, rfl, .inr ⟨by decide, by decide⟩, _, _, rfl, rfl, .inl ⟨_, rfl, _, _, rfl, rfl, (by show (0 : Int) < 1000000007; decide), ?_⟩⟩
      refine ⟨_, rfl, _, _, rfl, rfl, ⟨by decide, by decide⟩, _, rfl, _, _, rfl, rfl, hm0, ?_⟩
      exact k _ _ ⟨i + 1, cs, hs', by rw [upd_ne ac]; exact hc, hne, hlen, hb⟩ (ch_at hs (by intro xs q; cases q) (.inl rfl)) (Int.emod_nonneg _ (by omega)) (Int.emod_lt_of_pos _ hm0)
end
end Ka


set_option Elab.async false
set_option linter.all false
set_option maxRecDepth 100000
set_option maxHeartbeats 4000000
namespace Ka
open PySem PySem.Spec L2 PyProof.Rows Km
section
variable {P : Program} {w : World} {K : PySem.W.Frag} {mg : Str → Option Value} {base : Heap}
theorem cut63 {xs : List V} (h : xs.length ≤ 63) : cutV xs none (some 63) = xs := by
  unfold cutV
  rw [HT.sIx_none, show HT.sIx xs.length xs.length (some 63) = min 63 xs.length from HT.sIx_nat xs.length _ 63, Nat.min_eq_right h]
  simp
theorem abs_bits {z : Int} : Bits (if z < 0 then -z else z) := by
  show 0 ≤ (if z < 0 then -z else z)
  split <;> omega
def spState (K : PySem.W.Frag) : Sp := fun vs H Q _ => ∃ (a : Addr) (ns : List Int), vs = [.ref a] ∧ SqL K H a (ns.map V.int) ∧ ns.length ≤ 63 ∧
  ∀ (H' : Hp) (s c : Addr), StAt H' s c → Same H H' → H s = none → H c = none → Q (.ref s) H'
theorem scState : FnScope ["_law_script", "_law_cells", "_law_cell"] ["_law_script"] (defScope sState) := ⟨rfl, rfl, rfl, by decide +kernel, rfl, by decide +kernel, by decide +kernel⟩
theorem ok_state {f : Addr} {fd : FuncData} (F : Fun K "_law_state" "_law_state" sState f fd) (ml : mg "len" = none) (ma : mg "abs" = none) : FnOk P w K mg base CX0 1 f fd ["_law_script"] (spState K) := by
  refine F.ok scState (fun vs H Q E h => ?_) (fun cdv A outer s H vs Q E hr h => ?_)
  · obtain ⟨a, ns, rfl, _⟩ := h
    rfl
  · obtain ⟨a, ns, rfl, hS, hlen, k⟩ := h
    refine ⟨_, pss_cons (ps_setLc (i := 1) (own := [("_law_cell", 2)]) (g := gName 2) (tt := tYes) rfl scState.nd rfl rfl (sw_true rfl rfl rfl (by decide +kernel)) (pi_list (pe_slice sl_list (pv 0) po_none (po_some pe_int)))
        (blkOk_by (N := ["_law_script", "_law_cells", "_law_cell"]) (sc := defScope sState) (by decide +kernel)) (fun _ _ _ _ _ => pg_name (i := 2) scState.nd rfl (Or.inl rfl)) (fun _ _ _ _ _ => pts_nil)
        (fun _ _ _ _ _ => pe_callB call_abs (by rfl) ma (by decide +kernel) (pa_cons (pv 2) pa_nil)))
      (pss_cons (ps_if (pt_cmpR op_eq (pe_callB call_len_seq (by rfl) ml PySem.boot_len (pa_cons (pv 1) pa_nil)) pe_int (nomark _))
        (pss_one (ps_set (i := 1) scState.nd rfl (Or.inl rfl) (pe_lst (pa_cons pe_int pa_nil)))) pss_nil)
      (pss_one (ps_ret (pe_lst (pa_cons pe_int (pa_cons (pv 1) pa_nil)))))), ?_⟩
    -- script[:63]
    refine ⟨_, rfl, 63, rfl, a, ns.map V.int, rfl, hS, fun p np => ?_⟩
    have ec : cutV (ns.map V.int) none (some 63) = ns.map V.int := cut63 (by rw [List.length_map]; exact hlen)
    have s1 : Same H (upd H p (.lst (cutV (ns.map V.int) none (some 63)))) := same_new np
    refine ⟨p, rfl, ⟨_, SqL.of upd_same⟩, fun D hD => ?_⟩
    have nDp : D ≠ p := fun q => by
      rw [q, upd_same] at hD
      cases hD
    have hD0 : H D = none := s1.free hD
    refine lc_list (K := K) (a := p) (xs := ns.map V.int) (fun i H2 => Same H H2 ∧ H2 p = some (.lst (ns.map V.int)) ∧ H2 D = some (.lst (((ns.take i).map fun z : Int => if z < 0 then -z else z).map V.int))) ⟨?_, ?_, ?_⟩ (fun i H2 _ q => SqL.of q.2.1) ?_ ?_
    · exact s1.trans (same_new hD)
    · rw [upd_ne nDp.symm, upd_same, ec]
    · rw [upd_same]
      rfl
    · rintro i x H2 hi ⟨q1, q2, q3⟩
      rw [List.getElem?_map] at hi
      cases e : ns[i]? with
      | none =>
        rw [e] at hi
        cases hi
      | some z =>
        rw [e] at hi
        obtain rfl : V.int z = x := Option.some.inj hi
        refine ⟨rfl, _, rfl, z, rfl, _, q3, ?_, ?_, ?_, ?_⟩
        · rw [List.length_map, List.length_map, List.length_take]
          exact Nat.lt_of_le_of_lt (Nat.min_le_left _ _) (small6 (by have := (List.getElem?_eq_some_iff.mp e).1; omega))
        · exact fun b o h => by
            rw [upd_ne (ne_of_none h hD0)]
            exact q1 b o h
        · rw [upd_ne nDp.symm]
          exact q2
        · rw [upd_same, List.take_add_one, e, List.map_append, List.map_append]
          rfl
    · rintro H2 ⟨q1, q2, q3⟩
      rw [List.length_map, List.take_length] at q3
      -- if len(cells) == 0
      refine ⟨_, rfl, D, _, rfl, .inl (SqL.of q3), rfl, _, rfl, ite2 (fun e => ?_) (fun e => ?_)⟩
      · refine ⟨by decide, fun c hc => ?_⟩
        refine ⟨_, rfl, by show 2 ≤ sizeLine; decide, fun s hs => ?_⟩
        refine k _ s c ⟨0, [0], upd_same, ?_, by decide, by decide, ?_⟩ ?_ ?_ ?_
        · rw [upd_ne fun q => ?_, upd_same]
          · rfl
          · rw [q, upd_same] at hs
            cases hs
        · intro z hz
          rw [List.mem_singleton.mp hz]
          exact Int.le_refl _
        · exact (q1.trans (same_new hc)).trans (same_new hs)
        · exact (q1.trans (same_new hc)).free hs
        · exact q1.free hc
      · refine ⟨_, rfl, by show 2 ≤ sizeLine; decide, fun s hs => ?_⟩
        have e0 : ns ≠ [] := fun q => by
          subst q
          exact e (decide_eq_true rfl)
        refine k _ s D ⟨0, ns.map fun z : Int => if z < 0 then -z else z, upd_same, ?_, ?_, ?_, ?_⟩ (q1.trans (same_new hs)) (q1.free hs) hD0
        · rw [upd_ne (ne_of_none q3 hs)]
          exact q3
        · intro q
          exact e0 (List.map_eq_nil_iff.mp q)
        · rw [List.length_map]; exact hlen
        · intro y hy
          obtain ⟨z, hz, rfl⟩ := List.mem_map.mp hy
          exact abs_bits
end
end Ka


set_option Elab.async false
set_option linter.all false
set_option maxRecDepth 100000
set_option maxHeartbeats 4000000
namespace Ka
open PySem PySem.Spec L2 PyProof.Rows Km
/-! ### pairs of lists, by their places -/
theorem pr_get {α β : Type} {R : α → β → Prop} : ∀ {as : List α} {bs : List β} {i : Nat} {a : α}, Paired R as bs → as[i]? = some a → ∃ b, bs[i]? = some b ∧ R a b
  | _, _, i, a, .nil, h => by simp at h
  | _, _, 0, a, .cons (b := b) h1 _, h => ⟨b, rfl, by have e := Option.some.inj h; rw [← e]; exact h1⟩
  | _, _, i + 1, a, .cons _ t, h => by
    obtain ⟨b, hb, r⟩ := pr_get (i := i) t (by simpa using h)
    exact ⟨b, by simpa using hb, r⟩
theorem pr_get' {α β : Type} {R : α → β → Prop} : ∀ {as : List α} {bs : List β} {i : Nat} {b : β}, Paired R as bs → bs[i]? = some b → ∃ a, as[i]? = some a ∧ R a b
  | _, _, i, b, .nil, h => by simp at h
  | _, _, 0, b, .cons (a := a) h1 _, h => ⟨a, rfl, by have e := Option.some.inj h; rw [← e]; exact h1⟩
  | _, _, i + 1, b, .cons _ t, h => by
    obtain ⟨a, ha, r⟩ := pr_get' (i := i) t (by simpa using h)
    exact ⟨a, by simpa using ha, r⟩
theorem pr_ix {α β : Type} {R : α → β → Prop} : ∀ {as : List α} {bs : List β}, as.length = bs.length → (∀ (i : Nat) a b, as[i]? = some a → bs[i]? = some b → R a b) → Paired R as bs
  | [], [], _, _ => .nil
  | [], _ :: _, h, _ => by simp at h
  | _ :: _, [], h, _ => by simp at h
  | a :: as, b :: bs, h, k => .cons (k 0 a b rfl rfl) (pr_ix (by simpa using h) fun i x y hx hy => k (i + 1) x y (by simpa using hx) (by simpa using hy))
theorem pr_both {α β : Type} {R : α → β → Prop} {as : List α} {bs : List β} {i : Nat} {a : α} {b : β} (h : Paired R as bs) (ha : as[i]? = some a) (hb : bs[i]? = some b) : R a b := by
  obtain ⟨b', e, r⟩ := pr_get h ha
  rw [hb] at e
  rw [Option.some.inj e]
  exact r
theorem pr_mono {α β : Type} {R R' : α → β → Prop} {as : List α} {bs : List β} (h : Paired R as bs) (k : ∀ a b, a ∈ as → b ∈ bs → R a b → R' a b) : Paired R' as bs :=
  pr_ix h.length fun i a b ha hb => k a b (List.mem_of_getElem? ha) (List.mem_of_getElem? hb) (pr_both h ha hb)
theorem pr_set {α β : Type} {R R' : α → β → Prop} {as : List α} {bs : List β} {i : Nat} {a : α} {y : β} (h : Paired R as bs) (hn : as.Nodup) (ha : as[i]? = some a) (hy : R' a y) (k : ∀ x b, x ≠ a → R x b → R' x b) : Paired R' as (bs.set i y) := by
  refine pr_ix (by rw [List.length_set]; exact h.length) fun j x b hx hb => ?_
  by_cases e : i = j
  · subst e
    rw [ha] at hx
    cases Option.some.inj hx
    have hl : i < bs.length := by
      rw [← h.length]
      exact (List.getElem?_eq_some_iff.mp ha).1
    rw [List.getElem?_set_self hl] at hb
    cases Option.some.inj hb
    exact hy
  · rw [List.getElem?_set_ne e] at hb
    refine k x b (fun q => e ?_) (pr_both h hx hb)
    subst q
    exact nd_ix hn ha hx
/-! ### a list of lists -/
structure LL (H : Hp) (L : Addr) (as : List Addr) (xss : List (List V)) : Prop where
  nd : (L :: as).Nodup
  top : H L = some (HO.lst (as.map V.ref))
  its : Paired (fun a xs => H a = some (HO.lst xs)) as xss
theorem LL.stay {F : Addr → Prop} {H H' : Hp} {L : Addr} {as : List Addr} {xss : List (List V)} (h : LL H L as xss) (k : Ch F H H') (n : ∀ a, a ∈ L :: as → ¬ F a) : LL H' L as xss :=
  ⟨h.nd, k.keep _ _ h.top (n _ (List.mem_cons_self ..)), pr_mono h.its fun a b ha _ r => k.keep _ _ r (n a (List.mem_cons_of_mem _ ha))⟩
theorem LL.set {H : Hp} {L a : Addr} {as : List Addr} {xss : List (List V)} {i : Nat} {ys : List V} (h : LL H L as xss) (ha : as[i]? = some a) : LL (upd H a (.lst ys)) L as (xss.set i ys) := by
  have n := List.nodup_cons.mp h.nd
  refine ⟨h.nd, ?_, pr_set h.its n.2 ha upd_same fun x b hx r => by rw [upd_ne hx]; exact r⟩
  rw [upd_ne fun q => n.1 (by rw [q]; exact List.mem_of_getElem? ha)]
  exact h.top
theorem LL.tracked {H : Hp} {L : Addr} {as : List Addr} {xss : List (List V)} (h : LL H L as xss) {a : Addr} (ha : a ∈ L :: as) : ∃ xs, H a = some (HO.lst xs) := by
  rcases List.mem_cons.mp ha with e | e
  · exact ⟨_, by rw [e]; exact h.top⟩
  · obtain ⟨i, hi⟩ := List.getElem?_of_mem e
    obtain ⟨b, _, r⟩ := pr_get h.its hi
    exact ⟨b, r⟩
theorem LL.push {H : Hp} {L q : Addr} {as : List Addr} {xss : List (List V)} {ys : List V} (h : LL H L as xss) (hq : H q = none) : LL (upd (upd H q (.lst ys)) L (.lst (as.map V.ref ++ [V.ref q]))) L (as ++ [q]) (xss ++ [ys]) := by
  have n := List.nodup_cons.mp h.nd
  have qn : q ∉ L :: as := fun m => by
    obtain ⟨xs, e⟩ := h.tracked m
    rw [hq] at e
    cases e
  have qL : q ≠ L := fun e => qn (by rw [e]; exact List.mem_cons_self ..)
  refine ⟨?_, ?_, ?_⟩
  · refine List.nodup_cons.mpr ⟨fun m => ?_, ?_⟩
    · rcases List.mem_append.mp m with m | m
      · exact n.1 m
      · exact qL (List.mem_singleton.mp m).symm
    · exact List.nodup_append.mpr ⟨n.2, by simp, fun x hx y hy e => qn (by rw [List.mem_singleton.mp hy] at e; rw [← e]; exact List.mem_cons_of_mem _ hx)⟩
  · rw [upd_same, List.map_append]
    rfl
  · refine Paired.snoc (pr_mono h.its fun a b ha _ r => ?_) ?_
    · rw [upd_ne fun e => n.1 (by rw [← e]; exact ha), upd_ne (ne_of_none r hq)]
      exact r
    · rw [upd_ne qL, upd_same]
/-! ### the rows -/
abbrev nv (n : Nat) : V := .int (n : Int)
def FlowAt (H : Hp) (v : V) (f : Nat × List Str) : Prop := ∃ t u, v = .ref t ∧ H t = some (HO.tup [nv f.1, .ref u]) ∧ H u = some (HO.tup (f.2.map V.str))
theorem FlowAt.stay {F : Addr → Prop} {H H' : Hp} {v : V} {f : Nat × List Str} (h : FlowAt H v f) (k : Ch F H H') : FlowAt H' v f := by
  obtain ⟨t, u, e, h1, h2⟩ := h
  exact ⟨t, u, e, k.tup _ _ h1, k.tup _ _ h2⟩
def pf (l d : Addr) : List (Str × V) := putF "holders" (.ref d) (putF "targets" (.ref l) [])
theorem th_ : ¬ (("targets" : Str) = "holders") := by decide +kernel
theorem ht_ : ¬ (("holders" : Str) = "targets") := by decide +kernel
theorem pf_targets (l d : Addr) : (pf l d).lookup ("targets" : Str) = some (.ref l) := by
  unfold pf
  rw [lookup_putF, if_neg th_, lookup_putF, if_pos rfl]
theorem pf_holders (l d : Addr) : (pf l d).lookup ("holders" : Str) = some (.ref d) := by
  unfold pf
  rw [lookup_putF, if_pos rfl]
theorem pf_no (l d : Addr) {m : Str} (h1 : ¬ m = "holders") (h2 : ¬ m = "targets") : (pf l d).lookup m = none := by
  unfold pf
  rw [lookup_putF, if_neg h1, lookup_putF, if_neg h2]
  all_goals rfl
def kvD (D : List (Str × Addr)) : List (Key × V) := D.map fun e => (Sum.inr e.1, V.ref e.2)
def HoldAt (H : Hp) (e : Str × Addr) (h : Str × List Nat) : Prop := e.1 = h.1 ∧ H e.2 = some (HO.lst (h.2.map nv))
/-- what the rows hold: their lists, and what they say -/
structure RwIn (C : Addr) (H : Hp) (p dx lt ld : Addr) (as : List Addr) (vss : List (List V)) (D : List (Str × Addr)) (ts : List (List (Nat × List Str))) (hs : List (Str × List Nat)) : Prop where
  ins : H p = some (HO.ins C dx (pf lt ld))
  ll : LL H lt as vss
  fl : Paired (fun vs fs => Paired (FlowAt H) vs fs) vss ts
  dic : H ld = some (HO.dK (kvD D))
  hol : Paired (HoldAt H) D hs
  keys : (D.map (·.1)).Nodup
  adr : (D.map (·.2)).Nodup
  off : ∀ a, a ∈ D.map (·.2) → a ∉ lt :: as
structure RwMath (ts : List (List (Nat × List Str))) (hs : List (Str × List Nat)) (n : Nat) (S : Nat → Str → Prop) (E : Nat → Nat → List Str → Prop) (B : Nat) : Prop where
  hn : ts.length = n
  hS : ∀ i s, S i s ↔ ∃ is, (s, is) ∈ hs ∧ i ∈ is
  hE : ∀ i j w, E i j w ↔ ∃ fs, ts[i]? = some fs ∧ (j, w) ∈ fs
  hSn : ∀ i s, S i s → i < n
  hEn : ∀ i j w, E i j w → j < n
  bt : ∀ fs ∈ ts, fs.length ≤ B
  bh : hs.length ≤ 60
  bi : ∀ h ∈ hs, h.2.length ≤ B
abbrev FRw (p lt ld : Addr) (as : List Addr) (D : List (Str × Addr)) : Addr → Prop := fun a => a = p ∨ a = ld ∨ a ∈ lt :: as ∨ a ∈ D.map (·.2)
def RwAt (C : Addr) (H : Hp) (p : Addr) (n : Nat) (S : Nat → Str → Prop) (E : Nat → Nat → List Str → Prop) (B : Nat) (F : Addr → Prop) : Prop :=
  ∃ dx lt ld as vss D ts hs, RwIn C H p dx lt ld as vss D ts hs ∧ RwMath ts hs n S E B ∧ F = FRw p lt ld as D
theorem RwIn.tracked {C : Addr} {H : Hp} {p dx lt ld : Addr} {as : List Addr} {vss : List (List V)} {D : List (Str × Addr)} {ts : List (List (Nat × List Str))} {hs : List (Str × List Nat)} (h : RwIn C H p dx lt ld as vss D ts hs) {a : Addr} (m : FRw p lt ld as D a) : ∃ o, H a = some o ∧ ∀ xs, o ≠ HO.tup xs := by
  rcases m with e | e | e | e
  · exact ⟨_, by rw [e]; exact h.ins, fun xs q => by cases q⟩
  · exact ⟨_, by rw [e]; exact h.dic, fun xs q => by cases q⟩
  · obtain ⟨xs, r⟩ := h.ll.tracked e
    exact ⟨_, r, fun xs q => by cases q⟩
  · obtain ⟨d, hd, rfl⟩ := List.mem_map.mp e
    obtain ⟨i, hi⟩ := List.getElem?_of_mem hd
    obtain ⟨b, _, r⟩ := pr_get h.hol hi
    exact ⟨_, r.2, fun xs q => by cases q⟩
theorem RwAt.tracked {C : Addr} {H : Hp} {p : Addr} {n : Nat} {S : Nat → Str → Prop} {E : Nat → Nat → List Str → Prop} {B : Nat} {F : Addr → Prop} (h : RwAt C H p n S E B F) {a : Addr} (m : F a) : ∃ o, H a = some o ∧ ∀ xs, o ≠ HO.tup xs := by
  obtain ⟨dx, lt, ld, as, vss, D, ts, hs, hi, _, rfl⟩ := h
  exact hi.tracked m
theorem RwIn.stay {F : Addr → Prop} {C : Addr} {H H' : Hp} {p dx lt ld : Addr} {as : List Addr} {vss : List (List V)} {D : List (Str × Addr)} {ts : List (List (Nat × List Str))} {hs : List (Str × List Nat)} (h : RwIn C H p dx lt ld as vss D ts hs) (k : Ch F H H') (n : ∀ a, FRw p lt ld as D a → ¬ F a) : RwIn C H' p dx lt ld as vss D ts hs where
  ins := k.keep _ _ h.ins (n _ (.inl rfl))
  ll := h.ll.stay k fun a ha => n a (.inr (.inr (.inl ha)))
  fl := pr_mono h.fl fun vs fs _ _ r => pr_mono r fun v f _ _ r => r.stay k
  dic := k.keep _ _ h.dic (n _ (.inr (.inl rfl)))
  hol := pr_mono h.hol fun e b he _ r => ⟨r.1, k.keep _ _ r.2 (n _ (.inr (.inr (.inr (List.mem_map_of_mem he)))))⟩
  keys := h.keys
  adr := h.adr
  off := h.off
theorem RwAt.stay {F F' : Addr → Prop} {C : Addr} {H H' : Hp} {p : Addr} {n : Nat} {S : Nat → Str → Prop} {E : Nat → Nat → List Str → Prop} {B : Nat} (h : RwAt C H p n S E B F) (k : Ch F' H H') (d : ∀ a, F a → ¬ F' a) : RwAt C H' p n S E B F := by
  obtain ⟨dx, lt, ld, as, vss, D, ts, hs, hi, hm, rfl⟩ := h
  exact ⟨dx, lt, ld, as, vss, D, ts, hs, hi.stay k d, hm, rfl⟩
end Ka


set_option Elab.async false
set_option linter.all false
set_option maxRecDepth 100000
set_option maxHeartbeats 4000000
namespace Ka
open PySem PySem.Spec L2 PyProof.Rows Km
structure Txt (K : PySem.W.Frag) (mg : Str → Option Value) (C : Addr) : Prop where
  cl : Cls K C
  nT : NoAttr K C "targets"
  nH : NoAttr K C "holders"
  mgC : mg "Rows" = some (.ref C)
  len : mg "len" = none
  tup : mg "tuple" = none
  srt : mg "sorted" = none
  lst : mg "list" = none
abbrev NoS : Nat → Str → Prop := fun _ _ => False
abbrev NoE : Nat → Nat → List Str → Prop := fun _ _ _ => False
/-- an operation's way out: the rows changed, all else as it was -/
def RwOut (C : Addr) (H : Hp) (p : Addr) (n : Nat) (S : Nat → Str → Prop) (E : Nat → Nat → List Str → Prop) (B : Nat) (F : Addr → Prop) (Q : Hp → Prop) : Prop :=
  ∀ (H' : Hp) (F' : Addr → Prop), RwAt C H' p n S E B F' → Ch F H H' → (∀ a, F' a → F a ∨ H a = none) → Q H'
def spInit (C : Addr) : Sp := fun vs H Q _ => ∃ (H0 : Hp) (p dx : Addr), vs = [.ref p] ∧ Same H0 H ∧ H0 p = none ∧ H p = some (.ins C dx []) ∧
  ∀ (H' : Hp) (F' : Addr → Prop), RwAt C H' p 0 NoS NoE 0 F' → Same H0 H' → (∀ a, F' a → H0 a = none) → Q .non H'
def spFresh (C : Addr) : Sp := fun vs H Q _ => ∃ (p : Addr) (n : Nat) (S : Nat → Str → Prop) (E : Nat → Nat → List Str → Prop) (B : Nat) (F : Addr → Prop), vs = [.ref p] ∧ RwAt C H p n S E B F ∧ n < 100 ∧
  RwOut C H p (n + 1) S E B F fun H' => Q (nv n) H'
def spFlow (C : Addr) (K : PySem.W.Frag) : Sp := fun vs H Q _ => ∃ (p u : Addr) (n : Nat) (S : Nat → Str → Prop) (E : Nat → Nat → List Str → Prop) (B : Nat) (F : Addr → Prop) (i j : Nat) (w : List Str), vs = [.ref p, nv i, nv j, .ref u] ∧ RwAt C H p n S E B F ∧ B < 1000 ∧ i < n ∧ j < n ∧ SqL K H u (w.map V.str) ∧
  RwOut C H p n S (fun a b x => E a b x ∨ (a = i ∧ b = j ∧ x = w)) (B + 1) F fun H' => Q .non H'
def spSame (C : Addr) : Sp := fun vs H Q _ => ∃ (p : Addr) (n : Nat) (S : Nat → Str → Prop) (E : Nat → Nat → List Str → Prop) (B : Nat) (F : Addr → Prop) (i j : Nat), vs = [.ref p, nv i, nv j] ∧ RwAt C H p n S E B F ∧ B < 900 ∧ i < n ∧ j < n ∧
  RwOut C H p n S (fun a b x => (E a b x ∨ (a = i ∧ b = j ∧ x = [])) ∨ (a = j ∧ b = i ∧ x = [])) (B + 2) F fun H' => Q .non H'
def spContain (C : Addr) : Sp := fun vs H Q _ => ∃ (p : Addr) (n : Nat) (S : Nat → Str → Prop) (E : Nat → Nat → List Str → Prop) (B : Nat) (F : Addr → Prop) (i : Nat) (s : Str), vs = [.ref p, nv i, .str s] ∧ RwAt C H p n S E B F ∧ B < 1000 ∧ i < n ∧
  RwOut C H p n (fun a x => S a x ∨ (a = i ∧ x = s)) E (B + 1) F fun H' => Q .non H'
section
variable {P : Program} {w : World} {K : PySem.W.Frag} {mg : Str → Option Value} {base : Heap}
theorem scInit : FnScope ["self"] ["self"] (defScope sInit) := ⟨rfl, rfl, rfl, by decide +kernel, rfl, by decide +kernel, by decide +kernel⟩
theorem ok_init {f C : Addr} {fd : FuncData} (F : Fun K "__init__" "Rows.__init__" sInit f fd) (T : Txt K mg C) : FnOk P w K mg base CX0 1 f fd ["self"] (spInit C) := by
  refine F.ok scInit (fun vs H Q E h => ?_) (fun cdv A outer s H vs Q E hr h => ?_)
  · obtain ⟨H0, p, dx, rfl, _⟩ := h
    rfl
  · obtain ⟨H0, p, dx, rfl, s0, p0, hp, k⟩ := h
    refine ⟨_, pss_cons (ps_fld (pv 0) (pe_lst pa_nil) rfl) (pss_one (ps_fld (pv 0) pe_dnewK rfl)), ?_⟩
    refine ⟨Nat.zero_le _, fun l hl => ?_⟩
    have npl : p ≠ l := ne_of_none hp hl
    refine ⟨_, rfl, p, C, dx, [], rfl, (by rw [upd_ne npl]; exact hp), T.cl, T.nT, (by show 0 < 1000; decide), fun d hd => ?_⟩
    have hdp : d ≠ p := fun q => by rw [q, upd_same] at hd; cases hd
    have hdl : d ≠ l := fun q => by rw [q, upd_ne npl.symm, upd_same] at hd; cases hd
    have hd0 : H d = none := by rw [upd_ne hdp, upd_ne hdl] at hd; exact hd
    refine ⟨_, rfl, p, C, dx, _, rfl, (by rw [upd_ne hdp.symm, upd_same]), T.cl, T.nH, (by show 1 < 1000; decide), ?_⟩
    refine k _ (FRw p l d [] []) ⟨dx, l, d, [], [], [], [], [], ⟨upd_same, ⟨by simp, ?_, .nil⟩, .nil, ?_, .nil, by simp, by simp, by simp⟩, ⟨rfl, by simp, by simp, fun _ _ q => q.elim, fun _ _ _ q => q.elim, by simp, Nat.zero_le _, by simp⟩, rfl⟩ ?_ ?_
    · rw [upd_ne npl.symm, upd_ne hdl.symm, upd_ne npl.symm, upd_same]
      rfl
    · rw [upd_ne hdp, upd_same]
      rfl
    · exact same_upd_at (same_upd_at (same_upd_at (same_upd_at s0 (s0.free hl)) p0) (s0.free hd0)) p0
    · rintro a (e | e | e | e)
      · rw [e]; exact p0
      · rw [e]; exact s0.free hd0
      · rw [List.mem_singleton.mp e]; exact s0.free hl
      · cases e
theorem scFresh : FnScope ["self"] ["self"] (defScope sFresh) := ⟨rfl, rfl, rfl, by decide +kernel, rfl, by decide +kernel, by decide +kernel⟩
theorem ok_fresh {f C : Addr} {fd : FuncData} (F : Fun K "fresh" "Rows.fresh" sFresh f fd) (T : Txt K mg C) : FnOk P w K mg base CX0 1 f fd ["self"] (spFresh C) := by
  refine F.ok scFresh (fun vs H Q E h => ?_) (fun cdv A outer s H vs Q E hr h => ?_)
  · obtain ⟨p, n, S, E, B, F, rfl, _⟩ := h
    rfl
  · obtain ⟨p, n, S, E, B, F, rfl, ⟨dx, lt, ld, as, vss, D, ts, hs, hi, hm, rfl⟩, hn, k⟩ := h
    refine ⟨_, pss_cons (ps_expr (pe_bm PySem.F.plainAttrs_list PySem.F.slot_list_append PySem.F.type_list_append mt_append (pe_fld (pv 0) rfl) (pa_cons (pe_lst pa_nil) pa_nil)))
      (pss_one (ps_ret (pe_op op_sub (pe_callB call_len_seq (by rfl) T.len PySem.boot_len (pa_cons (pe_fld (pv 0) rfl) pa_nil)) pe_int))), ?_⟩
    have elen : as.length = n := by rw [hi.ll.its.length, hi.fl.length, hm.hn]
    refine ⟨_, rfl, p, C, dx, _, _, rfl, hi.ins, T.cl, T.nT, pf_targets _ _, .inl ⟨rfl, _, SqL.of hi.ll.top⟩, Nat.zero_le _, fun q hq => ?_⟩
    have nlq : lt ≠ q := ne_of_none hi.ll.top hq
    have npq : p ≠ q := ne_of_none hi.ins hq
    have npl : p ≠ lt := ne_of hi.ins hi.ll.top (by intro z; cases z)
    refine ⟨lt, _, _, rfl, rfl, (by rw [upd_ne nlq]; exact hi.ll.top), (by rw [List.length_map, elen]; exact small6 (by omega)), ?_⟩
    have hll := hi.ll.push (ys := []) hq
    have hins : (upd (upd H q (.lst [])) lt (.lst (as.map V.ref ++ [V.ref q]))) p = some (.ins C dx (pf lt ld)) := by
      rw [upd_ne npl, upd_ne npq]
      exact hi.ins
    have hch : Ch (FRw p lt ld as D) H (upd (upd H q (.lst [])) lt (.lst (as.map V.ref ++ [V.ref q]))) :=
      (ch_new (F := F0) hq).mono (fun _ f => f.elim) |>.trans (ch_at (F := FRw p lt ld as D) (by rw [upd_ne nlq]; exact hi.ll.top) (by intro xs z; cases z) (.inr (.inr (.inl (List.mem_cons_self ..))))) fun x f => .inl f
    refine ⟨_, rfl, p, C, dx, _, _, rfl, hins, T.cl, T.nT, pf_targets _ _, lt, _, rfl, .inl (SqL.of upd_same), _, _, rfl, rfl, ?_⟩
    have ev : (((as.map V.ref ++ [V.ref q]).length : Nat) : Int) - 1 = (n : Int) := by
      rw [List.length_append, List.length_map, elen]
      simp
    show Q (.int ((((as.map V.ref ++ [V.ref q]).length : Nat) : Int) - 1)) _
    rw [ev]
    have hqF : ¬ FRw p lt ld as D q := fun m => by
      obtain ⟨o, e, _⟩ := hi.tracked m
      rw [hq] at e
      cases e
    refine k _ (FRw p lt ld (as ++ [q]) D) ⟨dx, lt, ld, as ++ [q], vss ++ [[]], D, ts ++ [[]], hs, ⟨hins, hll, ?_, ?_, ?_, hi.keys, hi.adr, ?_⟩, ⟨?_, hm.hS, ?_, ?_, ?_, ?_, hm.bh, hm.bi⟩, rfl⟩ hch ?_
    · exact Paired.snoc (pr_mono hi.fl fun vs fs _ _ r => pr_mono r fun v f _ _ r => r.stay hch) .nil
    · have nd1 : ld ≠ lt := ne_of hi.dic hi.ll.top (by intro z; cases z)
      rw [upd_ne nd1, upd_ne (ne_of_none hi.dic hq)]
      exact hi.dic
    · refine pr_mono hi.hol fun e b he _ r => ⟨r.1, ?_⟩
      have h1 := hi.off _ (List.mem_map_of_mem he)
      rw [upd_ne fun z => h1 (by rw [z]; exact List.mem_cons_self ..), upd_ne (ne_of_none r.2 hq)]
      exact r.2
    · intro a ha m
      have h1 := hi.off a ha
      rcases List.mem_cons.mp m with e | e
      · exact h1 (by rw [e]; exact List.mem_cons_self ..)
      · rcases List.mem_append.mp e with e | e
        · exact h1 (List.mem_cons_of_mem _ e)
        · exact hqF (.inr (.inr (.inr (by rw [← List.mem_singleton.mp e]; exact ha))))
    · rw [List.length_append, hm.hn]
      rfl
    · intro i j x
      rw [hm.hE]
      constructor
      · rintro ⟨fs, h1, h2⟩
        exact ⟨fs, by rw [List.getElem?_append_left (List.getElem?_eq_some_iff.mp h1).1]; exact h1, h2⟩
      · rintro ⟨fs, h1, h2⟩
        by_cases hl : i < ts.length
        · rw [List.getElem?_append_left hl] at h1
          exact ⟨fs, h1, h2⟩
        · rw [List.getElem?_append_right (by omega)] at h1
          have := List.mem_of_getElem? h1
          rw [List.mem_singleton.mp this] at h2
          cases h2
    · intro i s h
      have := hm.hSn i s h
      omega
    · intro i j x h
      have := hm.hEn i j x h
      omega
    · intro fs h
      rcases List.mem_append.mp h with h | h
      · exact hm.bt fs h
      · rw [List.mem_singleton.mp h]
        exact Nat.zero_le _
    · rintro a (e | e | e | e)
      · exact .inl (.inl e)
      · exact .inl (.inr (.inl e))
      · rcases List.mem_cons.mp e with e | e
        · exact .inl (.inr (.inr (.inl (by rw [e]; exact List.mem_cons_self ..))))
        · rcases List.mem_append.mp e with e | e
          · exact .inl (.inr (.inr (.inl (List.mem_cons_of_mem _ e))))
          · right
            rw [List.mem_singleton.mp e]
            exact hq
      · exact .inl (.inr (.inr (.inr e)))
end
end Ka


set_option Elab.async false
set_option linter.all false
set_option maxRecDepth 100000
set_option maxHeartbeats 4000000
namespace Ka
open PySem PySem.Spec L2 PyProof.Rows Km
section
variable {P : Program} {w : World} {K : PySem.W.Frag} {mg : Str → Option Value} {base : Heap}
theorem scFlow : FnScope ["self", "source", "target", "without"] ["self", "source", "target", "without"] (defScope sFlow) := ⟨rfl, rfl, rfl, by decide +kernel, rfl, by decide +kernel, by decide +kernel⟩
theorem ok_flow {f C : Addr} {fd : FuncData} (F : Fun K "flow" "Rows.flow" sFlow f fd) (T : Txt K mg C) : FnOk P w K mg base CX0 1 f fd ["self", "source", "target", "without"] (spFlow C K) := by
  refine F.ok scFlow (fun vs H Q E h => ?_) (fun cdv A outer s H vs Q E hr h => ?_)
  · obtain ⟨p, u, n, S, E, B, F, i, j, w, rfl, _⟩ := h
    rfl
  · obtain ⟨p, u, n, S, E, B, F, i, j, w, rfl, ⟨dx, lt, ld, as, vss, D, ts, hs, hi, hm, rfl⟩, hB, hin, hjn, hu, k⟩ := h
    refine ⟨_, pss_one (ps_expr (pe_bm PySem.F.plainAttrs_list PySem.F.slot_list_append PySem.F.type_list_append mt_append (pe_ix ix_list (pe_fld (pv 0) rfl) (pv 1) (fun _ _ => rfl))
      (pa_cons (pe_tup (pa_cons (pv 2) (pa_cons (pe_callTy call_tuple_of (by rfl) T.tup (by decide +kernel) (pa_cons (pv 3) pa_nil)) pa_nil))) pa_nil))), ?_⟩
    have elen : as.length = n := by rw [hi.ll.its.length, hi.fl.length, hm.hn]
    have hia : i < as.length := by omega
    have ea : as[i]? = some as[i] := List.getElem?_eq_getElem hia
    generalize as[i] = a at ea
    have hat : (as.map V.ref)[i]? = some (.ref a) := by
      rw [List.getElem?_map, ea]
      rfl
    obtain ⟨vs, evs, hva⟩ := pr_get hi.ll.its ea
    obtain ⟨fs, efs, hvf⟩ := pr_get hi.fl evs
    have haF : FRw p lt ld as D a := .inr (.inr (.inl (List.mem_cons_of_mem _ (List.mem_of_getElem? ea))))
    refine ⟨_, rfl, p, C, dx, _, _, rfl, hi.ins, T.cl, T.nT, pf_targets _ _, _, rfl, lt, _, _, _, rfl, rfl, SqL.of hi.ll.top, atI_nat hat, .inl ⟨rfl, _, SqL.of hva⟩, _, rfl, _, rfl, u, _, rfl, .inl ⟨hu, fun l hl => ?_⟩⟩
    refine ⟨by show 2 ≤ sizeLine; decide, fun t ht => ?_⟩
    have s1 : Same H (upd H l (.tup (w.map V.str))) := same_new hl
    have s2 : Same H (upd (upd H l (.tup (w.map V.str))) t (.tup [nv j, .ref l])) := s1.trans (same_new ht)
    have htl : t ≠ l := fun q => by rw [q, upd_same] at ht; cases ht
    refine ⟨a, _, _, rfl, rfl, s2 _ _ hva, ?_, ?_⟩
    · rw [hvf.length]
      exact small6 (by have := hm.bt fs (List.mem_of_getElem? efs); omega)
    have hs2 : Ch (FRw p lt ld as D) H (upd (upd H l (.tup (w.map V.str))) t (.tup [nv j, .ref l])) := ch_of_same s2
    have hi2 : RwIn C (upd (upd H l (.tup (w.map V.str))) t (.tup [nv j, .ref l])) p dx lt ld as vss D ts hs := hi.stay (F := F0) (ch_of_same s2) fun _ _ f => f
    generalize hH2 : upd (upd H l (.tup (w.map V.str))) t (.tup [nv j, .ref l]) = H2 at hs2 hi2 s2
    have ht2 : H2 t = some (.tup [nv j, .ref l]) := by rw [← hH2, upd_same]
    have hl2 : H2 l = some (.tup (w.map V.str)) := by rw [← hH2, upd_ne htl.symm, upd_same]
    have hva2 := s2 _ _ hva
    have hc3 : Ch (FRw p lt ld as D) H2 (upd H2 a (.lst (vs ++ [.ref t]))) := ch_at hva2 (by intro xs z; cases z) haF
    have nd := List.nodup_cons.mp hi.ll.nd
    have hpa : p ≠ a := ne_of hi2.ins hva2 (by intro z; cases z)
    have hda : ld ≠ a := ne_of hi2.dic hva2 (by intro z; cases z)
    refine k _ (FRw p lt ld as D) ⟨dx, lt, ld, as, vss.set i (vs ++ [.ref t]), D, ts.set i (fs ++ [(j, w)]), hs, ⟨by rw [upd_ne hpa]; exact hi2.ins, hi2.ll.set ea, ?_, by rw [upd_ne hda]; exact hi2.dic, ?_, hi.keys, hi.adr, hi.off⟩, ⟨?_, hm.hS, ?_, hm.hSn, ?_, ?_, ?_, ?_⟩, rfl⟩ (hs2.trans hc3 fun x f => .inl f) (fun a f => .inl f)
    · refine pr_ix (by rw [List.length_set, List.length_set]; exact hi.fl.length) fun y v1 f1 hv1 hf1 => ?_
      by_cases e : i = y
      · subst e
        rw [List.getElem?_set_self (List.getElem?_eq_some_iff.mp evs).1] at hv1
        rw [List.getElem?_set_self (List.getElem?_eq_some_iff.mp efs).1] at hf1
        cases Option.some.inj hv1
        cases Option.some.inj hf1
        exact Paired.snoc (pr_mono hvf fun v f _ _ r => (r.stay hs2).stay hc3) ⟨t, l, rfl, hc3.tup _ _ ht2, hc3.tup _ _ hl2⟩
      · rw [List.getElem?_set_ne e] at hv1 hf1
        exact pr_mono (pr_both hi.fl hv1 hf1) fun v f _ _ r => (r.stay hs2).stay hc3
    · refine pr_mono hi2.hol fun e b he _ r => ⟨r.1, ?_⟩
      rw [upd_ne fun z => hi.off _ (List.mem_map_of_mem he) (by rw [z]; exact List.mem_cons_of_mem _ (List.mem_of_getElem? ea))]
      exact r.2
    · rw [List.length_set, hm.hn]
    · intro i' j' w'
      rw [hm.hE]
      constructor
      · rintro (⟨fs', h1, h2⟩ | ⟨rfl, rfl, rfl⟩)
        · by_cases e : i = i'
          · subst e
            rw [efs] at h1
            cases Option.some.inj h1
            exact ⟨_, List.getElem?_set_self (List.getElem?_eq_some_iff.mp efs).1, List.mem_append_left _ h2⟩
          · exact ⟨fs', by rw [List.getElem?_set_ne e]; exact h1, h2⟩
        · exact ⟨_, List.getElem?_set_self (List.getElem?_eq_some_iff.mp efs).1, List.mem_append_right _ (List.mem_cons_self ..)⟩
      · rintro ⟨fs', h1, h2⟩
        by_cases e : i = i'
        · subst e
          rw [List.getElem?_set_self (List.getElem?_eq_some_iff.mp efs).1] at h1
          cases Option.some.inj h1
          rcases List.mem_append.mp h2 with h2 | h2
          · exact .inl ⟨fs, efs, h2⟩
          · have := List.mem_singleton.mp h2
            exact .inr ⟨rfl, congrArg Prod.fst this, congrArg Prod.snd this⟩
        · rw [List.getElem?_set_ne e] at h1
          exact .inl ⟨fs', h1, h2⟩
    · rintro i' j' w' (h | ⟨_, rfl, _⟩)
      · exact hm.hEn _ _ _ h
      · exact hjn
    · intro fs' h
      rcases List.mem_or_eq_of_mem_set h with h | h
      · have := hm.bt _ h
        omega
      · rw [h, List.length_append]
        have := hm.bt fs (List.mem_of_getElem? efs)
        simp
        omega
    · have := hm.bh
      omega
    · intro h hh
      have := hm.bi h hh
      omega
theorem scSame : FnScope ["self", "one", "other"] ["self", "one", "other"] (defScope sSame) := ⟨rfl, rfl, rfl, by decide +kernel, rfl, by decide +kernel, by decide +kernel⟩
theorem RwAt.ins {C : Addr} {H : Hp} {p : Addr} {n : Nat} {S : Nat → Str → Prop} {E : Nat → Nat → List Str → Prop} {B : Nat} {F : Addr → Prop} (h : RwAt C H p n S E B F) : ∃ dx l d, H p = some (.ins C dx (pf l d)) := by
  obtain ⟨dx, lt, ld, as, vss, D, ts, hs, hi, _, rfl⟩ := h
  exact ⟨dx, lt, ld, hi.ins⟩
theorem ok_same {f fF C : Addr} {fd fdF : FuncData} (F : Fun K "same" "Rows.same" sSame f fd) (T : Txt K mg C) (FF : Fun K "flow" "Rows.flow" sFlow fF fdF) (bF : Binds K fdF ["self", "source", "target", "without"] []) (mF : Meth K C "flow" fF) : FnOk P w K mg base CX0 2 f fd ["self", "one", "other"] (spSame C) := by
  have GF : FnOk P w K mg base CX0 1 fF fdF ["self", "source", "target", "without"] (spFlow C K) := ok_flow FF T
  refine F.ok scSame (fun vs H Q E h => ?_) (fun cdv A outer s H vs Q E hr h => ?_)
  · obtain ⟨p, n, S, E, B, F, i, j, rfl, _⟩ := h
    rfl
  · obtain ⟨p, n, S, E, B, F, i, j, rfl, hR, hB, hin, hjn, k⟩ := h
    have noF : ∀ l d, (pf l d).lookup ("flow" : Str) = none := fun l d => pf_no _ _ (by decide +kernel) (by decide +kernel)
    refine ⟨_, pss_cons (ps_expr (pe_meth (pv 0) T.cl mF GF hr bF .nil pass0 (pa_cons (pv 1) (pa_cons (pv 2) (pa_cons (pe_lst pa_nil) pa_nil)))))
      (pss_one (ps_expr (pe_meth (pv 0) T.cl mF GF hr bF .nil pass0 (pa_cons (pv 2) (pa_cons (pv 1) (pa_cons (pe_lst pa_nil) pa_nil)))))), ?_⟩
    obtain ⟨dx, l, d, h1⟩ := hR.ins
    refine ⟨_, rfl, p, dx, _, rfl, h1, noF l d, _, rfl, _, rfl, Nat.zero_le _, fun u hu => ?_⟩
    have hR1 := hR.stay (F' := F0) (ch_new (o := HO.lst []) hu) fun _ _ f => f
    refine ⟨p, u, n, S, E, B, F, i, j, [], rfl, hR1, by omega, hin, hjn, SqL.of upd_same, fun H2 F2 hR2 c2 f2 => ?_⟩
    have c2' : Ch F H H2 := (ch_new (F := F) (o := HO.lst []) hu).trans c2 fun x f => .inl f
    have f2' : ∀ a, F2 a → F a ∨ H a = none := fun a m => (f2 a m).imp id fun e => (ch_new (F := F) (o := HO.lst []) hu).free e
    obtain ⟨dx2, l2, d2, h2⟩ := hR2.ins
    refine ⟨_, rfl, p, dx2, _, rfl, h2, noF l2 d2, _, rfl, _, rfl, Nat.zero_le _, fun u2 hu2 => ?_⟩
    have hR3 := hR2.stay (F' := F0) (ch_new (o := HO.lst []) hu2) fun _ _ f => f
    refine ⟨p, u2, n, S, _, B + 1, F2, j, i, [], rfl, hR3, by omega, hjn, hin, SqL.of upd_same, fun H4 F4 hR4 c4 f4 => ?_⟩
    have c4' : Ch F2 H2 H4 := (ch_new (F := F2) (o := HO.lst []) hu2).trans c4 fun x f => .inl f
    refine k H4 F4 hR4 (c2'.trans c4' f2') fun a m => ?_
    rcases f4 a m with e | e
    · exact f2' a e
    · exact .inr (c2'.free ((ch_new (F := F) (o := HO.lst []) hu2).free e))
end
end Ka


set_option Elab.async false
set_option linter.all false
set_option maxRecDepth 100000
set_option maxHeartbeats 4000000
namespace Ka
open PySem PySem.Spec L2 PyProof.Rows Km
theorem valD_none : ∀ {D : List (Str × Addr)} {s : Str}, valV (kvD D) (Sum.inr s : Key) = none → s ∉ D.map (·.1)
  | [], _, _ => by simp
  | (t, b) :: r, s, h => by
    have h' : (List.find? (fun kv : Key × V => decide (kv.1 = Sum.inr s)) ((Sum.inr t, V.ref b) :: kvD r)).map (·.2) = none := h
    rw [List.find?_cons] at h'
    by_cases e : t = s
    · subst e
      simp at h'
    · rw [show decide ((Sum.inr t : Key) = Sum.inr s) = false from decide_eq_false fun q => e (Sum.inr.inj q)] at h'
      have ih := valD_none (D := r) (s := s) h'
      intro m
      rcases List.mem_cons.mp m with m | m
      · exact e m.symm
      · exact ih m
theorem valD_some : ∀ {D : List (Str × Addr)} {s : Str} {v : V}, valV (kvD D) (Sum.inr s : Key) = some v → ∃ (i : Nat) (b : Addr), D[i]? = some (s, b) ∧ v = .ref b
  | [], _, _, h => by cases h
  | (t, b) :: r, s, v, h => by
    have h' : (List.find? (fun kv : Key × V => decide (kv.1 = Sum.inr s)) ((Sum.inr t, V.ref b) :: kvD r)).map (·.2) = some v := h
    rw [List.find?_cons] at h'
    by_cases e : t = s
    · subst e
      simp at h'
      exact ⟨0, b, rfl, h'.symm⟩
    · rw [show decide ((Sum.inr t : Key) = Sum.inr s) = false from decide_eq_false fun q => e (Sum.inr.inj q)] at h'
      obtain ⟨i, b', h1, h2⟩ := valD_some (D := r) (s := s) h'
      exact ⟨i + 1, b', by simpa using h1, h2⟩
section
variable {P : Program} {w : World} {K : PySem.W.Frag} {mg : Str → Option Value} {base : Heap}
end
end Ka


set_option Elab.async false
set_option linter.all false
set_option maxRecDepth 100000
set_option maxHeartbeats 4000000
namespace Ka
open PySem PySem.Spec L2 PyProof.Rows Km
/-! ### the cost of what is not seen yet -/
def cost {α : Type} : Nat → List (List α) → List Nat → Nat
  | _, [], _ => 0
  | k, fs :: r, seen => (if k ∈ seen then 0 else fs.length) + cost (k + 1) r seen
theorem cost_mono {α : Type} (x : Nat) : ∀ (ts : List (List α)) (k : Nat) (seen : List Nat), cost k ts (seen ++ [x]) ≤ cost k ts seen
  | [], _, _ => Nat.le_refl _
  | fs :: r, k, seen => by
    have ih := cost_mono x r (k + 1) seen
    unfold cost
    by_cases h : k ∈ seen
    · rw [if_pos h, if_pos (List.mem_append_left _ h)]
      omega
    · rw [if_neg h]
      split <;> omega
theorem cost_add {α : Type} (x : Nat) : ∀ (ts : List (List α)) (k i : Nat) (seen : List Nat) (fs : List α), x = k + i → ts[i]? = some fs → x ∉ seen → cost k ts (seen ++ [x]) + fs.length ≤ cost k ts seen
  | [], _, _, _, _, _, h, _ => by simp at h
  | gs :: r, k, 0, seen, fs, hx, h, hn => by
    have e : gs = fs := Option.some.inj h
    subst e
    have hx' : x = k := by omega
    subst hx'
    have ih := cost_mono x r (x + 1) seen
    unfold cost
    rw [if_pos (List.mem_append_right _ (List.mem_cons_self ..)), if_neg hn]
    omega
  | gs :: r, k, i + 1, seen, fs, hx, h, hn => by
    have ih := cost_add x r (k + 1) i seen fs (by omega) (by simpa using h) hn
    unfold cost
    have e : (k ∈ seen ++ [x]) ↔ k ∈ seen := by
      rw [List.mem_append, List.mem_singleton]
      constructor
      · rintro (q | q)
        · exact q
        · omega
      · exact fun q => .inl q
    by_cases q : k ∈ seen
    · rw [if_pos q, if_pos (e.mpr q)]
      omega
    · rw [if_neg q, if_neg fun z => q (e.mp z)]
      omega
theorem cost_le {α : Type} (B : Nat) : ∀ (ts : List (List α)) (k : Nat) (seen : List Nat), (∀ fs ∈ ts, fs.length ≤ B) → cost k ts seen ≤ ts.length * B
  | [], _, _, _ => Nat.zero_le _
  | fs :: r, k, seen, h => by
    have ih := cost_le B r (k + 1) seen fun f m => h f (List.mem_cons_of_mem _ m)
    have h1 := h fs (List.mem_cons_self ..)
    unfold cost
    rw [List.length_cons, Nat.succ_mul]
    split <;> omega
def kvS (seen : List Nat) : List (Key × V) := seen.map fun (r : Nat) => ((Sum.inl (r : Int) : Key), V.bl true)
theorem kvS_has (seen : List Nat) (r : Nat) : (valV (kvS seen) (Sum.inl (r : Int) : Key)).isSome = decide (r ∈ seen) := by
  rw [← valV_any]
  induction seen with
  | nil => rfl
  | cons x t ih =>
    show (decide ((Sum.inl (x : Int) : Key) = Sum.inl (r : Int)) || (kvS t).any fun kv => decide (kv.1 = Sum.inl (r : Int))) = _
    rw [ih, ← Bool.decide_or]
    apply decide_eq_decide.mpr
    rw [List.mem_cons]
    constructor
    · rintro (q | q)
      · exact .inl (Int.ofNat.inj (Sum.inl.inj q)).symm
      · exact .inr q
    · rintro (q | q)
      · exact .inl (by rw [q])
      · exact .inr q
theorem inV_str (s : Str) : ∀ w : List Str, inV (.str s) (w.map V.str) = decide (s ∈ w)
  | [] => rfl
  | x :: r => by
    show (eqV (.str x) (.str s) || inV (.str s) (r.map V.str)) = _
    rw [inV_str s r]
    show ((x == s) || decide (s ∈ r)) = _
    by_cases e : x = s
    · subst e
      simp
    · have e1 : (x == s) = false := by simpa using e
      rw [e1, Bool.false_or]
      apply decide_eq_decide.mpr
      rw [List.mem_cons]
      constructor
      · exact .inr
      · rintro (q | q)
        · exact absurd q.symm e
        · exact q
theorem flat_str (w : List Str) : (w.map V.str).all flatV = true := by
  rw [List.all_eq_true]
  intro x hx
  obtain ⟨y, _, rfl⟩ := List.mem_map.mp hx
  rfl
theorem nodup_le : ∀ {n : Nat} {l : List Nat}, l.Nodup → (∀ x ∈ l, x < n) → l.length ≤ n
  | 0, [], _, _ => Nat.le_refl _
  | 0, x :: r, _, k => by have := k x (List.mem_cons_self ..); omega
  | n + 1, l, h, k => by
    have ih := nodup_le (n := n) (l := l.erase n) (h.erase n) fun x hx => by
      have h1 := (List.Nodup.mem_erase_iff h).mp hx
      have h2 := k x h1.2
      have h3 := h1.1
      omega
    rw [List.length_erase] at ih
    split at ih <;> omega
theorem must_closed {S : Nat → Str → Prop} {E : Nat → Nat → List Str → Prop} {seen : List Nat} {r : Nat} {s : Str} (h : Must S E r s) : (∀ r, S r s → r ∈ seen) → (∀ r ∈ seen, ∀ j w, E r j w → s ∉ w → j ∈ seen) → r ∈ seen := by
  induction h with
  | base h => exact fun a _ => a _ h
  | step _ h1 h2 ih => exact fun a b => b _ (ih a b) _ _ h1 h2
def spReached (C : Addr) : Sp := fun vs H Q _ => ∃ (p dx lt ld : Addr) (as : List Addr) (vss : List (List V)) (D : List (Str × Addr)) (ts : List (List (Nat × List Str))) (hs : List (Str × List Nat)) (n : Nat) (S : Nat → Str → Prop) (E : Nat → Nat → List Str → Prop) (B : Nat) (s : Str),
  vs = [.ref p, .str s] ∧ RwIn C H p dx lt ld as vss D ts hs ∧ RwMath ts hs n S E B ∧ n ≤ 100 ∧ B ≤ 900 ∧ s ∈ D.map (·.1) ∧
  ∀ (H' : Hp) (q : Addr) (rs : List Nat), Same H H' → H q = none → H' q = some (.lst (rs.map nv)) → rs.Nodup → (∀ r, r ∈ rs ↔ Must S E r s) → Q (.ref q) H'
section
variable {P : Program} {w : World} {K : PySem.W.Frag} {mg : Str → Option Value} {base : Heap}
abbrev nReached : List Str := ["self", "name", "seen", "waiting", "row", "target", "without"]
theorem scReached : FnScope nReached ["self", "name"] (defScope sReached) := ⟨rfl, rfl, rfl, by decide +kernel, rfl, by decide +kernel, by decide +kernel⟩
theorem ok_reached {f C : Addr} {fd : FuncData} (F : Fun K "reached" "Rows.reached" sReached f fd) (T : Txt K mg C) : FnOk P w K mg base CX0 1 f fd ["self", "name"] (spReached C) := by
  refine F.ok scReached (fun vs H Q E h => ?_) (fun cdv A outer s H vs Q E hr h => ?_)
  · obtain ⟨p, dx, lt, ld, as, vss, D, ts, hs, n, S, E, B, s, rfl, _⟩ := h
    rfl
  · obtain ⟨p, dx, lt, ld, as, vss, D, ts, hs, n, S, E, B, s, rfl, hi, hm, hn, hB, hsD, k⟩ := h
    have hu := hu_of hr
    refine ⟨_, pss_cons (ps_set (i := 2) scReached.nd rfl (Or.inl rfl) pe_dnewK)
      (pss_cons (ps_set (i := 3) scReached.nd rfl (Or.inl rfl) (pe_callTy call_list_of (by rfl) T.lst (by decide +kernel) (pa_cons (pe_dget hu (pe_fld (pv 0) rfl) (pv 1) (fun _ _ => rfl)) pa_nil)))
      (pss_cons (ps_while PassesOwn.never (pt_truth (pv 3) (by intro _; rfl))
        (pss_cons (ps_set (i := 4) scReached.nd rfl (Or.inl rfl) (pe_bm0 PySem.F.plainAttrs_list PySem.F.slot_list_pop PySem.F.type_list_pop mt_pop (pv 3)))
        (pss_one (ps_if (pt_cmp (pc_dnotin hu (pv 4) (pv 2)))
          (pss_cons (ps_dput hu (pv 2) (pv 4) pe_bl rfl)
          (pss_one (ps_expr (pe_bm PySem.F.plainAttrs_list PySem.F.slot_list_extend PySem.F.type_list_extend mt_extend (pv 3) (pa_cons
            (pe_lc (own := [("target", 5), ("without", 6)]) (g := gTup K 2 (gCons (gName 5) (gCons (gName 6) gNil))) (tt := tTest (tOp (rIn K true) (tVar 1) (tVar 6))) (te := tVar 5) rfl scReached.nd (pi_list (pe_ix ix_list (pe_fld (pv 0) rfl) (pv 4) (fun _ _ => rfl)))
              (blkOk_by (N := nReached) (sc := defScope sReached) (by decide +kernel))
              (fun _ _ _ _ _ => pg_tup rfl (pgs_cons (pg_name (i := 5) scReached.nd rfl (Or.inl rfl)) (pgs_cons (pg_name (i := 6) scReached.nd rfl (Or.inl rfl)) pgs_nil)))
              (fun _ _ _ _ _ => pts_one (pt_cmpR op_notIn_seq (pv 1) (pv 6) (by rfl)))
              (fun _ _ _ _ _ => pv 5)) pa_nil))))) pss_nil))))
      (pss_one (ps_ret (pe_callTy (call_list_dK rfl) (by rfl) T.lst (by decide +kernel) (pa_cons (pv 2) pa_nil)))))), ?_⟩
    -- seen = {}
    intro d hd
    have s1 : Same H (upd H d (.dK [])) := same_new hd
    -- waiting = list(self.holders[name])
    obtain ⟨x, hx, ex⟩ := List.mem_map.mp hsD
    obtain ⟨di, hdi⟩ := List.getElem?_of_mem hx
    obtain ⟨hh, ehh, hb⟩ := pr_get hi.hol hdi
    have exs : hh.1 = s := by rw [← hb.1, ex]
    have hval : DGet (upd H d (.dK [])) ld (.str s) (some (.ref x.2)) := by
      have hv : valV (kvD D) (Sum.inr s : Key) = some (.ref x.2) := by
        cases e : valV (kvD D) (Sum.inr s : Key) with
        | none => exact absurd hsD (valD_none e)
        | some v =>
          obtain ⟨j, b, hj, rfl⟩ := valD_some e
          have g1 : (D.map (·.1))[di]? = some s := by rw [List.getElem?_map, hdi, ← ex]; rfl
          have g2 : (D.map (·.1))[j]? = some s := by rw [List.getElem?_map, hj]; rfl
          have e2 := nd_ix hi.keys g1 g2
          subst e2
          rw [hdi] at hj
          rw [Option.some.inj hj]
      have := DGet.k (k := (Sum.inr s : Key)) (s1 _ _ hi.dic)
      rw [hv] at this
      exact this
    refine ⟨_, rfl, p, C, dx, _, _, rfl, s1 _ _ hi.ins, T.cl, T.nH, pf_holders _ _, _, rfl, ld, _, rfl, hval, x.2, _, rfl, .inl (SqL.of (s1 _ _ hb.2)), fun l hl => ?_⟩
    have hld : l ≠ d := fun q => by rw [q, upd_same] at hl; cases hl
    have hl0 : H l = none := s1.free hl
    have hhm : hh ∈ hs := List.mem_of_getElem? ehh
    have hSh : ∀ r, r ∈ hh.2 → S r s := fun r hr' => (hm.hS r s).mpr ⟨hh.2, by rw [← exs]; exact hhm, hr'⟩
    have hSs : ∀ r, S r s → r ∈ hh.2 := fun r hr' => by
      obtain ⟨is, h1, h2⟩ := (hm.hS r s).mp hr'
      obtain ⟨j, hj⟩ := List.getElem?_of_mem h1
      obtain ⟨y, hy, hyb⟩ := pr_get' hi.hol hj
      have g1 : (D.map (·.1))[di]? = some s := by rw [List.getElem?_map, hdi, ← ex]; rfl
      have g2 : (D.map (·.1))[j]? = some s := by rw [List.getElem?_map, hy]; exact congrArg some hyb.1
      have e2 := nd_ix hi.keys g1 g2
      subst e2
      rw [ehh] at hj
      rw [Option.some.inj hj]
      exact h2
    have hin : ∀ r, Must S E r s → r < n := fun r h => by
      cases h with
      | base h => exact hm.hSn _ _ h
      | step _ h _ => exact hm.hEn _ _ _ h
    -- the loop
    refine ⟨fun m σ H2 => ∃ (seen wt : List Nat) (v4 : Option V), σ = [some (.ref p), some (.str s), some (.ref d), some (.ref l), v4, none, none] ∧ Same H H2 ∧ H2 d = some (.dK (kvS seen)) ∧ H2 l = some (.lst (wt.map nv)) ∧ seen.Nodup ∧
        (∀ r ∈ seen, Must S E r s) ∧ (∀ r ∈ wt, Must S E r s) ∧ (∀ r, S r s → r ∈ seen ∨ r ∈ wt) ∧ (∀ r ∈ seen, ∀ j w, E r j w → s ∉ w → j ∈ seen ∨ j ∈ wt) ∧ seen.length ≤ n ∧ m = wt.length + cost 0 ts seen ∧ m ≤ 91000,
      ⟨_, [], hh.2, none, rfl, s1.trans (same_new hl), ?_, upd_same, List.nodup_nil, by simp, fun r h => .base (hSh r h), fun r h => .inr (hSs r h), by simp, Nat.zero_le _, rfl, ?_⟩, ?_⟩
    · rw [upd_ne hld.symm, upd_same]
      rfl
    · have h1 := cost_le B ts 0 [] hm.bt
      have h2 := hm.bi hh hhm
      rw [hm.hn] at h1
      have h3 : n * B ≤ 100 * 900 := Nat.mul_le_mul hn hB
      omega
    · rintro m σ H2 ⟨seen, wt, v4, rfl, sm, hsn, hwt, ndS, mS, mW, cS, cE, ln, em, lm⟩
      refine ⟨_, rfl, _, .inl ⟨_, SqL.of hwt, rfl⟩, ?_⟩
      cases wt with
      | nil =>
        refine iteF ?_
        -- return list(seen)
        refine ⟨_, rfl, d, _, rfl, hsn, fun q hq => ?_⟩
        refine k _ q seen (sm.trans (same_new hq)) (sm.free hq) ?_ ndS fun r => ⟨mS r, fun h => ?_⟩
        · rw [upd_same]
          unfold kvS
          rw [List.map_map]
          rfl
        · exact must_closed h (fun r h => (cS _ h).resolve_right (by simp)) fun r h j w h1 h2 => (cE _ h _ _ h1 h2).resolve_right (by simp)
      | cons y0 yr =>
        refine iteT ?_
        obtain ⟨wt', r, ewt⟩ : ∃ (wt' : List Nat) (r : Nat), y0 :: yr = wt' ++ [r] := ⟨(y0 :: yr).dropLast, (y0 :: yr).getLast (List.cons_ne_nil _ _), (List.dropLast_concat_getLast _).symm⟩
        rw [ewt] at hwt mW cS cE em
        have elen : (y0 :: yr).length = wt'.length + 1 := by rw [ewt, List.length_append]; rfl
        have elast : ((wt' ++ [r]).map nv)[((wt' ++ [r]).map nv).length - 1]? = some (nv r) := by
          rw [List.map_append, List.length_append]
          simp
        have hrM : Must S E r s := mW r (List.mem_append_right _ (List.mem_cons_self ..))
        have hrn := hin r hrM
        refine ⟨fun σ' H' => ∃ m', m' < m ∧ ∃ (seen wt : List Nat) (v4 : Option V), σ' = [some (.ref p), some (.str s), some (.ref d), some (.ref l), v4, none, none] ∧ Same H H' ∧ H' d = some (.dK (kvS seen)) ∧ H' l = some (.lst (wt.map nv)) ∧ seen.Nodup ∧
            (∀ r ∈ seen, Must S E r s) ∧ (∀ r ∈ wt, Must S E r s) ∧ (∀ r, S r s → r ∈ seen ∨ r ∈ wt) ∧ (∀ r ∈ seen, ∀ j w, E r j w → s ∉ w → j ∈ seen ∨ j ∈ wt) ∧ seen.length ≤ n ∧ m' = wt.length + cost 0 ts seen ∧ m' ≤ 91000, fun _ _ h => h, ?_⟩
        -- row = waiting.pop()
        refine ⟨_, rfl, .inl ⟨rfl, _, SqL.of hwt⟩, l, _, _, rfl, rfl, hwt, elast, ?_⟩
        have edl : ((wt' ++ [r]).map nv).dropLast = wt'.map nv := by
          rw [List.map_append]
          exact List.dropLast_concat
        rw [edl]
        have hdl : d ≠ l := hld.symm
        have hd3 : (upd H2 l (.lst (wt'.map nv))) d = some (.dK (kvS seen)) := by rw [upd_ne hdl]; exact hsn
        have sm3 : Same H (upd H2 l (.lst (wt'.map nv))) := same_upd_at sm hl0
        have hl3 : (upd H2 l (.lst (wt'.map nv))) l = some (.lst (wt'.map nv)) := upd_same
        generalize upd H2 l (.lst (wt'.map nv)) = H3 at hd3 sm3 hl3
        -- if row not in seen
        refine ⟨_, rfl, _, rfl, d, _, rfl, DGet.k (k := (Sum.inl (r : Int) : Key)) hd3, _, rfl, ?_⟩
        rw [kvS_has]
        by_cases hrs : r ∈ seen
        · rw [decide_eq_true hrs]
          refine iteF ?_
          refine ⟨wt'.length + cost 0 ts seen, ?_, seen, wt', _, rfl, sm3, hd3, hl3, ndS, mS, fun a ha => mW a (List.mem_append_left _ ha), ?_, ?_, ln, rfl, ?_⟩
          · rw [em, List.length_append]
            simp
          · intro a ha
            rcases cS a ha with h | h
            · exact .inl h
            · rcases List.mem_append.mp h with h | h
              · exact .inr h
              · exact .inl (by rw [List.mem_singleton.mp h]; exact hrs)
          · intro a ha j w h1 h2
            rcases cE a ha j w h1 h2 with h | h
            · exact .inl h
            · rcases List.mem_append.mp h with h | h
              · exact .inr h
              · exact .inl (by rw [List.mem_singleton.mp h]; exact hrs)
          · rw [em, List.length_append] at lm
            simp at lm
            omega
        · rw [decide_eq_false hrs]
          refine iteT ?_
          -- seen[row] = True
          have hvn : valV (kvS seen) (Sum.inl (r : Int) : Key) = none := by
            have := kvS_has seen r
            rw [decide_eq_false hrs] at this
            cases e : valV (kvS seen) (Sum.inl (r : Int) : Key) with
            | none => rfl
            | some v =>
              rw [e] at this
              cases this
          have eput : putK (kvS seen) (Sum.inl (r : Int) : Key) (.bl true) = kvS (seen ++ [r]) := by
            rw [putK_new _ hvn]
            unfold kvS
            rw [List.map_append]
            rfl
          refine ⟨_, rfl, _, rfl, d, _, rfl, DPut.k (k := (Sum.inl (r : Int) : Key)) hd3 (by unfold kvS; rw [List.length_map]; exact small6 (by omega)), ?_⟩
          rw [eput]
          have hd4 : (upd H3 d (.dK (kvS (seen ++ [r])))) d = some (.dK (kvS (seen ++ [r]))) := upd_same
          have sm4 : Same H (upd H3 d (.dK (kvS (seen ++ [r])))) := same_upd_at sm3 hd
          have hl4 : (upd H3 d (.dK (kvS (seen ++ [r])))) l = some (.lst (wt'.map nv)) := by rw [upd_ne hld]; exact hl3
          generalize upd H3 d (.dK (kvS (seen ++ [r]))) = H4 at hd4 sm4 hl4
          -- waiting.extend([..])
          have elas : as.length = n := by rw [hi.ll.its.length, hi.fl.length, hm.hn]
          have ea : as[r]? = some as[r] := List.getElem?_eq_getElem (by omega)
          generalize as[r] = a at ea
          obtain ⟨vs, evs, hva⟩ := pr_get hi.ll.its ea
          obtain ⟨fs, efs, hvf⟩ := pr_get hi.fl evs
          have hat : (as.map V.ref)[r]? = some (.ref a) := by rw [List.getElem?_map, ea]; rfl
          refine ⟨_, rfl, .inl ⟨rfl, _, SqL.of hl4⟩, _, rfl, p, C, dx, _, _, rfl, sm4 _ _ hi.ins, T.cl, T.nT, pf_targets _ _, _, rfl, lt, _, _, _, rfl, rfl, SqL.of (sm4 _ _ hi.ll.top), atI_nat hat, a, rfl, ⟨_, SqL.of (sm4 _ _ hva)⟩, fun X hX => ?_⟩
          have hX0 : H X = none := sm4.free hX
          have hlX : l ≠ X := ne_of_none hl4 hX
          have hdX : d ≠ X := ne_of_none hd4 hX
          refine lc_list (K := K) (a := a) (xs := vs) (fun i H5 => Same H4 H5 ∧ H5 X = some (.lst ((((fs.take i).filter fun g => decide (s ∉ g.2)).map (·.1)).map nv))) ⟨same_new hX, upd_same⟩ (fun i H5 _ q => SqL.of (q.1 _ _ (sm4 _ _ hva))) ?_ ?_
          · rintro i v H5 hv ⟨q1, q2⟩
            obtain ⟨g, eg, t, u, rfl, ht, hu'⟩ := pr_get hvf hv
            have sm5 : Same H H5 := sm4.trans q1
            refine ⟨t, _, rfl, SqT.of (sm5 _ _ ht), rfl, _, _, rfl, _, _, rfl, rfl, rfl, ?_⟩
            refine ⟨_, rfl, _, rfl, u, _, rfl, .inr (SqT.of (sm5 _ _ hu')), rfl, flat_str _, _, rfl, ?_⟩
            rw [inV_str]
            by_cases hsg : s ∈ g.2
            · rw [decide_eq_true hsg]
              refine iteF ⟨q1, ?_⟩
              rw [List.take_add_one, eg]
              show H5 X = some (HO.lst ((((fs.take i ++ [g]).filter fun g => decide (s ∉ g.2)).map (·.1)).map nv))
              rw [List.filter_append]
              have : [g].filter (fun g => decide (s ∉ g.2)) = [] := by simp [hsg]
              rw [this, List.append_nil]
              exact q2
            · rw [decide_eq_false hsg]
              refine iteT ⟨_, rfl, _, q2, ?_, ?_, ?_⟩
              · rw [List.length_map, List.length_map]
                refine Nat.lt_of_le_of_lt (List.length_filter_le _ _) ?_
                rw [List.length_take]
                exact Nat.lt_of_le_of_lt (Nat.min_le_right _ _) (small6 (by have := hm.bt fs (List.mem_of_getElem? efs); omega))
              · exact fun b o h => by
                  rw [upd_ne (ne_of_none h hX)]
                  exact q1 b o h
              · rw [upd_same, List.take_add_one, eg]
                show some (HO.lst _) = some (HO.lst ((((fs.take i ++ [g]).filter fun g => decide (s ∉ g.2)).map (·.1)).map nv))
                rw [List.filter_append]
                have : [g].filter (fun g => decide (s ∉ g.2)) = [g] := by simp [hsg]
                rw [this, List.map_append, List.map_append]
                rfl
          · rintro H5 ⟨q1, q2⟩
            rw [hvf.length, List.take_length] at q2
            have sm5 : Same H H5 := sm4.trans q1
            have hl5 := q1 _ _ hl4
            have hd5 := q1 _ _ hd4
            have lwt : wt'.length + 1 + cost 0 ts seen ≤ 91000 := by
              rw [em, List.length_append] at lm
              exact lm
            have hfl : ((fs.filter fun g => decide (s ∉ g.2)).map (·.1)).length ≤ fs.length := by
              rw [List.length_map]
              exact List.length_filter_le _ _
            have hc := cost_add r ts 0 r seen fs (by omega) (by
              have h1 := efs
              exact h1) hrs
            have hnw : ∀ j, j ∈ (fs.filter fun g => decide (s ∉ g.2)).map (·.1) ↔ ∃ w, E r j w ∧ s ∉ w := fun j => by
              rw [List.mem_map]
              constructor
              · rintro ⟨g, hg, rfl⟩
                obtain ⟨g1, g2⟩ := List.mem_filter.mp hg
                exact ⟨g.2, (hm.hE _ _ _).mpr ⟨fs, efs, g1⟩, of_decide_eq_true g2⟩
              · rintro ⟨w, h1, h2⟩
                obtain ⟨fs', e', h3⟩ := (hm.hE _ _ _).mp h1
                rw [efs] at e'
                cases Option.some.inj e'
                exact ⟨(j, w), List.mem_filter.mpr ⟨h3, decide_eq_true h2⟩, rfl⟩
            generalize (fs.filter fun g => decide (s ∉ g.2)).map (·.1) = nw at q2 hfl hnw
            refine ⟨l, X, _, _, rfl, rfl, hl5, q2, ?_, ?_⟩
            · rw [List.length_map, List.length_map]
              exact Nat.le_of_lt (small6 (by omega))
            refine ⟨(wt' ++ nw).length + cost 0 ts (seen ++ [r]), ?_, seen ++ [r], wt' ++ nw, _, rfl, same_upd_at sm5 hl0, by rw [upd_ne hld.symm]; exact hd5, ?_, ?_, ?_, ?_, ?_, ?_, ?_, rfl, ?_⟩
            · rw [em, List.length_append, List.length_append]
              simp
              omega
            · rw [upd_same, List.map_append]
            · exact List.nodup_append.mpr ⟨ndS, by simp, fun x hx y hy e => hrs (by rw [List.mem_singleton.mp hy] at e; rw [← e]; exact hx)⟩
            · intro x hx
              rcases List.mem_append.mp hx with h | h
              · exact mS x h
              · rw [List.mem_singleton.mp h]; exact hrM
            · intro x hx
              rcases List.mem_append.mp hx with h | h
              · exact mW x (List.mem_append_left _ h)
              · obtain ⟨w, h1, h2⟩ := (hnw x).mp h
                exact .step hrM h1 h2
            · intro x hx
              rcases cS x hx with h | h
              · exact .inl (List.mem_append_left _ h)
              · rcases List.mem_append.mp h with h | h
                · exact .inr (List.mem_append_left _ h)
                · exact .inl (List.mem_append_right _ h)
            · intro x hx j w h1 h2
              rcases List.mem_append.mp hx with h | h
              · rcases cE x h j w h1 h2 with h | h
                · exact .inl (List.mem_append_left _ h)
                · rcases List.mem_append.mp h with h | h
                  · exact .inr (List.mem_append_left _ h)
                  · exact .inl (List.mem_append_right _ h)
              · rw [List.mem_singleton.mp h] at h1
                exact .inr (List.mem_append_right _ ((hnw j).mpr ⟨w, h1, h2⟩))
            · rw [List.length_append]
              have h1 : (seen ++ [r]).length ≤ n := nodup_le (List.nodup_append.mpr ⟨ndS, by simp, fun x hx y hy e => hrs (by rw [List.mem_singleton.mp hy] at e; rw [← e]; exact hx)⟩) fun x hx => by
                rcases List.mem_append.mp hx with h | h
                · exact hin x (mS x h)
                · rw [List.mem_singleton.mp h]; exact hrn
              rw [List.length_append] at h1
              exact h1
            · rw [List.length_append]
              omega
end
end Ka


set_option Elab.async false
set_option linter.all false
set_option maxRecDepth 100000
set_option maxHeartbeats 4000000
namespace Ka
open PySem PySem.Spec L2 PyProof.Rows Km
def ResAt (H : Hp) (q : Addr) (rows : List (List Str)) : Prop := ∃ ps : List Addr, H q = some (HO.lst (ps.map V.ref)) ∧ Paired (fun a (r : List Str) => H a = some (HO.tup (r.map V.str))) ps rows
theorem ResAt.same {H H' : Hp} {q : Addr} {rows : List (List Str)} (h : ResAt H q rows) (k : Same H H') : ResAt H' q rows := by
  obtain ⟨ps, h1, h2⟩ := h
  exact ⟨ps, k _ _ h1, pr_mono h2 fun a r _ _ e => k _ _ e⟩
def spLeast (C : Addr) : Sp := fun vs H Q _ => ∃ (p : Addr) (n : Nat) (S : Nat → Str → Prop) (E : Nat → Nat → List Str → Prop) (B : Nat) (F : Addr → Prop), vs = [.ref p] ∧ RwAt C H p n S E B F ∧ n ≤ 100 ∧ B ≤ 900 ∧
  ∀ (H' : Hp) (q : Addr) (rows : List (List Str)), Same H H' → H q = none → ResAt H' q rows → Least n (Must S E) rows → Q (.ref q) H'
open Classical in
noncomputable def fr (S : Nat → Str → Prop) (E : Nat → Nat → List Str → Prop) (ys : List Str) (r : Nat) : List Str := ys.filter fun s => decide (Must S E r s)
theorem set_range {α : Type} {n r : Nat} {g : Nat → α} {y : α} (hr : r < n) : ((List.range n).map g).set r y = (List.range n).map fun k => if k = r then y else g k := by
  apply List.ext_getElem?
  intro i
  by_cases e : r = i
  · subst e
    rw [List.getElem?_set_self (by rw [List.length_map, List.length_range]; exact hr), List.getElem?_map, List.getElem?_range hr]
    simp
  · rw [List.getElem?_set_ne e, List.getElem?_map, List.getElem?_map]
    by_cases hi : i < n
    · rw [List.getElem?_range hi]
      show some (g i) = some (if i = r then y else g i)
      rw [if_neg fun q => e q.symm]
    · rw [List.getElem?_eq_none (by rw [List.length_range]; omega)]
      rfl
theorem must_hold {S : Nat → Str → Prop} {E : Nat → Nat → List Str → Prop} {r : Nat} {s : Str} (h : Must S E r s) : ∃ i, S i s := by
  induction h with
  | base h => exact ⟨_, h⟩
  | step _ _ _ ih => exact ih
section
variable {P : Program} {w : World} {K : PySem.W.Frag} {mg : Str → Option Value} {base : Heap}
abbrev nLeast : List Str := ["self", "found", "name", "row", "_", "names"]
theorem scLeast : FnScope nLeast ["self"] (defScope sLeast) := ⟨rfl, rfl, rfl, by decide +kernel, rfl, by decide +kernel, by decide +kernel⟩
theorem ok_least {f fR C : Addr} {fd fdR : FuncData} (F : Fun K "least" "Rows.least" sLeast f fd) (T : Txt K mg C) (FR : Fun K "reached" "Rows.reached" sReached fR fdR) (bR : Binds K fdR ["self", "name"] []) (mR : Meth K C "reached" fR) : FnOk P w K mg base CX0 2 f fd ["self"] (spLeast C) := by
  have GR : FnOk P w K mg base CX0 1 fR fdR ["self", "name"] (spReached C) := ok_reached FR T
  refine F.ok scLeast (fun vs H Q E h => ?_) (fun cdv A outer s H vs Q E hr h => ?_)
  · obtain ⟨p, n, S, E, B, F, rfl, _⟩ := h
    rfl
  · obtain ⟨p, n, S, E, B, F, rfl, ⟨dx, lt, ld, as, vss, D, ts, hs, hi, hm, rfl⟩, hn, hB, k⟩ := h
    refine ⟨_, pss_cons (ps_setLc (i := 1) (own := [("_", 4)]) (g := gName 4) (tt := tYes) (te := tLst tNil) rfl scLeast.nd rfl rfl (sw_true rfl rfl rfl (by decide +kernel)) (pi_list (pe_fld (pv 0) rfl))
        (blkOk_by (N := nLeast) (sc := defScope sLeast) (by decide +kernel)) (fun _ _ _ _ _ => pg_name (i := 4) scLeast.nd rfl (Or.inl rfl)) (fun _ _ _ _ _ => pts_nil) (fun _ _ _ _ _ => pe_lst pa_nil))
      (pss_cons (ps_for PassesOwn.never rfl (pi_list (pe_callB (call_sortedD rfl) (by rfl) T.srt (by decide +kernel) (pa_cons (pe_fld (pv 0) rfl) pa_nil))) (pg_name (i := 2) scLeast.nd rfl (Or.inl rfl))
        (pss_one (ps_for PassesOwn.never rfl (pi_list (pe_meth (pv 0) T.cl mR GR hr bR .nil pass0 (pa_cons (pv 2) pa_nil))) (pg_name (i := 3) scLeast.nd rfl (Or.inl rfl))
          (pss_one (ps_expr (pe_bm PySem.F.plainAttrs_list PySem.F.slot_list_append PySem.F.type_list_append mt_append (pe_ix ix_list (pv 1) (pv 3) (fun _ _ => rfl)) (pa_cons (pv 2) pa_nil)))))))
      (pss_one (ps_ret (pe_lc (own := [("names", 5)]) (g := gName 5) (tt := tYes) (te := tThen (tVar 5) (kTup K)) rfl scLeast.nd (pi_list (pv 1)) (blkOk_by (N := nLeast) (sc := defScope sLeast) (by decide +kernel))
        (fun _ _ _ _ _ => pg_name (i := 5) scLeast.nd rfl (Or.inl rfl)) (fun _ _ _ _ _ => pts_nil) (fun _ _ _ _ _ => pe_tupleOf (by rfl) T.tup (pv 5)))))), ?_⟩
    have elen : as.length = n := by rw [hi.ll.its.length, hi.fl.length, hm.hn]
    -- found = [[] for _ in self.targets]
    refine ⟨_, rfl, p, C, dx, _, _, rfl, hi.ins, T.cl, T.nT, pf_targets _ _, lt, rfl, ⟨_, SqL.of hi.ll.top⟩, fun L hL => ?_⟩
    refine lc_list (K := K) (a := lt) (xs := as.map V.ref) (fun i H2 => Same H H2 ∧ ∃ bs, LL H2 L bs (List.replicate i []) ∧ ∀ b ∈ L :: bs, H b = none) ⟨same_new hL, [], ⟨by simp, by rw [upd_same]; rfl, .nil⟩, fun b hb => by rw [List.mem_singleton.mp hb]; exact hL⟩ (fun i H2 _ q => SqL.of (q.1 _ _ hi.ll.top)) ?_ ?_
    · rintro i v H2 hv ⟨q1, bs, q2, q3⟩
      refine ⟨rfl, Nat.zero_le _, fun l hl => ?_⟩
      have hLl : L ≠ l := ne_of_none q2.top hl
      have hl0 : H l = none := q1.free hl
      have ebs : bs.length = i := by rw [q2.its.length, List.length_replicate]
      refine ⟨_, by rw [upd_ne hLl]; exact q2.top, ?_, ?_, bs ++ [l], ?_, ?_⟩
      · rw [List.length_map, ebs]
        have := (List.getElem?_eq_some_iff.mp hv).1
        rw [List.length_map] at this
        exact small6 (by omega)
      · exact same_upd_at (same_upd_at q1 hl0) (q3 L (List.mem_cons_self ..))
      · have := q2.push (ys := []) hl
        rw [show List.replicate (i + 1) ([] : List V) = List.replicate i [] ++ [[]] from List.replicate_succ']
        exact this
      · intro b hb
        rcases List.mem_cons.mp hb with e | e
        · exact q3 b (by rw [e]; exact List.mem_cons_self ..)
        · rcases List.mem_append.mp e with e | e
          · exact q3 b (List.mem_cons_of_mem _ e)
          · rw [List.mem_singleton.mp e]; exact hl0
    rintro H2 ⟨q1, bs, q2, q3⟩
    rw [List.length_map, elen] at q2
    -- for name in sorted(self.holders)
    have ekeys : (kvD D).map (·.1) = (D.map (·.1)).map (Sum.inr : Str → Key) := by
      unfold kvD
      rw [List.map_map, List.map_map]
      rfl
    refine ⟨_, rfl, p, C, dx, _, _, rfl, q1 _ _ hi.ins, T.cl, T.nH, pf_holders _ _, ld, _, D.map (·.1), rfl, .inl (q1 _ _ hi.dic), ekeys, ?_, fun ys z hperm hsrt hz => ?_⟩
    · rw [List.length_map, hi.hol.length]
      have := hm.bh
      omega
    have hys : ys.Nodup := hperm.nodup_iff.mpr hi.keys
    have hpw := sorted_pw hsrt
    have hzL : ∀ b ∈ L :: bs, z ≠ b := fun b hb q => by
      obtain ⟨xs, e⟩ := q2.tracked hb
      rw [← q, hz] at e
      cases e
    have q2' : LL (upd H2 z (.lst (ys.map V.str))) L bs (List.replicate n []) := q2.stay (F := F0) (ch_new hz) fun _ _ f => f
    have q1' : Same H (upd H2 z (.lst (ys.map V.str))) := q1.trans (same_new hz)
    have hz' : (upd H2 z (.lst (ys.map V.str))) z = some (.lst (ys.map V.str)) := upd_same
    generalize upd H2 z (.lst (ys.map V.str)) = H3 at q2' q1' hz'
    classical
    have hinv : ∀ {i : Nat} {s : Str}, ys[i]? = some s → ∀ r, fr S E (ys.take (i + 1)) r = fr S E (ys.take i) r ++ (open Classical in if Must S E r s then [s] else []) := fun {i s} hs' r => by
      unfold fr
      rw [List.take_add_one, hs', List.filter_append]
      congr 1
      show List.filter _ [s] = _
      rw [List.filter_cons]
      split <;> rename_i h1
      · rw [if_pos (of_decide_eq_true h1)]
        rfl
      · rw [if_neg fun q => h1 (decide_eq_true q)]
        rfl
    refine ⟨z, rfl, ⟨_, SqL.of hz'⟩, for_list (K := K) (a := z) (xs := ys.map V.str) (fun i σ H4 => ∃ v2 v3, σ = [some (.ref p), some (.ref L), v2, v3, none, none] ∧ Same H H4 ∧ H4 z = some (.lst (ys.map V.str)) ∧ LL H4 L bs ((List.range n).map fun r => (fr S E (ys.take i) r).map V.str))
      ⟨none, none, rfl, q1', hz', ?_⟩ (fun i σ H4 _ ⟨_, _, _, _, q, _⟩ => SqL.of q) ?_ ?_⟩
    · have e : (List.range n).map (fun r => (fr S E (ys.take 0) r).map V.str) = List.replicate n ([] : List V) := by
        apply List.ext_getElem?
        intro i
        rw [List.getElem?_map, List.getElem?_replicate]
        by_cases hi' : i < n
        · rw [List.getElem?_range hi', if_pos hi']
          rfl
        · rw [List.getElem?_eq_none (by rw [List.length_range]; omega), if_neg hi']
          rfl
      rw [e]
      exact q2'
    · rintro i x σ H4 hx ⟨v2, v3, rfl, s4, hz4, ll4⟩
      rw [List.getElem?_map] at hx
      cases es : ys[i]? with
      | none =>
        rw [es] at hx
        cases hx
      | some s =>
        rw [es] at hx
        obtain rfl : V.str s = x := Option.some.inj hx
        have hi4 : RwIn C H4 p dx lt ld as vss D ts hs := hi.stay (F := F0) (ch_of_same s4) fun _ _ f => f
        have hsD : s ∈ D.map (·.1) := hperm.mem_iff.mp (List.mem_of_getElem? es)
        refine ⟨_, rfl, p, dx, _, rfl, hi4.ins, pf_no _ _ (by decide +kernel) (by decide +kernel), _, rfl, p, dx, lt, ld, as, vss, D, ts, hs, n, S, E, B, s, rfl, hi4, hm, hn, hB, hsD, fun H5 q rs s5 hq hq5 nd5 mem5 => ?_⟩
        have hrn : ∀ r ∈ rs, r < n := fun r hr' => by
          cases (mem5 r).mp hr' with
          | base h => exact hm.hSn _ _ h
          | step _ h _ => exact hm.hEn _ _ _ h
        have hqL : ∀ b ∈ L :: bs, q ≠ b := fun b hb e => by
          obtain ⟨xs, e'⟩ := ll4.tracked hb
          rw [← e, hq] at e'
          cases e'
        have hqz : q ≠ z := fun e => by
          rw [e, hz4] at hq
          cases hq
        have ll5 := ll4.stay (F := F0) (ch_of_same s5) fun _ _ f => f
        refine ⟨q, rfl, ⟨_, SqL.of hq5⟩, for_list (K := K) (a := q) (xs := rs.map nv) (fun j σ H6 => ∃ v3, σ = [some (.ref p), some (.ref L), some (.str s), v3, none, none] ∧ Same H H6 ∧ H6 z = some (.lst (ys.map V.str)) ∧ H6 q = some (.lst (rs.map nv)) ∧
            LL H6 L bs ((List.range n).map fun r => (fr S E (ys.take i) r ++ if r ∈ rs.take j then [s] else []).map V.str))
          ⟨v3, rfl, s4.trans s5, s5 _ _ hz4, hq5, ?_⟩ (fun j σ H6 _ ⟨_, _, _, _, h, _⟩ => SqL.of h) ?_ ?_⟩
        · have e : ((List.range n).map fun r => (fr S E (ys.take i) r ++ if r ∈ rs.take 0 then [s] else []).map V.str) = (List.range n).map fun r => (fr S E (ys.take i) r).map V.str := by
            apply List.map_congr_left
            intro r _
            simp
          rw [e]
          exact ll5
        · rintro j x σ H6 hx ⟨v3, rfl, s6, hz6, hq6, ll6⟩
          rw [List.getElem?_map] at hx
          cases er : rs[j]? with
          | none =>
            rw [er] at hx
            cases hx
          | some r =>
            rw [er] at hx
            obtain rfl : nv r = x := Option.some.inj hx
            have hr' : r < n := hrn r (List.mem_of_getElem? er)
            have ebs : bs.length = n := by rw [ll6.its.length, List.length_map, List.length_range]
            have eb : bs[r]? = some bs[r] := List.getElem?_eq_getElem (by omega)
            generalize bs[r] = b at eb
            have hbm : b ∈ L :: bs := List.mem_cons_of_mem _ (List.mem_of_getElem? eb)
            obtain ⟨xs, exs, hxs⟩ := pr_get ll6.its eb
            rw [List.getElem?_map, List.getElem?_range hr'] at exs
            have exs' : (fr S E (ys.take i) r ++ if r ∈ rs.take j then [s] else []).map V.str = xs := Option.some.inj exs
            have hrt : r ∉ rs.take j := fun m => by
              obtain ⟨j', hj'⟩ := List.getElem?_of_mem m
              have hlt := (List.getElem?_eq_some_iff.mp hj').1
              rw [List.length_take] at hlt
              rw [List.getElem?_take_of_lt (by omega)] at hj'
              have := nd_ix nd5 hj' er
              omega
            refine ⟨_, rfl, _, rfl, L, _, _, V.ref b, rfl, rfl, SqL.of ll6.top, atI_nat (j := r) (v := V.ref b) (by rw [List.getElem?_map, eb]; rfl), .inl ⟨rfl, _, SqL.of hxs⟩, _, rfl, b, _, _, rfl, rfl, hxs, ?_, ?_⟩
            · rw [← exs', List.length_map, if_neg hrt, List.append_nil]
              unfold fr
              refine Nat.lt_of_le_of_lt (List.length_filter_le _ _) ?_
              rw [List.length_take]
              refine Nat.lt_of_le_of_lt (Nat.min_le_right _ _) (small6 ?_)
              rw [hperm.length_eq, List.length_map, hi.hol.length]
              have := hm.bh
              omega
            · refine ⟨_, rfl, same_upd_at s6 (q3 b hbm), ?_, ?_, ?_⟩
              · rw [upd_ne (hzL b hbm)]; exact hz6
              · rw [upd_ne (hqL b hbm)]; exact hq6
              · have h1 := ll6.set (ys := xs ++ [.str s]) eb
                rw [set_range hr'] at h1
                have e : (List.range n).map (fun k => if k = r then xs ++ [V.str s] else (fr S E (ys.take i) k ++ if k ∈ rs.take j then [s] else []).map V.str) = (List.range n).map fun k => (fr S E (ys.take i) k ++ if k ∈ rs.take (j + 1) then [s] else []).map V.str := by
                  apply List.map_congr_left
                  intro k _
                  have ht : k ∈ rs.take (j + 1) ↔ k ∈ rs.take j ∨ k = r := by
                    rw [List.take_add_one, er, List.mem_append]
                    show _ ∨ k ∈ [r] ↔ _
                    rw [List.mem_singleton]
                  by_cases e : k = r
                  · rw [if_pos e, if_pos (ht.mpr (.inr e)), ← exs', if_neg hrt, List.append_nil, List.map_append, e]
                    rfl
                  · rw [if_neg e]
                    by_cases e2 : k ∈ rs.take j
                    · rw [if_pos e2, if_pos (ht.mpr (.inl e2))]
                    · rw [if_neg e2, if_neg fun z => (ht.mp z).elim e2 e]
                rw [e] at h1
                exact h1
        · rintro σ H6 ⟨v3, rfl, s6, hz6, hq6, ll6⟩
          refine ⟨_, v3, rfl, s6, hz6, ?_⟩
          rw [List.length_map, List.take_length] at ll6
          have e : ((List.range n).map fun r => (fr S E (ys.take i) r ++ if r ∈ rs then [s] else []).map V.str) = (List.range n).map fun r => (fr S E (ys.take (i + 1)) r).map V.str := by
            apply List.map_congr_left
            intro r _
            rw [hinv es]
            by_cases h : Must S E r s
            · rw [if_pos h, if_pos ((mem5 r).mpr h)]
            · rw [if_neg h, if_neg fun q => h ((mem5 r).mp q)]
          rw [e] at ll6
          exact ll6
    · rintro σ H4 ⟨v2, v3, rfl, s4, hz4, ll4⟩
      rw [List.length_map, List.take_length] at ll4
      -- return [tuple(names) for names in found]
      refine ⟨_, rfl, L, rfl, ⟨_, SqL.of ll4.top⟩, fun X hX => ?_⟩
      have hX0 : H X = none := s4.free hX
      have ebs : bs.length = n := by rw [ll4.its.length, List.length_map, List.length_range]
      refine lc_list (K := K) (a := L) (xs := bs.map V.ref) (fun i H5 => Same H4 H5 ∧ ∃ ps : List Addr, H5 X = some (.lst (ps.map V.ref)) ∧ Paired (fun a (r : List Str) => H5 a = some (HO.tup (r.map V.str))) ps (((List.range n).map (fr S E ys)).take i))
        ⟨same_new hX, [], by rw [upd_same]; rfl, .nil⟩ (fun i H5 _ q => SqL.of (q.1 _ _ ll4.top)) ?_ ?_
      · rintro i x H5 hx ⟨s5, ps, h1, h2⟩
        rw [List.getElem?_map] at hx
        cases eb : bs[i]? with
        | none =>
          rw [eb] at hx
          cases hx
        | some b =>
          rw [eb] at hx
          obtain rfl : V.ref b = x := Option.some.inj hx
          obtain ⟨xs, exs, hxs⟩ := pr_get ll4.its eb
          have hin : i < n := by
            have := (List.getElem?_eq_some_iff.mp eb).1
            omega
          rw [List.getElem?_map, List.getElem?_range hin] at exs
          have exs' : (fr S E ys i).map V.str = xs := Option.some.inj exs
          have egi : ((List.range n).map (fr S E ys))[i]? = some (fr S E ys i) := by
            rw [List.getElem?_map, List.getElem?_range hin]
            rfl
          refine ⟨rfl, _, rfl, .inl ⟨b, xs, rfl, SqL.of (s5 _ _ hxs), fun t ht => ?_⟩⟩
          have hXt : X ≠ t := ne_of_none h1 ht
          have eps : ps.length = i := by
            rw [h2.length, List.length_take, List.length_map, List.length_range]
            omega
          refine ⟨_, by rw [upd_ne hXt]; exact h1, ?_, ?_, ps ++ [t], ?_, ?_⟩
          · rw [List.length_map, eps]
            exact small6 (by omega)
          · intro a o e
            rw [upd_ne (ne_of_none e hX), upd_ne (ne_of_none (s5 _ _ e) ht)]
            exact s5 _ _ e
          · rw [upd_same, List.map_append]
            rfl
          · rw [List.take_add_one, egi]
            refine Paired.snoc (pr_mono h2 fun a r ha _ e => ?_) ?_
            · rw [upd_ne (ne_of e h1 (by intro z; cases z)), upd_ne (ne_of_none e ht)]
              exact e
            · rw [upd_ne hXt.symm, upd_same, ← exs']
      · rintro H5 ⟨s5, ps, h1, h2⟩
        rw [List.length_map, ebs] at h2
        rw [List.take_of_length_le (by rw [List.length_map, List.length_range]; exact Nat.le_refl _)] at h2
        refine k _ X ((List.range n).map (fr S E ys)) (s4.trans s5) hX0 ⟨ps, h1, h2⟩ ⟨by rw [List.length_map, List.length_range], ?_, ?_, ?_⟩
        · intro i r hr'
          rw [List.getElem?_map] at hr'
          cases ei : (List.range n)[i]? with
          | none => rw [ei] at hr'; cases hr'
          | some j =>
            rw [ei] at hr'
            rw [← Option.some.inj hr']
            exact hpw.sublist List.filter_sublist
        · intro i r hr'
          rw [List.getElem?_map] at hr'
          cases ei : (List.range n)[i]? with
          | none => rw [ei] at hr'; cases hr'
          | some j =>
            rw [ei] at hr'
            rw [← Option.some.inj hr']
            exact hys.sublist List.filter_sublist
        · intro i r hr' s
          rw [List.getElem?_map] at hr'
          cases ei : (List.range n)[i]? with
          | none => rw [ei] at hr'; cases hr'
          | some j =>
            have hj := List.getElem?_eq_some_iff.mp ei
            have ej : j = i := by
              have := hj.2
              rw [List.getElem_range] at this
              exact this.symm
            subst ej
            rw [ei] at hr'
            rw [← Option.some.inj hr']
            unfold fr
            rw [List.mem_filter]
            constructor
            · exact fun q => of_decide_eq_true q.2
            · intro q
              refine ⟨?_, decide_eq_true q⟩
              obtain ⟨i', h'⟩ := must_hold q
              obtain ⟨is, h3, h4⟩ := (hm.hS _ _).mp h'
              obtain ⟨d, hd⟩ := List.getElem?_of_mem h3
              obtain ⟨e, he, hb⟩ := pr_get' hi.hol hd
              exact hperm.mem_iff.mpr (List.mem_map.mpr ⟨e, List.mem_of_getElem? he, hb.1⟩)
end
end Ka



set_option Elab.async false
set_option linter.all false
set_option maxRecDepth 100000
set_option maxHeartbeats 4000000
namespace Kt
open PySem PySem.Spec L2 PyProof.Rows Km Ka
/-! ### moves: what changed, and what belongs to the object afterwards -/
structure Mv (F : Addr → Prop) (H : Hp) (F' : Addr → Prop) (H' : Hp) : Prop where
  ch : Ch F H H'
  gr : ∀ a, F' a → F a ∨ H a = none
theorem Mv.refl (F : Addr → Prop) (H : Hp) : Mv F H F H := ⟨.refl F H, fun _ f => .inl f⟩
theorem Mv.trans {F F1 F2 : Addr → Prop} {H H1 H2 : Hp} (a : Mv F H F1 H1) (b : Mv F1 H1 F2 H2) : Mv F H F2 H2 :=
  ⟨a.ch.trans b.ch a.gr, fun x m => (b.gr x m).elim (a.gr x) fun e => .inr (a.ch.free e)⟩
theorem Mv.new {F : Addr → Prop} {H : Hp} {p : Addr} {o : HO} (h : H p = none) : Mv F H F (upd H p o) := ⟨ch_new h, fun _ f => .inl f⟩
theorem Mv.at_ {F : Addr → Prop} {H : Hp} {p : Addr} {o u : HO} (h : H p = some u) (hn : ∀ xs, u ≠ HO.tup xs) (hF : F p) : Mv F H F (upd H p o) := ⟨ch_at h hn hF, fun _ f => .inl f⟩
theorem Mv.keep {F F' : Addr → Prop} {H H' : Hp} (m : Mv F H F' H') {a : Addr} {o : HO} (h : H a = some o) (n : ¬ F a) : H' a = some o := m.ch.keep _ _ h n
theorem Mv.tup {F F' : Addr → Prop} {H H' : Hp} (m : Mv F H F' H') {a : Addr} {xs : List V} (h : H a = some (.tup xs)) : H' a = some (.tup xs) := m.ch.tup _ _ h
/-- what is not of the object and stands does not become of it -/
theorem Mv.out {F F' : Addr → Prop} {H H' : Hp} (m : Mv F H F' H') {a : Addr} {o : HO} (h : H a = some o) (n : ¬ F a) : ¬ F' a := fun f => (m.gr a f).elim n fun e => by rw [h] at e; cases e
theorem Mv.free {F F' : Addr → Prop} {H H' : Hp} (m : Mv F H F' H') {a : Addr} (h : H' a = none) : H a = none := m.ch.free h
theorem Mv.own {F F2 : Addr → Prop} {H H2 : Hp} {D : Addr} {o u : HO} (m : Mv F H F2 H2) (n : H D = none) (h : H2 D = some u) (hn : ∀ xs, u ≠ HO.tup xs) : Mv F H F2 (upd H2 D o) :=
  ⟨m.ch.trans (ch_at (F := fun a => a = D) h hn rfl) (fun x e => .inr (by rw [e]; exact n)), m.gr⟩
/-! ### the mirror of the types -/
inductive Kd where
  | int | bool | unit | pair | fn
deriving DecidableEq, Repr
def Kd.str : Kd → Str
  | .int => "int" | .bool => "bool" | .unit => "unit" | .pair => "pair" | .fn => "fun"
structure Fm where
  kind : Option Kd
  parts : List Nat
  row : Option Nat
structure TM where
  forms : List Fm
  leads : List Nat
  n : Nat
  b : Nat
def kV : Option Kd → V | none => .non | some k => .str k.str
def rV : Option Nat → V | none => .non | some r => nv r
def FU : Nat := 40
def leadM : Nat → List Nat → Nat → Option (Nat × List Nat)
  | 0, _, _ => none
  | f + 1, ls, i => match ls[i]? with
    | none => none
    | some j => if j = i then some (i, ls) else match ls[j]? with
      | none => none
      | some k => leadM f (ls.set i k) k
def insM : List Nat → List Nat → Option (List Nat × List Nat)
  | [], ls => some ([], ls)
  | p :: ps, ls => match leadM FU ls p with
    | none => none
    | some (q, ls1) => match insM ps ls1 with
      | none => none
      | some (qs, ls2) => some (q :: qs, ls2)
/-- a tuple, made or written -/
def TupA (K : PySem.W.Frag) (H : Hp) (u : Addr) (xs : List V) : Prop := H u = some (.tup xs) ∨ ∀ H', SqT K H' u xs
theorem TupA.sq {K : PySem.W.Frag} {H : Hp} {u : Addr} {xs : List V} (h : TupA K H u xs) : SqT K H u xs := h.elim SqT.of fun h => h H
theorem TupA.stay {K : PySem.W.Frag} {F : Addr → Prop} {H H' : Hp} {u : Addr} {xs : List V} (h : TupA K H u xs) (k : Ch F H H') : TupA K H' u xs := h.elim (fun h => .inl (k.tup _ _ h)) .inr
def FormAt (K : PySem.W.Frag) (H : Hp) (v : V) (f : Fm) : Prop := ∃ t u, v = .ref t ∧ H t = some (.tup [kV f.kind, .ref u, rV f.row]) ∧ TupA K H u (f.parts.map nv)
theorem FormAt.stay {K : PySem.W.Frag} {F : Addr → Prop} {H H' : Hp} {v : V} {f : Fm} (h : FormAt K H v f) (k : Ch F H H') : FormAt K H' v f := by
  obtain ⟨t, u, e, h1, h2⟩ := h
  exact ⟨t, u, e, k.tup _ _ h1, h2.stay k⟩
def pt (r lf ll : Addr) : List (Str × V) := putF "leads" (.ref ll) (putF "forms" (.ref lf) (putF "rows" (.ref r) []))
theorem lf_ne : ¬ (("forms" : Str) = "leads") := by decide +kernel
theorem lr_ne : ¬ (("rows" : Str) = "leads") := by decide +kernel
theorem fr_ne : ¬ (("rows" : Str) = "forms") := by decide +kernel
theorem pt_leads (r lf ll : Addr) : (pt r lf ll).lookup ("leads" : Str) = some (.ref ll) := by
  unfold pt
  rw [lookup_putF, if_pos rfl]
theorem pt_forms (r lf ll : Addr) : (pt r lf ll).lookup ("forms" : Str) = some (.ref lf) := by
  unfold pt
  rw [lookup_putF, if_neg lf_ne, lookup_putF, if_pos rfl]
theorem pt_rows (r lf ll : Addr) : (pt r lf ll).lookup ("rows" : Str) = some (.ref r) := by
  unfold pt
  rw [lookup_putF, if_neg lr_ne, lookup_putF, if_neg fr_ne, lookup_putF, if_pos rfl]
theorem pt_no (r lf ll : Addr) {m : Str} (h1 : ¬ m = "leads") (h2 : ¬ m = "forms") (h3 : ¬ m = "rows") : (pt r lf ll).lookup m = none := by
  unfold pt
  rw [lookup_putF, if_neg h1, lookup_putF, if_neg h2, lookup_putF, if_neg h3]
  all_goals rfl
structure TyIn (K : PySem.W.Frag) (C CR : Addr) (H : Hp) (t dx lf ll r : Addr) (vf : List V) (m : TM) (E : Nat → Nat → List Str → Prop) (FR : Addr → Prop) : Prop where
  ins : H t = some (.ins C dx (pt r lf ll))
  fo : H lf = some (.lst vf)
  fr : Paired (FormAt K H) vf m.forms
  le : H ll = some (.lst (m.leads.map nv))
  rw_ : RwAt CR H r m.n NoS E m.b FR
  ne : lf ≠ ll
  nf : ¬ FR lf
  nl : ¬ FR ll
  nt : ¬ FR t
  sm : ∀ f ∈ m.forms, f.parts.length ≤ 2
abbrev FTy (lf ll : Addr) (FR : Addr → Prop) : Addr → Prop := fun a => a = lf ∨ a = ll ∨ FR a
def TyAt (K : PySem.W.Frag) (C CR : Addr) (H : Hp) (t r : Addr) (m : TM) (F : Addr → Prop) : Prop := ∃ dx lf ll vf E FR, TyIn K C CR H t dx lf ll r vf m E FR ∧ F = FTy lf ll FR
section
variable {K : PySem.W.Frag} {C CR : Addr} {H H' : Hp} {t dx lf ll r : Addr} {vf : List V} {m : TM} {E : Nat → Nat → List Str → Prop} {F F' FR : Addr → Prop}
theorem TyIn.tl (h : TyIn K C CR H t dx lf ll r vf m E FR) : t ≠ ll := ne_of h.ins h.le (by intro z; cases z)
theorem TyIn.tf (h : TyIn K C CR H t dx lf ll r vf m E FR) : t ≠ lf := ne_of h.ins h.fo (by intro z; cases z)
theorem TyIn.off (h : TyIn K C CR H t dx lf ll r vf m E FR) : ¬ FTy lf ll FR t := fun q => q.elim h.tf fun q => q.elim h.tl h.nt
theorem TyIn.stay (h : TyIn K C CR H t dx lf ll r vf m E FR) (k : Ch F' H H') (d : ∀ a, FTy lf ll FR a → ¬ F' a) (dt : ¬ F' t) : TyIn K C CR H' t dx lf ll r vf m E FR where
  ins := k.keep _ _ h.ins dt
  fo := k.keep _ _ h.fo (d _ (.inl rfl))
  fr := pr_mono h.fr fun v f _ _ q => q.stay k
  le := k.keep _ _ h.le (d _ (.inr (.inl rfl)))
  rw_ := h.rw_.stay k fun a f => d a (.inr (.inr f))
  ne := h.ne
  nf := h.nf
  nl := h.nl
  nt := h.nt
  sm := h.sm
theorem TyIn.tracked (h : TyIn K C CR H t dx lf ll r vf m E FR) {a : Addr} (q : FTy lf ll FR a) : ∃ o, H a = some o ∧ ∀ xs, o ≠ HO.tup xs := by
  rcases q with e | e | e
  · exact ⟨_, by rw [e]; exact h.fo, fun xs q => by cases q⟩
  · exact ⟨_, by rw [e]; exact h.le, fun xs q => by cases q⟩
  · exact h.rw_.tracked e
theorem TyAt.stay (h : TyAt K C CR H t r m F) (k : Ch F' H H') (d : ∀ a, F a → ¬ F' a) (dt : ¬ F' t) : TyAt K C CR H' t r m F := by
  obtain ⟨dx, lf, ll, vf, E, FR, hi, rfl⟩ := h
  exact ⟨dx, lf, ll, vf, E, FR, hi.stay k d dt, rfl⟩
theorem TyAt.new (h : TyAt K C CR H t r m F) {p : Addr} {o : HO} (n : H p = none) : TyAt K C CR (upd H p o) t r m F := h.stay (F' := F0) (ch_new n) (fun _ _ f => f) fun f => f
theorem TyAt.own (h : TyAt K C CR H t r m F) {D : Addr} {o u : HO} (hD : ¬ F D) (e : H D = some u) (hn : ∀ xs, u ≠ HO.tup xs) (hi : ∀ c dx fs, u ≠ HO.ins c dx fs) : TyAt K C CR (upd H D o) t r m F := by
  refine h.stay (F' := fun a => a = D) (ch_at e hn rfl) (fun a f q => hD (by rw [← q]; exact f)) fun q => ?_
  obtain ⟨dx, lf, ll, vf, E, FR, h', rfl⟩ := h
  rw [← q, h'.ins] at e
  exact hi _ _ _ (Option.some.inj e).symm
theorem TyAt.tracked (h : TyAt K C CR H t r m F) {a : Addr} (q : F a) : ∃ o, H a = some o ∧ ∀ xs, o ≠ HO.tup xs := by
  obtain ⟨dx, lf, ll, vf, E, FR, hi, rfl⟩ := h
  exact hi.tracked q
theorem TyAt.ins (h : TyAt K C CR H t r m F) : ∃ dx lf ll, H t = some (.ins C dx (pt r lf ll)) := by
  obtain ⟨dx, lf, ll, vf, E, FR, hi, rfl⟩ := h
  exact ⟨dx, lf, ll, hi.ins⟩
theorem TyAt.off (h : TyAt K C CR H t r m F) : ¬ F t := by
  obtain ⟨dx, lf, ll, vf, E, FR, hi, rfl⟩ := h
  exact hi.off
/-- a store into the leads -/
theorem TyIn.lead (h : TyIn K C CR H t dx lf ll r vf m E FR) {ls : List Nat} : TyIn K C CR (upd H ll (.lst (ls.map nv))) t dx lf ll r vf { m with leads := ls } E FR := by
  have c : Ch (fun a => a = ll) H (upd H ll (.lst (ls.map nv))) := ch_at h.le (by intro xs z; cases z) rfl
  exact ⟨by rw [upd_ne h.tl]; exact h.ins, by rw [upd_ne h.ne]; exact h.fo, pr_mono h.fr fun v f _ _ q => q.stay c, upd_same, h.rw_.stay c fun a f e => h.nl (by rw [← e]; exact f), h.ne, h.nf, h.nl, h.nt, h.sm⟩
end
/-- an operation's way out -/
def TyOut (K : PySem.W.Frag) (C CR : Addr) (H : Hp) (t r : Addr) (m : TM) (F : Addr → Prop) (Q : Hp → Prop) : Prop := ∀ (H' : Hp) (F' : Addr → Prop), TyAt K C CR H' t r m F' → Mv F H F' H' → Q H'
structure TTxt (K : PySem.W.Frag) (mg : Str → Option Value) (C : Addr) : Prop where
  cl : Cls K C
  nF : NoAttr K C "forms"
  nL : NoAttr K C "leads"
  nR : NoAttr K C "rows"
  mgC : mg "Types" = some (.ref C)
  len : mg "len" = none
  tup : mg "tuple" = none
  lst : mg "list" = none
  sum : mg "sum" = none
  zip : mg "zip" = none
/-! ### the text -/
abbrev tInit : Stmt := inClass (topS 8) 0
abbrev tMade : Stmt := inClass (topS 8) 1
abbrev tUnd : Stmt := inClass (topS 8) 2
abbrev tPlain : Stmt := inClass (topS 8) 3
abbrev tLead : Stmt := inClass (topS 8) 4
abbrev tIns : Stmt := inClass (topS 8) 5
abbrev tFit : Stmt := inClass (topS 8) 6
abbrev tIf : Stmt := inClass (topS 8) 7
abbrev tCi : Stmt := inClass (topS 8) 8
abbrev tSz : Stmt := inClass (topS 8) 9
abbrev tRs : Stmt := inClass (topS 8) 10
abbrev tRt : Stmt := inClass (topS 8) 11
section
variable {P : Program} {w : World} {K : PySem.W.Frag} {mg : Str → Option Value} {base : Heap}
/-! ### leader -/
def spLead (C CR : Addr) (K : PySem.W.Frag) : Sp := fun vs H Q _ => ∃ (t r : Addr) (m : TM) (F : Addr → Prop) (f i j : Nat) (ls : List Nat), vs = [.ref t, nv i] ∧ TyAt K C CR H t r m F ∧ leadM f m.leads i = some (j, ls) ∧
  TyOut K C CR H t r { m with leads := ls } F fun H' => Q (nv j) H'
theorem iteNT {c A B : Prop} [Decidable c] (hc : ¬ c) (h : A) : if (!decide c) = true then A else B := by
  rw [decide_eq_false hc]
  exact iteT h
theorem scLead : FnScope ["self", "one"] ["self", "one"] (defScope tLead) := ⟨rfl, rfl, rfl, by decide +kernel, rfl, by decide +kernel, by decide +kernel⟩
theorem nv_ne {i j : Nat} : (nv i ≠ nv j) ↔ i ≠ j := ⟨fun h e => h (by rw [e]), fun h e => h (by
  have e' : V.int (i : Int) = V.int (j : Int) := e
  have e2 := V.int.inj e'
  omega)⟩
theorem at_nv {ls : List Nat} {i j : Nat} (h : ls[i]? = some j) : atI (ls.map nv) (i : Int) = some (nv j) := atI_nat (by rw [List.getElem?_map, h]; rfl)
theorem ix_nv {α : Type} {xs : List α} {i : Nat} {x : α} (h : xs[i]? = some x) : ixN xs.length (i : Int) = some i := by
  have := (List.getElem?_eq_some_iff.mp h).1
  unfold ixN
  rw [if_pos (by omega), if_pos (by omega)]
  rfl
theorem ok_lead {f C CR : Addr} {fd : FuncData} (F : Fun K "leader" "Types.leader" tLead f fd) (T : TTxt K mg C) : FnOk P w K mg base CX0 1 f fd ["self", "one"] (spLead C CR K) := by
  refine F.ok scLead (fun vs H Q E h => ?_) (fun cdv A outer s H vs Q E hr h => ?_)
  · obtain ⟨t, r, m, F, f, i, j, ls, rfl, _⟩ := h
    rfl
  · obtain ⟨t, r, m, F, f, i, j, ls, rfl, hT, hl, k⟩ := h
    refine ⟨_, pss_cons (ps_while PassesOwn.never (pt_cmpR op_ne (pe_ix ix_list (pe_fld (pv 0) rfl) (pv 1) (fun _ _ => rfl)) (pv 1) (nomark _))
        (pss_cons (ps_asg (pe_ix ix_list (pe_fld (pv 0) rfl) (pe_ix ix_list (pe_fld (pv 0) rfl) (pv 1) (fun _ _ => rfl)) (fun _ _ => rfl)) (pg_sub (pe_fld (pv 0) rfl) (pv 1) set_list))
          (pss_one (ps_set (i := 1) scLead.nd rfl (Or.inl rfl) (pe_ix ix_list (pe_fld (pv 0) rfl) (pv 1) (fun _ _ => rfl))))))
      (pss_one (ps_ret (pv 1))), ?_⟩
    refine ⟨fun x σ H1 => ∃ (F1 : Addr → Prop) (l1 : List Nat) (i1 : Nat), σ = [some (.ref t), some (nv i1)] ∧ TyAt K C CR H1 t r { m with leads := l1 } F1 ∧ Mv F H F1 H1 ∧ leadM x l1 i1 = some (j, ls), ⟨f, F, m.leads, i, rfl, hT, .refl _ _, hl⟩, ?_⟩
    rintro x σ H1 ⟨F1, l1, i1, rfl, hT1, mv, hl1⟩
    obtain ⟨dx, lf, ll, vf, E', FR, hi, rfl⟩ := hT1
    cases x with
    | zero => cases hl1
    | succ x =>
      unfold leadM at hl1
      cases e1 : l1[i1]? with
      | none => rw [e1] at hl1; cases hl1
      | some j1 =>
        rw [e1] at hl1
        refine ⟨_, rfl, t, C, dx, _, _, rfl, hi.ins, T.cl, T.nL, pt_leads _ _ _, _, rfl, ll, _, _, _, rfl, rfl, SqL.of hi.le, at_nv e1, _, rfl, rfl, _, rfl, ?_⟩
        dsimp only at hl1
        by_cases e2 : j1 = i1
        · rw [if_pos e2] at hl1
          subst e2
          obtain ⟨rfl, rfl⟩ : j1 = j ∧ l1 = ls := by
            have := Option.some.inj hl1
            exact ⟨congrArg Prod.fst this, congrArg Prod.snd this⟩
          refine iteNS rfl ?_
          exact ⟨_, rfl, k _ _ ⟨dx, lf, ll, vf, E', FR, hi, rfl⟩ mv⟩
        · rw [if_neg e2] at hl1
          cases e3 : l1[j1]? with
          | none => rw [e3] at hl1; cases hl1
          | some k1 =>
            rw [e3] at hl1
            dsimp only at hl1
            refine iteNT (nv_ne.mpr e2) ?_
            refine ⟨fun σ H' => ∃ m', m' < x + 1 ∧ ∃ (F1 : Addr → Prop) (l1 : List Nat) (i1 : Nat), σ = [some (.ref t), some (nv i1)] ∧ TyAt K C CR H' t r { m with leads := l1 } F1 ∧ Mv F H F1 H' ∧ leadM m' l1 i1 = some (j, ls), fun _ _ h => h, ?_⟩
            refine ⟨_, rfl, t, C, dx, _, _, rfl, hi.ins, T.cl, T.nL, pt_leads _ _ _, _, rfl, t, C, dx, _, _, rfl, hi.ins, T.cl, T.nL, pt_leads _ _ _, _, rfl, ll, _, _, _, rfl, rfl, SqL.of hi.le, at_nv e1, ll, _, _, _, rfl, rfl, SqL.of hi.le, at_nv e3, ?_⟩
            refine ⟨_, rfl, t, C, dx, _, _, rfl, hi.ins, T.cl, T.nL, pt_leads _ _ _, _, rfl, ll, _, _, i1, rfl, rfl, hi.le, (by rw [List.length_map]; exact ix_nv e1), ?_⟩
            have hi2 := hi.lead (ls := l1.set i1 k1)
            rw [← List.map_set]
            refine ⟨_, rfl, t, C, dx, _, _, rfl, hi2.ins, T.cl, T.nL, pt_leads _ _ _, _, rfl, ll, _, _, _, rfl, rfl, SqL.of hi2.le, at_nv (List.getElem?_set_self (List.getElem?_eq_some_iff.mp e1).1), ?_⟩
            exact ⟨x, Nat.lt_succ_self _, _, _, _, rfl, ⟨dx, lf, ll, vf, E', FR, hi2, rfl⟩, mv.trans (.at_ hi.le (by intro xs z; cases z) (.inr (.inl rfl))), hl1⟩
end
end Kt



set_option Elab.async false
set_option linter.all false
set_option maxRecDepth 100000
set_option maxHeartbeats 4000000
namespace Kt
open PySem PySem.Spec L2 PyProof.Rows Km Ka
/-! ### a dict of numbers -/
abbrev nk (k : Nat) : Key := Sum.inl (k : Int)
def kvF (g : Nat → V) (ks : List Nat) : List (Key × V) := ks.map fun k => (nk k, g k)
theorem nk_inj {i j : Nat} (h : nk i = nk j) : i = j := Int.ofNat.inj (Sum.inl.inj h)
theorem kvF_val (g : Nat → V) (i : Nat) : ∀ ks : List Nat, valV (kvF g ks) (nk i) = if i ∈ ks then some (g i) else none
  | [] => rfl
  | k :: r => by
    have ih := kvF_val g i r
    by_cases e : k = i
    · subst e
      rw [if_pos (List.mem_cons_self ..)]
      exact valV_pos (p := (nk k, g k)) rfl
    · rw [show kvF g (k :: r) = (nk k, g k) :: kvF g r from rfl, valV_neg (p := (nk k, g k)) fun q => e (nk_inj q), ih]
      by_cases m : i ∈ r
      · rw [if_pos m, if_pos (List.mem_cons_of_mem _ m)]
      · rw [if_neg m, if_neg fun q => (List.mem_cons.mp q).elim (fun q => e q.symm) m]
theorem kvF_congr {g g' : Nat → V} {ks : List Nat} (h : ∀ k ∈ ks, g k = g' k) : kvF g ks = kvF g' ks := List.map_congr_left fun k hk => by rw [h k hk]
theorem kvF_new (g : Nat → V) {ks : List Nat} {i : Nat} (v : V) (h : i ∉ ks) : putK (kvF g ks) (nk i) v = kvF (fun k => if k = i then v else g k) (ks ++ [i]) := by
  rw [putK_new v (by rw [kvF_val, if_neg h])]
  have e : kvF g ks = kvF (fun k => if k = i then v else g k) ks := kvF_congr fun k hk => by rw [if_neg fun q => h (by rw [← q]; exact hk)]
  rw [e]
  unfold kvF
  rw [List.map_append]
  simp
theorem kvF_old (g : Nat → V) {ks : List Nat} {i : Nat} (v : V) (h : i ∈ ks) : putK (kvF g ks) (nk i) v = kvF (fun k => if k = i then v else g k) ks := by
  unfold putK
  rw [valV_any, kvF_val, if_pos h]
  refine (if_pos rfl).trans ?_
  unfold kvF
  rw [List.map_map]
  refine List.map_congr_left fun k hk => ?_
  show (if nk k = nk i then (nk k, v) else (nk k, g k)) = (nk k, if k = i then v else g k)
  by_cases e : k = i
  · rw [if_pos e, if_pos (by rw [e])]
  · rw [if_neg e, if_neg fun q => e (nk_inj q)]
theorem kvF_len (g : Nat → V) (ks : List Nat) : (kvF g ks).length = ks.length := List.length_map _
section
variable {P : Program} {w : World} {K : PySem.W.Frag} {mg : Str → Option Value} {base : Heap}
/-- a list is given back: new, and not of the object -/
def TyOutL (K : PySem.W.Frag) (C CR : Addr) (H : Hp) (t r : Addr) (m : TM) (F : Addr → Prop) (xs : List V) (Q : VK) : Prop :=
  ∀ (H' : Hp) (F' : Addr → Prop) (D : Addr), TyAt K C CR H' t r m F' → Mv F H F' H' → H D = none → H' D = some (.lst xs) → ¬ F' D → Q (.ref D) H'
/-! ### inside -/
def spIns (C CR : Addr) (K : PySem.W.Frag) : Sp := fun vs H Q _ => ∃ (t r : Addr) (m : TM) (F : Addr → Prop) (i : Nat) (fm : Fm) (qs ls : List Nat), vs = [.ref t, nv i] ∧ TyAt K C CR H t r m F ∧ m.forms[i]? = some fm ∧ insM fm.parts m.leads = some (qs, ls) ∧
  TyOutL K C CR H t r { m with leads := ls } F (qs.map nv) Q
abbrev nIns : List Str := ["self", "one", "part"]
theorem scIns : FnScope nIns ["self", "one"] (defScope tIns) := ⟨rfl, rfl, rfl, by decide +kernel, rfl, by decide +kernel, by decide +kernel⟩
theorem pt_leader (r lf ll : Addr) : (pt r lf ll).lookup ("leader" : Str) = none := pt_no _ _ _ (by decide +kernel) (by decide +kernel) (by decide +kernel)
theorem pt_inside (r lf ll : Addr) : (pt r lf ll).lookup ("inside" : Str) = none := pt_no _ _ _ (by decide +kernel) (by decide +kernel) (by decide +kernel)
theorem pt_insf (r lf ll : Addr) : (pt r lf ll).lookup ("inside_first" : Str) = none := pt_no _ _ _ (by decide +kernel) (by decide +kernel) (by decide +kernel)
theorem lstTup {xs : List V} : ∀ ys, HO.lst xs ≠ HO.tup ys := by intro xs z; cases z
theorem lstIns {xs : List V} : ∀ c dx fs, HO.lst xs ≠ HO.ins c dx fs := by intro _ _ _ z; cases z
theorem dkTup {xs : List (Key × V)} : ∀ ys, HO.dK xs ≠ HO.tup ys := by intro xs z; cases z
theorem dkIns {xs : List (Key × V)} : ∀ c dx fs, HO.dK xs ≠ HO.ins c dx fs := by intro _ _ _ z; cases z
theorem TyAt.notin {K : PySem.W.Frag} {C CR : Addr} {H : Hp} {t r : Addr} {m : TM} {F : Addr → Prop} (h : TyAt K C CR H t r m F) {a : Addr} (n : H a = none) : ¬ F a := fun f => by
  obtain ⟨o, e, _⟩ := h.tracked f
  rw [n] at e
  cases e
theorem insM_cons {p q : Nat} {ps qs ls ls' : List Nat} (h : insM (p :: ps) ls = some (qs, ls')) : ∃ q ls1 qs', leadM FU ls p = some (q, ls1) ∧ insM ps ls1 = some (qs', ls') ∧ qs = q :: qs' := by
  unfold insM at h
  cases e1 : leadM FU ls p with
  | none => rw [e1] at h; cases h
  | some x =>
    obtain ⟨q, ls1⟩ := x
    rw [e1] at h
    dsimp only at h
    cases e2 : insM ps ls1 with
    | none => rw [e2] at h; cases h
    | some y =>
      obtain ⟨qs', ls2⟩ := y
      rw [e2] at h
      dsimp only at h
      have h' := Option.some.inj h
      have h1 : q :: qs' = qs := congrArg Prod.fst h'
      have h2 : ls2 = ls' := congrArg Prod.snd h'
      subst h1 h2
      exact ⟨q, ls1, qs', rfl, e2, rfl⟩
theorem insM_len : ∀ {ps qs ls ls' : List Nat}, insM ps ls = some (qs, ls') → qs.length = ps.length
  | [], qs, ls, ls', h => by
    have e : [] = qs := congrArg Prod.fst (Option.some.inj h)
    rw [← e]
  | p :: ps, qs, ls, ls', h => by
    obtain ⟨q, ls1, qs', _, h2, rfl⟩ := insM_cons (q := 0) h
    rw [List.length_cons, List.length_cons, insM_len h2]
theorem ok_ins {f fL C CR : Addr} {fd fdL : FuncData} (F : Fun K "inside" "Types.inside" tIns f fd) (T : TTxt K mg C) (FL : Fun K "leader" "Types.leader" tLead fL fdL) (bL : Binds K fdL ["self", "one"] []) (mL : Meth K C "leader" fL) : FnOk P w K mg base CX0 2 f fd ["self", "one"] (spIns C CR K) := by
  have GL : FnOk P w K mg base CX0 1 fL fdL ["self", "one"] (spLead C CR K) := ok_lead FL T
  refine F.ok scIns (fun vs H Q E h => ?_) (fun cdv A outer s H vs Q E hr h => ?_)
  · obtain ⟨t, r, m, F, i, fm, qs, ls, rfl, _⟩ := h
    rfl
  · obtain ⟨t, r, m, F, i, fm, qs, ls, rfl, hT, hf, hl, k⟩ := h
    refine ⟨_, pss_one (ps_ret (pe_lc (own := [("part", 2)]) (g := gName 2) (tt := tYes) (te := tMeth C "leader" (spLead C CR K) [] E0 (tVar 0) (tCons (tVar 2) tNil)) rfl scIns.nd
      (pi_tup (pe_ix ix_tup (pe_ix ix_list (pe_fld (pv 0) rfl) (pv 1) (fun _ _ => rfl)) pe_int (fun _ _ => rfl)))
      (blkOk_by (N := nIns) (sc := defScope tIns) (by decide +kernel)) (fun _ _ _ _ _ => pg_name (i := 2) scIns.nd rfl (Or.inl rfl)) (fun _ _ _ _ _ => pts_nil)
      (fun _ _ _ _ _ => pe_meth (pv 0) T.cl mL GL hr bL .nil pass0 (pa_cons (pv 2) pa_nil)))), ?_⟩
    obtain ⟨dx, lf, ll, vf, E', FR, hi, rfl⟩ := id hT
    obtain ⟨v, hv, ta, u, rfl, hta, hu⟩ := pr_get' hi.fr hf
    have h2 : fm.parts.length ≤ 2 := hi.sm _ (List.mem_of_getElem? hf)
    refine ⟨_, rfl, t, C, dx, _, _, rfl, hi.ins, T.cl, T.nF, pt_forms _ _ _, _, rfl, lf, _, _, _, rfl, rfl, SqL.of hi.fo, atI_nat hv, ta, _, 1, _, rfl, rfl, SqT.of hta, rfl, u, rfl, ⟨_, hu.sq⟩, fun D hD => ?_⟩
    have nFD := hT.notin hD
    refine lc_tup (K := K) (a := u) (xs := fm.parts.map nv) (fun x H2 => ∃ (F2 : Addr → Prop) (l2 q2 rest : List Nat), TyAt K C CR H2 t r { m with leads := l2 } F2 ∧ Mv (FTy lf ll FR) H F2 H2 ∧ H2 D = some (.lst (q2.map nv)) ∧ ¬ F2 D ∧ q2.length = x ∧ insM (fm.parts.drop x) l2 = some (rest, ls) ∧ qs = q2 ++ rest)
      ⟨_, m.leads, [], qs, hT.new hD, .new hD, upd_same, nFD, rfl, hl, rfl⟩ (fun x H2 _ q => ?_) ?_ ?_
    · obtain ⟨F2, l2, q2, rest, _, mv, _⟩ := q
      exact (hu.stay mv.ch).sq
    · rintro x v2 H2 hx ⟨F2, l2, q2, rest, hT2, mv, hD2, nD2, el, hl2, eq⟩
      rw [List.getElem?_map] at hx
      cases ep : fm.parts[x]? with
      | none => rw [ep] at hx; cases hx
      | some p =>
        rw [ep] at hx
        have ev : v2 = nv p := (Option.some.inj hx).symm
        subst ev
        have ed : fm.parts.drop x = p :: fm.parts.drop (x + 1) := by
          rw [List.drop_eq_getElem_cons (List.getElem?_eq_some_iff.mp ep).1]
          rw [(List.getElem?_eq_some_iff.mp ep).2]
        rw [ed] at hl2
        obtain ⟨q, l3, rest', e1, e2, e3⟩ := insM_cons (q := 0) hl2
        refine ⟨rfl, ?_⟩
        obtain ⟨dx2, lf2, ll2, i2⟩ := hT2.ins
        refine ⟨_, rfl, t, dx2, _, rfl, i2, pt_leader _ _ _, _, rfl, ?_⟩
        refine ⟨t, r, _, F2, FU, p, q, l3, rfl, hT2, e1, fun H3 F3 hT3 mv3 => ?_⟩
        have hD3 : H3 D = some (.lst (q2.map nv)) := mv3.keep hD2 nD2
        have nD3 : ¬ F3 D := mv3.out hD2 nD2
        refine ⟨_, hD3, ?_, F3, l3, q2 ++ [q], rest', hT3.own nD3 hD3 lstTup lstIns, (mv.trans mv3).own hD hD3 lstTup, ?_, nD3, ?_, e2, ?_⟩
        · have := insM_len hl
          rw [List.length_map]
          refine small1000 ?_
          have h3 := congrArg List.length eq
          rw [List.length_append] at h3
          omega
        · rw [upd_same, List.map_append]
          rfl
        · rw [List.length_append, el]
          rfl
        · rw [eq, e3, List.append_assoc]
          rfl
    · rintro H2 ⟨F2, l2, q2, rest, hT2, mv, hD2, nD2, el, hl2, eq⟩
      rw [List.length_map, List.drop_length] at hl2
      have := Option.some.inj hl2
      have e1 : [] = rest := congrArg Prod.fst this
      have e2 : l2 = ls := congrArg Prod.snd this
      subst e1 e2
      rw [List.append_nil] at eq
      subst eq
      exact k H2 F2 D hT2 mv hD hD2 nD2
end
end Kt


set_option Elab.async false
set_option linter.all false
set_option maxRecDepth 100000
set_option maxHeartbeats 4000000
namespace Kt
open PySem PySem.Spec L2 PyProof.Rows Km Ka
def ifM (forms : List Fm) : Nat → List Nat → List Nat → List Nat → List Nat → Option (List Nat × List Nat)
  | 0, _, _, _, _ => none
  | f + 1, op, fo, wt, ls => match wt.getLast? with
    | none => some (fo, ls)
    | some w => if 900 < wt.length + op.length + fo.length then none else match leadM FU ls w with
      | none => none
      | some (o, l1) => if o ∈ op then ifM forms f op (if o ∈ fo then fo else fo ++ [o]) wt.dropLast l1 else match forms[o]? with
        | none => none
        | some fm => match insM fm.parts l1 with
          | none => none
          | some (qs, l2) => ifM forms f (op ++ [o]) fo (wt ++ qs) l2
theorem ifM_step {forms : List Fm} {f : Nat} {op fo wt ls fo' ls' : List Nat} (h : ifM forms (f + 1) op fo wt ls = some (fo', ls')) :
    (wt = [] ∧ fo = fo' ∧ ls = ls') ∨ ∃ wt' w o l1, wt = wt' ++ [w] ∧ wt.length + op.length + fo.length ≤ 900 ∧ leadM FU ls w = some (o, l1) ∧
      ((o ∈ op ∧ o ∈ fo ∧ ifM forms f op fo wt' l1 = some (fo', ls')) ∨ (o ∈ op ∧ o ∉ fo ∧ ifM forms f op (fo ++ [o]) wt' l1 = some (fo', ls')) ∨
        (o ∉ op ∧ ∃ fm qs l2, forms[o]? = some fm ∧ insM fm.parts l1 = some (qs, l2) ∧ ifM forms f (op ++ [o]) fo (wt ++ qs) l2 = some (fo', ls'))) := by
  unfold ifM at h
  cases e : wt.getLast? with
  | none =>
    rw [e] at h
    have h' := Option.some.inj h
    exact .inl ⟨List.getLast?_eq_none_iff.mp e, congrArg Prod.fst h', congrArg Prod.snd h'⟩
  | some w =>
    rw [e] at h
    dsimp only at h
    by_cases c : 900 < wt.length + op.length + fo.length
    · rw [if_pos c] at h; cases h
    rw [if_neg c] at h
    have ew : wt = wt.dropLast ++ [w] := by
      cases wt with
      | nil => cases e
      | cons a r =>
        have e2 := List.getLast?_eq_some_getLast (List.cons_ne_nil a r)
        rw [e2] at e
        rw [← Option.some.inj e]
        exact (List.dropLast_concat_getLast _).symm
    cases e1 : leadM FU ls w with
    | none => rw [e1] at h; cases h
    | some x =>
      obtain ⟨o, l1⟩ := x
      rw [e1] at h
      dsimp only at h
      refine .inr ⟨_, w, o, l1, ew, by omega, e1, ?_⟩
      by_cases c1 : o ∈ op
      · rw [if_pos c1] at h
        by_cases c2 : o ∈ fo
        · rw [if_pos c2] at h
          exact .inl ⟨c1, c2, h⟩
        · rw [if_neg c2] at h
          exact .inr (.inl ⟨c1, c2, h⟩)
      · rw [if_neg c1] at h
        cases e2 : forms[o]? with
        | none => rw [e2] at h; cases h
        | some fm =>
          rw [e2] at h
          dsimp only at h
          cases e3 : insM fm.parts l1 with
          | none => rw [e3] at h; cases h
          | some y =>
            obtain ⟨qs, l2⟩ := y
            rw [e3] at h
            exact .inr (.inr ⟨c1, fm, qs, l2, rfl, e3, h⟩)
theorem sql_same {K : PySem.W.Frag} {H H' : Hp} {a : Addr} {xs : List V} (h : SqL K H a xs) (e : Same H H') : SqL K H' a xs :=
  h.elim (fun h => .inl (h.elim (fun h => .inl (e _ _ h)) fun ⟨o, h⟩ => .inr ⟨o, e _ _ h⟩)) fun h => .inr h
theorem atI_last' {α : Type} {xs : List α} {v : α} : atI (xs ++ [v]) (-1) = some v := by
  have e : ixN (xs ++ [v]).length (-1) = some xs.length := by
    unfold ixN
    rw [if_neg (by omega), if_pos (by rw [List.length_append]; simp; omega), List.length_append]
    congr 1
    simp
    omega
  unfold atI
  rw [e]
  simp
section
variable {P : Program} {w : World} {K : PySem.W.Frag} {mg : Str → Option Value} {base : Heap}
def spIf (C CR : Addr) (K : PySem.W.Frag) : Sp := fun vs H Q _ => ∃ (t r a : Addr) (m : TM) (F : Addr → Prop) (f : Nat) (os fo ls : List Nat), vs = [.ref t, .ref a] ∧ SqL K H a (os.map nv) ∧ TyAt K C CR H t r m F ∧ ifM m.forms f [] [] os m.leads = some (fo, ls) ∧
  TyOutL K C CR H t r { m with leads := ls } F (fo.map nv) Q
abbrev nIf : List Str := ["self", "ones", "found", "ended", "waiting", "one"]
theorem scIf : FnScope nIf ["self", "ones"] (defScope tIf) := ⟨rfl, rfl, rfl, by decide +kernel, rfl, by decide +kernel, by decide +kernel⟩
abbrev gB (fo : List Nat) : Nat → V := fun k => .bl (decide (k ∈ fo))
theorem gB_add {fo : List Nat} {o : Nat} : (fun k => if k = o then V.bl true else gB fo k) = gB (fo ++ [o]) := by
  funext k
  by_cases e : k = o
  · rw [if_pos e]
    show V.bl true = V.bl (decide (k ∈ fo ++ [o]))
    rw [decide_eq_true (by rw [e]; exact List.mem_append_right _ (List.mem_cons_self ..))]
  · rw [if_neg e]
    show V.bl (decide (k ∈ fo)) = V.bl (decide (k ∈ fo ++ [o]))
    congr 1
    apply decide_eq_decide.mpr
    rw [List.mem_append, List.mem_singleton]
    exact ⟨.inl, fun q => q.resolve_right e⟩
theorem ok_if {f fL fI C CR : Addr} {fd fdL fdI : FuncData} (F : Fun K "inside_first" "Types.inside_first" tIf f fd) (T : TTxt K mg C) (GL : FnOk P w K mg base CX0 1 fL fdL ["self", "one"] (spLead C CR K)) (bL : Binds K fdL ["self", "one"] []) (mL : Meth K C "leader" fL)
    (GI : FnOk P w K mg base CX0 2 fI fdI ["self", "one"] (spIns C CR K)) (bI : Binds K fdI ["self", "one"] []) (mI : Meth K C "inside" fI) : FnOk P w K mg base CX0 3 f fd ["self", "ones"] (spIf C CR K) := by
  refine F.ok scIf (fun vs H Q E h => ?_) (fun cdv A outer s H vs Q E hr h => ?_)
  · obtain ⟨t, r, a, m, F, f, os, fo, ls, rfl, _⟩ := h
    rfl
  · obtain ⟨t, r, a, m, F, f, os, fo, ls, rfl, ha, hT, hl, k⟩ := h
    have hu := hu_of hr
    have hr1 : Room 1 _ := hr.mono (by decide)
    refine ⟨_, pss_cons (ps_set (i := 2) scIf.nd rfl (Or.inl rfl) (pe_lst pa_nil))
      (pss_cons (ps_set (i := 3) scIf.nd rfl (Or.inl rfl) pe_dnewK)
      (pss_cons (ps_set (i := 4) scIf.nd rfl (Or.inl rfl) (pe_callTy call_list_of (by rfl) T.lst (by decide +kernel) (pa_cons (pv 1) pa_nil)))
      (pss_cons (ps_while PassesOwn.never (pt_truth (pv 4) (by intro _; rfl))
        (pss_cons (ps_set (i := 5) scIf.nd rfl (Or.inl rfl) (pe_meth (pv 0) T.cl mL GL hr1 bL .nil pass0 (pa_cons (pe_ix ix_list (pv 4) (pe_un un_neg pe_int) (fun _ _ => rfl)) pa_nil)))
        (pss_one (ps_if (pt_cmp (pc_dnotin hu (pv 5) (pv 3)))
          (pss_cons (ps_dput hu (pv 3) (pv 5) pe_bl rfl)
          (pss_one (ps_expr (pe_bm PySem.F.plainAttrs_list PySem.F.slot_list_extend PySem.F.type_list_extend mt_extend (pv 4) (pa_cons (pe_meth (pv 0) T.cl mI GI hr bI .nil pass0 (pa_cons (pv 5) pa_nil)) pa_nil)))))
          (pss_cons (ps_expr (pe_bm0 PySem.F.plainAttrs_list PySem.F.slot_list_pop PySem.F.type_list_pop mt_pop (pv 4)))
          (pss_one (ps_if (pt_not (pt_val (pe_dget hu (pv 3) (pv 5) (fun _ _ => rfl))))
            (pss_cons (ps_dput hu (pv 3) (pv 5) pe_bl rfl)
            (pss_one (ps_expr (pe_bm PySem.F.plainAttrs_list PySem.F.slot_list_append PySem.F.type_list_append mt_append (pv 2) (pa_cons (pv 5) pa_nil))))) pss_nil)))))))
      (pss_one (ps_ret (pv 2)))))), ?_⟩
    refine ⟨Nat.zero_le _, fun p hp => ?_⟩
    intro d hd
    have hpd : p ≠ d := fun q => by rw [← q, upd_same] at hd; cases hd
    have hd0 : H d = none := by rw [upd_ne hpd.symm] at hd; exact hd
    have s2 : Same H (upd (upd H p (.lst [])) d (.dK [])) := (same_new hp).trans (same_new hd)
    have ha2 : SqL K (upd (upd H p (.lst [])) d (.dK [])) a (os.map nv) := sql_same ha s2
    refine ⟨_, rfl, a, _, rfl, .inl ha2, fun l hl0 => ?_⟩
    have hlp : l ≠ p := fun q => by rw [q, upd_ne hpd, upd_same] at hl0; cases hl0
    have hld : l ≠ d := fun q => by rw [q, upd_same] at hl0; cases hl0
    have hl1 : H l = none := s2.free hl0
    have nFp := hT.notin hp
    have nFd := hT.notin hd0
    have nFl := hT.notin hl1
    have mv0 : Mv F H F (upd (upd (upd H p (.lst [])) d (.dK [])) l (.lst (os.map nv))) := ((Mv.new hp).trans (.new hd)).trans (.new hl0)
    have hT0 : TyAt K C CR (upd (upd (upd H p (.lst [])) d (.dK [])) l (.lst (os.map nv))) t r m F := ((hT.new hp).new hd).new hl0
    refine ⟨fun x σ H1 => ∃ (F1 : Addr → Prop) (op fo1 wt l1 : List Nat) (v5 : Option V), σ = [some (.ref t), some (.ref a), some (.ref p), some (.ref d), some (.ref l), v5] ∧ TyAt K C CR H1 t r { m with leads := l1 } F1 ∧ Mv F H F1 H1 ∧
        H1 p = some (.lst (fo1.map nv)) ∧ H1 d = some (.dK (kvF (gB fo1) op)) ∧ H1 l = some (.lst (wt.map nv)) ∧ ¬ F1 p ∧ ¬ F1 d ∧ ¬ F1 l ∧ (∀ k ∈ fo1, k ∈ op) ∧ ifM m.forms x op fo1 wt l1 = some (fo, ls),
      ⟨f, F, [], [], os, m.leads, none, rfl, hT0, mv0, ?_, ?_, upd_same, nFp, nFd, nFl, (fun k hk => by cases hk), hl⟩, ?_⟩
    · rw [upd_ne hlp.symm, upd_ne hpd, upd_same]
      rfl
    · rw [upd_ne hld.symm, upd_same]
      rfl
    rintro x σ H1 ⟨F1, op, fo1, wt, l1, v5, rfl, hT1, mv, hp1, hd1, hw1, np, nd, nl, hsub, hif⟩
    refine ⟨_, rfl, _, .inl ⟨_, SqL.of hw1, rfl⟩, ?_⟩
    cases x with
    | zero => cases hif
    | succ x =>
      rcases ifM_step hif with ⟨rfl, rfl, rfl⟩ | ⟨wt', w0, o, l2, rfl, hz, e1, hc⟩
      · refine iteF ?_
        exact ⟨_, rfl, k H1 F1 p hT1 mv hp hp1 np⟩
      · rw [show (!((wt' ++ [w0]).map nv).isEmpty) = true by rw [List.map_append]; simp]
        refine iteT ?_
        rw [List.length_append] at hz
        refine ⟨fun σ' H' => ∃ m', m' < x + 1 ∧ ∃ (F1 : Addr → Prop) (op fo1 wt l1 : List Nat) (v5 : Option V), σ' = [some (.ref t), some (.ref a), some (.ref p), some (.ref d), some (.ref l), v5] ∧ TyAt K C CR H' t r { m with leads := l1 } F1 ∧ Mv F H F1 H' ∧
          H' p = some (.lst (fo1.map nv)) ∧ H' d = some (.dK (kvF (gB fo1) op)) ∧ H' l = some (.lst (wt.map nv)) ∧ ¬ F1 p ∧ ¬ F1 d ∧ ¬ F1 l ∧ (∀ k ∈ fo1, k ∈ op) ∧ ifM m.forms m' op fo1 wt l1 = some (fo, ls), fun _ _ h => h, ?_⟩
        obtain ⟨dx1, lf1, ll1, i1⟩ := hT1.ins
        refine ⟨_, rfl, t, dx1, _, rfl, i1, pt_leader _ _ _, _, rfl, _, rfl, l, _, _, _, rfl, rfl, SqL.of hw1, (by rw [List.map_append]; exact atI_last'), ?_⟩
        refine ⟨t, r, _, F1, FU, w0, o, l2, rfl, hT1, e1, fun H2 F2 hT2 mv2 => ?_⟩
        have hp2 := mv2.keep hp1 np
        have hd2 := mv2.keep hd1 nd
        have hw2 := mv2.keep hw1 nl
        have np2 := mv2.out hp1 np
        have nd2 := mv2.out hd1 nd
        have nl2 := mv2.out hw1 nl
        have mv' := mv.trans mv2
        refine ⟨_, rfl, _, rfl, d, _, rfl, DGet.k (k := nk o) hd2, _, rfl, ?_⟩
        rw [kvF_val]
        rcases hc with ⟨c1, c2, hif'⟩ | ⟨c1, c2, hif'⟩ | ⟨c1, fm, qs, l3, e2, e3, hif'⟩
        · rw [if_pos c1]
          refine iteF ?_
          have edl : ((wt' ++ [w0]).map nv).dropLast = wt'.map nv := by
            rw [List.map_append]
            exact List.dropLast_concat
          have elast : ((wt' ++ [w0]).map nv)[((wt' ++ [w0]).map nv).length - 1]? = some (nv w0) := by
            rw [List.map_append, List.length_append]
            simp
          refine ⟨_, rfl, .inl ⟨rfl, _, SqL.of hw2⟩, l, _, _, rfl, rfl, hw2, elast, ?_⟩
          rw [edl]
          have mv3 := mv'.own (o := .lst (wt'.map nv)) hl1 hw2 lstTup
          have hT3 := hT2.own (o := .lst (wt'.map nv)) nl2 hw2 lstTup lstIns
          have hp3 : (upd H2 l (.lst (wt'.map nv))) p = some (.lst (fo1.map nv)) := by rw [upd_ne hlp.symm]; exact hp2
          have hd3 : (upd H2 l (.lst (wt'.map nv))) d = some (.dK (kvF (gB fo1) op)) := by rw [upd_ne hld.symm]; exact hd2
          have hw3 : (upd H2 l (.lst (wt'.map nv))) l = some (.lst (wt'.map nv)) := upd_same
          generalize upd H2 l (.lst (wt'.map nv)) = H3 at mv3 hT3 hp3 hd3 hw3
          have hval : DGet H3 d (.int (o : Int)) (some (gB fo1 o)) := by
            have := DGet.k (k := nk o) hd3
            rw [kvF_val, if_pos c1] at this
            exact this
          refine ⟨_, rfl, _, rfl, d, _, rfl, hval, _, rfl, ?_⟩
          rw [decide_eq_true c2]
          refine iteF ?_
          exact ⟨x, Nat.lt_succ_self _, F2, op, fo1, wt', l2, _, rfl, hT3, mv3, hp3, hd3, hw3, np2, nd2, nl2, hsub, hif'⟩
        · rw [if_pos c1]
          refine iteF ?_
          have edl : ((wt' ++ [w0]).map nv).dropLast = wt'.map nv := by
            rw [List.map_append]
            exact List.dropLast_concat
          have elast : ((wt' ++ [w0]).map nv)[((wt' ++ [w0]).map nv).length - 1]? = some (nv w0) := by
            rw [List.map_append, List.length_append]
            simp
          refine ⟨_, rfl, .inl ⟨rfl, _, SqL.of hw2⟩, l, _, _, rfl, rfl, hw2, elast, ?_⟩
          rw [edl]
          have mv3 := mv'.own (o := .lst (wt'.map nv)) hl1 hw2 lstTup
          have hT3 := hT2.own (o := .lst (wt'.map nv)) nl2 hw2 lstTup lstIns
          have hp3 : (upd H2 l (.lst (wt'.map nv))) p = some (.lst (fo1.map nv)) := by rw [upd_ne hlp.symm]; exact hp2
          have hd3 : (upd H2 l (.lst (wt'.map nv))) d = some (.dK (kvF (gB fo1) op)) := by rw [upd_ne hld.symm]; exact hd2
          have hw3 : (upd H2 l (.lst (wt'.map nv))) l = some (.lst (wt'.map nv)) := upd_same
          generalize upd H2 l (.lst (wt'.map nv)) = H3 at mv3 hT3 hp3 hd3 hw3
          have hval : DGet H3 d (.int (o : Int)) (some (gB fo1 o)) := by
            have := DGet.k (k := nk o) hd3
            rw [kvF_val, if_pos c1] at this
            exact this
          refine ⟨_, rfl, _, rfl, d, _, rfl, hval, _, rfl, ?_⟩
          rw [decide_eq_false c2]
          refine iteT ?_
          refine ⟨_, rfl, _, rfl, d, _, rfl, DPut.k (k := nk o) hd3 (by rw [kvF_len]; exact small1000 (by omega)), ?_⟩
          rw [kvF_old _ _ c1, gB_add]
          have mv4 := mv3.own (o := .dK (kvF (gB (fo1 ++ [o])) op)) hd0 hd3 dkTup
          have hT4 := hT3.own (o := .dK (kvF (gB (fo1 ++ [o])) op)) nd2 hd3 dkTup dkIns
          have hp4 : (upd H3 d (.dK (kvF (gB (fo1 ++ [o])) op))) p = some (.lst (fo1.map nv)) := by rw [upd_ne hpd]; exact hp3
          have hw4 : (upd H3 d (.dK (kvF (gB (fo1 ++ [o])) op))) l = some (.lst (wt'.map nv)) := by rw [upd_ne hld]; exact hw3
          have hd4 : (upd H3 d (.dK (kvF (gB (fo1 ++ [o])) op))) d = some (.dK (kvF (gB (fo1 ++ [o])) op)) := upd_same
          generalize upd H3 d (.dK (kvF (gB (fo1 ++ [o])) op)) = H4 at mv4 hT4 hp4 hd4 hw4
          refine ⟨_, rfl, .inl ⟨rfl, _, SqL.of hp4⟩, _, rfl, p, _, _, rfl, rfl, hp4, (by rw [List.length_map]; exact small1000 (by omega)), ?_⟩
          refine ⟨x, Nat.lt_succ_self _, F2, op, fo1 ++ [o], wt', l2, _, rfl, hT4.own np2 hp4 lstTup lstIns, mv4.own hp hp4 lstTup, ?_, ?_, ?_, np2, nd2, nl2, (fun k hk => (List.mem_append.mp hk).elim (hsub k) fun q => by rw [List.mem_singleton.mp q]; exact c1), hif'⟩
          · rw [upd_same, List.map_append]
            rfl
          · rw [upd_ne hpd.symm]
            exact hd4
          · rw [upd_ne hlp]
            exact hw4
        · rw [if_neg c1]
          refine iteT ?_
          refine ⟨_, rfl, _, rfl, d, _, rfl, DPut.k (k := nk o) hd2 (by rw [kvF_len]; exact small1000 (by omega)), ?_⟩
          have eg : kvF (fun k => if k = o then V.bl false else gB fo1 k) (op ++ [o]) = kvF (gB fo1) (op ++ [o]) := kvF_congr fun k _ => by
            by_cases e : k = o
            · rw [if_pos e, e]
              show V.bl false = V.bl (decide (o ∈ fo1))
              rw [decide_eq_false fun q => c1 (hsub o q)]
            · rw [if_neg e]
          rw [kvF_new _ _ c1, eg]
          have mv3 := mv'.own (o := .dK (kvF (gB fo1) (op ++ [o]))) hd0 hd2 dkTup
          have hT3 := hT2.own (o := .dK (kvF (gB fo1) (op ++ [o]))) nd2 hd2 dkTup dkIns
          have hp3 : (upd H2 d (.dK (kvF (gB fo1) (op ++ [o])))) p = some (.lst (fo1.map nv)) := by rw [upd_ne hpd]; exact hp2
          have hw3 : (upd H2 d (.dK (kvF (gB fo1) (op ++ [o])))) l = some (.lst ((wt' ++ [w0]).map nv)) := by rw [upd_ne hld]; exact hw2
          have hd3 : (upd H2 d (.dK (kvF (gB fo1) (op ++ [o])))) d = some (.dK (kvF (gB fo1) (op ++ [o]))) := upd_same
          generalize upd H2 d (.dK (kvF (gB fo1) (op ++ [o]))) = H3 at mv3 hT3 hp3 hd3 hw3
          obtain ⟨dx3, lf3, ll3, i3⟩ := hT3.ins
          refine ⟨_, rfl, .inl ⟨rfl, _, SqL.of hw3⟩, _, rfl, t, dx3, _, rfl, i3, pt_inside _ _ _, _, rfl, ?_⟩
          refine ⟨t, r, _, F2, o, fm, qs, l3, rfl, hT3, e2, e3, fun H4 F4 X hT4 mv4 hX hX4 nX => ?_⟩
          have hp4 := mv4.keep hp3 np2
          have hd4 := mv4.keep hd3 nd2
          have hw4 := mv4.keep hw3 nl2
          refine ⟨l, X, _, _, rfl, rfl, hw4, hX4, ?_, ?_⟩
          · obtain ⟨_, _, _, _, _, _, h4, _⟩ := id hT2
            have h2 := h4.sm _ (List.mem_of_getElem? e2)
            have h3 := insM_len e3
            rw [List.length_map, List.length_map, List.length_append]
            exact Nat.le_of_lt (small1000 (by simp; simp at hz; omega))
          refine ⟨x, Nat.lt_succ_self _, F4, op ++ [o], fo1, wt' ++ [w0] ++ qs, l3, _, rfl, hT4.own (mv4.out hw3 nl2) hw4 lstTup lstIns, (mv3.trans mv4).own hl1 hw4 lstTup, ?_, ?_, ?_, mv4.out hp3 np2, mv4.out hd3 nd2, mv4.out hw3 nl2, (fun k hk => List.mem_append_left _ (hsub k hk)), hif'⟩
          · rw [upd_ne hlp.symm]
            exact hp4
          · rw [upd_ne hld.symm]
            exact hd4
          · rw [upd_same, List.map_append (l₁ := wt' ++ [w0])]
end
end Kt


set_option Elab.async false
set_option linter.all false
set_option maxRecDepth 100000
set_option maxHeartbeats 4000000
namespace Kt
open PySem PySem.Spec L2 PyProof.Rows Km Ka
def ciM (forms : List Fm) : List Nat → List Nat → List Nat → Option (Bool × List Nat)
  | [], _, ls => some (false, ls)
  | e :: r, seen, ls => match forms[e]? with
    | none => none
    | some fm => match insM fm.parts ls with
      | none => none
      | some (qs, l1) => if qs.all (fun q => decide (q ∈ seen)) then (if e ∈ seen ∨ 900 < seen.length then none else ciM forms r (seen ++ [e]) l1) else some (true, l1)
theorem ciM_step {forms : List Fm} {e : Nat} {r seen ls ls' : List Nat} {b : Bool} (h : ciM forms (e :: r) seen ls = some (b, ls')) :
    ∃ fm qs l1, forms[e]? = some fm ∧ insM fm.parts ls = some (qs, l1) ∧ (((∀ q ∈ qs, q ∈ seen) ∧ e ∉ seen ∧ seen.length ≤ 900 ∧ ciM forms r (seen ++ [e]) l1 = some (b, ls')) ∨ ((∃ q ∈ qs, q ∉ seen) ∧ b = true ∧ l1 = ls')) := by
  unfold ciM at h
  cases e2 : forms[e]? with
  | none => rw [e2] at h; cases h
  | some fm =>
    rw [e2] at h
    dsimp only at h
    cases e3 : insM fm.parts ls with
    | none => rw [e3] at h; cases h
    | some y =>
      obtain ⟨qs, l1⟩ := y
      rw [e3] at h
      dsimp only at h
      refine ⟨fm, qs, l1, rfl, e3, ?_⟩
      by_cases c : qs.all (fun q => decide (q ∈ seen)) = true
      · rw [if_pos c] at h
        by_cases c2 : e ∈ seen ∨ 900 < seen.length
        · rw [if_pos c2] at h; cases h
        · rw [if_neg c2] at h
          exact .inl ⟨fun q hq => of_decide_eq_true (List.all_eq_true.mp c q hq), fun z => c2 (.inl z), by omega, h⟩
      · rw [if_neg c] at h
        have h' := Option.some.inj h
        have e1 : true = b := congrArg Prod.fst h'
        refine .inr ⟨?_, e1.symm, congrArg Prod.snd h'⟩
        by_cases z : ∃ q ∈ qs, q ∉ seen
        · exact z
        · exact absurd (List.all_eq_true.mpr fun q hq => decide_eq_true (Classical.byContradiction fun y => z ⟨q, hq, y⟩)) c
abbrev gT : Nat → V := fun _ => .bl true
theorem gT_add {ks : List Nat} {o : Nat} (h : o ∉ ks) : putK (kvF gT ks) (nk o) (.bl true) = kvF gT (ks ++ [o]) := by
  rw [kvF_new _ _ h]
  exact kvF_congr fun k _ => by split <;> rfl
theorem kvF_has (g : Nat → V) (i : Nat) (ks : List Nat) : (valV (kvF g ks) (nk i)).isSome = decide (i ∈ ks) := by
  rw [kvF_val]
  by_cases h : i ∈ ks
  · rw [if_pos h, decide_eq_true h]; rfl
  · rw [if_neg h, decide_eq_false h]; rfl
section
variable {P : Program} {w : World} {K : PySem.W.Frag} {mg : Str → Option Value} {base : Heap}
def spCi (C CR : Addr) (K : PySem.W.Frag) : Sp := fun vs H Q _ => ∃ (t r : Addr) (m : TM) (F : Addr → Prop) (i f : Nat) (fo l1 ls : List Nat) (b : Bool), vs = [.ref t, nv i] ∧ TyAt K C CR H t r m F ∧ ifM m.forms f [] [] [i] m.leads = some (fo, l1) ∧ ciM m.forms fo [] l1 = some (b, ls) ∧
  TyOut K C CR H t r { m with leads := ls } F fun H' => Q (.bl b) H'
abbrev nCi : List Str := ["self", "one", "seen", "each", "part"]
theorem scCi : FnScope nCi ["self", "one"] (defScope tCi) := ⟨rfl, rfl, rfl, by decide +kernel, rfl, by decide +kernel, by decide +kernel⟩
theorem ok_ci {f fI fF C CR : Addr} {fd fdI fdF : FuncData} (F : Fun K "contains_itself" "Types.contains_itself" tCi f fd) (T : TTxt K mg C)
    (GI : FnOk P w K mg base CX0 2 fI fdI ["self", "one"] (spIns C CR K)) (bI : Binds K fdI ["self", "one"] []) (mI : Meth K C "inside" fI)
    (GF : FnOk P w K mg base CX0 3 fF fdF ["self", "ones"] (spIf C CR K)) (bF : Binds K fdF ["self", "ones"] []) (mF : Meth K C "inside_first" fF) : FnOk P w K mg base CX0 4 f fd ["self", "one"] (spCi C CR K) := by
  refine F.ok scCi (fun vs H Q E h => ?_) (fun cdv A outer s H vs Q E hr h => ?_)
  · obtain ⟨t, r, m, F, i, f, fo, l1, ls, b, rfl, _⟩ := h
    rfl
  · obtain ⟨t, r, m, F, i, f, fo, l1, ls, b, rfl, hT, hif, hci, k⟩ := h
    have hu := hu_of hr
    have hr2 : Room 2 _ := hr.mono (by decide)
    refine ⟨_, pss_cons (ps_set (i := 2) scCi.nd rfl (Or.inl rfl) pe_dnewK)
      (pss_cons (ps_for PassesOwn.never rfl (pi_list (pe_meth (pv 0) T.cl mF GF hr bF .nil pass0 (pa_cons (pe_lst (pa_cons (pv 1) pa_nil)) pa_nil))) (pg_name (i := 3) scCi.nd rfl (Or.inl rfl))
        (pss_cons (ps_for PassesOwn.never rfl (pi_list (pe_meth (pv 0) T.cl mI GI hr2 bI .nil pass0 (pa_cons (pv 3) pa_nil))) (pg_name (i := 4) scCi.nd rfl (Or.inl rfl))
          (pss_one (ps_if (pt_cmp (pc_dnotin hu (pv 4) (pv 2))) (pss_one (ps_ret pe_bl)) pss_nil)))
        (pss_one (ps_dput hu (pv 2) (pv 3) pe_bl rfl))))
      (pss_one (ps_ret pe_bl))), ?_⟩
    intro d hd
    have nFd := hT.notin hd
    have hT1 : TyAt K C CR (upd H d (.dK [])) t r m F := hT.new hd
    have mv1 : Mv F H F (upd H d (.dK [])) := .new hd
    have hd1 : (upd H d (.dK [])) d = some (.dK []) := upd_same
    generalize upd H d (.dK []) = H1 at hT1 mv1 hd1
    obtain ⟨dx1, lf1, ll1, i1⟩ := hT1.ins
    refine ⟨_, rfl, t, dx1, _, rfl, i1, pt_insf _ _ _, _, rfl, (by show 1 ≤ sizeLine; decide), fun q hq => ?_⟩
    have hdq : d ≠ q := ne_of_none hd1 hq
    refine ⟨t, r, q, m, F, f, [i], fo, l1, rfl, SqL.of upd_same, hT1.new hq, hif, fun H2 F2 Y hT2 mv2 hY hY2 nY => ?_⟩
    have mv2' : Mv F H F2 H2 := mv1.trans ((Mv.new hq).trans mv2)
    have hd2 : H2 d = some (.dK []) := mv2.keep (by rw [upd_ne hdq]; exact hd1) nFd
    have nd2 : ¬ F2 d := mv2.out (a := d) (o := .dK []) (by rw [upd_ne hdq]; exact hd1) nFd
    have hYd : Y ≠ d := ne_of hY2 hd2 (by intro z; cases z)
    refine ⟨Y, rfl, ⟨_, SqL.of hY2⟩, for_list (K := K) (a := Y) (xs := fo.map nv) (fun x σ H3 => ∃ (F3 : Addr → Prop) (seen l3 : List Nat) (v3 v4 : Option V), σ = [some (.ref t), some (nv i), some (.ref d), v3, v4] ∧ TyAt K C CR H3 t r { m with leads := l3 } F3 ∧ Mv F H F3 H3 ∧
        H3 d = some (.dK (kvF gT seen)) ∧ H3 Y = some (.lst (fo.map nv)) ∧ ¬ F3 d ∧ ¬ F3 Y ∧ ciM m.forms (fo.drop x) seen l3 = some (b, ls))
      ⟨F2, [], l1, _, _, rfl, hT2, mv2', hd2, hY2, nd2, nY, hci⟩ (fun x σ H3 _ ⟨_, _, _, _, _, _, _, _, _, q, _⟩ => SqL.of q) ?_ ?_⟩
    · rintro x v σ H3 hx ⟨F3, seen, l3, v3, v4, rfl, hT3, mv3, hd3, hY3, nd3, nY3, hc⟩
      rw [List.getElem?_map] at hx
      cases ep : fo[x]? with
      | none => rw [ep] at hx; cases hx
      | some p =>
        rw [ep] at hx
        have ev : v = nv p := (Option.some.inj hx).symm
        subst ev
        have ed : fo.drop x = p :: fo.drop (x + 1) := by
          rw [List.drop_eq_getElem_cons (List.getElem?_eq_some_iff.mp ep).1]
          rw [(List.getElem?_eq_some_iff.mp ep).2]
        rw [ed] at hc
        obtain ⟨fm, qs, l4, e1, e2, hcc⟩ := ciM_step hc
        obtain ⟨dx3, lf3, ll3, i3⟩ := hT3.ins
        refine ⟨_, rfl, t, dx3, _, rfl, i3, pt_inside _ _ _, _, rfl, ?_⟩
        refine ⟨t, r, _, F3, p, fm, qs, l4, rfl, hT3, e1, e2, fun H4 F4 X hT4 mv4 hX hX4 nX => ?_⟩
        have hd4 := mv4.keep hd3 nd3
        have hY4 := mv4.keep hY3 nY3
        have nd4 := mv4.out hd3 nd3
        have nY4 := mv4.out hY3 nY3
        refine ⟨X, rfl, ⟨_, SqL.of hX4⟩, for_list (K := K) (a := X) (xs := qs.map nv) (fun y σ H5 => (∃ v4, σ = [some (.ref t), some (nv i), some (.ref d), some (nv p), v4]) ∧ H5 = H4 ∧ ∀ q ∈ qs.take y, q ∈ seen)
          ⟨⟨_, rfl⟩, rfl, by simp⟩ (fun y σ H5 _ q => by rw [q.2.1]; exact SqL.of hX4) ?_ ?_⟩
        · rintro y v σ H5 hy ⟨⟨v4', rfl⟩, rfl, hall⟩
          rw [List.getElem?_map] at hy
          cases eq' : qs[y]? with
          | none => rw [eq'] at hy; cases hy
          | some q =>
            rw [eq'] at hy
            have ev : v = nv q := (Option.some.inj hy).symm
            subst ev
            refine ⟨_, rfl, _, rfl, d, _, rfl, DGet.k (k := nk q) hd4, _, rfl, ?_⟩
            rw [kvF_has]
            by_cases hq : q ∈ seen
            · rw [decide_eq_true hq]
              refine iteF ?_
              refine ⟨⟨_, rfl⟩, rfl, fun z hz => ?_⟩
              rw [List.take_add_one, eq'] at hz
              rcases List.mem_append.mp hz with hz | hz
              · exact hall z hz
              · rw [show z = q from List.mem_singleton.mp hz]; exact hq
            · rw [decide_eq_false hq]
              refine iteT ?_
              rcases hcc with ⟨h1, _⟩ | ⟨_, rfl, rfl⟩
              · exact absurd (h1 q (List.mem_of_getElem? eq')) hq
              · exact k _ _ hT4 (mv3.trans mv4)
        · rintro σ H5 ⟨⟨v4', rfl⟩, rfl, hall⟩
          rcases hcc with ⟨h1, h2, h3, h4⟩ | ⟨⟨q, hq1, hq2⟩, _⟩
          · refine ⟨_, rfl, _, rfl, d, _, rfl, DPut.k (k := nk p) hd4 (by rw [kvF_len]; exact small1000 (by omega)), ?_⟩
            rw [gT_add h2]
            have hYd' : Y ≠ d := hYd
            refine ⟨F4, seen ++ [p], l4, _, _, rfl, hT4.own nd4 hd4 dkTup dkIns, (mv3.trans mv4).own hd hd4 dkTup, upd_same, by rw [upd_ne hYd']; exact hY4, nd4, nY4, h4⟩
          · refine absurd (hall q ?_) hq2
            rw [List.length_map, List.take_length]
            exact hq1
    · rintro σ H3 ⟨F3, seen, l3, v3, v4, rfl, hT3, mv3, hd3, hY3, nd3, nY3, hc⟩
      rw [List.length_map, List.drop_length] at hc
      have h' := Option.some.inj hc
      have e1 : false = b := congrArg Prod.fst h'
      have e2 : l3 = ls := congrArg Prod.snd h'
      subst e1 e2
      exact k _ _ hT3 mv3
end
end Kt


set_option Elab.async false
set_option linter.all false
set_option maxRecDepth 100000
set_option maxHeartbeats 4000000
namespace Kt
open PySem PySem.Spec L2 PyProof.Rows Km Ka
def getN : List (Nat × Nat) → Nat → Nat
  | [], _ => 0
  | (a, v) :: r, k => if a = k then v else getN r k
def keysN (kn : List (Nat × Nat)) : List Nat := kn.map (·.1)
theorem getN_old {o v k : Nat} : ∀ {kn : List (Nat × Nat)}, k ∈ keysN kn → getN (kn ++ [(o, v)]) k = getN kn k
  | [], h => by cases h
  | (a, x) :: r, h => by
    show (if a = k then x else getN (r ++ [(o, v)]) k) = if a = k then x else getN r k
    by_cases e : a = k
    · rw [if_pos e, if_pos e]
    · rw [if_neg e, if_neg e]
      exact getN_old ((List.mem_cons.mp h).resolve_left fun q => e q.symm)
theorem getN_new {o v : Nat} : ∀ {kn : List (Nat × Nat)}, o ∉ keysN kn → getN (kn ++ [(o, v)]) o = v
  | [], _ => if_pos rfl
  | (a, x) :: r, h => by
    have h1 : ¬ a = o := fun q => h (by rw [← q]; exact List.mem_cons_self ..)
    show (if a = o then x else getN (r ++ [(o, v)]) o) = v
    rw [if_neg h1]
    exact getN_new fun q => h (List.mem_cons_of_mem _ q)
abbrev kvN (kn : List (Nat × Nat)) : List (Key × V) := kvF (fun k => nv (getN kn k)) (keysN kn)
theorem kvN_new {kn : List (Nat × Nat)} {o v : Nat} (h : o ∉ keysN kn) : putK (kvN kn) (nk o) (nv v) = kvN (kn ++ [(o, v)]) := by
  unfold kvN
  rw [kvF_new _ _ h]
  have e : keysN (kn ++ [(o, v)]) = keysN kn ++ [o] := by unfold keysN; rw [List.map_append]; rfl
  rw [e]
  refine kvF_congr fun k hk => ?_
  by_cases q : k = o
  · rw [if_pos q, q, getN_new h]
  · rw [if_neg q, getN_old ((List.mem_append.mp hk).resolve_right fun z => q (List.mem_singleton.mp z))]
def szM (forms : List Fm) : List Nat → List (Nat × Nat) → List Nat → Option (List (Nat × Nat) × List Nat)
  | [], kn, ls => some (kn, ls)
  | o :: r, kn, ls => match forms[o]? with
    | none => none
    | some fm => match insM fm.parts ls with
      | none => none
      | some (qs, l1) => if (∀ q ∈ qs, q ∈ keysN kn) ∧ o ∉ keysN kn ∧ kn.length ≤ 900 then szM forms r (kn ++ [(o, 1 + (qs.map (getN kn)).sum)]) l1 else none
theorem szM_step {forms : List Fm} {o : Nat} {r ls ls' : List Nat} {kn kn' : List (Nat × Nat)} (h : szM forms (o :: r) kn ls = some (kn', ls')) :
    ∃ fm qs l1, forms[o]? = some fm ∧ insM fm.parts ls = some (qs, l1) ∧ (∀ q ∈ qs, q ∈ keysN kn) ∧ o ∉ keysN kn ∧ kn.length ≤ 900 ∧ szM forms r (kn ++ [(o, 1 + (qs.map (getN kn)).sum)]) l1 = some (kn', ls') := by
  unfold szM at h
  cases e2 : forms[o]? with
  | none => rw [e2] at h; cases h
  | some fm =>
    rw [e2] at h
    dsimp only at h
    cases e3 : insM fm.parts ls with
    | none => rw [e3] at h; cases h
    | some y =>
      obtain ⟨qs, l1⟩ := y
      rw [e3] at h
      dsimp only at h
      by_cases c : (∀ q ∈ qs, q ∈ keysN kn) ∧ o ∉ keysN kn ∧ kn.length ≤ 900
      · rw [if_pos c] at h
        exact ⟨fm, qs, l1, rfl, e3, c.1, c.2.1, c.2.2, h⟩
      · rw [if_neg c] at h; cases h
def szAll (forms : List Fm) (os ls : List Nat) : Option (List Nat × List Nat) := match ifM forms 200 [] [] os ls with
  | none => none
  | some (fo, l1) => match szM forms fo [] l1 with
    | none => none
    | some (kn, l2) => match insM os l2 with
      | none => none
      | some (qs, l3) => if (∀ q ∈ qs, q ∈ keysN kn) ∧ os.length ≤ 900 then some (qs.map (getN kn), l3) else none
theorem szAll_step {forms : List Fm} {os ls zs ls' : List Nat} (h : szAll forms os ls = some (zs, ls')) :
    ∃ fo l1 kn l2 qs, ifM forms 200 [] [] os ls = some (fo, l1) ∧ szM forms fo [] l1 = some (kn, l2) ∧ insM os l2 = some (qs, ls') ∧ (∀ q ∈ qs, q ∈ keysN kn) ∧ os.length ≤ 900 ∧ zs = qs.map (getN kn) := by
  unfold szAll at h
  cases e1 : ifM forms 200 [] [] os ls with
  | none => rw [e1] at h; cases h
  | some x =>
    obtain ⟨fo, l1⟩ := x
    rw [e1] at h
    dsimp only at h
    cases e2 : szM forms fo [] l1 with
    | none => rw [e2] at h; cases h
    | some y =>
      obtain ⟨kn, l2⟩ := y
      rw [e2] at h
      dsimp only at h
      cases e3 : insM os l2 with
      | none => rw [e3] at h; cases h
      | some z =>
        obtain ⟨qs, l3⟩ := z
        rw [e3] at h
        dsimp only at h
        by_cases c : (∀ q ∈ qs, q ∈ keysN kn) ∧ os.length ≤ 900
        · rw [if_pos c] at h
          have h' := Option.some.inj h
          have h1 : qs.map (getN kn) = zs := congrArg Prod.fst h'
          have h2 : l3 = ls' := congrArg Prod.snd h'
          subst h1 h2
          exact ⟨fo, l1, kn, l2, qs, rfl, e2, e3, c.1, c.2, rfl⟩
        · rw [if_neg c] at h; cases h
theorem sum_cast : ∀ l : List Nat, (l.map fun (n : Nat) => (n : Int)).sum = (l.sum : Int)
  | [] => rfl
  | x :: r => by
    rw [List.map_cons, List.sum_cons, List.sum_cons, sum_cast r]
    simp
section
variable {P : Program} {w : World} {K : PySem.W.Frag} {mg : Str → Option Value} {base : Heap}
def spSz (C CR : Addr) (K : PySem.W.Frag) : Sp := fun vs H Q _ => ∃ (t r a : Addr) (m : TM) (F : Addr → Prop) (os zs ls : List Nat), vs = [.ref t, .ref a] ∧ H a = some (.lst (os.map nv)) ∧ ¬ F a ∧ TyAt K C CR H t r m F ∧ szAll m.forms os m.leads = some (zs, ls) ∧
  TyOutL K C CR H t r { m with leads := ls } F (zs.map nv) Q
abbrev nSz : List Str := ["self", "ones", "known", "one", "part"]
theorem scSz : FnScope nSz ["self", "ones"] (defScope tSz) := ⟨rfl, rfl, rfl, by decide +kernel, rfl, by decide +kernel, by decide +kernel⟩
theorem ok_sz {f fL fI fF C CR : Addr} {fd fdL fdI fdF : FuncData} (F : Fun K "sizes" "Types.sizes" tSz f fd) (T : TTxt K mg C) (GL : FnOk P w K mg base CX0 1 fL fdL ["self", "one"] (spLead C CR K)) (bL : Binds K fdL ["self", "one"] []) (mL : Meth K C "leader" fL)
    (GI : FnOk P w K mg base CX0 2 fI fdI ["self", "one"] (spIns C CR K)) (bI : Binds K fdI ["self", "one"] []) (mI : Meth K C "inside" fI)
    (GF : FnOk P w K mg base CX0 3 fF fdF ["self", "ones"] (spIf C CR K)) (bF : Binds K fdF ["self", "ones"] []) (mF : Meth K C "inside_first" fF) : FnOk P w K mg base CX0 4 f fd ["self", "ones"] (spSz C CR K) := by
  refine F.ok scSz (fun vs H Q E h => ?_) (fun cdv A outer s H vs Q E hr h => ?_)
  · obtain ⟨t, r, a, m, F, os, zs, ls, rfl, _⟩ := h
    rfl
  · obtain ⟨t, r, a, m, F, os, zs, ls, rfl, ha, nFa, hT, hsz, k⟩ := h
    obtain ⟨fo, l1, kn, l2, qs, hif, hszm, hins, hall, hos, rfl⟩ := szAll_step hsz
    have hu := hu_of hr
    have hr2 : Room 2 _ := hr.mono (by decide)
    have hr1 : Room 1 _ := hr.mono (by decide)
    refine ⟨_, pss_cons (ps_set (i := 2) scSz.nd rfl (Or.inr rfl) pe_dnewK)
      (pss_cons (ps_for PassesOwn.never rfl (pi_list (pe_meth (pv 0) T.cl mF GF hr bF .nil pass0 (pa_cons (pv 1) pa_nil))) (pg_name (i := 3) scSz.nd rfl (Or.inl rfl))
        (pss_one (ps_dput hu (pv 2) (pv 3) (pe_op op_add pe_int (pe_callB (cr_sum rfl) (by rfl) T.sum (by decide +kernel) (pa_cons
          (pe_lc (own := [("part", 4)]) (g := gName 4) (tt := tYes) (te := tDGet (tVar 2) (tVar 4)) rfl scSz.nd (pi_list (pe_meth (pv 0) T.cl mI GI hr2 bI .nil pass0 (pa_cons (pv 3) pa_nil)))
            (blkOk_by (N := nSz) (sc := defScope tSz) (by decide +kernel)) (fun _ _ _ _ _ => pg_name (i := 4) scSz.nd rfl (Or.inl rfl)) (fun _ _ _ _ _ => pts_nil)
            (fun _ _ _ _ _ => pe_dget hu (pv 2) (pv 4) (fun _ _ => rfl))) pa_nil))) rfl)))
      (pss_one (ps_ret (pe_lc (own := [("one", 3)]) (g := gName 3) (tt := tYes) (te := tDGet (tVar 2) (tMeth C "leader" (spLead C CR K) [] E0 (tVar 0) (tCons (tVar 3) tNil))) rfl scSz.nd (pi_list (pv 1))
            (blkOk_by (N := nSz) (sc := defScope tSz) (by decide +kernel)) (fun _ _ _ _ _ => pg_name (i := 3) scSz.nd rfl (Or.inl rfl)) (fun _ _ _ _ _ => pts_nil)
            (fun _ _ _ _ _ => pe_dget hu (pv 2) (pe_meth (pv 0) T.cl mL GL hr1 bL .nil pass0 (pa_cons (pv 3) pa_nil)) (fun _ _ => rfl)))))), ?_⟩
    intro d hd
    have nFd := hT.notin hd
    have had : a ≠ d := ne_of_none ha hd
    have hT1 : TyAt K C CR (upd H d (.dK [])) t r m F := hT.new hd
    have mv1 : Mv F H F (upd H d (.dK [])) := .new hd
    have hd1 : (upd H d (.dK [])) d = some (.dK []) := upd_same
    have ha1 : (upd H d (.dK [])) a = some (.lst (os.map nv)) := by rw [upd_ne had]; exact ha
    generalize upd H d (.dK []) = H1 at hT1 mv1 hd1 ha1
    obtain ⟨dx1, lf1, ll1, i1⟩ := hT1.ins
    refine ⟨_, rfl, t, dx1, _, rfl, i1, pt_insf _ _ _, _, rfl, ?_⟩
    refine ⟨t, r, a, m, F, 200, os, fo, l1, rfl, SqL.of ha1, hT1, hif, fun H2 F2 Y hT2 mv2 hY hY2 nY => ?_⟩
    have mv2' : Mv F H F2 H2 := mv1.trans mv2
    have hd2 : H2 d = some (.dK []) := mv2.keep hd1 nFd
    have nd2 : ¬ F2 d := mv2.out hd1 nFd
    have ha2 := mv2.keep ha1 nFa
    have na2 := mv2.out ha1 nFa
    have hYd : Y ≠ d := ne_of hY2 hd2 (by intro z; cases z)
    refine ⟨Y, rfl, ⟨_, SqL.of hY2⟩, for_list (K := K) (a := Y) (xs := fo.map nv) (fun x σ H3 => ∃ (F3 : Addr → Prop) (kn1 : List (Nat × Nat)) (l3 : List Nat) (v3 v4 : Option V), σ = [some (.ref t), some (.ref a), some (.ref d), v3, v4] ∧ TyAt K C CR H3 t r { m with leads := l3 } F3 ∧ Mv F H F3 H3 ∧
        H3 d = some (.dK (kvN kn1)) ∧ H3 Y = some (.lst (fo.map nv)) ∧ H3 a = some (.lst (os.map nv)) ∧ ¬ F3 d ∧ ¬ F3 Y ∧ ¬ F3 a ∧ szM m.forms (fo.drop x) kn1 l3 = some (kn, l2))
      ⟨F2, [], l1, _, _, rfl, hT2, mv2', hd2, hY2, ha2, nd2, nY, na2, hszm⟩ (fun x σ H3 _ ⟨_, _, _, _, _, _, _, _, _, q, _⟩ => SqL.of q) ?_ ?_⟩
    · rintro x v σ H3 hx ⟨F3, kn1, l3, v3, v4, rfl, hT3, mv3, hd3, hY3, ha3, nd3, nY3, na3, hc⟩
      rw [List.getElem?_map] at hx
      cases ep : fo[x]? with
      | none => rw [ep] at hx; cases hx
      | some p =>
        rw [ep] at hx
        have ev : v = nv p := (Option.some.inj hx).symm
        subst ev
        have ed : fo.drop x = p :: fo.drop (x + 1) := by
          rw [List.drop_eq_getElem_cons (List.getElem?_eq_some_iff.mp ep).1]
          rw [(List.getElem?_eq_some_iff.mp ep).2]
        rw [ed] at hc
        obtain ⟨fm, q1, l4, e1, e2, h1, h2, h3, hcc⟩ := szM_step hc
        obtain ⟨dx3, lf3, ll3, i3⟩ := hT3.ins
        have hsm : fm.parts.length ≤ 2 := by
          obtain ⟨_, _, _, _, _, _, h4, _⟩ := id hT3
          exact h4.sm _ (List.mem_of_getElem? e1)
        have hq1l := insM_len e2
        refine ⟨_, rfl, t, dx3, _, rfl, i3, pt_inside _ _ _, _, rfl, ?_⟩
        refine ⟨t, r, _, F3, p, fm, q1, l4, rfl, hT3, e1, e2, fun H4 F4 X hT4 mv4 hX hX4 nX => ?_⟩
        have hd4 := mv4.keep hd3 nd3
        have hY4 := mv4.keep hY3 nY3
        have ha4 := mv4.keep ha3 na3
        have nd4 := mv4.out hd3 nd3
        have nY4 := mv4.out hY3 nY3
        have na4 := mv4.out ha3 na3
        have mv4' := mv3.trans mv4
        refine ⟨X, rfl, ⟨_, SqL.of hX4⟩, fun D hD => ?_⟩
        have nFD := hT4.notin hD
        refine lc_list (K := K) (a := X) (xs := q1.map nv) (fun y H5 => TyAt K C CR H5 t r { m with leads := l4 } F4 ∧ Mv F H F4 H5 ∧ H5 d = some (.dK (kvN kn1)) ∧ H5 Y = some (.lst (fo.map nv)) ∧ H5 a = some (.lst (os.map nv)) ∧ H5 X = some (.lst (q1.map nv)) ∧
            H5 D = some (.lst ((q1.take y).map fun q => nv (getN kn1 q))))
          ⟨hT4.new hD, mv4'.trans (.new hD), ?_, ?_, ?_, ?_, upd_same⟩ (fun y H5 _ q => SqL.of q.2.2.2.2.2.1) ?_ ?_
        · rw [upd_ne (ne_of_none hd4 hD)]; exact hd4
        · rw [upd_ne (ne_of_none hY4 hD)]; exact hY4
        · rw [upd_ne (ne_of_none ha4 hD)]; exact ha4
        · rw [upd_ne (ne_of_none hX4 hD)]; exact hX4
        · rintro y v H5 hy ⟨hT5, mv5, hd5, hY5, ha5, hX5, hD5⟩
          rw [List.getElem?_map] at hy
          cases eq' : q1[y]? with
          | none => rw [eq'] at hy; cases hy
          | some q =>
            rw [eq'] at hy
            have ev : v = nv q := (Option.some.inj hy).symm
            subst ev
            have hval : DGet H5 d (.int (q : Int)) (some (nv (getN kn1 q))) := by
              have := DGet.k (k := nk q) hd5
              rw [kvF_val, if_pos (h1 q (List.mem_of_getElem? eq'))] at this
              exact this
            refine ⟨rfl, _, rfl, _, rfl, d, _, rfl, hval, _, hD5, ?_, ?_⟩
            · rw [List.length_map]
              exact small1000 (by rw [List.length_take]; omega)
            · have hDX : D ≠ X := (ne_of_none hX4 hD).symm
              have hDY : D ≠ Y := (ne_of_none hY4 hD).symm
              have hDa : D ≠ a := (ne_of_none ha4 hD).symm
              have hDd : D ≠ d := (ne_of_none hd4 hD).symm
              refine ⟨hT5.own nFD hD5 lstTup lstIns, mv5.own (mv4'.free hD) hD5 lstTup, ?_, ?_, ?_, ?_, ?_⟩
              · rw [upd_ne hDd.symm]; exact hd5
              · rw [upd_ne hDY.symm]; exact hY5
              · rw [upd_ne hDa.symm]; exact ha5
              · rw [upd_ne hDX.symm]; exact hX5
              · rw [upd_same, List.take_add_one, eq', List.map_append]
                rfl
        · rintro H5 ⟨hT5, mv5, hd5, hY5, ha5, hX5, hD5⟩
          rw [List.length_map, List.take_length] at hD5
          refine ⟨D, q1.map fun q => (getN kn1 q : Int), rfl, SqL.of (by rw [hD5, List.map_map]; rfl), ?_⟩
          refine ⟨_, _, rfl, rfl, _, rfl, _, rfl, d, _, rfl, DPut.k (k := nk p) hd5 (by rw [kvF_len]; unfold keysN; rw [List.length_map]; exact small1000 (by omega)), ?_⟩
          have esum : (1 : Int) + (q1.map fun q => (getN kn1 q : Int)).sum = ((1 + (q1.map (getN kn1)).sum : Nat) : Int) := by
            have := sum_cast (q1.map (getN kn1))
            rw [List.map_map] at this
            rw [show (q1.map fun q => (getN kn1 q : Int)) = q1.map ((fun (n : Nat) => (n : Int)) ∘ getN kn1) from rfl, this]
            simp
          have eput : putK (kvN kn1) (nk p) (V.int ((1 : Int) + (q1.map fun q => (getN kn1 q : Int)).sum)) = kvN (kn1 ++ [(p, 1 + (q1.map (getN kn1)).sum)]) := by
            rw [esum]
            exact kvN_new h2
          refine ⟨F4, _, l4, _, _, rfl, hT5.own nd4 hd5 dkTup dkIns, mv5.own hd hd5 dkTup, ?_, ?_, ?_, nd4, nY4, na4, hcc⟩
          · rw [upd_same]
            exact congrArg (fun z => some (HO.dK z)) eput
          · rw [upd_ne hYd]; exact hY5
          · rw [upd_ne (ne_of ha5 hd5 (by intro z; cases z))]; exact ha5
    · rintro σ H3 ⟨F3, kn1, l3, v3, v4, rfl, hT3, mv3, hd3, hY3, ha3, nd3, nY3, na3, hc⟩
      rw [List.length_map, List.drop_length] at hc
      have h' := Option.some.inj hc
      have e1 : kn1 = kn := congrArg Prod.fst h'
      have e2 : l3 = l2 := congrArg Prod.snd h'
      subst e1 e2
      refine ⟨_, rfl, a, rfl, ⟨_, SqL.of ha3⟩, fun D hD => ?_⟩
      have nFD := hT3.notin hD
      have had' : a ≠ D := ne_of_none ha3 hD
      have hdD : d ≠ D := ne_of_none hd3 hD
      refine lc_list (K := K) (a := a) (xs := os.map nv) (fun y H4 => ∃ (F4 : Addr → Prop) (l4 qs1 rest : List Nat), TyAt K C CR H4 t r { m with leads := l4 } F4 ∧ Mv F H F4 H4 ∧ H4 d = some (.dK (kvN kn1)) ∧ H4 a = some (.lst (os.map nv)) ∧ ¬ F4 d ∧ ¬ F4 a ∧ ¬ F4 D ∧
          H4 D = some (.lst (qs1.map fun q => nv (getN kn1 q))) ∧ qs1.length = y ∧ insM (os.drop y) l4 = some (rest, ls) ∧ qs = qs1 ++ rest)
        ⟨F3, l3, [], qs, hT3.new hD, mv3.trans (.new hD), ?_, ?_, nd3, na3, nFD, upd_same, rfl, hins, rfl⟩ (fun y H4 _ ⟨_, _, _, _, _, _, _, q, _⟩ => SqL.of q) ?_ ?_
      · rw [upd_ne hdD]; exact hd3
      · rw [upd_ne had']; exact ha3
      · rintro y v H4 hy ⟨F4, l4, qs1, rest, hT4, mv4, hd4, ha4, nd4, na4, nD4, hD4, el, hl4, eq'⟩
        rw [List.getElem?_map] at hy
        cases ep : os[y]? with
        | none => rw [ep] at hy; cases hy
        | some p =>
          rw [ep] at hy
          have ev : v = nv p := (Option.some.inj hy).symm
          subst ev
          have ed : os.drop y = p :: os.drop (y + 1) := by
            rw [List.drop_eq_getElem_cons (List.getElem?_eq_some_iff.mp ep).1]
            rw [(List.getElem?_eq_some_iff.mp ep).2]
          rw [ed] at hl4
          obtain ⟨q, l5, rest', e1, e2, e3⟩ := insM_cons (q := 0) hl4
          obtain ⟨dx4, lf4, ll4, i4⟩ := hT4.ins
          refine ⟨rfl, _, rfl, _, rfl, t, dx4, _, rfl, i4, pt_leader _ _ _, _, rfl, ?_⟩
          refine ⟨t, r, _, F4, FU, p, q, l5, rfl, hT4, e1, fun H5 F5 hT5 mv5 => ?_⟩
          have hd5 := mv5.keep hd4 nd4
          have ha5 := mv5.keep ha4 na4
          have hD5 := mv5.keep hD4 nD4
          have hval : DGet H5 d (.int (q : Int)) (some (nv (getN kn1 q))) := by
            have := DGet.k (k := nk q) hd5
            rw [kvF_val, if_pos (hall q (by rw [eq', e3]; simp))] at this
            exact this
          refine ⟨d, _, rfl, hval, _, hD5, ?_, ?_⟩
          · rw [List.length_map]
            have h3 := congrArg List.length eq'
            have h4 := insM_len hins
            rw [List.length_append] at h3
            exact small1000 (by omega)
          · refine ⟨F5, l5, qs1 ++ [q], rest', hT5.own (mv5.out hD4 nD4) hD5 lstTup lstIns, (mv4.trans mv5).own (mv3.free hD) hD5 lstTup, ?_, ?_, mv5.out hd4 nd4, mv5.out ha4 na4, mv5.out hD4 nD4, ?_, ?_, e2, ?_⟩
            · rw [upd_ne hdD]; exact hd5
            · rw [upd_ne had']; exact ha5
            · rw [upd_same, List.map_append]
              rfl
            · rw [List.length_append, el]
              rfl
            · rw [eq', e3, List.append_assoc]
              rfl
      · rintro H4 ⟨F4, l4, qs1, rest, hT4, mv4, hd4, ha4, nd4, na4, nD4, hD4, el, hl4, eq'⟩
        rw [List.length_map, List.drop_length] at hl4
        have h' := Option.some.inj hl4
        have e1 : [] = rest := congrArg Prod.fst h'
        have e2 : l4 = ls := congrArg Prod.snd h'
        subst e1 e2
        rw [List.append_nil] at eq'
        subst eq'
        refine k H4 F4 D hT4 mv4 (mv3.free hD) ?_ nD4
        rw [hD4, List.map_map]
        rfl
end
end Kt


set_option Elab.async false
set_option linter.all false
set_option maxRecDepth 100000
set_option maxHeartbeats 4000000
namespace Kt
open PySem PySem.Spec L2 PyProof.Rows Km Ka
def madeM (m : TM) (fm : Fm) : TM := { m with forms := m.forms ++ [fm], leads := m.leads ++ [m.leads.length] }
abbrev pMade : List Str := ["self", "kind", "inside", "row"]
structure MadeB (K : PySem.W.Frag) (fd : FuncData) (e : Addr) : Prop where
  emp : ∀ H, SqT K H e []
  b0 : Binds K fd pMade []
  b1 : ∃ ds, Vals [V.non] ds ∧ Binds K fd pMade ds
  b2 : ∃ ds, Vals [V.ref e, V.non] ds ∧ Binds K fd pMade ds
section
variable {P : Program} {w : World} {K : PySem.W.Frag} {mg : Str → Option Value} {base : Heap}
def spMade (C CR : Addr) (K : PySem.W.Frag) : Sp := fun vs H Q _ => ∃ (t r u : Addr) (m : TM) (F : Addr → Prop) (fm : Fm), vs = [.ref t, kV fm.kind, .ref u, rV fm.row] ∧ TupA K H u (fm.parts.map nv) ∧ fm.parts.length ≤ 2 ∧ TyAt K C CR H t r m F ∧ m.forms.length < 900 ∧ m.leads.length < 900 ∧
  TyOut K C CR H t r (madeM m fm) F fun H' => Q (nv m.leads.length) H'
theorem scMade : FnScope pMade pMade (defScope tMade) := ⟨rfl, rfl, rfl, by decide +kernel, rfl, by decide +kernel, by decide +kernel⟩
theorem ok_made {f C CR : Addr} {fd : FuncData} {dvs : List V} (F : FunD K "made" "Types.made" (defArgs tMade) (defBody tMade) (defScope tMade) dvs [] f fd) (T : TTxt K mg C) : FnOk P w K mg base CX0 1 f fd pMade (spMade C CR K) := by
  refine F.ok scMade (fun vs H Q E h => ?_) (fun cdv A outer s H vs Q E hr h => ?_)
  · obtain ⟨t, r, u, m, F, fm, rfl, _⟩ := h
    rfl
  · obtain ⟨t, r, u, m, F, fm, rfl, hu, hp2, hT, hf9, hl9, k⟩ := h
    refine ⟨_, pss_cons (ps_expr (pe_bm PySem.F.plainAttrs_list PySem.F.slot_list_append PySem.F.type_list_append mt_append (pe_fld (pv 0) rfl) (pa_cons (pe_tup (pa_cons (pv 1) (pa_cons (pv 2) (pa_cons (pv 3) pa_nil)))) pa_nil)))
      (pss_cons (ps_expr (pe_bm PySem.F.plainAttrs_list PySem.F.slot_list_append PySem.F.type_list_append mt_append (pe_fld (pv 0) rfl) (pa_cons (pe_callB call_len_seq (by rfl) T.len PySem.boot_len (pa_cons (pe_fld (pv 0) rfl) pa_nil)) pa_nil)))
      (pss_one (ps_ret (pe_op op_sub (pe_callB call_len_seq (by rfl) T.len PySem.boot_len (pa_cons (pe_fld (pv 0) rfl) pa_nil)) pe_int)))), ?_⟩
    obtain ⟨dx, lf, ll, vf, E', FR, hi, rfl⟩ := id hT
    refine ⟨_, rfl, t, C, dx, _, _, rfl, hi.ins, T.cl, T.nF, pt_forms _ _ _, .inl ⟨rfl, _, SqL.of hi.fo⟩, ?_⟩
    refine ⟨_, rfl, _, rfl, _, rfl, (by show 3 ≤ sizeLine; decide), fun q hq => ?_⟩
    have hfq : lf ≠ q := ne_of_none hi.fo hq
    have hlq : ll ≠ q := ne_of_none hi.le hq
    have htq : t ≠ q := ne_of_none hi.ins hq
    have evf := hi.fr.length
    refine ⟨lf, _, _, rfl, rfl, (by rw [upd_ne hfq]; exact hi.fo), (by rw [evf]; exact small1000 (by omega)), ?_⟩
    have ins2 : (upd (upd H q (.tup [kV fm.kind, .ref u, rV fm.row])) lf (.lst (vf ++ [.ref q]))) t = some (.ins C dx (pt r lf ll)) := by rw [upd_ne hi.tf, upd_ne htq]; exact hi.ins
    have le2 : (upd (upd H q (.tup [kV fm.kind, .ref u, rV fm.row])) lf (.lst (vf ++ [.ref q]))) ll = some (.lst (m.leads.map nv)) := by rw [upd_ne hi.ne.symm, upd_ne hlq]; exact hi.le
    have fo2 : (upd (upd H q (.tup [kV fm.kind, .ref u, rV fm.row])) lf (.lst (vf ++ [.ref q]))) lf = some (.lst (vf ++ [.ref q])) := upd_same
    have q2 : (upd (upd H q (.tup [kV fm.kind, .ref u, rV fm.row])) lf (.lst (vf ++ [.ref q]))) q = some (.tup [kV fm.kind, .ref u, rV fm.row]) := by rw [upd_ne hfq.symm, upd_same]
    have mv2 : Mv (FTy lf ll FR) H (FTy lf ll FR) (upd (upd H q (.tup [kV fm.kind, .ref u, rV fm.row])) lf (.lst (vf ++ [.ref q]))) :=
      (Mv.new hq).trans (.at_ (by rw [upd_ne hfq]; exact hi.fo) lstTup (.inl rfl))
    have rw2 : RwAt CR (upd (upd H q (.tup [kV fm.kind, .ref u, rV fm.row])) lf (.lst (vf ++ [.ref q]))) r m.n NoS E' m.b FR := by
      refine (hi.rw_.stay (F' := F0) (ch_new hq) fun _ _ f => f).stay (F' := fun a => a = lf) (ch_at (by rw [upd_ne hfq]; exact hi.fo) lstTup rfl) fun a f e => hi.nf (by rw [← e]; exact f)
    generalize upd (upd H q (.tup [kV fm.kind, .ref u, rV fm.row])) lf (.lst (vf ++ [.ref q])) = H2 at ins2 le2 fo2 q2 mv2 rw2
    refine ⟨_, rfl, t, C, dx, _, _, rfl, ins2, T.cl, T.nL, pt_leads _ _ _, .inl ⟨rfl, _, SqL.of le2⟩, ?_⟩
    refine ⟨_, rfl, t, C, dx, _, _, rfl, ins2, T.cl, T.nL, pt_leads _ _ _, ll, _, rfl, .inl (SqL.of le2), ?_⟩
    refine ⟨ll, _, _, rfl, rfl, le2, (by rw [List.length_map]; exact small1000 (by omega)), ?_⟩
    have el3 : (m.leads.map nv ++ [V.int ((m.leads.map nv).length : Int)]) = (m.leads ++ [m.leads.length]).map nv := by
      rw [List.map_append, List.length_map]
      rfl
    rw [el3]
    have ins3 : (upd H2 ll (.lst ((m.leads ++ [m.leads.length]).map nv))) t = some (.ins C dx (pt r lf ll)) := by rw [upd_ne hi.tl]; exact ins2
    have le3 : (upd H2 ll (.lst ((m.leads ++ [m.leads.length]).map nv))) ll = some (.lst ((m.leads ++ [m.leads.length]).map nv)) := upd_same
    refine ⟨_, rfl, t, C, dx, _, _, rfl, ins3, T.cl, T.nL, pt_leads _ _ _, ll, _, rfl, .inl (SqL.of le3), _, _, rfl, rfl, ?_⟩
    have ev : ((((m.leads ++ [m.leads.length]).map nv).length : Nat) : Int) - 1 = (m.leads.length : Int) := by
      rw [List.length_map, List.length_append]
      simp
    show Q (.int (((((m.leads ++ [m.leads.length]).map nv).length : Nat) : Int) - 1)) _
    rw [ev]
    have c3 : Ch (fun a => a = ll) H2 (upd H2 ll (.lst ((m.leads ++ [m.leads.length]).map nv))) := ch_at le2 lstTup rfl
    have mv3 := mv2.trans (.at_ (o := .lst ((m.leads ++ [m.leads.length]).map nv)) le2 lstTup (.inr (.inl rfl)))
    refine k _ (FTy lf ll FR) ⟨dx, lf, ll, _, E', FR, ⟨ins3, by rw [upd_ne hi.ne]; exact fo2, ?_, le3, rw2.stay c3 fun a f e => hi.nl (by rw [← e]; exact f), hi.ne, hi.nf, hi.nl, hi.nt, ?_⟩, rfl⟩ mv3
    · refine Paired.snoc (pr_mono hi.fr fun v f _ _ z => z.stay mv3.ch) ⟨q, u, rfl, c3.tup _ _ q2, hu.stay mv3.ch⟩
    · intro f hf
      rcases List.mem_append.mp hf with hf | hf
      · exact hi.sm f hf
      · rw [List.mem_singleton.mp hf]
        exact hp2
def undM : Fm := ⟨none, [], none⟩
def spUnd (C CR : Addr) (K : PySem.W.Frag) : Sp := fun vs H Q _ => ∃ (t r : Addr) (m : TM) (F : Addr → Prop), vs = [.ref t] ∧ TyAt K C CR H t r m F ∧ m.forms.length < 900 ∧ m.leads.length < 900 ∧
  TyOut K C CR H t r (madeM m undM) F fun H' => Q (nv m.leads.length) H'
theorem pt_made (r lf ll : Addr) : (pt r lf ll).lookup ("made" : Str) = none := pt_no _ _ _ (by decide +kernel) (by decide +kernel) (by decide +kernel)
theorem scUnd : FnScope ["self"] ["self"] (defScope tUnd) := ⟨rfl, rfl, rfl, by decide +kernel, rfl, by decide +kernel, by decide +kernel⟩
theorem ok_und {f fM C CR e : Addr} {fd fdM : FuncData} (F : Fun K "undecided" "Types.undecided" tUnd f fd) (T : TTxt K mg C) (GM : FnOk P w K mg base CX0 1 fM fdM pMade (spMade C CR K)) (B : MadeB K fdM e) (mM : Meth K C "made" fM) : FnOk P w K mg base CX0 2 f fd ["self"] (spUnd C CR K) := by
  refine F.ok scUnd (fun vs H Q E h => ?_) (fun cdv A outer s H vs Q E hr h => ?_)
  · obtain ⟨t, r, m, F, rfl, _⟩ := h
    rfl
  · obtain ⟨t, r, m, F, rfl, hT, h1, h2, k⟩ := h
    obtain ⟨ds, hds, hb⟩ := B.b2
    refine ⟨_, pss_one (ps_ret (pe_meth (pv 0) T.cl mM GM hr hb hds pass0 (pa_cons pe_non pa_nil))), ?_⟩
    obtain ⟨dx, lf, ll, i1⟩ := hT.ins
    refine ⟨_, rfl, t, dx, _, rfl, i1, pt_made _ _ _, ?_⟩
    exact ⟨t, r, e, m, F, undM, rfl, .inr B.emp, Nat.zero_le _, hT, h1, h2, k⟩
end
end Kt


set_option Elab.async false
set_option linter.all false
set_option maxRecDepth 100000
set_option maxHeartbeats 4000000
namespace Kt
open PySem PySem.Spec L2 PyProof.Rows Km Ka
/-! ### types as the document writes them -/
inductive RT where
  | leaf (k : Kd)
  | pair (a b : RT)
  | fn (a : RT) (row : List Str) (b : RT)
def RtAt (H : Hp) : V → RT → Prop
  | v, .leaf k => ∃ p, v = .ref p ∧ H p = some (.tup [.str k.str])
  | v, .pair a b => ∃ p va vb, v = .ref p ∧ H p = some (.tup [.str (Kd.str .pair), va, vb]) ∧ RtAt H va a ∧ RtAt H vb b
  | v, .fn a row b => ∃ p va q vb, v = .ref p ∧ H p = some (.tup [.str (Kd.str .fn), va, .ref q, vb]) ∧ H q = some (.tup (row.map V.str)) ∧ RtAt H va a ∧ RtAt H vb b
theorem RtAt.stay {F : Addr → Prop} {H H' : Hp} (k : Ch F H H') : ∀ {v : V} {rt : RT}, RtAt H v rt → RtAt H' v rt
  | _, .leaf _, ⟨p, e, h⟩ => ⟨p, e, k.tup _ _ h⟩
  | _, .pair _ _, ⟨p, va, vb, e, h, ha, hb⟩ => ⟨p, va, vb, e, k.tup _ _ h, RtAt.stay k ha, RtAt.stay k hb⟩
  | _, .fn _ _ _, ⟨p, va, q, vb, e, h, hq, ha, hb⟩ => ⟨p, va, q, vb, e, k.tup _ _ h, k.tup _ _ hq, RtAt.stay k ha, RtAt.stay k hb⟩
def resM (fm : Fm) (qs : List RT) (rows : List (List Str)) : Option RT := match fm.kind, qs with
  | none, _ => some (.leaf .unit)
  | some .fn, [a, b] => match fm.row with
    | none => none
    | some i => (rows[i]?).map fun row => .fn a row b
  | some .fn, _ => none
  | some .pair, [a, b] => some (.pair a b)
  | some .pair, _ => none
  | some k, [] => some (.leaf k)
  | some _, _ => none
section
variable {P : Program} {w : World} {K : PySem.W.Frag} {mg : Str → Option Value} {base : Heap}
def spRt (C CR : Addr) (K : PySem.W.Frag) : Sp := fun vs H Q _ => ∃ (t r a b : Addr) (m : TM) (F : Addr → Prop) (i : Nat) (fm : Fm) (us : List V) (qs : List RT) (rows : List (List Str)) (rt : RT), vs = [.ref t, nv i, .ref a, .ref b] ∧ TyAt K C CR H t r m F ∧ m.forms[i]? = some fm ∧
  H a = some (.lst us) ∧ Paired (RtAt H) us qs ∧ ResAt H b rows ∧ resM fm qs rows = some rt ∧ ∀ H' v, Same H H' → RtAt H' v rt → Q v H'
abbrev nRt : List Str := ["self", "one", "inside", "rows", "kind", "_", "row"]
theorem scRt : FnScope nRt ["self", "one", "inside", "rows"] (defScope tRt) := ⟨rfl, rfl, rfl, by decide +kernel, rfl, by decide +kernel, by decide +kernel⟩
theorem kd_ne_fn {k : Kd} (h : k ≠ .fn) : ¬ (V.str k.str = V.str ("fun" : Str)) := by
  cases k
  all_goals first
    | exact absurd rfl h
    | (intro q; exact absurd (V.str.inj q) (by decide +kernel))
theorem ok_rt {f C CR : Addr} {fd : FuncData} (F : Fun K "result" "Types.result" tRt f fd) (T : TTxt K mg C) : FnOk P w K mg base CX0 1 f fd ["self", "one", "inside", "rows"] (spRt C CR K) := by
  refine F.ok scRt (fun vs H Q E h => ?_) (fun cdv A outer s H vs Q E hr h => ?_)
  · obtain ⟨t, r, a, b, m, F, i, fm, us, qs, rows, rt, rfl, _⟩ := h
    rfl
  · obtain ⟨t, r, a, b, m, F, i, fm, us, qs, rows, rt, rfl, hT, hf, ha, hu, hb, hres, k⟩ := h
    refine ⟨_, pss_cons (ps_asg (pe_ix ix_list (pe_fld (pv 0) rfl) (pv 1) (fun _ _ => rfl)) (pg_tup rfl (pgs_cons (pg_name (i := 4) scRt.nd rfl (Or.inl rfl)) (pgs_cons (pg_name (i := 5) scRt.nd rfl (Or.inl rfl)) (pgs_cons (pg_name (i := 6) scRt.nd rfl (Or.inl rfl)) pgs_nil)))))
      (pss_cons (ps_if (pt_cmpR op_isN (pv 4) pe_non (nomark _)) (pss_one (ps_ret (pe_tup (pa_cons pe_str pa_nil)))) pss_nil)
      (pss_cons (ps_if (pt_cmpR op_eq (pv 4) pe_str (nomark _)) (pss_one (ps_ret (pe_tup (pa_cons (pv 4) (pa_cons (pe_ix ix_list (pv 2) pe_int (fun _ _ => rfl)) (pa_cons (pe_ix ix_list (pv 3) (pv 6) (fun _ _ => rfl)) (pa_cons (pe_ix ix_list (pv 2) pe_int (fun _ _ => rfl)) pa_nil))))))) pss_nil)
      (pss_one (ps_ret (pe_tup (pa_cons (pv 4) (StX.pa_star (pv 2) pa_nil))))))), ?_⟩
    obtain ⟨dx, lf, ll, vf, E', FR, hi, rfl⟩ := id hT
    obtain ⟨v, hv, ta, u, rfl, hta, hu2⟩ := pr_get' hi.fr hf
    refine ⟨_, rfl, t, C, dx, _, _, rfl, hi.ins, T.cl, T.nF, pt_forms _ _ _, _, rfl, lf, _, _, _, rfl, rfl, SqL.of hi.fo, atI_nat hv, ta, _, rfl, SqT.of hta, rfl, _, _, rfl, _, _, rfl, _, _, rfl, rfl, ?_⟩
    obtain ⟨kind, parts, row⟩ := fm
    cases kind with
    | none =>
      obtain rfl : RT.leaf .unit = rt := Option.some.inj hres
      refine ⟨_, rfl, rfl, _, rfl, ite2 (fun _ => ?_) (fun h => absurd (decide_eq_true (rfl : V.non = V.non)) h)⟩
      refine ⟨(by show 1 ≤ sizeLine; decide), fun p hp => ?_⟩
      exact k _ _ (same_new hp) ⟨p, rfl, upd_same⟩
    | some kd =>
      refine ⟨_, rfl, rfl, _, rfl, ite2 (fun h => absurd (of_decide_eq_true h : V.str kd.str = V.non) (by intro z; cases z)) (fun _ => ?_)⟩
      refine ⟨_, rfl, rfl, _, rfl, ?_⟩
      by_cases ek : kd = .fn
      · subst ek
        refine ite2 (fun _ => ?_) (fun h => absurd (decide_eq_true (rfl : V.str (Kd.str .fn) = V.str ("fun" : Str))) h)
        rcases qs with _ | ⟨q1, _ | ⟨q2, _ | ⟨q3, qr⟩⟩⟩
        · cases hres
        · cases hres
        · cases row with
          | none => cases hres
          | some ri =>
            cases hu with
            | @cons va _ ur _ h1 hu =>
              cases hu with
              | @cons vb _ ur _ h2 hu =>
                cases hu
                have hres' : (rows[ri]?).map (fun row => RT.fn q1 row q2) = some rt := hres
                cases er : rows[ri]? with
                | none => rw [er] at hres'; cases hres'
                | some rw_ =>
                  rw [er] at hres'
                  obtain rfl : RT.fn q1 rw_ q2 = rt := Option.some.inj hres'
                  obtain ⟨ps, hps, hpr⟩ := hb
                  obtain ⟨pa, hpa, hpt⟩ := pr_get' hpr er
                  refine ⟨_, rfl, _, rfl, a, _, 0, _, rfl, rfl, SqL.of ha, atI_nat (j := 0) rfl, _, rfl, _, rfl, b, _, _, _, rfl, rfl, SqL.of hps, atI_nat (j := ri) (by rw [List.getElem?_map, hpa]; rfl), _, rfl, a, _, 1, _, rfl, rfl, SqL.of ha, atI_nat (j := 1) rfl, (by show 4 ≤ sizeLine; decide), fun p hp => ?_⟩
                  have s1 : Same H (upd H p (.tup [.str (Kd.str .fn), va, .ref pa, vb])) := same_new hp
                  exact k _ _ s1 ⟨p, va, pa, vb, rfl, upd_same, s1 _ _ hpt, RtAt.stay (F := F0) (ch_of_same s1) h1, RtAt.stay (F := F0) (ch_of_same s1) h2⟩
        · cases hres
      · refine ite2 (fun h => absurd (of_decide_eq_true h) (kd_ne_fn ek)) (fun _ => ?_)
        refine ⟨_, rfl, _, rfl, a, us, rfl, .inr (SqL.of ha), ?_⟩
        by_cases ep : kd = .pair
        · subst ep
          rcases qs with _ | ⟨q1, _ | ⟨q2, _ | ⟨q3, qr⟩⟩⟩
          · cases hres
          · cases hres
          · cases hu with
            | @cons va _ ur _ h1 hu =>
              cases hu with
              | @cons vb _ ur _ h2 hu =>
                cases hu
                obtain rfl : RT.pair q1 q2 = rt := Option.some.inj hres
                refine ⟨(by show 3 ≤ sizeLine; decide), fun p hp => ?_⟩
                have s1 : Same H (upd H p (.tup [.str (Kd.str .pair), va, vb])) := same_new hp
                exact k _ _ s1 ⟨p, va, vb, rfl, upd_same, RtAt.stay (F := F0) (ch_of_same s1) h1, RtAt.stay (F := F0) (ch_of_same s1) h2⟩
          · cases hres
        · have h0 : us = [] ∧ rt = .leaf kd := by
            cases qs with
            | nil =>
              cases hu
              refine ⟨rfl, ?_⟩
              cases kd <;> first | exact absurd rfl ek | exact absurd rfl ep | exact (Option.some.inj hres).symm
            | cons q1 qr => cases kd <;> first | exact absurd rfl ek | exact absurd rfl ep | cases hres
          obtain ⟨rfl, rfl⟩ := h0
          refine ⟨(by show 1 ≤ sizeLine; decide), fun p hp => ?_⟩
          exact k _ _ (same_new hp) ⟨p, rfl, upd_same⟩
end
end Kt


set_option Elab.async false
set_option linter.all false
set_option maxRecDepth 100000
set_option maxHeartbeats 4000000
namespace Kt
open PySem PySem.Spec L2 PyProof.Rows Km Ka
def getR : List (Nat × RT) → Nat → Option RT
  | [], _ => none
  | (a, v) :: r, k => if a = k then some v else getR r k
def keysR (kn : List (Nat × RT)) : List Nat := kn.map (·.1)
theorem getR_key : ∀ {kn : List (Nat × RT)} {k : Nat} {rt : RT}, getR kn k = some rt → k ∈ keysR kn
  | [], _, _, h => by cases h
  | (a, x) :: r, k, rt, h => by
    unfold getR at h
    by_cases e : a = k
    · rw [← e]; exact List.mem_cons_self ..
    · rw [if_neg e] at h
      exact List.mem_cons_of_mem _ (getR_key h)
theorem getR_app {o k : Nat} {v rt : RT} : ∀ {kn : List (Nat × RT)}, getR (kn ++ [(o, v)]) k = some rt → getR kn k = some rt ∨ (k ∉ keysR kn ∧ k = o ∧ rt = v)
  | [], h => by
    have h' : (if o = k then some v else none) = some rt := h
    by_cases e : o = k
    · rw [if_pos e] at h'
      exact .inr ⟨by simp [keysR], e.symm, (Option.some.inj h').symm⟩
    · rw [if_neg e] at h'; cases h'
  | (a, x) :: r, h => by
    have h' : (if a = k then some x else getR (r ++ [(o, v)]) k) = some rt := h
    by_cases e : a = k
    · rw [if_pos e] at h'
      exact .inl (by unfold getR; rw [if_pos e]; exact h')
    · rw [if_neg e] at h'
      rcases getR_app h' with h2 | ⟨h2, h3, h4⟩
      · exact .inl (by unfold getR; rw [if_neg e]; exact h2)
      · exact .inr ⟨fun q => (List.mem_cons.mp q).elim (fun q => e q.symm) h2, h3, h4⟩
def getsR (kn : List (Nat × RT)) : List Nat → Option (List RT)
  | [] => some []
  | q :: r => match getR kn q with
    | none => none
    | some x => (getsR kn r).map (x :: ·)
theorem getsR_at {kn : List (Nat × RT)} : ∀ {qs : List Nat} {rs : List RT}, getsR kn qs = some rs → rs.length = qs.length ∧ ∀ (i q : Nat), qs[i]? = some q → ∃ rt, rs[i]? = some rt ∧ getR kn q = some rt
  | [], rs, h => by
    obtain rfl := Option.some.inj h
    exact ⟨rfl, fun i q h => by simp at h⟩
  | q :: r, rs, h => by
    unfold getsR at h
    cases e : getR kn q with
    | none => rw [e] at h; cases h
    | some x =>
      rw [e] at h
      dsimp only at h
      cases e2 : getsR kn r with
      | none => rw [e2] at h; cases h
      | some ys =>
        rw [e2] at h
        obtain rfl : x :: ys = rs := Option.some.inj h
        obtain ⟨h1, h2⟩ := getsR_at e2
        refine ⟨by rw [List.length_cons, List.length_cons, h1], fun i q' hq => ?_⟩
        cases i with
        | zero =>
          obtain rfl : q = q' := Option.some.inj hq
          exact ⟨x, rfl, e⟩
        | succ i => exact h2 i q' hq
def rsM (forms : List Fm) (rows : List (List Str)) : List Nat → List (Nat × RT) → List Nat → Option (List (Nat × RT) × List Nat)
  | [], kn, ls => some (kn, ls)
  | o :: r, kn, ls => match forms[o]? with
    | none => none
    | some fm => match insM fm.parts ls with
      | none => none
      | some (qs, l1) => match getsR kn qs with
        | none => none
        | some rqs => match resM fm rqs rows with
          | none => none
          | some rt => if o ∉ keysR kn ∧ kn.length ≤ 900 then rsM forms rows r (kn ++ [(o, rt)]) l1 else none
theorem rsM_step {forms : List Fm} {rows : List (List Str)} {o : Nat} {r ls ls' : List Nat} {kn kn' : List (Nat × RT)} (h : rsM forms rows (o :: r) kn ls = some (kn', ls')) :
    ∃ fm qs l1 rqs rt, forms[o]? = some fm ∧ insM fm.parts ls = some (qs, l1) ∧ getsR kn qs = some rqs ∧ resM fm rqs rows = some rt ∧ o ∉ keysR kn ∧ kn.length ≤ 900 ∧ rsM forms rows r (kn ++ [(o, rt)]) l1 = some (kn', ls') := by
  unfold rsM at h
  cases e2 : forms[o]? with
  | none => rw [e2] at h; cases h
  | some fm =>
    rw [e2] at h
    dsimp only at h
    cases e3 : insM fm.parts ls with
    | none => rw [e3] at h; cases h
    | some y =>
      obtain ⟨qs, l1⟩ := y
      rw [e3] at h
      dsimp only at h
      cases e4 : getsR kn qs with
      | none => rw [e4] at h; cases h
      | some rqs =>
        rw [e4] at h
        dsimp only at h
        cases e5 : resM fm rqs rows with
        | none => rw [e5] at h; cases h
        | some rt =>
          rw [e5] at h
          dsimp only at h
          by_cases c : o ∉ keysR kn ∧ kn.length ≤ 900
          · rw [if_pos c] at h
            exact ⟨fm, qs, l1, rqs, rt, rfl, e3, e4, e5, c.1, c.2, h⟩
          · rw [if_neg c] at h; cases h
def rsAll (forms : List Fm) (rows : List (List Str)) (os ls : List Nat) : Option (List RT × List Nat) := match ifM forms 200 [] [] os ls with
  | none => none
  | some (fo, l1) => match rsM forms rows fo [] l1 with
    | none => none
    | some (kn, l2) => match insM os l2 with
      | none => none
      | some (qs, l3) => match getsR kn qs with
        | none => none
        | some zs => if os.length ≤ 900 then some (zs, l3) else none
theorem rsAll_step {forms : List Fm} {rows : List (List Str)} {os ls ls' : List Nat} {zs : List RT} (h : rsAll forms rows os ls = some (zs, ls')) :
    ∃ fo l1 kn l2 qs, ifM forms 200 [] [] os ls = some (fo, l1) ∧ rsM forms rows fo [] l1 = some (kn, l2) ∧ insM os l2 = some (qs, ls') ∧ getsR kn qs = some zs ∧ os.length ≤ 900 := by
  unfold rsAll at h
  cases e1 : ifM forms 200 [] [] os ls with
  | none => rw [e1] at h; cases h
  | some x =>
    obtain ⟨fo, l1⟩ := x
    rw [e1] at h
    dsimp only at h
    cases e2 : rsM forms rows fo [] l1 with
    | none => rw [e2] at h; cases h
    | some y =>
      obtain ⟨kn, l2⟩ := y
      rw [e2] at h
      dsimp only at h
      cases e3 : insM os l2 with
      | none => rw [e3] at h; cases h
      | some z =>
        obtain ⟨qs, l3⟩ := z
        rw [e3] at h
        dsimp only at h
        cases e4 : getsR kn qs with
        | none => rw [e4] at h; cases h
        | some zs' =>
          rw [e4] at h
          dsimp only at h
          by_cases c : os.length ≤ 900
          · rw [if_pos c] at h
            have h' := Option.some.inj h
            have h1 : zs' = zs := congrArg Prod.fst h'
            have h2 : l3 = ls' := congrArg Prod.snd h'
            subst h1 h2
            exact ⟨fo, l1, kn, l2, qs, rfl, e2, e3, e4, c⟩
          · rw [if_neg c] at h; cases h
/-- what a dict of written types holds -/
def KnAt (H : Hp) (g : Nat → V) (kn : List (Nat × RT)) : Prop := ∀ k rt, getR kn k = some rt → RtAt H (g k) rt
theorem KnAt.stay {F : Addr → Prop} {H H' : Hp} {g : Nat → V} {kn : List (Nat × RT)} (h : KnAt H g kn) (k : Ch F H H') : KnAt H' g kn := fun i rt e => (h i rt e).stay k
theorem KnAt.add {H : Hp} {g : Nat → V} {kn : List (Nat × RT)} {o : Nat} {v : V} {rt : RT} (h : KnAt H g kn) (hv : RtAt H v rt) (ho : o ∉ keysR kn) : KnAt H (fun k => if k = o then v else g k) (kn ++ [(o, rt)]) := fun i r e => by
  rcases getR_app e with e | ⟨_, rfl, rfl⟩
  · show RtAt H (if i = o then v else g i) r
    rw [if_neg fun q => ho (by rw [← q]; exact getR_key e)]
    exact h i r e
  · show RtAt H (if i = i then v else g i) r
    rw [if_pos rfl]
    exact hv
theorem keysR_add {kn : List (Nat × RT)} {o : Nat} {rt : RT} : keysR (kn ++ [(o, rt)]) = keysR kn ++ [o] := by unfold keysR; rw [List.map_append]; rfl
theorem res_stay {F : Addr → Prop} {H H' : Hp} {q : Addr} {rows : List (List Str)} (h : ResAt H q rows) (k : Ch F H H') (n : ¬ F q) : ResAt H' q rows := by
  obtain ⟨ps, h1, h2⟩ := h
  exact ⟨ps, k.keep _ _ h1 n, pr_mono h2 fun a r _ _ z => k.tup _ _ z⟩
section
variable {P : Program} {w : World} {K : PySem.W.Frag} {mg : Str → Option Value} {base : Heap}
def spRs (C CR : Addr) (K : PySem.W.Frag) : Sp := fun vs H Q _ => ∃ (t r a b : Addr) (m : TM) (F : Addr → Prop) (os ls : List Nat) (rows : List (List Str)) (zs : List RT), vs = [.ref t, .ref a, .ref b] ∧ H a = some (.lst (os.map nv)) ∧ ¬ F a ∧ ResAt H b rows ∧ ¬ F b ∧ TyAt K C CR H t r m F ∧ rsAll m.forms rows os m.leads = some (zs, ls) ∧
  ∀ (H' : Hp) (F' : Addr → Prop) (D : Addr) (us : List V), TyAt K C CR H' t r { m with leads := ls } F' → Mv F H F' H' → H D = none → H' D = some (.lst us) → Paired (RtAt H') us zs → ¬ F' D → Q (.ref D) H'
abbrev nRs : List Str := ["self", "ones", "rows", "known", "one", "part"]
theorem scRs : FnScope nRs ["self", "ones", "rows"] (defScope tRs) := ⟨rfl, rfl, rfl, by decide +kernel, rfl, by decide +kernel, by decide +kernel⟩
theorem pt_result (r lf ll : Addr) : (pt r lf ll).lookup ("result" : Str) = none := pt_no _ _ _ (by decide +kernel) (by decide +kernel) (by decide +kernel)
theorem ok_rs {f fL fI fF fR C CR : Addr} {fd fdL fdI fdF fdR : FuncData} (F : Fun K "results" "Types.results" tRs f fd) (T : TTxt K mg C) (GL : FnOk P w K mg base CX0 1 fL fdL ["self", "one"] (spLead C CR K)) (bL : Binds K fdL ["self", "one"] []) (mL : Meth K C "leader" fL)
    (GI : FnOk P w K mg base CX0 2 fI fdI ["self", "one"] (spIns C CR K)) (bI : Binds K fdI ["self", "one"] []) (mI : Meth K C "inside" fI)
    (GF : FnOk P w K mg base CX0 3 fF fdF ["self", "ones"] (spIf C CR K)) (bF : Binds K fdF ["self", "ones"] []) (mF : Meth K C "inside_first" fF)
    (GR : FnOk P w K mg base CX0 1 fR fdR ["self", "one", "inside", "rows"] (spRt C CR K)) (bR : Binds K fdR ["self", "one", "inside", "rows"] []) (mR : Meth K C "result" fR) : FnOk P w K mg base CX0 4 f fd ["self", "ones", "rows"] (spRs C CR K) := by
  refine F.ok scRs (fun vs H Q E h => ?_) (fun cdv A outer s H vs Q E hr h => ?_)
  · obtain ⟨t, r, a, b, m, F, os, ls, rows, zs, rfl, _⟩ := h
    rfl
  · obtain ⟨t, r, a, b, m, F, os, ls, rows, zs, rfl, ha, nFa, hb, nFb, hT, hrs, k⟩ := h
    obtain ⟨fo, l1, kn, l2, qs, hif, hrsm, hins, hgets, hos⟩ := rsAll_step hrs
    have hu := hu_of hr
    have hr2 : Room 2 _ := hr.mono (by decide)
    have hr1 : Room 1 _ := hr.mono (by decide)
    refine ⟨_, pss_cons (ps_set (i := 3) scRs.nd rfl (Or.inr rfl) pe_dnewK)
      (pss_cons (ps_for PassesOwn.never rfl (pi_list (pe_meth (pv 0) T.cl mF GF hr bF .nil pass0 (pa_cons (pv 1) pa_nil))) (pg_name (i := 4) scRs.nd rfl (Or.inl rfl))
        (pss_one (ps_dput hu (pv 3) (pv 4) (pe_meth (pv 0) T.cl mR GR hr1 bR .nil pass0 (pa_cons (pv 4) (pa_cons
          (pe_lc (own := [("part", 5)]) (g := gName 5) (tt := tYes) (te := tDGet (tVar 3) (tVar 5)) rfl scRs.nd (pi_list (pe_meth (pv 0) T.cl mI GI hr2 bI .nil pass0 (pa_cons (pv 4) pa_nil)))
            (blkOk_by (N := nRs) (sc := defScope tRs) (by decide +kernel)) (fun _ _ _ _ _ => pg_name (i := 5) scRs.nd rfl (Or.inl rfl)) (fun _ _ _ _ _ => pts_nil)
            (fun _ _ _ _ _ => pe_dget hu (pv 3) (pv 5) (fun _ _ => rfl))) (pa_cons (pv 2) pa_nil)))) rfl)))
      (pss_one (ps_ret (pe_lc (own := [("one", 4)]) (g := gName 4) (tt := tYes) (te := tDGet (tVar 3) (tMeth C "leader" (spLead C CR K) [] E0 (tVar 0) (tCons (tVar 4) tNil))) rfl scRs.nd (pi_list (pv 1))
            (blkOk_by (N := nRs) (sc := defScope tRs) (by decide +kernel)) (fun _ _ _ _ _ => pg_name (i := 4) scRs.nd rfl (Or.inl rfl)) (fun _ _ _ _ _ => pts_nil)
            (fun _ _ _ _ _ => pe_dget hu (pv 3) (pe_meth (pv 0) T.cl mL GL hr1 bL .nil pass0 (pa_cons (pv 4) pa_nil)) (fun _ _ => rfl)))))), ?_⟩
    intro d hd
    have nFd := hT.notin hd
    have had : a ≠ d := ne_of_none ha hd
    have hT1 : TyAt K C CR (upd H d (.dK [])) t r m F := hT.new hd
    have mv1 : Mv F H F (upd H d (.dK [])) := .new hd
    have hd1 : (upd H d (.dK [])) d = some (.dK []) := upd_same
    have ha1 : (upd H d (.dK [])) a = some (.lst (os.map nv)) := by rw [upd_ne had]; exact ha
    have hb1 : ResAt (upd H d (.dK [])) b rows := res_stay (F := F0) hb (ch_new hd) fun f => f
    generalize upd H d (.dK []) = H1 at hT1 mv1 hd1 ha1 hb1
    obtain ⟨dx1, lf1, ll1, i1⟩ := hT1.ins
    refine ⟨_, rfl, t, dx1, _, rfl, i1, pt_insf _ _ _, _, rfl, ?_⟩
    refine ⟨t, r, a, m, F, 200, os, fo, l1, rfl, SqL.of ha1, hT1, hif, fun H2 F2 Y hT2 mv2 hY hY2 nY => ?_⟩
    have mv2' : Mv F H F2 H2 := mv1.trans mv2
    have hd2 : H2 d = some (.dK []) := mv2.keep hd1 nFd
    have nd2 : ¬ F2 d := mv2.out hd1 nFd
    have ha2 := mv2.keep ha1 nFa
    have na2 := mv2.out ha1 nFa
    have hb2 := res_stay hb1 mv2.ch nFb
    obtain ⟨ps1, hps1, _⟩ := id hb1
    have nb2 := mv2.out hps1 nFb
    have hYd : Y ≠ d := ne_of hY2 hd2 (by intro z; cases z)
    refine ⟨Y, rfl, ⟨_, SqL.of hY2⟩, for_list (K := K) (a := Y) (xs := fo.map nv) (fun x σ H3 => ∃ (F3 : Addr → Prop) (g : Nat → V) (kn1 : List (Nat × RT)) (l3 : List Nat) (v3 v4 : Option V), σ = [some (.ref t), some (.ref a), some (.ref b), some (.ref d), v3, v4] ∧ TyAt K C CR H3 t r { m with leads := l3 } F3 ∧ Mv F H F3 H3 ∧
        H3 d = some (.dK (kvF g (keysR kn1))) ∧ KnAt H3 g kn1 ∧ H3 Y = some (.lst (fo.map nv)) ∧ H3 a = some (.lst (os.map nv)) ∧ ResAt H3 b rows ∧ ¬ F3 d ∧ ¬ F3 Y ∧ ¬ F3 a ∧ ¬ F3 b ∧ rsM m.forms rows (fo.drop x) kn1 l3 = some (kn, l2))
      ⟨F2, fun _ => .non, [], l1, _, _, rfl, hT2, mv2', hd2, (fun k rt e => by cases e), hY2, ha2, hb2, nd2, nY, na2, nb2, hrsm⟩ (fun x σ H3 _ ⟨_, _, _, _, _, _, _, _, _, _, _, q, _⟩ => SqL.of q) ?_ ?_⟩
    · rintro x v σ H3 hx ⟨F3, g, kn1, l3, v3, v4, rfl, hT3, mv3, hd3, hk3, hY3, ha3, hb3, nd3, nY3, na3, nb3, hc⟩
      rw [List.getElem?_map] at hx
      cases ep : fo[x]? with
      | none => rw [ep] at hx; cases hx
      | some p =>
        rw [ep] at hx
        have ev : v = nv p := (Option.some.inj hx).symm
        subst ev
        have ed : fo.drop x = p :: fo.drop (x + 1) := by
          rw [List.drop_eq_getElem_cons (List.getElem?_eq_some_iff.mp ep).1]
          rw [(List.getElem?_eq_some_iff.mp ep).2]
        rw [ed] at hc
        obtain ⟨fm, q1, l4, rqs, rt, e1, e2, e3, e4, h2, h3, hcc⟩ := rsM_step hc
        obtain ⟨dx3, lf3, ll3, i3⟩ := hT3.ins
        have hsm : fm.parts.length ≤ 2 := by
          obtain ⟨_, _, _, _, _, _, h4, _⟩ := id hT3
          exact h4.sm _ (List.mem_of_getElem? e1)
        have hq1l := insM_len e2
        obtain ⟨hgl, hgi⟩ := getsR_at e3
        refine ⟨_, rfl, t, dx3, _, rfl, i3, pt_result _ _ _, _, rfl, _, rfl, t, dx3, _, rfl, i3, pt_inside _ _ _, _, rfl, ?_⟩
        refine ⟨t, r, _, F3, p, fm, q1, l4, rfl, hT3, e1, e2, fun H4 F4 X hT4 mv4 hX hX4 nX => ?_⟩
        have hd4 := mv4.keep hd3 nd3
        have hY4 := mv4.keep hY3 nY3
        have ha4 := mv4.keep ha3 na3
        have hb4 := res_stay hb3 mv4.ch nb3
        have hk4 := hk3.stay mv4.ch
        have nd4 := mv4.out hd3 nd3
        have nY4 := mv4.out hY3 nY3
        have na4 := mv4.out ha3 na3
        obtain ⟨ps3, hps3, _⟩ := id hb3
        have nb4 := mv4.out hps3 nb3
        have mv4' := mv3.trans mv4
        refine ⟨X, rfl, ⟨_, SqL.of hX4⟩, fun D hD => ?_⟩
        have nFD := hT4.notin hD
        have hDX : D ≠ X := (ne_of_none hX4 hD).symm
        have hDY : D ≠ Y := (ne_of_none hY4 hD).symm
        have hDa : D ≠ a := (ne_of_none ha4 hD).symm
        have hDd : D ≠ d := (ne_of_none hd4 hD).symm
        obtain ⟨ps4, hps4, _⟩ := id hb4
        have hDb : b ≠ D := ne_of_none hps4 hD
        refine lc_list (K := K) (a := X) (xs := q1.map nv) (fun y H5 => TyAt K C CR H5 t r { m with leads := l4 } F4 ∧ Mv F H F4 H5 ∧ H5 d = some (.dK (kvF g (keysR kn1))) ∧ KnAt H5 g kn1 ∧ H5 Y = some (.lst (fo.map nv)) ∧ H5 a = some (.lst (os.map nv)) ∧ ResAt H5 b rows ∧ H5 X = some (.lst (q1.map nv)) ∧
            H5 D = some (.lst ((q1.take y).map fun q => g q)))
          ⟨hT4.new hD, mv4'.trans (.new hD), ?_, hk4.stay (F := F0) (ch_new hD), ?_, ?_, res_stay (F := F0) hb4 (ch_new hD) (fun f => f), ?_, upd_same⟩ (fun y H5 _ q => SqL.of q.2.2.2.2.2.2.2.1) ?_ ?_
        · rw [upd_ne hDd.symm]; exact hd4
        · rw [upd_ne hDY.symm]; exact hY4
        · rw [upd_ne hDa.symm]; exact ha4
        · rw [upd_ne hDX.symm]; exact hX4
        · rintro y v H5 hy ⟨hT5, mv5, hd5, hk5, hY5, ha5, hb5, hX5, hD5⟩
          rw [List.getElem?_map] at hy
          cases eq' : q1[y]? with
          | none => rw [eq'] at hy; cases hy
          | some q =>
            rw [eq'] at hy
            have ev : v = nv q := (Option.some.inj hy).symm
            subst ev
            obtain ⟨rq, _, hrq⟩ := hgi y q eq'
            have hval : DGet H5 d (.int (q : Int)) (some (g q)) := by
              have := DGet.k (k := nk q) hd5
              rw [kvF_val, if_pos (getR_key hrq)] at this
              exact this
            refine ⟨rfl, _, rfl, _, rfl, d, _, rfl, hval, _, hD5, ?_, ?_⟩
            · rw [List.length_map]
              exact small1000 (by rw [List.length_take]; omega)
            · have c6 : Ch (fun x => x = D) H5 (upd H5 D (.lst ((q1.take y).map (fun q => g q) ++ [g q]))) := ch_at hD5 lstTup rfl
              refine ⟨hT5.own nFD hD5 lstTup lstIns, mv5.own (mv4'.free hD) hD5 lstTup, ?_, hk5.stay c6, ?_, ?_, res_stay hb5 c6 hDb, ?_, ?_⟩
              · rw [upd_ne hDd.symm]; exact hd5
              · rw [upd_ne hDY.symm]; exact hY5
              · rw [upd_ne hDa.symm]; exact ha5
              · rw [upd_ne hDX.symm]; exact hX5
              · rw [upd_same, List.take_add_one, eq', List.map_append]
                rfl
        · rintro H5 ⟨hT5, mv5, hd5, hk5, hY5, ha5, hb5, hX5, hD5⟩
          rw [List.length_map, List.take_length] at hD5
          have hpr : Paired (RtAt H5) (q1.map fun q => g q) rqs := pr_ix (by rw [List.length_map, hgl]) fun i x y hx hy => by
            rw [List.getElem?_map] at hx
            cases e : q1[i]? with
            | none => rw [e] at hx; cases hx
            | some q =>
              rw [e] at hx
              obtain rfl : g q = x := Option.some.inj hx
              obtain ⟨rq, h6, h7⟩ := hgi i q e
              rw [hy] at h6
              obtain rfl := Option.some.inj h6
              exact hk5 q _ h7
          refine ⟨_, rfl, ?_⟩
          refine ⟨t, r, D, b, _, F4, p, fm, _, rqs, rows, rt, rfl, hT5, e1, hD5, hpr, hb5, e4, fun H6 v s6 hv => ?_⟩
          have c6 : Ch F0 H5 H6 := ch_of_same s6
          have hd6 := s6 _ _ hd5
          have hT6 : TyAt K C CR H6 t r { m with leads := l4 } F4 := hT5.stay c6 (fun _ _ f => f) fun f => f
          have mv6 : Mv F H F4 H6 := mv5.trans ⟨ch_of_same s6, fun _ f => .inl f⟩
          refine ⟨_, rfl, _, rfl, d, _, rfl, DPut.k (k := nk p) hd6 (by rw [kvF_len]; unfold keysR; rw [List.length_map]; exact small1000 (by omega)), ?_⟩
          have hYd6 := s6 _ _ hY5
          have ha6 := s6 _ _ ha5
          have c7 : ∀ o, Ch (fun x => x = d) H6 (upd H6 d o) := fun o => ch_at hd6 dkTup rfl
          refine ⟨F4, fun k => if k = p then v else g k, kn1 ++ [(p, rt)], l4, _, _, rfl, hT6.own nd4 hd6 dkTup dkIns, mv6.own hd hd6 dkTup, ?_, ?_, ?_, ?_, ?_, nd4, nY4, na4, nb4, hcc⟩
          · rw [upd_same, keysR_add, kvF_new _ _ h2]
          · exact ((hk5.stay c6).add hv h2).stay (c7 _)
          · rw [upd_ne hYd]; exact hYd6
          · rw [upd_ne (ne_of ha6 hd6 (by intro z; cases z))]; exact ha6
          · refine res_stay (res_stay hb5 c6 fun f => f) (c7 _) fun q => ?_
            obtain ⟨ps5, hps5, _⟩ := hb5
            rw [q, hd5] at hps5
            cases hps5
    · rintro σ H3 ⟨F3, g, kn1, l3, v3, v4, rfl, hT3, mv3, hd3, hk3, hY3, ha3, hb3, nd3, nY3, na3, nb3, hc⟩
      rw [List.length_map, List.drop_length] at hc
      have h' := Option.some.inj hc
      have e1 : kn1 = kn := congrArg Prod.fst h'
      have e2 : l3 = l2 := congrArg Prod.snd h'
      subst e1 e2
      obtain ⟨hgl, hgi⟩ := getsR_at hgets
      refine ⟨_, rfl, a, rfl, ⟨_, SqL.of ha3⟩, fun D hD => ?_⟩
      have nFD := hT3.notin hD
      have had' : a ≠ D := ne_of_none ha3 hD
      have hdD : d ≠ D := ne_of_none hd3 hD
      refine lc_list (K := K) (a := a) (xs := os.map nv) (fun y H4 => ∃ (F4 : Addr → Prop) (l4 qs1 rest : List Nat), TyAt K C CR H4 t r { m with leads := l4 } F4 ∧ Mv F H F4 H4 ∧ H4 d = some (.dK (kvF g (keysR kn1))) ∧ KnAt H4 g kn1 ∧ H4 a = some (.lst (os.map nv)) ∧ ¬ F4 d ∧ ¬ F4 a ∧ ¬ F4 D ∧
          H4 D = some (.lst (qs1.map fun q => g q)) ∧ qs1.length = y ∧ insM (os.drop y) l4 = some (rest, ls) ∧ qs = qs1 ++ rest)
        ⟨F3, l3, [], qs, hT3.new hD, mv3.trans (.new hD), ?_, hk3.stay (F := F0) (ch_new hD), ?_, nd3, na3, nFD, upd_same, rfl, hins, rfl⟩ (fun y H4 _ ⟨_, _, _, _, _, _, _, _, q, _⟩ => SqL.of q) ?_ ?_
      · rw [upd_ne hdD]; exact hd3
      · rw [upd_ne had']; exact ha3
      · rintro y v H4 hy ⟨F4, l4, qs1, rest, hT4, mv4, hd4, hk4, ha4, nd4, na4, nD4, hD4, el, hl4, eq'⟩
        rw [List.getElem?_map] at hy
        cases ep : os[y]? with
        | none => rw [ep] at hy; cases hy
        | some p =>
          rw [ep] at hy
          have ev : v = nv p := (Option.some.inj hy).symm
          subst ev
          have ed : os.drop y = p :: os.drop (y + 1) := by
            rw [List.drop_eq_getElem_cons (List.getElem?_eq_some_iff.mp ep).1]
            rw [(List.getElem?_eq_some_iff.mp ep).2]
          rw [ed] at hl4
          obtain ⟨q, l5, rest', e1, e2, e3⟩ := insM_cons (q := 0) hl4
          obtain ⟨dx4, lf4, ll4, i4⟩ := hT4.ins
          refine ⟨rfl, _, rfl, _, rfl, t, dx4, _, rfl, i4, pt_leader _ _ _, _, rfl, ?_⟩
          refine ⟨t, r, _, F4, FU, p, q, l5, rfl, hT4, e1, fun H5 F5 hT5 mv5 => ?_⟩
          have hd5 := mv5.keep hd4 nd4
          have ha5 := mv5.keep ha4 na4
          have hD5 := mv5.keep hD4 nD4
          have hqi : qs[qs1.length]? = some q := by rw [eq', e3]; simp
          obtain ⟨rq, _, hrq⟩ := hgi _ q hqi
          have hval : DGet H5 d (.int (q : Int)) (some (g q)) := by
            have := DGet.k (k := nk q) hd5
            rw [kvF_val, if_pos (getR_key hrq)] at this
            exact this
          refine ⟨d, _, rfl, hval, _, hD5, ?_, ?_⟩
          · rw [List.length_map]
            have h3 := congrArg List.length eq'
            have h4 := insM_len hins
            rw [List.length_append] at h3
            exact small1000 (by omega)
          · refine ⟨F5, l5, qs1 ++ [q], rest', hT5.own (mv5.out hD4 nD4) hD5 lstTup lstIns, (mv4.trans mv5).own (mv3.free hD) hD5 lstTup, ?_, (hk4.stay mv5.ch).stay (F := fun x => x = D) (ch_at hD5 lstTup rfl), ?_, mv5.out hd4 nd4, mv5.out ha4 na4, mv5.out hD4 nD4, ?_, ?_, e2, ?_⟩
            · rw [upd_ne hdD]; exact hd5
            · rw [upd_ne had']; exact ha5
            · rw [upd_same, List.map_append]
              rfl
            · rw [List.length_append, el]
              rfl
            · rw [eq', e3, List.append_assoc]
              rfl
      · rintro H4 ⟨F4, l4, qs1, rest, hT4, mv4, hd4, hk4, ha4, nd4, na4, nD4, hD4, el, hl4, eq'⟩
        rw [List.length_map, List.drop_length] at hl4
        have h' := Option.some.inj hl4
        have e1 : [] = rest := congrArg Prod.fst h'
        have e2 : l4 = ls := congrArg Prod.snd h'
        subst e1 e2
        rw [List.append_nil] at eq'
        subst eq'
        refine k H4 F4 D _ hT4 mv4 (mv3.free hD) hD4 ?_ nD4
        refine pr_ix (by rw [List.length_map, hgl]) fun i x y hx hy => ?_
        rw [List.getElem?_map] at hx
        cases e : qs[i]? with
        | none => rw [e] at hx; cases hx
        | some q =>
          rw [e] at hx
          obtain rfl : g q = x := Option.some.inj hx
          obtain ⟨rq, h6, h7⟩ := hgi i q e
          rw [hy] at h6
          obtain rfl := Option.some.inj h6
          exact hk4 q _ h7
end
end Kt


set_option Elab.async false
set_option linter.all false
set_option maxRecDepth 100000
set_option maxHeartbeats 1000000
/-! list(zip(t, u)) of two tuples -/
namespace Lz
open PySem RZ
open PySem.Sem (wp)
abbrev IsZo (h : Heap) (z TI TO a : Addr) (f : Bool) : Prop :=
  h.get? z = some { cls := .type "zip", dict := none, data := .fields #[rawInt a, .bool f, .bool false, .ref TI, .ref TO], slots := #[] }
section
variable {prog : Program} {w : World} {A : Around} {E : Value → Shared → Prop} {s : Shared}
theorem alive {a : Addr} {o : Obj} {Q : Option Obj → Shared → Prop} (ho : s.heap.get? a = some o) (h : Q (some o) s) : wpAny (model prog w) A (loadIfAlive a) Q E s := PySem.W.kdx_alive ho h
theorem zo_free {z TI TO a : Addr} {f : Bool} {oa : Obj} {Q : Bool → Shared → Prop} (hz : IsZo s.heap z TI TO a f) (ha : s.heap.get? a = some oa)
    (hQ : ∀ h', IsZo h' z TI TO a true → Heap.SameBut z s.heap h' → Q false { s with heap := h' }) : wpAny (model prog w) A (Builtin.SmallTypes.ownedTupleIsFree (.ref z)) Q E s := by
  unfold Builtin.SmallTypes.ownedTupleIsFree
  refine wpAny_bind (wpAny_field hz rfl (x := rawInt a) rfl ?_)
  show wpAny _ _ (loadIfAlive ((a : Int).toNat) >>= _) _ _ _
  rw [Int.toNat_natCast]
  refine wpAny_bind (alive ha ?_)
  simp only [Option.isNone_some, Bool.false_eq_true, if_false]
  refine wpAny_bind (wpAny_field hz rfl (x := .bool f) rfl ?_)
  cases f with
  | true =>
    rw [if_neg (show ¬ ((Value.bool true != Value.bool true) = true) from Bool.false_ne_true)]
    exact wpAny_pure (hQ s.heap hz (Heap.SameBut.refl _ _))
  | false =>
    rw [if_pos (show (Value.bool false != Value.bool true) = true from rfl)]
    refine wpAny_bind (wpAny_setField_rec hz (by simp) fun h₃ hz₃ hs₃ => ?_)
    exact wpAny_pure (hQ h₃ hz₃ hs₃)
theorem zo_next_item {z TI TO i1 i2 l1 l2 a : Addr} {f : Bool} {k1 k2 : Nat} {xs ys : Array Value} {x y : Value} {oa : Obj} {Q : Value → Shared → Prop} (D : ZipApart z TI TO i1 i2 l1 l2)
    (hz : IsZo s.heap z TI TO a f) (ha : s.heap.get? a = some oa) (hTI : IsPair s.heap TI (.ref i1) (.ref i2))
    (h1 : s.heap.IsTupleIter i1 l1 k1) (h2 : s.heap.IsTupleIter i2 l2 k2) (hl1 : s.heap.IsTuple l1 xs) (hl2 : s.heap.IsTuple l2 ys) (hx : xs[k1]? = some x) (hy : ys[k2]? = some y)
    (hQ : ∀ h', IsZo h' z TI TO a true → h'.IsTupleIter i1 l1 (k1 + 1) → h'.IsTupleIter i2 l2 (k2 + 1) → IsPair h' s.heap.objs.size x y → h'.objs.size = s.heap.objs.size + 1 →
      (∀ c o, c ≠ z → c ≠ i1 → c ≠ i2 → s.heap.get? c = some o → h'.get? c = some o) → Q (.ref s.heap.objs.size) { s with heap := h' }) :
    wpAny (model prog w) A (Builtin.«zip.__next__» ⟨[.ref z], []⟩) (fun fin s' => ∃ v, fin = .done (.ret v) ∧ Q v s') E s := by
  show wpAny _ _ (field (.ref z) 2 >>= _) _ _ _
  refine wpAny_bind (wpAny_field hz rfl (x := .bool false) rfl ?_)
  show wpAny _ _ (field (.ref z) 3 >>= _) _ _ _
  refine wpAny_bind (wpAny_field hz rfl (x := .ref TI) rfl ?_)
  refine wpAny_bind (wpAny_seqItems hTI rfl ?_)
  show wpAny _ _ (Builtin.SmallTypes.ownedTupleIsFree (.ref z) >>= _) _ _ _
  refine wpAny_bind (zo_free hz ha fun h₁ hz₁ hs₁ => ?_)
  simp only [Bool.false_eq_true, if_false, List.forIn_toArray, List.forIn_cons, List.forIn_nil]
  refine wpAny_bind ?_
  refine wpAny_bind ?_
  refine wpAny_bind (wpAny_holding ?_)
  show wpAny _ _ (Builtin.SmallTypes.nextOf (.ref i1) >>= _) _ _ _
  refine wpAny_bind (nextOf_tuple_item (h1.extBut hs₁.extBut D.i1z) (hl1.extBut hs₁.extBut D.l1z) hx fun h₂ h1₂ hs₂ => wpAny_pure ?_)
  refine wpAny_pure ?_
  refine wpAny_bind ?_
  refine wpAny_bind (wpAny_holding ?_)
  show wpAny _ _ (Builtin.SmallTypes.nextOf (.ref i2) >>= _) _ _ _
  refine wpAny_bind (nextOf_tuple_item ((h2.extBut hs₁.extBut D.i2z).extBut hs₂.extBut D.i12.symm) ((hl2.extBut hs₁.extBut D.l2z).extBut hs₂.extBut D.l2i1) hy fun h₄ h2₄ hs₄ => wpAny_pure ?_)
  refine wpAny_pure ?_
  refine wpAny_pure ?_
  refine wpAny_bind (wpAny_newTuple (hsz := (by show 2 ≤ sizeLine; decide)) ?_)
  have hsz : h₄.objs.size = s.heap.objs.size := by rw [hs₄.1, hs₂.1, hs₁.1]
  have hz₄ : IsZo h₄ z TI TO a true := hs₄.extBut _ _ D.i2z.symm (hs₂.extBut _ _ D.i1z.symm hz₁)
  have h1₄ : h₄.IsTupleIter i1 l1 (k1 + 1) := h1₂.extBut hs₄.extBut D.i12
  refine wpAny_pure ⟨_, rfl, ?_⟩
  show Q (.ref h₄.objs.size) _
  rw [hsz]
  refine hQ _ (Heap.get?_push_of_some _ hz₄) (h1₄.at fun o e => Heap.get?_push_of_some _ e) (h2₄.at fun o e => Heap.get?_push_of_some _ e) (by rw [← hsz]; exact Heap.get?_push_size _ rfl) (by rw [Heap.size_push, hsz]) fun c o c1 c2 c3 e =>
    Heap.get?_push_of_some _ (hs₄.extBut _ _ c3 (hs₂.extBut _ _ c2 (hs₁.extBut _ _ c1 e)))
theorem zo_next_end {z TI TO i1 i2 l1 l2 a : Addr} {f : Bool} {k1 k2 : Nat} {xs ys : Array Value} {oa : Obj} {Q : Fin → Shared → Prop} (hh : A.handled = none) (D : ZipApart z TI TO i1 i2 l1 l2)
    (hz : IsZo s.heap z TI TO a f) (ha : s.heap.get? a = some oa) (hTI : IsPair s.heap TI (.ref i1) (.ref i2))
    (h1 : s.heap.IsTupleIter i1 l1 k1) (hl1 : s.heap.IsTuple l1 xs) (hx : xs[k1]? = none)
    (hE : ∀ h' e, (∀ c o, c ≠ z → c ≠ i1 → c ≠ i2 → s.heap.get? c = some o → h'.get? c = some o) → (∃ o, h'.get? e = some o ∧ o.cls = .type "StopIteration") → E (.ref e) { s with heap := h' }) :
    wpAny (model prog w) A (Builtin.«zip.__next__» ⟨[.ref z], []⟩) Q E s := by
  show wpAny _ _ (field (.ref z) 2 >>= _) _ _ _
  refine wpAny_bind (wpAny_field hz rfl (x := .bool false) rfl ?_)
  show wpAny _ _ (field (.ref z) 3 >>= _) _ _ _
  refine wpAny_bind (wpAny_field hz rfl (x := .ref TI) rfl ?_)
  refine wpAny_bind (wpAny_seqItems hTI rfl ?_)
  show wpAny _ _ (Builtin.SmallTypes.ownedTupleIsFree (.ref z) >>= _) _ _ _
  refine wpAny_bind (zo_free hz ha fun h₁ hz₁ hs₁ => ?_)
  simp only [Bool.false_eq_true, if_false, List.forIn_toArray, List.forIn_cons, List.forIn_nil]
  refine wpAny_bind ?_
  refine wpAny_bind ?_
  refine wpAny_bind (wpAny_holding ?_)
  show wpAny _ _ (Builtin.SmallTypes.nextOf (.ref i1) >>= _) _ _ _
  exact wpAny_bind (nextOf_tuple_end hh (h1.extBut hs₁.extBut D.i1z) (hl1.extBut hs₁.extBut D.l1z) hx fun h₂ e hs₂ he => hE _ e (fun c o c1 c2 _ x => hs₂ _ _ c2 (hs₁.extBut _ _ c1 x)) he)
theorem pyNext_zo_item {z TI TO i1 i2 l1 l2 a : Addr} {f : Bool} {k1 k2 : Nat} {xs ys : Array Value} {x y : Value} {oa : Obj} {Q : Option Value → Shared → Prop} (D : ZipApart z TI TO i1 i2 l1 l2)
    (hz : IsZo s.heap z TI TO a f) (ha : s.heap.get? a = some oa) (hTI : IsPair s.heap TI (.ref i1) (.ref i2))
    (h1 : s.heap.IsTupleIter i1 l1 k1) (h2 : s.heap.IsTupleIter i2 l2 k2) (hl1 : s.heap.IsTuple l1 xs) (hl2 : s.heap.IsTuple l2 ys) (hx : xs[k1]? = some x) (hy : ys[k2]? = some y)
    (hQ : ∀ h', IsZo h' z TI TO a true → h'.IsTupleIter i1 l1 (k1 + 1) → h'.IsTupleIter i2 l2 (k2 + 1) → IsPair h' s.heap.objs.size x y → h'.objs.size = s.heap.objs.size + 1 →
      (∀ c o, c ≠ z → c ≠ i1 → c ≠ i2 → s.heap.get? c = some o → h'.get? c = some o) → Q (some (.ref s.heap.objs.size)) { s with heap := h' }) :
    wpAny (model prog w) A (pyNext (.ref z)) Q E s := by
  have hT : s.TypeIs (.ref z) "zip" := ⟨_, hz, rfl⟩
  unfold pyNext
  exact wpAny_bind (wpAny_attempt (wpAny_callSpecial?_slot (name := Str.ofString "__next__") hT F.slot_zip_next
    (wpAny_call_entry F.slot_zip_next hT F.entry_zip_next
      (zo_next_item D hz ha hTI h1 h2 hl1 hl2 hx hy fun h' a1 a3 a4 a5 a6 a7 => wpAny_pure (hQ h' a1 a3 a4 a5 a6 a7)) (F.args_zip_next_1 _))))
theorem pyNext_zo_end {z TI TO i1 i2 l1 l2 a : Addr} {f : Bool} {k1 k2 : Nat} {xs ys : Array Value} {oa : Obj} {Q : Option Value → Shared → Prop} (hh : A.handled = none) (D : ZipApart z TI TO i1 i2 l1 l2)
    (hz : IsZo s.heap z TI TO a f) (ha : s.heap.get? a = some oa) (hTI : IsPair s.heap TI (.ref i1) (.ref i2))
    (h1 : s.heap.IsTupleIter i1 l1 k1) (hl1 : s.heap.IsTuple l1 xs) (hx : xs[k1]? = none)
    (hQ : ∀ h', (∀ c o, c ≠ z → c ≠ i1 → c ≠ i2 → s.heap.get? c = some o → h'.get? c = some o) → Q none { s with heap := h' }) : wpAny (model prog w) A (pyNext (.ref z)) Q E s := by
  have hT : s.TypeIs (.ref z) "zip" := ⟨_, hz, rfl⟩
  unfold pyNext
  refine wpAny_bind (wpAny_attempt (wpAny_callSpecial?_slot (name := Str.ofString "__next__") hT F.slot_zip_next
    (wpAny_call_entry F.slot_zip_next hT F.entry_zip_next (zo_next_end (k2 := k2) (ys := ys) hh D hz ha hTI h1 hl1 hx fun h' e hk he => ?_) (F.args_zip_next_1 _))))
  obtain ⟨o, ho, hc⟩ := he
  refine wpAny_bind (wpAny_isInstance (T := "StopIteration") (b := true) ⟨o, ho, hc⟩ isSubtype_stop ?_)
  exact wpAny_pure (hQ _ hk)
end
end Lz


set_option Elab.async false
set_option linter.all false
set_option maxRecDepth 100000
set_option maxHeartbeats 1000000
namespace Lz
open PySem RZ
open PySem.Sem (wp)
/-- the zip object at turn i: nothing handed out, or the first pair, at a -/
structure Zst (h : Heap) (z TI TO i1 i2 l1 l2 S : Addr) (xs ys : Array Value) (i : Nat) : Prop where
  own : (IsZip h z TI TO .none ∧ ∃ x y, IsPair h TO x y) ∨ ∃ a f oa, IsZo h z TI TO a f ∧ h.get? a = some oa ∧ a ≠ z ∧ a ≠ i1 ∧ a ≠ i2 ∧ a ≠ S
  ti : IsPair h TI (.ref i1) (.ref i2)
  h1 : h.IsTupleIter i1 l1 i
  h2 : h.IsTupleIter i2 l2 i
  t1 : h.IsTuple l1 xs
  t2 : h.IsTuple l2 ys
structure ZSap (z TI TO i1 i2 l1 l2 S : Addr) : Prop where
  ap : ZipApart z TI TO i1 i2 l1 l2
  Sz : S ≠ z
  STI : S ≠ TI
  STO : S ≠ TO
  S1 : S ≠ i1
  S2 : S ≠ i2
  Sl1 : S ≠ l1
  Sl2 : S ≠ l2
theorem isTuple_at {h h' : Heap} {a : Addr} {xs : Array Value} (x : h.IsTuple a xs) (k : ∀ o, h.get? a = some o → h'.get? a = some o) : h'.IsTuple a xs := by
  obtain ⟨o, ho, r⟩ := x
  exact ⟨o, k o ho, r⟩
theorem Zst.keep {h h' : Heap} {z TI TO i1 i2 l1 l2 S : Addr} {xs ys : Array Value} {i : Nat} (x : Zst h z TI TO i1 i2 l1 l2 S xs ys i) (D : ZSap z TI TO i1 i2 l1 l2 S) (hk : ∀ b o, b ≠ S → h.get? b = some o → h'.get? b = some o) : Zst h' z TI TO i1 i2 l1 l2 S xs ys i where
  own := by
    rcases x.own with ⟨a, u, v, b⟩ | ⟨a, f, oa, hz, ha, n1, n2, n3, n4⟩
    · exact .inl ⟨hk _ _ D.Sz.symm a, u, v, hk _ _ D.STO.symm b⟩
    · exact .inr ⟨a, f, oa, hk _ _ D.Sz.symm hz, hk _ _ n4 ha, n1, n2, n3, n4⟩
  ti := hk _ _ D.STI.symm x.ti
  h1 := x.h1.at fun o e => hk _ _ D.S1.symm e
  h2 := x.h2.at fun o e => hk _ _ D.S2.symm e
  t1 := isTuple_at x.t1 fun o e => hk _ _ D.Sl1.symm e
  t2 := isTuple_at x.t2 fun o e => hk _ _ D.Sl2.symm e
section
variable {prog : Program} {w : World} {A : Around} {E : Value → Shared → Prop} {s : Shared} {z TI TO i1 i2 l1 l2 S : Addr} {xs ys : Array Value} {i : Nat}
theorem zst_item {x y : Value} {Q : Option Value → Shared → Prop} (D : ZSap z TI TO i1 i2 l1 l2 S) (hS : S < s.heap.objs.size) (st : Zst s.heap z TI TO i1 i2 l1 l2 S xs ys i) (hx : xs[i]? = some x) (hy : ys[i]? = some y)
    (hQ : ∀ h', Zst h' z TI TO i1 i2 l1 l2 S xs ys (i + 1) → IsPair h' s.heap.objs.size x y → h'.objs.size = s.heap.objs.size + 1 → (∀ b o, b ≠ z → b ≠ TO → b ≠ i1 → b ≠ i2 → s.heap.get? b = some o → h'.get? b = some o) → Q (some (.ref s.heap.objs.size)) { s with heap := h' }) :
    wpAny (model prog w) A (pyNext (.ref z)) Q E s := by
  have hzl : z < s.heap.objs.size := by
    rcases st.own with ⟨a, _⟩ | ⟨_, _, _, a, _⟩ <;> exact Heap.lt_size a
  have l1n : ∀ o, s.heap.get? l1 = some o → l1 < s.heap.objs.size := fun o e => Heap.lt_size e
  have i1l : i1 < s.heap.objs.size := by obtain ⟨_, e, _⟩ := st.h1; exact Heap.lt_size e
  have i2l : i2 < s.heap.objs.size := by obtain ⟨_, e, _⟩ := st.h2; exact Heap.lt_size e
  rcases st.own with ⟨hz, u, v, hTO⟩ | ⟨a, f, oa, hz, ha, n1, n2, n3, n4⟩
  · refine pyNext_zipT_item D.ap hz st.ti hTO st.h1 st.h2 st.t1 st.t2 hx hy fun h' z' TO' h1' h2' hT hsz hk => hQ h' ⟨.inr ⟨_, false, _, z', hT, Nat.ne_of_gt hzl, Nat.ne_of_gt i1l, Nat.ne_of_gt i2l, Nat.ne_of_gt hS⟩, ?_, h1', h2', ?_, ?_⟩ hT hsz hk
    · exact hk _ _ D.ap.TIz D.ap.TITO D.ap.TIi1 D.ap.TIi2 st.ti
    · exact isTuple_at st.t1 fun o e => hk _ _ D.ap.l1z D.ap.l1TO D.ap.l1i1 D.ap.l1i2 e
    · exact isTuple_at st.t2 fun o e => hk _ _ D.ap.l2z D.ap.l2TO D.ap.l2i1 D.ap.l2i2 e
  · refine pyNext_zo_item D.ap hz ha st.ti st.h1 st.h2 st.t1 st.t2 hx hy fun h' z' h1' h2' hT hsz hk => hQ h' ⟨.inr ⟨a, true, oa, z', hk _ _ n1 n2 n3 ha, n1, n2, n3, n4⟩, ?_, h1', h2', ?_, ?_⟩ hT hsz fun b o c1 _ c3 c4 e => hk b o c1 c3 c4 e
    · exact hk _ _ D.ap.TIz D.ap.TIi1 D.ap.TIi2 st.ti
    · exact isTuple_at st.t1 fun o e => hk _ _ D.ap.l1z D.ap.l1i1 D.ap.l1i2 e
    · exact isTuple_at st.t2 fun o e => hk _ _ D.ap.l2z D.ap.l2i1 D.ap.l2i2 e
theorem zst_done {Q : Option Value → Shared → Prop} (hh : A.handled = none) (D : ZSap z TI TO i1 i2 l1 l2 S) (st : Zst s.heap z TI TO i1 i2 l1 l2 S xs ys i) (hx : xs[i]? = none)
    (hQ : ∀ h', (∀ b o, b ≠ z → b ≠ TO → b ≠ i1 → b ≠ i2 → s.heap.get? b = some o → h'.get? b = some o) → Q none { s with heap := h' }) : wpAny (model prog w) A (pyNext (.ref z)) Q E s := by
  rcases st.own with ⟨hz, u, v, hTO⟩ | ⟨a, f, oa, hz, ha, n1, n2, n3, n4⟩
  · exact pyNext_zipT_end hh D.ap hz st.ti hTO st.h1 st.h2 st.t1 st.t2 (.inl hx) fun h' hk => hQ h' hk
  · exact pyNext_zo_end (k2 := i) (ys := ys) hh D.ap hz ha st.ti st.h1 st.t1 hx fun h' hk => hQ h' fun b o c1 _ c3 c4 e => hk b o c1 c3 c4 e
structure ZG (xs ys : Array Value) (lo : Addr) (h : Heap) (as : List Addr) : Prop where
  rise : as.Pairwise (· < ·)
  above : ∀ a ∈ as, lo < a
  pairs : ∀ (j : Nat) (a : Addr), as[j]? = some a → ∃ x y, xs[j]? = some x ∧ ys[j]? = some y ∧ IsPair h a x y
theorem ZG.there {lo : Addr} {h : Heap} {as : List Addr} (g : ZG xs ys lo h as) {a : Addr} (ha : a ∈ as) : a < h.objs.size := by
  obtain ⟨j, hj⟩ := List.mem_iff_getElem?.mp ha
  obtain ⟨_, _, _, _, e⟩ := g.pairs j a hj
  exact Heap.lt_size e
theorem ZG.low {lo lo' : Addr} {h : Heap} {as : List Addr} (g : ZG xs ys lo h as) (hl : lo' ≤ lo) : ZG xs ys lo' h as := ⟨g.rise, fun a ha => Nat.lt_of_le_of_lt hl (g.above a ha), g.pairs⟩
end
section
variable {prog : Program} {w : World} {A : Around} {s : Shared} {R : Result → Shared → Prop} {z TI TO i1 i2 l1 l2 S lo : Addr} {xs ys : Array Value}
theorem ab_ne {lo a b : Addr} (h : b ≤ lo) (h2 : lo < a) : a ≠ b := Nat.ne_of_gt (Nat.lt_of_le_of_lt h h2)
/-- lo: above all of the zip's own objects and S -/
theorem zl_loop (hh : A.handled = none) (D : ZSap z TI TO i1 i2 l1 l2 S) (hlo : S ≤ lo ∧ z ≤ lo ∧ TO ≤ lo ∧ i1 ≤ lo ∧ i2 ≤ lo) (hxy : xs.size ≤ ys.size) (hn : xs.size ≤ sizeLine) (res : Value) {h₁ : Heap}
    (hR : ∀ h' tk acc c as, (∀ b o, b ≠ S → b ≠ z → b ≠ TO → b ≠ i1 → b ≠ i2 → h₁.get? b = some o → h'.get? b = some o) → h'.get? S = some { cls := .type "list", dict := none, data := .seq acc c, slots := #[] } → as.length = xs.size → ZG xs ys lo h' as →
      acc.toList = as.map Value.ref → R (.ok (.ret res)) { s with heap := h', toks := tk }) :
    ∀ (k i : Nat) (h : Heap) (tk c : Nat) (acc : Array Value) (as : List Addr), xs.size - i = k → i ≤ xs.size → Zst h z TI TO i1 i2 l1 l2 S xs ys i → (∀ b o, b ≠ S → b ≠ z → b ≠ TO → b ≠ i1 → b ≠ i2 → h₁.get? b = some o → h.get? b = some o) →
      h.get? S = some { cls := .type "list", dict := none, data := .seq acc c, slots := #[] } → acc.toList = as.map Value.ref → as.length = i → ZG xs ys lo h as → lo < h.objs.size →
      codeAny (model prog w) A (.builtin "list.extend.loop" ⟨[.ref S, .ref z, res], []⟩) R { s with heap := h, toks := tk } := by
  intro k
  induction k with
  | zero =>
    intro i h tk c acc as hk hi hst hkeep hS hacc hal hG hIs
    refine codeAny_builtin PySem.F.entry_extend_loop ?_
    rw [Around.under_plainId PySem.F.plain_extend_loop _]
    show wpAny _ A.in1 (pyNext (.ref z) >>= _) _ _ _
    refine wpAny_bind (zst_done (s := { s with heap := h, toks := tk }) (A := A.in1) hh D hst (Array.getElem?_eq_none (by omega)) fun h' he => ?_)
    refine wpAny_pure (hR h' tk acc c as (fun b o c0 c1 c2 c3 c4 e => he b o c1 c2 c3 c4 (hkeep b o c0 c1 c2 c3 c4 e)) (he S _ D.Sz D.STO D.S1 D.S2 hS) (by omega) ⟨hG.rise, hG.above, fun j a hj => ?_⟩ hacc)
    obtain ⟨x, y, e1, e2, e3⟩ := hG.pairs j a hj
    have ab := hG.above a (List.mem_of_getElem? hj)
    exact ⟨x, y, e1, e2, he a _ (ab_ne hlo.2.1 ab) (ab_ne hlo.2.2.1 ab) (ab_ne hlo.2.2.2.1 ab) (ab_ne hlo.2.2.2.2 ab) e3⟩
  | succ k ih =>
    intro i h tk c acc as hk hi hst hkeep hS hacc hal hG hIs
    have hlt : i < xs.size := by omega
    obtain ⟨x, hx⟩ : ∃ x, xs[i]? = some x := ⟨xs[i], Array.getElem?_eq_getElem hlt⟩
    obtain ⟨y, hy⟩ : ∃ y, ys[i]? = some y := ⟨ys[i]'(by omega), Array.getElem?_eq_getElem (by omega)⟩
    have hsz : acc.size = i := by rw [← Array.length_toList, hacc, List.length_map, hal]
    refine codeAny_builtin PySem.F.entry_extend_loop ?_
    rw [Around.under_plainId PySem.F.plain_extend_loop _]
    show wpAny _ A.in1 (pyNext (.ref z) >>= _) _ _ _
    refine wpAny_bind (zst_item (s := { s with heap := h, toks := tk }) D (Heap.lt_size hS) hst hx hy fun h' hst' ht hz hkp => ?_)
    dsimp only at ht hz hkp ⊢
    have hS' := hkp S _ D.Sz D.STO D.S1 D.S2 hS
    have up : ∀ b o, b ≠ S → h'.get? b = some o → (h'.update S (Obj.mapSeq (·.push (Value.ref h.objs.size)))).get? b = some o := fun b o hb e => (Heap.get?_update_other _ _ (Ne.symm hb)).trans e
    have hSl : S < h.objs.size := Heap.lt_size hS
    show wpAny _ A.in1 (updateSeq S (·.push (Value.ref h.objs.size)) >>= _) _ _ _
    refine wpAny_bind ?_
    refine wpAny_updateSeq hS' rfl (wpAny_pure ⟨plainId_quiet PySem.F.plain_extend_loop _, ih (i + 1) _ tk _ (acc.push (Value.ref h.objs.size)) (as ++ [h.objs.size]) (by omega) hlt (hst'.keep D up)
      (fun b o c0 c1 c2 c3 c4 e => up b o c0 (hkp b o c1 c2 c3 c4 (hkeep b o c0 c1 c2 c3 c4 e))) (Heap.get?_update_self _ hS' rfl) (by rw [Array.toList_push, hacc, List.map_append]; rfl) (by rw [List.length_append, hal]; rfl) ⟨?_, ?_, ?_⟩ ?_⟩) (by rw [hsz]; omega) (by show (acc.push (Value.ref h.objs.size)).size ≤ sizeLine + 1; rw [Array.size_push, hsz]; omega)
    · refine List.pairwise_append.mpr ⟨hG.rise, List.pairwise_singleton _ _, fun a ha b hb => ?_⟩
      rw [List.mem_singleton.mp hb]
      exact hG.there ha
    · intro a ha
      rcases List.mem_append.mp ha with ha | ha
      · exact hG.above a ha
      · rw [List.mem_singleton.mp ha]; exact hIs
    · intro j b hj
      rcases Nat.lt_trichotomy j as.length with h1 | h1 | h1
      · rw [List.getElem?_append_left h1] at hj
        obtain ⟨x', y', e1, e2, e3⟩ := hG.pairs j b hj
        have hb := hG.above b (List.mem_of_getElem? hj)
        exact ⟨x', y', e1, e2, up b _ (ab_ne hlo.1 hb) (hkp b _ (ab_ne hlo.2.1 hb) (ab_ne hlo.2.2.1 hb) (ab_ne hlo.2.2.2.1 hb) (ab_ne hlo.2.2.2.2 hb) e3)⟩
      · subst h1
        have hb : h.objs.size = b := by simpa using hj
        subst hb
        exact ⟨x, y, by rw [hal]; exact hx, by rw [hal]; exact hy, up _ _ (Nat.ne_of_gt hSl) ht⟩
      · have hnone : (as ++ [h.objs.size])[j]? = none := List.getElem?_eq_none (by rw [List.length_append, List.length_singleton]; omega)
        rw [hnone] at hj; cases hj
    · have e : (h'.update S (Obj.mapSeq (·.push (Value.ref h.objs.size)))).get? h.objs.size = _ := up _ _ (Nat.ne_of_gt hSl) ht
      exact Nat.lt_trans hIs (Heap.lt_size e)
theorem zl_len_none : typeLookup (.type "zip") "__len__" = pure none := by rw [typeLookup_type, builtinLookup_eq_fast]; kernel_rfl
theorem zl_hint_none : typeLookup (.type "zip") "__length_hint__" = pure none := by rw [typeLookup_type, builtinLookup_eq_fast]; kernel_rfl
theorem zl_hint {E : Value → Shared → Prop} (hT : s.TypeIs (.ref z) "zip") {Q : Bool → Shared → Prop} (h : Q true s) : wpAny (model prog w) A (Builtin.List.listLengthHint (.ref z)) Q E s := by
  unfold Builtin.List.listLengthHint
  refine wpAny_bind (wpAny_specialOf hT zl_len_none ?_)
  wp_delta
  refine wpAny_bind (wpAny_specialOf hT zl_hint_none ?_)
  exact wpAny_pure h
theorem zl_extend (hh : A.handled = none) (D : ZSap z TI TO i1 i2 l1 l2 S) (hlo : z ≤ S ∧ TO ≤ S ∧ i1 ≤ S ∧ i2 ≤ S) (hxy : xs.size ≤ ys.size) (hn : xs.size ≤ sizeLine) (st : Zst s.heap z TI TO i1 i2 l1 l2 S xs ys 0) (hz : IsZip s.heap z TI TO .none) (res : Value) (c₀ : Nat) (hS : s.heap.get? S = some { cls := .type "list", data := .seq #[] c₀ })
    (hR : ∀ h' tk acc c as, (∀ b o, b ≠ S → b ≠ z → b ≠ TO → b ≠ i1 → b ≠ i2 → s.heap.get? b = some o → h'.get? b = some o) → h'.get? S = some { cls := .type "list", dict := none, data := .seq acc c, slots := #[] } → as.length = xs.size → ZG xs ys S h' as →
      acc.toList = as.map Value.ref → R (.ok (.ret res)) { s with heap := h', toks := tk }) :
    wpAny (model prog w) A.in1 (Builtin.List.listExtendWith (.ref S) (.ref z) res)
      (fun fin s' => match fin with | .done f => R (.ok f) s' | .again c' => c'.quiet = true ∧ codeAny (model prog w) A c' R s') (fun e s' => R (.error e) s') s := by
  have hT : s.TypeIs (.ref z) "zip" := ⟨_, hz, rfl⟩
  have key : ∀ (h : Heap) (c₁ tk : Nat), (∀ b o, b ≠ S → s.heap.get? b = some o → h.get? b = some o) →
      h.get? S = some { cls := .type "list", data := .seq #[] c₁ } → codeAny (model prog w) A (.builtin "list.extend.loop" ⟨[.ref S, .ref z, res], []⟩) R { s with heap := h, toks := tk } := by
    intro h c₁ tk hk hS₁
    exact zl_loop (s := s) (h₁ := s.heap) hh D ⟨Nat.le_refl _, hlo⟩ hxy hn res hR xs.size 0 h tk c₁ #[] [] (Nat.sub_zero _) (Nat.zero_le _) (st.keep D hk) (fun b o c0 _ _ _ _ e => hk b o c0 e) hS₁ rfl rfl
      ⟨List.Pairwise.nil, (fun _ ha => nomatch ha), (fun j a hj => by simp at hj)⟩ (Heap.lt_size hS₁)
  unfold Builtin.List.listExtendWith
  refine wpAny_bind (wpAny_typeOf (T := "zip") hT ?_)
  have h1 : Builtin.List.listSameRef (.ref S) (.ref z) = false := by simp [Builtin.List.listSameRef, D.Sz]
  have h2 : (Value.type "zip" == Value.type "list") = false := by decide
  have h3 : (Value.type "zip" == Value.type "tuple") = false := by decide
  simp only [h1, h2, h3, Bool.or_false, Bool.false_eq_true, if_false]
  refine wpAny_bind (wpAny_pyIter_zip hz ?_)
  refine wpAny_bind (wpAny_holding (zl_hint hT ?_))
  refine wpAny_ite_split (fun _ => ?_) (fun _ => wpAny_pure ⟨plainId_quiet PySem.F.plain_extend_loop _, key _ c₀ _ (fun b o _ e => e) hS⟩)
  refine wpAny_bind (wpAny_rule ?_)
  refine wpAny_bind ?_
  show wpAny _ _ (updateSeq S (·.push .none) >>= fun _ => updateSeq S (·.pop)) _ _ _
  refine wpAny_bind (wpAny_updateSeq hS rfl ?_)
  have hS₂ := Heap.get?_update_self (Obj.mapSeq (·.push Value.none)) hS rfl
  refine wpAny_updateSeq (hz := by seq_fits) hS₂ rfl ?_
  have hS₃ := Heap.get?_update_self (Obj.mapSeq (·.pop)) hS₂ rfl
  refine wpAny_pure ⟨plainId_quiet PySem.F.plain_extend_loop _, key _ _ _ (fun b o hb e => ?_) hS₃⟩
  exact (Heap.get?_update_other _ _ (Ne.symm hb)).trans ((Heap.get?_update_other _ _ (Ne.symm hb)).trans e)
theorem zl_init (hh : A.handled = none) (D : ZSap z TI TO i1 i2 l1 l2 S) (hlo : z ≤ S ∧ TO ≤ S ∧ i1 ≤ S ∧ i2 ≤ S) (hxy : xs.size ≤ ys.size) (hn : xs.size ≤ sizeLine) (st : Zst s.heap z TI TO i1 i2 l1 l2 S xs ys 0) (hz : IsZip s.heap z TI TO .none) (hS : s.heap.get? S = some { cls := .type "list", data := .seq #[] })
    (hR : ∀ h' tk acc c as, (∀ b o, b ≠ S → b ≠ z → b ≠ TO → b ≠ i1 → b ≠ i2 → s.heap.get? b = some o → h'.get? b = some o) → h'.get? S = some { cls := .type "list", dict := none, data := .seq acc c, slots := #[] } → as.length = xs.size → ZG xs ys S h' as →
      acc.toList = as.map Value.ref → R (.ok (.ret .none)) { s with heap := h', toks := tk }) :
    wpAny (model prog w) A.in1 (Builtin.«list.__init__» ⟨[.ref S, .ref z], []⟩)
      (fun fin s' => match fin with | .done f => R (.ok f) s' | .again c' => c'.quiet = true ∧ codeAny (model prog w) A c' R s') (fun e s' => R (.error e) s') s := by
  show wpAny _ _ (do let old ← Builtin.List.listItems (.ref S); Builtin.List.listUpdate (.ref S) (fun _ => #[]); letGo old.toList.reverse; Builtin.List.listExtendWith (.ref S) (.ref z) .none) _ _ s
  refine wpAny_bind ?_
  unfold Builtin.List.listItems
  refine wpAny_bind (wpAny_seqItems hS rfl (wpAny_pure ?_))
  show wpAny _ _ (updateSeq S (fun _ => #[]) >>= fun _ => letGo (#[] : Array Value).toList.reverse >>= fun _ => Builtin.List.listExtendWith (.ref S) (.ref z) .none) _ _ s
  refine wpAny_bind (wpAny_updateSeq hS rfl ?_)
  have hS₂ := Heap.get?_update_self (Obj.mapSeq (fun _ => (#[] : Array Value))) hS rfl
  have oth : ∀ b o, b ≠ S → s.heap.get? b = some o → (s.heap.update S (Obj.mapSeq (fun _ => (#[] : Array Value)))).get? b = some o :=
    fun b o hb e => (Heap.get?_update_other _ _ (Ne.symm hb)).trans e
  refine wpAny_bind (wpAny_letGo ?_)
  exact zl_extend hh D hlo hxy hn (st.keep D oth) (oth _ _ D.Sz.symm hz) .none _ hS₂ fun h' tk acc c as hk hS' hl hG hacc => hR h' tk acc c as (fun b o hb c1 c2 c3 c4 e => hk b o hb c1 c2 c3 c4 (oth b o hb e)) hS' hl hG hacc
theorem zl_call {E : Value → Shared → Prop} {Q : Value → Shared → Prop} (hh : A.handled = none) (D : ZSap z TI TO i1 i2 l1 l2 s.heap.objs.size) (hxy : xs.size ≤ ys.size) (hn : xs.size ≤ sizeLine) (st : Zst s.heap z TI TO i1 i2 l1 l2 s.heap.objs.size xs ys 0) (hz : IsZip s.heap z TI TO .none) (hlo : TO < s.heap.objs.size)
    (hQ : ∀ h' tk acc c as, (∀ b o, b ≠ z → b ≠ TO → b ≠ i1 → b ≠ i2 → s.heap.get? b = some o → h'.get? b = some o) → h'.get? s.heap.objs.size = some { cls := .type "list", dict := none, data := .seq acc c, slots := #[] } → as.length = xs.size → ZG xs ys s.heap.objs.size h' as →
      acc.toList = as.map Value.ref → Q (.ref s.heap.objs.size) { s with heap := h', toks := tk }) :
    wpAny (model prog w) A (call (.type "list") [.ref z]) Q E s := by
  refine callType_codes (Q₁ := fun obj s₁ => obj = .ref s.heap.objs.size ∧ s₁ = { s with heap := s.heap.push { cls := .type "list", data := .seq #[] } }) PySem.F.called_list (PySem.F.typeCall_list_1 _) PySem.F.entry_list_init
    (code_list_new _ ⟨rfl, rfl⟩) fun obj s₁ h₁ => ?_
  obtain ⟨rfl, rfl⟩ := h₁
  have hS : (s.heap.push { cls := .type "list", data := .seq #[] }).get? s.heap.objs.size = some { cls := .type "list", data := .seq #[] } := Heap.get?_push_size _ rfl
  have pk : ∀ b o, b ≠ s.heap.objs.size → s.heap.get? b = some o → (s.heap.push { cls := .type "list", data := .seq #[] }).get? b = some o := fun b o _ e => Heap.get?_push_of_some _ e
  have i1l : i1 < s.heap.objs.size := by obtain ⟨_, e, _⟩ := st.h1; exact Heap.lt_size e
  have i2l : i2 < s.heap.objs.size := by obtain ⟨_, e, _⟩ := st.h2; exact Heap.lt_size e
  refine ⟨⟨_, hS, rfl⟩, PySem.F.args_list_init_2 _ _, zl_init (A := A.in1) hh D ⟨Nat.le_of_lt (Heap.lt_size hz), Nat.le_of_lt hlo, Nat.le_of_lt i1l, Nat.le_of_lt i2l⟩ hxy hn (st.keep D pk) (Heap.get?_push_of_some _ hz) hS (fun h' tk acc c as hk hS' hl hG hacc => ?_)⟩
  exact ⟨rfl, hQ h' tk acc c as (fun b o c1 c2 c3 c4 e => hk b o (Nat.ne_of_lt (Heap.lt_size e)) c1 c2 c3 c4 (Heap.get?_push_of_some _ e)) hS' hl hG hacc⟩
end
end Lz


set_option Elab.async false
set_option linter.all false
set_option maxRecDepth 100000
set_option maxHeartbeats 2000000
namespace Lz
open PySem PySem.Spec PyProof.Rows L2 RZ
/-- pairs tracked at their addresses -/
def layP : List (Addr × V × V) → Hp → Hp
  | [], H => H
  | q :: r, H => layP r (upd H q.1 (.tup [q.2.1, q.2.2]))
theorem layP_off {b : Addr} : ∀ (ps : List (Addr × V × V)) (H : Hp), b ∉ ps.map (·.1) → layP ps H b = H b
  | [], _, _ => rfl
  | q :: r, H, h => by
    show layP r (upd H q.1 _) b = H b
    rw [layP_off r _ fun z => h (List.mem_cons_of_mem _ z), upd_ne fun z => h (by rw [z]; exact List.mem_cons_self ..)]
theorem layP_at : ∀ (ps : List (Addr × V × V)) (H : Hp), (ps.map (·.1)).Nodup → ∀ q ∈ ps, layP ps H q.1 = some (.tup [q.2.1, q.2.2])
  | [], _, _, _, m => by cases m
  | p :: r, H, nd, q, m => by
    have nd' := List.nodup_cons.mp nd
    rcases List.mem_cons.mp m with e | m
    · rw [e]
      show layP r (upd H p.1 _) p.1 = _
      rw [layP_off r _ nd'.1, upd_same]
    · exact layP_at r _ nd'.2 q m
theorem refs_vals : ∀ as : List Addr, Vals (as.map V.ref) (as.map Value.ref)
  | [] => .nil
  | _ :: r => .cons rfl (refs_vals r)
section
variable {X : Cx} {pins : List (Addr × Obj)} {σ : L2.St} {H : Hp} {s : Shared}
theorem zip_laid {h' : Heap} {tk c : Nat} {S : Addr} {acc : Array Value} {ps : List (Addr × V × V)} (I : Inv X pins σ H s) (hk : ∀ b o, s.heap.get? b = some o → h'.get? b = some o) (hS : h'.get? S = some { cls := .type "list", dict := none, data := .seq acc c, slots := #[] })
    (hz : s.heap.objs.size ≤ S) (hl : ps.length ≤ sizeLine) (hacc : acc.toList = (ps.map (·.1)).map Value.ref) (nd : (ps.map (·.1)).Nodup) (hSn : S ∉ ps.map (·.1)) (hf : ∀ q ∈ ps, s.heap.objs.size ≤ q.1) (hp : ∀ q ∈ ps, ∃ u v, RelV q.2.1 u ∧ RelV q.2.2 v ∧ IsPair h' q.1 u v) :
    Inv X pins σ (layP ps (upd H S (.lst ((ps.map (·.1)).map V.ref)))) { s with heap := h', toks := tk } := by
  have fresh : ∀ b, s.heap.objs.size ≤ b → H b = none := fun b e => I.hok.fresh e
  have old : ∀ b o, s.heap.get? b = some o → b ∉ ps.map (·.1) ∧ b ≠ S := fun b o e => by
    have lt := Heap.lt_size e
    refine ⟨fun m => ?_, fun q => ?_⟩
    · obtain ⟨q, hq, rfl⟩ := List.mem_map.mp m
      exact absurd lt (Nat.not_lt.mpr (hf q hq))
    · rw [q] at lt
      exact absurd lt (Nat.not_lt.mpr hz)
  have off : ∀ b, b ∉ ps.map (·.1) → b ≠ S → layP ps (upd H S (.lst ((ps.map (·.1)).map V.ref))) b = H b := fun b h1 h2 => by rw [layP_off ps _ h1, upd_ne h2]
  have kp : ∀ b u, H b = some u → layP ps (upd H S (.lst ((ps.map (·.1)).map V.ref))) b = some u := fun b u e => by
    rw [off b (fun m => ?_) (fun q => ?_)]
    · exact e
    · obtain ⟨q, hq, rfl⟩ := List.mem_map.mp m
      rw [fresh _ (hf q hq)] at e
      cases e
    · rw [q, fresh _ hz] at e
      cases e
  refine I.call' (ch := []) rfl ⟨fun b o q _ _ _ => hk b o q, fun b o q _ _ _ => ⟨o.slots, hk b o q⟩, fun b o q n _ => ?_, fun b o q _ => ⟨o, hk b o q⟩, fun b xs q => kp b _ q, fun b o u q => kp b _ q, fun b qs q => ⟨#[], by rw [kp b _ q]; simp⟩⟩ (fun b u e => ?_) I.bare fun b z => by simp at z
  · rw [off b (old b o q).1 (old b o q).2]
    exact n
  · by_cases m : b ∈ ps.map (·.1)
    · obtain ⟨q, hq, rfl⟩ := List.mem_map.mp m
      rw [layP_at ps _ nd q hq] at e
      cases e
      obtain ⟨u1, v1, r1, r2, hP⟩ := hp q hq
      exact ⟨by show 2 ≤ sizeLine; decide, [u1, v1], .cons r1 (.cons r2 .nil), ⟨_, hP, rfl, _, rfl⟩⟩
    · by_cases e2 : b = S
      · rw [e2] at e ⊢
        rw [layP_off ps _ hSn, upd_same] at e
        cases e
        refine ⟨by rw [List.length_map, List.length_map]; exact hl, acc.toList, c, by rw [hacc]; exact refs_vals _, ?_⟩
        rw [Array.toArray_toList]
        exact hS
      · rw [off b m e2] at e
        exact (I.hok b u e).stay (fun d v _ y => hk d v y) (fun d y => kp d _ y) fun d xs y => kp d _ y
def tListZip (K : PySem.W.Frag) (ta : TA) : TE := fun σ H Q => ta σ H fun vs H1 => ∃ (a b : Addr) (xs ys : List V), vs = [.ref a, .ref b] ∧ SqT K H1 a xs ∧ SqT K H1 b ys ∧ xs.length ≤ ys.length ∧
  ∀ (H' : Hp) (p : Addr) (ts : List Addr), (∀ c o, H1 c = some o → H' c = some o) → H1 p = none → H' p = some (.lst (ts.map V.ref)) → Paired (fun (t : Addr) (q : V × V) => H' t = some (.tup [q.1, q.2])) ts (xs.zip ys) → Q (.ref p) H'
theorem pe_listZip {e e2 : Expr} {ta : TA} {p p2 pos pos2 : Pos} (hc : X.calm = true) (ha : PA X [e, e2] ta) (hg : Gl X "list") (hm : X.mg "list" = none) (hgz : Gl X "zip") (hmz : X.mg "zip" = none)
    (hs : starEach [.Call (.Name "zip" p2) [e, e2] [] pos2] X.env = (false, eval (.Call (.Name "zip" p2) [e, e2] [] pos2) X.env) :: starEach [] X.env := by rfl)
    (hs2 : starEach [e, e2] X.env = (false, eval e X.env) :: starEach [e2] X.env := by rfl) (hpl : (backTo pos2 (starEach [e2] X.env)).any (·.1) = false := by rfl) :
    PE X (.Call (.Name "list" p) [.Call (.Name "zip" p2) [e, e2] [] pos2] [] pos) (tListZip X.K ta) := by
  refine ⟨fun pins s σ H Q I hq => ?_⟩
  refine wpAny_Call_Name_kw (ld_blt I hg hm (u := .type "list") (by decide +kernel) ?_)
  refine PyProof.Rows.callWith_type1 ?_ hs rfl
  rw [hs]
  show wpAny _ _ (spliced ((false, eval (.Call (.Name "zip" p2) [e, e2] [] pos2) X.env) :: backTo pos (starEach [] X.env))) _ _ s
  refine Calls.spliced_cons ?_
  refine wpAny_Call_Name_kw (ld_blt I hgz hmz PyProof.Rows.boot_zip (PyProof.Rows.callWith_type1 (thn (ha.run pos2 pins s σ H _ I hq) fun us s1 ⟨vs, H1, I1, r1, a, b, xs, ys, ev, hx, hy, hle, q⟩ => ?_) hs2 hpl))
  subst ev
  cases r1 with
  | cons ra rr =>
    cases rr with
    | cons rb rr =>
      cases rr
      cases ra
      cases rb
      obtain ⟨its, rv, p1, hz1⟩ := I1.tuple hx
      obtain ⟨its2, rv2, p3, hz2⟩ := I1.tuple hy
      obtain ⟨o1, ho1, _⟩ := id p1
      obtain ⟨o2, ho2, _⟩ := id p3
      refine call_zipT (show s1.heap.IsTuple a its.toArray from p1) (show s1.heap.IsTuple b its2.toArray from p3) fun h5 hz hTI hTO h1 h2 hsz hk => ?_
      refine Calls.spliced_nil ?_
      have la := Heap.lt_size ho1
      have lb := Heap.lt_size ho2
      have st : Zst h5 (s1.heap.objs.size + 4) (s1.heap.objs.size + 2) (s1.heap.objs.size + 3) s1.heap.objs.size (s1.heap.objs.size + 1) a b h5.objs.size its.toArray its2.toArray 0 :=
        ⟨.inl ⟨hz, _, _, hTO⟩, hTI, h1, h2, isTuple_at (show s1.heap.IsTuple a its.toArray from p1) fun o e => hk _ _ e, isTuple_at (show s1.heap.IsTuple b its2.toArray from p3) fun o e => hk _ _ e⟩
      have lens : its.length = xs.length ∧ its2.length = ys.length := ⟨rv.length.symm, rv2.length.symm⟩
      have nz : ∀ k, k < 5 → h5.objs.size ≠ s1.heap.objs.size + k := fun k hk5 e => by rw [hsz] at e; exact absurd (Nat.add_left_cancel e) (by omega)
      refine zl_call (s := { s1 with heap := h5 }) (I1.ok.hd hc) ⟨PySem.W.ktu_apart s1.heap.objs.size a b la lb, nz 4 (by omega), nz 2 (by omega), nz 3 (by omega), nz 0 (by omega), nz 1 (by omega), ?_, ?_⟩ (xs := its.toArray) (ys := its2.toArray) (by simp [lens.1, lens.2]; exact hle) ?_ st hz ?_ fun h' tk acc c as hk' hS hl hG hacc => ?_
      · exact Nat.ne_of_gt (Nat.lt_of_lt_of_le la (by show s1.heap.objs.size ≤ h5.objs.size; rw [hsz]; exact Nat.le_add_right _ _))
      · exact Nat.ne_of_gt (Nat.lt_of_lt_of_le lb (by show s1.heap.objs.size ≤ h5.objs.size; rw [hsz]; exact Nat.le_add_right _ _))
      · simp [lens.1]
        exact hz1
      · show s1.heap.objs.size + 3 < h5.objs.size
        rw [hsz]
        exact Nat.add_lt_add_left (by omega) _
      have hasl : as.length = xs.length := by rw [hl]; simp [lens.1]
      have hl2 : as.length = (xs.zip ys).length := by
        rw [hl, List.length_zip]
        simp [lens.1]
        omega
      have em : (as.zip (xs.zip ys)).map (·.1) = as := by
        rw [List.map_fst_zip]
        omega
      have lo : ∀ x ∈ as, s1.heap.objs.size ≤ x := fun x hx => Nat.le_of_lt (Nat.lt_of_le_of_lt (by show s1.heap.objs.size ≤ h5.objs.size; rw [hsz]; exact Nat.le_add_right _ _) (hG.above x hx))
      have nd : as.Nodup := List.Pairwise.imp (fun {a b} (h : a < b) => Nat.ne_of_lt h) hG.rise
      have hSn : h5.objs.size ∉ as := fun m => Nat.lt_irrefl _ (hG.above _ m)
      have hup : ∀ b' o, s1.heap.get? b' = some o → h'.get? b' = some o := fun b' o e => by
        have lt := Heap.lt_size e
        have ne : ∀ k, b' ≠ s1.heap.objs.size + k := fun k => Nat.ne_of_lt (Nat.lt_of_lt_of_le lt (Nat.le_add_right _ _))
        exact hk' b' o (ne 4) (ne 3) (ne 0) (ne 1) (hk _ _ e)
      have J := zip_laid (tk := tk) (ps := as.zip (xs.zip ys)) (S := h5.objs.size) I1 hup hS (by rw [hsz]; exact Nat.le_add_right _ _) (by rw [List.length_zip]; exact Nat.le_trans (Nat.min_le_left _ _) (by rw [hasl]; exact hz1)) (by rw [em]; exact hacc) (by rw [em]; exact nd) (by rw [em]; exact hSn)
        (fun q hq => lo q.1 (List.of_mem_zip hq).1) (fun q hq => by
          obtain ⟨j, hj⟩ := List.mem_iff_getElem?.mp hq
          obtain ⟨e1, e2⟩ := List.getElem?_zip_eq_some.mp hj
          obtain ⟨e3, e4⟩ := List.getElem?_zip_eq_some.mp e2
          obtain ⟨u, v, f1, f2, f3⟩ := hG.pairs j q.1 e1
          obtain ⟨u', g1, g2⟩ := rv.get e3
          obtain ⟨v', g3, g4⟩ := rv2.get e4
          have h1 : u' = u := by
            have : its[j]? = some u := by simpa using f1
            rw [g1] at this
            exact Option.some.inj this
          have h2 : v' = v := by
            have : its2[j]? = some v := by simpa using f2
            rw [g3] at this
            exact Option.some.inj this
          subst h1 h2
          exact ⟨u', v', g2, g4, f3⟩)
      rw [em] at J
      refine ⟨.ref h5.objs.size, _, J, rfl, ?_⟩
      have hSH : H1 h5.objs.size = none := I1.hok.fresh (by rw [hsz]; exact Nat.le_add_right _ _)
      refine q _ _ as (fun c' o e => ?_) hSH ?_ ?_
      · rw [layP_off _ _ (by rw [em]; exact fun m => by rw [I1.hok.fresh (lo c' m)] at e; cases e), upd_ne (fun q => by rw [q, hSH] at e; cases e)]
        exact e
      · rw [layP_off _ _ (by rw [em]; exact hSn), upd_same]
      · have at_ := layP_at (as.zip (xs.zip ys)) (upd H1 h5.objs.size (.lst (as.map V.ref))) (by rw [em]; exact nd)
        have key : ∀ (l : List Addr) (m : List (V × V)), l.length = m.length → (∀ q ∈ l.zip m, layP (as.zip (xs.zip ys)) (upd H1 h5.objs.size (.lst (as.map V.ref))) q.1 = some (.tup [q.2.1, q.2.2])) →
            Paired (fun (t : Addr) (q : V × V) => layP (as.zip (xs.zip ys)) (upd H1 h5.objs.size (.lst (as.map V.ref))) t = some (.tup [q.1, q.2])) l m := by
          intro l
          induction l with
          | nil =>
            intro m hlm _
            cases m with
            | nil => exact .nil
            | cons _ _ => cases hlm
          | cons t r ih =>
            intro m hlm hh
            cases m with
            | nil => cases hlm
            | cons q m => exact .cons (hh (t, q) (List.mem_cons_self ..)) (ih m (Nat.succ.inj hlm) fun z hz => hh z (List.mem_cons_of_mem _ hz))
        exact key as _ hl2 at_
end
end Lz


set_option Elab.async false
set_option linter.all false
set_option maxRecDepth 100000
set_option maxHeartbeats 4000000
namespace Kt
open PySem PySem.Spec L2 PyProof.Rows Km Ka
/-- two forms are made the same: the left leads to the right -/
def joinM (m : TM) (l r : Nat) : Option (Bool × TM × List (Nat × Nat)) := match m.forms[l]?, m.forms[r]? with
  | some fl, some fr =>
    if l < m.leads.length ∧ fl.parts.length ≤ fr.parts.length then
      if fl.kind = none ∨ fl.kind = fr.kind then
        if fl.kind = some .fn then match fl.row, fr.row with
          | some r1, some r2 => if r1 < m.n ∧ r2 < m.n ∧ m.b < 900 then some (true, { m with leads := m.leads.set l r, b := m.b + 2 }, fl.parts.zip fr.parts) else none
          | _, _ => none
        else some (true, { m with leads := m.leads.set l r }, fl.parts.zip fr.parts)
      else some (false, { m with leads := m.leads.set l r }, [])
    else none
  | _, _ => none
def fitM : Nat → TM → List (Nat × Nat) → Option (Bool × TM)
  | 0, _, _ => none
  | f + 1, m, wt => match wt.getLast? with
    | none => some (true, m)
    | some (a, b) => if 900 < wt.length then none else match leadM FU m.leads a with
      | none => none
      | some (l, ls1) => match leadM FU ls1 b with
        | none => none
        | some (r, ls2) => if l = r then fitM f { m with leads := ls2 } wt.dropLast else match m.forms[r]? with
          | none => none
          | some fr => match joinM { m with leads := ls2 } (if fr.kind = none then r else l) (if fr.kind = none then l else r) with
            | none => none
            | some (false, m', _) => some (false, m')
            | some (true, m', more) => fitM f m' (wt.dropLast ++ more)
def fitAll (m : TM) (a b : Nat) : Option (Bool × TM) := match fitM 100 m [(a, b)] with
  | none => none
  | some (false, m1) => some (false, m1)
  | some (true, m1) => match ifM m1.forms 200 [] [] [a] m1.leads with
    | none => none
    | some (fo, l1) => match ciM m1.forms fo [] l1 with
      | none => none
      | some (c, l2) => some (!c, { m1 with leads := l2 })
theorem fitM_step {f : Nat} {m m0 : TM} {wt : List (Nat × Nat)} {b0 : Bool} (h : fitM (f + 1) m wt = some (b0, m0)) :
    (wt = [] ∧ b0 = true ∧ m0 = m) ∨ ∃ wt' a b l r ls1 ls2, wt = wt' ++ [(a, b)] ∧ wt.length ≤ 900 ∧ leadM FU m.leads a = some (l, ls1) ∧ leadM FU ls1 b = some (r, ls2) ∧
      ((l = r ∧ fitM f { m with leads := ls2 } wt' = some (b0, m0)) ∨ (l ≠ r ∧ ∃ fr c m' more, m.forms[r]? = some fr ∧ joinM { m with leads := ls2 } (if fr.kind = none then r else l) (if fr.kind = none then l else r) = some (c, m', more) ∧
        ((c = false ∧ b0 = false ∧ m0 = m') ∨ (c = true ∧ fitM f m' (wt' ++ more) = some (b0, m0))))) := by
  unfold fitM at h
  cases e : wt.getLast? with
  | none =>
    rw [e] at h
    have h' := Option.some.inj h
    exact .inl ⟨List.getLast?_eq_none_iff.mp e, (congrArg Prod.fst h').symm, (congrArg Prod.snd h').symm⟩
  | some ab =>
    obtain ⟨a, b⟩ := ab
    rw [e] at h
    dsimp only at h
    by_cases c : 900 < wt.length
    · rw [if_pos c] at h; cases h
    rw [if_neg c] at h
    have ew : wt = wt.dropLast ++ [(a, b)] := by
      cases wt with
      | nil => cases e
      | cons x r =>
        have e2 := List.getLast?_eq_some_getLast (List.cons_ne_nil x r)
        rw [e2] at e
        rw [← Option.some.inj e]
        exact (List.dropLast_concat_getLast _).symm
    cases e1 : leadM FU m.leads a with
    | none => rw [e1] at h; cases h
    | some x =>
      obtain ⟨l, ls1⟩ := x
      rw [e1] at h
      dsimp only at h
      cases e2 : leadM FU ls1 b with
      | none => rw [e2] at h; cases h
      | some y =>
        obtain ⟨r, ls2⟩ := y
        rw [e2] at h
        dsimp only at h
        refine .inr ⟨_, a, b, l, r, ls1, ls2, ew, by omega, e1, e2, ?_⟩
        by_cases c1 : l = r
        · rw [if_pos c1] at h
          exact .inl ⟨c1, h⟩
        · rw [if_neg c1] at h
          refine .inr ⟨c1, ?_⟩
          cases e3 : m.forms[r]? with
          | none => rw [e3] at h; cases h
          | some fr =>
            rw [e3] at h
            dsimp only at h
            cases e4 : joinM { m with leads := ls2 } (if fr.kind = none then r else l) (if fr.kind = none then l else r) with
            | none => rw [e4] at h; cases h
            | some z =>
              obtain ⟨cc, m', more⟩ := z
              rw [e4] at h
              refine ⟨fr, cc, m', more, rfl, e4, ?_⟩
              cases cc with
              | false =>
                have h' := Option.some.inj h
                exact .inl ⟨rfl, (congrArg Prod.fst h').symm, (congrArg Prod.snd h').symm⟩
              | true => exact .inr ⟨rfl, h⟩
theorem joinM_step {m m' : TM} {l r : Nat} {c : Bool} {more : List (Nat × Nat)} (h : joinM m l r = some (c, m', more)) :
    ∃ fl fr, m.forms[l]? = some fl ∧ m.forms[r]? = some fr ∧ l < m.leads.length ∧ fl.parts.length ≤ fr.parts.length ∧
      ((c = false ∧ fl.kind ≠ none ∧ fl.kind ≠ fr.kind ∧ m' = { m with leads := m.leads.set l r }) ∨
        (c = true ∧ (fl.kind = none ∨ fl.kind = fr.kind) ∧ more = fl.parts.zip fr.parts ∧
          ((fl.kind ≠ some .fn ∧ m' = { m with leads := m.leads.set l r }) ∨ (fl.kind = some .fn ∧ ∃ r1 r2, fl.row = some r1 ∧ fr.row = some r2 ∧ r1 < m.n ∧ r2 < m.n ∧ m.b < 900 ∧ m' = { m with leads := m.leads.set l r, b := m.b + 2 })))) := by
  unfold joinM at h
  cases e1 : m.forms[l]? with
  | none => rw [e1] at h; cases h
  | some fl =>
    cases e2 : m.forms[r]? with
    | none => rw [e1, e2] at h; cases h
    | some fr =>
      rw [e1, e2] at h
      dsimp only at h
      by_cases c1 : l < m.leads.length ∧ fl.parts.length ≤ fr.parts.length
      · rw [if_pos c1] at h
        refine ⟨fl, fr, rfl, rfl, c1.1, c1.2, ?_⟩
        by_cases c2 : fl.kind = none ∨ fl.kind = fr.kind
        · rw [if_pos c2] at h
          by_cases c3 : fl.kind = some .fn
          · rw [if_pos c3] at h
            cases e3 : fl.row with
            | none => rw [e3] at h; cases h
            | some r1 =>
              cases e4 : fr.row with
              | none => rw [e3, e4] at h; cases h
              | some r2 =>
                rw [e3, e4] at h
                dsimp only at h
                by_cases c4 : r1 < m.n ∧ r2 < m.n ∧ m.b < 900
                · rw [if_pos c4] at h
                  have h' := Option.some.inj h
                  injection h' with h1 h2
                  injection h2 with h2 h3
                  exact .inr ⟨h1.symm, c2, h3.symm, .inr ⟨c3, r1, r2, rfl, rfl, c4.1, c4.2.1, c4.2.2, h2.symm⟩⟩
                · rw [if_neg c4] at h; cases h
          · rw [if_neg c3] at h
            have h' := Option.some.inj h
            injection h' with h1 h2
            injection h2 with h2 h3
            exact .inr ⟨h1.symm, c2, h3.symm, .inl ⟨c3, h2.symm⟩⟩
        · rw [if_neg c2] at h
          have h' := Option.some.inj h
          injection h' with h1 h2
          injection h2 with h2 h3
          exact .inl ⟨h1.symm, fun q => c2 (.inl q), fun q => c2 (.inr q), h2.symm⟩
      · rw [if_neg c1] at h; cases h
theorem kd_inj {a b : Option Kd} (h : kV a = kV b) : a = b := by
  cases a with
  | none => cases b with
    | none => rfl
    | some k => cases h
  | some k => cases b with
    | none => cases h
    | some k' =>
      have h' : k.str = k'.str := V.str.inj h
      cases k <;> cases k' <;> first | rfl | exact absurd h' (by decide +kernel)
theorem scal_kV (a : Option Kd) (s : Str) : scal (kV a) (.str s) = true := by cases a <;> rfl
theorem flat_kV (a : Option Kd) : flatV (kV a) = true := by cases a <;> rfl
theorem in_kinds (a b : Option Kd) : inV (kV a) [.non, kV b] = decide (a = none ∨ a = b) := by
  rcases a with _ | a <;> rcases b with _ | b
  · rfl
  · rfl
  · show (eqV .non (.str a.str) || (eqV .non (.str a.str) || false)) = _
    rw [decide_eq_false (by rintro (h | h) <;> cases h)]
    rfl
  · show (eqV .non (.str a.str) || (eqV (.str b.str) (.str a.str) || false)) = _
    show (false || ((b.str == a.str) || false)) = _
    rw [Bool.false_or, Bool.or_false]
    by_cases e : a = b
    · subst e
      rw [decide_eq_true (.inr rfl)]
      simp
    · rw [decide_eq_false (by rintro (h | h); · cases h
                              · exact e (Option.some.inj h))]
      have : ¬ b.str = a.str := fun q => e (Option.some.inj (kd_inj (a := some a) (b := some b) (congrArg V.str q.symm)))
      simpa using this
theorem pr_snoc {α β : Type} {R : α → β → Prop} : ∀ {bs : List β} {as : List α} {b : β}, Paired R as (bs ++ [b]) → ∃ as' a, as = as' ++ [a] ∧ Paired R as' bs ∧ R a b
  | [], _, b, .cons (a := a) h t => by
    cases t
    exact ⟨[], a, rfl, .nil, h⟩
  | y :: bs, _, b, .cons (a := x) h t => by
    obtain ⟨as', a, rfl, h1, h2⟩ := pr_snoc (bs := bs) t
    exact ⟨x :: as', a, rfl, .cons h h1, h2⟩
theorem pr_app {α β : Type} {R : α → β → Prop} : ∀ {as as' : List α} {bs bs' : List β}, Paired R as bs → Paired R as' bs' → Paired R (as ++ as') (bs ++ bs')
  | _, _, _, _, .nil, h => h
  | _, _, _, _, .cons h t, h' => .cons h (pr_app t h')
theorem zip_nv : ∀ (p q : List Nat), (p.map nv).zip (q.map nv) = (p.zip q).map fun z => (nv z.1, nv z.2)
  | [], _ => rfl
  | _ :: _, [] => rfl
  | x :: p, y :: q => by
    show (nv x, nv y) :: (p.map nv).zip (q.map nv) = _
    rw [zip_nv p q]
    rfl
theorem pr_map {α β γ : Type} {R : α → γ → Prop} {f : β → γ} : ∀ {as : List α} {bs : List β}, Paired R as (bs.map f) → Paired (fun a b => R a (f b)) as bs
  | _, [], .nil => .nil
  | _, _ :: _, .cons h t => .cons h (pr_map t)
theorem fitAll_step {m m' : TM} {a b : Nat} {c : Bool} (h : fitAll m a b = some (c, m')) :
    ∃ b0 m0, fitM 100 m [(a, b)] = some (b0, m0) ∧ ((b0 = false ∧ c = false ∧ m' = m0) ∨ (b0 = true ∧ ∃ fo l1 d l2, ifM m0.forms 200 [] [] [a] m0.leads = some (fo, l1) ∧ ciM m0.forms fo [] l1 = some (d, l2) ∧ c = !d ∧ m' = { m0 with leads := l2 })) := by
  unfold fitAll at h
  cases e : fitM 100 m [(a, b)] with
  | none => rw [e] at h; cases h
  | some x =>
    obtain ⟨b0, m0⟩ := x
    rw [e] at h
    cases b0 with
    | false =>
      have h' := Option.some.inj h
      exact ⟨_, _, rfl, .inl ⟨rfl, (congrArg Prod.fst h').symm, (congrArg Prod.snd h').symm⟩⟩
    | true =>
      dsimp only at h
      cases e1 : ifM m0.forms 200 [] [] [a] m0.leads with
      | none => rw [e1] at h; cases h
      | some y =>
        obtain ⟨fo, l1⟩ := y
        rw [e1] at h
        dsimp only at h
        cases e2 : ciM m0.forms fo [] l1 with
        | none => rw [e2] at h; cases h
        | some z =>
          obtain ⟨d, l2⟩ := z
          rw [e2] at h
          have h' := Option.some.inj h
          exact ⟨_, _, rfl, .inr ⟨rfl, fo, l1, d, l2, e1, e2, (congrArg Prod.fst h').symm, (congrArg Prod.snd h').symm⟩⟩
section
variable {P : Program} {w : World} {K : PySem.W.Frag} {mg : Str → Option Value} {base : Heap}
theorem TyIn.rows {C CR : Addr} {H H' : Hp} {t dx lf ll r : Addr} {vf : List V} {m : TM} {n' b' : Nat} {E E' : Nat → Nat → List Str → Prop} {FR FR' : Addr → Prop} (h : TyIn K C CR H t dx lf ll r vf m E FR) (hR : RwAt CR H' r n' NoS E' b' FR') (c : Ch FR H H') (g : ∀ a, FR' a → FR a ∨ H a = none) :
    TyIn K C CR H' t dx lf ll r vf { m with n := n', b := b' } E' FR' ∧ Mv (FTy lf ll FR) H (FTy lf ll FR') H' := by
  refine ⟨⟨c.keep _ _ h.ins h.nt, c.keep _ _ h.fo h.nf, pr_mono h.fr fun v f _ _ q => q.stay c, c.keep _ _ h.le h.nl, hR, h.ne, fun f => ?_, fun f => ?_, fun f => ?_, h.sm⟩, ⟨c.mono fun x f => .inr (.inr f), ?_⟩⟩
  · exact (g _ f).elim h.nf fun e => by rw [h.fo] at e; cases e
  · exact (g _ f).elim h.nl fun e => by rw [h.le] at e; cases e
  · exact (g _ f).elim h.nt fun e => by rw [h.ins] at e; cases e
  · rintro a (e | e | e)
    · exact .inl (.inl e)
    · exact .inl (.inr (.inl e))
    · exact (g a e).imp (fun q => .inr (.inr q)) id
def spFit (C CR : Addr) (K : PySem.W.Frag) : Sp := fun vs H Q _ => ∃ (t r : Addr) (m m' : TM) (F : Addr → Prop) (i j : Nat) (b : Bool), vs = [.ref t, nv i, nv j] ∧ TyAt K C CR H t r m F ∧ fitAll m i j = some (b, m') ∧
  TyOut K C CR H t r m' F fun H' => Q (.bl b) H'
abbrev nFit : List Str := ["self", "one", "other", "waiting", "left", "right", "kind", "inside", "row", "wanted", "inside_other", "other_row"]
theorem scFit : FnScope nFit ["self", "one", "other"] (defScope tFit) := ⟨rfl, rfl, rfl, by decide +kernel, rfl, by decide +kernel, by decide +kernel⟩
theorem pt_ci (r lf ll : Addr) : (pt r lf ll).lookup ("contains_itself" : Str) = none := pt_no _ _ _ (by decide +kernel) (by decide +kernel) (by decide +kernel)
abbrev PrA (H : Hp) (ts : List Addr) (wt : List (Nat × Nat)) : Prop := Paired (fun (t : Addr) (q : Nat × Nat) => H t = some (.tup [nv q.1, nv q.2])) ts wt
theorem ok_fit {f fL fC fS C CR : Addr} {fd fdL fdC fdS : FuncData} (F : Fun K "fit" "Types.fit" tFit f fd) (T : TTxt K mg C) (TR : Txt K mg CR) (GL : FnOk P w K mg base CX0 1 fL fdL ["self", "one"] (spLead C CR K)) (bL : Binds K fdL ["self", "one"] []) (mL : Meth K C "leader" fL)
    (GC : FnOk P w K mg base CX0 4 fC fdC ["self", "one"] (spCi C CR K)) (bC : Binds K fdC ["self", "one"] []) (mC : Meth K C "contains_itself" fC)
    (GS : FnOk P w K mg base CX0 2 fS fdS ["self", "one", "other"] (spSame CR)) (bS : Binds K fdS ["self", "one", "other"] []) (mS : Meth K CR "same" fS) : FnOk P w K mg base CX0 5 f fd ["self", "one", "other"] (spFit C CR K) := by
  refine F.ok scFit (fun vs H Q E h => ?_) (fun cdv A outer s H vs Q E hr h => ?_)
  · obtain ⟨t, r, m, m', F, i, j, b, rfl, _⟩ := h
    rfl
  · obtain ⟨t, r, m, m', F, i, j, b, rfl, hT, hfit, k⟩ := h
    have hu := hu_of hr
    have hr2 : Room 2 _ := hr.mono (by decide)
    have hr1 : Room 1 _ := hr.mono (by decide)
    refine ⟨_, pss_cons (ps_set (i := 3) scFit.nd rfl (Or.inl rfl) (pe_lst (pa_cons (pe_tup (pa_cons (pv 1) (pa_cons (pv 2) pa_nil))) pa_nil))) (pss_cons (ps_while PassesOwn.never (pt_truth (pv 3) (by intro _; rfl)) (pss_cons (ps_asg (pe_bm0 PySem.F.plainAttrs_list PySem.F.slot_list_pop PySem.F.type_list_pop mt_pop (pv 3)) (pg_tup rfl (pgs_cons (pg_name (i := 4) scFit.nd rfl (Or.inl rfl)) (pgs_cons (pg_name (i := 5) scFit.nd rfl (Or.inl rfl)) pgs_nil)))) (pss_cons (ps_par (i := 4) (j := 5) rfl scFit.nd rfl rfl (by decide) rfl rfl (pa_cons (pe_meth (pv 0) T.cl mL GL hr1 bL .nil pass0 (pa_cons (pv 4) pa_nil)) (pa_cons (pe_meth (pv 0) T.cl mL GL hr1 bL .nil pass0 (pa_cons (pv 5) pa_nil)) pa_nil)) (by rfl)) (pss_cons (ps_if (pt_cmpR op_eq (pv 4) (pv 5) (nomark _)) (pss_one ps_continue) pss_nil) (C8.pss_cut (ps_if (pt_cmpR op_isN (pe_ix ix_tup (pe_ix ix_list (pe_fld (pv 0) rfl) (pv 5) (fun _ _ => rfl)) (pe_int) (fun _ _ => rfl)) pe_non (nomark _)) (pss_one (ps_par (i := 4) (j := 5) rfl scFit.nd rfl rfl (by decide) rfl rfl (pa_cons (pv 5) (pa_cons (pv 4) pa_nil)) (by rfl))) pss_nil) (pss_cons (ps_asg (pv 5) (pg_sub (pe_fld (pv 0) rfl) (pv 4) set_list)) (pss_cons (ps_asg (pe_ix ix_list (pe_fld (pv 0) rfl) (pv 4) (fun _ _ => rfl)) (pg_tup rfl (pgs_cons (pg_name (i := 6) scFit.nd rfl (Or.inl rfl)) (pgs_cons (pg_name (i := 7) scFit.nd rfl (Or.inl rfl)) (pgs_cons (pg_name (i := 8) scFit.nd rfl (Or.inl rfl)) pgs_nil))))) (pss_cons (ps_asg (pe_ix ix_list (pe_fld (pv 0) rfl) (pv 5) (fun _ _ => rfl)) (pg_tup rfl (pgs_cons (pg_name (i := 9) scFit.nd rfl (Or.inl rfl)) (pgs_cons (pg_name (i := 10) scFit.nd rfl (Or.inl rfl)) (pgs_cons (pg_name (i := 11) scFit.nd rfl (Or.inl rfl)) pgs_nil))))) (pss_cons (ps_if (pt_cmpR op_notIn_seq (pv 6) (pe_tup (pa_cons (pe_non) (pa_cons (pv 9) pa_nil))) (by rfl)) (pss_one (ps_ret pe_bl)) pss_nil) (C8.pss_cut (ps_if (pt_cmpR op_eq (pv 6) pe_str (nomark _)) (pss_one (ps_expr (pe_meth (pe_fld (pv 0) rfl) TR.cl mS GS hr2 bS .nil pass0 (pa_cons (pv 8) (pa_cons (pv 11) pa_nil))))) pss_nil) (pss_one (ps_expr (pe_bm PySem.F.plainAttrs_list PySem.F.slot_list_extend PySem.F.type_list_extend mt_extend (pv 3) (pa_cons (Lz.pe_listZip rfl (pa_cons (pv 7) (pa_cons (pv 10) pa_nil)) (by rfl) T.lst (by rfl) T.zip) pa_nil)))))))))))))) (pss_one (ps_ret (pe_not (pe_meth (pv 0) T.cl mC GC (hr.mono (by decide)) bC .nil pass0 (pa_cons (pv 1) pa_nil)))))), ?_⟩
    obtain ⟨b0, m0, hfm, hend⟩ := fitAll_step hfit
    refine ⟨_, rfl, _, rfl, (by show 2 ≤ sizeLine; decide), fun tt htt => ?_⟩
    refine ⟨(by show 1 ≤ sizeLine; decide), fun l hl => ?_⟩
    have hlt : tt ≠ l := fun q => by rw [← q, upd_same] at hl; cases hl
    have hl0 : H l = none := by rw [upd_ne hlt.symm] at hl; exact hl
    have nFl := hT.notin hl0
    refine ⟨fun x σ H1 => ∃ (F1 : Addr → Prop) (m1 : TM) (wt : List (Nat × Nat)) (ts : List Addr) (v4 v5 v6 v7 v8 v9 v10 v11 : Option V), σ = [some (.ref t), some (nv i), some (nv j), some (.ref l), v4, v5, v6, v7, v8, v9, v10, v11] ∧ TyAt K C CR H1 t r m1 F1 ∧ Mv F H F1 H1 ∧
        H1 l = some (.lst (ts.map V.ref)) ∧ ¬ F1 l ∧ PrA H1 ts wt ∧ fitM x m1 wt = some (b0, m0),
      ⟨100, F, m, [(i, j)], [tt], none, none, none, none, none, none, none, none, rfl, (hT.new htt).new hl, (Mv.new htt).trans (.new hl), upd_same, nFl, .cons (by rw [upd_ne hlt, upd_same]) .nil, hfm⟩, ?_⟩
    rintro x σ H1 ⟨F1, m1, wt, ts, v4, v5, v6, v7, v8, v9, v10, v11, rfl, hT1, mv, hl1, nl, pr, hf⟩
    refine ⟨_, rfl, _, .inl ⟨_, SqL.of hl1, rfl⟩, ?_⟩
    cases x with
    | zero => cases hf
    | succ x =>
      rcases fitM_step hf with ⟨rfl, rfl, rfl⟩ | ⟨wt', a, b', l', r', ls1, ls2, rfl, hz, e1, e2, hc⟩
      · cases pr
        refine iteF ?_
        rcases hend with ⟨h, _⟩ | ⟨_, fo, l1, d, l2, h1, h2, rfl, rfl⟩
        · cases h
        · obtain ⟨dx1, lf1, ll1, i1⟩ := hT1.ins
          refine ⟨_, rfl, t, dx1, _, rfl, i1, pt_ci _ _ _, _, rfl, ?_⟩
          exact ⟨t, r, m0, F1, i, 200, fo, l1, l2, d, rfl, hT1, h1, h2, fun H' F' hT' mv' => ⟨_, rfl, k _ _ hT' (mv.trans mv')⟩⟩
      · obtain ⟨ts', tp, rfl, pr', htp⟩ := pr_snoc pr
        rw [List.length_append] at hz
        have lts := pr'.length
        rw [show (!((ts' ++ [tp]).map V.ref).isEmpty) = true by rw [List.map_append]; simp]
        refine iteT ?_
        refine ⟨fun σ' H' => ∃ m', m' < x + 1 ∧ ∃ (F1 : Addr → Prop) (m1 : TM) (wt : List (Nat × Nat)) (ts : List Addr) (v4 v5 v6 v7 v8 v9 v10 v11 : Option V), σ' = [some (.ref t), some (nv i), some (nv j), some (.ref l), v4, v5, v6, v7, v8, v9, v10, v11] ∧ TyAt K C CR H' t r m1 F1 ∧ Mv F H F1 H' ∧
          H' l = some (.lst (ts.map V.ref)) ∧ ¬ F1 l ∧ PrA H' ts wt ∧ fitM m' m1 wt = some (b0, m0), fun _ _ h => h, ?_⟩
        have edl : ((ts' ++ [tp]).map V.ref).dropLast = ts'.map V.ref := by
          rw [List.map_append]
          exact List.dropLast_concat
        have elast : ((ts' ++ [tp]).map V.ref)[((ts' ++ [tp]).map V.ref).length - 1]? = some (V.ref tp) := by
          rw [List.map_append, List.length_append]
          simp
        refine ⟨_, rfl, .inl ⟨rfl, _, SqL.of hl1⟩, l, _, _, rfl, rfl, hl1, elast, ?_⟩
        rw [edl]
        have c2 : Ch (fun a => a = l) H1 (upd H1 l (.lst (ts'.map V.ref))) := ch_at hl1 lstTup rfl
        have mv2 := mv.own (o := .lst (ts'.map V.ref)) hl0 hl1 lstTup
        have hT2 := hT1.own (o := .lst (ts'.map V.ref)) nl hl1 lstTup lstIns
        have hl2 : (upd H1 l (.lst (ts'.map V.ref))) l = some (.lst (ts'.map V.ref)) := upd_same
        have pr2 : PrA (upd H1 l (.lst (ts'.map V.ref))) ts' wt' := pr_mono pr' fun a b _ _ q => c2.tup _ _ q
        have htp2 := c2.tup _ _ htp
        generalize upd H1 l (.lst (ts'.map V.ref)) = H2 at mv2 hT2 hl2 pr2 htp2
        clear c2
        refine ⟨tp, _, rfl, SqT.of htp2, rfl, _, _, rfl, _, _, rfl, rfl, ?_⟩
        obtain ⟨dx2, lf2, ll2, i2⟩ := hT2.ins
        refine ⟨_, rfl, t, dx2, _, rfl, i2, pt_leader _ _ _, _, rfl, ?_⟩
        refine ⟨t, r, _, F1, FU, a, l', ls1, rfl, hT2, e1, fun H3 F3 hT3 mv3 => ?_⟩
        obtain ⟨dx3, lf3, ll3, i3⟩ := hT3.ins
        refine ⟨_, rfl, t, dx3, _, rfl, i3, pt_leader _ _ _, _, rfl, ?_⟩
        refine ⟨t, r, _, F3, FU, b', r', ls2, rfl, hT3, e2, fun H4 F4 hT4 mv4 => ?_⟩
        have mv34 := mv3.trans mv4
        have mv4' := mv2.trans mv34
        have hl4 := mv34.keep hl2 nl
        have nl4 := mv34.out hl2 nl
        have pr4 : PrA H4 ts' wt' := pr_mono pr2 fun a b _ _ q => mv34.tup q
        refine ⟨_, _, rfl, ?_⟩
        refine ⟨_, rfl, _, rfl, rfl, _, rfl, ?_⟩
        rcases hc with ⟨rfl, hf'⟩ | ⟨hne, fr, cc, m2, more, hfr, hj, hcc⟩
        · refine ite2 (fun _ => ?_) (fun h => absurd (decide_eq_true rfl) h)
          exact ⟨x, Nat.lt_succ_self _, F4, _, wt', ts', _, _, _, _, _, _, _, _, rfl, hT4, mv4', hl4, nl4, pr4, hf'⟩
        · refine ite2 (fun h => absurd (of_decide_eq_true h) (nv_ne.mpr hne)) (fun _ => ?_)
          obtain ⟨dx, lf, ll, vf, E', FR, hi, rfl⟩ := hT4
          have hfr' : m1.forms[r']? = some fr := hfr
          obtain ⟨vr, hvr, tr, ur, rfl, htr, hur⟩ := pr_get' hi.fr hfr'
          refine ⟨fun σ' H' => σ' = [some (.ref t), some (nv i), some (nv j), some (.ref l), some (nv (if fr.kind = none then r' else l')), some (nv (if fr.kind = none then l' else r')), v6, v7, v8, v9, v10, v11] ∧ H' = H4, ?_, ?_⟩
          · refine ⟨_, rfl, t, C, dx, _, _, rfl, hi.ins, T.cl, T.nF, pt_forms _ _ _, _, rfl, lf, _, _, _, rfl, rfl, SqL.of hi.fo, atI_nat hvr, tr, _, 0, _, rfl, rfl, SqT.of htr, rfl, rfl, _, rfl, ?_⟩
            by_cases ek : fr.kind = none
            · rw [if_pos ek, if_pos ek, ek]
              refine ite2 (fun _ => ?_) (fun h => absurd (decide_eq_true (rfl : V.non = V.non)) h)
              exact ⟨_, rfl, _, rfl, _, _, rfl, rfl, rfl⟩
            · rw [if_neg ek, if_neg ek]
              refine ite2 (fun h => absurd (kd_inj (a := fr.kind) (b := none) (of_decide_eq_true h)) ek) (fun _ => ?_)
              exact ⟨rfl, rfl⟩
          · rintro σ' H' ⟨rfl, rfl⟩
            generalize (if fr.kind = none then r' else l') = L at hj
            generalize (if fr.kind = none then l' else r') = R at hj
            obtain ⟨fl, fR, g1, g2, hLl, hpl, hjc⟩ := joinM_step hj
            have g1' : m1.forms[L]? = some fl := g1
            have g2' : m1.forms[R]? = some fR := g2
            obtain ⟨vL, hvL, tL, uL, rfl, htL, huL⟩ := pr_get' hi.fr g1'
            obtain ⟨vR, hvR, tR, uR, rfl, htR, huR⟩ := pr_get' hi.fr g2'
            have hLix : ls2[L]? = some ls2[L] := List.getElem?_eq_getElem hLl
            refine ⟨_, rfl, _, rfl, t, C, dx, _, _, rfl, hi.ins, T.cl, T.nL, pt_leads _ _ _, _, rfl, ll, _, _, L, rfl, rfl, hi.le, (by rw [List.length_map]; exact ix_nv hLix), ?_⟩
            have hi5 := hi.lead (ls := ls2.set L R)
            have mv5 : Mv (FTy lf ll FR) H' (FTy lf ll FR) (upd H' ll (.lst ((ls2.set L R).map nv))) := .at_ hi.le lstTup (.inr (.inl rfl))
            rw [show ((ls2.map nv).set L (nv R)) = (ls2.set L R).map nv by rw [List.map_set]]
            have htL5 := mv5.tup htL
            have htR5 := mv5.tup htR
            have huL5 := huL.stay mv5.ch
            have huR5 := huR.stay mv5.ch
            have hl5 := mv5.keep hl4 nl4
            have pr5 : PrA (upd H' ll (.lst ((ls2.set L R).map nv))) ts' wt' := pr_mono pr4 fun a b _ _ q => mv5.tup q
            have mv5' := mv4'.trans mv5
            generalize upd H' ll (.lst ((ls2.set L R).map nv)) = H5 at hi5 mv5 htL5 htR5 huL5 huR5 hl5 pr5 mv5'
            refine ⟨_, rfl, t, C, dx, _, _, rfl, hi5.ins, T.cl, T.nF, pt_forms _ _ _, _, rfl, lf, _, _, _, rfl, rfl, SqL.of hi5.fo, atI_nat hvL, tL, _, rfl, SqT.of htL5, rfl, _, _, rfl, _, _, rfl, _, _, rfl, rfl, ?_⟩
            refine ⟨_, rfl, t, C, dx, _, _, rfl, hi5.ins, T.cl, T.nF, pt_forms _ _ _, _, rfl, lf, _, _, _, rfl, rfl, SqL.of hi5.fo, atI_nat hvR, tR, _, rfl, SqT.of htR5, rfl, _, _, rfl, _, _, rfl, _, _, rfl, rfl, ?_⟩
            refine ⟨_, rfl, _, rfl, (by show 2 ≤ sizeLine; decide), fun p hp => ?_⟩
            refine ⟨p, _, rfl, .inr (SqT.of upd_same), flat_kV _, (by show (flatV .non && (flatV (kV fR.kind) && true)) = true; rw [flat_kV]; rfl), _, rfl, ?_⟩
            rw [in_kinds]
            have hi6 := hi5.stay (F' := F0) (ch_new (o := .tup [.non, kV fR.kind]) hp) (fun _ _ f => f) fun f => f
            have mv6 := mv5'.trans (.new (o := .tup [.non, kV fR.kind]) hp)
            have hl6 : (upd H5 p (.tup [.non, kV fR.kind])) l = some (.lst (ts'.map V.ref)) := by rw [upd_ne (ne_of_none hl5 hp)]; exact hl5
            have mvp : Mv (FTy lf ll FR) H5 (FTy lf ll FR) (upd H5 p (.tup [.non, kV fR.kind])) := .new hp
            have huL6 := huL5.stay mvp.ch
            have huR6 := huR5.stay mvp.ch
            have pr6 : PrA (upd H5 p (.tup [.non, kV fR.kind])) ts' wt' := pr_mono pr5 fun a b _ _ q => mvp.tup q
            generalize upd H5 p (.tup [.non, kV fR.kind]) = H6 at hi6 mv6 hl6 huL6 huR6 pr6
            rcases hjc with ⟨rfl, k1, k2, rfl⟩ | ⟨rfl, k1, rfl, k2⟩
            · rw [decide_eq_false (by rintro (h | h); · exact k1 h
                                      · exact k2 h)]
              refine iteT ?_
              rcases hcc with ⟨_, rfl, rfl⟩ | ⟨h, _⟩
              · rcases hend with ⟨_, rfl, rfl⟩ | ⟨h, _⟩
                · exact k _ _ ⟨dx, lf, ll, vf, E', FR, hi6, rfl⟩ mv6
                · cases h
              · cases h
            · rw [decide_eq_true k1]
              refine iteF ?_
              rcases hcc with ⟨h, _⟩ | ⟨_, hf'⟩
              · cases h
              refine ⟨fun σ' H7 => σ' = [some (.ref t), some (nv i), some (nv j), some (.ref l), some (nv L), some (nv R), some (kV fl.kind), some (.ref uL), some (rV fl.row), some (kV fR.kind), some (.ref uR), some (rV fR.row)] ∧ ∃ F7, TyAt K C CR H7 t r m2 F7 ∧ Mv F H F7 H7 ∧ H7 l = some (.lst (ts'.map V.ref)) ∧ ¬ F7 l ∧
                PrA H7 ts' wt' ∧ TupA K H7 uL (fl.parts.map nv) ∧ TupA K H7 uR (fR.parts.map nv), ?_, ?_⟩
              · refine ⟨_, rfl, scal_kV _ _, _, rfl, ?_⟩
                rcases k2 with ⟨k3, rfl⟩ | ⟨k3, r1, r2, k4, k5, k6, k7, k8, rfl⟩
                · refine ite2 (fun h => absurd (kd_inj (a := fl.kind) (b := some .fn) (of_decide_eq_true h)) k3) (fun _ => ?_)
                  exact ⟨rfl, _, ⟨dx, lf, ll, vf, E', FR, hi6, rfl⟩, mv6, hl6, nl4, pr6, huL6, huR6⟩
                · refine ite2 (fun _ => ?_) (fun h => absurd (decide_eq_true (by rw [k3]; rfl)) h)
                  obtain ⟨dxr, lr, dr, insr⟩ := hi6.rw_.ins
                  refine ⟨_, rfl, t, C, dx, _, _, rfl, hi6.ins, T.cl, T.nR, pt_rows _ _ _, r, dxr, _, rfl, insr, pf_no _ _ (by decide +kernel) (by decide +kernel), _, rfl, _, rfl, ?_⟩
                  refine ⟨r, m1.n, NoS, E', m1.b, FR, r1, r2, by rw [k4, k5]; rfl, hi6.rw_, k8, k6, k7, fun H7 FR7 hR7 c7 g7 => ?_⟩
                  obtain ⟨hi7, mv7⟩ := hi6.rows hR7 c7 g7
                  refine ⟨rfl, _, ⟨dx, lf, ll, vf, _, FR7, hi7, rfl⟩, mv6.trans mv7, mv7.keep hl6 nl4, mv7.out hl6 nl4, pr_mono pr6 fun a b _ _ q => mv7.tup q, huL6.stay mv7.ch, huR6.stay mv7.ch⟩
              · rintro σ' H7 ⟨rfl, F7, hT7, mv7, hl7, nl7, pr7, huL7, huR7⟩
                refine ⟨_, rfl, .inl ⟨rfl, _, SqL.of hl7⟩, _, rfl, _, rfl, uL, uR, _, _, rfl, huL7.sq, huR7.sq, (by rw [List.length_map, List.length_map]; exact hpl), fun H8 p8 tz keep8 hp8 hp8' prz => ?_⟩
                have s8 : Same H7 H8 := fun b o e => keep8 b o e
                have hl8 := s8 _ _ hl7
                have hT8 : TyAt K C CR H8 t r m2 F7 := hT7.stay (F' := F0) (ch_of_same s8) (fun _ _ f => f) fun f => f
                have mv8 : Mv F H F7 H8 := mv7.trans ⟨ch_of_same s8, fun _ f => .inl f⟩
                rw [zip_nv] at prz
                have prz' : PrA H8 tz (fl.parts.zip fR.parts) := pr_map (R := fun (t : Addr) (q : V × V) => H8 t = some (.tup [q.1, q.2])) (f := fun (z : Nat × Nat) => (nv z.1, nv z.2)) prz
                have h2 : fl.parts.length ≤ 2 := hi.sm _ (List.mem_of_getElem? g1')
                have hzl : (fl.parts.zip fR.parts).length ≤ 2 := by
                  rw [List.length_zip]
                  exact Nat.le_trans (Nat.min_le_left _ _) h2
                have hzt := prz'.length
                refine ⟨l, p8, _, _, rfl, rfl, hl8, hp8', (by rw [List.length_map, List.length_map]; exact Nat.le_of_lt (small1000 (by omega))), ?_⟩
                have c9 : Ch (fun a => a = l) H8 (upd H8 l (.lst (ts'.map V.ref ++ tz.map V.ref))) := ch_at hl8 lstTup rfl
                refine ⟨x, Nat.lt_succ_self _, F7, m2, wt' ++ fl.parts.zip fR.parts, ts' ++ tz, _, _, _, _, _, _, _, _, rfl, hT8.own nl7 hl8 lstTup lstIns, mv8.own hl0 hl8 lstTup, ?_, nl7, ?_, hf'⟩
                · rw [upd_same, List.map_append]
                · exact pr_app (pr_mono pr7 fun a b _ _ q => c9.tup _ _ (s8 _ _ q)) (pr_mono prz' fun a b _ _ q => c9.tup _ _ q)
end
end Kt


set_option Elab.async false
set_option linter.all false
set_option maxRecDepth 100000
set_option maxHeartbeats 4000000
namespace Kt
open PySem PySem.Spec L2 PyProof.Rows Km Ka
inductive EX where
  | num (n : Int)
  | name (x : Str)
  | fn (x : Str) (b : EX)
  | call (f a : EX)
  | lt (x : Str) (b e : EX)
  | pair (a b : EX)
  | fst (e : EX)
  | not (e : EX)
inductive Rs (α : Type) where
  | bad
  | big
  | ok (a : α)
def Rs.bind {α β : Type} : Rs α → (α → Rs β) → Rs β
  | .bad, _ => .bad
  | .big, _ => .big
  | .ok a, f => f a
structure MS where
  tm : TM
  fd : List (Option Nat)
  ak : List Nat
abbrev Env0 := List (Str × Nat)
def envGet : Env0 → Str → Option Nat
  | [], _ => none
  | (y, v) :: r, x => if y = x then some v else envGet r x
/-- {**names, x: v}: in its place, or at the end -/
def envPut (l : Env0) (x : Str) (v : Nat) : Env0 := if (l.any fun p => decide (p.1 = x)) = true then l.map (fun p => if p.1 = x then (p.1, v) else p) else l ++ [(x, v)]
/-- a new type -/
def mkM (s : MS) (fm : Fm) : Rs (Nat × MS) := if s.tm.forms.length < 900 ∧ s.tm.leads.length < 900 then .ok (s.tm.leads.length, { s with tm := madeM s.tm fm }) else .bad
def freshM (s : MS) : Rs (Nat × MS) := if s.tm.n < 99 then .ok (s.tm.n, { s with tm := { s.tm with n := s.tm.n + 1 } }) else .bad
def flowM (s : MS) (i j : Nat) : Rs MS := if s.tm.b < 899 ∧ i < s.tm.n ∧ j < s.tm.n then .ok { s with tm := { s.tm with b := s.tm.b + 1 } } else .bad
def foundM (s : MS) (k : Nat) : Rs Nat := match s.fd[k]? with
  | some (some t) => .ok t
  | _ => .bad
def wfitM (s : MS) (k w : Nat) : Rs MS := (foundM s k).bind fun t => match fitAll s.tm t w with
  | some (true, m') => .ok { s with tm := m' }
  | _ => .bad
def maxL : List Nat → Nat
  | [] => 0
  | x :: r => Nat.max x (maxL r)
def limitM (s : MS) (ts : List Nat) : Rs MS := match szAll s.tm.forms ts s.tm.leads with
  | none => .bad
  | some (zs, ls) => if zs = [] then .bad else if 1000 < maxL zs then .big else .ok { s with tm := { s.tm with leads := ls } }
def isOk {α : Type} : Rs α → Rs α
  | .big => .bad
  | r => r
def intoM (go : MS → EX → Env0 → Rs (Nat × MS)) (s : MS) (e : EX) (names : Env0) (row : Nat) : Rs (Nat × MS) :=
  (go s e names).bind fun p => match p.2.ak[p.1]? with
    | none => .bad
    | some a => (flowM p.2 a row).bind fun s'' => .ok (p.1, s'')
def ruleM (go : MS → EX → Env0 → Rs (Nat × MS)) (s : MS) (names : Env0) (row : Nat) : EX → Rs (Nat × MS)
  | .num _ => mkM s ⟨some .int, [], none⟩
  | .name x => match envGet names x with
    | none => .bad
    | some t => .ok (t, s)
  | .fn x b => (mkM s undM).bind fun p3 => (freshM p3.2).bind fun p4 => (intoM go p4.2 b (envPut names x p3.1) p4.1).bind fun p5 => (foundM p5.2 p5.1).bind fun tb => mkM p5.2 ⟨some .fn, [p3.1, tb], some p4.1⟩
  | .call fe ae => (intoM go s fe names row).bind fun p3 => (intoM go p3.2 ae names row).bind fun p4 => (mkM p4.2 undM).bind fun p5 => (freshM p5.2).bind fun p6 =>
      (foundM p6.2 p4.1).bind fun ta => (mkM p6.2 ⟨some .fn, [ta, p5.1], some p6.1⟩).bind fun p7 => (wfitM p7.2 p3.1 p7.1).bind fun s8 => (flowM s8 p6.1 row).bind fun s9 => .ok (p5.1, s9)
  | .lt x b e => (intoM go s b names row).bind fun p3 => (foundM p3.2 p3.1).bind fun t1 => (intoM go p3.2 e (envPut names x t1) row).bind fun p4 => (foundM p4.2 p4.1).bind fun t2 => .ok (t2, p4.2)
  | .pair a b => (isOk (intoM go s a names row)).bind fun p3 => (isOk (intoM go p3.2 b names row)).bind fun p4 => (foundM p4.2 p3.1).bind fun t1 => (foundM p4.2 p4.1).bind fun t2 => mkM p4.2 ⟨some .pair, [t1, t2], none⟩
  | .fst e => (intoM go s e names row).bind fun p3 => (mkM p3.2 undM).bind fun p4 => (mkM p4.2 undM).bind fun p5 => (mkM p5.2 ⟨some .pair, [p4.1, p5.1], none⟩).bind fun p6 => (wfitM p6.2 p3.1 p6.1).bind fun s7 => .ok (p4.1, s7)
  | .not e => (intoM go s e names row).bind fun p3 => (mkM p3.2 ⟨some .bool, [], none⟩).bind fun p4 => (wfitM p4.2 p3.1 p4.1).bind fun s5 => mkM s5 ⟨some .bool, [], none⟩
def goM : Nat → MS → EX → Env0 → Rs (Nat × MS)
  | 0, _, _, _ => .bad
  | f + 1, s, e, names =>
    if 900 < s.fd.length ∨ 900 < s.ak.length ∨ s.fd.length ≠ s.ak.length ∨ 90 < names.length ∨ 98 < s.tm.n then .bad else
    (ruleM (goM f) ⟨{ s.tm with n := s.tm.n + 1 }, s.fd ++ [none], s.ak ++ [s.tm.n]⟩ names s.tm.n e).bind fun p3 =>
    if s.fd.length < p3.2.fd.length ∧ p3.2.ak[s.fd.length]? = some s.tm.n then (limitM { p3.2 with fd := p3.2.fd.set s.fd.length (some p3.1) } [p3.1]).bind fun s4 => .ok (s.fd.length, s4) else .bad
def allSome : List (Option Nat) → Option (List Nat)
  | [] => some []
  | none :: _ => none
  | some x :: r => (allSome r).map (x :: ·)
/-- the type of the whole -/
def inferM (e : EX) : Rs RT := (goM 24 ⟨⟨[], [], 0, 0⟩, [], []⟩ e []).bind fun p => match allSome p.2.fd with
  | none => .bad
  | some ts => (limitM p.2 ts).bind fun s2 => if s2.tm.n ≤ 100 ∧ s2.tm.b ≤ 900 ∧ s2.ak.length ≤ 900 ∧ s2.ak.all (fun a => decide (a < s2.tm.n)) = true then match rsAll s2.tm.forms (List.replicate s2.tm.n []) ts s2.tm.leads with
    | some (z :: _, _) => .ok z
    | _ => .bad
    else .bad
def vS (k : Nat) : Str := Str.ofString "v" ++ Str.ofString (toString (k : Int))
def chainB (depth : Nat) (last : EX) : Nat → EX
  | 0 => last
  | k + 1 => .lt (vS (depth - k)) (.pair (.name (vS (depth - k - 1))) (.name (vS (depth - k - 1)))) (chainB depth last k)
def chainM (v : EX) (depth : Nat) (last : EX) : EX := .lt (vS 0) v (chainB depth last depth)
def valM : Nat → EX
  | 0 => .num 1
  | 1 => .fn "x" (.not (.name "x"))
  | _ => .pair (.num 1) (.num 2)
def knownM : Nat → RT
  | 0 => .leaf .int
  | 1 => .fn (.leaf .bool) [] (.leaf .bool)
  | _ => .pair (.leaf .int) (.leaf .int)
def dueM (k : RT) : Nat → RT
  | 0 => k
  | n + 1 => dueM (.pair k k) n
def rtEq : RT → RT → Bool
  | .leaf a, .leaf b => decide (a = b)
  | .pair a b, .pair c d => rtEq a c && rtEq b d
  | .fn a r b, .fn c r' d => rtEq a c && decide (r = r') && rtEq b d
  | _, _ => false
def sizeM : RT → Nat
  | .leaf _ => 1
  | .pair a _ => 1 + 2 * sizeM a
  | .fn a _ b => 1 + sizeM a + sizeM b
def grow (z : Nat) : Nat → Nat
  | 0 => z
  | n + 1 => grow (2 * z + 1) n
def ok1 (depth kind : Nat) : Bool := match inferM (chainM (valM kind) depth (.name (vS depth))) with
  | .bad => false
  | .big => decide (1000 < grow (sizeM (knownM kind)) depth)
  | .ok z => decide (grow (sizeM (knownM kind)) depth ≤ 1000) && rtEq z (dueM (knownM kind) depth)
def calledM (depth kind inner : Nat) : EX := .call (.fn "y" (.lt "u" (chainM (.name "y") depth (.fst (.name (vS depth)))) (.num 3))) (chainM (valM kind) inner (.name (vS 1)))
def ok2 (depth kind inner : Nat) : Bool := match inferM (calledM depth kind inner) with
  | .bad => false
  | .big => decide (1000 < grow (2 * sizeM (knownM kind) + 1) depth)
  | .ok z => decide (grow (2 * sizeM (knownM kind) + 1) depth ≤ 1000) && rtEq z (.leaf .int)
end Kt


set_option Elab.async false
set_option linter.all false
set_option maxRecDepth 100000
set_option maxHeartbeats 4000000
namespace Kt
open PySem PySem.Spec L2 PyProof.Rows Km Ka
/-! ### Work -/
def pw (r t dg da lo la : Addr) : List (Str × V) := putF "asked" (.ref la) (putF "found" (.ref lo) (putF "answered" (.ref da) (putF "given" (.ref dg) (putF "types" (.ref t) (putF "rows" (.ref r) [])))))
theorem pw_asked (r t dg da lo la : Addr) : (pw r t dg da lo la).lookup ("asked" : Str) = some (.ref la) := by
  unfold pw
  rw [lookup_putF, if_pos rfl]
theorem pw_found (r t dg da lo la : Addr) : (pw r t dg da lo la).lookup ("found" : Str) = some (.ref lo) := by
  unfold pw
  rw [lookup_putF, if_neg (by decide +kernel), lookup_putF, if_pos rfl]
theorem pw_types (r t dg da lo la : Addr) : (pw r t dg da lo la).lookup ("types" : Str) = some (.ref t) := by
  unfold pw
  rw [lookup_putF, if_neg (by decide +kernel), lookup_putF, if_neg (by decide +kernel), lookup_putF, if_neg (by decide +kernel), lookup_putF, if_neg (by decide +kernel), lookup_putF, if_pos rfl]
theorem pw_rows (r t dg da lo la : Addr) : (pw r t dg da lo la).lookup ("rows" : Str) = some (.ref r) := by
  unfold pw
  rw [lookup_putF, if_neg (by decide +kernel), lookup_putF, if_neg (by decide +kernel), lookup_putF, if_neg (by decide +kernel), lookup_putF, if_neg (by decide +kernel), lookup_putF, if_neg (by decide +kernel), lookup_putF, if_pos rfl]
theorem pw_no (r t dg da lo la : Addr) {m : Str} (h1 : ¬ m = "asked") (h2 : ¬ m = "found") (h3 : ¬ m = "answered") (h4 : ¬ m = "given") (h5 : ¬ m = "types") (h6 : ¬ m = "rows") : (pw r t dg da lo la).lookup m = none := by
  unfold pw
  rw [lookup_putF, if_neg h1, lookup_putF, if_neg h2, lookup_putF, if_neg h3, lookup_putF, if_neg h4, lookup_putF, if_neg h5, lookup_putF, if_neg h6]
  all_goals rfl
structure WkIn (K : PySem.W.Frag) (CW C CR : Addr) (H : Hp) (w dx r t dg da lo la : Addr) (s : MS) (FT : Addr → Prop) : Prop where
  ins : H w = some (.ins CW dx (pw r t dg da lo la))
  fo : H lo = some (.lst (s.fd.map rV))
  ak : H la = some (.lst (s.ak.map nv))
  ty : TyAt K C CR H t r s.tm FT
  ne : lo ≠ la
  nf : ¬ FT lo
  na : ¬ FT la
  nw : ¬ FT w
abbrev FWk (lo la : Addr) (FT : Addr → Prop) : Addr → Prop := fun a => a = lo ∨ a = la ∨ FT a
def WkAt (K : PySem.W.Frag) (CW C CR : Addr) (H : Hp) (w : Addr) (s : MS) (F : Addr → Prop) : Prop := ∃ dx r t dg da lo la FT, WkIn K CW C CR H w dx r t dg da lo la s FT ∧ F = FWk lo la FT
section
variable {K : PySem.W.Frag} {CW C CR : Addr} {H H' : Hp} {w dx r t dg da lo la : Addr} {s : MS} {F F' FT FT' : Addr → Prop}
theorem WkIn.wf (h : WkIn K CW C CR H w dx r t dg da lo la s FT) : w ≠ lo := ne_of h.ins h.fo (by intro z; cases z)
theorem WkIn.wa (h : WkIn K CW C CR H w dx r t dg da lo la s FT) : w ≠ la := ne_of h.ins h.ak (by intro z; cases z)
theorem WkIn.off (h : WkIn K CW C CR H w dx r t dg da lo la s FT) : ¬ FWk lo la FT w := fun q => q.elim h.wf fun q => q.elim h.wa h.nw
theorem WkIn.tracked (h : WkIn K CW C CR H w dx r t dg da lo la s FT) {a : Addr} (q : FWk lo la FT a) : ∃ o, H a = some o ∧ ∀ xs, o ≠ HO.tup xs := by
  rcases q with e | e | e
  · exact ⟨_, by rw [e]; exact h.fo, lstTup⟩
  · exact ⟨_, by rw [e]; exact h.ak, lstTup⟩
  · exact h.ty.tracked e
theorem WkIn.insT (h : WkIn K CW C CR H w dx r t dg da lo la s FT) : ∃ dxt lf ll, H t = some (.ins C dxt (pt r lf ll)) := h.ty.ins
theorem WkIn.tlo (h : WkIn K CW C CR H w dx r t dg da lo la s FT) : t ≠ lo := by
  obtain ⟨_, _, _, i⟩ := h.insT
  exact ne_of i h.fo (by intro z; cases z)
theorem WkIn.tla (h : WkIn K CW C CR H w dx r t dg da lo la s FT) : t ≠ la := by
  obtain ⟨_, _, _, i⟩ := h.insT
  exact ne_of i h.ak (by intro z; cases z)
theorem WkIn.stay (h : WkIn K CW C CR H w dx r t dg da lo la s FT) (k : Ch F' H H') (d : ∀ a, FWk lo la FT a → ¬ F' a) (dw : ¬ F' w) (dt : ¬ F' t) : WkIn K CW C CR H' w dx r t dg da lo la s FT where
  ins := k.keep _ _ h.ins dw
  fo := k.keep _ _ h.fo (d _ (.inl rfl))
  ak := k.keep _ _ h.ak (d _ (.inr (.inl rfl)))
  ty := h.ty.stay k (fun a f => d a (.inr (.inr f))) dt
  ne := h.ne
  nf := h.nf
  na := h.na
  nw := h.nw
theorem WkAt.same (h : WkAt K CW C CR H w s F) (k : Same H H') : WkAt K CW C CR H' w s F := by
  obtain ⟨dx, r, t, dg, da, lo, la, FT, hi, rfl⟩ := h
  exact ⟨dx, r, t, dg, da, lo, la, FT, hi.stay (F' := F0) (ch_of_same k) (fun _ _ f => f) (fun f => f) (fun f => f), rfl⟩
theorem WkAt.new (h : WkAt K CW C CR H w s F) {p : Addr} {o : HO} (n : H p = none) : WkAt K CW C CR (upd H p o) w s F := h.same (same_new n)
theorem WkAt.notin (h : WkAt K CW C CR H w s F) {a : Addr} (n : H a = none) : ¬ F a := fun f => by
  obtain ⟨dx, r, t, dg, da, lo, la, FT, hi, rfl⟩ := h
  obtain ⟨o, e, _⟩ := hi.tracked f
  rw [n] at e
  cases e
theorem WkAt.own (h : WkAt K CW C CR H w s F) {D : Addr} {o u : HO} (hD : ¬ F D) (e : H D = some u) (hn : ∀ xs, u ≠ HO.tup xs) (hi : ∀ c dx fs, u ≠ HO.ins c dx fs) : WkAt K CW C CR (upd H D o) w s F := by
  obtain ⟨dx, r, t, dg, da, lo, la, FT, h', rfl⟩ := h
  obtain ⟨_, _, _, it⟩ := h'.insT
  refine ⟨dx, r, t, dg, da, lo, la, FT, h'.stay (F' := fun a => a = D) (ch_at e hn rfl) (fun a f q => hD (by rw [← q]; exact f)) (fun q => ?_) (fun q => ?_), rfl⟩
  · rw [← q, h'.ins] at e
    exact hi _ _ _ (Option.some.inj e).symm
  · rw [← q, it] at e
    exact hi _ _ _ (Option.some.inj e).symm
/-- the types changed -/
theorem WkIn.types (h : WkIn K CW C CR H w dx r t dg da lo la s FT) {m : TM} (hT : TyAt K C CR H' t r m FT') (mv : Mv FT H FT' H') : WkIn K CW C CR H' w dx r t dg da lo la { s with tm := m } FT' ∧ Mv (FWk lo la FT) H (FWk lo la FT') H' := by
  refine ⟨⟨mv.keep h.ins h.nw, mv.keep h.fo h.nf, mv.keep h.ak h.na, hT, h.ne, mv.out h.fo h.nf, mv.out h.ak h.na, mv.out h.ins h.nw⟩, ⟨mv.ch.mono fun x f => .inr (.inr f), ?_⟩⟩
  rintro a (e | e | e)
  · exact .inl (.inl e)
  · exact .inl (.inr (.inl e))
  · exact (mv.gr a e).imp (fun q => .inr (.inr q)) id
/-- the rows changed -/
theorem TyAt.rows {m : TM} (h : TyAt K C CR H t r m FT) : ∃ E FR, RwAt CR H r m.n NoS E m.b FR ∧ ∀ {H' : Hp} {n' b' : Nat} {E' : Nat → Nat → List Str → Prop} {FR' : Addr → Prop}, RwAt CR H' r n' NoS E' b' FR' → Ch FR H H' → (∀ a, FR' a → FR a ∨ H a = none) → ∃ FT', TyAt K C CR H' t r { m with n := n', b := b' } FT' ∧ Mv FT H FT' H' := by
  obtain ⟨dx, lf, ll, vf, E, FR, hi, rfl⟩ := h
  exact ⟨E, FR, hi.rw_, fun hR c g => ⟨_, ⟨dx, lf, ll, vf, _, _, (hi.rows hR c g).1, rfl⟩, (hi.rows hR c g).2⟩⟩
/-- a store into the list of the types -/
theorem WkIn.setF (h : WkIn K CW C CR H w dx r t dg da lo la s FT) {fd : List (Option Nat)} : WkIn K CW C CR (upd H lo (.lst (fd.map rV))) w dx r t dg da lo la { s with fd := fd } FT ∧ Mv (FWk lo la FT) H (FWk lo la FT) (upd H lo (.lst (fd.map rV))) := by
  refine ⟨⟨by rw [upd_ne h.wf]; exact h.ins, upd_same, by rw [upd_ne h.ne.symm]; exact h.ak, h.ty.own h.nf h.fo lstTup lstIns, h.ne, h.nf, h.na, h.nw⟩, .at_ h.fo lstTup (.inl rfl)⟩
theorem WkIn.setA (h : WkIn K CW C CR H w dx r t dg da lo la s FT) {ak : List Nat} : WkIn K CW C CR (upd H la (.lst (ak.map nv))) w dx r t dg da lo la { s with ak := ak } FT ∧ Mv (FWk lo la FT) H (FWk lo la FT) (upd H la (.lst (ak.map nv))) := by
  refine ⟨⟨by rw [upd_ne h.wa]; exact h.ins, by rw [upd_ne h.ne]; exact h.fo, upd_same, h.ty.own h.na h.ak lstTup lstIns, h.ne, h.nf, h.na, h.nw⟩, .at_ h.ak lstTup (.inr (.inl rfl))⟩
end
def WkOut (K : PySem.W.Frag) (CW C CR : Addr) (H : Hp) (w : Addr) (s : MS) (F : Addr → Prop) (Q : Hp → Prop) : Prop := ∀ (H' : Hp) (F' : Addr → Prop), WkAt K CW C CR H' w s F' → Mv F H F' H' → Q H'
/-- the ways out of what may be refused for its size -/
def RsEnd {α : Type} (CU : Addr) (F : Addr → Prop) (H : Hp) (r : Rs α) (good : α → Prop) (E : XK) : Prop := match r with
  | .bad => False
  | .big => ∀ (H' : Hp) (d : Addr), Ch F H H' → H' d = some (.xd [("name", .str "types")]) → E (.ref CU) (some d) H'
  | .ok a => good a
structure WTxt (K : PySem.W.Frag) (mg : Str → Option Value) (CW : Addr) : Prop where
  cl : Cls K CW
  nR : NoAttr K CW "rows"
  nT : NoAttr K CW "types"
  nG : NoAttr K CW "given"
  nA : NoAttr K CW "answered"
  nF : NoAttr K CW "found"
  nK : NoAttr K CW "asked"
  mgC : mg "Work" = some (.ref CW)
  len : mg "len" = none
  max : mg "max" = none
  ms : ∃ tk, mg "MOST_SIZE" = some (.int 1000 tk)
structure XTxt (K : PySem.W.Frag) (mg : Str → Option Value) (CU fI : Addr) : Prop where
  ox : OexC K CU
  iC : PySem.W.findIn K (.ref CU) "__init__" = some (some (.ref fI))
  tI : PySem.W.typeIn K (.ref fI) = some (.type "function")
  mgU : mg "Unbounded" = some (.ref CU)
  noN : PySem.W.findIn K (.ref CU) "name" = some none
abbrev xInit : Stmt := inClass (topS 6) 0
abbrev wInit : Stmt := inClass (topS 15) 0
abbrev wBegin : Stmt := inClass (topS 15) 1
abbrev wFit : Stmt := inClass (topS 15) 2
abbrev wKind : Stmt := inClass (topS 15) 3
abbrev wLim : Stmt := inClass (topS 15) 4
theorem maxL_eq : ∀ {zs : List Nat} {m : Int}, zs ≠ [] → m ∈ zs.map (fun (n : Nat) => (n : Int)) → (∀ y, y ∈ zs.map (fun (n : Nat) => (n : Int)) → y ≤ m) → m = (maxL zs : Int) := by
  have up : ∀ (zs : List Nat) (z : Nat), z ∈ zs → z ≤ maxL zs := by
    intro zs
    induction zs with
    | nil => intro z h; cases h
    | cons x r ih =>
      intro z h
      show z ≤ Nat.max x (maxL r)
      rcases List.mem_cons.mp h with e | h
      · rw [e]; exact Nat.le_max_left _ _
      · exact Nat.le_trans (ih z h) (Nat.le_max_right _ _)
  have at_ : ∀ (zs : List Nat), zs ≠ [] → maxL zs ∈ zs := by
    intro zs
    induction zs with
    | nil => intro h; exact absurd rfl h
    | cons x r ih =>
      intro _
      cases r with
      | nil => exact List.mem_cons.mpr (.inl (Nat.max_eq_left (Nat.zero_le _)))
      | cons y r =>
        have h1 := ih (by simp)
        show Nat.max x (maxL (y :: r)) ∈ _
        rcases Nat.le_total x (maxL (y :: r)) with h | h
        · rw [show Nat.max x (maxL (y :: r)) = maxL (y :: r) from Nat.max_eq_right h]
          exact List.mem_cons_of_mem _ h1
        · rw [show Nat.max x (maxL (y :: r)) = x from Nat.max_eq_left h]
          exact List.mem_cons_self ..
  intro zs m hne hm hall
  obtain ⟨z, hz, rfl⟩ := List.mem_map.mp hm
  have h1 := up zs z hz
  have h2 := hall (maxL zs : Int) (List.mem_map.mpr ⟨_, at_ zs hne, rfl⟩)
  omega
section
variable {P : Program} {w : World} {K : PySem.W.Frag} {mg : Str → Option Value} {base : Heap}
/-! ### the error -/
def spXi (CU : Addr) : Sp := fun vs H Q _ => ∃ (a : Addr) (v : V), vs = [.ref a, v] ∧ H a = some (exo a CU none) ∧ ∀ dx, H dx = none → dx ≠ a → Q .non (upd (upd H dx (exd dx [("name", v)])) a (exo a CU (some dx)))
theorem scXi : FnScope ["self", "name"] ["self", "name"] (defScope xInit) := ⟨rfl, rfl, rfl, by decide +kernel, rfl, by decide +kernel, by decide +kernel⟩
theorem ok_xi {f CU : Addr} {fd : FuncData} (F : Fun K "__init__" "Unbounded.__init__" xInit f fd) (T : XTxt K mg CU f) : FnOk P w K mg base CX0 1 f fd ["self", "name"] (spXi CU) := by
  refine F.ok scXi (fun vs H Q E h => ?_) (fun cdv A outer s H vs Q E hr h => ?_)
  · obtain ⟨a, v, rfl, _⟩ := h
    rfl
  · obtain ⟨a, v, rfl, ha, k⟩ := h
    refine ⟨_, pss_one (ps_ost (pv 0) (pv 1)), ?_⟩
    exact ⟨_, rfl, _, rfl, a, CU, rfl, T.ox, T.noN, .inl ⟨ha, fun dx n ne => k dx n ne⟩⟩
/-! ### limit_sizes -/
def spLim (CU CW C CR : Addr) (K : PySem.W.Frag) : Sp := fun vs H Q E => ∃ (wk a : Addr) (s : MS) (F : Addr → Prop) (ts : List Nat), vs = [.ref wk, .ref a] ∧ H a = some (.lst (ts.map nv)) ∧ (∀ dx r t dg da lo la FT, WkIn K CW C CR H wk dx r t dg da lo la s FT → F = FWk lo la FT → ¬ FT a) ∧ WkAt K CW C CR H wk s F ∧
  RsEnd CU F H (limitM s ts) (fun s' => WkOut K CW C CR H wk s' F fun H' => Q .non H') E
theorem scLim : FnScope ["self", "types"] ["self", "types"] (defScope wLim) := ⟨rfl, rfl, rfl, by decide +kernel, rfl, by decide +kernel, by decide +kernel⟩
theorem pt_sizes (r lf ll : Addr) : (pt r lf ll).lookup ("sizes" : Str) = none := pt_no _ _ _ (by decide +kernel) (by decide +kernel) (by decide +kernel)
theorem ok_lim {f fZ fI CU CW C CR : Addr} {fd fdZ fdI : FuncData} (F : Fun K "limit_sizes" "Work.limit_sizes" wLim f fd) (TW : WTxt K mg CW) (T : TTxt K mg C) (TX : XTxt K mg CU fI)
    (GZ : FnOk P w K mg base CX0 4 fZ fdZ ["self", "ones"] (spSz C CR K)) (bZ : Binds K fdZ ["self", "ones"] []) (mZ : Meth K C "sizes" fZ)
    (GI : FnOk P w K mg base CX0 1 fI fdI ["self", "name"] (spXi CU)) (bI : Binds K fdI ["self", "name"] []) : FnOk P w K mg base (CX P w) 5 f fd ["self", "types"] (spLim CU CW C CR K) := by
  refine F.okX scLim (fun vs H Q E h => ?_) (fun cdv A outer s H vs Q E hr h => ?_)
  · obtain ⟨wk, a, s, F, ts, rfl, _⟩ := h
    rfl
  · obtain ⟨wk, a, s, F, ts, rfl, ha, hna, hW, hend⟩ := h
    obtain ⟨tk, hms⟩ := TW.ms
    refine ⟨_, pss_one (ps_if (pt_cmpR op_gt (pe_callB (cr_max rfl) (by rfl) TW.max (by decide +kernel) (pa_cons (pe_meth (pe_fld (pv 0) rfl) T.cl mZ GZ hr bZ .nil pass0 (pa_cons (pv 1) pa_nil)) pa_nil)) (pe_glob (v := V.int 1000) rfl hms ⟨_, rfl⟩) (nomark _))
      (pss_one (ps_raise rfl (takes_of rfl rfl rfl rfl) (pmk_oex TX.ox TX.iC TX.tI GI (hr.mono (by decide)) bI .nil pass0 (by rfl) TX.mgU (pa_cons pe_str pa_nil)))) pss_nil), ?_⟩
    obtain ⟨dx, r, t, dg, da, lo, la, FT, hi, rfl⟩ := hW
    obtain ⟨dxt, lf, ll, it⟩ := hi.insT
    have nFa := hna _ _ _ _ _ _ _ _ hi rfl
    refine ⟨_, rfl, wk, CW, dx, _, _, rfl, hi.ins, TW.cl, TW.nT, pw_types _ _ _ _ _ _, t, dxt, _, rfl, it, pt_sizes _ _ _, _, rfl, ?_⟩
    unfold limitM at hend
    cases e : szAll s.tm.forms ts s.tm.leads with
    | none => rw [e] at hend; exact hend.elim
    | some zl =>
      obtain ⟨zs, ls⟩ := zl
      rw [e] at hend
      dsimp only at hend
      by_cases h0 : zs = []
      · rw [if_pos h0] at hend; exact hend.elim
      rw [if_neg h0] at hend
      refine ⟨t, r, a, s.tm, FT, ts, zs, ls, rfl, ha, nFa, hi.ty, e, fun H2 F2 D hT2 mv2 hD hD2 nD => ?_⟩
      obtain ⟨hi2, mvw⟩ := hi.types hT2 mv2
      refine ⟨D, zs.map fun (n : Nat) => (n : Int), rfl, SqL.of (by rw [hD2, List.map_map]; rfl), ?_, fun mx hmx hall => ?_⟩
      · rw [List.length_map]
        exact Nat.pos_of_ne_zero fun q => h0 (List.length_eq_zero_iff.mp q)
      · have emx := maxL_eq h0 hmx hall
        subst emx
        refine ⟨_, _, rfl, rfl, _, rfl, ?_⟩
        by_cases hb : 1000 < maxL zs
        · rw [if_pos hb] at hend
          refine ite2 (fun _ => ?_) (fun h => absurd (decide_eq_true (by omega)) h)
          refine ⟨by show 1 ≤ 1000; decide, fun x hx => ?_⟩
          refine ⟨x, _, rfl, upd_same, fun d hd hdx => ?_⟩
          have hd0 : H2 d = none := by rw [upd_ne hdx] at hd; exact hd
          refine ⟨rfl, d, _, upd_same, by rw [upd_ne hdx, upd_same], hd0, ?_⟩
          refine hend _ d ?_ upd_same
          refine mvw.ch.trans (F1 := F0) (ch_of_same fun b o e => ?_) fun _ f => f.elim
          have b1 : b ≠ x := fun q => by rw [q, hx] at e; cases e
          have b2 : b ≠ d := fun q => by rw [q, hd0] at e; cases e
          rw [upd_ne b2, del_ne b1, upd_ne b1, upd_ne b2, upd_ne b1]
          exact e
        · rw [if_neg hb] at hend
          refine ite2 (fun h => absurd (of_decide_eq_true h) (by omega)) (fun _ => ?_)
          exact hend _ _ ⟨dx, r, t, dg, da, lo, la, F2, hi2, rfl⟩ mvw
end
end Kt


set_option Elab.async false
set_option linter.all false
set_option maxRecDepth 100000
set_option maxHeartbeats 4000000
namespace Kt
open PySem PySem.Spec L2 PyProof.Rows Km Ka
theorem bind_ok {α β : Type} {r : Rs α} {k : α → Rs β} {b : β} (h : r.bind k = .ok b) : ∃ a, r = .ok a ∧ k a = .ok b := by
  cases r with
  | bad => cases h
  | big => cases h
  | ok a => exact ⟨a, rfl, h⟩
theorem foundM_ok {s : MS} {k t : Nat} (h : foundM s k = .ok t) : s.fd[k]? = some (some t) := by
  unfold foundM at h
  cases e : s.fd[k]? with
  | none => rw [e] at h; cases h
  | some x =>
    cases x with
    | none => rw [e] at h; cases h
    | some y =>
      rw [e] at h
      cases h
      rfl
theorem wfitM_ok {s s' : MS} {k w : Nat} (h : wfitM s k w = .ok s') : ∃ t m', s.fd[k]? = some (some t) ∧ fitAll s.tm t w = some (true, m') ∧ s' = { s with tm := m' } := by
  obtain ⟨t, h1, h2⟩ := bind_ok h
  refine ⟨t, ?_⟩
  cases e : fitAll s.tm t w with
  | none => rw [e] at h2; cases h2
  | some x =>
    obtain ⟨b, m'⟩ := x
    cases b with
    | false => rw [e] at h2; cases h2
    | true =>
      rw [e] at h2
      cases h2
      exact ⟨m', foundM_ok h1, rfl, rfl⟩
theorem mkM_ok {s s' : MS} {fm : Fm} {w : Nat} (h : mkM s fm = .ok (w, s')) : s.tm.forms.length < 900 ∧ s.tm.leads.length < 900 ∧ w = s.tm.leads.length ∧ s' = { s with tm := madeM s.tm fm } := by
  unfold mkM at h
  by_cases c : s.tm.forms.length < 900 ∧ s.tm.leads.length < 900
  · rw [if_pos c] at h
    cases h
    exact ⟨c.1, c.2, rfl, rfl⟩
  · rw [if_neg c] at h
    cases h
theorem found_at {s : MS} {k t : Nat} (h : s.fd[k]? = some (some t)) : atI (s.fd.map rV) (k : Int) = some (nv t) := atI_nat (by rw [List.getElem?_map, h]; rfl)
section
variable {P : Program} {w : World} {K : PySem.W.Frag} {mg : Str → Option Value} {base : Heap}
theorem pt_fit (r lf ll : Addr) : (pt r lf ll).lookup ("fit" : Str) = none := pt_no _ _ _ (by decide +kernel) (by decide +kernel) (by decide +kernel)
/-! ### begin -/
def beginM (s : MS) : MS := ⟨{ s.tm with n := s.tm.n + 1 }, s.fd ++ [none], s.ak ++ [s.tm.n]⟩
def spBegin (CW C CR : Addr) (K : PySem.W.Frag) : Sp := fun vs H Q _ => ∃ (wk : Addr) (s : MS) (F : Addr → Prop), vs = [.ref wk] ∧ WkAt K CW C CR H wk s F ∧ s.tm.n < 99 ∧ s.fd.length ≤ 900 ∧ s.ak.length ≤ 900 ∧
  WkOut K CW C CR H wk (beginM s) F fun H' => Q (nv s.fd.length) H'
theorem scBegin : FnScope ["self"] ["self"] (defScope wBegin) := ⟨rfl, rfl, rfl, by decide +kernel, rfl, by decide +kernel, by decide +kernel⟩
theorem ok_begin {f fF CW C CR : Addr} {fd fdF : FuncData} (F : Fun K "begin" "Work.begin" wBegin f fd) (TW : WTxt K mg CW) (TR : Txt K mg CR)
    (GF : FnOk P w K mg base CX0 1 fF fdF ["self"] (spFresh CR)) (bF : Binds K fdF ["self"] []) (mF : Meth K CR "fresh" fF) : FnOk P w K mg base CX0 2 f fd ["self"] (spBegin CW C CR K) := by
  refine F.ok scBegin (fun vs H Q E h => ?_) (fun cdv A outer s H vs Q E hr h => ?_)
  · obtain ⟨wk, s, F, rfl, _⟩ := h
    rfl
  · obtain ⟨wk, s, F, rfl, hW, hn, hf9, ha9, k⟩ := h
    refine ⟨_, pss_cons (ps_expr (pe_bm PySem.F.plainAttrs_list PySem.F.slot_list_append PySem.F.type_list_append mt_append (pe_fld (pv 0) rfl) (pa_cons pe_non pa_nil)))
      (pss_cons (ps_expr (pe_bm PySem.F.plainAttrs_list PySem.F.slot_list_append PySem.F.type_list_append mt_append (pe_fld (pv 0) rfl) (pa_cons (pe_meth0 (pe_fld (pv 0) rfl) TR.cl mF GF hr bF .nil pass0) pa_nil)))
      (pss_one (ps_ret (pe_op op_sub (pe_callB call_len_seq (by rfl) TW.len PySem.boot_len (pa_cons (pe_fld (pv 0) rfl) pa_nil)) pe_int)))), ?_⟩
    obtain ⟨dx, r, t, dg, da, lo, la, FT, hi, rfl⟩ := hW
    refine ⟨_, rfl, wk, CW, dx, _, _, rfl, hi.ins, TW.cl, TW.nF, pw_found _ _ _ _ _ _, .inl ⟨rfl, _, SqL.of hi.fo⟩, lo, _, _, rfl, rfl, hi.fo, (by rw [List.length_map]; exact small1000 (by omega)), ?_⟩
    obtain ⟨hi1, mv1⟩ := hi.setF (fd := s.fd ++ [none])
    rw [show s.fd.map rV ++ [V.non] = (s.fd ++ [none]).map rV by rw [List.map_append]; rfl]
    generalize upd H lo (.lst ((s.fd ++ [none]).map rV)) = H1 at hi1 mv1
    obtain ⟨E1, FR, hR, back⟩ := hi1.ty.rows
    obtain ⟨dxr, l1, d1, ir⟩ := hR.ins
    refine ⟨_, rfl, wk, CW, dx, _, _, rfl, hi1.ins, TW.cl, TW.nK, pw_asked _ _ _ _ _ _, .inl ⟨rfl, _, SqL.of hi1.ak⟩, _, rfl, wk, CW, dx, _, _, rfl, hi1.ins, TW.cl, TW.nR, pw_rows _ _ _ _ _ _, r, dxr, _, rfl, ir, pf_no _ _ (by decide +kernel) (by decide +kernel), ?_⟩
    refine ⟨r, _, _, E1, _, FR, rfl, hR, (show s.tm.n < 100 by omega), fun H2 FR2 hR2 c2 g2 => ?_⟩
    obtain ⟨FT2, hT2, mvT⟩ := back hR2 c2 g2
    obtain ⟨hi2, mv2⟩ := hi1.types hT2 mvT
    refine ⟨la, _, _, rfl, rfl, hi2.ak, (by rw [List.length_map]; exact small1000 (by show s.ak.length ≤ 1000; omega)), ?_⟩
    obtain ⟨hi3, mv3⟩ := hi2.setA (ak := s.ak ++ [s.tm.n])
    rw [show ((s.ak.map nv) ++ [nv s.tm.n]) = (s.ak ++ [s.tm.n]).map nv by rw [List.map_append]; rfl]
    generalize upd H2 la (.lst ((s.ak ++ [s.tm.n]).map nv)) = H3 at hi3 mv3
    refine ⟨_, rfl, wk, CW, dx, _, _, rfl, hi3.ins, TW.cl, TW.nF, pw_found _ _ _ _ _ _, lo, _, rfl, .inl (SqL.of hi3.fo), _, _, rfl, rfl, ?_⟩
    have ev : ((((s.fd ++ [none]).map rV).length : Nat) : Int) - 1 = (s.fd.length : Int) := by
      rw [List.length_map, List.length_append]
      simp
    show Q (.int (((((s.fd ++ [none]).map rV).length : Nat) : Int) - 1)) _
    rw [ev]
    exact k _ _ ⟨dx, r, t, dg, da, lo, la, FT2, hi3, rfl⟩ ((mv1.trans mv2).trans mv3)
/-! ### fit -/
def spWfit (CW C CR : Addr) (K : PySem.W.Frag) : Sp := fun vs H Q _ => ∃ (wk : Addr) (s s' : MS) (F : Addr → Prop) (k v : Nat), vs = [.ref wk, nv k, nv v] ∧ WkAt K CW C CR H wk s F ∧ wfitM s k v = .ok s' ∧
  WkOut K CW C CR H wk s' F fun H' => Q .non H'
theorem scWfit : FnScope ["self", "number", "wanted"] ["self", "number", "wanted"] (defScope wFit) := ⟨rfl, rfl, rfl, by decide +kernel, rfl, by decide +kernel, by decide +kernel⟩
theorem ok_wfit {f fF CW C CR : Addr} {fd fdF : FuncData} (F : Fun K "fit" "Work.fit" wFit f fd) (TW : WTxt K mg CW) (T : TTxt K mg C)
    (GF : FnOk P w K mg base CX0 5 fF fdF ["self", "one", "other"] (spFit C CR K)) (bF : Binds K fdF ["self", "one", "other"] []) (mF : Meth K C "fit" fF) : FnOk P w K mg base CX0 6 f fd ["self", "number", "wanted"] (spWfit CW C CR K) := by
  refine F.ok scWfit (fun vs H Q E h => ?_) (fun cdv A outer s H vs Q E hr h => ?_)
  · obtain ⟨wk, s, s', F, k, v, rfl, _⟩ := h
    rfl
  · obtain ⟨wk, s, s', F, k, v, rfl, hW, hm, kq⟩ := h
    obtain ⟨t0, m', h1, h2, rfl⟩ := wfitM_ok hm
    refine ⟨_, pss_one (ps_if (pt_not (pt_val (pe_meth (pe_fld (pv 0) rfl) T.cl mF GF hr bF .nil pass0 (pa_cons (pe_ix ix_list (pe_fld (pv 0) rfl) (pv 1) (fun _ _ => rfl)) (pa_cons (pv 2) pa_nil))))) pss_never pss_nil), ?_⟩
    obtain ⟨dx, r, t, dg, da, lo, la, FT, hi, rfl⟩ := hW
    obtain ⟨dxt, lf, ll, it⟩ := hi.insT
    refine ⟨_, rfl, wk, CW, dx, _, _, rfl, hi.ins, TW.cl, TW.nT, pw_types _ _ _ _ _ _, t, dxt, _, rfl, it, pt_fit _ _ _, _, rfl, wk, CW, dx, _, _, rfl, hi.ins, TW.cl, TW.nF, pw_found _ _ _ _ _ _, _, rfl, lo, _, _, _, rfl, rfl, SqL.of hi.fo, found_at h1, _, rfl, ?_⟩
    refine ⟨t, r, s.tm, m', FT, t0, v, true, rfl, hi.ty, h2, fun H2 F2 hT2 mv2 => ?_⟩
    obtain ⟨hi2, mvw⟩ := hi.types hT2 mv2
    refine ⟨_, rfl, ?_⟩
    refine iteF ?_
    exact kq _ _ ⟨dx, r, t, dg, da, lo, la, F2, hi2, rfl⟩ mvw
def kindM (s : MS) (k : Nat) (kd : Kd) : Rs MS := (mkM s ⟨some kd, [], none⟩).bind fun p => wfitM p.2 k p.1
def spKind (CW C CR : Addr) (K : PySem.W.Frag) : Sp := fun vs H Q _ => ∃ (wk : Addr) (s s' : MS) (F : Addr → Prop) (k : Nat) (kd : Kd), vs = [.ref wk, nv k, .str kd.str] ∧ WkAt K CW C CR H wk s F ∧ kindM s k kd = .ok s' ∧
  WkOut K CW C CR H wk s' F fun H' => Q .non H'
theorem scKind : FnScope ["self", "number", "kind"] ["self", "number", "kind"] (defScope wKind) := ⟨rfl, rfl, rfl, by decide +kernel, rfl, by decide +kernel, by decide +kernel⟩
theorem pw_fit (r t dg da lo la : Addr) : (pw r t dg da lo la).lookup ("fit" : Str) = none := pw_no _ _ _ _ _ _ (by decide +kernel) (by decide +kernel) (by decide +kernel) (by decide +kernel) (by decide +kernel) (by decide +kernel)
theorem ok_kind {f fF fM CW C CR e : Addr} {fd fdF fdM : FuncData} (F : Fun K "fit_kind" "Work.fit_kind" wKind f fd) (TW : WTxt K mg CW) (T : TTxt K mg C)
    (GM : FnOk P w K mg base CX0 1 fM fdM pMade (spMade C CR K)) (B : MadeB K fdM e) (mM : Meth K C "made" fM)
    (GF : FnOk P w K mg base CX0 6 fF fdF ["self", "number", "wanted"] (spWfit CW C CR K)) (bF : Binds K fdF ["self", "number", "wanted"] []) (mF : Meth K CW "fit" fF) : FnOk P w K mg base CX0 7 f fd ["self", "number", "kind"] (spKind CW C CR K) := by
  refine F.ok scKind (fun vs H Q E h => ?_) (fun cdv A outer s H vs Q E hr h => ?_)
  · obtain ⟨wk, s, s', F, k, kd, rfl, _⟩ := h
    rfl
  · obtain ⟨wk, s, s', F, k, kd, rfl, hW, hm, kq⟩ := h
    obtain ⟨⟨v, s1⟩, h1, h2⟩ := bind_ok hm
    obtain ⟨g1, g2, rfl, rfl⟩ := mkM_ok h1
    obtain ⟨ds, hds, hb⟩ := B.b2
    refine ⟨_, pss_one (ps_expr (pe_meth (pv 0) TW.cl mF GF hr bF .nil pass0 (pa_cons (pv 1) (pa_cons (pe_meth (pe_fld (pv 0) rfl) T.cl mM GM (hr.mono (by decide)) hb hds pass0 (pa_cons (pv 2) pa_nil)) pa_nil)))), ?_⟩
    obtain ⟨dx, r, t, dg, da, lo, la, FT, hi, rfl⟩ := hW
    obtain ⟨dxt, lf, ll, it⟩ := hi.insT
    refine ⟨_, rfl, wk, dx, _, rfl, hi.ins, pw_fit _ _ _ _ _ _, _, rfl, _, rfl, wk, CW, dx, _, _, rfl, hi.ins, TW.cl, TW.nT, pw_types _ _ _ _ _ _, t, dxt, _, rfl, it, pt_made _ _ _, _, rfl, ?_⟩
    refine ⟨t, r, e, s.tm, FT, ⟨some kd, [], none⟩, rfl, .inr B.emp, Nat.zero_le _, hi.ty, g1, g2, fun H2 F2 hT2 mv2 => ?_⟩
    obtain ⟨hi2, mvw⟩ := hi.types hT2 mv2
    refine ⟨wk, _, s', FWk lo la F2, k, _, rfl, ⟨dx, r, t, dg, da, lo, la, F2, hi2, rfl⟩, h2, fun H3 F3 hW3 mv3 => kq _ _ hW3 (mvw.trans mv3)⟩
end
end Kt


set_option Elab.async false
set_option linter.all false
set_option maxRecDepth 100000
set_option maxHeartbeats 4000000
namespace Rd
open PySem PySem.Spec L2 PyProof.Rows
section
variable {prog : Program} {w : World} {κ : Type} [DecidableEq κ] {kn : KeyKind prog w κ} {A : Around} {E : Value → Shared → Prop} {s : Shared}
/-- what is stored at a key of a table told by its pairs -/
theorem put_of {d : Addr} {ps : List (κ × Value)} {k : κ} {kv v : Value} {Q : Unit → Shared → Prop} (ik : kn.is k kv = true) (T : s.heap.DictOf kn d ps) (z : ps.length ≤ sizeLine)
    (q : ∀ h2, h2.DictOf kn d (stored ps k v) → Heap.SameBut d s.heap h2 → Q () { s with heap := h2 }) : wpAny (model prog w) A (dictPut d (kn.hash k) kv v) Q E s := by
  obtain ⟨o, ent, ep, t1, t2, t3, t4, t5, t6⟩ := T
  have ez : ent.size ≤ sizeLine := by
    have a1 := t5.length
    simp at a1
    omega
  have ei : ent.findIdx? (fun x => kn.is k x.key) = ps.findIdx? fun p => decide (p.1 = k) := by
    rw [← t5.findIdx k]
    obtain ⟨l⟩ := ent
    simp
  unfold dictPut
  refine wpAny_bind (wpAny_dictFind_of ik t1 t3 t4 ?_)
  cases e : ent.findIdx? fun x => kn.is k x.key with
  | some i =>
    have yes : (ps.any fun p => decide (p.1 = k)) = true := any_of_findIdx_some (ei ▸ e)
    refine wpAny_updateDict t1 t3 (q _ ⟨_, _, ep, Heap.get?_update_self _ t1 (Obj.isFreed_of_dict (Obj.data_mapDict t3 _)), t2.mapDict _, Obj.data_mapDict t3 _, t4.modify _ _, ?_, ?_⟩ (Heap.SameBut.update ..))
    · have el : ent.toList.findIdx? (fun x => kn.is k x.key) = some i := by
        rw [← e]
        obtain ⟨l⟩ := ent
        simp
      have m := t5.modify t6 el v
      rw [stored, if_pos yes]
      obtain ⟨l⟩ := ent
      simpa using m
    · rw [stored, if_pos yes, keys_map_store]
      exact t6
  | none =>
    have nk : k ∉ ps.map (·.1) := not_mem_of_findIdx_none (ei ▸ e)
    have no : ¬ (ps.any fun p => decide (p.1 = k)) = true := fun a => by
      obtain ⟨p, hp, hk⟩ := List.any_eq_true.mp a
      exact nk (List.mem_map.mpr ⟨p, hp, of_decide_eq_true hk⟩)
    refine wpAny_updateDictKeys (hz := ez) t1 t3 (q _ ⟨_, _, ep + 1, Heap.get?_update_self _ t1 (Obj.isFreed_of_dict (Obj.data_mapDictKeys t3 _)), t2.mapDictKeys _, Obj.data_mapDictKeys t3 _, t4.push ik _, ?_, ?_⟩ (Heap.SameBut.update ..))
    · have m := t5.append ik (kn.hash k) v
      rw [stored, if_neg no]
      obtain ⟨l⟩ := ent
      simpa using m
    · rw [stored, if_neg no, List.map_append]
      refine List.nodup_append.mpr ⟨t6, by simp, fun a ha b hb eab => nk ?_⟩
      rw [List.mem_singleton.mp hb] at eab
      rw [← show a = k from eab]
      exact ha
end
end Rd


set_option Elab.async false
set_option linter.all false
set_option maxRecDepth 100000
set_option maxHeartbeats 4000000
namespace Rd
open PySem PySem.Spec L2 PyProof.Rows
section
variable {prog : Program} {w : World} {A : Around} {E : Value → Shared → Prop} {s : Shared}
theorem noref {k : Key} {v : Value} (h : (mixKind prog w).is k v = true) : ∀ a, v ≠ .ref a := by
  intro a e
  subst e
  rcases keyIs_shape h with ⟨_, _, _, e⟩ | ⟨_, _, _, e⟩ <;> cases e
/-- a plain table is merged into another one -/
theorem merge_of {d o : Addr} {ps qs : List (Key × Value)} {Q : Unit → Shared → Prop} (ne : d ≠ o) (ns : (o == sysModules) = false) (Td : s.heap.DictOf (mixKind prog w) d ps) (To : s.heap.DictOf (mixKind prog w) o qs) (z : ps.length + qs.length ≤ sizeLine)
    (q : ∀ h2, h2.DictOf (mixKind prog w) d (merged ps qs) → Heap.SameBut d s.heap h2 → Q () { s with heap := h2 }) : wpAny (model prog w) A (mergeMapping d (.ref o) false) Q E s := by
  obtain ⟨od, ed, pd, d1, d2, d3, d4, d5, d6⟩ := id Td
  obtain ⟨oo, eo, po, o1, o2, o3, o4, o5, o6⟩ := id To
  have lo : qs.length = eo.size := by rw [← o5.length]; simp
  unfold mergeMapping
  refine wpAny_bind (wpAny_isInstance To.typeIs isSubtype_dict_dict ?_)
  simp only [if_true]
  refine wpAny_bind (wpAny_specialOf To.typeIs PySem.F.slot_dict_iter.lookup ?_)
  simp only [beq_self_eq_true, pure_bind, ns, Bool.false_eq_true, if_false]
  refine wpAny_bind (wpAny_dictEntries d1 d3 ?_)
  have rest : wpAny (model prog w) A (do
      let l ← dictEntries o
      let ep ← dictEpoch o
      forIn (List.range l.size) PUnit.unit fun i (_ : PUnit) => (do
        let l2 ← dictEntries o
        match l2[i]? with
        | some x => do
          holding [x.key, x.val] (dictPut d x.hash x.key x.val)
          let ep2 ← dictEpoch o
          if (ep2 != ep) = true then do
            (unsupported "dict.changed-during-merge" : Sem PUnit)
            pure (ForInStep.yield PUnit.unit)
          else pure (ForInStep.yield PUnit.unit)
        | _ => do
          (unsupported "dict.changed-during-merge" : Sem PUnit)
          pure (ForInStep.yield PUnit.unit) : Sem (ForInStep PUnit))
      pure ()) Q E s := by
    refine wpAny_bind (wpAny_dictEntries o1 o3 (wpAny_bind (wpAny_dictEpoch o1 o3 (wpAny_bind ?_))))
    refine wpAny_forIn_list _ (fun l _ s2 => ∃ h2 i, s2 = { s with heap := h2 } ∧ l = (List.range eo.size).drop i ∧ i ≤ eo.size ∧ h2.DictOf (mixKind prog w) d (merged ps (qs.take i)) ∧ h2.get? o = some oo ∧ Heap.SameBut d s.heap h2) _ ?_ ?_ _ _
      ⟨s.heap, 0, rfl, rfl, Nat.zero_le _, Td, o1, Heap.SameBut.refl _ _⟩
    · rintro x l b s2 ⟨h2, i, rfl, el, hi, T2, O2, S2⟩
      have hlt : i < eo.size := by
        rcases Nat.lt_or_ge i eo.size with a | a
        · exact a
        · rw [List.drop_eq_nil_of_le (by rw [List.length_range]; exact a)] at el
          cases el
      rw [List.drop_eq_getElem_cons (by rw [List.length_range]; exact hlt)] at el
      injection el with e1 e2
      rw [List.getElem_range] at e1
      subst e1
      refine wpAny_bind (wpAny_dictEntries O2 o3 ?_)
      rw [Array.getElem?_eq_getElem hlt]
      have hq : qs[x]? = some (qs[x]'(by rw [lo]; exact hlt)) := List.getElem?_eq_getElem _
      generalize qs[x]'(by rw [lo]; exact hlt) = kv at hq
      obtain ⟨ky, vl⟩ := kv
      obtain ⟨ik, iv⟩ := o5.get? (e := eo[x]) (by simp [hlt]) hq
      obtain ⟨k2, ik2, hh⟩ := o4 eo[x] (Array.getElem_mem hlt)
      have ek : k2 = ky := (mixKind prog w).inj _ _ _ ik2 ik
      subst ek
      show wpAny _ _ (holding [eo[x].key, eo[x].val] (dictPut d eo[x].hash eo[x].key eo[x].val) >>= _) _ _ _
      rw [hh, iv]
      refine wpAny_bind (wpAny_holding (put_of ik T2 (by
        have a1 := merged_length_le ps (qs.take x)
        have a2 : (qs.take x).length ≤ qs.length := by rw [List.length_take]; omega
        omega) fun h3 T3 S3 => ?_))
      have O3 : h3.get? o = some oo := (S3.2 o (Ne.symm ne)).trans O2
      refine wpAny_bind (wpAny_dictEpoch O3 o3 ?_)
      rw [if_neg (by simp)]
      exact wpAny_pure ⟨h3, x + 1, rfl, e2, hlt, by rw [merged_take_succ ps qs x (k2, vl) hq]; exact T3, O3, S2.trans S3⟩
    · rintro b s2 ⟨h2, i, rfl, el, hi, T2, O2, S2⟩
      have hin : i = eo.size := by
        rcases Nat.lt_or_ge i eo.size with a | a
        · rw [List.drop_eq_getElem_cons (by rw [List.length_range]; exact a)] at el
          cases el
        · omega
      rw [hin, ← lo, List.take_length] at T2
      exact wpAny_pure (q h2 T2 S2)
  by_cases he : ed.isEmpty = true
  · rw [if_pos he]
    refine wpAny_bind (wpAny_dictEntries o1 o3 (wpAny_bind ?_))
    refine wpAny_forIn_array' _ (fun l _ s2 => s2 = s ∧ ∀ x ∈ l, x ∈ eo) _ ?_ ?_ _ _ ⟨rfl, fun x hx => Array.mem_toList_iff.mp hx⟩
    · rintro x l b s2 ⟨es, hl⟩
      subst es
      obtain ⟨ky, ik, _⟩ := o4 x (hl x (List.mem_cons_self ..))
      have nr := noref ik
      cases ex : x.key with
      | ref a => exact absurd ex (nr a)
      | _ => exact wpAny_pure ⟨rfl, fun y hy => hl y (List.mem_cons_of_mem _ hy)⟩
    · rintro b s2 ⟨es, _⟩
      subst es
      exact rest
  · rw [if_neg he]
    exact rest
end
end Rd


set_option Elab.async false
set_option linter.all false
set_option maxRecDepth 100000
set_option maxHeartbeats 4000000
namespace Rd
open PySem PySem.Spec L2 PyProof.Rows
section
variable {prog : Program} {w : World} {A : Around} {E : Value → Shared → Prop} {s : Shared}
theorem gather {d : Addr} (f : (Option (Sem Value) × Sem Value) → (Option Addr × List (Sem Value × Sem Value)) → Sem (ForInStep (Option Addr × List (Sem Value × Sem Value))))
    (hf : ∀ (p : Sem Value × Sem Value) (r : List (Sem Value × Sem Value)), r.length + 1 < 17 → f (some p.1, p.2) (some d, r) = pure (.yield (some d, r ++ [p]))) :
    ∀ (l r : List (Sem Value × Sem Value)), r.length + l.length < 17 → forIn (l.map fun p => (some p.1, p.2)) (some d, r) f = pure (some d, r ++ l)
  | [], r, _ => by simp
  | p :: l, r, h => by
    rw [List.length_cons] at h
    rw [List.map_cons, List.forIn_cons, hf p r (by omega), pure_bind]
    show forIn (l.map fun p => (some p.1, p.2)) (some d, r ++ [p]) f = _
    rw [gather f hf l (r ++ [p]) (by rw [List.length_append]; simp; omega), List.append_assoc]
    rfl
theorem disp_walk {v0 : Sem Value} {ps : List (Sem Value × Sem Value)} {Q : Value → Shared → Prop} (h0 : ps ≠ []) (hl : ps.length < 17)
    (h : wpAny (model prog w) A v0 (fun m s1 => wpAny (model prog w) A (mergeMapping s.heap.objs.size m false) (fun _ s2 => wpAny (model prog w) A (subDict ps) (fun e s3 => wpAny (model prog w) A (mergeMapping s.heap.objs.size (.ref e) false) (fun _ s4 => Q (.ref s.heap.objs.size) s4) (fun _ _ => False) s3) E s2) (fun _ _ => False) s1) E
      { s with heap := s.heap.push { cls := .type "dict", data := .dict #[] } }) :
    wpAny (model prog w) A (dictDisplay ((none, v0) :: ps.map fun p => (some p.1, p.2))) Q E s := by
  unfold dictDisplay
  dsimp only
  rw [List.forIn_cons]
  simp only [List.isEmpty_nil, if_true, pure_bind, bind_assoc]
  refine wpAny_bind (wpAny_alloc ?_)
  refine wpAny_bind (wpAny_holding (wpAny_mono h (fun m s1 h1 => ?_) fun _ _ e => e))
  refine wpAny_bind (wpAny_onRaise (wpAny_tryCatch (wpAny_onRaise (wpAny_holding (wpAny_mono h1 (fun _ s2 h2 => ?_) fun _ _ f => f.elim)))))
  rw [gather _ (fun p r hr => by
    have e : ((r ++ [(p.1, p.2)]).length == 17) = false := by
      rw [List.length_append]
      simp
      omega
    simp only [e, Bool.false_eq_true, if_false]) ps [] (by simpa using hl)]
  have e1 : ps.isEmpty = false := by
    cases ps with
    | nil => exact absurd rfl h0
    | cons a b => rfl
  simp only [List.nil_append, e1, pure_bind, Bool.false_eq_true, if_false, bind_assoc]
  refine wpAny_bind (wpAny_holding (wpAny_mono h2 (fun e s3 h3 => ?_) fun _ _ f => f))
  exact wpAny_bind (wpAny_onRaise (wpAny_holding (wpAny_mono h3 (fun _ s4 h4 => wpAny_pure h4) fun _ _ f => f.elim)))
end
/-! ### {**x, k: v, ..} over the layer -/
def tDStar (tx : TE) (trs : List (TE × TE)) : TE := fun σ H Q => ∀ d, H d = none → tx σ (upd H d (.dK [])) fun x H1 => ∃ a kvs, x = .ref a ∧ H1 a = some (.dK kvs) ∧ a ≠ d ∧ H1 d = some (.dK []) ∧ kvs.length ≤ 1000 ∧
  ∀ e, (upd H1 d (.dK kvs)) e = none → tPairs trs σ (upd (upd H1 d (.dK kvs)) e (.dK [])) fun ps H2 => H2 e = some (.dK []) ∧ H2 d = some (.dK kvs) ∧ ∃ more : List (Key × V), ps = more.map (fun kv => (kV kv.1, kv.2)) ∧ more.length ≤ 15 ∧
    Q (.ref d) (upd (upd H2 e (.dK (mergeK [] more))) d (.dK (mergeK kvs (mergeK [] more))))
theorem merge_nodup {kvs : List (Key × V)} {vs : List (Key × Value)} (r : KV kvs vs) (n : (vs.map (·.1)).Nodup) : mergeK [] kvs = kvs := by
  have hk : kvs.map (·.1) = vs.map (·.1) := by
    unfold KV at r
    induction r with
    | nil => rfl
    | @cons a b _ _ h _ ih =>
      rw [List.map_cons, List.map_cons, h.1, ih (List.nodup_cons.mp (by simpa using n)).2]
  have key : ∀ (l acc : List (Key × V)), ((acc ++ l).map (·.1)).Nodup → mergeK acc l = acc ++ l := fun l => by
    induction l with
    | nil => intro acc _; show acc = acc ++ []; rw [List.append_nil]
    | cons p l ih =>
      intro acc hn
      have hnew : valV acc p.1 = none := by
        cases e : valV acc p.1 with
        | none => rfl
        | some v =>
          have hm : p.1 ∈ acc.map (·.1) := valV_in e
          rw [List.map_append, List.map_cons] at hn
          exact absurd rfl ((List.nodup_append.mp hn).2.2 _ hm _ (List.mem_cons_self ..))
      show mergeK (putK acc p.1 p.2) l = _
      rw [putK_new _ hnew, ih _ (by rw [List.append_assoc]; exact hn), List.append_assoc]
      rfl
  have := key kvs [] (by rw [List.nil_append, hk]; exact n)
  rw [this, List.nil_append]
theorem pe_dstar {X : Cx} {pos : Pos} {xe : Expr} {tx : TE} {keys : List (Option Expr)} {values : List Expr} {trs : List (TE × TE)} (hx : PE X xe tx) (hp : PPs X pos keys values trs) (hall : keys.all (·.isSome) = true) (hl : keys.length = values.length) (h0 : keys ≠ []) (h15 : keys.length ≤ 15) :
    PE X (.Dict (none :: keys) (xe :: values) pos) (tDStar tx trs) := by
  refine ⟨fun pins s σ H Q I q => ?_⟩
  have hn := I.hok.fresh (Nat.le_refl s.heap.objs.size)
  have I1 := I.laid (a := s.heap.objs.size) (o := .dK []) (h' := s.heap.push { cls := .type "dict", data := .dict #[] }) (t' := s.toks) (fun _ _ z => Heap.get?_push_of_some _ z) (Nat.le_refl _) (dk_empty s.heap I.big)
  have elen := pairTrees_length keys values X.env pos hall hl
  rw [PySem.arm_eval_Dict]
  have esh : (evalEachOpt (none :: keys) X.env).zip ((evalEach (xe :: values) X.env).map fun v => do let x ← v; standAt pos; pure x) =
      (none, do let x ← eval xe X.env; standAt pos; pure x) :: (pairTrees keys values X.env pos).map fun p => (some p.1, p.2) := by
    rw [← zip_pairTrees keys values X.env pos hall hl]
    rfl
  rw [esh]
  refine wpAny_bind (wpAny_standAt (disp_walk (by
    intro e
    rw [e] at elen
    exact h0 (List.length_eq_zero_iff.mp elen.symm)) (by omega) ?_))
  refine wpAny_bind (thn (hx.run pins _ σ _ _ I1 (q _ hn)) fun u s1 ⟨x, H1, I2, rx, a, kvs, ex, ha, hne, hd, hk, q1⟩ => ?_)
  subst ex
  obtain rfl : u = Value.ref a := rx
  refine wpAny_bind (wpAny_standAt (wpAny_pure ?_))
  obtain ⟨_, zd, vd, rd, Td⟩ := dk_of I2.hok hd
  cases rd
  obtain ⟨_, za, va, ra, Ta⟩ := dk_of I2.hok ha
  have la : va.length = kvs.length := (Paired.length ra).symm
  refine merge_of (Ne.symm hne) za Td Ta (by rw [la]; exact Nat.le_of_lt (small1000 (by rw [List.length_nil]; omega))) fun h2 T2 S2 => ?_
  have nva : (va.map (·.1)).Nodup := by
    obtain ⟨_, _, _, _, _, _, _, _, n⟩ := Ta
    exact n
  have em : mergeK [] kvs = kvs := merge_nodup ra nva
  have r2 : KV (mergeK [] kvs) (merged [] va) := ra.merge .nil
  rw [em] at r2
  have I3 := d_write (t' := s1.toks) I2 (by rw [hd]; exact True.intro) S2 (let ⟨o, _, _, e, _⟩ := T2; ⟨o, e⟩) (dk_new (Nat.le_of_lt (small1000 hk)) zd r2 T2)
  have he := I3.hok.fresh (Nat.le_refl h2.objs.size)
  have I4 := I3.laid (a := h2.objs.size) (o := .dK []) (h' := h2.push { cls := .type "dict", data := .dict #[] }) (t' := s1.toks) (fun _ _ z => Heap.get?_push_of_some _ z) (Nat.le_refl _) (dk_empty h2 I3.big)
  refine wpAny_subDict (knd := mixKind X.prog X.w) (by omega) (thn (hp.run pins _ σ _ _ I4 (q1 _ he)) fun ws s5 ⟨ps, H5, I5, rel, e5, d5, more, ep, lk, q5⟩ => ?_)
  subst ep
  obtain ⟨rs, c, rk⟩ := carries_of (P := X.prog) (w := X.w) rel
  obtain ⟨_, ze, ve, re, Te⟩ := dk_of I5.hok e5
  cases re
  refine ⟨rs, c, Te, fun h6 T6 S6 => ?_⟩
  have lm : (mergeK [] more).length ≤ more.length := by
    have := length_mergeK more []
    rw [List.length_nil, Nat.zero_add] at this
    exact this
  have I6 := d_write (t' := s5.toks + ws.length) I5 (by rw [e5]; exact True.intro) S6 (let ⟨o, _, _, e, _⟩ := T6; ⟨o, e⟩) (dk_new (Nat.le_of_lt (small1000 (by omega))) ze (rk.merge .nil) T6)
  have hde : s.heap.objs.size ≠ h2.objs.size := fun e => by
    rw [← e] at he
    rw [upd_same] at he
    cases he
  have d6 : (upd H5 h2.objs.size (.dK (mergeK [] more))) s.heap.objs.size = some (.dK kvs) := by rw [upd_ne hde]; exact d5
  have e6 : (upd H5 h2.objs.size (.dK (mergeK [] more))) h2.objs.size = some (.dK (mergeK [] more)) := upd_same
  obtain ⟨_, zd6, vd6, rd6, Td6⟩ := dk_of I6.hok d6
  obtain ⟨_, ze6, ve6, re6, Te6⟩ := dk_of I6.hok e6
  have l1 : vd6.length = kvs.length := (Paired.length rd6).symm
  have l2 : ve6.length = (mergeK [] more).length := (Paired.length re6).symm
  have l3 : kvs.length + (mergeK [] more).length ≤ sizeLine := by
    have : sizeLine = 16777216 := by decide
    omega
  refine merge_of hde ze6 Td6 Te6 (by rw [l1, l2]; exact l3) fun h7 T7 S7 => ?_
  refine ⟨.ref s.heap.objs.size, _, ?_, rfl, q5⟩
  exact d_write (t' := s5.toks + ws.length) I6 (by rw [d6]; exact True.intro) S7 (let ⟨o, _, _, e, _⟩ := T7; ⟨o, e⟩) (dk_new (by
    have := length_mergeK (mergeK [] more) kvs
    omega) zd6 (re6.merge rd6) T7)
end Rd


set_option Elab.async false
set_option linter.all false
set_option maxRecDepth 100000
set_option maxHeartbeats 4000000
namespace Kt
open PySem PySem.Spec L2 PyProof.Rows Km Ka
/-! ### expressions in the heap -/
def ExAt (H : Hp) : V → EX → Prop
  | v, .num n => ∃ p, v = .ref p ∧ H p = some (.tup [.str "num", .int n])
  | v, .name x => ∃ p, v = .ref p ∧ H p = some (.tup [.str "name", .str x])
  | v, .fn x b => ∃ p vb, v = .ref p ∧ H p = some (.tup [.str "fun", .str x, vb]) ∧ ExAt H vb b
  | v, .call f a => ∃ p vf va, v = .ref p ∧ H p = some (.tup [.str "call", vf, va]) ∧ ExAt H vf f ∧ ExAt H va a
  | v, .lt x b e => ∃ p vb ve, v = .ref p ∧ H p = some (.tup [.str "let", .str x, vb, ve]) ∧ ExAt H vb b ∧ ExAt H ve e
  | v, .pair a b => ∃ p va vb, v = .ref p ∧ H p = some (.tup [.str "pair", va, vb]) ∧ ExAt H va a ∧ ExAt H vb b
  | v, .fst e => ∃ p ve, v = .ref p ∧ H p = some (.tup [.str "fst", ve]) ∧ ExAt H ve e
  | v, .not e => ∃ p ve, v = .ref p ∧ H p = some (.tup [.str "not", ve]) ∧ ExAt H ve e
theorem ExAt.stay {F : Addr → Prop} {H H' : Hp} (k : Ch F H H') : ∀ {v : V} {e : EX}, ExAt H v e → ExAt H' v e
  | _, .num _, ⟨p, e, h⟩ => ⟨p, e, k.tup _ _ h⟩
  | _, .name _, ⟨p, e, h⟩ => ⟨p, e, k.tup _ _ h⟩
  | _, .fn _ _, ⟨p, vb, e, h, hb⟩ => ⟨p, vb, e, k.tup _ _ h, ExAt.stay k hb⟩
  | _, .call _ _, ⟨p, va, vb, e, h, ha, hb⟩ => ⟨p, va, vb, e, k.tup _ _ h, ExAt.stay k ha, ExAt.stay k hb⟩
  | _, .lt _ _ _, ⟨p, va, vb, e, h, ha, hb⟩ => ⟨p, va, vb, e, k.tup _ _ h, ExAt.stay k ha, ExAt.stay k hb⟩
  | _, .pair _ _, ⟨p, va, vb, e, h, ha, hb⟩ => ⟨p, va, vb, e, k.tup _ _ h, ExAt.stay k ha, ExAt.stay k hb⟩
  | _, .fst _, ⟨p, vb, e, h, hb⟩ => ⟨p, vb, e, k.tup _ _ h, ExAt.stay k hb⟩
  | _, .not _, ⟨p, vb, e, h, hb⟩ => ⟨p, vb, e, k.tup _ _ h, ExAt.stay k hb⟩
/-! ### names -/
def envK (l : Env0) : List (Key × V) := l.map fun p => ((Sum.inr p.1 : Key), nv p.2)
abbrev EnvAt (H : Hp) (d : Addr) (l : Env0) : Prop := H d = some (.dK (envK l))
theorem envK_get (x : Str) : ∀ l : Env0, valV (envK l) (Sum.inr x : Key) = (envGet l x).map nv
  | [] => rfl
  | (y, v) :: r => by
    have ih := envK_get x r
    show valV ((Sum.inr y, nv v) :: envK r) _ = (if y = x then some v else envGet r x).map nv
    by_cases e : y = x
    · rw [if_pos e]
      exact valV_pos (p := ((Sum.inr y : Key), nv v)) (by rw [e])
    · rw [if_neg e, valV_neg (p := ((Sum.inr y : Key), nv v)) fun q => e (Sum.inr.inj q)]
      exact ih
theorem envK_put (l : Env0) (x : Str) (v : Nat) : putK (envK l) (Sum.inr x : Key) (nv v) = envK (envPut l x v) := by
  have ea : ((envK l).any fun kv => decide (kv.1 = (Sum.inr x : Key))) = l.any fun p => decide (p.1 = x) := by
    unfold envK
    rw [List.any_map]
    congr 1
    funext p
    exact decide_eq_decide.mpr ⟨fun q => Sum.inr.inj q, fun q => congrArg Sum.inr q⟩
  unfold putK envPut
  rw [ea]
  by_cases c : (l.any fun p => decide (p.1 = x)) = true
  · rw [if_pos c, if_pos c]
    unfold envK
    rw [List.map_map, List.map_map]
    refine List.map_congr_left fun p _ => ?_
    show (if (Sum.inr p.1 : Key) = Sum.inr x then ((Sum.inr p.1 : Key), nv v) else (Sum.inr p.1, nv p.2)) = ((Sum.inr (if p.1 = x then (p.1, v) else p).1 : Key), nv (if p.1 = x then (p.1, v) else p).2)
    by_cases e : p.1 = x
    · rw [if_pos e, if_pos (by rw [e])]
    · rw [if_neg e, if_neg fun q => e (Sum.inr.inj q)]
  · rw [if_neg c, if_neg c]
    unfold envK
    rw [List.map_append]
    rfl
theorem envPut_len (l : Env0) (x : Str) (v : Nat) : (envPut l x v).length ≤ l.length + 1 := by
  unfold envPut
  split
  · rw [List.length_map]; omega
  · rw [List.length_append]; exact Nat.le_refl _
/-! ### what may be refused for its size -/
theorem rs_sub {α β : Type} {CU : Addr} {F F1 : Addr → Prop} {H H1 : Hp} {r : Rs α} {k : α → Rs β} {good : β → Prop} {good1 : α → Prop} {E : XK} (h : RsEnd CU F H (r.bind k) good E) (mv : Mv F H F1 H1)
    (g : ∀ a, r = .ok a → RsEnd CU F H (k a) good E → good1 a) : RsEnd CU F1 H1 r good1 E := by
  cases r with
  | bad => exact h
  | big => exact fun H' d c e => h H' d (mv.ch.trans c mv.gr) e
  | ok a => exact g a rfl h
theorem rs_ok {α β : Type} {CU : Addr} {F : Addr → Prop} {H : Hp} {r : Rs α} {k : α → Rs β} {good : β → Prop} {E : XK} (h : RsEnd CU F H (r.bind k) good E) (nb : r ≠ .big) : ∃ a, r = .ok a ∧ RsEnd CU F H (k a) good E := by
  cases r with
  | bad => exact h.elim
  | big => exact absurd rfl nb
  | ok a => exact ⟨a, rfl, h⟩
theorem rs_last {α : Type} {CU : Addr} {F F1 : Addr → Prop} {H H1 : Hp} {r : Rs α} {good good1 : α → Prop} {E : XK} (h : RsEnd CU F H r good E) (mv : Mv F H F1 H1) (g : ∀ a, r = .ok a → good a → good1 a) : RsEnd CU F1 H1 r good1 E := by
  cases r with
  | bad => exact h
  | big => exact fun H' d c e => h H' d (mv.ch.trans c mv.gr) e
  | ok a => exact g a rfl h
theorem nb_found {s : MS} {k : Nat} : foundM s k ≠ .big := by
  unfold foundM
  split <;> intro q <;> cases q
theorem nb_mk {s : MS} {fm : Fm} : mkM s fm ≠ .big := by
  unfold mkM
  split <;> intro q <;> cases q
theorem nb_fresh {s : MS} : freshM s ≠ .big := by
  unfold freshM
  split <;> intro q <;> cases q
theorem nb_flow {s : MS} {i j : Nat} : flowM s i j ≠ .big := by
  unfold flowM
  split <;> intro q <;> cases q
theorem nb_wfit {s : MS} {i j : Nat} : wfitM s i j ≠ .big := by
  unfold wfitM
  cases e : foundM s i with
  | bad => intro q; cases q
  | big => exact absurd e nb_found
  | ok t =>
    show (match fitAll s.tm t j with | some (true, m') => Rs.ok { s with tm := m' } | _ => .bad) ≠ .big
    split <;> intro q <;> cases q
theorem flowM_ok {s s' : MS} {i j : Nat} (h : flowM s i j = .ok s') : s.tm.b < 899 ∧ i < s.tm.n ∧ j < s.tm.n ∧ s' = { s with tm := { s.tm with b := s.tm.b + 1 } } := by
  unfold flowM at h
  by_cases c : s.tm.b < 899 ∧ i < s.tm.n ∧ j < s.tm.n
  · rw [if_pos c] at h
    cases h
    exact ⟨c.1, c.2.1, c.2.2, rfl⟩
  · rw [if_neg c] at h; cases h
theorem freshM_ok {s s' : MS} {i : Nat} (h : freshM s = .ok (i, s')) : s.tm.n < 99 ∧ i = s.tm.n ∧ s' = { s with tm := { s.tm with n := s.tm.n + 1 } } := by
  unfold freshM at h
  by_cases c : s.tm.n < 99
  · rw [if_pos c] at h
    cases h
    exact ⟨c, rfl, rfl⟩
  · rw [if_neg c] at h; cases h
/-- a def that is called by its name -/
structure Fn (P : Program) (w : World) (K : PySem.W.Frag) (mg : Str → Option Value) (base : Heap) (X : CXT) (k : Nat) (x : Str) (ps : List Str) (sp : Sp) (f : Addr) (fd : FuncData) : Prop where
  ok : FnOk P w K mg base X k f fd ps sp
  g : mg x = some (.ref f)
  kp : PySem.W.keepIn K (.ref f) = true
  b : Binds K fd ps []
section
variable {P : Program} {w : World} {K : PySem.W.Frag} {mg : Str → Option Value} {base : Heap}
abbrev Go := MS → EX → Env0 → Rs (Nat × MS)
def spGo (go : Go) (CU CW C CR : Addr) (K : PySem.W.Frag) : Sp := fun vs H Q E => ∃ (wk d : Addr) (v : V) (s : MS) (F : Addr → Prop) (e : EX) (names : Env0), vs = [.ref wk, v, .ref d] ∧ ExAt H v e ∧ EnvAt H d names ∧ ¬ F d ∧ WkAt K CW C CR H wk s F ∧
  RsEnd CU F H (go s e names) (fun p => WkOut K CW C CR H wk p.2 F fun H' => Q (nv p.1) H') E
def spInto (go : Go) (CU CW C CR : Addr) (K : PySem.W.Frag) : Sp := fun vs H Q E => ∃ (wk d : Addr) (v : V) (s : MS) (F : Addr → Prop) (e : EX) (names : Env0) (row : Nat), vs = [.ref wk, v, .ref d, nv row] ∧ ExAt H v e ∧ EnvAt H d names ∧ ¬ F d ∧ WkAt K CW C CR H wk s F ∧
  RsEnd CU F H (intoM go s e names row) (fun p => WkOut K CW C CR H wk p.2 F fun H' => Q (nv p.1) H') E
def spRule (ok : EX → Prop) (go : Go) (CU CW C CR : Addr) (K : PySem.W.Frag) : Sp := fun vs H Q E => ∃ (wk d : Addr) (v : V) (s : MS) (F : Addr → Prop) (e : EX) (names : Env0) (row : Nat), vs = [.ref wk, v, .ref d, nv row] ∧ ok e ∧ ExAt H v e ∧ EnvAt H d names ∧ names.length ≤ 90 ∧ ¬ F d ∧ WkAt K CW C CR H wk s F ∧
  RsEnd CU F H (ruleM go s names row e) (fun p => WkOut K CW C CR H wk p.2 F fun H' => Q (nv p.1) H') E
abbrev gInto : Stmt := topS 18
abbrev nInto : List Str := ["work", "part", "names", "row", "number"]
theorem scInto : FnScope nInto ["work", "part", "names", "row"] (defScope gInto) := ⟨rfl, rfl, rfl, by decide +kernel, rfl, by decide +kernel, by decide +kernel⟩
theorem ok_into {k : Nat} {go : Go} {f fG fF CU CW C CR : Addr} {fd fdG fdF : FuncData} (F : Fun K "go_into" "go_into" gInto f fd) (TW : WTxt K mg CW) (TR : Txt K mg CR) (hk : 1 ≤ k)
    (G : Fn P w K mg base (CX P w) k "go_through" ["work", "expression", "names"] (spGo go CU CW C CR K) fG fdG)
    (GF : FnOk P w K mg base CX0 1 fF fdF ["self", "source", "target", "without"] (spFlow CR K)) (bF : Binds K fdF ["self", "source", "target", "without"] []) (mF : Meth K CR "flow" fF) : FnOk P w K mg base (CX P w) (k + 1) f fd ["work", "part", "names", "row"] (spInto go CU CW C CR K) := by
  refine F.okX scInto (fun vs H Q E h => ?_) (fun cdv A outer s H vs Q E hr h => ?_)
  · obtain ⟨wk, d, v, s, F, e, names, row, rfl, _⟩ := h
    rfl
  · obtain ⟨wk, d, v, s, F, e, names, row, rfl, he, hd, nd, hW, hend⟩ := h
    refine ⟨_, pss_cons (ps_set (i := 4) scInto.nd rfl (Or.inl rfl) (pe_call G.ok hr (by rfl) G.g G.kp G.b .nil (passes_call (takes_of rfl rfl rfl rfl) (fun _ _ _ _ h => h)) (pa_cons (pv 0) (pa_cons (pv 1) (pa_cons (pv 2) pa_nil)))))
      (pss_cons (ps_expr (pe_meth (pe_fld (pv 0) rfl) TR.cl mF GF (hr.mono hk) bF .nil pass0 (pa_cons (pe_ix ix_list (pe_fld (pv 0) rfl) (pv 4) (fun _ _ => rfl)) (pa_cons (pv 3) (pa_cons (pe_lst pa_nil) pa_nil)))))
      (pss_one (ps_ret (pv 4)))), ?_⟩
    refine ⟨_, rfl, _, rfl, _, rfl, ?_⟩
    refine ⟨wk, d, v, s, F, e, names, rfl, he, hd, nd, hW, rs_sub hend (.refl _ _) fun p ep hend1 => fun H1 F1 hW1 mv1 => ?_⟩
    obtain ⟨num, s1⟩ := p
    dsimp only at hend1 hW1 ⊢
    cases ea : s1.ak[num]? with
    | none => rw [ea] at hend1; exact hend1.elim
    | some a =>
      rw [ea] at hend1
      obtain ⟨s2, ef, hend2⟩ := rs_ok hend1 nb_flow
      obtain ⟨f1, f2, f3, rfl⟩ := flowM_ok ef
      obtain ⟨dx, r, t, dg, da, lo, la, FT, hi, rfl⟩ := hW1
      obtain ⟨E1, FR, hR, back⟩ := hi.ty.rows
      obtain ⟨dxr, l1, d1, ir⟩ := hR.ins
      refine ⟨_, rfl, wk, CW, dx, _, _, rfl, hi.ins, TW.cl, TW.nR, pw_rows _ _ _ _ _ _, r, dxr, _, rfl, ir, pf_no _ _ (by decide +kernel) (by decide +kernel), ?_⟩
      refine ⟨_, rfl, wk, CW, dx, _, _, rfl, hi.ins, TW.cl, TW.nK, pw_asked _ _ _ _ _ _, _, rfl, la, _, _, _, rfl, rfl, SqL.of hi.ak, at_nv ea, _, rfl, Nat.zero_le _, fun u hu => ?_⟩
      have hi1 := hi.stay (F' := F0) (ch_new (o := HO.lst []) hu) (fun _ _ f => f) (fun f => f) fun f => f
      have mv2 : Mv (FWk lo la FT) H1 (FWk lo la FT) (upd H1 u (.lst [])) := .new hu
      have hsu : SqL K (upd H1 u (.lst [])) u (([] : List Str).map V.str) := SqL.of upd_same
      generalize upd H1 u (.lst []) = H2 at hi1 mv2 hsu
      obtain ⟨E2, FR2, hR2, back2⟩ := hi1.ty.rows
      refine ⟨r, u, _, _, E2, _, FR2, a, row, [], rfl, hR2, (show s1.tm.b < 1000 by omega), f2, f3, hsu, fun H3 FR3 hR3 c3 g3 => ?_⟩
      obtain ⟨FT3, hT3, mvT⟩ := back2 hR3 c3 g3
      obtain ⟨hi3, mv3⟩ := hi1.types hT3 mvT
      exact ⟨_, rfl, hend2 _ _ ⟨dx, r, t, dg, da, lo, la, FT3, hi3, rfl⟩ ((mv1.trans mv2).trans mv3)⟩
end
end Kt


set_option Elab.async false
set_option linter.all false
set_option maxRecDepth 100000
set_option maxHeartbeats 4000000
namespace Kt
open PySem PySem.Spec L2 PyProof.Rows Km Ka
abbrev pInto : List Str := ["work", "part", "names", "row"]
abbrev pRule : List Str := ["work", "expression", "names", "row"]
/-- what the rules call -/
structure Av (P : Program) (w : World) (K : PySem.W.Frag) (mg : Str → Option Value) (base : Heap) (k : Nat) (go : Go) (CU CW C CR e : Addr) : Prop where
  TW : WTxt K mg CW
  T : TTxt K mg C
  TR : Txt K mg CR
  hk : 7 ≤ k
  into : ∃ f fd, Fn P w K mg base (CX P w) (k + 1) "go_into" pInto (spInto go CU CW C CR K) f fd
  made : ∃ f fd, FnOk P w K mg base CX0 1 f fd pMade (spMade C CR K) ∧ MadeB K fd e ∧ Meth K C "made" f
  und : ∃ f fd, FnOk P w K mg base CX0 2 f fd ["self"] (spUnd C CR K) ∧ Binds K fd ["self"] [] ∧ Meth K C "undecided" f
  fresh : ∃ f fd, FnOk P w K mg base CX0 1 f fd ["self"] (spFresh CR) ∧ Binds K fd ["self"] [] ∧ Meth K CR "fresh" f
  flow : ∃ f fd, FnOk P w K mg base CX0 1 f fd ["self", "source", "target", "without"] (spFlow CR K) ∧ Binds K fd ["self", "source", "target", "without"] [] ∧ Meth K CR "flow" f
  fit : ∃ f fd, FnOk P w K mg base CX0 6 f fd ["self", "number", "wanted"] (spWfit CW C CR K) ∧ Binds K fd ["self", "number", "wanted"] [] ∧ Meth K CW "fit" f
  kind : ∃ f fd, FnOk P w K mg base CX0 7 f fd ["self", "number", "kind"] (spKind CW C CR K) ∧ Binds K fd ["self", "number", "kind"] [] ∧ Meth K CW "fit_kind" f
  lit : ∃ p, mg "LITERALS" = some (.ref p) ∧ KDct K w p "num" (.str "int")
section
variable {P : Program} {w : World} {K : PySem.W.Frag} {mg : Str → Option Value} {base : Heap}
theorem pw_kind (r t dg da lo la : Addr) : (pw r t dg da lo la).lookup ("fit_kind" : Str) = none := pw_no _ _ _ _ _ _ (by decide +kernel) (by decide +kernel) (by decide +kernel) (by decide +kernel) (by decide +kernel) (by decide +kernel)
theorem merge_one (kvs : List (Key × V)) (k : Key) (v : V) : mergeK kvs (mergeK [] [(k, v)]) = putK kvs k v := by
  have : mergeK ([] : List (Key × V)) [(k, v)] = [(k, v)] := by
    show putK ([] : List (Key × V)) k v = _
    unfold putK
    rfl
  rw [this]
  rfl
/-! ### literal_rule -/
abbrev gLit : Stmt := topS 19
theorem scLit : FnScope pRule pRule (defScope gLit) := ⟨rfl, rfl, rfl, by decide +kernel, rfl, by decide +kernel, by decide +kernel⟩
def isNum : EX → Prop
  | .num _ => True
  | _ => False
theorem ok_lit {k : Nat} {go : Go} {f CU CW C CR e : Addr} {fd : FuncData} (F : Fun K "literal_rule" "literal_rule" gLit f fd) (V_ : Av P w K mg base k go CU CW C CR e) : FnOk P w K mg base (CX P w) (k + 2) f fd pRule (spRule isNum go CU CW C CR K) := by
  refine F.okX scLit (fun vs H Q E h => ?_) (fun cdv A outer s H vs Q E hr h => ?_)
  · obtain ⟨wk, d, v, s, F, e, names, row, rfl, _⟩ := h
    rfl
  · obtain ⟨wk, d, v, s, F, ex, names, row, rfl, hok, he, hd, hn, nd, hW, hend⟩ := h
    obtain ⟨fM, fdM, GM, B, mM⟩ := V_.made
    obtain ⟨ds, hds, hb⟩ := B.b2
    obtain ⟨pL, gL, dL⟩ := V_.lit
    refine ⟨_, pss_one (ps_ret (pe_meth (pe_fld (pv 0) rfl) V_.T.cl mM GM (hr.mono (by omega)) hb hds pass0 (pa_cons (pe_ix ix_kdict (pe_glob (v := V.ref pL) rfl gL rfl) (pe_ix ix_tup (pv 1) pe_int (fun _ _ => rfl)) (fun _ _ => rfl)) pa_nil))), ?_⟩
    cases ex with
    | num n =>
      obtain ⟨p, rfl, hp⟩ := he
      obtain ⟨dx, r, t, dg, da, lo, la, FT, hi, rfl⟩ := hW
      obtain ⟨dxt, lf, ll, it⟩ := hi.insT
      obtain ⟨⟨ty, s1⟩, em, hend1⟩ := rs_ok (k := fun p => Rs.ok p) (by cases hm : mkM s ⟨some .int, [], none⟩ with
        | bad => rw [show ruleM go s names row (.num n) = mkM s ⟨some .int, [], none⟩ from rfl, hm] at hend; exact hend
        | big => exact absurd hm nb_mk
        | ok a => rw [show ruleM go s names row (.num n) = mkM s ⟨some .int, [], none⟩ from rfl, hm] at hend; exact hend) (nb_mk (s := s) (fm := ⟨some .int, [], none⟩))
      obtain ⟨g1, g2, rfl, rfl⟩ := mkM_ok em
      refine ⟨_, rfl, wk, CW, dx, _, _, rfl, hi.ins, V_.TW.cl, V_.TW.nT, pw_types _ _ _ _ _ _, t, dxt, _, rfl, it, pt_made _ _ _, _, rfl, p, _, 0, _, rfl, rfl, SqT.of hp, rfl, pL, _, _, rfl, rfl, dL, ?_⟩
      refine ⟨t, r, e, s.tm, FT, ⟨some .int, [], none⟩, rfl, .inr B.emp, Nat.zero_le _, hi.ty, g1, g2, fun H2 F2 hT2 mv2 => ?_⟩
      obtain ⟨hi2, mvw⟩ := hi.types hT2 mv2
      exact hend1 _ _ ⟨dx, r, t, dg, da, lo, la, F2, hi2, rfl⟩ mvw
    | _ => exact hok.elim
/-! ### name_rule -/
abbrev gName_ : Stmt := topS 20
abbrev nName : List Str := ["work", "expression", "names", "row", "name"]
theorem scName : FnScope nName pRule (defScope gName_) := ⟨rfl, rfl, rfl, by decide +kernel, rfl, by decide +kernel, by decide +kernel⟩
def isName : EX → Prop
  | .name _ => True
  | _ => False
theorem ok_name {k : Nat} {go : Go} {f CU CW C CR e : Addr} {fd : FuncData} (F : Fun K "name_rule" "name_rule" gName_ f fd) (V_ : Av P w K mg base k go CU CW C CR e) : FnOk P w K mg base (CX P w) (k + 2) f fd pRule (spRule isName go CU CW C CR K) := by
  refine F.okX scName (fun vs H Q E h => ?_) (fun cdv A outer s H vs Q E hr h => ?_)
  · obtain ⟨wk, d, v, s, F, e, names, row, rfl, _⟩ := h
    rfl
  · obtain ⟨wk, d, v, s, F, ex, names, row, rfl, hok, he, hd, hn, nd, hW, hend⟩ := h
    have hu := hu_of hr
    refine ⟨_, pss_cons (ps_set (i := 4) scName.nd rfl (Or.inl rfl) (pe_ix ix_tup (pv 1) pe_int (fun _ _ => rfl)))
      (pss_cons (ps_if (pt_cmp (pc_dnotin hu (pv 4) (pv 2))) pss_never pss_nil)
      (pss_one (ps_ret (pe_dget hu (pv 2) (pv 4) (fun _ _ => rfl))))), ?_⟩
    cases ex with
    | name x =>
      obtain ⟨p, rfl, hp⟩ := he
      have hend' : RsEnd CU F H (match envGet names x with | none => .bad | some t => .ok (t, s)) _ E := hend
      cases eg : envGet names x with
      | none => rw [eg] at hend'; exact hend'.elim
      | some t =>
        rw [eg] at hend'
        have hval : DGet H d (.str x) (some (nv t)) := by
          have := DGet.k (k := (Sum.inr x : Key)) hd
          rw [envK_get, eg] at this
          exact this
        refine ⟨_, rfl, p, _, 1, _, rfl, rfl, SqT.of hp, rfl, ?_⟩
        refine ⟨_, rfl, _, rfl, d, _, rfl, hval, _, rfl, ?_⟩
        refine iteF ?_
        exact ⟨_, rfl, _, rfl, d, _, rfl, hval, hend' _ _ hW (.refl _ _)⟩
    | _ => exact hok.elim
end
end Kt


set_option Elab.async false
set_option linter.all false
set_option maxRecDepth 100000
set_option maxHeartbeats 4000000
namespace Kt
open PySem PySem.Spec L2 PyProof.Rows Km Ka
theorem rs_okL {α : Type} {CU : Addr} {F : Addr → Prop} {H : Hp} {r : Rs α} {good : α → Prop} {E : XK} (h : RsEnd CU F H r good E) (nb : r ≠ .big) : ∃ a, r = .ok a ∧ good a := by
  cases r with
  | bad => exact h.elim
  | big => exact absurd rfl nb
  | ok a => exact ⟨a, rfl, h⟩
theorem dstar_end {K : PySem.W.Frag} {CW C CR : Addr} {H H1 : Hp} {wk d d2 e2 : Addr} {s : MS} {F F1 : Addr → Prop} {names : Env0} {x : Str} {t : Nat} (hW : WkAt K CW C CR H1 wk s F1) (mv : Mv F H F1 H1) (hd : EnvAt H1 d names) (h2 : H1 d2 = none)
    (he : (upd (upd H1 d2 (.dK [])) d2 (.dK (envK names))) e2 = none) : ∃ Hf, Hf = upd (upd (upd (upd (upd H1 d2 (.dK [])) d2 (.dK (envK names))) e2 (.dK [])) e2 (.dK (mergeK [] [((Sum.inr x : Key), nv t)]))) d2 (.dK (mergeK (envK names) (mergeK [] [((Sum.inr x : Key), nv t)]))) ∧
      WkAt K CW C CR Hf wk s F1 ∧ Mv F H F1 Hf ∧ EnvAt Hf d2 (envPut names x t) ∧ ¬ F1 d2 ∧ Same H1 Hf ∧ d ≠ d2 ∧ d2 ≠ e2 ∧ Same H1 (upd (upd (upd H1 d2 (.dK [])) d2 (.dK (envK names))) e2 (.dK [])) := by
  have n2 : d2 ≠ e2 := fun q => by rw [← q, upd_same] at he; cases he
  have e0 : H1 e2 = none := by rw [upd_ne n2.symm, upd_ne n2.symm] at he; exact he
  have s1 : Same H1 (upd (upd (upd H1 d2 (.dK [])) d2 (.dK (envK names))) e2 (.dK [])) := same_upd_at (same_upd_at (same_new h2) h2) e0
  have s2 := same_upd_at (o := .dK (mergeK (envK names) (mergeK [] [((Sum.inr x : Key), nv t)]))) (same_upd_at (o := .dK (mergeK [] [((Sum.inr x : Key), nv t)])) s1 e0) h2
  refine ⟨_, rfl, hW.same s2, mv.trans ⟨ch_of_same s2, fun _ f => .inl f⟩, ?_, hW.notin h2, s2, ne_of_none hd h2, n2, s1⟩
  show upd _ d2 _ d2 = _
  rw [upd_same, merge_one, envK_put]
section
variable {P : Program} {w : World} {K : PySem.W.Frag} {mg : Str → Option Value} {base : Heap}
/-! ### let_rule -/
abbrev gLet : Stmt := topS 24
abbrev nLet : List Str := ["work", "expression", "names", "row", "_", "name", "bound", "body", "first", "second"]
theorem scLet : FnScope nLet pRule (defScope gLet) := ⟨rfl, rfl, rfl, by decide +kernel, rfl, by decide +kernel, by decide +kernel⟩
def isLet : EX → Prop
  | .lt _ _ _ => True
  | _ => False
theorem ok_let {k : Nat} {go : Go} {f CU CW C CR e : Addr} {fd : FuncData} (F : Fun K "let_rule" "let_rule" gLet f fd) (V_ : Av P w K mg base k go CU CW C CR e) : FnOk P w K mg base (CX P w) (k + 2) f fd pRule (spRule isLet go CU CW C CR K) := by
  refine F.okX scLet (fun vs H Q E h => ?_) (fun cdv A outer s H vs Q E hr h => ?_)
  · obtain ⟨wk, d, v, s, F, e, names, row, rfl, _⟩ := h
    rfl
  · obtain ⟨wk, d, v, s, F, ex, names, row, rfl, hok, he, hd, hn, nd, hW, hend⟩ := h
    have hu := hu_of hr
    have hk := V_.hk
    obtain ⟨fI, fdI, GI⟩ := V_.into
    obtain ⟨fM, fdM, GM, BM, mM⟩ := V_.made
    obtain ⟨fU, fdU, GU, bU, mU⟩ := V_.und
    obtain ⟨fH, fdH, GH, bH, mH⟩ := V_.fresh
    obtain ⟨fL, fdL, GL, bL, mL⟩ := V_.flow
    obtain ⟨fW, fdW, GW, bW, mW⟩ := V_.fit
    obtain ⟨fK, fdK, GK, bK, mK⟩ := V_.kind
    obtain ⟨ds2, hds2, hb2⟩ := BM.b2
    obtain ⟨ds1, hds1, hb1⟩ := BM.b1
    have hb0 := BM.b0
    refine ⟨_, pss_cons (ps_asg (pv 1) (pg_tup rfl (pgs_cons (pg_name (i := 4) scLet.nd rfl (Or.inl rfl)) (pgs_cons (pg_name (i := 5) scLet.nd rfl (Or.inl rfl)) (pgs_cons (pg_name (i := 6) scLet.nd rfl (Or.inl rfl)) (pgs_cons (pg_name (i := 7) scLet.nd rfl (Or.inl rfl)) pgs_nil)))))) (pss_cons (ps_set (i := 8) scLet.nd rfl (Or.inl rfl) (pe_call GI.ok hr (by rfl) GI.g GI.kp GI.b .nil (passes_call (takes_of rfl rfl rfl rfl) (fun _ _ _ _ h => h)) (pa_cons (pv 0) (pa_cons (pv 6) (pa_cons (pv 2) (pa_cons (pv 3) pa_nil)))))) (pss_cons (ps_set (i := 9) scLet.nd rfl (Or.inl rfl) (pe_call GI.ok hr (by rfl) GI.g GI.kp GI.b .nil (passes_call (takes_of rfl rfl rfl rfl) (fun _ _ _ _ h => h)) (pa_cons (pv 0) (pa_cons (pv 7) (pa_cons (Rd.pe_dstar (pv 2) (pps_cons (pv 5) (pe_ix ix_list (pe_fld (pv 0) rfl) (pv 8) (fun _ _ => rfl)) pps_nil) (by rfl) (by rfl) (fun z => by cases z) (by decide)) (pa_cons (pv 3) pa_nil)))))) (pss_one (ps_ret (pe_ix ix_list (pe_fld (pv 0) rfl) (pv 9) (fun _ _ => rfl)))))), ?_⟩
    cases ex with
    | lt x b e =>
      obtain ⟨p, vb, ve, rfl, hp, hvb, hve⟩ := he
      refine ⟨_, rfl, p, _, rfl, SqT.of hp, rfl, _, _, rfl, _, _, rfl, _, _, rfl, _, _, rfl, rfl, ?_⟩
      refine ⟨_, rfl, _, rfl, _, rfl, _, rfl, ?_⟩
      refine ⟨wk, d, vb, s, F, b, names, row, rfl, hvb, hd, nd, hW, rs_sub hend (.refl _ _) fun p3 e3 hend1 => fun H1 F1 hW1 mv1 => ?_⟩
      obtain ⟨n1, s1⟩ := p3
      obtain ⟨t1, ef1, hend2⟩ := rs_ok hend1 nb_found
      have hd1 := mv1.keep hd nd
      refine ⟨_, rfl, _, rfl, fun d2 hd2 => ?_⟩
      refine ⟨_, rfl, d, _, rfl, (by rw [upd_ne (ne_of_none hd1 hd2)]; exact hd1), ne_of_none hd1 hd2, upd_same, (by unfold envK; rw [List.length_map]; omega), fun e2 he2 => ?_⟩
      obtain ⟨Hf, eHf, hWf, mvf, hdf, ndf, sf, n1', n2', s1'⟩ := dstar_end (x := x) (t := t1) hW1 mv1 hd1 hd2 he2
      obtain ⟨dx, r, t, dg, da, lo, la, FT, hi, rfl⟩ := id hW1
      refine ⟨_, rfl, _, rfl, wk, CW, dx, _, _, rfl, s1' _ _ hi.ins, V_.TW.cl, V_.TW.nF, pw_found _ _ _ _ _ _, _, rfl, lo, _, _, _, rfl, rfl, SqL.of (s1' _ _ hi.fo), found_at (foundM_ok ef1), ?_⟩
      refine ⟨upd_same, (by rw [upd_ne n2', upd_same]), [((Sum.inr x : Key), nv t1)], rfl, (by show 1 ≤ 15; decide), ?_⟩
      rw [← eHf]
      refine ⟨_, rfl, ?_⟩
      refine ⟨wk, d2, ve, s1, _, e, _, row, rfl, (hve.stay mv1.ch).stay (F := F0) (ch_of_same sf), hdf, ndf, hWf, rs_sub hend2 mvf fun p4 e4 hend3 => fun H4 F4 hW4 mv4 => ?_⟩
      obtain ⟨n2, s2⟩ := p4
      obtain ⟨t2, ef2, hend4⟩ := rs_ok hend3 nb_found
      obtain ⟨dx, r, t, dg, da, lo, la, FT, hi4, rfl⟩ := id hW4
      refine ⟨_, rfl, wk, CW, dx, _, _, rfl, hi4.ins, V_.TW.cl, V_.TW.nF, pw_found _ _ _ _ _ _, _, rfl, lo, _, _, _, rfl, rfl, SqL.of hi4.fo, found_at (foundM_ok ef2), ?_⟩
      exact hend4 _ _ hW4 (mvf.trans mv4)
    | _ => exact hok.elim
/-! ### not_rule -/
abbrev gNot : Stmt := topS 29
abbrev nNot : List Str := ["work", "expression", "names", "row", "number"]
theorem scNot : FnScope nNot pRule (defScope gNot) := ⟨rfl, rfl, rfl, by decide +kernel, rfl, by decide +kernel, by decide +kernel⟩
def isNot : EX → Prop
  | .not _ => True
  | _ => False
theorem ok_not {k : Nat} {go : Go} {f CU CW C CR e : Addr} {fd : FuncData} (F : Fun K "not_rule" "not_rule" gNot f fd) (V_ : Av P w K mg base k go CU CW C CR e) : FnOk P w K mg base (CX P w) (k + 2) f fd pRule (spRule isNot go CU CW C CR K) := by
  refine F.okX scNot (fun vs H Q E h => ?_) (fun cdv A outer s H vs Q E hr h => ?_)
  · obtain ⟨wk, d, v, s, F, e, names, row, rfl, _⟩ := h
    rfl
  · obtain ⟨wk, d, v, s, F, ex, names, row, rfl, hok, he, hd, hn, nd, hW, hend⟩ := h
    have hu := hu_of hr
    have hk := V_.hk
    obtain ⟨fI, fdI, GI⟩ := V_.into
    obtain ⟨fM, fdM, GM, BM, mM⟩ := V_.made
    obtain ⟨fU, fdU, GU, bU, mU⟩ := V_.und
    obtain ⟨fH, fdH, GH, bH, mH⟩ := V_.fresh
    obtain ⟨fL, fdL, GL, bL, mL⟩ := V_.flow
    obtain ⟨fW, fdW, GW, bW, mW⟩ := V_.fit
    obtain ⟨fK, fdK, GK, bK, mK⟩ := V_.kind
    obtain ⟨ds2, hds2, hb2⟩ := BM.b2
    obtain ⟨ds1, hds1, hb1⟩ := BM.b1
    have hb0 := BM.b0
    refine ⟨_, pss_cons (ps_set (i := 4) scNot.nd rfl (Or.inl rfl) (pe_call GI.ok hr (by rfl) GI.g GI.kp GI.b .nil (passes_call (takes_of rfl rfl rfl rfl) (fun _ _ _ _ h => h)) (pa_cons (pv 0) (pa_cons (pe_ix ix_tup (pv 1) (pe_int) (fun _ _ => rfl)) (pa_cons (pv 2) (pa_cons (pv 3) pa_nil)))))) (pss_cons (ps_expr (pe_meth (pv 0) V_.TW.cl mK GK (hr.mono (by omega)) bK .nil pass0 (pa_cons (pv 4) (pa_cons (pe_str) pa_nil)))) (pss_one (ps_ret (pe_meth (pe_fld (pv 0) rfl) V_.T.cl mM GM (hr.mono (by omega)) hb2 hds2 pass0 (pa_cons (pe_str) pa_nil))))), ?_⟩
    cases ex with
    | not b =>
      obtain ⟨p, ve, rfl, hp, hve⟩ := he
      refine ⟨_, rfl, _, rfl, p, _, 1, _, rfl, rfl, SqT.of hp, rfl, _, rfl, _, rfl, ?_⟩
      refine ⟨wk, d, ve, s, F, b, names, row, rfl, hve, hd, nd, hW, rs_sub hend (.refl _ _) fun p3 e3 hend1 => fun H1 F1 hW1 mv1 => ?_⟩
      obtain ⟨n1, s1⟩ := p3
      obtain ⟨⟨w4, s4⟩, em4, hend2⟩ := rs_ok hend1 nb_mk
      obtain ⟨s5, ew, hend3⟩ := rs_ok hend2 nb_wfit
      obtain ⟨⟨w6, s6⟩, em6, hend4⟩ := rs_okL hend3 nb_mk
      have ekd : kindM s1 n1 .bool = .ok s5 := by
        show (mkM s1 ⟨some .bool, [], none⟩).bind _ = _
        rw [em4]
        exact ew
      obtain ⟨dx, r, t, dg, da, lo, la, FT, hi, rfl⟩ := id hW1
      refine ⟨_, rfl, wk, dx, _, rfl, hi.ins, pw_kind _ _ _ _ _ _, _, rfl, ?_⟩
      refine ⟨wk, s1, s5, _, n1, .bool, rfl, hW1, ekd, fun H2 F2 hW2 mv2 => ?_⟩
      obtain ⟨dx, r, t, dg, da, lo, la, FT, hi2, rfl⟩ := id hW2
      obtain ⟨dxt, lf, ll, it⟩ := hi2.insT
      obtain ⟨g1, g2, rfl, rfl⟩ := mkM_ok em6
      refine ⟨_, rfl, wk, CW, dx, _, _, rfl, hi2.ins, V_.TW.cl, V_.TW.nT, pw_types _ _ _ _ _ _, t, dxt, _, rfl, it, pt_made _ _ _, ?_⟩
      refine ⟨t, r, _, s5.tm, FT, ⟨some .bool, [], none⟩, rfl, .inr BM.emp, Nat.zero_le _, hi2.ty, g1, g2, fun H3 F3 hT3 mv3 => ?_⟩
      obtain ⟨hi3, mvw⟩ := hi2.types hT3 mv3
      exact hend4 _ _ ⟨dx, r, t, dg, da, lo, la, F3, hi3, rfl⟩ ((mv1.trans mv2).trans mvw)
    | _ => exact hok.elim
end
end Kt


set_option Elab.async false
set_option linter.all false
set_option maxRecDepth 100000
set_option maxHeartbeats 4000000
namespace Kt
open PySem PySem.Spec L2 PyProof.Rows Km Ka
section
variable {P : Program} {w : World} {K : PySem.W.Frag} {mg : Str → Option Value} {base : Heap}
theorem pt_und (r lf ll : Addr) : (pt r lf ll).lookup ("undecided" : Str) = none := pt_no _ _ _ (by decide +kernel) (by decide +kernel) (by decide +kernel)
/-! ### function_rule -/
abbrev gFun : Stmt := topS 21
abbrev nFun : List Str := ["work", "expression", "names", "row", "_", "name", "body", "given", "own_row", "number"]
theorem scFun : FnScope nFun pRule (defScope gFun) := ⟨rfl, rfl, rfl, by decide +kernel, rfl, by decide +kernel, by decide +kernel⟩
def isFun : EX → Prop
  | .fn _ _ => True
  | _ => False
theorem ok_fun {k : Nat} {go : Go} {f CU CW C CR e : Addr} {fd : FuncData} (F : Fun K "function_rule" "function_rule" gFun f fd) (V_ : Av P w K mg base k go CU CW C CR e) : FnOk P w K mg base (CX P w) (k + 2) f fd pRule (spRule isFun go CU CW C CR K) := by
  refine F.okX scFun (fun vs H Q E h => ?_) (fun cdv A outer s H vs Q E hr h => ?_)
  · obtain ⟨wk, d, v, s, F, e, names, row, rfl, _⟩ := h
    rfl
  · obtain ⟨wk, d, v, s, F, ex, names, row, rfl, hok, he, hd, hn, nd, hW, hend⟩ := h
    have hu := hu_of hr
    have hk := V_.hk
    obtain ⟨fI, fdI, GI⟩ := V_.into
    obtain ⟨fM, fdM, GM, BM, mM⟩ := V_.made
    obtain ⟨fU, fdU, GU, bU, mU⟩ := V_.und
    obtain ⟨fH, fdH, GH, bH, mH⟩ := V_.fresh
    obtain ⟨fL, fdL, GL, bL, mL⟩ := V_.flow
    obtain ⟨fW, fdW, GW, bW, mW⟩ := V_.fit
    obtain ⟨fK, fdK, GK, bK, mK⟩ := V_.kind
    obtain ⟨ds2, hds2, hb2⟩ := BM.b2
    obtain ⟨ds1, hds1, hb1⟩ := BM.b1
    have hb0 := BM.b0
    refine ⟨_, pss_cons (ps_asg (pv 1) (pg_tup rfl (pgs_cons (pg_name (i := 4) scFun.nd rfl (Or.inl rfl)) (pgs_cons (pg_name (i := 5) scFun.nd rfl (Or.inl rfl)) (pgs_cons (pg_name (i := 6) scFun.nd rfl (Or.inl rfl)) pgs_nil))))) (pss_cons (ps_set (i := 7) scFun.nd rfl (Or.inl rfl) (pe_meth0 (pe_fld (pv 0) rfl) V_.T.cl mU GU (hr.mono (by omega)) bU .nil pass0)) (pss_cons (ps_set (i := 8) scFun.nd rfl (Or.inl rfl) (pe_meth0 (pe_fld (pv 0) rfl) V_.TR.cl mH GH (hr.mono (by omega)) bH .nil pass0)) (pss_cons (ps_set (i := 9) scFun.nd rfl (Or.inl rfl) (pe_call GI.ok hr (by rfl) GI.g GI.kp GI.b .nil (passes_call (takes_of rfl rfl rfl rfl) (fun _ _ _ _ h => h)) (pa_cons (pv 0) (pa_cons (pv 6) (pa_cons (Rd.pe_dstar (pv 2) (pps_cons (pv 5) (pv 7) pps_nil) (by rfl) (by rfl) (fun z => by cases z) (by decide)) (pa_cons (pv 8) pa_nil)))))) (pss_one (ps_ret (pe_meth (pe_fld (pv 0) rfl) V_.T.cl mM GM (hr.mono (by omega)) hb0 .nil pass0 (pa_cons (pe_str) (pa_cons (pe_tup (pa_cons (pv 7) (pa_cons (pe_ix ix_list (pe_fld (pv 0) rfl) (pv 9) (fun _ _ => rfl)) pa_nil))) (pa_cons (pv 8) pa_nil))))))))), ?_⟩
    cases ex with
    | fn x b =>
      obtain ⟨p, vb, rfl, hp, hvb⟩ := he
      obtain ⟨⟨given, s3⟩, em3, hend3⟩ := rs_ok hend nb_mk
      obtain ⟨⟨own, s4⟩, em4, hend4⟩ := rs_ok hend3 nb_fresh
      obtain ⟨g1, g2, rfl, rfl⟩ := mkM_ok em3
      obtain ⟨g3, rfl, rfl⟩ := freshM_ok em4
      refine ⟨_, rfl, p, _, rfl, SqT.of hp, rfl, _, _, rfl, _, _, rfl, _, _, rfl, rfl, ?_⟩
      obtain ⟨dx, r, t, dg, da, lo, la, FT, hi, rfl⟩ := id hW
      obtain ⟨dxt, lf, ll, it⟩ := hi.insT
      refine ⟨_, rfl, wk, CW, dx, _, _, rfl, hi.ins, V_.TW.cl, V_.TW.nT, pw_types _ _ _ _ _ _, t, dxt, _, rfl, it, pt_und _ _ _, ?_⟩
      refine ⟨t, r, s.tm, FT, rfl, hi.ty, g1, g2, fun H1 F1 hT1 mvT1 => ?_⟩
      obtain ⟨hi1, mv1⟩ := hi.types hT1 mvT1
      obtain ⟨E1, FR1, hR1, back1⟩ := hT1.rows
      obtain ⟨dxr, lr, dr, ir⟩ := hR1.ins
      refine ⟨_, rfl, wk, CW, dx, _, _, rfl, hi1.ins, V_.TW.cl, V_.TW.nR, pw_rows _ _ _ _ _ _, r, dxr, _, rfl, ir, pf_no _ _ (by decide +kernel) (by decide +kernel), ?_⟩
      refine ⟨r, _, _, E1, _, FR1, rfl, hR1, (show s.tm.n < 100 by exact Nat.lt_of_lt_of_le g3 (by decide)), fun H2 FR2 hR2 c2 g2' => ?_⟩
      obtain ⟨FT2, hT2, mvT2⟩ := back1 hR2 c2 g2'
      obtain ⟨hi2, mv2⟩ := hi1.types hT2 mvT2
      have mv12 := mv1.trans mv2
      have hW2 : WkAt K CW C CR H2 wk _ _ := ⟨dx, r, t, dg, da, lo, la, FT2, hi2, rfl⟩
      have hd1 := mv12.keep hd nd
      refine ⟨_, rfl, _, rfl, fun d2 hd2 => ?_⟩
      refine ⟨_, rfl, d, _, rfl, (by rw [upd_ne (ne_of_none hd1 hd2)]; exact hd1), ne_of_none hd1 hd2, upd_same, (by unfold envK; rw [List.length_map]; omega), fun e2 he2 => ?_⟩
      obtain ⟨Hf, eHf, hWf, mvf, hdf, ndf, sf, n1', n2', s1'⟩ := dstar_end (x := x) (t := s.tm.leads.length) hW2 mv12 hd1 hd2 he2
      refine ⟨_, rfl, _, rfl, ?_⟩
      refine ⟨upd_same, (by rw [upd_ne n2', upd_same]), [((Sum.inr x : Key), nv s.tm.leads.length)], rfl, (by show 1 ≤ 15; decide), ?_⟩
      rw [← eHf]
      refine ⟨_, rfl, ?_⟩
      refine ⟨wk, d2, vb, _, _, b, _, _, rfl, (hvb.stay mv12.ch).stay (F := F0) (ch_of_same sf), hdf, ndf, hWf, rs_sub hend4 mvf fun p5 e5 hend5 => fun H5 F5 hW5 mv5 => ?_⟩
      obtain ⟨n5, s5⟩ := p5
      obtain ⟨tb, ef, hend6⟩ := rs_ok hend5 nb_found
      obtain ⟨⟨w7, s7⟩, em7, hend7⟩ := rs_okL hend6 nb_mk
      obtain ⟨g5, g6, rfl, rfl⟩ := mkM_ok em7
      obtain ⟨dx5, r5, t5, dg5, da5, lo5, la5, FT5, hi5, rfl⟩ := id hW5
      obtain ⟨dxt5, lf5, ll5, it5⟩ := hi5.insT
      refine ⟨_, rfl, wk, CW, dx5, _, _, rfl, hi5.ins, V_.TW.cl, V_.TW.nT, pw_types _ _ _ _ _ _, t5, dxt5, _, rfl, it5, pt_made _ _ _, _, rfl, _, rfl, wk, CW, dx5, _, _, rfl, hi5.ins, V_.TW.cl, V_.TW.nF, pw_found _ _ _ _ _ _, _, rfl, lo5, _, _, _, rfl, rfl, SqL.of hi5.fo, found_at (foundM_ok ef), (by show 2 ≤ sizeLine; decide), fun tp htp => ?_⟩
      have mv6 : Mv (FWk lo5 la5 FT5) H5 (FWk lo5 la5 FT5) (upd H5 tp (.tup [nv s.tm.leads.length, nv tb])) := .new htp
      have hi6 := hi5.stay (F' := F0) (ch_new (o := .tup [nv s.tm.leads.length, nv tb]) htp) (fun _ _ f => f) (fun f => f) fun f => f
      refine ⟨_, rfl, ?_⟩
      refine ⟨t5, r5, tp, s5.tm, FT5, ⟨some .fn, [s.tm.leads.length, tb], some s.tm.n⟩, rfl, .inl upd_same, Nat.le_refl _, hi6.ty, g5, g6, fun H7 F7 hT7 mvT7 => ?_⟩
      obtain ⟨hi7, mv7⟩ := hi6.types hT7 mvT7
      exact hend7 _ _ ⟨dx5, r5, t5, dg5, da5, lo5, la5, F7, hi7, rfl⟩ (((mvf.trans mv5).trans mv6).trans mv7)
    | _ => exact hok.elim
/-! ### half_rule -/
abbrev gHalf : Stmt := topS 27
abbrev nHalf : List Str := ["work", "expression", "names", "row", "word", "pair", "number", "first", "second"]
theorem scHalf : FnScope nHalf pRule (defScope gHalf) := ⟨rfl, rfl, rfl, by decide +kernel, rfl, by decide +kernel, by decide +kernel⟩
def isHalf : EX → Prop
  | .fst _ => True
  | _ => False
theorem ok_half {k : Nat} {go : Go} {f CU CW C CR e : Addr} {fd : FuncData} (F : Fun K "half_rule" "half_rule" gHalf f fd) (V_ : Av P w K mg base k go CU CW C CR e) : FnOk P w K mg base (CX P w) (k + 2) f fd pRule (spRule isHalf go CU CW C CR K) := by
  refine F.okX scHalf (fun vs H Q E h => ?_) (fun cdv A outer s H vs Q E hr h => ?_)
  · obtain ⟨wk, d, v, s, F, e, names, row, rfl, _⟩ := h
    rfl
  · obtain ⟨wk, d, v, s, F, ex, names, row, rfl, hok, he, hd, hn, nd, hW, hend⟩ := h
    have hu := hu_of hr
    have hk := V_.hk
    obtain ⟨fI, fdI, GI⟩ := V_.into
    obtain ⟨fM, fdM, GM, BM, mM⟩ := V_.made
    obtain ⟨fU, fdU, GU, bU, mU⟩ := V_.und
    obtain ⟨fH, fdH, GH, bH, mH⟩ := V_.fresh
    obtain ⟨fL, fdL, GL, bL, mL⟩ := V_.flow
    obtain ⟨fW, fdW, GW, bW, mW⟩ := V_.fit
    obtain ⟨fK, fdK, GK, bK, mK⟩ := V_.kind
    obtain ⟨ds2, hds2, hb2⟩ := BM.b2
    obtain ⟨ds1, hds1, hb1⟩ := BM.b1
    have hb0 := BM.b0
    refine ⟨_, pss_cons (ps_asg (pv 1) (pg_tup rfl (pgs_cons (pg_name (i := 4) scHalf.nd rfl (Or.inl rfl)) (pgs_cons (pg_name (i := 5) scHalf.nd rfl (Or.inl rfl)) pgs_nil)))) (pss_cons (ps_set (i := 6) scHalf.nd rfl (Or.inl rfl) (pe_call GI.ok hr (by rfl) GI.g GI.kp GI.b .nil (passes_call (takes_of rfl rfl rfl rfl) (fun _ _ _ _ h => h)) (pa_cons (pv 0) (pa_cons (pv 5) (pa_cons (pv 2) (pa_cons (pv 3) pa_nil)))))) (pss_cons (ps_set (i := 7) scHalf.nd rfl (Or.inl rfl) (pe_meth0 (pe_fld (pv 0) rfl) V_.T.cl mU GU (hr.mono (by omega)) bU .nil pass0)) (pss_cons (ps_set (i := 8) scHalf.nd rfl (Or.inl rfl) (pe_meth0 (pe_fld (pv 0) rfl) V_.T.cl mU GU (hr.mono (by omega)) bU .nil pass0)) (pss_cons (ps_expr (pe_meth (pv 0) V_.TW.cl mW GW (hr.mono (by omega)) bW .nil pass0 (pa_cons (pv 6) (pa_cons (pe_meth (pe_fld (pv 0) rfl) V_.T.cl mM GM (hr.mono (by omega)) hb1 hds1 pass0 (pa_cons (pe_str) (pa_cons (pe_tup (pa_cons (pv 7) (pa_cons (pv 8) pa_nil))) pa_nil))) pa_nil)))) (pss_one (ps_ret (pe_ifExp (pt_cmpR op_eq (pv 4) pe_str (nomark _)) (pv 7) (pv 8)))))))), ?_⟩
    cases ex with
    | fst b =>
      obtain ⟨p, ve, rfl, hp, hve⟩ := he
      refine ⟨_, rfl, p, _, rfl, SqT.of hp, rfl, _, _, rfl, _, _, rfl, rfl, ?_⟩
      refine ⟨_, rfl, _, rfl, _, rfl, _, rfl, ?_⟩
      refine ⟨wk, d, ve, s, F, b, names, row, rfl, hve, hd, nd, hW, rs_sub hend (.refl _ _) fun p3 e3 hend1 => fun H1 F1 hW1 mv1 => ?_⟩
      obtain ⟨n1, s1⟩ := p3
      obtain ⟨⟨w4, s4⟩, em4, hend4⟩ := rs_ok hend1 nb_mk
      obtain ⟨⟨w5, s5⟩, em5, hend5⟩ := rs_ok hend4 nb_mk
      obtain ⟨⟨w6, s6⟩, em6, hend6⟩ := rs_ok hend5 nb_mk
      obtain ⟨s7, ew, hend7⟩ := rs_ok hend6 nb_wfit
      obtain ⟨a1, a2, rfl, rfl⟩ := mkM_ok em4
      obtain ⟨a3, a4, rfl, rfl⟩ := mkM_ok em5
      obtain ⟨a5, a6, rfl, rfl⟩ := mkM_ok em6
      obtain ⟨dx, r, t, dg, da, lo, la, FT, hi, rfl⟩ := id hW1
      obtain ⟨dxt, lf, ll, it⟩ := hi.insT
      refine ⟨_, rfl, wk, CW, dx, _, _, rfl, hi.ins, V_.TW.cl, V_.TW.nT, pw_types _ _ _ _ _ _, t, dxt, _, rfl, it, pt_und _ _ _, ?_⟩
      refine ⟨t, r, s1.tm, FT, rfl, hi.ty, a1, a2, fun H2 F2 hT2 mvT2 => ?_⟩
      obtain ⟨hi2, mv2⟩ := hi.types hT2 mvT2
      obtain ⟨dxt2, lf2, ll2, it2⟩ := hi2.insT
      refine ⟨_, rfl, wk, CW, dx, _, _, rfl, hi2.ins, V_.TW.cl, V_.TW.nT, pw_types _ _ _ _ _ _, t, dxt2, _, rfl, it2, pt_und _ _ _, ?_⟩
      refine ⟨t, r, _, F2, rfl, hi2.ty, a3, a4, fun H3 F3 hT3 mvT3 => ?_⟩
      obtain ⟨hi3, mv3⟩ := hi2.types hT3 mvT3
      obtain ⟨dxt3, lf3, ll3, it3⟩ := hi3.insT
      refine ⟨_, rfl, wk, dx, _, rfl, hi3.ins, pw_fit _ _ _ _ _ _, _, rfl, _, rfl, wk, CW, dx, _, _, rfl, hi3.ins, V_.TW.cl, V_.TW.nT, pw_types _ _ _ _ _ _, t, dxt3, _, rfl, it3, pt_made _ _ _, _, rfl, _, rfl, (by show 2 ≤ sizeLine; decide), fun tp htp => ?_⟩
      have mv4 : ∀ o, Mv (FWk lo la F3) H3 (FWk lo la F3) (upd H3 tp o) := fun o => .new htp
      have hi4 := fun o => hi3.stay (F' := F0) (ch_new (o := o) htp) (fun _ _ f => f) (fun f => f) fun f => f
      refine ⟨t, r, tp, _, F3, ⟨some .pair, [_, _], none⟩, rfl, .inl upd_same, Nat.le_refl _, (hi4 _).ty, a5, a6, fun H5 F5 hT5 mvT5 => ?_⟩
      obtain ⟨hi5, mv5⟩ := (hi4 _).types hT5 mvT5
      refine ⟨wk, _, s7, _, n1, _, rfl, ⟨dx, r, t, dg, da, lo, la, F5, hi5, rfl⟩, ew, fun H6 F6 hW6 mv6 => ?_⟩
      refine ⟨_, rfl, rfl, _, rfl, ite2 (fun _ => ?_) (fun h => absurd (decide_eq_true rfl) h)⟩
      exact ⟨_, rfl, hend7 _ _ hW6 (((((mv1.trans mv2).trans mv3).trans (mv4 _)).trans mv5).trans mv6)⟩
    | _ => exact hok.elim
end
end Kt


set_option Elab.async false
set_option linter.all false
set_option maxRecDepth 100000
set_option maxHeartbeats 4000000
namespace Kt
open PySem PySem.Spec L2 PyProof.Rows Km Ka
theorem nb_isOk {α : Type} (r : Rs α) : isOk r ≠ .big := by
  cases r <;> intro q <;> cases q
theorem isOk_ok {α : Type} {r : Rs α} {a : α} (h : isOk r = .ok a) : r = .ok a := by
  cases r <;> first | exact h | cases h
section
variable {P : Program} {w : World} {K : PySem.W.Frag} {mg : Str → Option Value} {base : Heap}
/-! ### call_rule -/
abbrev gCall_ : Stmt := topS 23
abbrev nCall_ : List Str := ["work", "expression", "names", "row", "_", "called", "given", "function", "argument", "result", "brought"]
theorem scCall_ : FnScope nCall_ pRule (defScope gCall_) := ⟨rfl, rfl, rfl, by decide +kernel, rfl, by decide +kernel, by decide +kernel⟩
def isCall_ : EX → Prop
  | .call _ _ => True
  | _ => False
theorem ok_call {k : Nat} {go : Go} {f CU CW C CR e : Addr} {fd : FuncData} (F : Fun K "call_rule" "call_rule" gCall_ f fd) (V_ : Av P w K mg base k go CU CW C CR e) : FnOk P w K mg base (CX P w) (k + 2) f fd pRule (spRule isCall_ go CU CW C CR K) := by
  refine F.okX scCall_ (fun vs H Q E h => ?_) (fun cdv A outer s H vs Q E hr h => ?_)
  · obtain ⟨wk, d, v, s, F, e, names, row, rfl, _⟩ := h
    rfl
  · obtain ⟨wk, d, v, s, F, ex, names, row, rfl, hok, he, hd, hn, nd, hW, hend⟩ := h
    have hu := hu_of hr
    have hk := V_.hk
    obtain ⟨fI, fdI, GI⟩ := V_.into
    obtain ⟨fM, fdM, GM, BM, mM⟩ := V_.made
    obtain ⟨fU, fdU, GU, bU, mU⟩ := V_.und
    obtain ⟨fH, fdH, GH, bH, mH⟩ := V_.fresh
    obtain ⟨fL, fdL, GL, bL, mL⟩ := V_.flow
    obtain ⟨fW, fdW, GW, bW, mW⟩ := V_.fit
    obtain ⟨fK, fdK, GK, bK, mK⟩ := V_.kind
    obtain ⟨ds2, hds2, hb2⟩ := BM.b2
    obtain ⟨ds1, hds1, hb1⟩ := BM.b1
    have hb0 := BM.b0
    refine ⟨_, pss_cons (ps_asg (pv 1) (pg_tup rfl (pgs_cons (pg_name (i := 4) scCall_.nd rfl (Or.inl rfl)) (pgs_cons (pg_name (i := 5) scCall_.nd rfl (Or.inl rfl)) (pgs_cons (pg_name (i := 6) scCall_.nd rfl (Or.inl rfl)) pgs_nil))))) (pss_cons (ps_set (i := 7) scCall_.nd rfl (Or.inl rfl) (pe_call GI.ok hr (by rfl) GI.g GI.kp GI.b .nil (passes_call (takes_of rfl rfl rfl rfl) (fun _ _ _ _ h => h)) (pa_cons (pv 0) (pa_cons (pv 5) (pa_cons (pv 2) (pa_cons (pv 3) pa_nil)))))) (pss_cons (ps_set (i := 8) scCall_.nd rfl (Or.inl rfl) (pe_call GI.ok hr (by rfl) GI.g GI.kp GI.b .nil (passes_call (takes_of rfl rfl rfl rfl) (fun _ _ _ _ h => h)) (pa_cons (pv 0) (pa_cons (pv 6) (pa_cons (pv 2) (pa_cons (pv 3) pa_nil)))))) (pss_cons (ps_set (i := 9) scCall_.nd rfl (Or.inl rfl) (pe_meth0 (pe_fld (pv 0) rfl) V_.T.cl mU GU (hr.mono (by omega)) bU .nil pass0)) (pss_cons (ps_set (i := 10) scCall_.nd rfl (Or.inl rfl) (pe_meth0 (pe_fld (pv 0) rfl) V_.TR.cl mH GH (hr.mono (by omega)) bH .nil pass0)) (pss_cons (ps_expr (pe_meth (pv 0) V_.TW.cl mW GW (hr.mono (by omega)) bW .nil pass0 (pa_cons (pv 7) (pa_cons (pe_meth (pe_fld (pv 0) rfl) V_.T.cl mM GM (hr.mono (by omega)) hb0 .nil pass0 (pa_cons (pe_str) (pa_cons (pe_tup (pa_cons (pe_ix ix_list (pe_fld (pv 0) rfl) (pv 8) (fun _ _ => rfl)) (pa_cons (pv 9) pa_nil))) (pa_cons (pv 10) pa_nil)))) pa_nil)))) (pss_cons (ps_expr (pe_meth (pe_fld (pv 0) rfl) V_.TR.cl mL GL (hr.mono (by omega)) bL .nil pass0 (pa_cons (pv 10) (pa_cons (pv 3) (pa_cons (pe_lst pa_nil) pa_nil))))) (pss_one (ps_ret (pv 9))))))))), ?_⟩
    cases ex with
    | call fe ae =>
      obtain ⟨p, vf, va, rfl, hp, hvf, hva⟩ := he
      refine ⟨_, rfl, p, _, rfl, SqT.of hp, rfl, _, _, rfl, _, _, rfl, _, _, rfl, rfl, ?_⟩
      refine ⟨_, rfl, _, rfl, _, rfl, _, rfl, ?_⟩
      refine ⟨wk, d, vf, s, F, fe, names, row, rfl, hvf, hd, nd, hW, rs_sub hend (.refl _ _) fun p3 e3 hend3 => fun H1 F1 hW1 mv1 => ?_⟩
      obtain ⟨n1, s1⟩ := p3
      refine ⟨_, rfl, _, rfl, _, rfl, _, rfl, ?_⟩
      refine ⟨wk, d, va, s1, F1, ae, names, row, rfl, hva.stay mv1.ch, mv1.keep hd nd, mv1.out hd nd, hW1, rs_sub hend3 mv1 fun p4 e4 hend4 => fun H2 F2 hW2 mv2 => ?_⟩
      obtain ⟨n2, s2⟩ := p4
      obtain ⟨⟨w5, s5⟩, em5, hend5⟩ := rs_ok hend4 nb_mk
      obtain ⟨⟨w6, s6⟩, em6, hend6⟩ := rs_ok hend5 nb_fresh
      obtain ⟨ta, ef, hend7⟩ := rs_ok hend6 nb_found
      obtain ⟨⟨w7, s7⟩, em7, hend8⟩ := rs_ok hend7 nb_mk
      obtain ⟨s8, ew, hend9⟩ := rs_ok hend8 nb_wfit
      obtain ⟨s9, el, hend10⟩ := rs_ok hend9 nb_flow
      obtain ⟨a1, a2, rfl, rfl⟩ := mkM_ok em5
      obtain ⟨a3, rfl, rfl⟩ := freshM_ok em6
      obtain ⟨a5, a6, rfl, rfl⟩ := mkM_ok em7
      obtain ⟨f1, f2, f3, rfl⟩ := flowM_ok el
      obtain ⟨dx, r, t, dg, da, lo, la, FT, hi, rfl⟩ := id hW2
      obtain ⟨dxt, lf, ll, it⟩ := hi.insT
      refine ⟨_, rfl, wk, CW, dx, _, _, rfl, hi.ins, V_.TW.cl, V_.TW.nT, pw_types _ _ _ _ _ _, t, dxt, _, rfl, it, pt_und _ _ _, ?_⟩
      refine ⟨t, r, s2.tm, FT, rfl, hi.ty, a1, a2, fun H3 F3 hT3 mvT3 => ?_⟩
      obtain ⟨hi3, mv3⟩ := hi.types hT3 mvT3
      obtain ⟨E1, FR1, hR1, back1⟩ := hT3.rows
      obtain ⟨dxr, lr, dr, ir⟩ := hR1.ins
      refine ⟨_, rfl, wk, CW, dx, _, _, rfl, hi3.ins, V_.TW.cl, V_.TW.nR, pw_rows _ _ _ _ _ _, r, dxr, _, rfl, ir, pf_no _ _ (by decide +kernel) (by decide +kernel), ?_⟩
      refine ⟨r, _, _, E1, _, FR1, rfl, hR1, (show s2.tm.n < 100 by exact Nat.lt_of_lt_of_le a3 (by decide)), fun H4 FR4 hR4 c4 g4 => ?_⟩
      obtain ⟨FT4, hT4, mvT4⟩ := back1 hR4 c4 g4
      obtain ⟨hi4, mv4⟩ := hi3.types hT4 mvT4
      obtain ⟨dxt4, lf4, ll4, it4⟩ := hi4.insT
      refine ⟨_, rfl, wk, dx, _, rfl, hi4.ins, pw_fit _ _ _ _ _ _, _, rfl, _, rfl, wk, CW, dx, _, _, rfl, hi4.ins, V_.TW.cl, V_.TW.nT, pw_types _ _ _ _ _ _, t, dxt4, _, rfl, it4, pt_made _ _ _, ?_⟩
      refine ⟨_, rfl, wk, CW, dx, _, _, rfl, hi4.ins, V_.TW.cl, V_.TW.nF, pw_found _ _ _ _ _ _, _, rfl, lo, _, _, _, rfl, rfl, SqL.of hi4.fo, found_at (foundM_ok ef), _, rfl, (by show 2 ≤ sizeLine; decide), fun tp htp => ?_⟩
      have mv5 : ∀ o, Mv (FWk lo la FT4) H4 (FWk lo la FT4) (upd H4 tp o) := fun o => .new htp
      have hi5 := fun o => hi4.stay (F' := F0) (ch_new (o := o) htp) (fun _ _ f => f) (fun f => f) fun f => f
      refine ⟨_, rfl, ?_⟩
      refine ⟨t, r, tp, _, FT4, ⟨some .fn, [ta, _], some s2.tm.n⟩, rfl, .inl upd_same, Nat.le_refl _, (hi5 _).ty, a5, a6, fun H6 F6 hT6 mvT6 => ?_⟩
      obtain ⟨hi6, mv6⟩ := (hi5 _).types hT6 mvT6
      refine ⟨wk, _, s8, _, n1, _, rfl, ⟨dx, r, t, dg, da, lo, la, F6, hi6, rfl⟩, ew, fun H7 F7 hW7 mv7 => ?_⟩
      have mvA := (((((mv1.trans mv2).trans mv3).trans mv4).trans (mv5 _)).trans mv6).trans mv7
      clear hi6 hi5 hi4 hi3 hi
      obtain ⟨dx, r, t, dg, da, lo, la, FT, hi, rfl⟩ := hW7
      obtain ⟨E8, FR8, hR8, back8⟩ := hi.ty.rows
      obtain ⟨dxr8, l8, d8, ir8⟩ := hR8.ins
      refine ⟨_, rfl, wk, CW, dx, _, _, rfl, hi.ins, V_.TW.cl, V_.TW.nR, pw_rows _ _ _ _ _ _, r, dxr8, _, rfl, ir8, pf_no _ _ (by decide +kernel) (by decide +kernel), ?_⟩
      refine ⟨_, rfl, _, rfl, Nat.zero_le _, fun u hu' => ?_⟩
      have hi1 := hi.stay (F' := F0) (ch_new (o := HO.lst []) hu') (fun _ _ f => f) (fun f => f) fun f => f
      have mv8 : Mv (FWk lo la FT) H7 (FWk lo la FT) (upd H7 u (.lst [])) := .new hu'
      have hsu : SqL K (upd H7 u (.lst [])) u (([] : List Str).map V.str) := SqL.of upd_same
      generalize upd H7 u (.lst []) = H8 at hi1 mv8 hsu
      obtain ⟨E9, FR9, hR9, back9⟩ := hi1.ty.rows
      refine ⟨r, u, _, _, E9, _, FR9, s2.tm.n, row, [], rfl, hR9, (show s8.tm.b < 1000 by omega), f2, f3, hsu, fun H9 FR9' hR9' c9 g9 => ?_⟩
      obtain ⟨FT9, hT9, mvT9⟩ := back9 hR9' c9 g9
      obtain ⟨hi9, mv9⟩ := hi1.types hT9 mvT9
      exact ⟨_, rfl, hend10 _ _ ⟨dx, r, t, dg, da, lo, la, FT9, hi9, rfl⟩ ((mvA.trans mv8).trans mv9)⟩
    | _ => exact hok.elim
/-! ### pair_rule -/
abbrev gPair : Stmt := topS 26
abbrev nPair : List Str := ["work", "expression", "names", "row", "first", "second", "part"]
theorem scPair : FnScope nPair pRule (defScope gPair) := ⟨rfl, rfl, rfl, by decide +kernel, rfl, by decide +kernel, by decide +kernel⟩
def isPair : EX → Prop
  | .pair _ _ => True
  | _ => False
theorem ok_pair {k : Nat} {go : Go} {f CU CW C CR e : Addr} {fd : FuncData} (F : Fun K "pair_rule" "pair_rule" gPair f fd) (V_ : Av P w K mg base k go CU CW C CR e) : FnOk P w K mg base (CX P w) (k + 2) f fd pRule (spRule isPair go CU CW C CR K) := by
  refine F.okX scPair (fun vs H Q E h => ?_) (fun cdv A outer s H vs Q E hr h => ?_)
  · obtain ⟨wk, d, v, s, F, e, names, row, rfl, _⟩ := h
    rfl
  · obtain ⟨wk, d, v, s, F, ex, names, row, rfl, hok, he, hd, hn, nd, hW, hend⟩ := h
    have hu := hu_of hr
    have hk := V_.hk
    obtain ⟨fI, fdI, GI⟩ := V_.into
    obtain ⟨fM, fdM, GM, BM, mM⟩ := V_.made
    obtain ⟨fU, fdU, GU, bU, mU⟩ := V_.und
    obtain ⟨fH, fdH, GH, bH, mH⟩ := V_.fresh
    obtain ⟨fL, fdL, GL, bL, mL⟩ := V_.flow
    obtain ⟨fW, fdW, GW, bW, mW⟩ := V_.fit
    obtain ⟨fK, fdK, GK, bK, mK⟩ := V_.kind
    obtain ⟨ds2, hds2, hb2⟩ := BM.b2
    obtain ⟨ds1, hds1, hb1⟩ := BM.b1
    have hb0 := BM.b0
    refine ⟨_, pss_cons (ps_asg (pe_lc (own := [("part", 6)]) (g := gName 6) (tt := tYes) (te := tCall (spInto go CU CW C CR K) [] E0 (tCons (tVar 0) (tCons (tVar 6) (tCons (tVar 2) (tCons (tVar 3) tNil))))) rfl scPair.nd (pi_tup (pe_slice sl_tup (pv 1) (po_some pe_int) po_none))
        (blkOk_by (N := nPair) (sc := defScope gPair) (by decide +kernel)) (fun _ _ _ _ _ => pg_name (i := 6) scPair.nd rfl (Or.inl rfl)) (fun _ _ _ _ _ => pts_nil) (fun _ _ _ _ _ => pe_call GI.ok hr (by rfl) GI.g GI.kp GI.b .nil passL (pa_cons (pv 0) (pa_cons (pv 6) (pa_cons (pv 2) (pa_cons (pv 3) pa_nil)))))) (pg_unl rfl (pgs_cons (pg_name (i := 4) scPair.nd rfl (Or.inl rfl)) (pgs_cons (pg_name (i := 5) scPair.nd rfl (Or.inl rfl)) pgs_nil)))) (pss_one (ps_ret (pe_meth (pe_fld (pv 0) rfl) V_.T.cl mM GM (hr.mono (by omega)) hb1 hds1 pass0 (pa_cons (pe_str) (pa_cons (pe_tup (pa_cons (pe_ix ix_list (pe_fld (pv 0) rfl) (pv 4) (fun _ _ => rfl)) (pa_cons (pe_ix ix_list (pe_fld (pv 0) rfl) (pv 5) (fun _ _ => rfl)) pa_nil))) pa_nil))))), ?_⟩
    cases ex with
    | pair a b =>
      obtain ⟨p, va, vb, rfl, hp, hva, hvb⟩ := he
      obtain ⟨p3, e3', hend1⟩ := rs_ok hend (nb_isOk _)
      obtain ⟨p4, e4', hend2⟩ := rs_ok hend1 (nb_isOk _)
      obtain ⟨t1, ef1, hend3⟩ := rs_ok hend2 nb_found
      obtain ⟨t2, ef2, hend4⟩ := rs_ok hend3 nb_found
      obtain ⟨⟨w7, s7⟩, em7, hend7⟩ := rs_okL hend4 nb_mk
      obtain ⟨g1, g2, rfl, rfl⟩ := mkM_ok em7
      have e3 := isOk_ok e3'
      have e4 := isOk_ok e4'
      obtain ⟨k1, s1⟩ := p3
      obtain ⟨k2, s2⟩ := p4
      refine ⟨_, rfl, _, rfl, p, _, rfl, SqT.of hp, (by show ¬ (HT.sIx 3 0 (some 1) = 0 ∧ HT.sIx 3 3 none = 3); decide), fun q hq => ?_⟩
      have ec : cutV [V.str "pair", va, vb] (some 1) none = [va, vb] := rfl
      rw [ec]
      refine ⟨q, rfl, ⟨_, SqT.of upd_same⟩, fun D hD => ?_⟩
      have mvq : Mv F H F (upd H q (.tup [va, vb])) := .new hq
      have hD0 : H D = none := mvq.free hD
      have nDF := hW.notin hD0
      have hqD : q ≠ D := fun z => by rw [← z, upd_same] at hD; cases hD
      refine lc_tup (K := K) (a := q) (xs := [va, vb]) (fun x H2 => ∃ (F2 : Addr → Prop) (s0 : MS) (ks : List Nat), WkAt K CW C CR H2 wk s0 F2 ∧ Mv F H F2 H2 ∧ H2 D = some (.lst (ks.map nv)) ∧ ¬ F2 D ∧ H2 q = some (.tup [va, vb]) ∧ EnvAt H2 d names ∧ ¬ F2 d ∧
          ((x = 0 ∧ ks = [] ∧ s0 = s) ∨ (x = 1 ∧ ks = [k1] ∧ s0 = s1) ∨ (x = 2 ∧ ks = [k1, k2] ∧ s0 = s2)))
        ⟨F, s, [], (hW.new hq).new hD, mvq.trans (.new hD), upd_same, nDF, by rw [upd_ne hqD, upd_same], (by show upd (upd H q _) D _ d = _; rw [upd_ne (ne_of_none hd hD0), upd_ne (ne_of_none hd hq)]; exact hd), nd, .inl ⟨rfl, rfl, rfl⟩⟩ (fun x H2 _ ⟨_, _, _, _, _, _, _, z, _⟩ => SqT.of z) ?_ ?_
      · rintro x v H2 hx ⟨F2, s0, ks, hW2, mv2, hD2, nD2, hq2, hd2, nd2, hc⟩
        have c6 : ∀ {H5 : Hp} {F5 : Addr → Prop} {kk : Nat}, Mv F2 H2 F5 H5 → Ch (fun a => a = D) H5 (upd H5 D (.lst (ks.map nv ++ [nv kk]))) := fun m => ch_at (m.keep hD2 nD2) lstTup rfl
        have hDd : D ≠ d := fun z => by rw [z, hd2] at hD2; cases hD2
        have key : ∀ (vv : V) (ee : EX) (kk : Nat) (s' : MS), ExAt H vv ee → intoM go s0 ee names row = .ok (kk, s') → ks.length ≤ 1 → (∀ (H5 : Hp) (F5 : Addr → Prop), WkAt K CW C CR H5 wk s' F5 → Mv F H F5 H5 → H5 D = some (.lst ((ks ++ [kk]).map nv)) → ¬ F5 D → H5 q = some (.tup [va, vb]) → EnvAt H5 d names → ¬ F5 d → ∃ (F2 : Addr → Prop) (s0 : MS) (ks : List Nat), WkAt K CW C CR H5 wk s0 F2 ∧ Mv F H F2 H5 ∧ H5 D = some (.lst (ks.map nv)) ∧ ¬ F2 D ∧ H5 q = some (.tup [va, vb]) ∧ EnvAt H5 d names ∧ ¬ F2 d ∧
            ((x + 1 = 0 ∧ ks = [] ∧ s0 = s) ∨ (x + 1 = 1 ∧ ks = [k1] ∧ s0 = s1) ∨ (x + 1 = 2 ∧ ks = [k1, k2] ∧ s0 = s2))) →
            spInto go CU CW C CR K ([V.ref wk, vv, V.ref d, nv row] ++ []) H2 (fun y H4 => ∃ acc, H4 D = some (.lst acc) ∧ acc.length < sizeLine ∧ ∃ (F2 : Addr → Prop) (s0 : MS) (ks : List Nat), WkAt K CW C CR (upd H4 D (.lst (acc ++ [y]))) wk s0 F2 ∧ Mv F H F2 (upd H4 D (.lst (acc ++ [y]))) ∧ (upd H4 D (.lst (acc ++ [y]))) D = some (.lst (ks.map nv)) ∧ ¬ F2 D ∧ (upd H4 D (.lst (acc ++ [y]))) q = some (.tup [va, vb]) ∧ EnvAt (upd H4 D (.lst (acc ++ [y]))) d names ∧ ¬ F2 d ∧
              ((x + 1 = 0 ∧ ks = [] ∧ s0 = s) ∨ (x + 1 = 1 ∧ ks = [k1] ∧ s0 = s1) ∨ (x + 1 = 2 ∧ ks = [k1, k2] ∧ s0 = s2))) E0 := by
          intro vv ee kk s' hvv ei hkl fin
          refine ⟨wk, d, vv, s0, F2, ee, names, row, rfl, hvv.stay mv2.ch, hd2, nd2, hW2, ?_⟩
          rw [ei]
          intro H5 F5 hW5 mv5
          have hD5 := mv5.keep hD2 nD2
          refine ⟨_, hD5, (by rw [List.length_map]; exact small1000 (by omega)), fin _ F5 (hW5.own (mv5.out hD2 nD2) hD5 lstTup lstIns) ((mv2.trans mv5).own hD0 hD5 lstTup) ?_ (mv5.out hD2 nD2) ?_ ?_ (mv5.out hd2 nd2)⟩
          · rw [upd_same, List.map_append]
            rfl
          · rw [upd_ne hqD]
            exact mv5.tup hq2
          · show upd H5 D _ d = _
            rw [upd_ne hDd.symm]
            exact mv5.keep hd2 nd2
        rcases hc with ⟨rfl, rfl, rfl⟩ | ⟨rfl, rfl, rfl⟩ | ⟨rfl, _⟩
        · obtain rfl : va = v := Option.some.inj hx
          refine ⟨rfl, _, rfl, _, rfl, _, rfl, _, rfl, key va a k1 s1 hva e3 (Nat.zero_le _) fun H5 F5 a1 a2 a3 a4 a5 a6 a7 => ⟨F5, s1, [k1], a1, a2, a3, a4, a5, a6, a7, .inr (.inl ⟨rfl, rfl, rfl⟩)⟩⟩
        · obtain rfl : vb = v := Option.some.inj hx
          refine ⟨rfl, _, rfl, _, rfl, _, rfl, _, rfl, key vb b k2 s2 hvb e4 (Nat.le_refl _) fun H5 F5 a1 a2 a3 a4 a5 a6 a7 => ⟨F5, s2, [k1, k2], a1, a2, a3, a4, a5, a6, a7, .inr (.inr ⟨rfl, rfl, rfl⟩)⟩⟩
        · cases hx
      · rintro H2 ⟨F2, s0, ks, hW2, mv2, hD2, nD2, hq2, hd2, nd2, hc⟩
        rcases hc with ⟨z, _⟩ | ⟨z, _⟩ | ⟨_, rfl, rfl⟩
        · cases z
        · cases z
        refine ⟨D, _, rfl, SqL.of hD2, rfl, _, _, rfl, _, _, rfl, rfl, ?_⟩
        obtain ⟨dx, r, t, dg, da, lo, la, FT, hi, rfl⟩ := id hW2
        obtain ⟨dxt, lf, ll, it⟩ := hi.insT
        refine ⟨_, rfl, wk, CW, dx, _, _, rfl, hi.ins, V_.TW.cl, V_.TW.nT, pw_types _ _ _ _ _ _, t, dxt, _, rfl, it, pt_made _ _ _, ?_⟩
        refine ⟨_, rfl, wk, CW, dx, _, _, rfl, hi.ins, V_.TW.cl, V_.TW.nF, pw_found _ _ _ _ _ _, _, rfl, lo, _, _, _, rfl, rfl, SqL.of hi.fo, found_at (foundM_ok ef1), _, rfl, wk, CW, dx, _, _, rfl, hi.ins, V_.TW.cl, V_.TW.nF, pw_found _ _ _ _ _ _, _, rfl, lo, _, _, _, rfl, rfl, SqL.of hi.fo, found_at (foundM_ok ef2), (by show 2 ≤ sizeLine; decide), fun tp htp => ?_⟩
        have mv6 : ∀ o, Mv (FWk lo la FT) H2 (FWk lo la FT) (upd H2 tp o) := fun o => .new htp
        have hi6 := fun o => hi.stay (F' := F0) (ch_new (o := o) htp) (fun _ _ f => f) (fun f => f) fun f => f
        refine ⟨t, r, tp, _, FT, ⟨some .pair, [t1, t2], none⟩, rfl, .inl upd_same, Nat.le_refl _, (hi6 _).ty, g1, g2, fun H7 F7 hT7 mvT7 => ?_⟩
        obtain ⟨hi7, mv7⟩ := (hi6 _).types hT7 mvT7
        exact hend7 _ _ ⟨dx, r, t, dg, da, lo, la, F7, hi7, rfl⟩ ((mv2.trans (mv6 _)).trans mv7)
    | _ => exact hok.elim
end
end Kt


set_option Elab.async false
set_option linter.all false
set_option maxRecDepth 100000
set_option maxHeartbeats 4000000
namespace Kt
open PySem PySem.Spec L2 PyProof.Rows Km Ka
/-- a call of a local name that holds one of several defs, which may raise -/
theorem pe_callR {ι : Type} {X : Cx} {CXc : CXT} {k i : Nat} {ad : ι → Addr} {sp : ι → Sp} {E : XK} {x : Str} {p pos : Pos} {e : Expr} {es : List Expr} {t : TA}
    (A : ∀ a, ∃ fd ps, FnOk X.prog X.w X.K X.mg X.base CXc k (ad a) fd ps (sp a) ∧ PySem.W.keepIn X.K (.ref (ad a)) = true ∧ Binds X.K fd ps []) (hr : Room k X.A) (hN : X.N[i]? = some x) (hv : Vis X.env.scope x) (hx : Passes CXc X E) (ha : PA X (e :: es) t)
    (hdb : (x == ("__debug__" : Str)) = false := by decide) (hcd : (x == ("__classdict__" : Str)) = false := by decide)
    (he : starEach (e :: es) X.env = (false, eval e X.env) :: starEach es X.env := by rfl) (hpl : (backTo pos (starEach es X.env)).any (·.1) = false := by rfl) :
    PE X (.Call (.Name x p) (e :: es) [] pos) (fun σ H Q => ∃ a, σ[i]? = some (some (.ref (ad a))) ∧ t σ H fun vs H1 => sp a vs H1 Q E) := by
  refine ⟨fun pins s σ H Q I h => ?_⟩
  obtain ⟨a, hs, ht⟩ := h
  obtain ⟨fd, ps, F, hk, hb⟩ := A a
  refine (pe_callL (i := i) (f := ad a) (sp := sp a) (dvs := []) (E := E) F hr hN hv hk hb .nil hx ha hdb hcd he hpl).run pins s σ H Q I ⟨hs, ?_⟩
  have e0 : (fun (vs : List V) (H1 : Hp) => sp a (vs ++ []) H1 Q E) = fun vs H1 => sp a vs H1 Q E := by
    funext vs H1
    rw [List.append_nil]
  show t σ H (fun vs H1 => sp a (vs ++ []) H1 Q E)
  rw [e0]
  exact ht
def tagS : EX → Str
  | .num _ => "num" | .name _ => "name" | .fn _ _ => "fun" | .call _ _ => "call" | .lt _ _ _ => "let" | .pair _ _ => "pair" | .fst _ => "fst" | .not _ => "not"
def okOf : EX → EX → Prop
  | .num _ => isNum | .name _ => isName | .fn _ _ => isFun | .call _ _ => isCall_ | .lt _ _ _ => isLet | .pair _ _ => isPair | .fst _ => isHalf | .not _ => isNot
theorem okOf_self (e : EX) : okOf e e := by cases e <;> exact True.intro
theorem ex_tag {H : Hp} {v : V} {e : EX} (h : ExAt H v e) : ∃ p r, v = .ref p ∧ H p = some (.tup (.str (tagS e) :: r)) := by
  cases e with
  | num n => obtain ⟨p, e, h⟩ := h; exact ⟨p, _, e, h⟩
  | name x => obtain ⟨p, e, h⟩ := h; exact ⟨p, _, e, h⟩
  | fn x b => obtain ⟨p, _, e, h, _⟩ := h; exact ⟨p, _, e, h⟩
  | call f a => obtain ⟨p, _, _, e, h, _⟩ := h; exact ⟨p, _, e, h⟩
  | lt x b e => obtain ⟨p, _, _, e, h, _⟩ := h; exact ⟨p, _, e, h⟩
  | pair a b => obtain ⟨p, _, _, e, h, _⟩ := h; exact ⟨p, _, e, h⟩
  | fst e => obtain ⟨p, _, e, h, _⟩ := h; exact ⟨p, _, e, h⟩
  | not e => obtain ⟨p, _, e, h, _⟩ := h; exact ⟨p, _, e, h⟩
section
variable {P : Program} {w : World} {K : PySem.W.Frag} {mg : Str → Option Value} {base : Heap}
abbrev gGo : Stmt := topS 17
abbrev nGo : List Str := ["work", "expression", "names", "number", "rule"]
abbrev pGo : List Str := ["work", "expression", "names"]
theorem scGo : FnScope nGo pGo (defScope gGo) := ⟨rfl, rfl, rfl, by decide +kernel, rfl, by decide +kernel, by decide +kernel⟩
theorem pw_begin (r t dg da lo la : Addr) : (pw r t dg da lo la).lookup ("begin" : Str) = none := pw_no _ _ _ _ _ _ (by decide +kernel) (by decide +kernel) (by decide +kernel) (by decide +kernel) (by decide +kernel) (by decide +kernel)
theorem pw_lim (r t dg da lo la : Addr) : (pw r t dg da lo la).lookup ("limit_sizes" : Str) = none := pw_no _ _ _ _ _ _ (by decide +kernel) (by decide +kernel) (by decide +kernel) (by decide +kernel) (by decide +kernel) (by decide +kernel)
theorem ok_go0 {f CU CW C CR : Addr} {fd : FuncData} (F : Fun K "go_through" "go_through" gGo f fd) : FnOk P w K mg base (CX P w) 7 f fd pGo (spGo (goM 0) CU CW C CR K) := by
  refine F.okX (k := 6) scGo (fun vs H Q E h => ?_) (fun cdv A outer s H vs Q E hr h => ?_)
  · obtain ⟨wk, d, v, s, F, e, names, rfl, _⟩ := h
    rfl
  · obtain ⟨wk, d, v, s, F, e, names, rfl, _, _, _, _, hend⟩ := h
    exact hend.elim
theorem ok_go {k f0 : Nat} {f CU CW C CR : Addr} {fd : FuncData} {ra : EX → Addr} {pR : Addr} (F : Fun K "go_through" "go_through" gGo f fd) (TW : WTxt K mg CW) (hk : 7 ≤ k)
    (hB : ∃ f fd, FnOk P w K mg base CX0 2 f fd ["self"] (spBegin CW C CR K) ∧ Binds K fd ["self"] [] ∧ Meth K CW "begin" f)
    (hL : ∃ f fd, FnOk P w K mg base (CX P w) 5 f fd ["self", "types"] (spLim CU CW C CR K) ∧ Binds K fd ["self", "types"] [] ∧ Meth K CW "limit_sizes" f)
    (gR : mg "RULES" = some (.ref pR)) (dR : ∀ e, KDct K w pR (tagS e) (.ref (ra e)))
    (A : ∀ e, ∃ fd ps, FnOk P w K mg base (CX P w) (k + 2) (ra e) fd ps (spRule (okOf e) (goM f0) CU CW C CR K) ∧ PySem.W.keepIn K (.ref (ra e)) = true ∧ Binds K fd ps []) :
    FnOk P w K mg base (CX P w) (k + 3) f fd pGo (spGo (goM (f0 + 1)) CU CW C CR K) := by
  refine F.okX scGo (fun vs H Q E h => ?_) (fun cdv A' outer s H vs Q E hr h => ?_)
  · obtain ⟨wk, d, v, s, F, e, names, rfl, _⟩ := h
    rfl
  · obtain ⟨wk, d, v, s, F, ex, names, rfl, he, hd, nd, hW, hend⟩ := h
    obtain ⟨fB, fdB, GB, bB, mB⟩ := hB
    obtain ⟨fL, fdL, GL, bL, mL⟩ := hL
    refine ⟨_, pss_cons (ps_set (i := 3) scGo.nd rfl (Or.inl rfl) (pe_meth0 (pv 0) TW.cl mB GB (hr.mono (by omega)) bB .nil pass0))
      (pss_cons (ps_set (i := 4) scGo.nd rfl (Or.inl rfl) (pe_ix ix_kdict (pe_glob (v := V.ref pR) rfl gR rfl) (pe_ix ix_tup (pv 1) pe_int (fun _ _ => rfl)) (fun _ _ => rfl)))
      (pss_cons (ps_asg (pe_callR (i := 4) (ad := ra) A hr rfl (.inl rfl) (passes_call (takes_of rfl rfl rfl rfl) (fun _ _ _ _ h => h)) (pa_cons (pv 0) (pa_cons (pv 1) (pa_cons (pv 2) (pa_cons (pe_ix ix_list (pe_fld (pv 0) rfl) (pv 3) (fun _ _ => rfl)) pa_nil)))))
          (pg_sub (pe_fld (pv 0) rfl) (pv 3) set_list))
      (pss_cons (ps_expr (pe_meth (pv 0) TW.cl mL GL (hr.mono (by omega)) bL .nil (passes_call (takes_of rfl rfl rfl rfl) (fun _ _ _ _ h => h)) (pa_cons (pe_lst (pa_cons (pe_ix ix_list (pe_fld (pv 0) rfl) (pv 3) (fun _ _ => rfl)) pa_nil)) pa_nil)))
      (pss_one (ps_ret (pv 3)))))), ?_⟩
    unfold goM at hend
    by_cases c : 900 < s.fd.length ∨ 900 < s.ak.length ∨ s.fd.length ≠ s.ak.length ∨ 90 < names.length ∨ 98 < s.tm.n
    · rw [if_pos c] at hend
      exact hend.elim
    rw [if_neg c] at hend
    obtain ⟨dx, r, t, dg, da, lo, la, FT, hi, rfl⟩ := id hW
    refine ⟨_, rfl, wk, dx, _, rfl, hi.ins, pw_begin _ _ _ _ _ _, ?_⟩
    refine ⟨wk, s, _, rfl, hW, by omega, by omega, by omega, fun H1 F1 hW1 mv1 => ?_⟩
    obtain ⟨p, rest, rfl, hp⟩ := ex_tag he
    have hp1 := mv1.tup hp
    refine ⟨_, rfl, p, _, 0, _, rfl, rfl, SqT.of hp1, atI_nat (j := 0) rfl, pR, _, _, rfl, rfl, dR ex, ?_⟩
    obtain ⟨dx, r, t, dg, da, lo, la, FT, hi1, rfl⟩ := id hW1
    have hak : (beginM s).ak[s.fd.length]? = some s.tm.n := by
      show (s.ak ++ [s.tm.n])[s.fd.length]? = _
      rw [show s.fd.length = s.ak.length by omega]
      simp
    refine ⟨ex, rfl, _, rfl, _, rfl, _, rfl, _, rfl, wk, CW, dx, _, _, rfl, hi1.ins, TW.cl, TW.nK, pw_asked _ _ _ _ _ _, _, rfl, la, _, _, _, rfl, rfl, SqL.of hi1.ak, at_nv hak, ?_⟩
    refine ⟨wk, d, _, beginM s, _, ex, names, s.tm.n, rfl, okOf_self ex, he.stay mv1.ch, mv1.keep hd nd, by omega, mv1.out hd nd, hW1, rs_sub hend mv1 fun p3 e3 hend3 => fun H2 F2 hW2 mv2 => ?_⟩
    obtain ⟨ty, s3⟩ := p3
    dsimp only at hend3 hW2 ⊢
    by_cases c2 : s.fd.length < s3.fd.length ∧ s3.ak[s.fd.length]? = some s.tm.n
    · rw [if_pos c2] at hend3
      obtain ⟨dx, r, t, dg, da, lo, la, FT, hi2, rfl⟩ := id hW2
      have hget : s3.fd[s.fd.length]? = some s3.fd[s.fd.length] := List.getElem?_eq_getElem c2.1
      refine ⟨_, rfl, wk, CW, dx, _, _, rfl, hi2.ins, TW.cl, TW.nF, pw_found _ _ _ _ _ _, _, rfl, lo, _, _, s.fd.length, rfl, rfl, hi2.fo, (by rw [List.length_map]; exact ix_nv hget), ?_⟩
      obtain ⟨hi3, mv3⟩ := hi2.setF (fd := s3.fd.set s.fd.length (some ty))
      rw [show (s3.fd.map rV).set s.fd.length (nv ty) = (s3.fd.set s.fd.length (some ty)).map rV by rw [List.map_set]; rfl]
      generalize upd H2 lo (.lst ((s3.fd.set s.fd.length (some ty)).map rV)) = H3 at hi3 mv3
      have hty : (s3.fd.set s.fd.length (some ty))[s.fd.length]? = some (some ty) := List.getElem?_set_self c2.1
      refine ⟨_, rfl, wk, dx, _, rfl, hi3.ins, pw_lim _ _ _ _ _ _, _, rfl, wk, CW, dx, _, _, rfl, hi3.ins, TW.cl, TW.nF, pw_found _ _ _ _ _ _, _, rfl, lo, _, _, _, rfl, rfl, SqL.of hi3.fo, found_at hty, (by show 1 ≤ sizeLine; decide), fun a ha => ?_⟩
      have mv4 : ∀ o, Mv (FWk lo la FT) H3 (FWk lo la FT) (upd H3 a o) := fun o => .new ha
      have hi4 := fun o => hi3.stay (F' := F0) (ch_new (o := o) ha) (fun _ _ f => f) (fun f => f) fun f => f
      have hW4 := fun o => (⟨dx, r, t, dg, da, lo, la, FT, hi4 o, rfl⟩ : WkAt K CW C CR (upd H3 a o) wk _ _)
      have nW : ¬ FWk lo la FT a := WkAt.notin (K := K) (CW := CW) (C := C) (CR := CR) (H := H3) (w := wk) (s := { tm := s3.tm, fd := s3.fd.set s.fd.length (some ty), ak := s3.ak }) ⟨dx, r, t, dg, da, lo, la, FT, hi3, rfl⟩ ha
      refine ⟨wk, a, _, _, [ty], rfl, upd_same, ?_, hW4 _, rs_sub hend3 (((mv1.trans mv2).trans mv3).trans (mv4 _)) fun s4 e4 hend4 => fun H5 F5 hW5 mv5 => ?_⟩
      · intro dx' r' t' dg' da' lo' la' FT' hi' eF f
        have : FWk lo' la' FT' a := .inr (.inr f)
        rw [← eF] at this
        exact nW this
      · exact ⟨_, rfl, hend4 _ _ hW5 ((((mv1.trans mv2).trans mv3).trans (mv4 _)).trans mv5)⟩
    · rw [if_neg c2] at hend3
      exact hend3.elim
end
end Kt


set_option Elab.async false
set_option linter.all false
set_option maxRecDepth 100000
set_option maxHeartbeats 4000000
namespace Kt
open PySem PySem.Spec L2 PyProof.Rows Km Ka
section
variable {P : Program} {w : World} {K : PySem.W.Frag} {mg : Str → Option Value} {base : Heap}
/-! ### Types.__init__ -/
def spTI (C CR : Addr) (K : PySem.W.Frag) : Sp := fun vs H Q _ => ∃ (H0 : Hp) (t r dx n b : Addr) (E : Nat → Nat → List Str → Prop) (FR : Addr → Prop), vs = [.ref t, .ref r] ∧ Same H0 H ∧ H0 t = none ∧ H t = some (.ins C dx []) ∧ RwAt CR H0 r n NoS E b FR ∧
  ∀ (H' : Hp) (F' : Addr → Prop), TyAt K C CR H' t r ⟨[], [], n, b⟩ F' → Mv FR H0 F' H' → Q .non H'
theorem scTI : FnScope ["self", "rows"] ["self", "rows"] (defScope tInit) := ⟨rfl, rfl, rfl, by decide +kernel, rfl, by decide +kernel, by decide +kernel⟩
theorem ok_ti {f C CR : Addr} {fd : FuncData} (F : Fun K "__init__" "Types.__init__" tInit f fd) (T : TTxt K mg C) : FnOk P w K mg base CX0 1 f fd ["self", "rows"] (spTI C CR K) := by
  refine F.ok scTI (fun vs H Q E h => ?_) (fun cdv A outer s H vs Q E hr h => ?_)
  · obtain ⟨H0, t, r, dx, n, b, E, FR, rfl, _⟩ := h
    rfl
  · obtain ⟨H0, t, r, dx, n, b, E', FR, rfl, s0, t0, ht, hR, k⟩ := h
    refine ⟨_, pss_cons (ps_fld (pv 0) (pv 1) rfl) (pss_cons (ps_fld (pv 0) (pe_lst pa_nil) rfl) (pss_one (ps_fld (pv 0) (pe_lst pa_nil) rfl))), ?_⟩
    refine ⟨_, rfl, _, rfl, t, C, dx, [], rfl, ht, T.cl, T.nR, (by show 0 < 1000; decide), Nat.zero_le _, fun lf hlf => ?_⟩
    have ntf : t ≠ lf := fun q => by rw [← q, upd_same] at hlf; cases hlf
    have hf0 : H lf = none := by rw [upd_ne ntf.symm] at hlf; exact hlf
    refine ⟨_, rfl, t, C, dx, _, rfl, (by rw [upd_ne ntf, upd_same]), T.cl, T.nF, (by show 1 < 1000; decide), Nat.zero_le _, fun ll hll => ?_⟩
    have ntl : t ≠ ll := fun q => by rw [← q, upd_same] at hll; cases hll
    have nfl : lf ≠ ll := fun q => by rw [← q, upd_ne ntf.symm, upd_same] at hll; cases hll
    have hl0 : H ll = none := by rw [upd_ne ntl.symm, upd_ne nfl.symm, upd_ne ntl.symm] at hll; exact hll
    refine ⟨_, rfl, t, C, dx, _, rfl, (by rw [upd_ne ntl, upd_same]), T.cl, T.nL, (by show 2 < 1000; decide), ?_⟩
    have trk : ∀ a, FR a → ∃ o, H0 a = some o := fun a f => by
      obtain ⟨o, e, _⟩ := hR.tracked f
      exact ⟨o, e⟩
    have nFt : ¬ FR t := fun f => by obtain ⟨o, e⟩ := trk _ f; rw [t0] at e; cases e
    have nFf : ¬ FR lf := fun f => by obtain ⟨o, e⟩ := trk _ f; rw [s0.free hf0] at e; cases e
    have nFl : ¬ FR ll := fun f => by obtain ⟨o, e⟩ := trk _ f; rw [s0.free hl0] at e; cases e
    have sAll : Same H0 (upd (upd (upd (upd (upd H t (.ins C dx (putF "rows" (.ref r) []))) lf (.lst [])) t (.ins C dx (putF "forms" (.ref lf) (putF "rows" (.ref r) [])))) ll (.lst [])) t (.ins C dx (pt r lf ll))) :=
      same_upd_at (same_upd_at (same_upd_at (same_upd_at (same_upd_at s0 t0) (s0.free hf0)) t0) (s0.free hl0)) t0
    refine k _ (FTy lf ll FR) ⟨dx, lf, ll, [], E', FR, ⟨upd_same, ?_, .nil, ?_, hR.stay (F' := F0) (ch_of_same sAll) (fun _ _ f => f), nfl, nFf, nFl, nFt, by simp⟩, rfl⟩ ⟨ch_of_same sAll, ?_⟩
    · rw [upd_ne ntf.symm, upd_ne nfl, upd_ne ntf.symm, upd_same]
    · rw [upd_ne ntl.symm, upd_same]
      rfl
    · rintro a (e | e | e)
      · exact .inr (by rw [e]; exact s0.free hf0)
      · exact .inr (by rw [e]; exact s0.free hl0)
      · exact .inl e
/-! ### Work.__init__ -/
abbrev nWI : List Str := ["self", "operations", "name", "given", "answered"]
theorem scWI : FnScope nWI ["self", "operations"] (defScope wInit) := ⟨rfl, rfl, rfl, by decide +kernel, rfl, by decide +kernel, by decide +kernel⟩
def s00 : MS := ⟨⟨[], [], 0, 0⟩, [], []⟩
def spWI (CW C CR : Addr) (K : PySem.W.Frag) : Sp := fun vs H Q _ => ∃ (H0 : Hp) (wk dx po : Addr), vs = [.ref wk, .ref po] ∧ Same H0 H ∧ H0 wk = none ∧ H wk = some (.ins CW dx []) ∧ TupA K H po [] ∧
  ∀ (H' : Hp) (F' : Addr → Prop), WkAt K CW C CR H' wk s00 F' → Same H0 H' → (∀ a, F' a → H0 a = none) → Q .non H'
theorem ok_wi {f fR fT CW C CR : Addr} {fd fdR fdT : FuncData} (F : Fun K "__init__" "Work.__init__" wInit f fd) (TW : WTxt K mg CW) (T : TTxt K mg C) (TR : Txt K mg CR) (MR : Mk K CR fR) (MT : Mk K C fT)
    (GR : FnOk P w K mg base CX0 1 fR fdR ["self"] (spInit CR)) (bR : Binds K fdR ["self"] []) (GT : FnOk P w K mg base CX0 1 fT fdT ["self", "rows"] (spTI C CR K)) (bT : Binds K fdT ["self", "rows"] []) :
    FnOk P w K mg base CX0 3 f fd ["self", "operations"] (spWI CW C CR K) := by
  refine F.ok scWI (fun vs H Q E h => ?_) (fun cdv A outer s H vs Q E hr h => ?_)
  · obtain ⟨H0, wk, dx, po, rfl, _⟩ := h
    rfl
  · obtain ⟨H0, wk, dx, po, rfl, s0, w0, hw, hpo, k⟩ := h
    refine ⟨_, pss_cons (ps_fld (pv 0) (pe_make0 MR GR hr rfl TR.mgC bR .nil pass0) rfl)
      (pss_cons (ps_fld (pv 0) (pe_make MT GT hr rfl T.mgC bT .nil pass0 (pa_cons (pe_fld (pv 0) rfl) pa_nil)) rfl)
      (pss_cons (ps_fld (pv 0) pe_dnewK rfl) (pss_cons (ps_fld (pv 0) pe_dnewK rfl)
      (pss_cons (ps_for PassesOwn.never rfl (pi_tup (pv 1)) (pg_tup rfl (pgs_cons (pg_name (i := 2) scWI.nd rfl (Or.inl rfl)) (pgs_cons (pg_name (i := 3) scWI.nd rfl (Or.inl rfl)) (pgs_cons (pg_name (i := 4) scWI.nd rfl (Or.inl rfl)) pgs_nil)))) pss_never)
      (pss_cons (ps_fld (pv 0) (pe_lst pa_nil) rfl) (pss_one (ps_fld (pv 0) (pe_lst pa_nil) rfl))))))), ?_⟩
    intro r dxr hr0 hdr hne
    have nwr : ∀ {a : Addr}, H a = none → wk ≠ a := fun {a} h => ne_of_none hw h
    refine ⟨H, r, dxr, rfl, same_upd_at (same_new hdr) hr0, hr0, upd_same, fun H1 FR hR s1 g1 => ⟨rfl, ?_⟩⟩
    have hw1 := s1 _ _ hw
    have nFw : ¬ FR wk := fun f => by have := g1 _ f; rw [hw] at this; cases this
    refine ⟨_, rfl, wk, CW, dx, [], rfl, hw1, TW.cl, TW.nR, (by show 0 < 1000; decide), ?_⟩
    have cw : ∀ {Hx : Hp} {c dy : Addr} {fs : List (Str × V)} {o : HO}, Hx wk = some (.ins c dy fs) → Ch (fun a => a = wk) Hx (upd Hx wk o) := fun h => ch_at h (by intro xs z; cases z) rfl
    have hR2 := hR.stay (cw (o := .ins CW dx (putF "rows" (.ref r) [])) hw1) fun a f e => nFw (by rw [← e]; exact f)
    have s2 : Same H0 (upd H1 wk (.ins CW dx (putF "rows" (.ref r) []))) := same_upd_at (fun b o e => s1 _ _ (s0 _ _ e)) w0
    have hw2 : (upd H1 wk (.ins CW dx (putF "rows" (.ref r) []))) wk = some (.ins CW dx (putF "rows" (.ref r) [])) := upd_same
    have g2 : ∀ a, FR a → H0 a = none := fun a f => s0.free (g1 a f)
    have hpo2 : TupA K (upd H1 wk (.ins CW dx (putF "rows" (.ref r) []))) po [] := (hpo.stay (F := F0) (ch_of_same s1)).stay (cw hw1)
    generalize upd H1 wk (.ins CW dx (putF "rows" (.ref r) [])) = H2 at hR2 s2 hw2 hpo2
    -- types
    refine ⟨_, rfl, wk, CW, dx, _, _, rfl, hw2, TW.cl, TW.nR, (by rw [lookup_putF, if_pos rfl]), fun t dxt ht hdt hnet => ?_⟩
    refine ⟨H2, t, r, dxt, 0, 0, _, FR, rfl, same_upd_at (same_new hdt) ht, ht, upd_same, hR2, fun H3 FT hT mv3 => ⟨rfl, ?_⟩⟩
    have hw3 := mv3.keep hw2 nFw
    have nTw : ¬ FT wk := mv3.out hw2 nFw
    have s3 : Same H0 H3 := fun b o e => mv3.ch.keep _ _ (s2 _ _ e) fun f => by have := g2 _ f; rw [this] at e; cases e
    have g3 : ∀ a, FT a → H0 a = none := fun a f => (mv3.gr a f).elim (g2 a) fun e => s2.free e
    have ntw : t ≠ wk := fun q => by rw [q, hw2] at ht; cases ht
    refine ⟨_, rfl, wk, CW, dx, _, rfl, hw3, TW.cl, TW.nT, (by show 1 < 1000; decide), ?_⟩
    have hT4 := hT.stay (cw (o := .ins CW dx (putF "types" (.ref t) (putF "rows" (.ref r) []))) hw3) (fun a f e => nTw (by rw [← e]; exact f)) ntw
    have s4 : Same H0 (upd H3 wk (.ins CW dx (putF "types" (.ref t) (putF "rows" (.ref r) [])))) := same_upd_at s3 w0
    have hw4 : (upd H3 wk (.ins CW dx (putF "types" (.ref t) (putF "rows" (.ref r) [])))) wk = some (.ins CW dx (putF "types" (.ref t) (putF "rows" (.ref r) []))) := upd_same
    have hpo4 : TupA K (upd H3 wk (.ins CW dx (putF "types" (.ref t) (putF "rows" (.ref r) [])))) po [] := (hpo2.stay mv3.ch).stay (cw hw3)
    generalize upd H3 wk (.ins CW dx (putF "types" (.ref t) (putF "rows" (.ref r) []))) = H4 at hT4 s4 hw4 hpo4
    -- given
    intro dg hdg
    have n1 := ne_of_none hw4 hdg
    refine ⟨_, rfl, wk, CW, dx, _, rfl, (by rw [upd_ne n1]; exact hw4), TW.cl, TW.nG, (by show 2 < 1000; decide), ?_⟩
    have hw5 : (upd H4 dg (.dK [])) wk = some (.ins CW dx (putF "types" (.ref t) (putF "rows" (.ref r) []))) := by rw [upd_ne n1]; exact hw4
    have hT5 := (hT4.new (o := .dK []) hdg).stay (cw (o := .ins CW dx (putF "given" (.ref dg) (putF "types" (.ref t) (putF "rows" (.ref r) [])))) hw5) (fun a f e => nTw (by rw [← e]; exact f)) ntw
    have s5 : Same H0 (upd (upd H4 dg (.dK [])) wk (.ins CW dx (putF "given" (.ref dg) (putF "types" (.ref t) (putF "rows" (.ref r) []))))) := same_upd_at (same_upd_at s4 (s4.free hdg)) w0
    have hpo5 : TupA K (upd (upd H4 dg (.dK [])) wk (.ins CW dx (putF "given" (.ref dg) (putF "types" (.ref t) (putF "rows" (.ref r) []))))) po [] := (hpo4.stay (F := F0) (ch_new hdg)).stay (cw hw5)
    have hw6 : (upd (upd H4 dg (.dK [])) wk (.ins CW dx (putF "given" (.ref dg) (putF "types" (.ref t) (putF "rows" (.ref r) []))))) wk = some (.ins CW dx (putF "given" (.ref dg) (putF "types" (.ref t) (putF "rows" (.ref r) [])))) := upd_same
    generalize upd (upd H4 dg (.dK [])) wk (.ins CW dx (putF "given" (.ref dg) (putF "types" (.ref t) (putF "rows" (.ref r) [])))) = H6 at hT5 s5 hpo5 hw6
    -- answered
    intro da hda
    have n2 := ne_of_none hw6 hda
    refine ⟨_, rfl, wk, CW, dx, _, rfl, (by rw [upd_ne n2]; exact hw6), TW.cl, TW.nA, (by show 3 < 1000; decide), ?_⟩
    have hw7 : (upd H6 da (.dK [])) wk = some (.ins CW dx (putF "given" (.ref dg) (putF "types" (.ref t) (putF "rows" (.ref r) [])))) := by rw [upd_ne n2]; exact hw6
    have hT7 := (hT5.new (o := .dK []) hda).stay (cw (o := .ins CW dx (putF "answered" (.ref da) (putF "given" (.ref dg) (putF "types" (.ref t) (putF "rows" (.ref r) []))))) hw7) (fun a f e => nTw (by rw [← e]; exact f)) ntw
    have s7 : Same H0 (upd (upd H6 da (.dK [])) wk (.ins CW dx (putF "answered" (.ref da) (putF "given" (.ref dg) (putF "types" (.ref t) (putF "rows" (.ref r) [])))))) := same_upd_at (same_upd_at s5 (s5.free hda)) w0
    have hpo7 : TupA K (upd (upd H6 da (.dK [])) wk (.ins CW dx (putF "answered" (.ref da) (putF "given" (.ref dg) (putF "types" (.ref t) (putF "rows" (.ref r) [])))))) po [] := (hpo5.stay (F := F0) (ch_new hda)).stay (cw hw7)
    have hw8 : (upd (upd H6 da (.dK [])) wk (.ins CW dx (putF "answered" (.ref da) (putF "given" (.ref dg) (putF "types" (.ref t) (putF "rows" (.ref r) [])))))) wk = some (.ins CW dx (putF "answered" (.ref da) (putF "given" (.ref dg) (putF "types" (.ref t) (putF "rows" (.ref r) []))))) := upd_same
    generalize upd (upd H6 da (.dK [])) wk (.ins CW dx (putF "answered" (.ref da) (putF "given" (.ref dg) (putF "types" (.ref t) (putF "rows" (.ref r) []))))) = H8 at hT7 s7 hpo7 hw8
    -- the operations
    refine ⟨_, rfl, po, rfl, ⟨_, hpo7.sq⟩, for_tup (K := K) (a := po) (xs := []) (fun i σ H9 => σ = [some (.ref wk), some (.ref po), none, none, none] ∧ H9 = H8) ⟨rfl, rfl⟩ (fun i σ H9 _ q => by rw [q.2]; exact hpo7.sq) (fun i x σ H9 hx _ => by simp at hx) ?_⟩
    rintro σ H9 ⟨rfl, rfl⟩
    -- found
    refine ⟨Nat.zero_le _, fun lo hlo => ?_⟩
    have n3 := ne_of_none hw8 hlo
    have hwA : (upd H9 lo (.lst [])) wk = some (.ins CW dx (putF "answered" (.ref da) (putF "given" (.ref dg) (putF "types" (.ref t) (putF "rows" (.ref r) []))))) := by rw [upd_ne n3]; exact hw8
    refine ⟨_, rfl, wk, CW, dx, _, rfl, hwA, TW.cl, TW.nF, (by show 4 < 1000; decide), ?_⟩
    have nlo := hT7.notin hlo
    have hTA := (hT7.new (o := .lst []) hlo).stay (cw (o := .ins CW dx (putF "found" (.ref lo) (putF "answered" (.ref da) (putF "given" (.ref dg) (putF "types" (.ref t) (putF "rows" (.ref r) [])))))) hwA) (fun a f e => nTw (by rw [← e]; exact f)) ntw
    have sA : Same H0 (upd (upd H9 lo (.lst [])) wk (.ins CW dx (putF "found" (.ref lo) (putF "answered" (.ref da) (putF "given" (.ref dg) (putF "types" (.ref t) (putF "rows" (.ref r) []))))))) := same_upd_at (same_upd_at s7 (s7.free hlo)) w0
    have hloA : (upd (upd H9 lo (.lst [])) wk (.ins CW dx (putF "found" (.ref lo) (putF "answered" (.ref da) (putF "given" (.ref dg) (putF "types" (.ref t) (putF "rows" (.ref r) []))))))) lo = some (.lst []) := by rw [upd_ne n3.symm, upd_same]
    have hwB : (upd (upd H9 lo (.lst [])) wk (.ins CW dx (putF "found" (.ref lo) (putF "answered" (.ref da) (putF "given" (.ref dg) (putF "types" (.ref t) (putF "rows" (.ref r) []))))))) wk = some (.ins CW dx (putF "found" (.ref lo) (putF "answered" (.ref da) (putF "given" (.ref dg) (putF "types" (.ref t) (putF "rows" (.ref r) [])))))) := upd_same
    have lo0 := s7.free hlo
    generalize upd (upd H9 lo (.lst [])) wk (.ins CW dx (putF "found" (.ref lo) (putF "answered" (.ref da) (putF "given" (.ref dg) (putF "types" (.ref t) (putF "rows" (.ref r) [])))))) = HB at hTA sA hloA hwB
    -- asked
    refine ⟨Nat.zero_le _, fun la hla => ?_⟩
    have n4 := ne_of_none hwB hla
    have n5 := ne_of_none hloA hla
    have hwC : (upd HB la (.lst [])) wk = some (.ins CW dx (putF "found" (.ref lo) (putF "answered" (.ref da) (putF "given" (.ref dg) (putF "types" (.ref t) (putF "rows" (.ref r) [])))))) := by rw [upd_ne n4]; exact hwB
    refine ⟨_, rfl, wk, CW, dx, _, rfl, hwC, TW.cl, TW.nK, (by show 5 < 1000; decide), ?_⟩
    have nla := hTA.notin hla
    have hTC := (hTA.new (o := .lst []) hla).stay (cw (o := .ins CW dx (pw r t dg da lo la)) hwC) (fun a f e => nTw (by rw [← e]; exact f)) ntw
    refine k _ (FWk lo la FT) ⟨dx, r, t, dg, da, lo, la, FT, ⟨upd_same, ?_, ?_, hTC, n5, nlo, nla, nTw⟩, rfl⟩ (same_upd_at (same_upd_at sA (sA.free hla)) w0) ?_
    · rw [upd_ne n3.symm, upd_ne n5]
      exact hloA
    · rw [upd_ne n4.symm, upd_same]
      rfl
    · rintro a (e | e | e)
      · rw [e]; exact lo0
      · rw [e]; exact sA.free hla
      · exact g3 a e
end
end Kt


set_option Elab.async false
set_option linter.all false
set_option maxRecDepth 100000
set_option maxHeartbeats 4000000
namespace Kt
open PySem PySem.Spec L2 PyProof.Rows Km Ka
theorem allSome_eq : ∀ {l : List (Option Nat)} {ts : List Nat}, allSome l = some ts → l.map rV = ts.map nv
  | [], ts, h => by
    obtain rfl := Option.some.inj h
    rfl
  | none :: _, _, h => by cases h
  | some x :: r, ts, h => by
    unfold allSome at h
    cases e : allSome r with
    | none => rw [e] at h; cases h
    | some y =>
      rw [e] at h
      obtain rfl : x :: y = ts := Option.some.inj h
      show nv x :: r.map rV = nv x :: y.map nv
      rw [allSome_eq e]
theorem least_none {n : Nat} {E : Nat → Nat → List Str → Prop} {rows : List (List Str)} (h : Least n (Must NoS E) rows) : rows = List.replicate n [] := by
  have no : ∀ i s, ¬ Must NoS E i s := fun i s m => by
    induction m with
    | base h => exact h
    | step _ _ _ ih => exact ih
  refine List.ext_getElem? fun i => ?_
  rw [List.getElem?_replicate]
  by_cases c : i < n
  · rw [if_pos c]
    have c' : i < rows.length := by rw [h.len]; exact c
    rw [List.getElem?_eq_getElem c']
    congr 1
    refine List.eq_nil_iff_forall_not_mem.mpr fun s hs => no i s ((h.mem i _ (List.getElem?_eq_getElem c') s).mp hs)
  · rw [if_neg c, List.getElem?_eq_none (by rw [h.len]; omega)]
section
variable {P : Program} {w : World} {K : PySem.W.Frag} {mg : Str → Option Value} {base : Heap}
abbrev gInf : Stmt := topS 16
abbrev nInf : List Str := ["program", "_", "operations", "expression", "work", "rows", "row"]
theorem scInf : FnScope nInf ["program"] (defScope gInf) := ⟨rfl, rfl, rfl, by decide +kernel, rfl, by decide +kernel, by decide +kernel⟩
def spInf (CU : Addr) (K : PySem.W.Frag) : Sp := fun vs H Q E => ∃ (pg po : Addr) (ve : V) (e : EX), vs = [.ref pg] ∧ H pg = some (.tup [.str "program", .ref po, ve]) ∧ TupA K H po [] ∧ ExAt H ve e ∧
  RsEnd CU F0 H (inferM e) (fun z => ∀ (H' : Hp) (q a0 a1 : Addr) (u0 : V) (ur : List V), Same H H' → H' q = some (.tup [.ref a0, .ref a1]) → H' a0 = some (.lst (u0 :: ur)) → RtAt H' u0 z → Q (.ref q) H') E
theorem pt_results (r lf ll : Addr) : (pt r lf ll).lookup ("results" : Str) = none := pt_no _ _ _ (by decide +kernel) (by decide +kernel) (by decide +kernel)
theorem WkIn.loU {CW C CR : Addr} {H : Hp} {w dx r t dg da lo la dx' r' t' dg' da' lo' la' : Addr} {s : MS} {FT FT' : Addr → Prop} (h : WkIn K CW C CR H w dx r t dg da lo la s FT) (h' : WkIn K CW C CR H w dx' r' t' dg' da' lo' la' s FT') : lo = lo' := by
  have e := h.ins.symm.trans h'.ins
  injection e with e
  injection e with _ _ e
  have e1 := pw_found r t dg da lo la
  rw [e, pw_found] at e1
  have e2 := Option.some.inj e1
  injection e2 with e2
  exact e2.symm
theorem ok_inf {k : Nat} {f fW fG CU CW C CR : Addr} {fd fdW fdG : FuncData} (F : Fun K "infer" "infer" gInf f fd) (TW : WTxt K mg CW) (T : TTxt K mg C) (TR : Txt K mg CR) (hk : 7 ≤ k) (MW : Mk K CW fW)
    (GW : FnOk P w K mg base CX0 3 fW fdW ["self", "operations"] (spWI CW C CR K)) (bW : Binds K fdW ["self", "operations"] [])
    (G : Fn P w K mg base (CX P w) k "go_through" pGo (spGo (goM 24) CU CW C CR K) fG fdG)
    (hL : ∃ f fd, FnOk P w K mg base (CX P w) 5 f fd ["self", "types"] (spLim CU CW C CR K) ∧ Binds K fd ["self", "types"] [] ∧ Meth K CW "limit_sizes" f)
    (hE : ∃ f fd, FnOk P w K mg base CX0 2 f fd ["self"] (spLeast CR) ∧ Binds K fd ["self"] [] ∧ Meth K CR "least" f)
    (hR : ∃ f fd, FnOk P w K mg base CX0 4 f fd ["self", "ones", "rows"] (spRs C CR K) ∧ Binds K fd ["self", "ones", "rows"] [] ∧ Meth K C "results" f) : FnOk P w K mg base (CX P w) (k + 1) f fd ["program"] (spInf CU K) := by
  refine F.okX scInf (fun vs H Q E h => ?_) (fun cdv A' outer s H vs Q E hr h => ?_)
  · obtain ⟨pg, po, ve, e, rfl, _⟩ := h
    rfl
  · obtain ⟨pg, po, ve, ex, rfl, hp, hpo, he, hend⟩ := h
    obtain ⟨fL, fdL, GL, bL, mL⟩ := hL
    obtain ⟨fE, fdE, GE, bE, mE⟩ := hE
    obtain ⟨fR, fdR, GR, bR, mR⟩ := hR
    refine ⟨_, pss_cons (ps_asg (pv 0) (pg_tup rfl (pgs_cons (pg_name (i := 1) scInf.nd rfl (Or.inl rfl)) (pgs_cons (pg_name (i := 2) scInf.nd rfl (Or.inl rfl)) (pgs_cons (pg_name (i := 3) scInf.nd rfl (Or.inl rfl)) pgs_nil)))))
      (pss_cons (ps_set (i := 4) scInf.nd rfl (Or.inl rfl) (pe_make MW GW (hr.mono (by omega)) rfl TW.mgC bW .nil pass0 (pa_cons (pv 2) pa_nil)))
      (pss_cons (ps_expr (pe_call G.ok hr (by rfl) G.g G.kp G.b .nil (passes_call (takes_of rfl rfl rfl rfl) (fun _ _ _ _ h => h)) (pa_cons (pv 4) (pa_cons (pv 3) (pa_cons pe_dnewK pa_nil)))))
      (pss_cons (ps_expr (pe_meth (pv 4) TW.cl mL GL (hr.mono (by omega)) bL .nil (passes_call (takes_of rfl rfl rfl rfl) (fun _ _ _ _ h => h)) (pa_cons (pe_fld (pv 4) rfl) pa_nil)))
      (pss_cons (ps_set (i := 5) scInf.nd rfl (Or.inr rfl) (pe_meth0 (pe_fld (pv 4) rfl) TR.cl mE GE (hr.mono (by omega)) bE .nil pass0))
      (pss_one (ps_ret (pe_tup (pa_cons (pe_meth (pe_fld (pv 4) rfl) T.cl mR GR (hr.mono (by omega)) bR .nil pass0 (pa_cons (pe_fld (pv 4) rfl) (pa_cons (pv 5) pa_nil)))
        (pa_cons (pe_lc (own := [("row", 6)]) (g := gName 6) (tt := tYes) (te := tOp (rIxL K) (tVar 5) (tVar 6)) rfl scInf.nd (pi_list (pe_fld (pv 4) rfl)) (blkOk_by (N := nInf) (sc := defScope gInf) (by decide +kernel))
          (fun _ _ _ _ _ => pg_name (i := 6) scInf.nd rfl (Or.inl rfl)) (fun _ _ _ _ _ => pts_nil) (fun _ _ _ _ _ => pe_ix ix_list (pv 5) (pv 6) (fun _ _ => rfl))) pa_nil))))))))), ?_⟩
    refine ⟨_, rfl, pg, _, rfl, SqT.of hp, rfl, _, _, rfl, _, _, rfl, _, _, rfl, rfl, ?_⟩
    refine ⟨_, rfl, fun wk dxw hwk hdw hne => ?_⟩
    have s0 : Same H (upd (upd H dxw (.own wk)) wk (.ins CW dxw [])) := same_upd_at (same_new hdw) hwk
    refine ⟨H, wk, dxw, po, rfl, s0, hwk, upd_same, hpo.stay (F := F0) (ch_of_same s0), fun H1 F1 hW1 s1 g1 => ⟨rfl, ?_⟩⟩
    have mv1 : Mv F0 H F1 H1 := ⟨ch_of_same s1, fun a f => .inr (g1 a f)⟩
    refine ⟨_, rfl, _, rfl, fun d hd => ?_⟩
    have mv2 : Mv F1 H1 F1 (upd H1 d (.dK [])) := .new hd
    refine ⟨wk, d, ve, s00, F1, ex, [], rfl, (he.stay mv1.ch).stay mv2.ch, upd_same, hW1.notin hd, hW1.new hd, rs_sub hend (mv1.trans mv2) fun p3 e3 hend3 => fun H3 F3 hW3 mv3 => ?_⟩
    obtain ⟨n3, s3⟩ := p3
    have mvA := (mv1.trans mv2).trans mv3
    dsimp only at hend3 hW3
    cases ets : allSome s3.fd with
    | none => rw [ets] at hend3; exact hend3.elim
    | some ts =>
      rw [ets] at hend3
      dsimp only at hend3
      obtain ⟨dx, r, t, dg, da, lo, la, FT, hi, rfl⟩ := id hW3
      have hlo : H3 lo = some (.lst (ts.map nv)) := by rw [← allSome_eq ets]; exact hi.fo
      refine ⟨_, rfl, wk, dx, _, rfl, hi.ins, pw_lim _ _ _ _ _ _, _, rfl, wk, CW, dx, _, _, rfl, hi.ins, TW.cl, TW.nF, pw_found _ _ _ _ _ _, ?_⟩
      refine ⟨wk, lo, s3, _, ts, rfl, hlo, ?_, hW3, rs_sub hend3 mvA fun s4 e4 hend4 => fun H4 F4 hW4 mv4 => ?_⟩
      · intro dx' r' t' dg' da' lo' la' FT' hi' eF f
        have eq := hi.loU hi'
        rw [eq] at f
        exact hi'.nf f
      · have mvB := mvA.trans mv4
        by_cases c : s4.tm.n ≤ 100 ∧ s4.tm.b ≤ 900 ∧ s4.ak.length ≤ 900 ∧ s4.ak.all (fun a => decide (a < s4.tm.n)) = true
        · rw [if_pos c] at hend4
          obtain ⟨c1, c2, c3, c4⟩ := c
          have efd : s4.fd = s3.fd := by
            have e4' := e4
            unfold limitM at e4'
            cases ez : szAll s3.tm.forms ts s3.tm.leads with
            | none => rw [ez] at e4'; cases e4'
            | some zl =>
              obtain ⟨zs, ls⟩ := zl
              rw [ez] at e4'
              dsimp only at e4'
              split at e4'
              · cases e4'
              · split at e4'
                · cases e4'
                · cases e4'
                  rfl
          cases er : rsAll s4.tm.forms (List.replicate s4.tm.n []) ts s4.tm.leads with
          | none => rw [er] at hend4; exact hend4.elim
          | some zl =>
            obtain ⟨zs, ls⟩ := zl
            cases zs with
            | nil => rw [er] at hend4; exact hend4.elim
            | cons z zr =>
              rw [er] at hend4
              have fin := hend4
              obtain ⟨dx, r, t, dg, da, lo, la, FT, hi4, rfl⟩ := id hW4
              have hlo4 : H4 lo = some (.lst (ts.map nv)) := by rw [← allSome_eq ets, ← efd]; exact hi4.fo
              obtain ⟨E1, FR, hR4, back⟩ := hi4.ty.rows
              obtain ⟨dxr, lr, dr, ir⟩ := hR4.ins
              refine ⟨_, rfl, wk, CW, dx, _, _, rfl, hi4.ins, TW.cl, TW.nR, pw_rows _ _ _ _ _ _, r, dxr, _, rfl, ir, pf_no _ _ (by decide +kernel) (by decide +kernel), ?_⟩
              refine ⟨r, _, NoS, E1, _, FR, rfl, hR4, c1, c2, fun H5 q rows s5 hq res lst => ?_⟩
              have erows := least_none lst
              subst erows
              have hi5 := hi4.stay (F' := F0) (ch_of_same s5) (fun _ _ f => f) (fun f => f) fun f => f
              have hlo5 := s5 _ _ hlo4
              have nq := hi4.ty.notin hq
              obtain ⟨dxt, lf, ll, it⟩ := hi5.insT
              refine ⟨_, rfl, wk, CW, dx, _, _, rfl, hi5.ins, TW.cl, TW.nT, pw_types _ _ _ _ _ _, t, dxt, _, rfl, it, pt_results _ _ _, _, rfl, wk, CW, dx, _, _, rfl, hi5.ins, TW.cl, TW.nF, pw_found _ _ _ _ _ _, _, rfl, ?_⟩
              refine ⟨t, r, lo, q, s4.tm, FT, ts, ls, _, z :: zr, rfl, hlo5, hi5.nf, res, nq, hi5.ty, er, fun H6 F6 D us hT6 mv6 hD hD6 pr6 nD6 => ?_⟩
              obtain ⟨hi6, mvw6⟩ := hi5.types hT6 mv6
              have res6 := res_stay res mv6.ch nq
              cases pr6 with
              | @cons u0 _ ur _ h1 h2 =>
                refine ⟨_, rfl, wk, CW, dx, _, _, rfl, hi6.ins, TW.cl, TW.nK, pw_asked _ _ _ _ _ _, la, rfl, ⟨_, SqL.of hi6.ak⟩, fun D2 hD2 => ?_⟩
                have mvC : Mv F0 H (FWk lo la F6) H6 := (mvB.trans ⟨ch_of_same s5, fun _ f => .inl f⟩).trans mvw6
                have sC : Same H H6 := fun b o e => mvC.ch.keep _ _ e fun f => f
                refine lc_list (K := K) (a := la) (xs := s4.ak.map nv) (fun i H7 => Same H6 H7 ∧ ∃ xs, H7 D2 = some (.lst xs) ∧ xs.length = i) ⟨same_new hD2, [], upd_same, rfl⟩ (fun i H7 _ z => SqL.of (z.1 _ _ hi6.ak)) ?_ ?_
                · rintro i v H7 hv ⟨s7, xs, hx7, hxl⟩
                  rw [List.getElem?_map] at hv
                  cases ea : s4.ak[i]? with
                  | none => rw [ea] at hv; cases hv
                  | some a =>
                    rw [ea] at hv
                    obtain rfl : nv a = v := Option.some.inj hv
                    have ha : a < s4.tm.n := of_decide_eq_true (List.all_eq_true.mp c4 a (List.mem_of_getElem? ea))
                    obtain ⟨ps, hps, hpp⟩ := res6
                    have hpl := hpp.length
                    rw [List.length_replicate] at hpl
                    have hal : a < ps.length := by omega
                    refine ⟨rfl, _, rfl, _, rfl, q, _, _, _, rfl, rfl, SqL.of (s7 _ _ hps), atI_nat (j := a) (by rw [List.getElem?_map, List.getElem?_eq_getElem hal]; rfl), _, hx7, ?_, ?_⟩
                    · rw [hxl]
                      have := (List.getElem?_eq_some_iff.mp ea).1
                      exact small1000 (by omega)
                    · refine ⟨same_upd_at s7 hD2, _, upd_same, ?_⟩
                      rw [List.length_append, hxl]
                      rfl
                · rintro H7 ⟨s7, xs, hx7, _⟩
                  refine ⟨(by show 2 ≤ sizeLine; decide), fun q2 hq2 => ?_⟩
                  have s8 : Same H6 (upd H7 q2 (.tup [.ref D, .ref D2])) := fun b o e => same_new hq2 _ _ (s7 _ _ e)
                  exact fin _ q2 D D2 u0 ur (fun b o e => s8 _ _ (sC _ _ e)) upd_same (s8 _ _ hD6) (h1.stay (F := F0) (ch_of_same s8))
        · rw [if_neg c] at hend4
          exact hend4.elim
end
end Kt


set_option Elab.async false
set_option linter.all false
set_option maxRecDepth 100000
set_option maxHeartbeats 4000000
namespace Kt
open PySem PySem.Spec L2 PyProof.Rows Km Ka
/-- isinstance(e, c), e an error that has fields -/
def rIsD (K : PySem.W.Frag) (D a : Addr) (cls : Value) (dd : Option Addr) : List V → Hp → VK → Prop := fun xs H Q => cls = .ref D ∧ ∃ (d : Addr) (c : V) (cv : Value) (b : Bool) (fs : List (Str × V)), dd = some d ∧ xs = [.ref a, c] ∧ (∀ u, RelV c u → u = cv) ∧ PySem.W.kitOne K (.ref D) cv = some b ∧ H d = some (.xd fs) ∧ Q (.bl b) H
theorem call_isD {X : Cx} {a D : Addr} {oe : Obj} {cls : Value} {dd : Option Addr} {pn : List (Addr × Obj)} (C : ExcC X.K D) (hcl : (PySem.W.clsIn X.K D).isSome = true) (hz : Zc cls dd oe) (hf : ∃ vs, oe.data = .fields vs) : CallR (X.suite a ((a, oe) :: pn)) (.builtin "isinstance") (rIsD X.K D a cls dd) := by
  intro pins s σ H xs us Q I r h
  obtain ⟨ec, d, c, cv, b, fs, ed, rfl, hcv, e, hd, q⟩ := h
  subst ec ed
  cases r with
  | cons rx rr =>
    cases rr with
    | cons rt rr =>
      cases rr
      cases rx
      have ec := hcv _ rt
      subst ec
      obtain ⟨hget, _⟩ := I.pin (a, oe) (List.mem_append.mpr (.inl List.mem_cons_self))
      obtain ⟨vs, hv⟩ := hf
      have hx : ObjOk X.prog X.w H s.heap d (.xd fs) := I.hok d _ hd
      obtain ⟨mA, hns, hr⟩ := hx
      obtain ⟨od, ho, hl⟩ := lookIn_ns hns
      have J : PySem.W.InstAt s.heap a oe D (some od) := ⟨hget, hz.1, by unfold PySem.W.notCls; rw [hv] <;> rfl, by rw [hz.2]; exact ho⟩
      exact PySem.W.kia_one (PySem.W.kitx_exc hcl C.hg C.hk C.hs C.ha C.hn C.ht C.hm) I.kIn J e (fun z => nomatch z) fun tk => ⟨.bl b, H, I.kept (t' := tk) fun _ _ z => z, rfl, q⟩
structure LTxt (K : PySem.W.Frag) (mg : Str → Option Value) (CU CF CM : Addr) : Prop where
  gF : mg "Refused" = some (.ref CF)
  gU : mg "Unbounded" = some (.ref CU)
  gM : mg "Malformed" = some (.ref CM)
  ex : PySem.W.exmOne K (.ref CU) (.ref CF) = some true
  k1 : PySem.W.kitOne K (.ref CU) (.ref CU) = some true
  k2 : PySem.W.kitOne K (.ref CU) (.ref CM) = some false
  isi : mg "isinstance" = none
  xf : XfC K CU
  noN : PySem.W.findIn K (.ref CU) "name" = some none
  ec : ExcC K CU
  cl : (PySem.W.clsIn K CU).isSome = true
section
variable {P : Program} {w : World} {K : PySem.W.Frag} {mg : Str → Option Value} {base : Heap}
abbrev lTold : Stmt := topS 39
theorem scTold : FnScope ["_law_expression", "e"] ["_law_expression"] (defScope lTold) := ⟨rfl, rfl, rfl, by decide +kernel, rfl, by decide +kernel, by decide +kernel⟩
def spTold : Sp := fun vs H Q _ => ∃ (ve : V) (e : EX), vs = [ve] ∧ ExAt H ve e ∧ (match inferM e with
  | .bad => False
  | .big => ∀ H', Same H H' → Q (.str "types") H'
  | .ok z => ∀ H' v, Same H H' → RtAt H' v z → Q v H')
theorem ok_told {k : Nat} {f fI CU CF CM : Addr} {fd fdI : FuncData} (F : Fun K "_law_told" "_law_told" lTold f fd) (TL : LTxt K mg CU CF CM) (GI : Fn P w K mg base (CX P w) k "infer" ["program"] (spInf CU K) fI fdI) : FnOk P w K mg base CX0 (k + 1) f fd ["_law_expression"] spTold := by
  refine F.ok scTold (fun vs H Q E h => ?_) (fun cdv A outer s H vs Q E hr h => ?_)
  · obtain ⟨ve, e, rfl, _⟩ := h
    rfl
  · obtain ⟨ve, e, rfl, he, hend⟩ := h
    refine ⟨_, pss_cons (ps_try_as (i := 1) rfl rfl scTold.nd rfl rfl ⟨rfl, by decide, .inl TL.gF⟩ takes0
      (fun W pn xe tk _ => pss_one (ps_ret (pe_ix (r := rIxL K) ix_list (pe_ix (r := rIxT K) ix_tup (pe_callS GI.ok hr rfl GI.g GI.kp GI.b (fun σ => passAt tk σ) (by exact (pa_cons (pe_tup (pa_cons pe_str (pa_cons (pe_tup pa_nil) (pa_cons (pv 0) pa_nil)))) pa_nil))) pe_int (fun _ _ => rfl)) pe_int (fun _ _ => rfl))))
      (fun a oe cls d pn hz hf => pss_one (ps_if (PW.pt (pw_and (pt_val (pe_callB (r := rIsD K CU a cls d) (call_isD TL.ec TL.cl hz hf) (by rfl) TL.isi (by decide +kernel) (pa_cons (pv 1) (pa_cons (pe_glob (v := V.ref CU) rfl TL.gU rfl) pa_nil))))
          (pw_and1 (pt_not (pt_val (pe_callB (r := rIsD K CU a cls d) (call_isD TL.ec TL.cl hz hf) (by rfl) TL.isi (by decide +kernel) (pa_cons (pv 1) (pa_cons (pe_glob (v := V.ref CM) rfl TL.gM rfl) pa_nil))))))))
        (pss_one (ps_ret (pe_xf TL.xf TL.noN hz hf (pv 1)))) pss_nil)))
      (pss_one (ps_ret pe_str)), ?_⟩
    refine ⟨Nat.zero_le _, fun po hpo => ?_⟩
    refine ⟨_, rfl, (by show 3 ≤ sizeLine; decide), fun pg hpg => ?_⟩
    have npp : po ≠ pg := fun q => by rw [← q, upd_same] at hpg; cases hpg
    have s1 : Same H (upd (upd H po (.tup [])) pg (.tup [.str "program", .ref po, ve])) := fun b o e => same_new hpg _ _ (same_new hpo _ _ e)
    refine ⟨pg, po, ve, e, rfl, upd_same, .inl (by rw [upd_ne npp, upd_same]), he.stay (F := F0) (ch_of_same s1), ?_⟩
    cases hi : inferM e with
    | bad => rw [hi] at hend; exact hend.elim
    | ok z =>
      rw [hi] at hend
      intro H' q a0 a1 u0 ur s2 hq h0 hz
      exact ⟨q, _, 0, _, rfl, rfl, SqT.of hq, rfl, a0, _, 0, _, rfl, rfl, SqL.of h0, atI_nat (j := 0) rfl, hend _ _ (fun b o e => s2 _ _ (s1 _ _ e)) hz⟩
    | big =>
      rw [hi] at hend
      intro H' d c hd
      have s2 : Same H H' := fun b o e => c.keep _ _ (s1 _ _ e) fun f => f
      refine ⟨true, TL.ex, fun _ a ha => ?_, fun q => nomatch q⟩
      refine ⟨_, rfl, rfl, d, .ref CU, .ref CU, true, _, rfl, rfl, fun u r => r, TL.k1, hd, _, rfl, ?_⟩
      refine iteT ?_
      refine ⟨_, rfl, rfl, d, .ref CM, .ref CM, false, _, rfl, rfl, fun u r => r, TL.k2, hd, _, rfl, ?_⟩
      refine iteT ?_
      exact ⟨_, rfl, rfl, rfl, d, _, _, rfl, hd, rfl, hend _ s2⟩
end
end Kt


set_option Elab.async false
set_option linter.all false
set_option maxRecDepth 100000
set_option maxHeartbeats 4000000
namespace Kt
open PySem PySem.Spec L2 PyProof.Rows Km Ka
theorem short_nums : ∀ n : Nat, n < 20 → (Str.ofString (toString (n : Int))).length ≤ 50 := by decide +kernel
section
variable {P : Program} {w : World} {K : PySem.W.Frag} {mg : Str → Option Value} {base : Heap}
abbrev lChain : Stmt := topS 37
abbrev nCh : List Str := ["_law_value", "_law_depth", "_law_last", "_law_body", "_law_k_here", "_law_name", "_law_before"]
theorem scCh : FnScope nCh ["_law_value", "_law_depth", "_law_last"] (defScope lChain) := ⟨rfl, rfl, rfl, by decide +kernel, rfl, by decide +kernel, by decide +kernel⟩
def spCh : Sp := fun vs H Q _ => ∃ (vv vl : V) (n : Nat) (e l : EX), vs = [vv, nv n, vl] ∧ n ≤ 14 ∧ ExAt H vv e ∧ ExAt H vl l ∧ ∀ (H' : Hp) (v : V), Same H H' → ExAt H' v (chainM e n l) → Q v H'
theorem ok_chain {f : Addr} {fd : FuncData} (F : Fun K "_law_chain" "_law_chain" lChain f fd) (mr : mg "range" = none) (ms : mg "str" = none) : FnOk P w K mg base CX0 1 f fd ["_law_value", "_law_depth", "_law_last"] spCh := by
  refine F.ok scCh (fun vs H Q E h => ?_) (fun cdv A outer s H vs Q E hr h => ?_)
  · obtain ⟨vv, vl, n, e, l, rfl, _⟩ := h
    rfl
  · obtain ⟨vv, vl, n, e, l, rfl, hn, he, hl, k⟩ := h
    refine ⟨_, pss_cons (ps_set (i := 3) scCh.nd rfl (Or.inl rfl) (pv 2)) (pss_cons (ps_for PassesOwn.never rfl (pi_range1 rfl mr (pa_cons (pv 1) pa_nil)) (pg_name (i := 4) scCh.nd rfl (Or.inl rfl)) (pss_cons (ps_par (i := 5) (j := 6) rfl scCh.nd rfl rfl (by decide) rfl rfl (pa_cons (pe_op op_add_str pe_str (pe_callTy call_str_int (by rfl) ms (by decide +kernel) (pa_cons (pe_op op_sub (pv 1) (pv 4)) pa_nil))) (pa_cons (pe_op op_add_str pe_str (pe_callTy call_str_int (by rfl) ms (by decide +kernel) (pa_cons (pe_op op_sub (pe_op op_sub (pv 1) (pv 4)) pe_int) pa_nil))) pa_nil)) (by rfl)) (pss_one (ps_set (i := 3) scCh.nd rfl (Or.inl rfl) (pe_tup (pa_cons (pe_str) (pa_cons (pv 5) (pa_cons (pe_tup (pa_cons (pe_str) (pa_cons (pe_tup (pa_cons (pe_str) (pa_cons (pv 6) pa_nil))) (pa_cons (pe_tup (pa_cons (pe_str) (pa_cons (pv 6) pa_nil))) pa_nil)))) (pa_cons (pv 3) pa_nil))))))))) (pss_one (ps_ret (pe_tup (pa_cons (pe_str) (pa_cons (pe_str) (pa_cons (pv 0) (pa_cons (pv 3) pa_nil)))))))), ?_⟩
    refine ⟨_, rfl, ?_⟩
    refine ⟨_, rfl, (n : Int), rfl, by omega, by omega, ?_⟩
    have ent : ((n : Int) - 0).toNat = n := by omega
    refine for_range (lo := 0) (n := n) (fun i σ H1 => ∃ (vb : V) (v4 v5 v6 : Option V), σ = [some vv, some (nv n), some vl, some vb, v4, v5, v6] ∧ Same H H1 ∧ ExAt H1 vb (chainB n l i)) ⟨_, none, none, none, rfl, fun _ _ h => h, hl⟩ ?_ ?_
    · rintro i σ H1 hi ⟨vb, v4, v5, v6, rfl, s1, hb⟩
      have e1 : (n : Int) - (0 + (i : Int)) = ((n - i : Nat) : Int) := by omega
      have e2 : (n : Int) - (0 + (i : Int)) - 1 = ((n - i - 1 : Nat) : Int) := by omega
      have l1 : ("v" : Str).length + (Str.ofString (toString ((n : Int) - (0 + (i : Int))))).length ≤ sizeLine := by
        rw [e1]
        have := short_nums (n - i) (by omega)
        have h1 : ("v" : Str).length = 1 := by decide +kernel
        rw [h1]
        exact Nat.le_of_lt (small1000 (by omega))
      have l2 : ("v" : Str).length + (Str.ofString (toString ((n : Int) - (0 + (i : Int)) - 1))).length ≤ sizeLine := by
        rw [e2]
        have := short_nums (n - i - 1) (by omega)
        have h1 : ("v" : Str).length = 1 := by decide +kernel
        rw [h1]
        exact Nat.le_of_lt (small1000 (by omega))
      have g1 : ((n : Int) - (0 + (i : Int))).natAbs.log2 < 1920 := by
        rw [e1]
        exact Nat.lt_of_le_of_lt (Nat.log2_le_self _) (by omega)
      have g2 : ((n : Int) - (0 + (i : Int)) - 1).natAbs.log2 < 1920 := by
        rw [e2]
        exact Nat.lt_of_le_of_lt (Nat.log2_le_self _) (by omega)
      refine ⟨_, rfl, _, rfl, _, _, rfl, rfl, _, rfl, g1, _, _, rfl, rfl, l1, _, rfl, _, rfl, _, _, rfl, rfl, _, _, rfl, rfl, _, rfl, g2, _, _, rfl, rfl, l2, _, _, rfl, ?_⟩
      have e3 : ((n - i : Nat) : Int) - 1 = ((n - i - 1 : Nat) : Int) := by omega
      rw [e1, e3]
      refine ⟨_, rfl, _, rfl, (by show 2 ≤ sizeLine; decide), fun p1 h1 => ?_⟩
      refine ⟨_, rfl, (by show 2 ≤ sizeLine; decide), fun p2 h2 => ⟨(by show 3 ≤ sizeLine; decide), fun p3 h3 => ?_⟩⟩
      refine ⟨_, rfl, (by show 4 ≤ sizeLine; decide), fun p4 h4 => ?_⟩
      have n12 : p1 ≠ p2 := fun q => by rw [← q, upd_same] at h2; cases h2
      have n13 : p1 ≠ p3 := fun q => by rw [← q, upd_ne n12, upd_same] at h3; cases h3
      have n23 : p2 ≠ p3 := fun q => by rw [← q, upd_same] at h3; cases h3
      have n14 : p1 ≠ p4 := fun q => by rw [← q, upd_ne n13, upd_ne n12, upd_same] at h4; cases h4
      have n24 : p2 ≠ p4 := fun q => by rw [← q, upd_ne n23, upd_same] at h4; cases h4
      have n34 : p3 ≠ p4 := fun q => by rw [← q, upd_same] at h4; cases h4
      refine ⟨_, _, _, _, rfl, fun b o q => same_new h4 _ _ (same_new h3 _ _ (same_new h2 _ _ (same_new h1 _ _ (s1 _ _ q)))), ?_⟩
      have sb : Same H1 (upd (upd (upd (upd H1 p1 (.tup [.str "name", .str (vS (n - i - 1))])) p2 (.tup [.str "name", .str (vS (n - i - 1))])) p3 (.tup [.str "pair", .ref p1, .ref p2])) p4 (.tup [.str "let", .str (vS (n - i)), .ref p3, vb])) := fun b o q => same_new h4 _ _ (same_new h3 _ _ (same_new h2 _ _ (same_new h1 _ _ q)))
      refine ⟨p4, .ref p3, vb, rfl, upd_same, ⟨p3, .ref p1, .ref p2, rfl, ?_, ⟨p1, rfl, ?_⟩, ⟨p2, rfl, ?_⟩⟩, hb.stay (F := F0) (ch_of_same sb)⟩
      · rw [upd_ne n34, upd_same]
      · rw [upd_ne n14, upd_ne n13, upd_ne n12, upd_same]
        rfl
      · rw [upd_ne n24, upd_ne n23, upd_same]
        rfl
    · rintro σ H1 ⟨vb, v4, v5, v6, rfl, s1, hb⟩
      refine ⟨_, rfl, _, rfl, (by show 4 ≤ sizeLine; decide), fun p hp => ?_⟩
      have s2 := same_new (o := .tup [.str "let", .str "v0", vv, vb]) hp
      refine k _ _ (fun b o q => s2 _ _ (s1 _ _ q)) ?_
      have e0 : vS 0 = ("v0" : Str) := by decide +kernel
      show ExAt _ (.ref p) (.lt (vS 0) e (chainB n l n))
      rw [e0]
      exact ⟨p, vv, vb, rfl, upd_same, he.stay (F := F0) (ch_of_same fun b o q => s2 _ _ (s1 _ _ q)), hb.stay (F := F0) (ch_of_same s2)⟩
/-! ### the due type -/
abbrev lDue : Stmt := topS 40
abbrev nDue : List Str := ["_law_known", "_law_depth", "_law_k"]
theorem scDue : FnScope nDue ["_law_known", "_law_depth"] (defScope lDue) := ⟨rfl, rfl, rfl, by decide +kernel, rfl, by decide +kernel, by decide +kernel⟩
def spDue : Sp := fun vs H Q _ => ∃ (vv : V) (n : Nat) (z : RT), vs = [vv, nv n] ∧ n ≤ 14 ∧ RtAt H vv z ∧ ∀ (H' : Hp) (v : V), Same H H' → RtAt H' v (dueM z n) → Q v H'
theorem dueM_snoc : ∀ (n : Nat) (z : RT), dueM z (n + 1) = .pair (dueM z n) (dueM z n)
  | 0, z => rfl
  | n + 1, z => by
    show dueM (.pair z z) (n + 1) = _
    rw [dueM_snoc n (.pair z z)]
    rfl
theorem ok_due {f : Addr} {fd : FuncData} (F : Fun K "_law_due" "_law_due" lDue f fd) (mr : mg "range" = none) : FnOk P w K mg base CX0 1 f fd ["_law_known", "_law_depth"] spDue := by
  refine F.ok scDue (fun vs H Q E h => ?_) (fun cdv A outer s H vs Q E hr h => ?_)
  · obtain ⟨vv, n, z, rfl, _⟩ := h
    rfl
  · obtain ⟨vv, n, z, rfl, hn, hz, k⟩ := h
    refine ⟨_, pss_cons (ps_for PassesOwn.never rfl (pi_range1 rfl mr (pa_cons (pv 1) pa_nil)) (pg_name (i := 2) scDue.nd rfl (Or.inl rfl)) (pss_one (ps_set (i := 0) scDue.nd rfl (Or.inl rfl) (pe_tup (pa_cons (pe_str) (pa_cons (pv 0) (pa_cons (pv 0) pa_nil))))))) (pss_one (ps_ret (pv 0))), ?_⟩
    refine ⟨_, rfl, (n : Int), rfl, by omega, by omega, ?_⟩
    refine for_range (lo := 0) (n := n) (fun i σ H1 => ∃ (vb : V) (v2 : Option V), σ = [some vb, some (nv n), v2] ∧ Same H H1 ∧ RtAt H1 vb (dueM z i)) ⟨_, none, rfl, fun _ _ h => h, hz⟩ ?_ ?_
    · rintro i σ H1 hi ⟨vb, v2, rfl, s1, hb⟩
      refine ⟨_, rfl, _, rfl, (by show 3 ≤ sizeLine; decide), fun p hp => ?_⟩
      have s2 := same_new (o := .tup [.str "pair", vb, vb]) hp
      refine ⟨_, _, rfl, fun b o q => s2 _ _ (s1 _ _ q), ?_⟩
      rw [dueM_snoc]
      exact ⟨p, vb, vb, rfl, upd_same, hb.stay (F := F0) (ch_of_same s2), hb.stay (F := F0) (ch_of_same s2)⟩
    · rintro σ H1 ⟨vb, v2, rfl, s1, hb⟩
      exact ⟨_, rfl, k _ _ s1 hb⟩
/-! ### the size -/
abbrev lSize : Stmt := topS 38
theorem scSize : FnScope ["_law_known"] ["_law_known"] (defScope lSize) := ⟨rfl, rfl, rfl, by decide +kernel, rfl, by decide +kernel, by decide +kernel⟩
def hgt : RT → Nat
  | .leaf _ => 0
  | .pair a _ => hgt a + 1
  | .fn a _ b => hgt a + hgt b + 1
def wfR : RT → Prop
  | .leaf k => k ≠ .pair ∧ k ≠ .fn
  | .pair a b => wfR a ∧ wfR b
  | .fn a _ b => wfR a ∧ wfR b
def spSize (m : Nat) : Sp := fun vs H Q _ => ∃ (vv : V) (z : RT), vs = [vv] ∧ hgt z < m ∧ sizeM z ≤ 1000 ∧ wfR z ∧ RtAt H vv z ∧ Q (nv (sizeM z)) H
theorem ok_size {f : Addr} {fd : FuncData} (F : Fun K "_law_size" "_law_size" lSize f fd) (gS : mg "_law_size" = some (.ref f)) (kS : PySem.W.keepIn K (.ref f) = true) (bS : Binds K fd ["_law_known"] []) : ∀ m, FnOk P w K mg base CX0 (m + 1) f fd ["_law_known"] (spSize m)
  | 0 => by
    refine F.ok (k := 0) scSize (fun vs H Q E h => ?_) (fun cdv A outer s H vs Q E hr h => ?_)
    · obtain ⟨vv, z, rfl, _⟩ := h
      rfl
    · obtain ⟨vv, z, rfl, h, _⟩ := h
      exact absurd h (Nat.not_lt_zero _)
  | m + 1 => by
    have GS := ok_size F gS kS bS m
    refine F.ok (k := m + 1) scSize (fun vs H Q E h => ?_) (fun cdv A outer s H vs Q E hr h => ?_)
    · obtain ⟨vv, z, rfl, _⟩ := h
      rfl
    · obtain ⟨vv, z, rfl, hm, hz, hwf, hv, k⟩ := h
      refine ⟨_, pss_cons (ps_if (pt_cmpR op_eq (pe_ix ix_tup (pv 0) pe_int (fun _ _ => rfl)) pe_str (nomark _)) (pss_one (ps_ret (pe_op op_add pe_int (pe_op op_mul pe_int (pe_call GS (hr.mono (by omega)) (by rfl) gS kS bS .nil pass0 (pa_cons (pe_ix ix_tup (pv 0) pe_int (fun _ _ => rfl)) pa_nil)))))) pss_nil) (pss_cons (ps_if (pt_cmpR op_eq (pe_ix ix_tup (pv 0) pe_int (fun _ _ => rfl)) pe_str (nomark _)) (pss_one (ps_ret (pe_op op_add (pe_op op_add pe_int (pe_call GS (hr.mono (by omega)) (by rfl) gS kS bS .nil pass0 (pa_cons (pe_ix ix_tup (pv 0) pe_int (fun _ _ => rfl)) pa_nil))) (pe_call GS (hr.mono (by omega)) (by rfl) gS kS bS .nil pass0 (pa_cons (pe_ix ix_tup (pv 0) pe_int (fun _ _ => rfl)) pa_nil))))) pss_nil) (pss_one (ps_ret pe_int))), ?_⟩
      cases z with
      | leaf kd =>
        obtain ⟨p, rfl, hp⟩ := hv
        refine ⟨_, rfl, p, _, 0, _, rfl, rfl, SqT.of hp, rfl, rfl, _, rfl, ite2 (fun h => ?_) (fun _ => ?_)⟩
        · exact absurd (kd_inj (a := some kd) (b := some .pair) (of_decide_eq_true h)) fun q => hwf.1 (Option.some.inj q)
        · refine ⟨_, rfl, p, _, 0, _, rfl, rfl, SqT.of hp, rfl, rfl, _, rfl, ite2 (fun h => ?_) (fun _ => ?_)⟩
          · exact absurd (kd_inj (a := some kd) (b := some .fn) (of_decide_eq_true h)) fun q => hwf.2 (Option.some.inj q)
          · exact k
      | pair a b =>
        obtain ⟨p, va, vb, rfl, hp, hva, hvb⟩ := hv
        have hm' : hgt a + 1 < m + 1 := hm
        have hz' : 1 + 2 * sizeM a ≤ 1000 := hz
        refine ⟨_, rfl, p, _, 0, _, rfl, rfl, SqT.of hp, rfl, rfl, _, rfl, ite2 (fun _ => ?_) (fun h => absurd (decide_eq_true rfl) h)⟩
        refine ⟨_, rfl, p, _, 1, _, rfl, rfl, SqT.of hp, rfl, ?_⟩
        refine ⟨va, a, rfl, by omega, by omega, hwf.1, hva, _, _, rfl, rfl, .inl ⟨by decide, by decide⟩, _, _, rfl, rfl, ?_⟩
        have e : (1 : Int) + 2 * (sizeM a : Int) = ((1 + 2 * sizeM a : Nat) : Int) := by omega
        show Q (.int ((1 : Int) + 2 * (sizeM a : Int))) H
        rw [e]
        exact k
      | fn a r b =>
        obtain ⟨p, va, q, vb, rfl, hp, hq, hva, hvb⟩ := hv
        have hm' : hgt a + hgt b + 1 < m + 1 := hm
        have hz' : 1 + sizeM a + sizeM b ≤ 1000 := hz
        refine ⟨_, rfl, p, _, 0, _, rfl, rfl, SqT.of hp, rfl, rfl, _, rfl, ite2 (fun h => ?_) (fun _ => ?_)⟩
        · exact absurd (kd_inj (a := some .fn) (b := some .pair) (of_decide_eq_true h)) fun q => by cases q
        refine ⟨_, rfl, p, _, 0, _, rfl, rfl, SqT.of hp, rfl, rfl, _, rfl, ite2 (fun _ => ?_) (fun h => absurd (decide_eq_true rfl) h)⟩
        refine ⟨_, rfl, p, _, 1, _, rfl, rfl, SqT.of hp, rfl, ?_⟩
        refine ⟨va, a, rfl, by omega, by omega, hwf.1, hva, _, _, rfl, rfl, ?_⟩
        refine ⟨_, rfl, p, _, 3, _, rfl, rfl, SqT.of hp, rfl, ?_⟩
        refine ⟨vb, b, rfl, by omega, by omega, hwf.2, hvb, _, _, rfl, rfl, ?_⟩
        have e : (1 : Int) + (sizeM a : Int) + (sizeM b : Int) = ((1 + sizeM a + sizeM b : Nat) : Int) := by omega
        show Q (.int ((1 : Int) + (sizeM a : Int) + (sizeM b : Int))) H
        rw [e]
        exact k
end
end Kt


set_option Elab.async false
set_option linter.all false
set_option maxRecDepth 100000
set_option maxHeartbeats 4000000
namespace Kt
open PySem PySem.Spec L2 PyProof.Rows Km Ka
def rtData : RT → PyData
  | .leaf k => .tuple [.str k.str]
  | .pair a b => .tuple [.str "pair", rtData a, rtData b]
  | .fn a r b => .tuple [.str "fun", rtData a, .tuple (r.map PyData.str), rtData b]
theorem rtEq_eq : ∀ {a b : RT}, rtEq a b = true → a = b
  | .leaf a, .leaf b, h => by rw [of_decide_eq_true h]
  | .pair a b, .pair c d, h => by
    obtain ⟨h1, h2⟩ := Bool.and_eq_true_iff.mp h
    rw [rtEq_eq h1, rtEq_eq h2]
  | .fn a r b, .fn c r' d, h => by
    obtain ⟨h1, h2⟩ := Bool.and_eq_true_iff.mp h
    obtain ⟨h3, h4⟩ := Bool.and_eq_true_iff.mp h1
    rw [rtEq_eq h3, of_decide_eq_true h4, rtEq_eq h2]
  | .leaf _, .pair _ _, h => by cases h
  | .leaf _, .fn _ _ _, h => by cases h
  | .pair _ _, .leaf _, h => by cases h
  | .pair _ _, .fn _ _ _, h => by cases h
  | .fn _ _ _, .leaf _, h => by cases h
  | .fn _ _ _, .pair _ _, h => by cases h
theorem dp_strs {K : PySem.W.Frag} {H : Hp} : ∀ r : List Str, DpAll K H (r.map V.str) (r.map PyData.str)
  | [] => .nil
  | x :: r => .cons (.str x) (dp_strs r)
theorem rt_dp {K : PySem.W.Frag} {H : Hp} : ∀ {v : V} {z : RT}, RtAt H v z → Dp K H v (rtData z)
  | _, .leaf k, ⟨p, e, h⟩ => by
    rw [e]
    exact .tup (SqT.of h) (.cons (.str _) .nil)
  | _, .pair a b, ⟨p, va, vb, e, h, ha, hb⟩ => by
    rw [e]
    exact .tup (SqT.of h) (.cons (.str _) (.cons (rt_dp ha) (.cons (rt_dp hb) .nil)))
  | _, .fn a r b, ⟨p, va, q, vb, e, h, hq, ha, hb⟩ => by
    rw [e]
    exact .tup (SqT.of h) (.cons (.str _) (.cons (rt_dp ha) (.cons (.tup (SqT.of hq) (dp_strs r)) (.cons (rt_dp hb) .nil))))
theorem eqv_self {d : PyData} (h : SeqAt.shaped d = true) : PyData.eqv d d = true := SeqAt.eqv_refl d (SeqAt.canLay_of_shaped h)
structure Kn (K : PySem.W.Frag) (mg : Str → Option Value) where
  dummy : Unit
/-- what the law's def calls -/
structure LA (P : Program) (w : World) (K : PySem.W.Frag) (mg : Str → Option Value) (base : Heap) (k : Nat) (fA fT fC fS fD fU : Addr) (dA dT dC dS dD dU : FuncData) : Prop where
  JA : FnOk P w K mg base CX0 1 fA dA ["_law_script"] (spState K)
  uA : mg "_law_state" = some (.ref fA)
  kA : PySem.W.keepIn K (.ref fA) = true
  bA : Binds K dA ["_law_script"] []
  JT : FnOk P w K mg base CX0 1 fT dT ["_law_state_here", "_law_most"] spTake
  uT : mg "_law_take" = some (.ref fT)
  kT : PySem.W.keepIn K (.ref fT) = true
  bT : Binds K dT ["_law_state_here", "_law_most"] []
  JC : FnOk P w K mg base CX0 1 fC dC ["_law_value", "_law_depth", "_law_last"] spCh
  uC : mg "_law_chain" = some (.ref fC)
  kC : PySem.W.keepIn K (.ref fC) = true
  bC : Binds K dC ["_law_value", "_law_depth", "_law_last"] []
  JS : FnOk P w K mg base CX0 5 fS dS ["_law_known"] (spSize 4)
  uS : mg "_law_size" = some (.ref fS)
  kS : PySem.W.keepIn K (.ref fS) = true
  bS : Binds K dS ["_law_known"] []
  JD : FnOk P w K mg base CX0 k fD dD ["_law_expression"] spTold
  uD : mg "_law_told" = some (.ref fD)
  kD : PySem.W.keepIn K (.ref fD) = true
  bD : Binds K dD ["_law_expression"] []
  JU : FnOk P w K mg base CX0 1 fU dU ["_law_known", "_law_depth"] spDue
  uU : mg "_law_due" = some (.ref fU)
  kU : PySem.W.keepIn K (.ref fU) = true
  bU : Binds K dU ["_law_known", "_law_depth"] []
  mr : mg "range" = none
  ms : mg "str" = none
  ms0 : ∃ tk, mg "MOST_SIZE" = some (.int 1000 tk)
section
variable {P : Program} {w : World} {K : PySem.W.Frag} {mg : Str → Option Value} {base : Heap}
def spLaw (K : PySem.W.Frag) : Sp := fun vs H Q _ => ∃ (a : Addr) (ns : List Int), vs = [.ref a] ∧ SqL K H a (ns.map V.int) ∧ ns.length ≤ 63 ∧ ∀ H', Q (.bl true) H'
abbrev sLaw : Stmt := topS 41
abbrev nLaw : List Str := ["_law_script", "_law_state_here", "_law_depth", "_law_kind", "_law_value", "_law_known", "_law_size_here", "_law_k", "_law_told_here", "_law_grown", "_law_inner", "_law_called"]
theorem scLaw : FnScope nLaw ["_law_script"] (defScope sLaw) := ⟨rfl, rfl, rfl, by decide +kernel, rfl, by decide +kernel, by decide +kernel⟩
theorem ok_law {k : Nat} {f fA fT fC fS fD fU : Addr} {fd dA dT dC dS dD dU : FuncData} (F : Fun K "law" "law" sLaw f fd) (A : LA P w K mg base k fA fT fC fS fD fU dA dT dC dS dD dU) (hk : 5 ≤ k)
    (a1 : ∀ d kd, d < 14 → kd < 3 → ok1 (d + 1) kd = true) (a2 : ∀ d kd i, d < 14 → kd < 3 → i < 4 → ok2 (d + 1) kd (i + 1) = true) (a3 : ∀ d kd, d < 14 → kd < 3 → grow (sizeM (knownM kd)) (d + 1) ≤ 1000 → SeqAt.shaped (rtData (dueM (knownM kd) (d + 1))) = true) : FnOk P w K mg base CX0 (k + 1) f fd ["_law_script"] (spLaw K) := by
  have JA := A.JA
  have JT := A.JT
  have JC := A.JC
  have JS := A.JS
  have JD := A.JD
  have JU := A.JU
  obtain ⟨tk, hms1⟩ := A.ms0
  refine F.ok scLaw (fun vs H Q E h => ?_) (fun cdv A' outer s H vs Q E hr h => ?_)
  · obtain ⟨a, ns, rfl, _⟩ := h
    rfl
  · obtain ⟨a, ns, rfl, hS, hlen, kq⟩ := h
    refine ⟨_, pss_cons (ps_set (i := 1) scLaw.nd rfl (Or.inl rfl) (pe_call JA (hr.mono (by omega)) (by rfl) A.uA A.kA A.bA .nil pass0 (pa_cons (pv 0) pa_nil))) (pss_cons (ps_set (i := 2) scLaw.nd rfl (Or.inl rfl) (pe_op op_add pe_int (pe_call JT (hr.mono (by omega)) (by rfl) A.uT A.kT A.bT .nil pass0 (pa_cons (pv 1) (pa_cons pe_int pa_nil))))) (pss_cons (ps_set (i := 3) scLaw.nd rfl (Or.inl rfl) (pe_call JT (hr.mono (by omega)) (by rfl) A.uT A.kT A.bT .nil pass0 (pa_cons (pv 1) (pa_cons pe_int pa_nil)))) (pss_cons (ps_set (i := 4) scLaw.nd rfl (Or.inl rfl) (pe_ix ix_list (pe_lst (pa_cons (pe_tup (pa_cons (pe_str) (pa_cons (pe_int) pa_nil))) (pa_cons (pe_tup (pa_cons (pe_str) (pa_cons (pe_str) (pa_cons (pe_tup (pa_cons (pe_str) (pa_cons (pe_tup (pa_cons (pe_str) (pa_cons (pe_str) pa_nil))) pa_nil))) pa_nil)))) (pa_cons (pe_tup (pa_cons (pe_str) (pa_cons (pe_tup (pa_cons (pe_str) (pa_cons (pe_int) pa_nil))) (pa_cons (pe_tup (pa_cons (pe_str) (pa_cons (pe_int) pa_nil))) pa_nil)))) pa_nil)))) (pv 3) (fun _ _ => rfl))) (pss_cons (ps_set (i := 5) scLaw.nd rfl (Or.inl rfl) (pe_ix ix_list (pe_lst (pa_cons (pe_tup (pa_cons (pe_str) pa_nil)) (pa_cons (pe_tup (pa_cons (pe_str) (pa_cons (pe_tup (pa_cons (pe_str) pa_nil)) (pa_cons (pe_tup pa_nil) (pa_cons (pe_tup (pa_cons (pe_str) pa_nil)) pa_nil))))) (pa_cons (pe_tup (pa_cons (pe_str) (pa_cons (pe_tup (pa_cons (pe_str) pa_nil)) (pa_cons (pe_tup (pa_cons (pe_str) pa_nil)) pa_nil)))) pa_nil)))) (pv 3) (fun _ _ => rfl))) (pss_cons (ps_set (i := 6) scLaw.nd rfl (Or.inl rfl) (pe_call JS (hr.mono (by omega)) (by rfl) A.uS A.kS A.bS .nil pass0 (pa_cons (pv 5) pa_nil))) (pss_cons (ps_for PassesOwn.never rfl (pi_range1 rfl A.mr (pa_cons (pv 2) pa_nil)) (pg_name (i := 7) scLaw.nd rfl (Or.inl rfl)) (pss_one (ps_set (i := 6) scLaw.nd rfl (Or.inl rfl) (pe_op op_add (pe_op op_mul pe_int (pv 6)) pe_int)))) (C8.pss_cut (ps_set (i := 8) scLaw.nd rfl (Or.inl rfl) (pe_call JD (hr.mono (by omega)) (by rfl) A.uD A.kD A.bD .nil pass0 (pa_cons (pe_call JC (hr.mono (by omega)) (by rfl) A.uC A.kC A.bC .nil pass0 (pa_cons (pv 4) (pa_cons (pv 2) (pa_cons (pe_tup (pa_cons (pe_str) (pa_cons (pe_op op_add_str pe_str (pe_callTy call_str_int (by rfl) A.ms (by decide +kernel) (pa_cons (pv 2) pa_nil))) pa_nil))) pa_nil)))) pa_nil))) (pss_cons (ps_if (pt_cmpR op_ne (pe_glob (v := V.int 1000) rfl hms1 ⟨_, rfl⟩) pe_int (nomark _)) pss_never pss_nil) (C8.pss_cut (ps_if (pt_cmpR op_gt (pv 6) pe_int (nomark _)) (pss_one (ps_if (pt_cmpR op_ne (pv 8) pe_str (nomark _)) pss_never pss_nil)) (pss_one (ps_if (pt_cmpR (op_neD hr.units) (pv 8) (pe_call JU (hr.mono (by omega)) (by rfl) A.uU A.kU A.bU .nil pass0 (pa_cons (pv 5) (pa_cons (pv 2) pa_nil))) (nomark _)) pss_never pss_nil))) (pss_cons (ps_set (i := 9) scLaw.nd rfl (Or.inl rfl) (pe_call JC (hr.mono (by omega)) (by rfl) A.uC A.kC A.bC .nil pass0 (pa_cons (pe_tup (pa_cons (pe_str) (pa_cons (pe_str) pa_nil))) (pa_cons (pv 2) (pa_cons (pe_tup (pa_cons (pe_str) (pa_cons (pe_tup (pa_cons (pe_str) (pa_cons (pe_op op_add_str pe_str (pe_callTy call_str_int (by rfl) A.ms (by decide +kernel) (pa_cons (pv 2) pa_nil))) pa_nil))) pa_nil))) pa_nil))))) (pss_cons (ps_set (i := 10) scLaw.nd rfl (Or.inl rfl) (pe_call JC (hr.mono (by omega)) (by rfl) A.uC A.kC A.bC .nil pass0 (pa_cons (pv 4) (pa_cons (pe_op op_add pe_int (pe_call JT (hr.mono (by omega)) (by rfl) A.uT A.kT A.bT .nil pass0 (pa_cons (pv 1) (pa_cons pe_int pa_nil)))) (pa_cons (pe_tup (pa_cons (pe_str) (pa_cons (pe_str) pa_nil))) pa_nil))))) (pss_cons (ps_set (i := 11) scLaw.nd rfl (Or.inl rfl) (pe_tup (pa_cons (pe_str) (pa_cons (pe_tup (pa_cons (pe_str) (pa_cons (pe_str) (pa_cons (pe_tup (pa_cons (pe_str) (pa_cons (pe_str) (pa_cons (pv 9) (pa_cons (pe_tup (pa_cons (pe_str) (pa_cons (pe_int) pa_nil))) pa_nil))))) pa_nil)))) (pa_cons (pv 10) pa_nil))))) (pss_cons (ps_set (i := 6) scLaw.nd rfl (Or.inl rfl) (pe_op op_add (pe_op op_mul pe_int (pe_call JS (hr.mono (by omega)) (by rfl) A.uS A.kS A.bS .nil pass0 (pa_cons (pv 5) pa_nil))) pe_int)) (pss_cons (ps_for PassesOwn.never rfl (pi_range1 rfl A.mr (pa_cons (pv 2) pa_nil)) (pg_name (i := 7) scLaw.nd rfl (Or.inl rfl)) (pss_one (ps_set (i := 6) scLaw.nd rfl (Or.inl rfl) (pe_op op_add (pe_op op_mul pe_int (pv 6)) pe_int)))) (pss_cons (ps_if (pt_cmpR op_gt (pv 6) pe_int (nomark _)) (pss_one (ps_ret (pe_cmpR op_eq (pe_call JD (hr.mono (by omega)) (by rfl) A.uD A.kD A.bD .nil pass0 (pa_cons (pv 11) pa_nil)) pe_str (nomark _)))) pss_nil) (pss_one (ps_ret (pe_cmpR (op_eqD hr.units) (pe_call JD (hr.mono (by omega)) (by rfl) A.uD A.kD A.bD .nil pass0 (pa_cons (pv 11) pa_nil)) (pe_tup (pa_cons (pe_str) pa_nil)) (nomark _))))))))))))))))))), ?_⟩
    have goSame : ∀ {Hx Hy Hz : Hp}, Same Hx Hy → Same Hy Hz → Same Hx Hz := fun a b x o e => b _ _ (a _ _ e)
    refine ⟨_, rfl, a, ns, rfl, hS, hlen, fun H1 s c st1 s1 hs0 hc0 => ?_⟩
    refine ⟨_, rfl, s, c, 14, rfl, by decide, by decide, st1, fun H2 z st2 c2 z0 z1 => ⟨_, _, rfl, rfl, ?_⟩⟩
    obtain ⟨d, ed⟩ : ∃ d : Nat, 1 + z = ((d + 1 : Nat) : Int) := ⟨z.toNat, by omega⟩
    have hd14 : d < 14 := by omega
    show gName 2 (.int (1 + z)) _ _ _
    rw [ed]
    refine ⟨_, rfl, s, c, 3, rfl, by decide, by decide, st2, fun H3 y st3 c3 y0 y1 => ?_⟩
    obtain ⟨kd, ek⟩ : ∃ kd : Nat, y = (kd : Int) := ⟨y.toNat, by omega⟩
    subst ek
    have hk3 : kd < 3 := by omega
    -- the value
    refine ⟨(by show 2 ≤ sizeLine; decide), fun p1 h1 => ?_⟩
    have t1 := same_new (o := .tup [.str "num", .int 1]) h1
    have q1 : (upd H3 p1 (.tup [.str "num", .int 1])) p1 = _ := upd_same
    generalize upd H3 p1 (.tup [.str "num", .int 1]) = G1 at t1 q1
    refine ⟨(by show 2 ≤ sizeLine; decide), fun p2 h2 => ?_⟩
    have t2 := same_new (o := .tup [.str "name", .str "x"]) h2
    have q2 : (upd G1 p2 (.tup [.str "name", .str "x"])) p2 = _ := upd_same
    generalize upd G1 p2 (.tup [.str "name", .str "x"]) = G2 at t2 q2
    refine ⟨(by show 2 ≤ sizeLine; decide), fun p3 h3 => ?_⟩
    have t3 := same_new (o := .tup [.str "not", .ref p2]) h3
    have q3 : (upd G2 p3 (.tup [.str "not", .ref p2])) p3 = _ := upd_same
    generalize upd G2 p3 (.tup [.str "not", .ref p2]) = G3 at t3 q3
    refine ⟨(by show 3 ≤ sizeLine; decide), fun p4 h4 => ?_⟩
    have t4 := same_new (o := .tup [.str "fun", .str "x", .ref p3]) h4
    have q4 : (upd G3 p4 (.tup [.str "fun", .str "x", .ref p3])) p4 = _ := upd_same
    generalize upd G3 p4 (.tup [.str "fun", .str "x", .ref p3]) = G4 at t4 q4
    refine ⟨(by show 2 ≤ sizeLine; decide), fun p5 h5 => ?_⟩
    have t5 := same_new (o := .tup [.str "num", .int 1]) h5
    have q5 : (upd G4 p5 (.tup [.str "num", .int 1])) p5 = _ := upd_same
    generalize upd G4 p5 (.tup [.str "num", .int 1]) = G5 at t5 q5
    refine ⟨(by show 2 ≤ sizeLine; decide), fun p6 h6 => ?_⟩
    have t6 := same_new (o := .tup [.str "num", .int 2]) h6
    have q6 : (upd G5 p6 (.tup [.str "num", .int 2])) p6 = _ := upd_same
    generalize upd G5 p6 (.tup [.str "num", .int 2]) = G6 at t6 q6
    refine ⟨(by show 3 ≤ sizeLine; decide), fun p7 h7 => ?_⟩
    have t7 := same_new (o := .tup [.str "pair", .ref p5, .ref p6]) h7
    have q7 : (upd G6 p7 (.tup [.str "pair", .ref p5, .ref p6])) p7 = _ := upd_same
    generalize upd G6 p7 (.tup [.str "pair", .ref p5, .ref p6]) = G7 at t7 q7
    refine ⟨(by show 3 ≤ sizeLine; decide), fun L hL => ?_⟩
    have t8 := same_new (o := .lst [.ref p1, .ref p4, .ref p7]) hL
    have q8 : (upd G7 L (.lst [.ref p1, .ref p4, .ref p7])) L = _ := upd_same
    generalize upd G7 L (.lst [.ref p1, .ref p4, .ref p7]) = G8 at t8 q8
    have u7 := t8
    have u6 := goSame t7 u7
    have u5 := goSame t6 u6
    have u4 := goSame t5 u5
    have u3 := goSame t4 u4
    have u2 := goSame t3 u3
    have u1 := goSame t2 u2
    have u0 := goSame t1 u1
    obtain ⟨vv, hvv, xv⟩ : ∃ vv, [V.ref p1, V.ref p4, V.ref p7][kd]? = some vv ∧ ExAt G8 vv (valM kd) := by
      rcases kd with _ | _ | _ | kd
      · exact ⟨_, rfl, p1, rfl, u1 _ _ q1⟩
      · exact ⟨_, rfl, p4, .ref p3, rfl, u4 _ _ q4, p3, .ref p2, rfl, u3 _ _ q3, p2, rfl, u2 _ _ q2⟩
      · exact ⟨_, rfl, p7, .ref p5, .ref p6, rfl, u7 _ _ q7, ⟨p5, rfl, u5 _ _ q5⟩, ⟨p6, rfl, u6 _ _ q6⟩⟩
      · omega
    refine ⟨_, rfl, L, _, _, vv, rfl, rfl, SqL.of q8, atI_nat hvv, ?_⟩
    clear q1 q2 q3 q4 q5 q6 q7 q8 hvv u1 u2 u3 u4 u5 u6 u7 t1 t2 t3 t4 t5 t6 t7 t8
    have stA := st3.stay (F := F0) (ch_of_same u0) (fun f => f) fun f => f
    clear u0 h1 h2 h3 h4 h5 h6 h7 hL
    -- the known type
    refine ⟨(by show 1 ≤ sizeLine; decide), fun p1 h1 => ?_⟩
    have t1 := same_new (o := .tup [.str "int"]) h1
    have q1 : (upd G8 p1 (.tup [.str "int"])) p1 = _ := upd_same
    generalize upd G8 p1 (.tup [.str "int"]) = G1 at t1 q1
    refine ⟨(by show 1 ≤ sizeLine; decide), fun p2 h2 => ?_⟩
    have t2 := same_new (o := .tup [.str "bool"]) h2
    have q2 : (upd G1 p2 (.tup [.str "bool"])) p2 = _ := upd_same
    generalize upd G1 p2 (.tup [.str "bool"]) = G2 at t2 q2
    refine ⟨Nat.zero_le _, fun p3 h3 => ?_⟩
    have t3 := same_new (o := .tup []) h3
    have q3 : (upd G2 p3 (.tup [])) p3 = _ := upd_same
    generalize upd G2 p3 (.tup []) = G3 at t3 q3
    refine ⟨(by show 1 ≤ sizeLine; decide), fun p4 h4 => ?_⟩
    have t4 := same_new (o := .tup [.str "bool"]) h4
    have q4 : (upd G3 p4 (.tup [.str "bool"])) p4 = _ := upd_same
    generalize upd G3 p4 (.tup [.str "bool"]) = G4 at t4 q4
    refine ⟨(by show 4 ≤ sizeLine; decide), fun p5 h5 => ?_⟩
    have t5 := same_new (o := .tup [.str "fun", .ref p2, .ref p3, .ref p4]) h5
    have q5 : (upd G4 p5 (.tup [.str "fun", .ref p2, .ref p3, .ref p4])) p5 = _ := upd_same
    generalize upd G4 p5 (.tup [.str "fun", .ref p2, .ref p3, .ref p4]) = G5 at t5 q5
    refine ⟨(by show 1 ≤ sizeLine; decide), fun p6 h6 => ?_⟩
    have t6 := same_new (o := .tup [.str "int"]) h6
    have q6 : (upd G5 p6 (.tup [.str "int"])) p6 = _ := upd_same
    generalize upd G5 p6 (.tup [.str "int"]) = G6 at t6 q6
    refine ⟨(by show 1 ≤ sizeLine; decide), fun p7 h7 => ?_⟩
    have t7 := same_new (o := .tup [.str "int"]) h7
    have q7 : (upd G6 p7 (.tup [.str "int"])) p7 = _ := upd_same
    generalize upd G6 p7 (.tup [.str "int"]) = G7 at t7 q7
    refine ⟨(by show 3 ≤ sizeLine; decide), fun p8 h8 => ?_⟩
    have t8 := same_new (o := .tup [.str "pair", .ref p6, .ref p7]) h8
    have q8 : (upd G7 p8 (.tup [.str "pair", .ref p6, .ref p7])) p8 = _ := upd_same
    generalize upd G7 p8 (.tup [.str "pair", .ref p6, .ref p7]) = G9 at t8 q8
    refine ⟨(by show 3 ≤ sizeLine; decide), fun L2 hL => ?_⟩
    have t9 := same_new (o := .lst [.ref p1, .ref p5, .ref p8]) hL
    have q9 : (upd G9 L2 (.lst [.ref p1, .ref p5, .ref p8])) L2 = _ := upd_same
    generalize upd G9 L2 (.lst [.ref p1, .ref p5, .ref p8]) = GA at t9 q9
    have u8 := t9
    have u7 := goSame t8 u8
    have u6 := goSame t7 u7
    have u5 := goSame t6 u6
    have u4 := goSame t5 u5
    have u3 := goSame t4 u4
    have u2 := goSame t3 u3
    have u1 := goSame t2 u2
    have u0 := goSame t1 u1
    obtain ⟨vk, hvk, xk⟩ : ∃ vk, [V.ref p1, V.ref p5, V.ref p8][kd]? = some vk ∧ RtAt GA vk (knownM kd) := by
      rcases kd with _ | _ | _ | kd
      · exact ⟨_, rfl, p1, rfl, u1 _ _ q1⟩
      · exact ⟨_, rfl, p5, .ref p2, p3, .ref p4, rfl, u5 _ _ q5, u3 _ _ q3, ⟨p2, rfl, u2 _ _ q2⟩, ⟨p4, rfl, u4 _ _ q4⟩⟩
      · exact ⟨_, rfl, p8, .ref p6, .ref p7, rfl, u8 _ _ q8, ⟨p6, rfl, u6 _ _ q6⟩, ⟨p7, rfl, u7 _ _ q7⟩⟩
      · omega
    refine ⟨_, rfl, L2, _, _, vk, rfl, rfl, SqL.of q9, atI_nat hvk, ?_⟩
    clear q1 q2 q3 q4 q5 q6 q7 q8 q9 hvk u1 u2 u3 u4 u5 u6 u7 u8 t1 t2 t3 t4 t5 t6 t7 t8 t9
    have stB := stA.stay (F := F0) (ch_of_same u0) (fun f => f) fun f => f
    have xv2 := xv.stay (F := F0) (ch_of_same u0)
    clear u0 h1 h2 h3 h4 h5 h6 h7 h8 hL
    have kn : hgt (knownM kd) < 4 ∧ sizeM (knownM kd) ≤ 1000 ∧ wfR (knownM kd) := by
      rcases kd with _ | _ | _ | kd
      · exact ⟨by decide, by decide, by decide, by decide⟩
      · exact ⟨by decide, by decide, ⟨by decide, by decide⟩, by decide, by decide⟩
      · exact ⟨by decide, by decide, ⟨by decide, by decide⟩, by decide, by decide⟩
      · omega
    refine ⟨_, rfl, vk, knownM kd, rfl, kn.1, kn.2.1, kn.2.2, xk, ?_⟩
    -- the loop
    have gsn : ∀ (z n : Nat), grow z (n + 1) = 2 * grow z n + 1 := by
      intro z n
      induction n generalizing z with
      | zero => rfl
      | succ n ih =>
        show grow (2 * z + 1) (n + 1) = _
        rw [ih (2 * z + 1)]
        rfl
    refine ⟨_, rfl, ((d + 1 : Nat) : Int), rfl, by omega, by omega, ?_⟩
    refine for_range (lo := 0) (n := d + 1) (fun i σ H1 => ∃ v7 : Option V, σ = [some (.ref a), some (.ref s), some (nv (d + 1)), some (nv kd), some vv, some vk, some (nv (grow (sizeM (knownM kd)) i)), v7, none, none, none, none] ∧ H1 = GA) ⟨none, rfl, rfl⟩ ?_ ?_
    · rintro i σ H1 hi ⟨v7, rfl, rfl⟩
      refine ⟨_, rfl, _, _, rfl, rfl, .inl ⟨by decide, by decide⟩, _, _, rfl, rfl, ?_⟩
      have e : (2 : Int) * ((grow (sizeM (knownM kd)) i : Nat) : Int) + 1 = ((grow (sizeM (knownM kd)) (i + 1) : Nat) : Int) := by
        rw [gsn]
        omega
      show gName 6 (.int ((2 : Int) * ((grow (sizeM (knownM kd)) i : Nat) : Int) + 1)) _ _ _
      rw [e]
      exact ⟨_, rfl, rfl⟩
    rintro σ H1 ⟨v7, rfl, rfl⟩
    -- told
    have hlg : ((d + 1 : Nat) : Int).natAbs.log2 < 1920 := Nat.lt_of_le_of_lt (Nat.log2_le_self _) (by omega)
    have hln : ("v" : Str).length + (Str.ofString (toString ((d + 1 : Nat) : Int))).length ≤ sizeLine := by
      have := short_nums (d + 1) (by omega)
      have h1 : ("v" : Str).length = 1 := by decide +kernel
      rw [h1]
      exact Nat.le_of_lt (small1000 (by omega))
    have h1 := a1 d kd hd14 hk3
    unfold ok1 at h1
    refine ⟨fun σ' H' => ∃ vt, σ' = [some (.ref a), some (.ref s), some (nv (d + 1)), some (nv kd), some vv, some vk, some (nv (grow (sizeM (knownM kd)) (d + 1))), v7, some vt, none, none, none] ∧ Same H1 H' ∧ (1000 < grow (sizeM (knownM kd)) (d + 1) → vt = .str "types") ∧
      (grow (sizeM (knownM kd)) (d + 1) ≤ 1000 → RtAt H' vt (dueM (knownM kd) (d + 1))), ?_, ?_⟩
    · refine ⟨_, rfl, _, rfl, _, rfl, _, rfl, hlg, _, _, rfl, rfl, hln, (by show 2 ≤ sizeLine; decide), fun p hp => ?_⟩
      have sp := same_new (o := .tup [.str "name", .str (vS (d + 1))]) hp
      refine ⟨vv, .ref p, d + 1, valM kd, .name (vS (d + 1)), rfl, by omega, xv2.stay (F := F0) (ch_of_same sp), ⟨p, rfl, upd_same⟩, fun HB vB sB xB => ?_⟩
      have sB' := goSame sp sB
      refine ⟨vB, _, rfl, xB, ?_⟩
      cases hi : inferM (chainM (valM kd) (d + 1) (.name (vS (d + 1)))) with
      | bad => rw [hi] at h1; cases h1
      | big =>
        rw [hi] at h1
        have hbig : 1000 < grow (sizeM (knownM kd)) (d + 1) := of_decide_eq_true h1
        intro HC sC
        exact ⟨_, rfl, goSame sB' sC, fun _ => rfl, fun h => absurd hbig (by omega)⟩
      | ok z =>
        rw [hi] at h1
        obtain ⟨g1, g2⟩ := Bool.and_eq_true_iff.mp h1
        have hle := of_decide_eq_true g1
        obtain rfl := rtEq_eq g2
        intro HC vC sC hz
        exact ⟨_, rfl, goSame sB' sC, fun h => absurd hle (by omega), fun _ => hz⟩
    clear hln
    rintro σ' HC ⟨vt, rfl, sC, hb, ho⟩
    refine ⟨rfl, _, rfl, iteNS rfl ?_⟩
    refine ⟨fun σ' H' => σ' = [some (.ref a), some (.ref s), some (nv (d + 1)), some (nv kd), some vv, some vk, some (nv (grow (sizeM (knownM kd)) (d + 1))), v7, some vt, none, none, none] ∧ Same H1 H', ?_, ?_⟩
    · refine ⟨_, rfl, _, _, rfl, rfl, _, rfl, ?_⟩
      by_cases c : 1000 < grow (sizeM (knownM kd)) (d + 1)
      · obtain rfl := hb c
        refine ite2 (fun _ => ?_) (fun h => absurd (decide_eq_true (by omega)) h)
        refine ⟨_, rfl, rfl, _, rfl, iteNS rfl ?_⟩
        exact ⟨rfl, sC⟩
      · refine ite2 (fun h => absurd (of_decide_eq_true h) (by omega)) (fun _ => ?_)
        have hz := ho (by omega)
        refine ⟨_, rfl, _, rfl, _, rfl, ?_⟩
        refine ⟨vk, d + 1, knownM kd, rfl, by omega, xk.stay (F := F0) (ch_of_same sC), fun HD vD sD hD => ?_⟩
        have hsh := a3 d kd hd14 hk3 (by omega)
        refine ⟨_, _, rt_dp (hz.stay (F := F0) (ch_of_same sD)), rt_dp hD, hsh, hsh, _, rfl, ?_⟩
        rw [eqv_self hsh]
        refine iteF ?_
        exact ⟨rfl, goSame sC sD⟩
    rintro σ' HE ⟨rfl, sE⟩
    have stE := stB.stay (F := F0) (ch_of_same sE) (fun f => f) fun f => f
    have xvE := xv2.stay (F := F0) (ch_of_same sE)
    have xkE := xk.stay (F := F0) (ch_of_same sE)
    clear sE sC hb ho stB xv2 xk
    -- grown
    have hln : ("v" : Str).length + (Str.ofString (toString ((d + 1 : Nat) : Int))).length ≤ sizeLine := by
      have := short_nums (d + 1) (by omega)
      have h1 : ("v" : Str).length = 1 := by decide +kernel
      rw [h1]
      exact Nat.le_of_lt (small1000 (by omega))
    refine ⟨(by show 2 ≤ sizeLine; decide), fun p1 h1 => ?_⟩
    have t1 := same_new (o := .tup [.str "name", .str "y"]) h1
    have q1 : (upd HE p1 (.tup [.str "name", .str "y"])) p1 = _ := upd_same
    generalize upd HE p1 (.tup [.str "name", .str "y"]) = G1 at t1 q1
    refine ⟨_, rfl, _, rfl, _, rfl, hlg, _, _, rfl, rfl, hln, (by show 2 ≤ sizeLine; decide), fun p2 h2 => ?_⟩
    have t2 := same_new (o := .tup [.str "name", .str (vS (d + 1))]) h2
    have q2 : (upd G1 p2 (.tup [.str "name", .str (vS (d + 1))])) p2 = _ := upd_same
    refine ⟨(by show 2 ≤ sizeLine; decide), fun p3 h3 => ?_⟩
    have t3 := same_new (o := .tup [.str "fst", .ref p2]) h3
    have q3 : (upd (upd G1 p2 (.tup [.str "name", .str (vS (d + 1))])) p3 (.tup [.str "fst", .ref p2])) p3 = _ := upd_same
    refine ⟨.ref p1, .ref p3, d + 1, .name "y", .fst (.name (vS (d + 1))), rfl, by omega, ⟨p1, rfl, t3 _ _ (t2 _ _ q1)⟩, ⟨p3, .ref p2, rfl, q3, p2, rfl, t3 _ _ q2⟩, fun HF vF sF xF => ?_⟩
    have sF' := goSame t1 (goSame t2 (goSame t3 sF))
    have stF := stE.stay (F := F0) (ch_of_same sF') (fun f => f) fun f => f
    have xvF := xvE.stay (F := F0) (ch_of_same sF')
    have xkF := xkE.stay (F := F0) (ch_of_same sF')
    clear sF' sF t1 t2 t3 q1 q2 q3 h1 h2 h3 stE xvE xkE
    -- inner
    refine ⟨_, rfl, _, rfl, s, c, 4, rfl, by decide, by decide, stF, fun HG z4 stG cG w0 w1 => ⟨_, _, rfl, rfl, ?_⟩⟩
    obtain ⟨i4, ei⟩ : ∃ i4 : Nat, 1 + z4 = ((i4 + 1 : Nat) : Int) := ⟨z4.toNat, by omega⟩
    have hi4 : i4 < 4 := by omega
    refine ⟨(by show 2 ≤ sizeLine; decide), fun p1 h1 => ?_⟩
    have t1 := same_new (o := .tup [.str "name", .str "v1"]) h1
    have ev1 : vS 1 = ("v1" : Str) := by decide +kernel
    refine ⟨vv, .ref p1, i4 + 1, valM kd, .name (vS 1), (by show _ = [vv, V.int ((i4 + 1 : Nat) : Int), V.ref p1]; rw [← ei]; rfl), by omega, (xvF.stay cG).stay (F := F0) (ch_of_same t1), ⟨p1, rfl, by rw [ev1]; exact upd_same⟩, fun HI vI sI xI => ?_⟩
    have sI' := goSame t1 sI
    have xFI := (xF.stay cG).stay (F := F0) (ch_of_same sI')
    have xkI := (xkF.stay cG).stay (F := F0) (ch_of_same sI')
    clear sI' sI t1 h1 stG stF
    -- called
    refine ⟨_, rfl, (by show 2 ≤ sizeLine; decide), fun p1 h1 => ?_⟩
    have t1 := same_new (o := .tup [.str "num", .int 3]) h1
    have q1 : (upd HI p1 (.tup [.str "num", .int 3])) p1 = _ := upd_same
    generalize upd HI p1 (.tup [.str "num", .int 3]) = G1 at t1 q1
    refine ⟨(by show 4 ≤ sizeLine; decide), fun p2 h2 => ?_⟩
    have t2 := same_new (o := .tup [.str "let", .str "u", vF, .ref p1]) h2
    have q2 : (upd G1 p2 (.tup [.str "let", .str "u", vF, .ref p1])) p2 = _ := upd_same
    generalize upd G1 p2 (.tup [.str "let", .str "u", vF, .ref p1]) = G2 at t2 q2
    refine ⟨(by show 3 ≤ sizeLine; decide), fun p3 h3 => ?_⟩
    have t3 := same_new (o := .tup [.str "fun", .str "y", .ref p2]) h3
    have q3 : (upd G2 p3 (.tup [.str "fun", .str "y", .ref p2])) p3 = _ := upd_same
    generalize upd G2 p3 (.tup [.str "fun", .str "y", .ref p2]) = G3 at t3 q3
    refine ⟨_, rfl, (by show 3 ≤ sizeLine; decide), fun p4 h4 => ?_⟩
    have t4 := same_new (o := .tup [.str "call", .ref p3, vI]) h4
    have q4 : (upd G3 p4 (.tup [.str "call", .ref p3, vI])) p4 = _ := upd_same
    generalize upd G3 p4 (.tup [.str "call", .ref p3, vI]) = G4 at t4 q4
    have u3 := goSame t3 t4
    have u2 := goSame t2 u3
    have u1 := goSame t1 u2
    have xC : ExAt G4 (.ref p4) (calledM (d + 1) kd (i4 + 1)) := ⟨p4, .ref p3, vI, rfl, q4, ⟨p3, .ref p2, rfl, t4 _ _ q3, p2, vF, .ref p1, rfl, u3 _ _ q2, xFI.stay (F := F0) (ch_of_same u1), p1, rfl, u2 _ _ q1⟩, xI.stay (F := F0) (ch_of_same u1)⟩
    have xkC := xkI.stay (F := F0) (ch_of_same u1)
    clear u1 u2 u3 t1 t2 t3 t4 q1 q2 q3 q4 h1 h2 h3 h4 xFI xI
    -- the size
    refine ⟨_, rfl, vk, knownM kd, rfl, kn.1, kn.2.1, kn.2.2, xkC, _, _, rfl, rfl, .inl ⟨by decide, by decide⟩, _, _, rfl, rfl, ?_⟩
    have es : (2 : Int) * (sizeM (knownM kd) : Int) + 1 = ((2 * sizeM (knownM kd) + 1 : Nat) : Int) := by omega
    show gName 6 (.int ((2 : Int) * (sizeM (knownM kd) : Int) + 1)) _ _ _
    rw [es]
    refine ⟨_, rfl, ((d + 1 : Nat) : Int), rfl, by omega, by omega, ?_⟩
    refine for_range (lo := 0) (n := d + 1) (fun i σ H2 => ∃ v7 : Option V, σ = [some (.ref a), some (.ref s), some (nv (d + 1)), some (nv kd), some vv, some vk, some (nv (grow (2 * sizeM (knownM kd) + 1) i)), v7, some vt, some vF, some vI, some (.ref p4)] ∧ H2 = G4) ⟨_, rfl, rfl⟩ ?_ ?_
    · rintro i σ H2 hi ⟨v7, rfl, rfl⟩
      refine ⟨_, rfl, _, _, rfl, rfl, .inl ⟨by decide, by decide⟩, _, _, rfl, rfl, ?_⟩
      have e : (2 : Int) * ((grow (2 * sizeM (knownM kd) + 1) i : Nat) : Int) + 1 = ((grow (2 * sizeM (knownM kd) + 1) (i + 1) : Nat) : Int) := by
        rw [gsn]
        omega
      show gName 6 (.int ((2 : Int) * ((grow (2 * sizeM (knownM kd) + 1) i : Nat) : Int) + 1)) _ _ _
      rw [e]
      exact ⟨_, rfl, rfl⟩
    rintro σ H2 ⟨v7, rfl, rfl⟩
    have h2 := a2 d kd i4 hd14 hk3 hi4
    unfold ok2 at h2
    refine ⟨_, rfl, _, _, rfl, rfl, _, rfl, ?_⟩
    by_cases c : 1000 < grow (2 * sizeM (knownM kd) + 1) (d + 1)
    · refine ite2 (fun _ => ?_) (fun h => absurd (decide_eq_true (by omega)) h)
      refine ⟨_, rfl, _, _, rfl, xC, ?_⟩
      cases hi : inferM (calledM (d + 1) kd (i4 + 1)) with
      | bad => rw [hi] at h2; cases h2
      | ok z =>
        rw [hi] at h2
        have := of_decide_eq_true (Bool.and_eq_true_iff.mp h2).1
        omega
      | big =>
        intro HZ sZ
        refine ⟨rfl, ?_⟩
        rw [decide_eq_true rfl]
        exact kq _
    · refine ite2 (fun h => absurd (of_decide_eq_true h) (by omega)) (fun _ => ?_)
      refine ⟨_, rfl, _, _, rfl, xC, ?_⟩
      cases hi : inferM (calledM (d + 1) kd (i4 + 1)) with
      | bad => rw [hi] at h2; cases h2
      | big =>
        rw [hi] at h2
        have := of_decide_eq_true h2
        omega
      | ok z =>
        rw [hi] at h2
        obtain rfl := rtEq_eq (Bool.and_eq_true_iff.mp h2).2
        intro HZ vZ sZ hz
        refine ⟨(by show 1 ≤ sizeLine; decide), fun p hp => ?_⟩
        have hz2 : RtAt (upd HZ p (.tup [.str "int"])) (.ref p) (.leaf .int) := ⟨p, rfl, upd_same⟩
        have hsh : SeqAt.shaped (rtData (.leaf .int)) = true := by decide +kernel
        refine ⟨_, _, rt_dp (hz.stay (F := F0) (ch_new hp)), rt_dp hz2, hsh, hsh, ?_⟩
        rw [eqv_self hsh]
        exact kq _
end
end Kt


set_option Elab.async false
set_option maxRecDepth 100000
namespace Kt
open PySem PySem.Spec L2 PyProof.Rows Km Ka
theorem all1 : ((List.range 14).all fun d => (List.range 3).all fun k => ok1 (d + 1) k) = true := by decide +kernel
theorem all3 : ((List.range 14).all fun d => (List.range 3).all fun k => !decide (grow (sizeM (knownM k)) (d + 1) ≤ 1000) || SeqAt.shaped (rtData (dueM (knownM k) (d + 1)))) = true := by decide +kernel
end Kt


set_option Elab.async false
set_option maxRecDepth 100000
namespace Kt
open PySem PySem.Spec L2 PyProof.Rows Km Ka
theorem b_1_0 : ((List.range 4).all fun i => ok2 1 0 (i + 1)) = true := by decide +kernel
theorem b_1_1 : ((List.range 4).all fun i => ok2 1 1 (i + 1)) = true := by decide +kernel
theorem b_1_2 : ((List.range 4).all fun i => ok2 1 2 (i + 1)) = true := by decide +kernel
theorem b_2_0 : ((List.range 4).all fun i => ok2 2 0 (i + 1)) = true := by decide +kernel
theorem b_2_1 : ((List.range 4).all fun i => ok2 2 1 (i + 1)) = true := by decide +kernel
theorem b_2_2 : ((List.range 4).all fun i => ok2 2 2 (i + 1)) = true := by decide +kernel
theorem b_3_0 : ((List.range 4).all fun i => ok2 3 0 (i + 1)) = true := by decide +kernel
theorem b_3_1 : ((List.range 4).all fun i => ok2 3 1 (i + 1)) = true := by decide +kernel
theorem b_3_2 : ((List.range 4).all fun i => ok2 3 2 (i + 1)) = true := by decide +kernel
theorem b_4_0 : ((List.range 4).all fun i => ok2 4 0 (i + 1)) = true := by decide +kernel
theorem b_4_1 : ((List.range 4).all fun i => ok2 4 1 (i + 1)) = true := by decide +kernel
theorem b_4_2 : ((List.range 4).all fun i => ok2 4 2 (i + 1)) = true := by decide +kernel
end Kt


set_option Elab.async false
set_option maxRecDepth 100000
namespace Kt
open PySem PySem.Spec L2 PyProof.Rows Km Ka
theorem b_5_0 : ((List.range 4).all fun i => ok2 5 0 (i + 1)) = true := by decide +kernel
theorem b_5_1 : ((List.range 4).all fun i => ok2 5 1 (i + 1)) = true := by decide +kernel
theorem b_5_2 : ((List.range 4).all fun i => ok2 5 2 (i + 1)) = true := by decide +kernel
theorem b_6_0 : ((List.range 4).all fun i => ok2 6 0 (i + 1)) = true := by decide +kernel
theorem b_6_1 : ((List.range 4).all fun i => ok2 6 1 (i + 1)) = true := by decide +kernel
theorem b_6_2 : ((List.range 4).all fun i => ok2 6 2 (i + 1)) = true := by decide +kernel
theorem b_7_0 : ((List.range 4).all fun i => ok2 7 0 (i + 1)) = true := by decide +kernel
theorem b_7_1 : ((List.range 4).all fun i => ok2 7 1 (i + 1)) = true := by decide +kernel
theorem b_7_2 : ((List.range 4).all fun i => ok2 7 2 (i + 1)) = true := by decide +kernel
end Kt


set_option Elab.async false
set_option maxRecDepth 100000
namespace Kt
open PySem PySem.Spec L2 PyProof.Rows Km Ka
theorem b_8_0 : ((List.range 4).all fun i => ok2 8 0 (i + 1)) = true := by decide +kernel
theorem b_8_1 : ((List.range 4).all fun i => ok2 8 1 (i + 1)) = true := by decide +kernel
theorem b_8_2 : ((List.range 4).all fun i => ok2 8 2 (i + 1)) = true := by decide +kernel
theorem b_9_0 : ((List.range 4).all fun i => ok2 9 0 (i + 1)) = true := by decide +kernel
theorem b_9_1 : ((List.range 4).all fun i => ok2 9 1 (i + 1)) = true := by decide +kernel
theorem b_9_2 : ((List.range 4).all fun i => ok2 9 2 (i + 1)) = true := by decide +kernel
theorem b_10_0 : ((List.range 4).all fun i => ok2 10 0 (i + 1)) = true := by decide +kernel
theorem b_10_1 : ((List.range 4).all fun i => ok2 10 1 (i + 1)) = true := by decide +kernel
theorem b_10_2 : ((List.range 4).all fun i => ok2 10 2 (i + 1)) = true := by decide +kernel
theorem b_11_0 : ((List.range 4).all fun i => ok2 11 0 (i + 1)) = true := by decide +kernel
theorem b_11_1 : ((List.range 4).all fun i => ok2 11 1 (i + 1)) = true := by decide +kernel
theorem b_11_2 : ((List.range 4).all fun i => ok2 11 2 (i + 1)) = true := by decide +kernel
end Kt


set_option Elab.async false
set_option maxRecDepth 100000
namespace Kt
open PySem PySem.Spec L2 PyProof.Rows Km Ka
theorem b_12_0 : ((List.range 4).all fun i => ok2 12 0 (i + 1)) = true := by decide +kernel
theorem b_12_1 : ((List.range 4).all fun i => ok2 12 1 (i + 1)) = true := by decide +kernel
theorem b_12_2 : ((List.range 4).all fun i => ok2 12 2 (i + 1)) = true := by decide +kernel
theorem b_13_0 : ((List.range 4).all fun i => ok2 13 0 (i + 1)) = true := by decide +kernel
theorem b_13_1 : ((List.range 4).all fun i => ok2 13 1 (i + 1)) = true := by decide +kernel
theorem b_13_2 : ((List.range 4).all fun i => ok2 13 2 (i + 1)) = true := by decide +kernel
theorem b_14_0 : ((List.range 4).all fun i => ok2 14 0 (i + 1)) = true := by decide +kernel
theorem b_14_1 : ((List.range 4).all fun i => ok2 14 1 (i + 1)) = true := by decide +kernel
theorem b_14_2 : ((List.range 4).all fun i => ok2 14 2 (i + 1)) = true := by decide +kernel
end Kt


set_option Elab.async false
set_option linter.all false
set_option maxRecDepth 100000
set_option maxHeartbeats 4000000
namespace Kt
open PySem PySem.Spec L2 PyProof.Rows Km Ka
theorem h_a1 (d kd : Nat) (h1 : d < 14) (h2 : kd < 3) : ok1 (d + 1) kd = true := List.all_eq_true.mp (List.all_eq_true.mp all1 d (List.mem_range.mpr h1)) kd (List.mem_range.mpr h2)
theorem h_a3 (d kd : Nat) (h1 : d < 14) (h2 : kd < 3) (h : grow (sizeM (knownM kd)) (d + 1) ≤ 1000) : SeqAt.shaped (rtData (dueM (knownM kd) (d + 1))) = true := by
  have := List.all_eq_true.mp (List.all_eq_true.mp all3 d (List.mem_range.mpr h1)) kd (List.mem_range.mpr h2)
  rw [decide_eq_true h] at this
  exact this
theorem h_a2 (d kd i : Nat) (h1 : d < 14) (h2 : kd < 3) (h3 : i < 4) : ok2 (d + 1) kd (i + 1) = true := by
  have key : ∀ {D k : Nat}, ((List.range 4).all fun i => ok2 D k (i + 1)) = true → ok2 D k (i + 1) = true := fun h => List.all_eq_true.mp h i (List.mem_range.mpr h3)
  match d, kd, h1, h2 with
  | 0, 0, _, _ => exact key b_1_0
  | 0, 1, _, _ => exact key b_1_1
  | 0, 2, _, _ => exact key b_1_2
  | 1, 0, _, _ => exact key b_2_0
  | 1, 1, _, _ => exact key b_2_1
  | 1, 2, _, _ => exact key b_2_2
  | 2, 0, _, _ => exact key b_3_0
  | 2, 1, _, _ => exact key b_3_1
  | 2, 2, _, _ => exact key b_3_2
  | 3, 0, _, _ => exact key b_4_0
  | 3, 1, _, _ => exact key b_4_1
  | 3, 2, _, _ => exact key b_4_2
  | 4, 0, _, _ => exact key b_5_0
  | 4, 1, _, _ => exact key b_5_1
  | 4, 2, _, _ => exact key b_5_2
  | 5, 0, _, _ => exact key b_6_0
  | 5, 1, _, _ => exact key b_6_1
  | 5, 2, _, _ => exact key b_6_2
  | 6, 0, _, _ => exact key b_7_0
  | 6, 1, _, _ => exact key b_7_1
  | 6, 2, _, _ => exact key b_7_2
  | 7, 0, _, _ => exact key b_8_0
  | 7, 1, _, _ => exact key b_8_1
  | 7, 2, _, _ => exact key b_8_2
  | 8, 0, _, _ => exact key b_9_0
  | 8, 1, _, _ => exact key b_9_1
  | 8, 2, _, _ => exact key b_9_2
  | 9, 0, _, _ => exact key b_10_0
  | 9, 1, _, _ => exact key b_10_1
  | 9, 2, _, _ => exact key b_10_2
  | 10, 0, _, _ => exact key b_11_0
  | 10, 1, _, _ => exact key b_11_1
  | 10, 2, _, _ => exact key b_11_2
  | 11, 0, _, _ => exact key b_12_0
  | 11, 1, _, _ => exact key b_12_1
  | 11, 2, _, _ => exact key b_12_2
  | 12, 0, _, _ => exact key b_13_0
  | 12, 1, _, _ => exact key b_13_1
  | 12, 2, _, _ => exact key b_13_2
  | 13, 0, _, _ => exact key b_14_0
  | 13, 1, _, _ => exact key b_14_1
  | 13, 2, _, _ => exact key b_14_2
  | d + 14, kd, h1, _ => exact absurd h1 (by omega)
  | d, kd + 3, _, h2 => exact absurd h2 (by omega)
theorem go_all {P : Program} {w : World} {K : PySem.W.Frag} {mg : Str → Option Value} {base : Heap} {f CU CW C CR : Addr} {fd : FuncData} {ra : EX → Addr} {pR : Addr} (F : Fun K "go_through" "go_through" gGo f fd) (TW : WTxt K mg CW)
    (hB : ∃ f fd, FnOk P w K mg base CX0 2 f fd ["self"] (spBegin CW C CR K) ∧ Binds K fd ["self"] [] ∧ Meth K CW "begin" f)
    (hL : ∃ f fd, FnOk P w K mg base (CX P w) 5 f fd ["self", "types"] (spLim CU CW C CR K) ∧ Binds K fd ["self", "types"] [] ∧ Meth K CW "limit_sizes" f)
    (gR : mg "RULES" = some (.ref pR)) (dR : ∀ e, KDct K w pR (tagS e) (.ref (ra e)))
    (step : ∀ k f0, 7 ≤ k → FnOk P w K mg base (CX P w) k f fd pGo (spGo (goM f0) CU CW C CR K) → ∀ e, ∃ fd ps, FnOk P w K mg base (CX P w) (k + 2) (ra e) fd ps (spRule (okOf e) (goM f0) CU CW C CR K) ∧ PySem.W.keepIn K (.ref (ra e)) = true ∧ Binds K fd ps []) :
    ∀ n, FnOk P w K mg base (CX P w) (7 + 3 * n) f fd pGo (spGo (goM n) CU CW C CR K) := by
  intro n
  induction n with
  | zero => exact ok_go0 F
  | succ n ih =>
    have h7 : 7 ≤ 7 + 3 * n := Nat.le_add_right _ _
    exact ok_go F TW h7 hB hL gR dR (step (7 + 3 * n) n h7 ih)
theorem all_mk {l : PySem.W.OpenLaw} {w : World} {K : PySem.W.Frag} {h : Heap} {mg : Str → Option Value} {fa C CR CW CU CF CM fRI fRF fRW fRS fRL fRR fTI fTU fTL fTN fTF fTG fTC fTZ fTS fTT fWI fWB fWF fWK fWL fgInf fgGo fgIn frLit frNam frFun frCal frLet frPai frHal frNot flA flT flC flS flD flU fgg fTM fXI : Addr} (X : K.In h) (G : h.Ns mainGlobals mg) (hfa : mg "law" = some (.ref fa))
    {odRI anRI : Option Addr} {slRI : Array (Option Value)} {ocRI kVRI dcRI pmRI cdRI ctRI : Value}
    {odRF anRF : Option Addr} {slRF : Array (Option Value)} {ocRF kVRF dcRF pmRF cdRF ctRF : Value}
    {odRW anRW : Option Addr} {slRW : Array (Option Value)} {ocRW kVRW dcRW pmRW cdRW ctRW : Value}
    {odRS anRS : Option Addr} {slRS : Array (Option Value)} {ocRS kVRS dcRS pmRS cdRS ctRS : Value}
    {odRL anRL : Option Addr} {slRL : Array (Option Value)} {ocRL kVRL dcRL pmRL cdRL ctRL : Value}
    {odRR anRR : Option Addr} {slRR : Array (Option Value)} {ocRR kVRR dcRR pmRR cdRR ctRR : Value}
    {odTI anTI : Option Addr} {slTI : Array (Option Value)} {ocTI kVTI dcTI pmTI cdTI ctTI : Value}
    {odTU anTU : Option Addr} {slTU : Array (Option Value)} {ocTU kVTU dcTU pmTU cdTU ctTU : Value}
    {odTL anTL : Option Addr} {slTL : Array (Option Value)} {ocTL kVTL dcTL pmTL cdTL ctTL : Value}
    {odTN anTN : Option Addr} {slTN : Array (Option Value)} {ocTN kVTN dcTN pmTN cdTN ctTN : Value}
    {odTF anTF : Option Addr} {slTF : Array (Option Value)} {ocTF kVTF dcTF pmTF cdTF ctTF : Value}
    {odTG anTG : Option Addr} {slTG : Array (Option Value)} {ocTG kVTG dcTG pmTG cdTG ctTG : Value}
    {odTC anTC : Option Addr} {slTC : Array (Option Value)} {ocTC kVTC dcTC pmTC cdTC ctTC : Value}
    {odTZ anTZ : Option Addr} {slTZ : Array (Option Value)} {ocTZ kVTZ dcTZ pmTZ cdTZ ctTZ : Value}
    {odTS anTS : Option Addr} {slTS : Array (Option Value)} {ocTS kVTS dcTS pmTS cdTS ctTS : Value}
    {odTT anTT : Option Addr} {slTT : Array (Option Value)} {ocTT kVTT dcTT pmTT cdTT ctTT : Value}
    {odWI anWI : Option Addr} {slWI : Array (Option Value)} {ocWI kVWI dcWI pmWI cdWI ctWI : Value}
    {odWB anWB : Option Addr} {slWB : Array (Option Value)} {ocWB kVWB dcWB pmWB cdWB ctWB : Value}
    {odWF anWF : Option Addr} {slWF : Array (Option Value)} {ocWF kVWF dcWF pmWF cdWF ctWF : Value}
    {odWK anWK : Option Addr} {slWK : Array (Option Value)} {ocWK kVWK dcWK pmWK cdWK ctWK : Value}
    {odWL anWL : Option Addr} {slWL : Array (Option Value)} {ocWL kVWL dcWL pmWL cdWL ctWL : Value}
    {TD eE : Addr} {ccD : Value} {ddD : Option Addr} {nD nE : Nat} {ssD ssE : Array (Option Value)} {ddE : Option Addr}
    {odTM anTM : Option Addr} {slTM : Array (Option Value)} {ocTM kVTM dcTM pmTM cdTM ctTM : Value}
    {xnm xqn : Str} {xN : Addr} {xbs xbm : List Value} {xsn : List Str} {xsub : List Value} {xab : Bool} {xcol : Option Bool} {xdd : Option Addr} {x0 x1 x2 x3 x5 : Option Value}
    {odXI anXI : Option Addr} {slXI : Array (Option Value)} {ocXI kVXI dcXI pmXI cdXI ctXI : Value}
    {pL pRu : Addr} {esL esR : Array DictEntry} {nL nRu : Nat} {tL tkM : Tok}
    {odgInf angInf : Option Addr} {slgInf : Array (Option Value)} {ocgInf kVgInf dcgInf pmgInf cdgInf ctgInf : Value}
    {odgGo angGo : Option Addr} {slgGo : Array (Option Value)} {ocgGo kVgGo dcgGo pmgGo cdgGo ctgGo : Value}
    {odgIn angIn : Option Addr} {slgIn : Array (Option Value)} {ocgIn kVgIn dcgIn pmgIn cdgIn ctgIn : Value}
    {odrLit anrLit : Option Addr} {slrLit : Array (Option Value)} {ocrLit kVrLit dcrLit pmrLit cdrLit ctrLit : Value}
    {odrNam anrNam : Option Addr} {slrNam : Array (Option Value)} {ocrNam kVrNam dcrNam pmrNam cdrNam ctrNam : Value}
    {odrFun anrFun : Option Addr} {slrFun : Array (Option Value)} {ocrFun kVrFun dcrFun pmrFun cdrFun ctrFun : Value}
    {odrCal anrCal : Option Addr} {slrCal : Array (Option Value)} {ocrCal kVrCal dcrCal pmrCal cdrCal ctrCal : Value}
    {odrLet anrLet : Option Addr} {slrLet : Array (Option Value)} {ocrLet kVrLet dcrLet pmrLet cdrLet ctrLet : Value}
    {odrPai anrPai : Option Addr} {slrPai : Array (Option Value)} {ocrPai kVrPai dcrPai pmrPai cdrPai ctrPai : Value}
    {odrHal anrHal : Option Addr} {slrHal : Array (Option Value)} {ocrHal kVrHal dcrHal pmrHal cdrHal ctrHal : Value}
    {odrNot anrNot : Option Addr} {slrNot : Array (Option Value)} {ocrNot kVrNot dcrNot pmrNot cdrNot ctrNot : Value}
    {odlA anlA : Option Addr} {sllA : Array (Option Value)} {oclA kVlA dclA pmlA cdlA ctlA : Value}
    {odlT anlT : Option Addr} {sllT : Array (Option Value)} {oclT kVlT dclT pmlT cdlT ctlT : Value}
    {odlC anlC : Option Addr} {sllC : Array (Option Value)} {oclC kVlC dclC pmlC cdlC ctlC : Value}
    {odlS anlS : Option Addr} {sllS : Array (Option Value)} {oclS kVlS dclS pmlS cdlS ctlS : Value}
    {odlD anlD : Option Addr} {sllD : Array (Option Value)} {oclD kVlD dclD pmlD cdlD ctlD : Value}
    {odlU anlU : Option Addr} {sllU : Array (Option Value)} {oclU kVlU dclU pmlU cdlU ctlU : Value}
    {odgg angg : Option Addr} {slgg : Array (Option Value)} {ocgg kVgg dcgg pmgg cdgg ctgg : Value}
    (a_CR : PySem.W.nsIn K mainGlobals "Rows" = some (some (.ref CR)))
    (a_C : PySem.W.nsIn K mainGlobals "Types" = some (some (.ref C)))
    (a_CW : PySem.W.nsIn K mainGlobals "Work" = some (some (.ref CW)))
    (a_CU : PySem.W.nsIn K mainGlobals "Unbounded" = some (some (.ref CU)))
    (a_CF : PySem.W.nsIn K mainGlobals "Refused" = some (some (.ref CF)))
    (a_CM : PySem.W.nsIn K mainGlobals "Malformed" = some (some (.ref CM)))
    (aRI : PySem.W.findIn K (.ref CR) "__init__" = some (some (.ref fRI)))
    (iRI : PySem.W.isFn K (.ref fRI) = true)
    (lRI : K.lookup fRI = some ⟨ocRI, odRI, .func (PySem.W.fnOf "__init__" "Rows.__init__" (defArgs sInit) (defBody sInit) (defScope sInit) .none kVRI dcRI pmRI anRI cdRI ctRI), slRI⟩)
    (cRI : PySem.W.codeIn K cdRI "Rows.__init__" = true)
    (kRI : PySem.W.keepIn K (.ref fRI) = true)
    (aRF : PySem.W.findIn K (.ref CR) "fresh" = some (some (.ref fRF)))
    (iRF : PySem.W.isFn K (.ref fRF) = true)
    (lRF : K.lookup fRF = some ⟨ocRF, odRF, .func (PySem.W.fnOf "fresh" "Rows.fresh" (defArgs sFresh) (defBody sFresh) (defScope sFresh) .none kVRF dcRF pmRF anRF cdRF ctRF), slRF⟩)
    (cRF : PySem.W.codeIn K cdRF "Rows.fresh" = true)
    (kRF : PySem.W.keepIn K (.ref fRF) = true)
    (aRW : PySem.W.findIn K (.ref CR) "flow" = some (some (.ref fRW)))
    (iRW : PySem.W.isFn K (.ref fRW) = true)
    (lRW : K.lookup fRW = some ⟨ocRW, odRW, .func (PySem.W.fnOf "flow" "Rows.flow" (defArgs sFlow) (defBody sFlow) (defScope sFlow) .none kVRW dcRW pmRW anRW cdRW ctRW), slRW⟩)
    (cRW : PySem.W.codeIn K cdRW "Rows.flow" = true)
    (kRW : PySem.W.keepIn K (.ref fRW) = true)
    (aRS : PySem.W.findIn K (.ref CR) "same" = some (some (.ref fRS)))
    (iRS : PySem.W.isFn K (.ref fRS) = true)
    (lRS : K.lookup fRS = some ⟨ocRS, odRS, .func (PySem.W.fnOf "same" "Rows.same" (defArgs sSame) (defBody sSame) (defScope sSame) .none kVRS dcRS pmRS anRS cdRS ctRS), slRS⟩)
    (cRS : PySem.W.codeIn K cdRS "Rows.same" = true)
    (kRS : PySem.W.keepIn K (.ref fRS) = true)
    (aRL : PySem.W.findIn K (.ref CR) "least" = some (some (.ref fRL)))
    (iRL : PySem.W.isFn K (.ref fRL) = true)
    (lRL : K.lookup fRL = some ⟨ocRL, odRL, .func (PySem.W.fnOf "least" "Rows.least" (defArgs sLeast) (defBody sLeast) (defScope sLeast) .none kVRL dcRL pmRL anRL cdRL ctRL), slRL⟩)
    (cRL : PySem.W.codeIn K cdRL "Rows.least" = true)
    (kRL : PySem.W.keepIn K (.ref fRL) = true)
    (aRR : PySem.W.findIn K (.ref CR) "reached" = some (some (.ref fRR)))
    (iRR : PySem.W.isFn K (.ref fRR) = true)
    (lRR : K.lookup fRR = some ⟨ocRR, odRR, .func (PySem.W.fnOf "reached" "Rows.reached" (defArgs sReached) (defBody sReached) (defScope sReached) .none kVRR dcRR pmRR anRR cdRR ctRR), slRR⟩)
    (cRR : PySem.W.codeIn K cdRR "Rows.reached" = true)
    (kRR : PySem.W.keepIn K (.ref fRR) = true)
    (pgCR : PySem.W.plainGet K CR Str.empty = true)
    (hdCR : PySem.W.hasDictIn K CR = true)
    (poCR : PySem.W.plainOver K CR = true)
    (saCR : PySem.W.findIn K (.ref CR) "__setattr__" = some (some (.builtin "object.__setattr__")))
    (mkCR : PySem.W.makesIn K CR = true)
    (kcCR : PySem.W.keepIn K (.ref CR) = true)
    (aTI : PySem.W.findIn K (.ref C) "__init__" = some (some (.ref fTI)))
    (iTI : PySem.W.isFn K (.ref fTI) = true)
    (lTI : K.lookup fTI = some ⟨ocTI, odTI, .func (PySem.W.fnOf "__init__" "Types.__init__" (defArgs tInit) (defBody tInit) (defScope tInit) .none kVTI dcTI pmTI anTI cdTI ctTI), slTI⟩)
    (cTI : PySem.W.codeIn K cdTI "Types.__init__" = true)
    (kTI : PySem.W.keepIn K (.ref fTI) = true)
    (aTU : PySem.W.findIn K (.ref C) "undecided" = some (some (.ref fTU)))
    (iTU : PySem.W.isFn K (.ref fTU) = true)
    (lTU : K.lookup fTU = some ⟨ocTU, odTU, .func (PySem.W.fnOf "undecided" "Types.undecided" (defArgs tUnd) (defBody tUnd) (defScope tUnd) .none kVTU dcTU pmTU anTU cdTU ctTU), slTU⟩)
    (cTU : PySem.W.codeIn K cdTU "Types.undecided" = true)
    (kTU : PySem.W.keepIn K (.ref fTU) = true)
    (aTL : PySem.W.findIn K (.ref C) "leader" = some (some (.ref fTL)))
    (iTL : PySem.W.isFn K (.ref fTL) = true)
    (lTL : K.lookup fTL = some ⟨ocTL, odTL, .func (PySem.W.fnOf "leader" "Types.leader" (defArgs tLead) (defBody tLead) (defScope tLead) .none kVTL dcTL pmTL anTL cdTL ctTL), slTL⟩)
    (cTL : PySem.W.codeIn K cdTL "Types.leader" = true)
    (kTL : PySem.W.keepIn K (.ref fTL) = true)
    (aTN : PySem.W.findIn K (.ref C) "inside" = some (some (.ref fTN)))
    (iTN : PySem.W.isFn K (.ref fTN) = true)
    (lTN : K.lookup fTN = some ⟨ocTN, odTN, .func (PySem.W.fnOf "inside" "Types.inside" (defArgs tIns) (defBody tIns) (defScope tIns) .none kVTN dcTN pmTN anTN cdTN ctTN), slTN⟩)
    (cTN : PySem.W.codeIn K cdTN "Types.inside" = true)
    (kTN : PySem.W.keepIn K (.ref fTN) = true)
    (aTF : PySem.W.findIn K (.ref C) "fit" = some (some (.ref fTF)))
    (iTF : PySem.W.isFn K (.ref fTF) = true)
    (lTF : K.lookup fTF = some ⟨ocTF, odTF, .func (PySem.W.fnOf "fit" "Types.fit" (defArgs tFit) (defBody tFit) (defScope tFit) .none kVTF dcTF pmTF anTF cdTF ctTF), slTF⟩)
    (cTF : PySem.W.codeIn K cdTF "Types.fit" = true)
    (kTF : PySem.W.keepIn K (.ref fTF) = true)
    (aTG : PySem.W.findIn K (.ref C) "inside_first" = some (some (.ref fTG)))
    (iTG : PySem.W.isFn K (.ref fTG) = true)
    (lTG : K.lookup fTG = some ⟨ocTG, odTG, .func (PySem.W.fnOf "inside_first" "Types.inside_first" (defArgs tIf) (defBody tIf) (defScope tIf) .none kVTG dcTG pmTG anTG cdTG ctTG), slTG⟩)
    (cTG : PySem.W.codeIn K cdTG "Types.inside_first" = true)
    (kTG : PySem.W.keepIn K (.ref fTG) = true)
    (aTC : PySem.W.findIn K (.ref C) "contains_itself" = some (some (.ref fTC)))
    (iTC : PySem.W.isFn K (.ref fTC) = true)
    (lTC : K.lookup fTC = some ⟨ocTC, odTC, .func (PySem.W.fnOf "contains_itself" "Types.contains_itself" (defArgs tCi) (defBody tCi) (defScope tCi) .none kVTC dcTC pmTC anTC cdTC ctTC), slTC⟩)
    (cTC : PySem.W.codeIn K cdTC "Types.contains_itself" = true)
    (kTC : PySem.W.keepIn K (.ref fTC) = true)
    (aTZ : PySem.W.findIn K (.ref C) "sizes" = some (some (.ref fTZ)))
    (iTZ : PySem.W.isFn K (.ref fTZ) = true)
    (lTZ : K.lookup fTZ = some ⟨ocTZ, odTZ, .func (PySem.W.fnOf "sizes" "Types.sizes" (defArgs tSz) (defBody tSz) (defScope tSz) .none kVTZ dcTZ pmTZ anTZ cdTZ ctTZ), slTZ⟩)
    (cTZ : PySem.W.codeIn K cdTZ "Types.sizes" = true)
    (kTZ : PySem.W.keepIn K (.ref fTZ) = true)
    (aTS : PySem.W.findIn K (.ref C) "results" = some (some (.ref fTS)))
    (iTS : PySem.W.isFn K (.ref fTS) = true)
    (lTS : K.lookup fTS = some ⟨ocTS, odTS, .func (PySem.W.fnOf "results" "Types.results" (defArgs tRs) (defBody tRs) (defScope tRs) .none kVTS dcTS pmTS anTS cdTS ctTS), slTS⟩)
    (cTS : PySem.W.codeIn K cdTS "Types.results" = true)
    (kTS : PySem.W.keepIn K (.ref fTS) = true)
    (aTT : PySem.W.findIn K (.ref C) "result" = some (some (.ref fTT)))
    (iTT : PySem.W.isFn K (.ref fTT) = true)
    (lTT : K.lookup fTT = some ⟨ocTT, odTT, .func (PySem.W.fnOf "result" "Types.result" (defArgs tRt) (defBody tRt) (defScope tRt) .none kVTT dcTT pmTT anTT cdTT ctTT), slTT⟩)
    (cTT : PySem.W.codeIn K cdTT "Types.result" = true)
    (kTT : PySem.W.keepIn K (.ref fTT) = true)
    (pgC : PySem.W.plainGet K C Str.empty = true)
    (hdC : PySem.W.hasDictIn K C = true)
    (poC : PySem.W.plainOver K C = true)
    (saC : PySem.W.findIn K (.ref C) "__setattr__" = some (some (.builtin "object.__setattr__")))
    (mkC : PySem.W.makesIn K C = true)
    (kcC : PySem.W.keepIn K (.ref C) = true)
    (aWI : PySem.W.findIn K (.ref CW) "__init__" = some (some (.ref fWI)))
    (iWI : PySem.W.isFn K (.ref fWI) = true)
    (lWI : K.lookup fWI = some ⟨ocWI, odWI, .func (PySem.W.fnOf "__init__" "Work.__init__" (defArgs wInit) (defBody wInit) (defScope wInit) .none kVWI dcWI pmWI anWI cdWI ctWI), slWI⟩)
    (cWI : PySem.W.codeIn K cdWI "Work.__init__" = true)
    (kWI : PySem.W.keepIn K (.ref fWI) = true)
    (aWB : PySem.W.findIn K (.ref CW) "begin" = some (some (.ref fWB)))
    (iWB : PySem.W.isFn K (.ref fWB) = true)
    (lWB : K.lookup fWB = some ⟨ocWB, odWB, .func (PySem.W.fnOf "begin" "Work.begin" (defArgs wBegin) (defBody wBegin) (defScope wBegin) .none kVWB dcWB pmWB anWB cdWB ctWB), slWB⟩)
    (cWB : PySem.W.codeIn K cdWB "Work.begin" = true)
    (kWB : PySem.W.keepIn K (.ref fWB) = true)
    (aWF : PySem.W.findIn K (.ref CW) "fit" = some (some (.ref fWF)))
    (iWF : PySem.W.isFn K (.ref fWF) = true)
    (lWF : K.lookup fWF = some ⟨ocWF, odWF, .func (PySem.W.fnOf "fit" "Work.fit" (defArgs wFit) (defBody wFit) (defScope wFit) .none kVWF dcWF pmWF anWF cdWF ctWF), slWF⟩)
    (cWF : PySem.W.codeIn K cdWF "Work.fit" = true)
    (kWF : PySem.W.keepIn K (.ref fWF) = true)
    (aWK : PySem.W.findIn K (.ref CW) "fit_kind" = some (some (.ref fWK)))
    (iWK : PySem.W.isFn K (.ref fWK) = true)
    (lWK : K.lookup fWK = some ⟨ocWK, odWK, .func (PySem.W.fnOf "fit_kind" "Work.fit_kind" (defArgs wKind) (defBody wKind) (defScope wKind) .none kVWK dcWK pmWK anWK cdWK ctWK), slWK⟩)
    (cWK : PySem.W.codeIn K cdWK "Work.fit_kind" = true)
    (kWK : PySem.W.keepIn K (.ref fWK) = true)
    (aWL : PySem.W.findIn K (.ref CW) "limit_sizes" = some (some (.ref fWL)))
    (iWL : PySem.W.isFn K (.ref fWL) = true)
    (lWL : K.lookup fWL = some ⟨ocWL, odWL, .func (PySem.W.fnOf "limit_sizes" "Work.limit_sizes" (defArgs wLim) (defBody wLim) (defScope wLim) .none kVWL dcWL pmWL anWL cdWL ctWL), slWL⟩)
    (cWL : PySem.W.codeIn K cdWL "Work.limit_sizes" = true)
    (kWL : PySem.W.keepIn K (.ref fWL) = true)
    (pgCW : PySem.W.plainGet K CW Str.empty = true)
    (hdCW : PySem.W.hasDictIn K CW = true)
    (poCW : PySem.W.plainOver K CW = true)
    (saCW : PySem.W.findIn K (.ref CW) "__setattr__" = some (some (.builtin "object.__setattr__")))
    (mkCW : PySem.W.makesIn K CW = true)
    (kcCW : PySem.W.keepIn K (.ref CW) = true)
    (nCR_targets : PySem.W.findIn K (.ref CR) "targets" = some none)
    (nCR_holders : PySem.W.findIn K (.ref CR) "holders" = some none)
    (nC_forms : PySem.W.findIn K (.ref C) "forms" = some none)
    (nC_leads : PySem.W.findIn K (.ref C) "leads" = some none)
    (nC_rows : PySem.W.findIn K (.ref C) "rows" = some none)
    (nCW_rows : PySem.W.findIn K (.ref CW) "rows" = some none)
    (nCW_types : PySem.W.findIn K (.ref CW) "types" = some none)
    (nCW_given : PySem.W.findIn K (.ref CW) "given" = some none)
    (nCW_answered : PySem.W.findIn K (.ref CW) "answered" = some none)
    (nCW_found : PySem.W.findIn K (.ref CW) "found" = some none)
    (nCW_asked : PySem.W.findIn K (.ref CW) "asked" = some none)
    (aTM : PySem.W.findIn K (.ref C) "made" = some (some (.ref fTM)))
    (iTM : PySem.W.isFn K (.ref fTM) = true)
    (lTM : K.lookup fTM = some ⟨ocTM, odTM, .func (PySem.W.fnOf "made" "Types.made" (defArgs tMade) (defBody tMade) (defScope tMade) (.ref TD) kVTM dcTM pmTM anTM cdTM ctTM), slTM⟩)
    (cTM : PySem.W.codeIn K cdTM "Types.made" = true)
    (kTM : PySem.W.keepIn K (.ref fTM) = true)
    (lTD : K.lookup TD = some ⟨ccD, ddD, .seq #[.ref eE, .none] nD, ssD⟩)
    (lTE : K.lookup eE = some ⟨.type "tuple", ddE, .seq #[] nE, ssE⟩)
    (xcl : K.lookup CU = some (PySem.excClassObj xnm xqn CU xN xbs xbm true xsn xsub xab xcol xdd x0 x1 x2 x3 x5 "ValueError.__new__"))
    (xrf : PySem.HandSPX.refsVE xbm = true)
    (xsa : PySem.W.findIn K (.ref CU) "__setattr__" = some (some (.builtin "object.__setattr__")))
    (xex : PySem.W.subIn K (.ref CU) (.type "BaseException") = some true)
    (xty : PySem.W.typeIn K (.ref CU) = some (.type "type"))
    (xkc : PySem.W.keepIn K (.ref CU) = true)
    (xin : PySem.W.findIn K (.ref CU) "__init__" = some (some (.ref fXI)))
    (xti : PySem.W.typeIn K (.ref fXI) = some (.type "function"))
    (xno : PySem.W.findIn K (.ref CU) "name" = some none)
    (lXI : K.lookup fXI = some ⟨ocXI, odXI, .func (PySem.W.fnOf "__init__" "Unbounded.__init__" (defArgs xInit) (defBody xInit) (defScope xInit) .none kVXI dcXI pmXI anXI cdXI ctXI), slXI⟩)
    (cXI : PySem.W.codeIn K cdXI "Unbounded.__init__" = true)
    (kXI : PySem.W.keepIn K (.ref fXI) = true)
    (xga : PySem.W.findIn K (.ref CU) "__getattribute__" = some (some (.builtin "BaseException.__getattribute__")))
    (xgg : PySem.W.findIn K (.ref CU) "__getattr__" = some none)
    (xhd : PySem.W.hasDictIn K CU = true)
    (xha : PySem.W.findIn K (.ref CU) "__class__" = some (some (.builtin "object.__class__")))
    (xhn : PySem.W.specialIn K (.builtin "object.__class__") "__get__" = some (some (.builtin "getset_descriptor.__get__")))
    (xht : PySem.W.takesIn K (.builtin "object.__class__") = some true)
    (xhm : PySem.W.mroIn K CU (.type "object") = some true)
    (xf1 : PySem.W.subIn K (.ref CF) (.type "BaseException") = some true)
    (xf2 : PySem.W.hasDictIn K CF = true)
    (xf3 : PySem.W.typeIn K (.ref CF) = some (.type "type"))
    (xf4 : PySem.W.subIn K (.ref CU) (.ref CF) = some true)
    (xk1 : PySem.W.kitOne K (.ref CU) (.ref CU) = some true)
    (xk2 : PySem.W.kitOne K (.ref CU) (.ref CM) = some false)
    (gL : PySem.W.nsIn K mainGlobals "LITERALS" = some (some (.ref pL)))
    (lLt : K.lookup pL = some ⟨.type "dict", none, .dict esL nL, #[]⟩)
    (kLt : PySem.W.KeysLit w.params esL.toList)
    (nLt : PySem.W.nsIn K pL "num" = some (some (.str "int" tL)))
    (gRu : PySem.W.nsIn K mainGlobals "RULES" = some (some (.ref pRu)))
    (lRu : K.lookup pRu = some ⟨.type "dict", none, .dict esR nRu, #[]⟩)
    (kRu : PySem.W.KeysLit w.params esR.toList)
    (agInf : PySem.W.nsIn K mainGlobals "infer" = some (some (.ref fgInf)))
    (lgInf : K.lookup fgInf = some ⟨ocgInf, odgInf, .func (PySem.W.fnOf "infer" "infer" (defArgs gInf) (defBody gInf) (defScope gInf) .none kVgInf dcgInf pmgInf angInf cdgInf ctgInf), slgInf⟩)
    (cgInf : PySem.W.codeIn K cdgInf "infer" = true)
    (kgInf : PySem.W.keepIn K (.ref fgInf) = true)
    (agGo : PySem.W.nsIn K mainGlobals "go_through" = some (some (.ref fgGo)))
    (lgGo : K.lookup fgGo = some ⟨ocgGo, odgGo, .func (PySem.W.fnOf "go_through" "go_through" (defArgs gGo) (defBody gGo) (defScope gGo) .none kVgGo dcgGo pmgGo angGo cdgGo ctgGo), slgGo⟩)
    (cgGo : PySem.W.codeIn K cdgGo "go_through" = true)
    (kgGo : PySem.W.keepIn K (.ref fgGo) = true)
    (agIn : PySem.W.nsIn K mainGlobals "go_into" = some (some (.ref fgIn)))
    (lgIn : K.lookup fgIn = some ⟨ocgIn, odgIn, .func (PySem.W.fnOf "go_into" "go_into" (defArgs gInto) (defBody gInto) (defScope gInto) .none kVgIn dcgIn pmgIn angIn cdgIn ctgIn), slgIn⟩)
    (cgIn : PySem.W.codeIn K cdgIn "go_into" = true)
    (kgIn : PySem.W.keepIn K (.ref fgIn) = true)
    (arLit : PySem.W.nsIn K mainGlobals "literal_rule" = some (some (.ref frLit)))
    (lrLit : K.lookup frLit = some ⟨ocrLit, odrLit, .func (PySem.W.fnOf "literal_rule" "literal_rule" (defArgs gLit) (defBody gLit) (defScope gLit) .none kVrLit dcrLit pmrLit anrLit cdrLit ctrLit), slrLit⟩)
    (crLit : PySem.W.codeIn K cdrLit "literal_rule" = true)
    (krLit : PySem.W.keepIn K (.ref frLit) = true)
    (arNam : PySem.W.nsIn K mainGlobals "name_rule" = some (some (.ref frNam)))
    (lrNam : K.lookup frNam = some ⟨ocrNam, odrNam, .func (PySem.W.fnOf "name_rule" "name_rule" (defArgs gName_) (defBody gName_) (defScope gName_) .none kVrNam dcrNam pmrNam anrNam cdrNam ctrNam), slrNam⟩)
    (crNam : PySem.W.codeIn K cdrNam "name_rule" = true)
    (krNam : PySem.W.keepIn K (.ref frNam) = true)
    (arFun : PySem.W.nsIn K mainGlobals "function_rule" = some (some (.ref frFun)))
    (lrFun : K.lookup frFun = some ⟨ocrFun, odrFun, .func (PySem.W.fnOf "function_rule" "function_rule" (defArgs gFun) (defBody gFun) (defScope gFun) .none kVrFun dcrFun pmrFun anrFun cdrFun ctrFun), slrFun⟩)
    (crFun : PySem.W.codeIn K cdrFun "function_rule" = true)
    (krFun : PySem.W.keepIn K (.ref frFun) = true)
    (arCal : PySem.W.nsIn K mainGlobals "call_rule" = some (some (.ref frCal)))
    (lrCal : K.lookup frCal = some ⟨ocrCal, odrCal, .func (PySem.W.fnOf "call_rule" "call_rule" (defArgs gCall_) (defBody gCall_) (defScope gCall_) .none kVrCal dcrCal pmrCal anrCal cdrCal ctrCal), slrCal⟩)
    (crCal : PySem.W.codeIn K cdrCal "call_rule" = true)
    (krCal : PySem.W.keepIn K (.ref frCal) = true)
    (arLet : PySem.W.nsIn K mainGlobals "let_rule" = some (some (.ref frLet)))
    (lrLet : K.lookup frLet = some ⟨ocrLet, odrLet, .func (PySem.W.fnOf "let_rule" "let_rule" (defArgs gLet) (defBody gLet) (defScope gLet) .none kVrLet dcrLet pmrLet anrLet cdrLet ctrLet), slrLet⟩)
    (crLet : PySem.W.codeIn K cdrLet "let_rule" = true)
    (krLet : PySem.W.keepIn K (.ref frLet) = true)
    (arPai : PySem.W.nsIn K mainGlobals "pair_rule" = some (some (.ref frPai)))
    (lrPai : K.lookup frPai = some ⟨ocrPai, odrPai, .func (PySem.W.fnOf "pair_rule" "pair_rule" (defArgs gPair) (defBody gPair) (defScope gPair) .none kVrPai dcrPai pmrPai anrPai cdrPai ctrPai), slrPai⟩)
    (crPai : PySem.W.codeIn K cdrPai "pair_rule" = true)
    (krPai : PySem.W.keepIn K (.ref frPai) = true)
    (arHal : PySem.W.nsIn K mainGlobals "half_rule" = some (some (.ref frHal)))
    (lrHal : K.lookup frHal = some ⟨ocrHal, odrHal, .func (PySem.W.fnOf "half_rule" "half_rule" (defArgs gHalf) (defBody gHalf) (defScope gHalf) .none kVrHal dcrHal pmrHal anrHal cdrHal ctrHal), slrHal⟩)
    (crHal : PySem.W.codeIn K cdrHal "half_rule" = true)
    (krHal : PySem.W.keepIn K (.ref frHal) = true)
    (arNot : PySem.W.nsIn K mainGlobals "not_rule" = some (some (.ref frNot)))
    (lrNot : K.lookup frNot = some ⟨ocrNot, odrNot, .func (PySem.W.fnOf "not_rule" "not_rule" (defArgs gNot) (defBody gNot) (defScope gNot) .none kVrNot dcrNot pmrNot anrNot cdrNot ctrNot), slrNot⟩)
    (crNot : PySem.W.codeIn K cdrNot "not_rule" = true)
    (krNot : PySem.W.keepIn K (.ref frNot) = true)
    (alA : PySem.W.nsIn K mainGlobals "_law_state" = some (some (.ref flA)))
    (llA : K.lookup flA = some ⟨oclA, odlA, .func (PySem.W.fnOf "_law_state" "_law_state" (defArgs sState) (defBody sState) (defScope sState) .none kVlA dclA pmlA anlA cdlA ctlA), sllA⟩)
    (clA : PySem.W.codeIn K cdlA "_law_state" = true)
    (klA : PySem.W.keepIn K (.ref flA) = true)
    (alT : PySem.W.nsIn K mainGlobals "_law_take" = some (some (.ref flT)))
    (llT : K.lookup flT = some ⟨oclT, odlT, .func (PySem.W.fnOf "_law_take" "_law_take" (defArgs sTake) (defBody sTake) (defScope sTake) .none kVlT dclT pmlT anlT cdlT ctlT), sllT⟩)
    (clT : PySem.W.codeIn K cdlT "_law_take" = true)
    (klT : PySem.W.keepIn K (.ref flT) = true)
    (alC : PySem.W.nsIn K mainGlobals "_law_chain" = some (some (.ref flC)))
    (llC : K.lookup flC = some ⟨oclC, odlC, .func (PySem.W.fnOf "_law_chain" "_law_chain" (defArgs lChain) (defBody lChain) (defScope lChain) .none kVlC dclC pmlC anlC cdlC ctlC), sllC⟩)
    (clC : PySem.W.codeIn K cdlC "_law_chain" = true)
    (klC : PySem.W.keepIn K (.ref flC) = true)
    (alS : PySem.W.nsIn K mainGlobals "_law_size" = some (some (.ref flS)))
    (llS : K.lookup flS = some ⟨oclS, odlS, .func (PySem.W.fnOf "_law_size" "_law_size" (defArgs lSize) (defBody lSize) (defScope lSize) .none kVlS dclS pmlS anlS cdlS ctlS), sllS⟩)
    (clS : PySem.W.codeIn K cdlS "_law_size" = true)
    (klS : PySem.W.keepIn K (.ref flS) = true)
    (alD : PySem.W.nsIn K mainGlobals "_law_told" = some (some (.ref flD)))
    (llD : K.lookup flD = some ⟨oclD, odlD, .func (PySem.W.fnOf "_law_told" "_law_told" (defArgs lTold) (defBody lTold) (defScope lTold) .none kVlD dclD pmlD anlD cdlD ctlD), sllD⟩)
    (clD : PySem.W.codeIn K cdlD "_law_told" = true)
    (klD : PySem.W.keepIn K (.ref flD) = true)
    (alU : PySem.W.nsIn K mainGlobals "_law_due" = some (some (.ref flU)))
    (llU : K.lookup flU = some ⟨oclU, odlU, .func (PySem.W.fnOf "_law_due" "_law_due" (defArgs lDue) (defBody lDue) (defScope lDue) .none kVlU dclU pmlU anlU cdlU ctlU), sllU⟩)
    (clU : PySem.W.codeIn K cdlU "_law_due" = true)
    (klU : PySem.W.keepIn K (.ref flU) = true)
    (agg : PySem.W.nsIn K mainGlobals "law" = some (some (.ref fgg)))
    (lgg : K.lookup fgg = some ⟨ocgg, odgg, .func (PySem.W.fnOf "law" "law" (defArgs sLaw) (defBody sLaw) (defScope sLaw) .none kVgg dcgg pmgg angg cdgg ctgg), slgg⟩)
    (cgg : PySem.W.codeIn K cdgg "law" = true)
    (kgg : PySem.W.keepIn K (.ref fgg) = true)
    (d_num : PySem.W.nsIn K pRu "num" = some (some (.ref frLit)))
    (d_name : PySem.W.nsIn K pRu "name" = some (some (.ref frNam)))
    (d_fun : PySem.W.nsIn K pRu "fun" = some (some (.ref frFun)))
    (d_call : PySem.W.nsIn K pRu "call" = some (some (.ref frCal)))
    (d_let : PySem.W.nsIn K pRu "let" = some (some (.ref frLet)))
    (d_pair : PySem.W.nsIn K pRu "pair" = some (some (.ref frPai)))
    (d_fst : PySem.W.nsIn K pRu "fst" = some (some (.ref frHal)))
    (d_not : PySem.W.nsIn K pRu "not" = some (some (.ref frNot)))
    (gMS : PySem.W.nsIn K mainGlobals "MOST_SIZE" = some (some (.int 1000 tkM)))
    (z_len : PySem.W.nsIn K mainGlobals "len" = some (none))
    (z_tuple : PySem.W.nsIn K mainGlobals "tuple" = some (none))
    (z_sorted : PySem.W.nsIn K mainGlobals "sorted" = some (none))
    (z_list : PySem.W.nsIn K mainGlobals "list" = some (none))
    (z_abs : PySem.W.nsIn K mainGlobals "abs" = some (none))
    (z_int : PySem.W.nsIn K mainGlobals "int" = some (none))
    (z_range : PySem.W.nsIn K mainGlobals "range" = some (none))
    (z_isinstance : PySem.W.nsIn K mainGlobals "isinstance" = some (none))
    (z_sum : PySem.W.nsIn K mainGlobals "sum" = some (none))
    (z_zip : PySem.W.nsIn K mainGlobals "zip" = some (none))
    (z_max : PySem.W.nsIn K mainGlobals "max" = some (none))
    (z_str : PySem.W.nsIn K mainGlobals "str" = some (none)) :
    ∃ fd : FuncData, (∀ (s : Shared) (v : Value), BindsTo s fd ⟨[v], []⟩ [("_law_script", v)]) ∧ ∀ base : Heap, K.In base → base.Ns mainGlobals mg → FnOk l.prog w K mg base CX0 82 fa fd ["_law_script"] (spLaw K) := by
  have e := hfa.symm.trans (PySem.W.mg_of X G agg)
  cases e
  have TR : Txt K mg CR := ⟨⟨pgCR, hdCR, poCR, saCR⟩, nCR_targets, nCR_holders, PySem.W.mg_of X G a_CR, PySem.W.mg_none_of X G z_len, PySem.W.mg_none_of X G z_tuple, PySem.W.mg_none_of X G z_sorted, PySem.W.mg_none_of X G z_list⟩
  have T : TTxt K mg C := ⟨⟨pgC, hdC, poC, saC⟩, nC_forms, nC_leads, nC_rows, PySem.W.mg_of X G a_C, PySem.W.mg_none_of X G z_len, PySem.W.mg_none_of X G z_tuple, PySem.W.mg_none_of X G z_list, PySem.W.mg_none_of X G z_sum, PySem.W.mg_none_of X G z_zip⟩
  have TW : WTxt K mg CW := ⟨⟨pgCW, hdCW, poCW, saCW⟩, nCW_rows, nCW_types, nCW_given, nCW_answered, nCW_found, nCW_asked, PySem.W.mg_of X G a_CW, PySem.W.mg_none_of X G z_len, PySem.W.mg_none_of X G z_max, ⟨_, PySem.W.mg_of X G gMS⟩⟩
  have OX : OexC K CU := ⟨⟨_, _, _, _, _, _, _, _, _, _, _, _, _, _, _, xcl, xrf⟩, xsa, xex, xty, xkc⟩
  have TX : XTxt K mg CU fXI := ⟨OX, xin, xti, PySem.W.mg_of X G a_CU, xno⟩
  have TL : LTxt K mg CU CF CM := ⟨PySem.W.mg_of X G a_CF, PySem.W.mg_of X G a_CU, PySem.W.mg_of X G a_CM, PySem.W.exm_ref xf1 xf2 xf3 xf4, xk1, xk2, PySem.W.mg_none_of X G z_isinstance, ⟨xga, xgg, xex, xhd⟩, xno, ⟨xga, xgg, xex, xhd, xha, xhn, xht, xhm⟩, by obtain ⟨c, h, _⟩ := PySem.W.any_some xhd; rw [h]; rfl⟩
  have FRI := fun_mk (st := sInit) lRI cRI kRI
  have bRI := FRI.binds (ps := ["self"]) fun _ _ _ _ _ _ us hl => match us, hl with | [_], _ => rfl
  have FRF := fun_mk (st := sFresh) lRF cRF kRF
  have bRF := FRF.binds (ps := ["self"]) fun _ _ _ _ _ _ us hl => match us, hl with | [_], _ => rfl
  have FRW := fun_mk (st := sFlow) lRW cRW kRW
  have bRW := FRW.binds (ps := ["self", "source", "target", "without"]) fun _ _ _ _ _ _ us hl => match us, hl with | [_, _, _, _], _ => rfl
  have FRS := fun_mk (st := sSame) lRS cRS kRS
  have bRS := FRS.binds (ps := ["self", "one", "other"]) fun _ _ _ _ _ _ us hl => match us, hl with | [_, _, _], _ => rfl
  have FRL := fun_mk (st := sLeast) lRL cRL kRL
  have bRL := FRL.binds (ps := ["self"]) fun _ _ _ _ _ _ us hl => match us, hl with | [_], _ => rfl
  have FRR := fun_mk (st := sReached) lRR cRR kRR
  have bRR := FRR.binds (ps := ["self", "name"]) fun _ _ _ _ _ _ us hl => match us, hl with | [_, _], _ => rfl
  have FTI := fun_mk (st := tInit) lTI cTI kTI
  have bTI := FTI.binds (ps := ["self", "rows"]) fun _ _ _ _ _ _ us hl => match us, hl with | [_, _], _ => rfl
  have FTU := fun_mk (st := tUnd) lTU cTU kTU
  have bTU := FTU.binds (ps := ["self"]) fun _ _ _ _ _ _ us hl => match us, hl with | [_], _ => rfl
  have FTL := fun_mk (st := tLead) lTL cTL kTL
  have bTL := FTL.binds (ps := ["self", "one"]) fun _ _ _ _ _ _ us hl => match us, hl with | [_, _], _ => rfl
  have FTN := fun_mk (st := tIns) lTN cTN kTN
  have bTN := FTN.binds (ps := ["self", "one"]) fun _ _ _ _ _ _ us hl => match us, hl with | [_, _], _ => rfl
  have FTF := fun_mk (st := tFit) lTF cTF kTF
  have bTF := FTF.binds (ps := ["self", "one", "other"]) fun _ _ _ _ _ _ us hl => match us, hl with | [_, _, _], _ => rfl
  have FTG := fun_mk (st := tIf) lTG cTG kTG
  have bTG := FTG.binds (ps := ["self", "ones"]) fun _ _ _ _ _ _ us hl => match us, hl with | [_, _], _ => rfl
  have FTC := fun_mk (st := tCi) lTC cTC kTC
  have bTC := FTC.binds (ps := ["self", "one"]) fun _ _ _ _ _ _ us hl => match us, hl with | [_, _], _ => rfl
  have FTZ := fun_mk (st := tSz) lTZ cTZ kTZ
  have bTZ := FTZ.binds (ps := ["self", "ones"]) fun _ _ _ _ _ _ us hl => match us, hl with | [_, _], _ => rfl
  have FTS := fun_mk (st := tRs) lTS cTS kTS
  have bTS := FTS.binds (ps := ["self", "ones", "rows"]) fun _ _ _ _ _ _ us hl => match us, hl with | [_, _, _], _ => rfl
  have FTT := fun_mk (st := tRt) lTT cTT kTT
  have bTT := FTT.binds (ps := ["self", "one", "inside", "rows"]) fun _ _ _ _ _ _ us hl => match us, hl with | [_, _, _, _], _ => rfl
  have FWI := fun_mk (st := wInit) lWI cWI kWI
  have bWI := FWI.binds (ps := ["self", "operations"]) fun _ _ _ _ _ _ us hl => match us, hl with | [_, _], _ => rfl
  have FWB := fun_mk (st := wBegin) lWB cWB kWB
  have bWB := FWB.binds (ps := ["self"]) fun _ _ _ _ _ _ us hl => match us, hl with | [_], _ => rfl
  have FWF := fun_mk (st := wFit) lWF cWF kWF
  have bWF := FWF.binds (ps := ["self", "number", "wanted"]) fun _ _ _ _ _ _ us hl => match us, hl with | [_, _, _], _ => rfl
  have FWK := fun_mk (st := wKind) lWK cWK kWK
  have bWK := FWK.binds (ps := ["self", "number", "kind"]) fun _ _ _ _ _ _ us hl => match us, hl with | [_, _, _], _ => rfl
  have FWL := fun_mk (st := wLim) lWL cWL kWL
  have bWL := FWL.binds (ps := ["self", "types"]) fun _ _ _ _ _ _ us hl => match us, hl with | [_, _], _ => rfl
  have FgInf := fun_mk (st := gInf) lgInf cgInf kgInf
  have bgInf := FgInf.binds (ps := ["program"]) fun _ _ _ _ _ _ us hl => match us, hl with | [_], _ => rfl
  have FgGo := fun_mk (st := gGo) lgGo cgGo kgGo
  have bgGo := FgGo.binds (ps := ["work", "expression", "names"]) fun _ _ _ _ _ _ us hl => match us, hl with | [_, _, _], _ => rfl
  have FgIn := fun_mk (st := gInto) lgIn cgIn kgIn
  have bgIn := FgIn.binds (ps := ["work", "part", "names", "row"]) fun _ _ _ _ _ _ us hl => match us, hl with | [_, _, _, _], _ => rfl
  have FrLit := fun_mk (st := gLit) lrLit crLit krLit
  have brLit := FrLit.binds (ps := ["work", "expression", "names", "row"]) fun _ _ _ _ _ _ us hl => match us, hl with | [_, _, _, _], _ => rfl
  have FrNam := fun_mk (st := gName_) lrNam crNam krNam
  have brNam := FrNam.binds (ps := ["work", "expression", "names", "row"]) fun _ _ _ _ _ _ us hl => match us, hl with | [_, _, _, _], _ => rfl
  have FrFun := fun_mk (st := gFun) lrFun crFun krFun
  have brFun := FrFun.binds (ps := ["work", "expression", "names", "row"]) fun _ _ _ _ _ _ us hl => match us, hl with | [_, _, _, _], _ => rfl
  have FrCal := fun_mk (st := gCall_) lrCal crCal krCal
  have brCal := FrCal.binds (ps := ["work", "expression", "names", "row"]) fun _ _ _ _ _ _ us hl => match us, hl with | [_, _, _, _], _ => rfl
  have FrLet := fun_mk (st := gLet) lrLet crLet krLet
  have brLet := FrLet.binds (ps := ["work", "expression", "names", "row"]) fun _ _ _ _ _ _ us hl => match us, hl with | [_, _, _, _], _ => rfl
  have FrPai := fun_mk (st := gPair) lrPai crPai krPai
  have brPai := FrPai.binds (ps := ["work", "expression", "names", "row"]) fun _ _ _ _ _ _ us hl => match us, hl with | [_, _, _, _], _ => rfl
  have FrHal := fun_mk (st := gHalf) lrHal crHal krHal
  have brHal := FrHal.binds (ps := ["work", "expression", "names", "row"]) fun _ _ _ _ _ _ us hl => match us, hl with | [_, _, _, _], _ => rfl
  have FrNot := fun_mk (st := gNot) lrNot crNot krNot
  have brNot := FrNot.binds (ps := ["work", "expression", "names", "row"]) fun _ _ _ _ _ _ us hl => match us, hl with | [_, _, _, _], _ => rfl
  have FlA := fun_mk (st := sState) llA clA klA
  have blA := FlA.binds (ps := ["_law_script"]) fun _ _ _ _ _ _ us hl => match us, hl with | [_], _ => rfl
  have FlT := fun_mk (st := sTake) llT clT klT
  have blT := FlT.binds (ps := ["_law_state_here", "_law_most"]) fun _ _ _ _ _ _ us hl => match us, hl with | [_, _], _ => rfl
  have FlC := fun_mk (st := lChain) llC clC klC
  have blC := FlC.binds (ps := ["_law_value", "_law_depth", "_law_last"]) fun _ _ _ _ _ _ us hl => match us, hl with | [_, _, _], _ => rfl
  have FlS := fun_mk (st := lSize) llS clS klS
  have blS := FlS.binds (ps := ["_law_known"]) fun _ _ _ _ _ _ us hl => match us, hl with | [_], _ => rfl
  have FlD := fun_mk (st := lTold) llD clD klD
  have blD := FlD.binds (ps := ["_law_expression"]) fun _ _ _ _ _ _ us hl => match us, hl with | [_], _ => rfl
  have FlU := fun_mk (st := lDue) llU clU klU
  have blU := FlU.binds (ps := ["_law_known", "_law_depth"]) fun _ _ _ _ _ _ us hl => match us, hl with | [_, _], _ => rfl
  have Fgg := fun_mk (st := sLaw) lgg cgg kgg
  have bgg := Fgg.binds (ps := ["_law_script"]) fun _ _ _ _ _ _ us hl => match us, hl with | [_], _ => rfl
  have FXI := fun_mk (st := xInit) lXI cXI kXI
  have bXI := FXI.binds (ps := ["self", "name"]) fun _ _ _ _ _ _ us hl => match us, hl with | [_, _], _ => rfl
  have mRI : Meth K CR "__init__" fRI := ⟨aRI, iRI, kRI⟩
  have mRF : Meth K CR "fresh" fRF := ⟨aRF, iRF, kRF⟩
  have mRW : Meth K CR "flow" fRW := ⟨aRW, iRW, kRW⟩
  have mRS : Meth K CR "same" fRS := ⟨aRS, iRS, kRS⟩
  have mRL : Meth K CR "least" fRL := ⟨aRL, iRL, kRL⟩
  have mRR : Meth K CR "reached" fRR := ⟨aRR, iRR, kRR⟩
  have mTI : Meth K C "__init__" fTI := ⟨aTI, iTI, kTI⟩
  have mTU : Meth K C "undecided" fTU := ⟨aTU, iTU, kTU⟩
  have mTL : Meth K C "leader" fTL := ⟨aTL, iTL, kTL⟩
  have mTN : Meth K C "inside" fTN := ⟨aTN, iTN, kTN⟩
  have mTF : Meth K C "fit" fTF := ⟨aTF, iTF, kTF⟩
  have mTG : Meth K C "inside_first" fTG := ⟨aTG, iTG, kTG⟩
  have mTC : Meth K C "contains_itself" fTC := ⟨aTC, iTC, kTC⟩
  have mTZ : Meth K C "sizes" fTZ := ⟨aTZ, iTZ, kTZ⟩
  have mTS : Meth K C "results" fTS := ⟨aTS, iTS, kTS⟩
  have mTT : Meth K C "result" fTT := ⟨aTT, iTT, kTT⟩
  have mWI : Meth K CW "__init__" fWI := ⟨aWI, iWI, kWI⟩
  have mWB : Meth K CW "begin" fWB := ⟨aWB, iWB, kWB⟩
  have mWF : Meth K CW "fit" fWF := ⟨aWF, iWF, kWF⟩
  have mWK : Meth K CW "fit_kind" fWK := ⟨aWK, iWK, kWK⟩
  have mWL : Meth K CW "limit_sizes" fWL := ⟨aWL, iWL, kWL⟩
  have mTM : Meth K C "made" fTM := ⟨aTM, iTM, kTM⟩
  have DTM : FunD K "made" "Types.made" (defArgs tMade) (defBody tMade) (defScope tMade) [V.ref eE, V.non] [] fTM _ := ⟨⟨_, _, _, _, _, _, _, _, _, _, rfl, lTM, cTM, .inr ⟨by simp, TD, _, [.ref eE, .none], nD, rfl, lTD, rfl, .cons rfl (.cons rfl .nil)⟩, .inl rfl⟩, kTM⟩
  have BTM : MadeB K _ eE := ⟨fun H => .inr ⟨_, #[], nE, lTE, rfl, rfl, Nat.zero_le _, .nil⟩,
    (by
      obtain ⟨ds, hd, hb⟩ := DTM.binds1 (ps := pMade) 4 2 (by simp) rfl (fun T kV doc pm an cdv ct us its hu hi => match us, its, hu, hi with | [_, _, _, _], [_, _], _, _ => ⟨_, rfl, rfl⟩)
      cases hd
      exact hb),
    DTM.binds1 (ps := pMade) 3 1 (by simp) rfl (fun T kV doc pm an cdv ct us its hu hi => match us, its, hu, hi with | [_, _, _], [_, _], _, _ => ⟨_, rfl, rfl⟩),
    DTM.binds1 (ps := pMade) 2 0 (by simp) rfl (fun T kV doc pm an cdv ct us its hu hi => match us, its, hu, hi with | [_, _], [_, _], _, _ => ⟨_, rfl, rfl⟩)⟩
  refine ⟨PySem.W.fnOf "law" "law" (defArgs sLaw) (defBody sLaw) (defScope sLaw) .none kVgg dcgg pmgg angg cdgg ctgg, fun s v => .of_eq rfl, fun base _ _ => ?_⟩
  have GRI : FnOk l.prog w K mg base CX0 1 fRI _ ["self"] (spInit CR) := ok_init FRI TR
  have GRF : FnOk l.prog w K mg base CX0 1 fRF _ ["self"] (spFresh CR) := ok_fresh FRF TR
  have GRW : FnOk l.prog w K mg base CX0 1 fRW _ ["self", "source", "target", "without"] (spFlow CR K) := ok_flow FRW TR
  have GRS : FnOk l.prog w K mg base CX0 2 fRS _ ["self", "one", "other"] (spSame CR) := ok_same FRS TR FRW bRW mRW
  have GRL : FnOk l.prog w K mg base CX0 2 fRL _ ["self"] (spLeast CR) := ok_least FRL TR FRR bRR mRR
  have GTI : FnOk l.prog w K mg base CX0 1 fTI _ ["self", "rows"] (spTI C CR K) := ok_ti FTI T
  have GTM : FnOk l.prog w K mg base CX0 1 fTM _ pMade (spMade C CR K) := ok_made DTM T
  have GTU : FnOk l.prog w K mg base CX0 2 fTU _ ["self"] (spUnd C CR K) := ok_und FTU T GTM BTM mTM
  have GTL : FnOk l.prog w K mg base CX0 1 fTL _ ["self", "one"] (spLead C CR K) := ok_lead FTL T
  have GTN : FnOk l.prog w K mg base CX0 2 fTN _ ["self", "one"] (spIns C CR K) := ok_ins FTN T FTL bTL mTL
  have GTG : FnOk l.prog w K mg base CX0 3 fTG _ ["self", "ones"] (spIf C CR K) := ok_if FTG T GTL bTL mTL GTN bTN mTN
  have GTC : FnOk l.prog w K mg base CX0 4 fTC _ ["self", "one"] (spCi C CR K) := ok_ci FTC T GTN bTN mTN GTG bTG mTG
  have GTF : FnOk l.prog w K mg base CX0 5 fTF _ ["self", "one", "other"] (spFit C CR K) := ok_fit FTF T TR GTL bTL mTL GTC bTC mTC GRS bRS mRS
  have GTZ : FnOk l.prog w K mg base CX0 4 fTZ _ ["self", "ones"] (spSz C CR K) := ok_sz FTZ T GTL bTL mTL GTN bTN mTN GTG bTG mTG
  have GTT : FnOk l.prog w K mg base CX0 1 fTT _ ["self", "one", "inside", "rows"] (spRt C CR K) := ok_rt FTT T
  have GTS : FnOk l.prog w K mg base CX0 4 fTS _ ["self", "ones", "rows"] (spRs C CR K) := ok_rs FTS T GTL bTL mTL GTN bTN mTN GTG bTG mTG GTT bTT mTT
  have GXI : FnOk l.prog w K mg base CX0 1 fXI _ ["self", "name"] (spXi CU) := ok_xi FXI TX
  have GWI : FnOk l.prog w K mg base CX0 3 fWI _ ["self", "operations"] (spWI CW C CR K) := ok_wi FWI TW T TR ⟨mkCR, aRI, iRI, kcCR⟩ ⟨mkC, aTI, iTI, kcC⟩ GRI bRI GTI bTI
  have GWB : FnOk l.prog w K mg base CX0 2 fWB _ ["self"] (spBegin CW C CR K) := ok_begin FWB TW TR GRF bRF mRF
  have GWF : FnOk l.prog w K mg base CX0 6 fWF _ ["self", "number", "wanted"] (spWfit CW C CR K) := ok_wfit FWF TW T GTF bTF mTF
  have GWK : FnOk l.prog w K mg base CX0 7 fWK _ ["self", "number", "kind"] (spKind CW C CR K) := ok_kind FWK TW T GTM BTM mTM GWF bWF mWF
  have GWL : FnOk l.prog w K mg base (CX l.prog w) 5 fWL _ ["self", "types"] (spLim CU CW C CR K) := ok_lim FWL TW T TX GTZ bTZ mTZ GXI bXI
  have AV : ∀ k f0, 7 ≤ k → FnOk l.prog w K mg base (CX l.prog w) k fgGo _ pGo (spGo (goM f0) CU CW C CR K) → Av l.prog w K mg base k (goM f0) CU CW C CR eE := fun k f0 hk GG => {
    TW := TW, T := T, TR := TR, hk := hk,
    into := ⟨fgIn, _, ok_into FgIn TW TR (by omega) ⟨GG, PySem.W.mg_of X G agGo, kgGo, bgGo⟩ GRW bRW mRW, PySem.W.mg_of X G agIn, kgIn, bgIn⟩,
    made := ⟨fTM, _, GTM, BTM, mTM⟩, und := ⟨fTU, _, GTU, bTU, mTU⟩, fresh := ⟨fRF, _, GRF, bRF, mRF⟩, flow := ⟨fRW, _, GRW, bRW, mRW⟩, fit := ⟨fWF, _, GWF, bWF, mWF⟩, kind := ⟨fWK, _, GWK, bWK, mWK⟩,
    lit := ⟨pL, PySem.W.mg_of X G gL, esL, nL, _, lLt, kLt, nLt, ⟨tL, rfl⟩⟩ }
  have dR : ∀ e, KDct K w pRu (tagS e) (.ref ((fun e => match e with | .num _ => frLit | .name _ => frNam | .fn _ _ => frFun | .call _ _ => frCal | .lt _ _ _ => frLet | .pair _ _ => frPai | .fst _ => frHal | .not _ => frNot : EX → Addr) e)) := fun e => by
    cases e
    · exact ⟨esR, nRu, _, lRu, kRu, d_num, rfl⟩
    · exact ⟨esR, nRu, _, lRu, kRu, d_name, rfl⟩
    · exact ⟨esR, nRu, _, lRu, kRu, d_fun, rfl⟩
    · exact ⟨esR, nRu, _, lRu, kRu, d_call, rfl⟩
    · exact ⟨esR, nRu, _, lRu, kRu, d_let, rfl⟩
    · exact ⟨esR, nRu, _, lRu, kRu, d_pair, rfl⟩
    · exact ⟨esR, nRu, _, lRu, kRu, d_fst, rfl⟩
    · exact ⟨esR, nRu, _, lRu, kRu, d_not, rfl⟩
  have GG := go_all (P := l.prog) (base := base) FgGo TW ⟨fWB, _, GWB, bWB, mWB⟩ ⟨fWL, _, GWL, bWL, mWL⟩ (PySem.W.mg_of X G gRu) dR (fun k f0 hk GG e => by
    have V_ := AV k f0 hk GG
    cases e
    · exact ⟨_, _, ok_lit FrLit V_, krLit, brLit⟩
    · exact ⟨_, _, ok_name FrNam V_, krNam, brNam⟩
    · exact ⟨_, _, ok_fun FrFun V_, krFun, brFun⟩
    · exact ⟨_, _, ok_call FrCal V_, krCal, brCal⟩
    · exact ⟨_, _, ok_let FrLet V_, krLet, brLet⟩
    · exact ⟨_, _, ok_pair FrPai V_, krPai, brPai⟩
    · exact ⟨_, _, ok_half FrHal V_, krHal, brHal⟩
    · exact ⟨_, _, ok_not FrNot V_, krNot, brNot⟩) 24
  have GI := ok_inf (P := l.prog) (base := base) FgInf TW T TR (by decide) ⟨mkCW, aWI, iWI, kcCW⟩ GWI bWI ⟨GG, PySem.W.mg_of X G agGo, kgGo, bgGo⟩ ⟨fWL, _, GWL, bWL, mWL⟩ ⟨fRL, _, GRL, bRL, mRL⟩ ⟨fTS, _, GTS, bTS, mTS⟩
  have GD := ok_told (P := l.prog) (base := base) FlD TL ⟨GI, PySem.W.mg_of X G agInf, kgInf, bgInf⟩
  exact ok_law Fgg {
    JA := ok_state FlA (PySem.W.mg_none_of X G z_len) (PySem.W.mg_none_of X G z_abs), uA := PySem.W.mg_of X G alA, kA := klA, bA := blA,
    JT := ok_take FlT (PySem.W.mg_none_of X G z_len) (PySem.W.mg_none_of X G z_int), uT := PySem.W.mg_of X G alT, kT := klT, bT := blT,
    JC := ok_chain FlC (PySem.W.mg_none_of X G z_range) (PySem.W.mg_none_of X G z_str), uC := PySem.W.mg_of X G alC, kC := klC, bC := blC,
    JS := ok_size FlS (PySem.W.mg_of X G alS) klS blS 4, uS := PySem.W.mg_of X G alS, kS := klS, bS := blS,
    JD := GD, uD := PySem.W.mg_of X G alD, kD := klD, bD := blD,
    JU := ok_due FlU (PySem.W.mg_none_of X G z_range), uU := PySem.W.mg_of X G alU, kU := klU, bU := blU,
    mr := PySem.W.mg_none_of X G z_range, ms := PySem.W.mg_none_of X G z_str, ms0 := ⟨_, PySem.W.mg_of X G gMS⟩ } (by decide) h_a1 h_a2 h_a3
theorem walk {l : PySem.W.OpenLaw} {q : Program} {loose : List Str} {XP : (Str → Option Value) → Heap → Prop} {YP : World → Heap → Prop} {d : DefRec} {K : Params → PySem.W.Frag} (hn : l.most = some 63) (hdf : d.params.defaults = [])
    (hY : ∀ (w : World) (h : Heap), YP w h → (K w.params).In h)
    (F : ∀ (w : World) (mg : Str → Option Value) (fa : Addr) (h : Heap), (K w.params).In h → h.Ns mainGlobals mg → mg d.name = some (.ref fa) →
      ∃ fd : FuncData, (∀ (s : Shared) (u : Value), BindsTo s fd ⟨[u], []⟩ [("_law_script", u)]) ∧ ∀ base : Heap, (K w.params).In base → base.Ns mainGlobals mg → FnOk l.prog w (K w.params) mg base CX0 82 fa fd ["_law_script"] (spLaw (K w.params))) :
    PySem.W.WalkO q loose XP YP l.row.toRowW d [] (fun f vs => PySem.call f vs) :=
  L2.walk_of (n := 63) (k := 82) (x := "_law_script") (CX := fun _ => CX0) (sp := fun w => spLaw (K w.params)) hn (by decide) hdf ⟨rfl, by decide, by decide⟩ hY F (fun _ _ a ns hl _ hS => ⟨a, ns, rfl, hS, hl, fun _ => rfl⟩) fun _ _ _ _ _ z => z
end Kt


set_option Elab.async false
set_option linter.all false
set_option maxRecDepth 100000
open PySem PySem.W PyProof.Rows in
set_option maxRecDepth 100000 in
set_option maxHeartbeats 0 in
theorem PySem.Challenge.cw_askedfor_k09_large_types_holds : PySem.Challenge.rw_askedfor_k09_large_types.Holds := by
  w_on; o_law; k_head; (case hw => w_witness2)
  k_fill
  refine Kt.walk (l := PySem.Challenge.rw_askedfor_k09_large_types) rfl rfl (fun w h Y => PySem.W.kIn_of Y) ?F
  case F =>
    intro w mg fa h KX G hmg
    refine' Kt.all_mk KX G hmg ?a_CR ?a_C ?a_CW ?a_CU ?a_CF ?a_CM ?aRI ?iRI ?lRI ?cRI ?kRI ?aRF ?iRF ?lRF ?cRF ?kRF ?aRW ?iRW ?lRW ?cRW ?kRW ?aRS ?iRS ?lRS ?cRS ?kRS ?aRL ?iRL ?lRL ?cRL ?kRL ?aRR ?iRR ?lRR ?cRR ?kRR ?pgCR ?hdCR ?poCR ?saCR ?mkCR ?kcCR ?aTI ?iTI ?lTI ?cTI ?kTI ?aTU ?iTU ?lTU ?cTU ?kTU ?aTL ?iTL ?lTL ?cTL ?kTL ?aTN ?iTN ?lTN ?cTN ?kTN ?aTF ?iTF ?lTF ?cTF ?kTF ?aTG ?iTG ?lTG ?cTG ?kTG ?aTC ?iTC ?lTC ?cTC ?kTC ?aTZ ?iTZ ?lTZ ?cTZ ?kTZ ?aTS ?iTS ?lTS ?cTS ?kTS ?aTT ?iTT ?lTT ?cTT ?kTT ?pgC ?hdC ?poC ?saC ?mkC ?kcC ?aWI ?iWI ?lWI ?cWI ?kWI ?aWB ?iWB ?lWB ?cWB ?kWB ?aWF ?iWF ?lWF ?cWF ?kWF ?aWK ?iWK ?lWK ?cWK ?kWK ?aWL ?iWL ?lWL ?cWL ?kWL ?pgCW ?hdCW ?poCW ?saCW ?mkCW ?kcCW ?nCR_targets ?nCR_holders ?nC_forms ?nC_leads ?nC_rows ?nCW_rows ?nCW_types ?nCW_given ?nCW_answered ?nCW_found ?nCW_asked ?aTM ?iTM ?lTM ?cTM ?kTM ?lTD ?lTE ?xcl ?xrf ?xsa ?xex ?xty ?xkc ?xin ?xti ?xno ?lXI ?cXI ?kXI ?xga ?xgg ?xhd ?xha ?xhn ?xht ?xhm ?xf1 ?xf2 ?xf3 ?xf4 ?xk1 ?xk2 ?gL ?lLt ?kLt ?nLt ?gRu ?lRu ?kRu ?agInf ?lgInf ?cgInf ?kgInf ?agGo ?lgGo ?cgGo ?kgGo ?agIn ?lgIn ?cgIn ?kgIn ?arLit ?lrLit ?crLit ?krLit ?arNam ?lrNam ?crNam ?krNam ?arFun ?lrFun ?crFun ?krFun ?arCal ?lrCal ?crCal ?krCal ?arLet ?lrLet ?crLet ?krLet ?arPai ?lrPai ?crPai ?krPai ?arHal ?lrHal ?crHal ?krHal ?arNot ?lrNot ?crNot ?krNot ?alA ?llA ?clA ?klA ?alT ?llT ?clT ?klT ?alC ?llC ?clC ?klC ?alS ?llS ?clS ?klS ?alD ?llD ?clD ?klD ?alU ?llU ?clU ?klU ?agg ?lgg ?cgg ?kgg ?d_num ?d_name ?d_fun ?d_call ?d_let ?d_pair ?d_fst ?d_not ?gMS ?z_len ?z_tuple ?z_sorted ?z_list ?z_abs ?z_int ?z_range ?z_isinstance ?z_sum ?z_zip ?z_max ?z_str
    (case a_CR => k_is)
    (case a_C => k_is)
    (case a_CW => k_is)
    (case a_CU => k_is)
    (case a_CF => k_is)
    (case a_CM => k_is)
    (case aRI => k_is)
    (case iRI => k_is)
    (case lRI => k_is)
    (case cRI => k_is)
    (case kRI => k_is)
    (case aRF => k_is)
    (case iRF => k_is)
    (case lRF => k_is)
    (case cRF => k_is)
    (case kRF => k_is)
    (case aRW => k_is)
    (case iRW => k_is)
    (case lRW => k_is)
    (case cRW => k_is)
    (case kRW => k_is)
    (case aRS => k_is)
    (case iRS => k_is)
    (case lRS => k_is)
    (case cRS => k_is)
    (case kRS => k_is)
    (case aRL => k_is)
    (case iRL => k_is)
    (case lRL => k_is)
    (case cRL => k_is)
    (case kRL => k_is)
    (case aRR => k_is)
    (case iRR => k_is)
    (case lRR => k_is)
    (case cRR => k_is)
    (case kRR => k_is)
    (case pgCR => k_is)
    (case hdCR => k_is)
    (case poCR => k_is)
    (case saCR => k_is)
    (case mkCR => k_is)
    (case kcCR => k_is)
    (case aTI => k_is)
    (case iTI => k_is)
    (case lTI => k_is)
    (case cTI => k_is)
    (case kTI => k_is)
    (case aTU => k_is)
    (case iTU => k_is)
    (case lTU => k_is)
    (case cTU => k_is)
    (case kTU => k_is)
    (case aTL => k_is)
    (case iTL => k_is)
    (case lTL => k_is)
    (case cTL => k_is)
    (case kTL => k_is)
    (case aTN => k_is)
    (case iTN => k_is)
    (case lTN => k_is)
    (case cTN => k_is)
    (case kTN => k_is)
    (case aTF => k_is)
    (case iTF => k_is)
    (case lTF => k_is)
    (case cTF => k_is)
    (case kTF => k_is)
    (case aTG => k_is)
    (case iTG => k_is)
    (case lTG => k_is)
    (case cTG => k_is)
    (case kTG => k_is)
    (case aTC => k_is)
    (case iTC => k_is)
    (case lTC => k_is)
    (case cTC => k_is)
    (case kTC => k_is)
    (case aTZ => k_is)
    (case iTZ => k_is)
    (case lTZ => k_is)
    (case cTZ => k_is)
    (case kTZ => k_is)
    (case aTS => k_is)
    (case iTS => k_is)
    (case lTS => k_is)
    (case cTS => k_is)
    (case kTS => k_is)
    (case aTT => k_is)
    (case iTT => k_is)
    (case lTT => k_is)
    (case cTT => k_is)
    (case kTT => k_is)
    (case pgC => k_is)
    (case hdC => k_is)
    (case poC => k_is)
    (case saC => k_is)
    (case mkC => k_is)
    (case kcC => k_is)
    (case aWI => k_is)
    (case iWI => k_is)
    (case lWI => k_is)
    (case cWI => k_is)
    (case kWI => k_is)
    (case aWB => k_is)
    (case iWB => k_is)
    (case lWB => k_is)
    (case cWB => k_is)
    (case kWB => k_is)
    (case aWF => k_is)
    (case iWF => k_is)
    (case lWF => k_is)
    (case cWF => k_is)
    (case kWF => k_is)
    (case aWK => k_is)
    (case iWK => k_is)
    (case lWK => k_is)
    (case cWK => k_is)
    (case kWK => k_is)
    (case aWL => k_is)
    (case iWL => k_is)
    (case lWL => k_is)
    (case cWL => k_is)
    (case kWL => k_is)
    (case pgCW => k_is)
    (case hdCW => k_is)
    (case poCW => k_is)
    (case saCW => k_is)
    (case mkCW => k_is)
    (case kcCW => k_is)
    (case nCR_targets => k_is)
    (case nCR_holders => k_is)
    (case nC_forms => k_is)
    (case nC_leads => k_is)
    (case nC_rows => k_is)
    (case nCW_rows => k_is)
    (case nCW_types => k_is)
    (case nCW_given => k_is)
    (case nCW_answered => k_is)
    (case nCW_found => k_is)
    (case nCW_asked => k_is)
    (case aTM => k_is)
    (case iTM => k_is)
    (case lTM => k_is)
    (case cTM => k_is)
    (case kTM => k_is)
    (case lTD => k_is)
    (case lTE => k_is)
    (case xcl => k_is)
    (case xrf => decide +kernel)
    (case xsa => k_is)
    (case xex => k_is)
    (case xty => k_is)
    (case xkc => k_is)
    (case xin => k_is)
    (case xti => k_is)
    (case xno => k_is)
    (case lXI => k_is)
    (case cXI => k_is)
    (case kXI => k_is)
    (case xga => k_is)
    (case xgg => k_is)
    (case xhd => k_is)
    (case xha => k_is)
    (case xhn => k_is)
    (case xht => k_is)
    (case xhm => k_is)
    (case xf1 => k_is)
    (case xf2 => k_is)
    (case xf3 => k_is)
    (case xf4 => k_is)
    (case xk1 => kit_is)
    (case xk2 => kit_is)
    (case gL => k_is)
    (case lLt => k_is)
    (case kLt => (repeat' first | exact True.intro | refine ⟨⟨_, _, rfl, rfl⟩, ?_⟩))
    (case nLt => k_is)
    (case gRu => k_is)
    (case lRu => k_is)
    (case kRu => (repeat' first | exact True.intro | refine ⟨⟨_, _, rfl, rfl⟩, ?_⟩))
    (case agInf => k_is)
    (case lgInf => k_is)
    (case cgInf => k_is)
    (case kgInf => k_is)
    (case agGo => k_is)
    (case lgGo => k_is)
    (case cgGo => k_is)
    (case kgGo => k_is)
    (case agIn => k_is)
    (case lgIn => k_is)
    (case cgIn => k_is)
    (case kgIn => k_is)
    (case arLit => k_is)
    (case lrLit => k_is)
    (case crLit => k_is)
    (case krLit => k_is)
    (case arNam => k_is)
    (case lrNam => k_is)
    (case crNam => k_is)
    (case krNam => k_is)
    (case arFun => k_is)
    (case lrFun => k_is)
    (case crFun => k_is)
    (case krFun => k_is)
    (case arCal => k_is)
    (case lrCal => k_is)
    (case crCal => k_is)
    (case krCal => k_is)
    (case arLet => k_is)
    (case lrLet => k_is)
    (case crLet => k_is)
    (case krLet => k_is)
    (case arPai => k_is)
    (case lrPai => k_is)
    (case crPai => k_is)
    (case krPai => k_is)
    (case arHal => k_is)
    (case lrHal => k_is)
    (case crHal => k_is)
    (case krHal => k_is)
    (case arNot => k_is)
    (case lrNot => k_is)
    (case crNot => k_is)
    (case krNot => k_is)
    (case alA => k_is)
    (case llA => k_is)
    (case clA => k_is)
    (case klA => k_is)
    (case alT => k_is)
    (case llT => k_is)
    (case clT => k_is)
    (case klT => k_is)
    (case alC => k_is)
    (case llC => k_is)
    (case clC => k_is)
    (case klC => k_is)
    (case alS => k_is)
    (case llS => k_is)
    (case clS => k_is)
    (case klS => k_is)
    (case alD => k_is)
    (case llD => k_is)
    (case clD => k_is)
    (case klD => k_is)
    (case alU => k_is)
    (case llU => k_is)
    (case clU => k_is)
    (case klU => k_is)
    (case agg => k_is)
    (case lgg => k_is)
    (case cgg => k_is)
    (case kgg => k_is)
    (case d_num => k_is)
    (case d_name => k_is)
    (case d_fun => k_is)
    (case d_call => k_is)
    (case d_let => k_is)
    (case d_pair => k_is)
    (case d_fst => k_is)
    (case d_not => k_is)
    (case gMS => k_is)
    (case z_len => k_is)
    (case z_tuple => k_is)
    (case z_sorted => k_is)
    (case z_list => k_is)
    (case z_abs => k_is)
    (case z_int => k_is)
    (case z_range => k_is)
    (case z_isinstance => k_is)
    (case z_sum => k_is)
    (case z_zip => k_is)
    (case z_max => k_is)
    (case z_str => k_is)
#print axioms PySem.Challenge.cw_askedfor_k09_large_types_holds

