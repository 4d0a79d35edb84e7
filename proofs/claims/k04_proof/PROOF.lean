import PyProof.Rows.All
import Wide.All
import OpenK.AllK
import Wide.FinOn
import HandS.ForMost
import HandS.SetKeys
import HandS.More
import HandS.Conv
import HandS.Wide
import HandS.EndBits
import HandS.IsInst
import HandS.Flow
import PySem.Challenge.RW_askedfor_k04_least_rows
set_option Elab.async false
set_option linter.all false
namespace Km
open PySem PySem.Spec L2 PyProof.Rows
/-! ### order of texts -/
theorem lt_tr : ∀ {a b c : List Nat}, ltCps b a = false → ltCps c b = false → ltCps c a = false
  | [], [], [], _, _ => rfl
  | [], [], _ :: _, _, h => by simp [ltCps] at h ⊢
  | [], _ :: _, [], _, h => by simp [ltCps] at h
  | [], _ :: _, _ :: _, _, _ => by simp [ltCps]
  | _ :: _, [], [], h, _ => by simp [ltCps] at h
  | _ :: _, [], _ :: _, h, _ => by simp [ltCps] at h
  | _ :: _, _ :: _, [], _, h => by simp [ltCps] at h
  | x :: xs, y :: ys, z :: zs, h, h' => by
    simp only [ltCps, Bool.or_eq_false_iff, Bool.and_eq_false_iff, decide_eq_false_iff_not, beq_eq_false_iff_ne] at h h' ⊢
    obtain ⟨h1, h2⟩ := h
    obtain ⟨h3, h4⟩ := h'
    refine ⟨by omega, ?_⟩
    by_cases e : z = x
    · right
      have e1 : y = x := by omega
      have e2 : z = y := by omega
      exact lt_tr (h2.resolve_left fun q => q e1) (h4.resolve_left fun q => q e2)
    · exact .inl e
theorem lt_anti : ∀ {a b : List Nat}, ltCps a b = false → ltCps b a = false → a = b
  | [], [], _, _ => rfl
  | [], _ :: _, h, _ => by simp [ltCps] at h
  | _ :: _, [], _, h => by simp [ltCps] at h
  | x :: xs, y :: ys, h, h' => by
    simp only [ltCps, Bool.or_eq_false_iff, Bool.and_eq_false_iff, decide_eq_false_iff_not, beq_eq_false_iff_ne] at h h'
    obtain ⟨h1, h2⟩ := h
    obtain ⟨h3, h4⟩ := h'
    have e : x = y := by omega
    rw [e, lt_anti (h2.resolve_left fun q => q e) (h4.resolve_left fun q => q e.symm)]
def leS (a b : Str) : Prop := ltCps b.cps.toList a.cps.toList = false
theorem leS_tr {a b c : Str} (h : leS a b) (h' : leS b c) : leS a c := lt_tr h h'
theorem leS_anti {a b : Str} (h : leS a b) (h' : leS b a) : a = b := by
  have e : a.cps.toList = b.cps.toList := lt_anti h' h
  cases a
  cases b
  have e2 := congrArg List.toArray e
  simpa using e2
theorem rising_pw : ∀ {l : List Str} {p : Str}, risingS p l = true → (p :: l).Pairwise leS
  | [], p, _ => by simp
  | x :: r, p, h => by
    unfold risingS at h
    rw [Bool.and_eq_true] at h
    have h1 : leS p x := by
      unfold leS
      simpa using h.1
    have ih := rising_pw h.2
    refine List.Pairwise.cons (fun y hy => ?_) ih
    rcases List.mem_cons.mp hy with e | e
    · rw [e]; exact h1
    · exact leS_tr h1 ((List.pairwise_cons.mp ih).1 y e)
theorem sorted_pw {l : List Str} (h : sortedS l = true) : l.Pairwise leS := by
  cases l with
  | nil => exact List.Pairwise.nil
  | cons x r => exact rising_pw h
theorem pw_uniq : ∀ {l m : List Str}, l.Pairwise leS → m.Pairwise leS → l.Nodup → m.Nodup → (∀ s, s ∈ l ↔ s ∈ m) → l = m
  | [], [], _, _, _, _, _ => rfl
  | [], y :: m, _, _, _, _, h => by have := (h y).mpr (List.mem_cons_self ..); cases this
  | x :: l, [], _, _, _, _, h => by have := (h x).mp (List.mem_cons_self ..); cases this
  | x :: l, y :: m, h1, h2, n1, n2, h => by
    have p1 := List.pairwise_cons.mp h1
    have p2 := List.pairwise_cons.mp h2
    have q1 := List.nodup_cons.mp n1
    have q2 := List.nodup_cons.mp n2
    have e : x = y := by
      rcases List.mem_cons.mp ((h x).mp (List.mem_cons_self ..)) with e | e
      · exact e
      · rcases List.mem_cons.mp ((h y).mpr (List.mem_cons_self ..)) with e' | e'
        · exact e'.symm
        · exact leS_anti (p1.1 y e') (p2.1 x e)
    subst e
    rw [pw_uniq p1.2 p2.2 q1.2 q2.2 fun s => ?_]
    constructor
    · intro hs
      rcases List.mem_cons.mp ((h s).mp (List.mem_cons_of_mem _ hs)) with e | e
      · subst e; exact absurd hs q1.1
      · exact e
    · intro hs
      rcases List.mem_cons.mp ((h s).mpr (List.mem_cons_of_mem _ hs)) with e | e
      · subst e; exact absurd hs q2.1
      · exact e
/-! ### what must be in a row -/
inductive Must (S : Nat → Str → Prop) (E : Nat → Nat → List Str → Prop) : Nat → Str → Prop where
  | base {i s} : S i s → Must S E i s
  | step {i j s w} : Must S E i s → E i j w → s ∉ w → Must S E j s
theorem Must.mono {S S' : Nat → Str → Prop} {E E' : Nat → Nat → List Str → Prop} (hS : ∀ i s, S i s → S' i s) (hE : ∀ i j w, E i j w → E' i j w) {i : Nat} {s : Str} (h : Must S E i s) : Must S' E' i s := by
  induction h with
  | base h => exact .base (hS _ _ h)
  | step _ h n ih => exact .step ih (hE _ _ _ h) n
/-- the rows are the least ones -/
structure Least (n : Nat) (M : Nat → Str → Prop) (rows : List (List Str)) : Prop where
  len : rows.length = n
  pw : ∀ (i : Nat) (r : List Str), rows[i]? = some r → r.Pairwise leS
  nd : ∀ (i : Nat) (r : List Str), rows[i]? = some r → r.Nodup
  mem : ∀ (i : Nat) (r : List Str), rows[i]? = some r → ∀ s, s ∈ r ↔ M i s
theorem Least.uniq {n : Nat} {M : Nat → Str → Prop} {r r' : List (List Str)} (a : Least n M r) (b : Least n M r') : r = r' := by
  apply List.ext_getElem? 
  intro i
  cases e : r[i]? with
  | none =>
    have h1 := List.getElem?_eq_none_iff.mp e
    rw [a.len] at h1
    exact (List.getElem?_eq_none_iff.mpr (by rw [b.len]; exact h1)).symm
  | some x =>
    have h1 := (List.getElem?_eq_some_iff.mp e).1
    rw [a.len] at h1
    have h2 : i < r'.length := by rw [b.len]; exact h1
    rw [List.getElem?_eq_getElem h2]
    congr 1
    exact pw_uniq (a.pw i x e) (b.pw i _ (List.getElem?_eq_getElem h2)) (a.nd i x e) (b.nd i _ (List.getElem?_eq_getElem h2)) fun s =>
      (a.mem i x e s).trans (b.mem i _ (List.getElem?_eq_getElem h2) s).symm
theorem Least.congr {n : Nat} {M M' : Nat → Str → Prop} {r : List (List Str)} (a : Least n M r) (h : ∀ i s, M i s ↔ M' i s) : Least n M' r :=
  ⟨a.len, a.pw, a.nd, fun i r e s => (a.mem i r e s).trans (h i s)⟩
end Km


set_option Elab.async false
set_option linter.all false
set_option maxRecDepth 100000
set_option maxHeartbeats 4000000
namespace Ka
open PySem PySem.Spec L2 PyProof.Rows Km
/-! ### the text by places -/
def topS (i : Nat) : Stmt := PySem.Challenge.pw_askedfor_k04_least_rows.main.body.getD i (.Pass ⟨0, 0, 0, 0⟩)
abbrev sInit : Stmt := inClass (topS 1) 0
abbrev sFresh : Stmt := inClass (topS 1) 1
abbrev sContain : Stmt := inClass (topS 1) 2
abbrev sFlow : Stmt := inClass (topS 1) 3
abbrev sSame : Stmt := inClass (topS 1) 4
abbrev sLeast : Stmt := inClass (topS 1) 5
abbrev sReached : Stmt := inClass (topS 1) 6
abbrev sState : Stmt := topS 3
abbrev sTake : Stmt := topS 4
abbrev sCond : Stmt := topS 5
abbrev sAdd : Stmt := topS 6
abbrev sMiss : Stmt := topS 7
abbrev sLLeast : Stmt := topS 8
abbrev sLaw : Stmt := topS 9
/-! ### changes of the heap -/
structure Ch (F : Addr → Prop) (H H' : Hp) : Prop where
  keep : ∀ a o, H a = some o → ¬ F a → H' a = some o
  tup : ∀ a xs, H a = some (HO.tup xs) → H' a = some (HO.tup xs)
  dom : ∀ a o, H a = some o → ∃ o', H' a = some o'
abbrev F0 : Addr → Prop := fun _ => False
theorem Ch.refl (F : Addr → Prop) (H : Hp) : Ch F H H where
  keep := fun _ _ h _ => h
  tup := fun _ _ h => h
  dom := fun _ o h => ⟨o, h⟩
theorem Ch.trans {F F1 : Addr → Prop} {H H1 H2 : Hp} (a : Ch F H H1) (b : Ch F1 H1 H2) (hF : ∀ x, F1 x → F x ∨ H x = none) : Ch F H H2 :=
  { keep := fun x o h n => b.keep x o (a.keep x o h n) fun f => (hF x f).elim n (fun e => (by rw [h] at e; cases e))
    tup := fun x xs h => b.tup x xs (a.tup x xs h)
    dom := fun x o h => let ⟨o', h'⟩ := a.dom x o h; b.dom x o' h' }
theorem Ch.trans0 {F : Addr → Prop} {H H1 H2 : Hp} (a : Ch F H H1) (b : Ch F0 H1 H2) : Ch F H H2 := a.trans b fun _ f => f.elim
theorem Ch.mono {F F1 : Addr → Prop} {H H1 : Hp} (a : Ch F H H1) (hF : ∀ x, F x → F1 x) : Ch F1 H H1 := ⟨fun x o h n => a.keep x o h fun f => n (hF x f), a.tup, a.dom⟩
theorem Ch.same {H H1 : Hp} (a : Ch F0 H H1) : Same H H1 := fun b o h => a.keep b o h fun f => f
theorem ch_of_same {F : Addr → Prop} {H H1 : Hp} (a : Same H H1) : Ch F H H1 := ⟨fun x o h _ => a x o h, fun x xs h => a x _ h, fun x o h => ⟨o, a x o h⟩⟩
theorem Ch.free {F : Addr → Prop} {H H1 : Hp} (a : Ch F H H1) {x : Addr} (h : H1 x = none) : H x = none := by
  cases e : H x with
  | none => rfl
  | some o =>
    obtain ⟨o', h'⟩ := a.dom x o e
    rw [h'] at h
    cases h
theorem same_new {H : Hp} {p : Addr} {o : HO} (h : H p = none) : Same H (upd H p o) := fun b x e => by
  rw [upd_ne (ne_of_none e h)]
  exact e
theorem ch_new {F : Addr → Prop} {H : Hp} {p : Addr} {o : HO} (h : H p = none) : Ch F H (upd H p o) := ch_of_same (same_new h)
theorem ch_at {F : Addr → Prop} {H : Hp} {p : Addr} {o u : HO} (h : H p = some u) (hn : ∀ xs, u ≠ HO.tup xs) (hF : F p) : Ch F H (upd H p o) :=
  ⟨fun b x e n => by rw [upd_ne fun q => n (by rw [q]; exact hF)]; exact e, fun b xs e => by rw [upd_ne fun q => hn xs (by rw [q, h] at e; exact Option.some.inj e)]; exact e,
   fun b x e => by
    by_cases q : b = p
    · exact ⟨o, by rw [q, upd_same]⟩
    · exact ⟨x, by rw [upd_ne q]; exact e⟩⟩
theorem same_upd_at {H0 H : Hp} {p : Addr} {o : HO} (s : Same H0 H) (h : H0 p = none) : Same H0 (upd H p o) := fun b x e => by
  rw [upd_ne (ne_of_none e h)]
  exact s b x e
/-! ### facts of the top that are shared -/
section
variable {P : Program} {w : World} {K : PySem.W.Frag} {mg : Str → Option Value} {base : Heap}
/-! ### the state -/
def Bits (z : Int) : Prop := 0 ≤ z
def StAt (H : Hp) (s c : Addr) : Prop := ∃ (i : Int) (cs : List Int), H s = some (.lst [.int i, .ref c]) ∧ H c = some (.lst (cs.map V.int)) ∧ cs ≠ [] ∧ cs.length ≤ 63 ∧ ∀ z ∈ cs, Bits z
abbrev Fst (s c : Addr) : Addr → Prop := fun a => a = s ∨ a = c
theorem StAt.stay {F : Addr → Prop} {H H' : Hp} {s c : Addr} (h : StAt H s c) (k : Ch F H H') (hs : ¬ F s) (hc : ¬ F c) : StAt H' s c := by
  obtain ⟨i, cs, h1, h2, h3⟩ := h
  exact ⟨i, cs, k.keep _ _ h1 hs, k.keep _ _ h2 hc, h3⟩
def spTake : Sp := fun vs H Q _ => ∃ (s c : Addr) (m : Int), vs = [.ref s, .int m] ∧ 0 < m ∧ m < 1073741824 ∧ StAt H s c ∧
  ∀ (H' : Hp) (v : Int), StAt H' s c → Ch (Fst s c) H H' → 0 ≤ v → v < m → Q (.int v) H'
theorem scTake : FnScope ["_law_state_here", "_law_most", "_law_cells", "_law_at", "_law_cell", "_law_mixed"] ["_law_state_here", "_law_most"] (defScope sTake) := ⟨rfl, rfl, rfl, by decide +kernel, rfl, by decide +kernel, by decide +kernel⟩
theorem fdiv_bits {z m : Int} (h : Bits z) (hm : 0 < m) : Bits (z / m) := by
  exact Int.ediv_nonneg h (by omega)
theorem set_map {cs : List Int} {j : Nat} {z : Int} : (cs.map V.int).set j (.int z) = (cs.set j z).map V.int := by
  rw [List.map_set]
theorem st_ne {i : Int} {c : Addr} {cs : List Int} : HO.lst [V.int i, V.ref c] ≠ HO.lst (cs.map V.int) := by
  intro q
  have q2 := HO.lst.inj q
  cases cs with
  | nil => cases q2
  | cons x r =>
    cases r with
    | nil => simp at q2
    | cons y r => simp at q2
theorem ok_take {f : Addr} {fd : FuncData} (F : Fun K "_law_take" "_law_take" sTake f fd) (ml : mg "len" = none) (mi : mg "int" = none) : FnOk P w K mg base CX0 1 f fd ["_law_state_here", "_law_most"] spTake := by
  refine F.ok scTake (fun vs H Q E h => ?_) (fun cdv A outer s H vs Q E hr h => ?_)
  · obtain ⟨s, c, m, rfl, _⟩ := h
    rfl
  · obtain ⟨a, c, m, rfl, hm0, hm1, ⟨i, cs, hs, hc, hne, hlen, hb⟩, k⟩ := h
    refine ⟨_, pss_cons (ps_set (i := 2) scTake.nd rfl (Or.inl rfl) (pe_ix ix_list (pv 0) pe_int (fun _ _ => rfl)))
      (pss_cons (ps_set (i := 3) scTake.nd rfl (Or.inl rfl) (pe_op op_mod (pe_ix ix_list (pv 0) pe_int (fun _ _ => rfl)) (pe_callB call_len_seq (by rfl) ml PySem.boot_len (pa_cons (pv 2) pa_nil))))
      (pss_cons (ps_set (i := 4) scTake.nd rfl (Or.inl rfl) (pe_ix ix_list (pv 2) (pv 3) (fun _ _ => rfl)))
      (pss_cons (ps_if (pt_cmpR op_ge (pv 4) pe_int (nomark _))
        (pss_cons (ps_asg (pe_op op_fdivW (pv 4) (pv 1)) (pg_sub (pv 2) (pv 3) set_list))
          (pss_one (ps_ret (pe_op op_mod (pv 4) (pv 1))))) pss_nil)
      (pss_cons (ps_asg (pe_op op_add (pe_ix ix_list (pv 0) pe_int (fun _ _ => rfl)) pe_int) (pg_sub (pv 0) pe_int set_list))
      (pss_cons (ps_set (i := 5) scTake.nd rfl (Or.inl rfl) (pe_op op_mod (pe_callTy call_int1 (by rfl) mi (by decide +kernel) (pa_cons (pe_op op_add (pe_op op_mul (pv 4) pe_int) (pe_op op_mul (pe_ix ix_list (pv 0) pe_int (fun _ _ => rfl)) pe_int)) pa_nil)) pe_int))
      (pss_cons (ps_set (i := 5) scTake.nd rfl (Or.inl rfl) (pe_op op_mod (pe_callTy call_int1 (by rfl) mi (by decide +kernel) (pa_cons (pe_op op_add (pe_op op_mul (pv 5) pe_int) (pe_op op_mul (pe_ix ix_list (pv 0) pe_int (fun _ _ => rfl)) pe_int)) pa_nil)) pe_int))
      (pss_one (ps_ret (pe_op op_mod (pe_op op_fdivW (pv 5) pe_int) (pv 1)))))))))), ?_⟩
    have hcl : 0 < cs.length := by
      cases cs with
      | nil => exact absurd rfl hne
      | cons x r => exact Nat.succ_pos _
    -- cells = state[1]
    refine ⟨_, rfl, a, _, 1, _, rfl, rfl, SqL.of hs, atI_nat (j := 1) rfl, ?_⟩
    -- at = state[0] % len(cells)
    refine ⟨_, rfl, a, _, 0, _, rfl, rfl, SqL.of hs, atI_nat (j := 0) rfl, _, rfl, c, _, rfl, .inl (SqL.of hc), i, (cs.length : Int), rfl, (by rw [List.length_map]), (by omega), ?_⟩
    have r0 : 0 ≤ i % (cs.length : Int) := Int.emod_nonneg i (by omega)
    have r1 : i % (cs.length : Int) < (cs.length : Int) := Int.emod_lt_of_pos i (by omega)
    obtain ⟨j, hj⟩ : ∃ j : Nat, i % (cs.length : Int) = (j : Int) := ⟨(i % (cs.length : Int)).toNat, by omega⟩
    rw [hj] at r0 r1
    show gName 3 (.int (i % (cs.length : Int))) _ _ _
    rw [hj]
    have hjl : j < cs.length := by omega
    have hat : (cs.map V.int)[j]? = some (.int cs[j]) := by
      rw [List.getElem?_map, List.getElem?_eq_getElem hjl]
      rfl
    have hz : Bits cs[j] := hb _ (List.getElem_mem hjl)
    generalize cs[j] = z at hat hz
    -- cell = cells[at]
    refine ⟨_, rfl, _, rfl, c, _, _, _, rfl, rfl, SqL.of hc, atI_nat hat, ?_⟩
    -- if cell >= 10 ** 18
    refine ⟨_, rfl, _, _, rfl, rfl, _, rfl, ite2 (fun h => ?_) (fun h => ?_)⟩
    · have ac : a ≠ c := ne_of hs hc st_ne
      have hix : ixN (cs.map V.int).length (j : Int) = some j := by
        unfold ixN
        rw [List.length_map, if_pos (by omega), if_pos (by omega)]
        rfl
      refine ⟨_, rfl, _, rfl, _, _, rfl, rfl, wide_div (b := 30) hm0 (by omega) (by decide) (by decide), _, rfl, _, rfl, c, _, _, j, rfl, rfl, hc, hix, ?_⟩
      · refine ⟨_, rfl, _, rfl, _, _, rfl, rfl, by omega, ?_⟩
        refine k _ _ ⟨i, cs.set j (z / m), by rw [upd_ne ac]; exact hs, by rw [upd_same, set_map], ?_, ?_, ?_⟩ (ch_at hc (by intro xs q; cases q) (.inr rfl)) (Int.emod_nonneg _ (by omega)) (Int.emod_lt_of_pos _ hm0)
        · intro q
          have := congrArg List.length q
          rw [List.length_set] at this
          exact hne (List.length_eq_zero_iff.mp this)
        · rw [List.length_set]; exact hlen
        · intro y hy
          rcases List.mem_or_eq_of_mem_set hy with q | q
          · exact hb y q
          · rw [q]; exact fdiv_bits hz hm0
    · have hz1 : z < 1000000000000000000 := by
        have h2 : ¬ (decide ((1000000000000000000 : Int) ≤ z) = true) := h
        rw [decide_eq_true_eq] at h2
        omega
      have hz0 : 0 ≤ z := hz
      have ac : c ≠ a := (ne_of hs hc st_ne).symm
      -- state[0] = state[0] + 1
      refine ⟨_, rfl, a, _, 0, _, rfl, rfl, SqL.of hs, atI_nat (j := 0) rfl, _, _, rfl, rfl, _, rfl, a, _, _, 0, rfl, rfl, hs, rfl, ?_⟩
      have hs' : (upd H a (.lst [V.int (i + 1), V.ref c])) a = some (.lst [V.int (i + 1), V.ref c]) := upd_same
      -- mixed, twice
      refine ⟨_, rfl, _, _, rfl, rfl, .inl ⟨by omega, by omega⟩, _, rfl, a, _, 0, _, rfl, rfl, SqL.of hs', atI_nat (j := 0) rfl, _, _, rfl, rfl, .inr ⟨by decide, by decide⟩, _, _, rfl, rfl, .inl ⟨_, rfl, _, _, rfl, rfl, (by show (0 : Int) < 2147483647; decide), ?_⟩⟩
      have b1 : 0 ≤ (z * 48271 + (i + 1) * 69621) % 2147483647 := Int.emod_nonneg _ (by decide)
      have b2 : (z * 48271 + (i + 1) * 69621) % 2147483647 < 2147483647 := Int.emod_lt_of_pos _ (by decide)
      show gName 5 (.int ((z * 48271 + (i + 1) * 69621) % 2147483647)) _ _ _
      generalize (z * 48271 + (i + 1) * 69621) % 2147483647 = y at b1 b2
      refine ⟨_, rfl, _, _, rfl, rfl, .inl ⟨by omega, by omega⟩, _, rfl, a, _, 0, _, rfl, rfl, SqL.of hs', atI_nat (j := 0) rfl, _, _, rfl, rfl, .inr ⟨by decide, by decide⟩, _, _, rfl, rfl, .inl ⟨_, rfl, _, _, rfl, rfl, (by show (0 : Int) < 1000000007; decide), ?_⟩⟩
      refine ⟨_, rfl, _, _, rfl, rfl, ⟨by decide, by decide⟩, _, rfl, _, _, rfl, rfl, hm0, ?_⟩
      exact k _ _ ⟨i + 1, cs, hs', by rw [upd_ne ac]; exact hc, hne, hlen, hb⟩ (ch_at hs (by intro xs q; cases q) (.inl rfl)) (Int.emod_nonneg _ (by omega)) (Int.emod_lt_of_pos _ hm0)
end
end Ka


set_option Elab.async false
set_option linter.all false
set_option maxRecDepth 100000
set_option maxHeartbeats 4000000
namespace Ka
open PySem PySem.Spec L2 PyProof.Rows Km
section
variable {P : Program} {w : World} {K : PySem.W.Frag} {mg : Str → Option Value} {base : Heap}
theorem cut63 {xs : List V} (h : xs.length ≤ 63) : cutV xs none (some 63) = xs := by
  unfold cutV
  rw [HT.sIx_none, show HT.sIx xs.length xs.length (some 63) = min 63 xs.length from HT.sIx_nat xs.length _ 63, Nat.min_eq_right h]
  simp
theorem abs_bits {z : Int} : Bits (if z < 0 then -z else z) := by
  show 0 ≤ (if z < 0 then -z else z)
  split <;> omega
def spState (K : PySem.W.Frag) : Sp := fun vs H Q _ => ∃ (a : Addr) (ns : List Int), vs = [.ref a] ∧ SqL K H a (ns.map V.int) ∧ ns.length ≤ 63 ∧
  ∀ (H' : Hp) (s c : Addr), StAt H' s c → Same H H' → H s = none → H c = none → Q (.ref s) H'
theorem scState : FnScope ["_law_script", "_law_cells", "_law_cell"] ["_law_script"] (defScope sState) := ⟨rfl, rfl, rfl, by decide +kernel, rfl, by decide +kernel, by decide +kernel⟩
theorem ok_state {f : Addr} {fd : FuncData} (F : Fun K "_law_state" "_law_state" sState f fd) (ml : mg "len" = none) (ma : mg "abs" = none) : FnOk P w K mg base CX0 1 f fd ["_law_script"] (spState K) := by
  refine F.ok scState (fun vs H Q E h => ?_) (fun cdv A outer s H vs Q E hr h => ?_)
  · obtain ⟨a, ns, rfl, _⟩ := h
    rfl
  · obtain ⟨a, ns, rfl, hS, hlen, k⟩ := h
    refine ⟨_, pss_cons (ps_setLc (i := 1) (own := [("_law_cell", 2)]) (g := gName 2) (tt := tYes) rfl scState.nd rfl rfl (sw_true rfl rfl rfl (by decide +kernel)) (pi_list (pe_slice sl_list (pv 0) po_none (po_some pe_int)))
        (blkOk_by (N := ["_law_script", "_law_cells", "_law_cell"]) (sc := defScope sState) (by decide +kernel)) (fun _ _ _ _ _ => pg_name (i := 2) scState.nd rfl (Or.inl rfl)) (fun _ _ _ _ _ => pts_nil)
        (fun _ _ _ _ _ => pe_callB call_abs (by rfl) ma (by decide +kernel) (pa_cons (pv 2) pa_nil)))
      (pss_cons (ps_if (pt_cmpR op_eq (pe_callB call_len_seq (by rfl) ml PySem.boot_len (pa_cons (pv 1) pa_nil)) pe_int (nomark _))
        (pss_one (ps_set (i := 1) scState.nd rfl (Or.inl rfl) (pe_lst (pa_cons pe_int pa_nil)))) pss_nil)
      (pss_one (ps_ret (pe_lst (pa_cons pe_int (pa_cons (pv 1) pa_nil)))))), ?_⟩
    -- script[:63]
    refine ⟨_, rfl, 63, rfl, a, ns.map V.int, rfl, hS, fun p np => ?_⟩
    have ec : cutV (ns.map V.int) none (some 63) = ns.map V.int := cut63 (by rw [List.length_map]; exact hlen)
    have s1 : Same H (upd H p (.lst (cutV (ns.map V.int) none (some 63)))) := same_new np
    refine ⟨p, rfl, ⟨_, SqL.of upd_same⟩, fun D hD => ?_⟩
    have nDp : D ≠ p := fun q => by
      rw [q, upd_same] at hD
      cases hD
    have hD0 : H D = none := s1.free hD
    refine lc_list (K := K) (a := p) (xs := ns.map V.int) (fun i H2 => Same H H2 ∧ H2 p = some (.lst (ns.map V.int)) ∧ H2 D = some (.lst (((ns.take i).map fun z : Int => if z < 0 then -z else z).map V.int))) ⟨?_, ?_, ?_⟩ (fun i H2 _ q => SqL.of q.2.1) ?_ ?_
    · exact s1.trans (same_new hD)
    · rw [upd_ne nDp.symm, upd_same, ec]
    · rw [upd_same]
      rfl
    · rintro i x H2 hi ⟨q1, q2, q3⟩
      rw [List.getElem?_map] at hi
      cases e : ns[i]? with
      | none =>
        rw [e] at hi
        cases hi
      | some z =>
        rw [e] at hi
        obtain rfl : V.int z = x := Option.some.inj hi
        refine ⟨rfl, _, rfl, z, rfl, _, q3, ?_, ?_, ?_, ?_⟩
        · rw [List.length_map, List.length_map, List.length_take]
          exact Nat.lt_of_le_of_lt (Nat.min_le_left _ _) (small1000 (by have := (List.getElem?_eq_some_iff.mp e).1; omega))
        · exact fun b o h => by
            rw [upd_ne (ne_of_none h hD0)]
            exact q1 b o h
        · rw [upd_ne nDp.symm]
          exact q2
        · rw [upd_same, List.take_add_one, e, List.map_append, List.map_append]
          rfl
    · rintro H2 ⟨q1, q2, q3⟩
      rw [List.length_map, List.take_length] at q3
      -- if len(cells) == 0
      refine ⟨_, rfl, D, _, rfl, .inl (SqL.of q3), rfl, _, rfl, ite2 (fun e => ?_) (fun e => ?_)⟩
      · refine ⟨by decide, fun c hc => ?_⟩
        refine ⟨_, rfl, by show 2 ≤ sizeLine; decide, fun s hs => ?_⟩
        refine k _ s c ⟨0, [0], upd_same, ?_, by decide, by decide, ?_⟩ ?_ ?_ ?_
        · rw [upd_ne fun q => ?_, upd_same]
          · rfl
          · rw [q, upd_same] at hs
            cases hs
        · intro z hz
          rw [List.mem_singleton.mp hz]
          exact Int.le_refl _
        · exact (q1.trans (same_new hc)).trans (same_new hs)
        · exact (q1.trans (same_new hc)).free hs
        · exact q1.free hc
      · refine ⟨_, rfl, by show 2 ≤ sizeLine; decide, fun s hs => ?_⟩
        have e0 : ns ≠ [] := fun q => by
          subst q
          exact e (decide_eq_true rfl)
        refine k _ s D ⟨0, ns.map fun z : Int => if z < 0 then -z else z, upd_same, ?_, ?_, ?_, ?_⟩ (q1.trans (same_new hs)) (q1.free hs) hD0
        · rw [upd_ne (ne_of_none q3 hs)]
          exact q3
        · intro q
          exact e0 (List.map_eq_nil_iff.mp q)
        · rw [List.length_map]; exact hlen
        · intro y hy
          obtain ⟨z, hz, rfl⟩ := List.mem_map.mp hy
          exact abs_bits
end
end Ka


set_option Elab.async false
set_option linter.all false
set_option maxRecDepth 100000
set_option maxHeartbeats 4000000
namespace Ka
open PySem PySem.Spec L2 PyProof.Rows Km
/-! ### pairs of lists, by their places -/
theorem pr_get {α β : Type} {R : α → β → Prop} : ∀ {as : List α} {bs : List β} {i : Nat} {a : α}, Paired R as bs → as[i]? = some a → ∃ b, bs[i]? = some b ∧ R a b
  | _, _, i, a, .nil, h => by simp at h
  | _, _, 0, a, .cons (b := b) h1 _, h => ⟨b, rfl, by have e := Option.some.inj h; rw [← e]; exact h1⟩
  | _, _, i + 1, a, .cons _ t, h => by
    obtain ⟨b, hb, r⟩ := pr_get (i := i) t (by simpa using h)
    exact ⟨b, by simpa using hb, r⟩
theorem pr_get' {α β : Type} {R : α → β → Prop} : ∀ {as : List α} {bs : List β} {i : Nat} {b : β}, Paired R as bs → bs[i]? = some b → ∃ a, as[i]? = some a ∧ R a b
  | _, _, i, b, .nil, h => by simp at h
  | _, _, 0, b, .cons (a := a) h1 _, h => ⟨a, rfl, by have e := Option.some.inj h; rw [← e]; exact h1⟩
  | _, _, i + 1, b, .cons _ t, h => by
    obtain ⟨a, ha, r⟩ := pr_get' (i := i) t (by simpa using h)
    exact ⟨a, by simpa using ha, r⟩
theorem pr_ix {α β : Type} {R : α → β → Prop} : ∀ {as : List α} {bs : List β}, as.length = bs.length → (∀ (i : Nat) a b, as[i]? = some a → bs[i]? = some b → R a b) → Paired R as bs
  | [], [], _, _ => .nil
  | [], _ :: _, h, _ => by simp at h
  | _ :: _, [], h, _ => by simp at h
  | a :: as, b :: bs, h, k => .cons (k 0 a b rfl rfl) (pr_ix (by simpa using h) fun i x y hx hy => k (i + 1) x y (by simpa using hx) (by simpa using hy))
theorem pr_both {α β : Type} {R : α → β → Prop} {as : List α} {bs : List β} {i : Nat} {a : α} {b : β} (h : Paired R as bs) (ha : as[i]? = some a) (hb : bs[i]? = some b) : R a b := by
  obtain ⟨b', e, r⟩ := pr_get h ha
  rw [hb] at e
  rw [Option.some.inj e]
  exact r
theorem pr_mono {α β : Type} {R R' : α → β → Prop} {as : List α} {bs : List β} (h : Paired R as bs) (k : ∀ a b, a ∈ as → b ∈ bs → R a b → R' a b) : Paired R' as bs :=
  pr_ix h.length fun i a b ha hb => k a b (List.mem_of_getElem? ha) (List.mem_of_getElem? hb) (pr_both h ha hb)
theorem pr_set {α β : Type} {R R' : α → β → Prop} {as : List α} {bs : List β} {i : Nat} {a : α} {y : β} (h : Paired R as bs) (hn : as.Nodup) (ha : as[i]? = some a) (hy : R' a y) (k : ∀ x b, x ≠ a → R x b → R' x b) : Paired R' as (bs.set i y) := by
  refine pr_ix (by rw [List.length_set]; exact h.length) fun j x b hx hb => ?_
  by_cases e : i = j
  · subst e
    rw [ha] at hx
    cases Option.some.inj hx
    have hl : i < bs.length := by
      rw [← h.length]
      exact (List.getElem?_eq_some_iff.mp ha).1
    rw [List.getElem?_set_self hl] at hb
    cases Option.some.inj hb
    exact hy
  · rw [List.getElem?_set_ne e] at hb
    refine k x b (fun q => e ?_) (pr_both h hx hb)
    subst q
    exact nd_ix hn ha hx
/-! ### a list of lists -/
structure LL (H : Hp) (L : Addr) (as : List Addr) (xss : List (List V)) : Prop where
  nd : (L :: as).Nodup
  top : H L = some (HO.lst (as.map V.ref))
  its : Paired (fun a xs => H a = some (HO.lst xs)) as xss
theorem LL.stay {F : Addr → Prop} {H H' : Hp} {L : Addr} {as : List Addr} {xss : List (List V)} (h : LL H L as xss) (k : Ch F H H') (n : ∀ a, a ∈ L :: as → ¬ F a) : LL H' L as xss :=
  ⟨h.nd, k.keep _ _ h.top (n _ (List.mem_cons_self ..)), pr_mono h.its fun a b ha _ r => k.keep _ _ r (n a (List.mem_cons_of_mem _ ha))⟩
theorem LL.set {H : Hp} {L a : Addr} {as : List Addr} {xss : List (List V)} {i : Nat} {ys : List V} (h : LL H L as xss) (ha : as[i]? = some a) : LL (upd H a (.lst ys)) L as (xss.set i ys) := by
  have n := List.nodup_cons.mp h.nd
  refine ⟨h.nd, ?_, pr_set h.its n.2 ha upd_same fun x b hx r => by rw [upd_ne hx]; exact r⟩
  rw [upd_ne fun q => n.1 (by rw [q]; exact List.mem_of_getElem? ha)]
  exact h.top
theorem LL.tracked {H : Hp} {L : Addr} {as : List Addr} {xss : List (List V)} (h : LL H L as xss) {a : Addr} (ha : a ∈ L :: as) : ∃ xs, H a = some (HO.lst xs) := by
  rcases List.mem_cons.mp ha with e | e
  · exact ⟨_, by rw [e]; exact h.top⟩
  · obtain ⟨i, hi⟩ := List.getElem?_of_mem e
    obtain ⟨b, _, r⟩ := pr_get h.its hi
    exact ⟨b, r⟩
theorem LL.push {H : Hp} {L q : Addr} {as : List Addr} {xss : List (List V)} {ys : List V} (h : LL H L as xss) (hq : H q = none) : LL (upd (upd H q (.lst ys)) L (.lst (as.map V.ref ++ [V.ref q]))) L (as ++ [q]) (xss ++ [ys]) := by
  have n := List.nodup_cons.mp h.nd
  have qn : q ∉ L :: as := fun m => by
    obtain ⟨xs, e⟩ := h.tracked m
    rw [hq] at e
    cases e
  have qL : q ≠ L := fun e => qn (by rw [e]; exact List.mem_cons_self ..)
  refine ⟨?_, ?_, ?_⟩
  · refine List.nodup_cons.mpr ⟨fun m => ?_, ?_⟩
    · rcases List.mem_append.mp m with m | m
      · exact n.1 m
      · exact qL (List.mem_singleton.mp m).symm
    · exact List.nodup_append.mpr ⟨n.2, by simp, fun x hx y hy e => qn (by rw [List.mem_singleton.mp hy] at e; rw [← e]; exact List.mem_cons_of_mem _ hx)⟩
  · rw [upd_same, List.map_append]
    rfl
  · refine Paired.snoc (pr_mono h.its fun a b ha _ r => ?_) ?_
    · rw [upd_ne fun e => n.1 (by rw [← e]; exact ha), upd_ne (ne_of_none r hq)]
      exact r
    · rw [upd_ne qL, upd_same]
/-! ### the rows -/
abbrev nv (n : Nat) : V := .int (n : Int)
def FlowAt (H : Hp) (v : V) (f : Nat × List Str) : Prop := ∃ t u, v = .ref t ∧ H t = some (HO.tup [nv f.1, .ref u]) ∧ H u = some (HO.tup (f.2.map V.str))
theorem FlowAt.stay {F : Addr → Prop} {H H' : Hp} {v : V} {f : Nat × List Str} (h : FlowAt H v f) (k : Ch F H H') : FlowAt H' v f := by
  obtain ⟨t, u, e, h1, h2⟩ := h
  exact ⟨t, u, e, k.tup _ _ h1, k.tup _ _ h2⟩
def pf (l d : Addr) : List (Str × V) := putF "holders" (.ref d) (putF "targets" (.ref l) [])
theorem th_ : ¬ (("targets" : Str) = "holders") := by decide +kernel
theorem ht_ : ¬ (("holders" : Str) = "targets") := by decide +kernel
theorem pf_targets (l d : Addr) : (pf l d).lookup ("targets" : Str) = some (.ref l) := by
  unfold pf
  rw [lookup_putF, if_neg th_, lookup_putF, if_pos rfl]
theorem pf_holders (l d : Addr) : (pf l d).lookup ("holders" : Str) = some (.ref d) := by
  unfold pf
  rw [lookup_putF, if_pos rfl]
theorem pf_no (l d : Addr) {m : Str} (h1 : ¬ m = "holders") (h2 : ¬ m = "targets") : (pf l d).lookup m = none := by
  unfold pf
  rw [lookup_putF, if_neg h1, lookup_putF, if_neg h2]
  all_goals rfl
def kvD (D : List (Str × Addr)) : List (Key × V) := D.map fun e => (Sum.inr e.1, V.ref e.2)
def HoldAt (H : Hp) (e : Str × Addr) (h : Str × List Nat) : Prop := e.1 = h.1 ∧ H e.2 = some (HO.lst (h.2.map nv))
/-- what the rows hold: their lists, and what they say -/
structure RwIn (C : Addr) (H : Hp) (p dx lt ld : Addr) (as : List Addr) (vss : List (List V)) (D : List (Str × Addr)) (ts : List (List (Nat × List Str))) (hs : List (Str × List Nat)) : Prop where
  ins : H p = some (HO.ins C dx (pf lt ld))
  ll : LL H lt as vss
  fl : Paired (fun vs fs => Paired (FlowAt H) vs fs) vss ts
  dic : H ld = some (HO.dK (kvD D))
  hol : Paired (HoldAt H) D hs
  keys : (D.map (·.1)).Nodup
  adr : (D.map (·.2)).Nodup
  off : ∀ a, a ∈ D.map (·.2) → a ∉ lt :: as
structure RwMath (ts : List (List (Nat × List Str))) (hs : List (Str × List Nat)) (n : Nat) (S : Nat → Str → Prop) (E : Nat → Nat → List Str → Prop) (B : Nat) : Prop where
  hn : ts.length = n
  hS : ∀ i s, S i s ↔ ∃ is, (s, is) ∈ hs ∧ i ∈ is
  hE : ∀ i j w, E i j w ↔ ∃ fs, ts[i]? = some fs ∧ (j, w) ∈ fs
  hSn : ∀ i s, S i s → i < n
  hEn : ∀ i j w, E i j w → j < n
  bt : ∀ fs ∈ ts, fs.length ≤ B
  bh : hs.length ≤ B
  bi : ∀ h ∈ hs, h.2.length ≤ B
abbrev FRw (p lt ld : Addr) (as : List Addr) (D : List (Str × Addr)) : Addr → Prop := fun a => a = p ∨ a = ld ∨ a ∈ lt :: as ∨ a ∈ D.map (·.2)
def RwAt (C : Addr) (H : Hp) (p : Addr) (n : Nat) (S : Nat → Str → Prop) (E : Nat → Nat → List Str → Prop) (B : Nat) (F : Addr → Prop) : Prop :=
  ∃ dx lt ld as vss D ts hs, RwIn C H p dx lt ld as vss D ts hs ∧ RwMath ts hs n S E B ∧ F = FRw p lt ld as D
theorem RwIn.tracked {C : Addr} {H : Hp} {p dx lt ld : Addr} {as : List Addr} {vss : List (List V)} {D : List (Str × Addr)} {ts : List (List (Nat × List Str))} {hs : List (Str × List Nat)} (h : RwIn C H p dx lt ld as vss D ts hs) {a : Addr} (m : FRw p lt ld as D a) : ∃ o, H a = some o ∧ ∀ xs, o ≠ HO.tup xs := by
  rcases m with e | e | e | e
  · exact ⟨_, by rw [e]; exact h.ins, fun xs q => by cases q⟩
  · exact ⟨_, by rw [e]; exact h.dic, fun xs q => by cases q⟩
  · obtain ⟨xs, r⟩ := h.ll.tracked e
    exact ⟨_, r, fun xs q => by cases q⟩
  · obtain ⟨d, hd, rfl⟩ := List.mem_map.mp e
    obtain ⟨i, hi⟩ := List.getElem?_of_mem hd
    obtain ⟨b, _, r⟩ := pr_get h.hol hi
    exact ⟨_, r.2, fun xs q => by cases q⟩
theorem RwAt.tracked {C : Addr} {H : Hp} {p : Addr} {n : Nat} {S : Nat → Str → Prop} {E : Nat → Nat → List Str → Prop} {B : Nat} {F : Addr → Prop} (h : RwAt C H p n S E B F) {a : Addr} (m : F a) : ∃ o, H a = some o ∧ ∀ xs, o ≠ HO.tup xs := by
  obtain ⟨dx, lt, ld, as, vss, D, ts, hs, hi, _, rfl⟩ := h
  exact hi.tracked m
theorem RwIn.stay {F : Addr → Prop} {C : Addr} {H H' : Hp} {p dx lt ld : Addr} {as : List Addr} {vss : List (List V)} {D : List (Str × Addr)} {ts : List (List (Nat × List Str))} {hs : List (Str × List Nat)} (h : RwIn C H p dx lt ld as vss D ts hs) (k : Ch F H H') (n : ∀ a, FRw p lt ld as D a → ¬ F a) : RwIn C H' p dx lt ld as vss D ts hs where
  ins := k.keep _ _ h.ins (n _ (.inl rfl))
  ll := h.ll.stay k fun a ha => n a (.inr (.inr (.inl ha)))
  fl := pr_mono h.fl fun vs fs _ _ r => pr_mono r fun v f _ _ r => r.stay k
  dic := k.keep _ _ h.dic (n _ (.inr (.inl rfl)))
  hol := pr_mono h.hol fun e b he _ r => ⟨r.1, k.keep _ _ r.2 (n _ (.inr (.inr (.inr (List.mem_map_of_mem he)))))⟩
  keys := h.keys
  adr := h.adr
  off := h.off
theorem RwAt.stay {F F' : Addr → Prop} {C : Addr} {H H' : Hp} {p : Addr} {n : Nat} {S : Nat → Str → Prop} {E : Nat → Nat → List Str → Prop} {B : Nat} (h : RwAt C H p n S E B F) (k : Ch F' H H') (d : ∀ a, F a → ¬ F' a) : RwAt C H' p n S E B F := by
  obtain ⟨dx, lt, ld, as, vss, D, ts, hs, hi, hm, rfl⟩ := h
  exact ⟨dx, lt, ld, as, vss, D, ts, hs, hi.stay k d, hm, rfl⟩
end Ka


set_option Elab.async false
set_option linter.all false
set_option maxRecDepth 100000
set_option maxHeartbeats 4000000
namespace Ka
open PySem PySem.Spec L2 PyProof.Rows Km
structure Txt (K : PySem.W.Frag) (mg : Str → Option Value) (C : Addr) : Prop where
  cl : Cls K C
  nT : NoAttr K C "targets"
  nH : NoAttr K C "holders"
  mgC : mg "Rows" = some (.ref C)
  len : mg "len" = none
  tup : mg "tuple" = none
  srt : mg "sorted" = none
  lst : mg "list" = none
abbrev NoS : Nat → Str → Prop := fun _ _ => False
abbrev NoE : Nat → Nat → List Str → Prop := fun _ _ _ => False
/-- an operation's way out: the rows changed, all else as it was -/
def RwOut (C : Addr) (H : Hp) (p : Addr) (n : Nat) (S : Nat → Str → Prop) (E : Nat → Nat → List Str → Prop) (B : Nat) (F : Addr → Prop) (Q : Hp → Prop) : Prop :=
  ∀ (H' : Hp) (F' : Addr → Prop), RwAt C H' p n S E B F' → Ch F H H' → (∀ a, F' a → F a ∨ H a = none) → Q H'
def spInit (C : Addr) : Sp := fun vs H Q _ => ∃ (H0 : Hp) (p dx : Addr), vs = [.ref p] ∧ Same H0 H ∧ H0 p = none ∧ H p = some (.ins C dx []) ∧
  ∀ (H' : Hp) (F' : Addr → Prop), RwAt C H' p 0 NoS NoE 0 F' → Same H0 H' → (∀ a, F' a → H0 a = none) → Q .non H'
def spFresh (C : Addr) : Sp := fun vs H Q _ => ∃ (p : Addr) (n : Nat) (S : Nat → Str → Prop) (E : Nat → Nat → List Str → Prop) (B : Nat) (F : Addr → Prop), vs = [.ref p] ∧ RwAt C H p n S E B F ∧ n < 100 ∧
  RwOut C H p (n + 1) S E B F fun H' => Q (nv n) H'
def spFlow (C : Addr) (K : PySem.W.Frag) : Sp := fun vs H Q _ => ∃ (p u : Addr) (n : Nat) (S : Nat → Str → Prop) (E : Nat → Nat → List Str → Prop) (B : Nat) (F : Addr → Prop) (i j : Nat) (w : List Str), vs = [.ref p, nv i, nv j, .ref u] ∧ RwAt C H p n S E B F ∧ B < 1000 ∧ i < n ∧ j < n ∧ SqL K H u (w.map V.str) ∧
  RwOut C H p n S (fun a b x => E a b x ∨ (a = i ∧ b = j ∧ x = w)) (B + 1) F fun H' => Q .non H'
def spSame (C : Addr) : Sp := fun vs H Q _ => ∃ (p : Addr) (n : Nat) (S : Nat → Str → Prop) (E : Nat → Nat → List Str → Prop) (B : Nat) (F : Addr → Prop) (i j : Nat), vs = [.ref p, nv i, nv j] ∧ RwAt C H p n S E B F ∧ B < 900 ∧ i < n ∧ j < n ∧
  RwOut C H p n S (fun a b x => (E a b x ∨ (a = i ∧ b = j ∧ x = [])) ∨ (a = j ∧ b = i ∧ x = [])) (B + 2) F fun H' => Q .non H'
def spContain (C : Addr) : Sp := fun vs H Q _ => ∃ (p : Addr) (n : Nat) (S : Nat → Str → Prop) (E : Nat → Nat → List Str → Prop) (B : Nat) (F : Addr → Prop) (i : Nat) (s : Str), vs = [.ref p, nv i, .str s] ∧ RwAt C H p n S E B F ∧ B < 1000 ∧ i < n ∧
  RwOut C H p n (fun a x => S a x ∨ (a = i ∧ x = s)) E (B + 1) F fun H' => Q .non H'
section
variable {P : Program} {w : World} {K : PySem.W.Frag} {mg : Str → Option Value} {base : Heap}
theorem scInit : FnScope ["self"] ["self"] (defScope sInit) := ⟨rfl, rfl, rfl, by decide +kernel, rfl, by decide +kernel, by decide +kernel⟩
theorem ok_init {f C : Addr} {fd : FuncData} (F : Fun K "__init__" "Rows.__init__" sInit f fd) (T : Txt K mg C) : FnOk P w K mg base CX0 1 f fd ["self"] (spInit C) := by
  refine F.ok scInit (fun vs H Q E h => ?_) (fun cdv A outer s H vs Q E hr h => ?_)
  · obtain ⟨H0, p, dx, rfl, _⟩ := h
    rfl
  · obtain ⟨H0, p, dx, rfl, s0, p0, hp, k⟩ := h
    refine ⟨_, pss_cons (ps_fld (pv 0) (pe_lst pa_nil) rfl) (pss_one (ps_fld (pv 0) pe_dnewK rfl)), ?_⟩
    refine ⟨Nat.zero_le _, fun l hl => ?_⟩
    have npl : p ≠ l := ne_of_none hp hl
    refine ⟨_, rfl, p, C, dx, [], rfl, (by rw [upd_ne npl]; exact hp), T.cl, T.nT, (by show 0 < 1000; decide), fun d hd => ?_⟩
    have hdp : d ≠ p := fun q => by rw [q, upd_same] at hd; cases hd
    have hdl : d ≠ l := fun q => by rw [q, upd_ne npl.symm, upd_same] at hd; cases hd
    have hd0 : H d = none := by rw [upd_ne hdp, upd_ne hdl] at hd; exact hd
    refine ⟨_, rfl, p, C, dx, _, rfl, (by rw [upd_ne hdp.symm, upd_same]), T.cl, T.nH, (by show 1 < 1000; decide), ?_⟩
    refine k _ (FRw p l d [] []) ⟨dx, l, d, [], [], [], [], [], ⟨upd_same, ⟨by simp, ?_, .nil⟩, .nil, ?_, .nil, by simp, by simp, by simp⟩, ⟨rfl, by simp, by simp, fun _ _ q => q.elim, fun _ _ _ q => q.elim, by simp, Nat.le_refl _, by simp⟩, rfl⟩ ?_ ?_
    · rw [upd_ne npl.symm, upd_ne hdl.symm, upd_ne npl.symm, upd_same]
      rfl
    · rw [upd_ne hdp, upd_same]
      rfl
    · exact same_upd_at (same_upd_at (same_upd_at (same_upd_at s0 (s0.free hl)) p0) (s0.free hd0)) p0
    · rintro a (e | e | e | e)
      · rw [e]; exact p0
      · rw [e]; exact s0.free hd0
      · rw [List.mem_singleton.mp e]; exact s0.free hl
      · cases e
theorem scFresh : FnScope ["self"] ["self"] (defScope sFresh) := ⟨rfl, rfl, rfl, by decide +kernel, rfl, by decide +kernel, by decide +kernel⟩
theorem ok_fresh {f C : Addr} {fd : FuncData} (F : Fun K "fresh" "Rows.fresh" sFresh f fd) (T : Txt K mg C) : FnOk P w K mg base CX0 1 f fd ["self"] (spFresh C) := by
  refine F.ok scFresh (fun vs H Q E h => ?_) (fun cdv A outer s H vs Q E hr h => ?_)
  · obtain ⟨p, n, S, E, B, F, rfl, _⟩ := h
    rfl
  · obtain ⟨p, n, S, E, B, F, rfl, ⟨dx, lt, ld, as, vss, D, ts, hs, hi, hm, rfl⟩, hn, k⟩ := h
    refine ⟨_, pss_cons (ps_expr (pe_bm PySem.F.plainAttrs_list PySem.F.slot_list_append PySem.F.type_list_append mt_append (pe_fld (pv 0) rfl) (pa_cons (pe_lst pa_nil) pa_nil)))
      (pss_one (ps_ret (pe_op op_sub (pe_callB call_len_seq (by rfl) T.len PySem.boot_len (pa_cons (pe_fld (pv 0) rfl) pa_nil)) pe_int))), ?_⟩
    have elen : as.length = n := by rw [hi.ll.its.length, hi.fl.length, hm.hn]
    refine ⟨_, rfl, p, C, dx, _, _, rfl, hi.ins, T.cl, T.nT, pf_targets _ _, .inl ⟨rfl, _, SqL.of hi.ll.top⟩, Nat.zero_le _, fun q hq => ?_⟩
    have nlq : lt ≠ q := ne_of_none hi.ll.top hq
    have npq : p ≠ q := ne_of_none hi.ins hq
    have npl : p ≠ lt := ne_of hi.ins hi.ll.top (by intro z; cases z)
    refine ⟨lt, _, _, rfl, rfl, (by rw [upd_ne nlq]; exact hi.ll.top), (by rw [List.length_map, elen]; exact small1000 (by omega)), ?_⟩
    have hll := hi.ll.push (ys := []) hq
    have hins : (upd (upd H q (.lst [])) lt (.lst (as.map V.ref ++ [V.ref q]))) p = some (.ins C dx (pf lt ld)) := by
      rw [upd_ne npl, upd_ne npq]
      exact hi.ins
    have hch : Ch (FRw p lt ld as D) H (upd (upd H q (.lst [])) lt (.lst (as.map V.ref ++ [V.ref q]))) :=
      (ch_new (F := F0) hq).mono (fun _ f => f.elim) |>.trans (ch_at (F := FRw p lt ld as D) (by rw [upd_ne nlq]; exact hi.ll.top) (by intro xs z; cases z) (.inr (.inr (.inl (List.mem_cons_self ..))))) fun x f => .inl f
    refine ⟨_, rfl, p, C, dx, _, _, rfl, hins, T.cl, T.nT, pf_targets _ _, lt, _, rfl, .inl (SqL.of upd_same), _, _, rfl, rfl, ?_⟩
    have ev : (((as.map V.ref ++ [V.ref q]).length : Nat) : Int) - 1 = (n : Int) := by
      rw [List.length_append, List.length_map, elen]
      simp
    show Q (.int ((((as.map V.ref ++ [V.ref q]).length : Nat) : Int) - 1)) _
    rw [ev]
    have hqF : ¬ FRw p lt ld as D q := fun m => by
      obtain ⟨o, e, _⟩ := hi.tracked m
      rw [hq] at e
      cases e
    refine k _ (FRw p lt ld (as ++ [q]) D) ⟨dx, lt, ld, as ++ [q], vss ++ [[]], D, ts ++ [[]], hs, ⟨hins, hll, ?_, ?_, ?_, hi.keys, hi.adr, ?_⟩, ⟨?_, hm.hS, ?_, ?_, ?_, ?_, hm.bh, hm.bi⟩, rfl⟩ hch ?_
    · exact Paired.snoc (pr_mono hi.fl fun vs fs _ _ r => pr_mono r fun v f _ _ r => r.stay hch) .nil
    · have nd1 : ld ≠ lt := ne_of hi.dic hi.ll.top (by intro z; cases z)
      rw [upd_ne nd1, upd_ne (ne_of_none hi.dic hq)]
      exact hi.dic
    · refine pr_mono hi.hol fun e b he _ r => ⟨r.1, ?_⟩
      have h1 := hi.off _ (List.mem_map_of_mem he)
      rw [upd_ne fun z => h1 (by rw [z]; exact List.mem_cons_self ..), upd_ne (ne_of_none r.2 hq)]
      exact r.2
    · intro a ha m
      have h1 := hi.off a ha
      rcases List.mem_cons.mp m with e | e
      · exact h1 (by rw [e]; exact List.mem_cons_self ..)
      · rcases List.mem_append.mp e with e | e
        · exact h1 (List.mem_cons_of_mem _ e)
        · exact hqF (.inr (.inr (.inr (by rw [← List.mem_singleton.mp e]; exact ha))))
    · rw [List.length_append, hm.hn]
      rfl
    · intro i j x
      rw [hm.hE]
      constructor
      · rintro ⟨fs, h1, h2⟩
        exact ⟨fs, by rw [List.getElem?_append_left (List.getElem?_eq_some_iff.mp h1).1]; exact h1, h2⟩
      · rintro ⟨fs, h1, h2⟩
        by_cases hl : i < ts.length
        · rw [List.getElem?_append_left hl] at h1
          exact ⟨fs, h1, h2⟩
        · rw [List.getElem?_append_right (by omega)] at h1
          have := List.mem_of_getElem? h1
          rw [List.mem_singleton.mp this] at h2
          cases h2
    · intro i s h
      have := hm.hSn i s h
      omega
    · intro i j x h
      have := hm.hEn i j x h
      omega
    · intro fs h
      rcases List.mem_append.mp h with h | h
      · exact hm.bt fs h
      · rw [List.mem_singleton.mp h]
        exact Nat.zero_le _
    · rintro a (e | e | e | e)
      · exact .inl (.inl e)
      · exact .inl (.inr (.inl e))
      · rcases List.mem_cons.mp e with e | e
        · exact .inl (.inr (.inr (.inl (by rw [e]; exact List.mem_cons_self ..))))
        · rcases List.mem_append.mp e with e | e
          · exact .inl (.inr (.inr (.inl (List.mem_cons_of_mem _ e))))
          · right
            rw [List.mem_singleton.mp e]
            exact hq
      · exact .inl (.inr (.inr (.inr e)))
end
end Ka


set_option Elab.async false
set_option linter.all false
set_option maxRecDepth 100000
set_option maxHeartbeats 4000000
namespace Ka
open PySem PySem.Spec L2 PyProof.Rows Km
section
variable {P : Program} {w : World} {K : PySem.W.Frag} {mg : Str → Option Value} {base : Heap}
theorem scFlow : FnScope ["self", "source", "target", "without"] ["self", "source", "target", "without"] (defScope sFlow) := ⟨rfl, rfl, rfl, by decide +kernel, rfl, by decide +kernel, by decide +kernel⟩
theorem ok_flow {f C : Addr} {fd : FuncData} (F : Fun K "flow" "Rows.flow" sFlow f fd) (T : Txt K mg C) : FnOk P w K mg base CX0 1 f fd ["self", "source", "target", "without"] (spFlow C K) := by
  refine F.ok scFlow (fun vs H Q E h => ?_) (fun cdv A outer s H vs Q E hr h => ?_)
  · obtain ⟨p, u, n, S, E, B, F, i, j, w, rfl, _⟩ := h
    rfl
  · obtain ⟨p, u, n, S, E, B, F, i, j, w, rfl, ⟨dx, lt, ld, as, vss, D, ts, hs, hi, hm, rfl⟩, hB, hin, hjn, hu, k⟩ := h
    refine ⟨_, pss_one (ps_expr (pe_bm PySem.F.plainAttrs_list PySem.F.slot_list_append PySem.F.type_list_append mt_append (pe_ix ix_list (pe_fld (pv 0) rfl) (pv 1) (fun _ _ => rfl))
      (pa_cons (pe_tup (pa_cons (pv 2) (pa_cons (pe_callTy call_tuple_of (by rfl) T.tup (by decide +kernel) (pa_cons (pv 3) pa_nil)) pa_nil))) pa_nil))), ?_⟩
    have elen : as.length = n := by rw [hi.ll.its.length, hi.fl.length, hm.hn]
    have hia : i < as.length := by omega
    have ea : as[i]? = some as[i] := List.getElem?_eq_getElem hia
    generalize as[i] = a at ea
    have hat : (as.map V.ref)[i]? = some (.ref a) := by
      rw [List.getElem?_map, ea]
      rfl
    obtain ⟨vs, evs, hva⟩ := pr_get hi.ll.its ea
    obtain ⟨fs, efs, hvf⟩ := pr_get hi.fl evs
    have haF : FRw p lt ld as D a := .inr (.inr (.inl (List.mem_cons_of_mem _ (List.mem_of_getElem? ea))))
    refine ⟨_, rfl, p, C, dx, _, _, rfl, hi.ins, T.cl, T.nT, pf_targets _ _, _, rfl, lt, _, _, _, rfl, rfl, SqL.of hi.ll.top, atI_nat hat, .inl ⟨rfl, _, SqL.of hva⟩, _, rfl, _, rfl, u, _, rfl, .inl ⟨hu, fun l hl => ?_⟩⟩
    refine ⟨by show 2 ≤ sizeLine; decide, fun t ht => ?_⟩
    have s1 : Same H (upd H l (.tup (w.map V.str))) := same_new hl
    have s2 : Same H (upd (upd H l (.tup (w.map V.str))) t (.tup [nv j, .ref l])) := s1.trans (same_new ht)
    have htl : t ≠ l := fun q => by rw [q, upd_same] at ht; cases ht
    refine ⟨a, _, _, rfl, rfl, s2 _ _ hva, ?_, ?_⟩
    · rw [hvf.length]
      exact small1000 (by have := hm.bt fs (List.mem_of_getElem? efs); omega)
    have hs2 : Ch (FRw p lt ld as D) H (upd (upd H l (.tup (w.map V.str))) t (.tup [nv j, .ref l])) := ch_of_same s2
    have hi2 : RwIn C (upd (upd H l (.tup (w.map V.str))) t (.tup [nv j, .ref l])) p dx lt ld as vss D ts hs := hi.stay (F := F0) (ch_of_same s2) fun _ _ f => f
    generalize hH2 : upd (upd H l (.tup (w.map V.str))) t (.tup [nv j, .ref l]) = H2 at hs2 hi2 s2
    have ht2 : H2 t = some (.tup [nv j, .ref l]) := by rw [← hH2, upd_same]
    have hl2 : H2 l = some (.tup (w.map V.str)) := by rw [← hH2, upd_ne htl.symm, upd_same]
    have hva2 := s2 _ _ hva
    have hc3 : Ch (FRw p lt ld as D) H2 (upd H2 a (.lst (vs ++ [.ref t]))) := ch_at hva2 (by intro xs z; cases z) haF
    have nd := List.nodup_cons.mp hi.ll.nd
    have hpa : p ≠ a := ne_of hi2.ins hva2 (by intro z; cases z)
    have hda : ld ≠ a := ne_of hi2.dic hva2 (by intro z; cases z)
    refine k _ (FRw p lt ld as D) ⟨dx, lt, ld, as, vss.set i (vs ++ [.ref t]), D, ts.set i (fs ++ [(j, w)]), hs, ⟨by rw [upd_ne hpa]; exact hi2.ins, hi2.ll.set ea, ?_, by rw [upd_ne hda]; exact hi2.dic, ?_, hi.keys, hi.adr, hi.off⟩, ⟨?_, hm.hS, ?_, hm.hSn, ?_, ?_, ?_, ?_⟩, rfl⟩ (hs2.trans hc3 fun x f => .inl f) (fun a f => .inl f)
    · refine pr_ix (by rw [List.length_set, List.length_set]; exact hi.fl.length) fun y v1 f1 hv1 hf1 => ?_
      by_cases e : i = y
      · subst e
        rw [List.getElem?_set_self (List.getElem?_eq_some_iff.mp evs).1] at hv1
        rw [List.getElem?_set_self (List.getElem?_eq_some_iff.mp efs).1] at hf1
        cases Option.some.inj hv1
        cases Option.some.inj hf1
        exact Paired.snoc (pr_mono hvf fun v f _ _ r => (r.stay hs2).stay hc3) ⟨t, l, rfl, hc3.tup _ _ ht2, hc3.tup _ _ hl2⟩
      · rw [List.getElem?_set_ne e] at hv1 hf1
        exact pr_mono (pr_both hi.fl hv1 hf1) fun v f _ _ r => (r.stay hs2).stay hc3
    · refine pr_mono hi2.hol fun e b he _ r => ⟨r.1, ?_⟩
      rw [upd_ne fun z => hi.off _ (List.mem_map_of_mem he) (by rw [z]; exact List.mem_cons_of_mem _ (List.mem_of_getElem? ea))]
      exact r.2
    · rw [List.length_set, hm.hn]
    · intro i' j' w'
      rw [hm.hE]
      constructor
      · rintro (⟨fs', h1, h2⟩ | ⟨rfl, rfl, rfl⟩)
        · by_cases e : i = i'
          · subst e
            rw [efs] at h1
            cases Option.some.inj h1
            exact ⟨_, List.getElem?_set_self (List.getElem?_eq_some_iff.mp efs).1, List.mem_append_left _ h2⟩
          · exact ⟨fs', by rw [List.getElem?_set_ne e]; exact h1, h2⟩
        · exact ⟨_, List.getElem?_set_self (List.getElem?_eq_some_iff.mp efs).1, List.mem_append_right _ (List.mem_cons_self ..)⟩
      · rintro ⟨fs', h1, h2⟩
        by_cases e : i = i'
        · subst e
          rw [List.getElem?_set_self (List.getElem?_eq_some_iff.mp efs).1] at h1
          cases Option.some.inj h1
          rcases List.mem_append.mp h2 with h2 | h2
          · exact .inl ⟨fs, efs, h2⟩
          · have := List.mem_singleton.mp h2
            exact .inr ⟨rfl, congrArg Prod.fst this, congrArg Prod.snd this⟩
        · rw [List.getElem?_set_ne e] at h1
          exact .inl ⟨fs', h1, h2⟩
    · rintro i' j' w' (h | ⟨_, rfl, _⟩)
      · exact hm.hEn _ _ _ h
      · exact hjn
    · intro fs' h
      rcases List.mem_or_eq_of_mem_set h with h | h
      · have := hm.bt _ h
        omega
      · rw [h, List.length_append]
        have := hm.bt fs (List.mem_of_getElem? efs)
        simp
        omega
    · have := hm.bh
      omega
    · intro h hh
      have := hm.bi h hh
      omega
theorem scSame : FnScope ["self", "one", "other"] ["self", "one", "other"] (defScope sSame) := ⟨rfl, rfl, rfl, by decide +kernel, rfl, by decide +kernel, by decide +kernel⟩
theorem RwAt.ins {C : Addr} {H : Hp} {p : Addr} {n : Nat} {S : Nat → Str → Prop} {E : Nat → Nat → List Str → Prop} {B : Nat} {F : Addr → Prop} (h : RwAt C H p n S E B F) : ∃ dx l d, H p = some (.ins C dx (pf l d)) := by
  obtain ⟨dx, lt, ld, as, vss, D, ts, hs, hi, _, rfl⟩ := h
  exact ⟨dx, lt, ld, hi.ins⟩
theorem ok_same {f fF C : Addr} {fd fdF : FuncData} (F : Fun K "same" "Rows.same" sSame f fd) (T : Txt K mg C) (FF : Fun K "flow" "Rows.flow" sFlow fF fdF) (bF : Binds K fdF ["self", "source", "target", "without"] []) (mF : Meth K C "flow" fF) : FnOk P w K mg base CX0 2 f fd ["self", "one", "other"] (spSame C) := by
  have GF : FnOk P w K mg base CX0 1 fF fdF ["self", "source", "target", "without"] (spFlow C K) := ok_flow FF T
  refine F.ok scSame (fun vs H Q E h => ?_) (fun cdv A outer s H vs Q E hr h => ?_)
  · obtain ⟨p, n, S, E, B, F, i, j, rfl, _⟩ := h
    rfl
  · obtain ⟨p, n, S, E, B, F, i, j, rfl, hR, hB, hin, hjn, k⟩ := h
    have noF : ∀ l d, (pf l d).lookup ("flow" : Str) = none := fun l d => pf_no _ _ (by decide +kernel) (by decide +kernel)
    refine ⟨_, pss_cons (ps_expr (pe_meth (pv 0) T.cl mF GF hr bF .nil pass0 (pa_cons (pv 1) (pa_cons (pv 2) (pa_cons (pe_lst pa_nil) pa_nil)))))
      (pss_one (ps_expr (pe_meth (pv 0) T.cl mF GF hr bF .nil pass0 (pa_cons (pv 2) (pa_cons (pv 1) (pa_cons (pe_lst pa_nil) pa_nil)))))), ?_⟩
    obtain ⟨dx, l, d, h1⟩ := hR.ins
    refine ⟨_, rfl, p, dx, _, rfl, h1, noF l d, _, rfl, _, rfl, Nat.zero_le _, fun u hu => ?_⟩
    have hR1 := hR.stay (F' := F0) (ch_new (o := HO.lst []) hu) fun _ _ f => f
    refine ⟨p, u, n, S, E, B, F, i, j, [], rfl, hR1, by omega, hin, hjn, SqL.of upd_same, fun H2 F2 hR2 c2 f2 => ?_⟩
    have c2' : Ch F H H2 := (ch_new (F := F) (o := HO.lst []) hu).trans c2 fun x f => .inl f
    have f2' : ∀ a, F2 a → F a ∨ H a = none := fun a m => (f2 a m).imp id fun e => (ch_new (F := F) (o := HO.lst []) hu).free e
    obtain ⟨dx2, l2, d2, h2⟩ := hR2.ins
    refine ⟨_, rfl, p, dx2, _, rfl, h2, noF l2 d2, _, rfl, _, rfl, Nat.zero_le _, fun u2 hu2 => ?_⟩
    have hR3 := hR2.stay (F' := F0) (ch_new (o := HO.lst []) hu2) fun _ _ f => f
    refine ⟨p, u2, n, S, _, B + 1, F2, j, i, [], rfl, hR3, by omega, hjn, hin, SqL.of upd_same, fun H4 F4 hR4 c4 f4 => ?_⟩
    have c4' : Ch F2 H2 H4 := (ch_new (F := F2) (o := HO.lst []) hu2).trans c4 fun x f => .inl f
    refine k H4 F4 hR4 (c2'.trans c4' f2') fun a m => ?_
    rcases f4 a m with e | e
    · exact f2' a e
    · exact .inr (c2'.free ((ch_new (F := F) (o := HO.lst []) hu2).free e))
end
end Ka


set_option Elab.async false
set_option linter.all false
set_option maxRecDepth 100000
set_option maxHeartbeats 4000000
namespace Ka
open PySem PySem.Spec L2 PyProof.Rows Km
theorem valD_none : ∀ {D : List (Str × Addr)} {s : Str}, valV (kvD D) (Sum.inr s : Key) = none → s ∉ D.map (·.1)
  | [], _, _ => by simp
  | (t, b) :: r, s, h => by
    have h' : (List.find? (fun kv : Key × V => decide (kv.1 = Sum.inr s)) ((Sum.inr t, V.ref b) :: kvD r)).map (·.2) = none := h
    rw [List.find?_cons] at h'
    by_cases e : t = s
    · subst e
      simp at h'
    · rw [show decide ((Sum.inr t : Key) = Sum.inr s) = false from decide_eq_false fun q => e (Sum.inr.inj q)] at h'
      have ih := valD_none (D := r) (s := s) h'
      intro m
      rcases List.mem_cons.mp m with m | m
      · exact e m.symm
      · exact ih m
theorem valD_some : ∀ {D : List (Str × Addr)} {s : Str} {v : V}, valV (kvD D) (Sum.inr s : Key) = some v → ∃ (i : Nat) (b : Addr), D[i]? = some (s, b) ∧ v = .ref b
  | [], _, _, h => by cases h
  | (t, b) :: r, s, v, h => by
    have h' : (List.find? (fun kv : Key × V => decide (kv.1 = Sum.inr s)) ((Sum.inr t, V.ref b) :: kvD r)).map (·.2) = some v := h
    rw [List.find?_cons] at h'
    by_cases e : t = s
    · subst e
      simp at h'
      exact ⟨0, b, rfl, h'.symm⟩
    · rw [show decide ((Sum.inr t : Key) = Sum.inr s) = false from decide_eq_false fun q => e (Sum.inr.inj q)] at h'
      obtain ⟨i, b', h1, h2⟩ := valD_some (D := r) (s := s) h'
      exact ⟨i + 1, b', by simpa using h1, h2⟩
section
variable {P : Program} {w : World} {K : PySem.W.Frag} {mg : Str → Option Value} {base : Heap}
theorem scContain : FnScope ["self", "row", "name"] ["self", "row", "name"] (defScope sContain) := ⟨rfl, rfl, rfl, by decide +kernel, rfl, by decide +kernel, by decide +kernel⟩
theorem ok_contain {f C : Addr} {fd : FuncData} (F : Fun K "contain" "Rows.contain" sContain f fd) (T : Txt K mg C) : FnOk P w K mg base CX0 1 f fd ["self", "row", "name"] (spContain C) := by
  refine F.ok scContain (fun vs H Q E h => ?_) (fun cdv A outer s H vs Q E hr h => ?_)
  · obtain ⟨p, n, S, E, B, F, i, s, rfl, _⟩ := h
    rfl
  · obtain ⟨p, n, S, E, B, F, i, x, rfl, ⟨dx, lt, ld, as, vss, D, ts, hs, hi, hm, rfl⟩, hB, hin, k⟩ := h
    refine ⟨_, pss_one (ps_expr (pe_bm PySem.F.plainAttrs_list PySem.F.slot_list_append PySem.F.type_list_append mt_append (pe_dsetd (pe_fld (pv 0) rfl) (pv 2) (pe_lst pa_nil) ⟨rfl, rfl, rfl, rfl⟩) (pa_cons (pv 1) pa_nil))), ?_⟩
    have eD : D.length = hs.length := hi.hol.length
    refine ⟨_, rfl, p, C, dx, _, _, rfl, hi.ins, T.cl, T.nH, pf_holders _ _, ld, rfl, .inl ⟨_, .inl hi.dic⟩, _, rfl, Nat.zero_le _, fun q hq => ?_⟩
    have s1 : Same H (upd H q (.lst [])) := same_new hq
    refine ⟨kvD D, Sum.inr x, s1 _ _ hi.dic, rfl, (by unfold kvD; rw [List.length_map, eD]; exact small1000 (by have := hm.bh; omega)), fun v hv => ?_, fun hv => ?_⟩
    · obtain ⟨d, b, hd, rfl⟩ := valD_some hv
      obtain ⟨h', eh, hb⟩ := pr_get hi.hol hd
      have hi2 : RwIn C (upd H q (.lst [])) p dx lt ld as vss D ts hs := hi.stay (F := F0) (ch_of_same s1) fun _ _ f => f
      have hb2 := s1 _ _ hb.2
      have hbD : b ∈ D.map (·.2) := List.mem_map.mpr ⟨_, List.mem_of_getElem? hd, rfl⟩
      have hbF : FRw p lt ld as D b := .inr (.inr (.inr hbD))
      refine ⟨.inl ⟨rfl, _, SqL.of hb2⟩, _, rfl, b, _, _, rfl, rfl, hb2, (by rw [List.length_map]; exact small1000 (by have := hm.bi _ (List.mem_of_getElem? eh); omega)), ?_⟩
      generalize upd H q (.lst []) = H2 at s1 hi2 hb2
      have hc3 : Ch (FRw p lt ld as D) H2 (upd H2 b (.lst (h'.2.map nv ++ [nv i]))) := ch_at hb2 (by intro xs z; cases z) hbF
      have hpb : p ≠ b := ne_of hi2.ins hb2 (by intro z; cases z)
      have hdb : ld ≠ b := ne_of hi2.dic hb2 (by intro z; cases z)
      have hlb : ∀ a, a ∈ lt :: as → ¬ (a = b) := fun a ha e => hi.off b hbD (by rw [← e]; exact ha)
      refine k _ (FRw p lt ld as D) ⟨dx, lt, ld, as, vss, D, ts, hs.set d (x, h'.2 ++ [i]), ⟨by rw [upd_ne hpb]; exact hi2.ins, hi2.ll.stay (F := fun a => a = b) (ch_at hb2 (by intro xs z; cases z) rfl) hlb, ?_, by rw [upd_ne hdb]; exact hi2.dic, ?_, hi.keys, hi.adr, hi.off⟩, ⟨hm.hn, ?_, hm.hE, ?_, hm.hEn, ?_, ?_, ?_⟩, rfl⟩ ((ch_of_same s1).trans hc3 fun x f => .inl f) (fun a f => .inl f)
      · exact pr_mono hi2.fl fun vs fs _ _ r => pr_mono r fun v f _ _ r => r.stay hc3
      · refine pr_ix (by rw [List.length_set]; exact eD) fun y e1 h1 he1 hh1 => ?_
        by_cases e : d = y
        · subst e
          rw [List.getElem?_set_self (List.getElem?_eq_some_iff.mp eh).1] at hh1
          cases Option.some.inj hh1
          rw [hd] at he1
          cases Option.some.inj he1
          exact ⟨rfl, by rw [upd_same, List.map_append]; rfl⟩
        · rw [List.getElem?_set_ne e] at hh1
          have r := pr_both hi2.hol he1 hh1
          refine ⟨r.1, ?_⟩
          rw [upd_ne fun z => e ?_]
          · exact r.2
          · have g1 : (D.map (·.2))[d]? = some b := by rw [List.getElem?_map, hd]; rfl
            have g2 : (D.map (·.2))[y]? = some b := by rw [List.getElem?_map, he1, ← z]; rfl
            exact nd_ix hi.adr g1 g2
      · intro a y
        have ex : h'.1 = x := hb.1.symm
        rw [hm.hS]
        constructor
        · rintro (⟨is, h1, h2⟩ | ⟨rfl, rfl⟩)
          · obtain ⟨j, hj⟩ := List.getElem?_of_mem h1
            by_cases e : d = j
            · subst e
              rw [eh] at hj
              cases Option.some.inj hj
              exact ⟨is ++ [i], List.mem_of_getElem? (i := d) (by rw [List.getElem?_set_self (List.getElem?_eq_some_iff.mp eh).1]; rw [← ex]), List.mem_append_left _ h2⟩
            · exact ⟨is, List.mem_of_getElem? (i := j) (by rw [List.getElem?_set_ne e]; exact hj), h2⟩
          · exact ⟨h'.2 ++ [a], List.mem_of_getElem? (i := d) (List.getElem?_set_self (List.getElem?_eq_some_iff.mp eh).1), List.mem_append_right _ (List.mem_cons_self ..)⟩
        · rintro ⟨is, h1, h2⟩
          obtain ⟨j, hj⟩ := List.getElem?_of_mem h1
          by_cases e : d = j
          · subst e
            rw [List.getElem?_set_self (List.getElem?_eq_some_iff.mp eh).1] at hj
            have e1 := Option.some.inj hj
            have e2 : x = y := congrArg Prod.fst e1
            have e3 : h'.2 ++ [i] = is := congrArg Prod.snd e1
            subst e2 e3
            rcases List.mem_append.mp h2 with h2 | h2
            · exact .inl ⟨h'.2, by rw [← ex]; exact List.mem_of_getElem? eh, h2⟩
            · exact .inr ⟨List.mem_singleton.mp h2, rfl⟩
          · rw [List.getElem?_set_ne e] at hj
            exact .inl ⟨is, List.mem_of_getElem? hj, h2⟩
      · rintro a y (h | ⟨rfl, _⟩)
        · exact hm.hSn _ _ h
        · exact hin
      · intro fs h
        have := hm.bt fs h
        omega
      · rw [List.length_set]
        have := hm.bh
        omega
      · intro h hh
        rcases List.mem_or_eq_of_mem_set hh with hh | hh
        · have := hm.bi h hh
          omega
        · rw [hh, List.length_append]
          have := hm.bi _ (List.mem_of_getElem? eh)
          simp
          omega
    · have hn := valD_none hv
      have hdq : ld ≠ q := ne_of_none hi.dic hq
      have hpq : p ≠ q := ne_of_none hi.ins hq
      have hpd : p ≠ ld := ne_of hi.ins hi.dic (by intro z; cases z)
      have ekv : putK (kvD D) (Sum.inr x : Key) (.ref q) = kvD (D ++ [(x, q)]) := by
        rw [putK_new _ hv]
        unfold kvD
        rw [List.map_append]
        rfl
      rw [ekv]
      have hqF : ¬ FRw p lt ld as D q := fun m => by
        obtain ⟨o, e, _⟩ := hi.tracked m
        rw [hq] at e
        cases e
      have hq2 : (upd (upd H q (.lst [])) ld (.dK (kvD (D ++ [(x, q)])))) q = some (.lst []) := by rw [upd_ne hdq.symm, upd_same]
      refine ⟨.inl ⟨rfl, _, SqL.of hq2⟩, _, rfl, q, _, _, rfl, rfl, hq2, Nat.zero_lt_succ _, ?_⟩
      have hc2 : Ch (FRw p lt ld as D) H (upd (upd H q (.lst [])) ld (.dK (kvD (D ++ [(x, q)])))) := (ch_of_same s1).trans (ch_at (F := FRw p lt ld as D) (s1 _ _ hi.dic) (by intro xs z; cases z) (.inr (.inl rfl))) fun x f => .inl f
      have hc3 : Ch (FRw p lt ld as D) H (upd (upd (upd H q (.lst [])) ld (.dK (kvD (D ++ [(x, q)])))) q (.lst ([] ++ [nv i]))) :=
        hc2.trans (ch_at (F := fun a => a = q) hq2 (by intro xs z; cases z) rfl) fun x f => .inr (by rw [f]; exact hq)
      have hold : ∀ a o, H a = some o → a ≠ ld → (upd (upd (upd H q (.lst [])) ld (.dK (kvD (D ++ [(x, q)])))) q (.lst ([] ++ [nv i]))) a = some o := fun a o e n => by
        have naq : a ≠ q := ne_of_none e hq
        rw [upd_ne naq, upd_ne n, upd_ne naq]
        exact e
      have hll : LL (upd (upd (upd H q (.lst [])) ld (.dK (kvD (D ++ [(x, q)])))) q (.lst ([] ++ [nv i]))) lt as vss := by
        refine ⟨hi.ll.nd, hold _ _ hi.ll.top (ne_of hi.ll.top hi.dic (by intro z; cases z)), pr_mono hi.ll.its fun a b ha _ r => hold _ _ r (ne_of r hi.dic (by intro z; cases z))⟩
      refine k _ (FRw p lt ld as (D ++ [(x, q)])) ⟨dx, lt, ld, as, vss, D ++ [(x, q)], ts, hs ++ [(x, [i])], ⟨hold _ _ hi.ins hpd, hll, ?_, by rw [upd_ne hdq, upd_same], ?_, ?_, ?_, ?_⟩, ⟨hm.hn, ?_, hm.hE, ?_, hm.hEn, ?_, ?_, ?_⟩, rfl⟩ hc3 ?_
      · exact pr_mono hi.fl fun vs fs _ _ r => pr_mono r fun v f _ _ r => r.stay hc3
      · refine Paired.snoc (pr_mono hi.hol fun e b he _ r => ⟨r.1, hold _ _ r.2 (ne_of r.2 hi.dic (by intro z; cases z))⟩) ⟨rfl, ?_⟩
        rw [upd_same]
        rfl
      · rw [List.map_append]
        exact List.nodup_append.mpr ⟨hi.keys, by simp, fun a ha b hb e => hn (by rw [List.mem_singleton.mp hb] at e; rw [← show a = x from e]; exact ha)⟩
      · rw [List.map_append]
        exact List.nodup_append.mpr ⟨hi.adr, by simp, fun a ha b hb e => hqF (.inr (.inr (.inr (by rw [List.mem_singleton.mp hb] at e; rw [← show a = q from e]; exact ha))))⟩
      · intro a ha m
        rw [List.map_append] at ha
        rcases List.mem_append.mp ha with ha | ha
        · exact hi.off a ha m
        · exact hqF (.inr (.inr (.inl (by rw [← show a = q from List.mem_singleton.mp ha]; exact m))))
      · intro a y
        rw [hm.hS]
        constructor
        · rintro (⟨is, h1, h2⟩ | ⟨rfl, rfl⟩)
          · exact ⟨is, List.mem_append_left _ h1, h2⟩
          · exact ⟨[a], List.mem_append_right _ (List.mem_cons_self ..), List.mem_cons_self ..⟩
        · rintro ⟨is, h1, h2⟩
          rcases List.mem_append.mp h1 with h1 | h1
          · exact .inl ⟨is, h1, h2⟩
          · have e := List.mem_singleton.mp h1
            have e2 : y = x := congrArg Prod.fst e
            have e3 : is = [i] := congrArg Prod.snd e
            rw [e3] at h2
            exact .inr ⟨List.mem_singleton.mp h2, e2⟩
      · rintro a y (h | ⟨rfl, _⟩)
        · exact hm.hSn _ _ h
        · exact hin
      · intro fs h
        have := hm.bt fs h
        omega
      · rw [List.length_append]
        have := hm.bh
        simp
        omega
      · intro h hh
        rcases List.mem_append.mp hh with hh | hh
        · have := hm.bi h hh
          omega
        · rw [List.mem_singleton.mp hh]
          simp
      · rintro a (e | e | e | e)
        · exact .inl (.inl e)
        · exact .inl (.inr (.inl e))
        · exact .inl (.inr (.inr (.inl e)))
        · rw [List.map_append] at e
          rcases List.mem_append.mp e with e | e
          · exact .inl (.inr (.inr (.inr e)))
          · right
            rw [show a = q from List.mem_singleton.mp e]
            exact hq
end
end Ka


set_option Elab.async false
set_option linter.all false
set_option maxRecDepth 100000
set_option maxHeartbeats 4000000
namespace Ka
open PySem PySem.Spec L2 PyProof.Rows Km
/-! ### the cost of what is not seen yet -/
def cost {α : Type} : Nat → List (List α) → List Nat → Nat
  | _, [], _ => 0
  | k, fs :: r, seen => (if k ∈ seen then 0 else fs.length) + cost (k + 1) r seen
theorem cost_mono {α : Type} (x : Nat) : ∀ (ts : List (List α)) (k : Nat) (seen : List Nat), cost k ts (seen ++ [x]) ≤ cost k ts seen
  | [], _, _ => Nat.le_refl _
  | fs :: r, k, seen => by
    have ih := cost_mono x r (k + 1) seen
    unfold cost
    by_cases h : k ∈ seen
    · rw [if_pos h, if_pos (List.mem_append_left _ h)]
      omega
    · rw [if_neg h]
      split <;> omega
theorem cost_add {α : Type} (x : Nat) : ∀ (ts : List (List α)) (k i : Nat) (seen : List Nat) (fs : List α), x = k + i → ts[i]? = some fs → x ∉ seen → cost k ts (seen ++ [x]) + fs.length ≤ cost k ts seen
  | [], _, _, _, _, _, h, _ => by simp at h
  | gs :: r, k, 0, seen, fs, hx, h, hn => by
    have e : gs = fs := Option.some.inj h
    subst e
    have hx' : x = k := by omega
    subst hx'
    have ih := cost_mono x r (x + 1) seen
    unfold cost
    rw [if_pos (List.mem_append_right _ (List.mem_cons_self ..)), if_neg hn]
    omega
  | gs :: r, k, i + 1, seen, fs, hx, h, hn => by
    have ih := cost_add x r (k + 1) i seen fs (by omega) (by simpa using h) hn
    unfold cost
    have e : (k ∈ seen ++ [x]) ↔ k ∈ seen := by
      rw [List.mem_append, List.mem_singleton]
      constructor
      · rintro (q | q)
        · exact q
        · omega
      · exact fun q => .inl q
    by_cases q : k ∈ seen
    · rw [if_pos q, if_pos (e.mpr q)]
      omega
    · rw [if_neg q, if_neg fun z => q (e.mp z)]
      omega
theorem cost_le {α : Type} (B : Nat) : ∀ (ts : List (List α)) (k : Nat) (seen : List Nat), (∀ fs ∈ ts, fs.length ≤ B) → cost k ts seen ≤ ts.length * B
  | [], _, _, _ => Nat.zero_le _
  | fs :: r, k, seen, h => by
    have ih := cost_le B r (k + 1) seen fun f m => h f (List.mem_cons_of_mem _ m)
    have h1 := h fs (List.mem_cons_self ..)
    unfold cost
    rw [List.length_cons, Nat.succ_mul]
    split <;> omega
def kvS (seen : List Nat) : List (Key × V) := seen.map fun (r : Nat) => ((Sum.inl (r : Int) : Key), V.bl true)
theorem kvS_has (seen : List Nat) (r : Nat) : (valV (kvS seen) (Sum.inl (r : Int) : Key)).isSome = decide (r ∈ seen) := by
  rw [← valV_any]
  induction seen with
  | nil => rfl
  | cons x t ih =>
    show (decide ((Sum.inl (x : Int) : Key) = Sum.inl (r : Int)) || (kvS t).any fun kv => decide (kv.1 = Sum.inl (r : Int))) = _
    rw [ih, ← Bool.decide_or]
    apply decide_eq_decide.mpr
    rw [List.mem_cons]
    constructor
    · rintro (q | q)
      · exact .inl (Int.ofNat.inj (Sum.inl.inj q)).symm
      · exact .inr q
    · rintro (q | q)
      · exact .inl (by rw [q])
      · exact .inr q
theorem inV_str (s : Str) : ∀ w : List Str, inV (.str s) (w.map V.str) = decide (s ∈ w)
  | [] => rfl
  | x :: r => by
    show (eqV (.str x) (.str s) || inV (.str s) (r.map V.str)) = _
    rw [inV_str s r]
    show ((x == s) || decide (s ∈ r)) = _
    by_cases e : x = s
    · subst e
      simp
    · have e1 : (x == s) = false := by simpa using e
      rw [e1, Bool.false_or]
      apply decide_eq_decide.mpr
      rw [List.mem_cons]
      constructor
      · exact .inr
      · rintro (q | q)
        · exact absurd q.symm e
        · exact q
theorem flat_str (w : List Str) : (w.map V.str).all flatV = true := by
  rw [List.all_eq_true]
  intro x hx
  obtain ⟨y, _, rfl⟩ := List.mem_map.mp hx
  rfl
theorem nodup_le : ∀ {n : Nat} {l : List Nat}, l.Nodup → (∀ x ∈ l, x < n) → l.length ≤ n
  | 0, [], _, _ => Nat.le_refl _
  | 0, x :: r, _, k => by have := k x (List.mem_cons_self ..); omega
  | n + 1, l, h, k => by
    have ih := nodup_le (n := n) (l := l.erase n) (h.erase n) fun x hx => by
      have h1 := (List.Nodup.mem_erase_iff h).mp hx
      have h2 := k x h1.2
      have h3 := h1.1
      omega
    rw [List.length_erase] at ih
    split at ih <;> omega
theorem must_closed {S : Nat → Str → Prop} {E : Nat → Nat → List Str → Prop} {seen : List Nat} {r : Nat} {s : Str} (h : Must S E r s) : (∀ r, S r s → r ∈ seen) → (∀ r ∈ seen, ∀ j w, E r j w → s ∉ w → j ∈ seen) → r ∈ seen := by
  induction h with
  | base h => exact fun a _ => a _ h
  | step _ h1 h2 ih => exact fun a b => b _ (ih a b) _ _ h1 h2
def spReached (C : Addr) : Sp := fun vs H Q _ => ∃ (p dx lt ld : Addr) (as : List Addr) (vss : List (List V)) (D : List (Str × Addr)) (ts : List (List (Nat × List Str))) (hs : List (Str × List Nat)) (n : Nat) (S : Nat → Str → Prop) (E : Nat → Nat → List Str → Prop) (B : Nat) (s : Str),
  vs = [.ref p, .str s] ∧ RwIn C H p dx lt ld as vss D ts hs ∧ RwMath ts hs n S E B ∧ n ≤ 10 ∧ B ≤ 60 ∧ s ∈ D.map (·.1) ∧
  ∀ (H' : Hp) (q : Addr) (rs : List Nat), Same H H' → H q = none → H' q = some (.lst (rs.map nv)) → rs.Nodup → (∀ r, r ∈ rs ↔ Must S E r s) → Q (.ref q) H'
section
variable {P : Program} {w : World} {K : PySem.W.Frag} {mg : Str → Option Value} {base : Heap}
abbrev nReached : List Str := ["self", "name", "seen", "waiting", "row", "target", "without"]
theorem scReached : FnScope nReached ["self", "name"] (defScope sReached) := ⟨rfl, rfl, rfl, by decide +kernel, rfl, by decide +kernel, by decide +kernel⟩
theorem ok_reached {f C : Addr} {fd : FuncData} (F : Fun K "reached" "Rows.reached" sReached f fd) (T : Txt K mg C) : FnOk P w K mg base CX0 1 f fd ["self", "name"] (spReached C) := by
  refine F.ok scReached (fun vs H Q E h => ?_) (fun cdv A outer s H vs Q E hr h => ?_)
  · obtain ⟨p, dx, lt, ld, as, vss, D, ts, hs, n, S, E, B, s, rfl, _⟩ := h
    rfl
  · obtain ⟨p, dx, lt, ld, as, vss, D, ts, hs, n, S, E, B, s, rfl, hi, hm, hn, hB, hsD, k⟩ := h
    have hu := hu_of hr
    refine ⟨_, pss_cons (ps_set (i := 2) scReached.nd rfl (Or.inl rfl) pe_dnewK)
      (pss_cons (ps_set (i := 3) scReached.nd rfl (Or.inl rfl) (pe_callTy call_list_of (by rfl) T.lst (by decide +kernel) (pa_cons (pe_dget hu (pe_fld (pv 0) rfl) (pv 1) (fun _ _ => rfl)) pa_nil)))
      (pss_cons (ps_while PassesOwn.never (pt_truth (pv 3) (by intro _; rfl))
        (pss_cons (ps_set (i := 4) scReached.nd rfl (Or.inl rfl) (pe_bm0 PySem.F.plainAttrs_list PySem.F.slot_list_pop PySem.F.type_list_pop mt_pop (pv 3)))
        (pss_one (ps_if (pt_cmp (pc_dnotin hu (pv 4) (pv 2)))
          (pss_cons (ps_dput hu (pv 2) (pv 4) pe_bl rfl)
          (pss_one (ps_expr (pe_bm PySem.F.plainAttrs_list PySem.F.slot_list_extend PySem.F.type_list_extend mt_extend (pv 3) (pa_cons
            (pe_lc (own := [("target", 5), ("without", 6)]) (g := gTup K 2 (gCons (gName 5) (gCons (gName 6) gNil))) (tt := tTest (tOp (rIn K true) (tVar 1) (tVar 6))) (te := tVar 5) rfl scReached.nd (pi_list (pe_ix ix_list (pe_fld (pv 0) rfl) (pv 4) (fun _ _ => rfl)))
              (blkOk_by (N := nReached) (sc := defScope sReached) (by decide +kernel))
              (fun _ _ _ _ _ => pg_tup rfl (pgs_cons (pg_name (i := 5) scReached.nd rfl (Or.inl rfl)) (pgs_cons (pg_name (i := 6) scReached.nd rfl (Or.inl rfl)) pgs_nil)))
              (fun _ _ _ _ _ => pts_one (pt_cmpR op_notIn_seq (pv 1) (pv 6) (by rfl)))
              (fun _ _ _ _ _ => pv 5)) pa_nil))))) pss_nil))))
      (pss_one (ps_ret (pe_callTy (call_list_dK rfl) (by rfl) T.lst (by decide +kernel) (pa_cons (pv 2) pa_nil)))))), ?_⟩
    -- seen = {}
    intro d hd
    have s1 : Same H (upd H d (.dK [])) := same_new hd
    -- waiting = list(self.holders[name])
    obtain ⟨x, hx, ex⟩ := List.mem_map.mp hsD
    obtain ⟨di, hdi⟩ := List.getElem?_of_mem hx
    obtain ⟨hh, ehh, hb⟩ := pr_get hi.hol hdi
    have exs : hh.1 = s := by rw [← hb.1, ex]
    have hval : DGet (upd H d (.dK [])) ld (.str s) (some (.ref x.2)) := by
      have hv : valV (kvD D) (Sum.inr s : Key) = some (.ref x.2) := by
        cases e : valV (kvD D) (Sum.inr s : Key) with
        | none => exact absurd hsD (valD_none e)
        | some v =>
          obtain ⟨j, b, hj, rfl⟩ := valD_some e
          have g1 : (D.map (·.1))[di]? = some s := by rw [List.getElem?_map, hdi, ← ex]; rfl
          have g2 : (D.map (·.1))[j]? = some s := by rw [List.getElem?_map, hj]; rfl
          have e2 := nd_ix hi.keys g1 g2
          subst e2
          rw [hdi] at hj
          rw [Option.some.inj hj]
      have := DGet.k (k := (Sum.inr s : Key)) (s1 _ _ hi.dic)
      rw [hv] at this
      exact this
    refine ⟨_, rfl, p, C, dx, _, _, rfl, s1 _ _ hi.ins, T.cl, T.nH, pf_holders _ _, _, rfl, ld, _, rfl, hval, x.2, _, rfl, .inl (SqL.of (s1 _ _ hb.2)), fun l hl => ?_⟩
    have hld : l ≠ d := fun q => by rw [q, upd_same] at hl; cases hl
    have hl0 : H l = none := s1.free hl
    have hhm : hh ∈ hs := List.mem_of_getElem? ehh
    have hSh : ∀ r, r ∈ hh.2 → S r s := fun r hr' => (hm.hS r s).mpr ⟨hh.2, by rw [← exs]; exact hhm, hr'⟩
    have hSs : ∀ r, S r s → r ∈ hh.2 := fun r hr' => by
      obtain ⟨is, h1, h2⟩ := (hm.hS r s).mp hr'
      obtain ⟨j, hj⟩ := List.getElem?_of_mem h1
      obtain ⟨y, hy, hyb⟩ := pr_get' hi.hol hj
      have g1 : (D.map (·.1))[di]? = some s := by rw [List.getElem?_map, hdi, ← ex]; rfl
      have g2 : (D.map (·.1))[j]? = some s := by rw [List.getElem?_map, hy]; exact congrArg some hyb.1
      have e2 := nd_ix hi.keys g1 g2
      subst e2
      rw [ehh] at hj
      rw [Option.some.inj hj]
      exact h2
    have hin : ∀ r, Must S E r s → r < n := fun r h => by
      cases h with
      | base h => exact hm.hSn _ _ h
      | step _ h _ => exact hm.hEn _ _ _ h
    -- the loop
    refine ⟨fun m σ H2 => ∃ (seen wt : List Nat) (v4 : Option V), σ = [some (.ref p), some (.str s), some (.ref d), some (.ref l), v4, none, none] ∧ Same H H2 ∧ H2 d = some (.dK (kvS seen)) ∧ H2 l = some (.lst (wt.map nv)) ∧ seen.Nodup ∧
        (∀ r ∈ seen, Must S E r s) ∧ (∀ r ∈ wt, Must S E r s) ∧ (∀ r, S r s → r ∈ seen ∨ r ∈ wt) ∧ (∀ r ∈ seen, ∀ j w, E r j w → s ∉ w → j ∈ seen ∨ j ∈ wt) ∧ seen.length ≤ n ∧ m = wt.length + cost 0 ts seen ∧ m ≤ 660,
      ⟨_, [], hh.2, none, rfl, s1.trans (same_new hl), ?_, upd_same, List.nodup_nil, by simp, fun r h => .base (hSh r h), fun r h => .inr (hSs r h), by simp, Nat.zero_le _, rfl, ?_⟩, ?_⟩
    · rw [upd_ne hld.symm, upd_same]
      rfl
    · have h1 := cost_le B ts 0 [] hm.bt
      have h2 := hm.bi hh hhm
      rw [hm.hn] at h1
      have h3 : n * B ≤ 10 * 60 := Nat.mul_le_mul hn hB
      omega
    · rintro m σ H2 ⟨seen, wt, v4, rfl, sm, hsn, hwt, ndS, mS, mW, cS, cE, ln, em, lm⟩
      refine ⟨_, rfl, _, .inl ⟨_, SqL.of hwt, rfl⟩, ?_⟩
      cases wt with
      | nil =>
        refine iteF ?_
        -- return list(seen)
        refine ⟨_, rfl, d, _, rfl, hsn, fun q hq => ?_⟩
        refine k _ q seen (sm.trans (same_new hq)) (sm.free hq) ?_ ndS fun r => ⟨mS r, fun h => ?_⟩
        · rw [upd_same]
          unfold kvS
          rw [List.map_map]
          rfl
        · exact must_closed h (fun r h => (cS _ h).resolve_right (by simp)) fun r h j w h1 h2 => (cE _ h _ _ h1 h2).resolve_right (by simp)
      | cons y0 yr =>
        refine iteT ?_
        obtain ⟨wt', r, ewt⟩ : ∃ (wt' : List Nat) (r : Nat), y0 :: yr = wt' ++ [r] := ⟨(y0 :: yr).dropLast, (y0 :: yr).getLast (List.cons_ne_nil _ _), (List.dropLast_concat_getLast _).symm⟩
        rw [ewt] at hwt mW cS cE em
        have elen : (y0 :: yr).length = wt'.length + 1 := by rw [ewt, List.length_append]; rfl
        have elast : ((wt' ++ [r]).map nv)[((wt' ++ [r]).map nv).length - 1]? = some (nv r) := by
          rw [List.map_append, List.length_append]
          simp
        have hrM : Must S E r s := mW r (List.mem_append_right _ (List.mem_cons_self ..))
        have hrn := hin r hrM
        refine ⟨fun σ' H' => ∃ m', m' < m ∧ ∃ (seen wt : List Nat) (v4 : Option V), σ' = [some (.ref p), some (.str s), some (.ref d), some (.ref l), v4, none, none] ∧ Same H H' ∧ H' d = some (.dK (kvS seen)) ∧ H' l = some (.lst (wt.map nv)) ∧ seen.Nodup ∧
            (∀ r ∈ seen, Must S E r s) ∧ (∀ r ∈ wt, Must S E r s) ∧ (∀ r, S r s → r ∈ seen ∨ r ∈ wt) ∧ (∀ r ∈ seen, ∀ j w, E r j w → s ∉ w → j ∈ seen ∨ j ∈ wt) ∧ seen.length ≤ n ∧ m' = wt.length + cost 0 ts seen ∧ m' ≤ 660, fun _ _ h => h, ?_⟩
        -- row = waiting.pop()
        refine ⟨_, rfl, .inl ⟨rfl, _, SqL.of hwt⟩, l, _, _, rfl, rfl, hwt, elast, ?_⟩
        have edl : ((wt' ++ [r]).map nv).dropLast = wt'.map nv := by
          rw [List.map_append]
          exact List.dropLast_concat
        rw [edl]
        have hdl : d ≠ l := hld.symm
        have hd3 : (upd H2 l (.lst (wt'.map nv))) d = some (.dK (kvS seen)) := by rw [upd_ne hdl]; exact hsn
        have sm3 : Same H (upd H2 l (.lst (wt'.map nv))) := same_upd_at sm hl0
        have hl3 : (upd H2 l (.lst (wt'.map nv))) l = some (.lst (wt'.map nv)) := upd_same
        generalize upd H2 l (.lst (wt'.map nv)) = H3 at hd3 sm3 hl3
        -- if row not in seen
        refine ⟨_, rfl, _, rfl, d, _, rfl, DGet.k (k := (Sum.inl (r : Int) : Key)) hd3, _, rfl, ?_⟩
        rw [kvS_has]
        by_cases hrs : r ∈ seen
        · rw [decide_eq_true hrs]
          refine iteF ?_
          refine ⟨wt'.length + cost 0 ts seen, ?_, seen, wt', _, rfl, sm3, hd3, hl3, ndS, mS, fun a ha => mW a (List.mem_append_left _ ha), ?_, ?_, ln, rfl, ?_⟩
          · rw [em, List.length_append]
            simp
          · intro a ha
            rcases cS a ha with h | h
            · exact .inl h
            · rcases List.mem_append.mp h with h | h
              · exact .inr h
              · exact .inl (by rw [List.mem_singleton.mp h]; exact hrs)
          · intro a ha j w h1 h2
            rcases cE a ha j w h1 h2 with h | h
            · exact .inl h
            · rcases List.mem_append.mp h with h | h
              · exact .inr h
              · exact .inl (by rw [List.mem_singleton.mp h]; exact hrs)
          · rw [em, List.length_append] at lm
            simp at lm
            omega
        · rw [decide_eq_false hrs]
          refine iteT ?_
          -- seen[row] = True
          have hvn : valV (kvS seen) (Sum.inl (r : Int) : Key) = none := by
            have := kvS_has seen r
            rw [decide_eq_false hrs] at this
            cases e : valV (kvS seen) (Sum.inl (r : Int) : Key) with
            | none => rfl
            | some v =>
              rw [e] at this
              cases this
          have eput : putK (kvS seen) (Sum.inl (r : Int) : Key) (.bl true) = kvS (seen ++ [r]) := by
            rw [putK_new _ hvn]
            unfold kvS
            rw [List.map_append]
            rfl
          refine ⟨_, rfl, _, rfl, d, _, rfl, DPut.k (k := (Sum.inl (r : Int) : Key)) hd3 (by unfold kvS; rw [List.length_map]; exact small1000 (by omega)), ?_⟩
          rw [eput]
          have hd4 : (upd H3 d (.dK (kvS (seen ++ [r])))) d = some (.dK (kvS (seen ++ [r]))) := upd_same
          have sm4 : Same H (upd H3 d (.dK (kvS (seen ++ [r])))) := same_upd_at sm3 hd
          have hl4 : (upd H3 d (.dK (kvS (seen ++ [r])))) l = some (.lst (wt'.map nv)) := by rw [upd_ne hld]; exact hl3
          generalize upd H3 d (.dK (kvS (seen ++ [r]))) = H4 at hd4 sm4 hl4
          -- waiting.extend([..])
          have elas : as.length = n := by rw [hi.ll.its.length, hi.fl.length, hm.hn]
          have ea : as[r]? = some as[r] := List.getElem?_eq_getElem (by omega)
          generalize as[r] = a at ea
          obtain ⟨vs, evs, hva⟩ := pr_get hi.ll.its ea
          obtain ⟨fs, efs, hvf⟩ := pr_get hi.fl evs
          have hat : (as.map V.ref)[r]? = some (.ref a) := by rw [List.getElem?_map, ea]; rfl
          refine ⟨_, rfl, .inl ⟨rfl, _, SqL.of hl4⟩, _, rfl, p, C, dx, _, _, rfl, sm4 _ _ hi.ins, T.cl, T.nT, pf_targets _ _, _, rfl, lt, _, _, _, rfl, rfl, SqL.of (sm4 _ _ hi.ll.top), atI_nat hat, a, rfl, ⟨_, SqL.of (sm4 _ _ hva)⟩, fun X hX => ?_⟩
          have hX0 : H X = none := sm4.free hX
          have hlX : l ≠ X := ne_of_none hl4 hX
          have hdX : d ≠ X := ne_of_none hd4 hX
          refine lc_list (K := K) (a := a) (xs := vs) (fun i H5 => Same H4 H5 ∧ H5 X = some (.lst ((((fs.take i).filter fun g => decide (s ∉ g.2)).map (·.1)).map nv))) ⟨same_new hX, upd_same⟩ (fun i H5 _ q => SqL.of (q.1 _ _ (sm4 _ _ hva))) ?_ ?_
          · rintro i v H5 hv ⟨q1, q2⟩
            obtain ⟨g, eg, t, u, rfl, ht, hu'⟩ := pr_get hvf hv
            have sm5 : Same H H5 := sm4.trans q1
            refine ⟨t, _, rfl, SqT.of (sm5 _ _ ht), rfl, _, _, rfl, _, _, rfl, rfl, rfl, ?_⟩
            refine ⟨_, rfl, _, rfl, u, _, rfl, .inr (SqT.of (sm5 _ _ hu')), rfl, flat_str _, _, rfl, ?_⟩
            rw [inV_str]
            by_cases hsg : s ∈ g.2
            · rw [decide_eq_true hsg]
              refine iteF ⟨q1, ?_⟩
              rw [List.take_add_one, eg]
              show H5 X = some (HO.lst ((((fs.take i ++ [g]).filter fun g => decide (s ∉ g.2)).map (·.1)).map nv))
              rw [List.filter_append]
              have : [g].filter (fun g => decide (s ∉ g.2)) = [] := by simp [hsg]
              rw [this, List.append_nil]
              exact q2
            · rw [decide_eq_false hsg]
              refine iteT ⟨_, rfl, _, q2, ?_, ?_, ?_⟩
              · rw [List.length_map, List.length_map]
                refine Nat.lt_of_le_of_lt (List.length_filter_le _ _) ?_
                rw [List.length_take]
                exact Nat.lt_of_le_of_lt (Nat.min_le_right _ _) (small1000 (by have := hm.bt fs (List.mem_of_getElem? efs); omega))
              · exact fun b o h => by
                  rw [upd_ne (ne_of_none h hX)]
                  exact q1 b o h
              · rw [upd_same, List.take_add_one, eg]
                show some (HO.lst _) = some (HO.lst ((((fs.take i ++ [g]).filter fun g => decide (s ∉ g.2)).map (·.1)).map nv))
                rw [List.filter_append]
                have : [g].filter (fun g => decide (s ∉ g.2)) = [g] := by simp [hsg]
                rw [this, List.map_append, List.map_append]
                rfl
          · rintro H5 ⟨q1, q2⟩
            rw [hvf.length, List.take_length] at q2
            have sm5 : Same H H5 := sm4.trans q1
            have hl5 := q1 _ _ hl4
            have hd5 := q1 _ _ hd4
            have lwt : wt'.length + 1 + cost 0 ts seen ≤ 660 := by
              rw [em, List.length_append] at lm
              exact lm
            have hfl : ((fs.filter fun g => decide (s ∉ g.2)).map (·.1)).length ≤ fs.length := by
              rw [List.length_map]
              exact List.length_filter_le _ _
            have hc := cost_add r ts 0 r seen fs (by omega) (by
              have h1 := efs
              exact h1) hrs
            have hnw : ∀ j, j ∈ (fs.filter fun g => decide (s ∉ g.2)).map (·.1) ↔ ∃ w, E r j w ∧ s ∉ w := fun j => by
              rw [List.mem_map]
              constructor
              · rintro ⟨g, hg, rfl⟩
                obtain ⟨g1, g2⟩ := List.mem_filter.mp hg
                exact ⟨g.2, (hm.hE _ _ _).mpr ⟨fs, efs, g1⟩, of_decide_eq_true g2⟩
              · rintro ⟨w, h1, h2⟩
                obtain ⟨fs', e', h3⟩ := (hm.hE _ _ _).mp h1
                rw [efs] at e'
                cases Option.some.inj e'
                exact ⟨(j, w), List.mem_filter.mpr ⟨h3, decide_eq_true h2⟩, rfl⟩
            generalize (fs.filter fun g => decide (s ∉ g.2)).map (·.1) = nw at q2 hfl hnw
            refine ⟨l, X, _, _, rfl, rfl, hl5, q2, ?_, ?_⟩
            · rw [List.length_map, List.length_map]
              exact Nat.le_of_lt (small1000 (by omega))
            refine ⟨(wt' ++ nw).length + cost 0 ts (seen ++ [r]), ?_, seen ++ [r], wt' ++ nw, _, rfl, same_upd_at sm5 hl0, by rw [upd_ne hld.symm]; exact hd5, ?_, ?_, ?_, ?_, ?_, ?_, ?_, rfl, ?_⟩
            · rw [em, List.length_append, List.length_append]
              simp
              omega
            · rw [upd_same, List.map_append]
            · exact List.nodup_append.mpr ⟨ndS, by simp, fun x hx y hy e => hrs (by rw [List.mem_singleton.mp hy] at e; rw [← e]; exact hx)⟩
            · intro x hx
              rcases List.mem_append.mp hx with h | h
              · exact mS x h
              · rw [List.mem_singleton.mp h]; exact hrM
            · intro x hx
              rcases List.mem_append.mp hx with h | h
              · exact mW x (List.mem_append_left _ h)
              · obtain ⟨w, h1, h2⟩ := (hnw x).mp h
                exact .step hrM h1 h2
            · intro x hx
              rcases cS x hx with h | h
              · exact .inl (List.mem_append_left _ h)
              · rcases List.mem_append.mp h with h | h
                · exact .inr (List.mem_append_left _ h)
                · exact .inl (List.mem_append_right _ h)
            · intro x hx j w h1 h2
              rcases List.mem_append.mp hx with h | h
              · rcases cE x h j w h1 h2 with h | h
                · exact .inl (List.mem_append_left _ h)
                · rcases List.mem_append.mp h with h | h
                  · exact .inr (List.mem_append_left _ h)
                  · exact .inl (List.mem_append_right _ h)
              · rw [List.mem_singleton.mp h] at h1
                exact .inr (List.mem_append_right _ ((hnw j).mpr ⟨w, h1, h2⟩))
            · rw [List.length_append]
              have h1 : (seen ++ [r]).length ≤ n := nodup_le (List.nodup_append.mpr ⟨ndS, by simp, fun x hx y hy e => hrs (by rw [List.mem_singleton.mp hy] at e; rw [← e]; exact hx)⟩) fun x hx => by
                rcases List.mem_append.mp hx with h | h
                · exact hin x (mS x h)
                · rw [List.mem_singleton.mp h]; exact hrn
              rw [List.length_append] at h1
              exact h1
            · rw [List.length_append]
              omega
end
end Ka


set_option Elab.async false
set_option linter.all false
set_option maxRecDepth 100000
set_option maxHeartbeats 4000000
namespace Ka
open PySem PySem.Spec L2 PyProof.Rows Km
def ResAt (H : Hp) (q : Addr) (rows : List (List Str)) : Prop := ∃ ps : List Addr, H q = some (HO.lst (ps.map V.ref)) ∧ Paired (fun a (r : List Str) => H a = some (HO.tup (r.map V.str))) ps rows
theorem ResAt.same {H H' : Hp} {q : Addr} {rows : List (List Str)} (h : ResAt H q rows) (k : Same H H') : ResAt H' q rows := by
  obtain ⟨ps, h1, h2⟩ := h
  exact ⟨ps, k _ _ h1, pr_mono h2 fun a r _ _ e => k _ _ e⟩
def spLeast (C : Addr) : Sp := fun vs H Q _ => ∃ (p : Addr) (n : Nat) (S : Nat → Str → Prop) (E : Nat → Nat → List Str → Prop) (B : Nat) (F : Addr → Prop), vs = [.ref p] ∧ RwAt C H p n S E B F ∧ n ≤ 10 ∧ B ≤ 60 ∧
  ∀ (H' : Hp) (q : Addr) (rows : List (List Str)), Same H H' → H q = none → ResAt H' q rows → Least n (Must S E) rows → Q (.ref q) H'
open Classical in
noncomputable def fr (S : Nat → Str → Prop) (E : Nat → Nat → List Str → Prop) (ys : List Str) (r : Nat) : List Str := ys.filter fun s => decide (Must S E r s)
theorem set_range {α : Type} {n r : Nat} {g : Nat → α} {y : α} (hr : r < n) : ((List.range n).map g).set r y = (List.range n).map fun k => if k = r then y else g k := by
  apply List.ext_getElem?
  intro i
  by_cases e : r = i
  · subst e
    rw [List.getElem?_set_self (by rw [List.length_map, List.length_range]; exact hr), List.getElem?_map, List.getElem?_range hr]
    simp
  · rw [List.getElem?_set_ne e, List.getElem?_map, List.getElem?_map]
    by_cases hi : i < n
    · rw [List.getElem?_range hi]
      show some (g i) = some (if i = r then y else g i)
      rw [if_neg fun q => e q.symm]
    · rw [List.getElem?_eq_none (by rw [List.length_range]; omega)]
      rfl
theorem must_hold {S : Nat → Str → Prop} {E : Nat → Nat → List Str → Prop} {r : Nat} {s : Str} (h : Must S E r s) : ∃ i, S i s := by
  induction h with
  | base h => exact ⟨_, h⟩
  | step _ _ _ ih => exact ih
section
variable {P : Program} {w : World} {K : PySem.W.Frag} {mg : Str → Option Value} {base : Heap}
abbrev nLeast : List Str := ["self", "found", "name", "row", "_", "names"]
theorem scLeast : FnScope nLeast ["self"] (defScope sLeast) := ⟨rfl, rfl, rfl, by decide +kernel, rfl, by decide +kernel, by decide +kernel⟩
theorem ok_least {f fR C : Addr} {fd fdR : FuncData} (F : Fun K "least" "Rows.least" sLeast f fd) (T : Txt K mg C) (FR : Fun K "reached" "Rows.reached" sReached fR fdR) (bR : Binds K fdR ["self", "name"] []) (mR : Meth K C "reached" fR) : FnOk P w K mg base CX0 2 f fd ["self"] (spLeast C) := by
  have GR : FnOk P w K mg base CX0 1 fR fdR ["self", "name"] (spReached C) := ok_reached FR T
  refine F.ok scLeast (fun vs H Q E h => ?_) (fun cdv A outer s H vs Q E hr h => ?_)
  · obtain ⟨p, n, S, E, B, F, rfl, _⟩ := h
    rfl
  · obtain ⟨p, n, S, E, B, F, rfl, ⟨dx, lt, ld, as, vss, D, ts, hs, hi, hm, rfl⟩, hn, hB, k⟩ := h
    refine ⟨_, pss_cons (ps_setLc (i := 1) (own := [("_", 4)]) (g := gName 4) (tt := tYes) (te := tLst tNil) rfl scLeast.nd rfl rfl (sw_true rfl rfl rfl (by decide +kernel)) (pi_list (pe_fld (pv 0) rfl))
        (blkOk_by (N := nLeast) (sc := defScope sLeast) (by decide +kernel)) (fun _ _ _ _ _ => pg_name (i := 4) scLeast.nd rfl (Or.inl rfl)) (fun _ _ _ _ _ => pts_nil) (fun _ _ _ _ _ => pe_lst pa_nil))
      (pss_cons (ps_for PassesOwn.never rfl (pi_list (pe_callB (call_sortedD rfl) (by rfl) T.srt (by decide +kernel) (pa_cons (pe_fld (pv 0) rfl) pa_nil))) (pg_name (i := 2) scLeast.nd rfl (Or.inl rfl))
        (pss_one (ps_for PassesOwn.never rfl (pi_list (pe_meth (pv 0) T.cl mR GR hr bR .nil pass0 (pa_cons (pv 2) pa_nil))) (pg_name (i := 3) scLeast.nd rfl (Or.inl rfl))
          (pss_one (ps_expr (pe_bm PySem.F.plainAttrs_list PySem.F.slot_list_append PySem.F.type_list_append mt_append (pe_ix ix_list (pv 1) (pv 3) (fun _ _ => rfl)) (pa_cons (pv 2) pa_nil)))))))
      (pss_one (ps_ret (pe_lc (own := [("names", 5)]) (g := gName 5) (tt := tYes) (te := tThen (tVar 5) (kTup K)) rfl scLeast.nd (pi_list (pv 1)) (blkOk_by (N := nLeast) (sc := defScope sLeast) (by decide +kernel))
        (fun _ _ _ _ _ => pg_name (i := 5) scLeast.nd rfl (Or.inl rfl)) (fun _ _ _ _ _ => pts_nil) (fun _ _ _ _ _ => pe_tupleOf (by rfl) T.tup (pv 5)))))), ?_⟩
    have elen : as.length = n := by rw [hi.ll.its.length, hi.fl.length, hm.hn]
    -- found = [[] for _ in self.targets]
    refine ⟨_, rfl, p, C, dx, _, _, rfl, hi.ins, T.cl, T.nT, pf_targets _ _, lt, rfl, ⟨_, SqL.of hi.ll.top⟩, fun L hL => ?_⟩
    refine lc_list (K := K) (a := lt) (xs := as.map V.ref) (fun i H2 => Same H H2 ∧ ∃ bs, LL H2 L bs (List.replicate i []) ∧ ∀ b ∈ L :: bs, H b = none) ⟨same_new hL, [], ⟨by simp, by rw [upd_same]; rfl, .nil⟩, fun b hb => by rw [List.mem_singleton.mp hb]; exact hL⟩ (fun i H2 _ q => SqL.of (q.1 _ _ hi.ll.top)) ?_ ?_
    · rintro i v H2 hv ⟨q1, bs, q2, q3⟩
      refine ⟨rfl, Nat.zero_le _, fun l hl => ?_⟩
      have hLl : L ≠ l := ne_of_none q2.top hl
      have hl0 : H l = none := q1.free hl
      have ebs : bs.length = i := by rw [q2.its.length, List.length_replicate]
      refine ⟨_, by rw [upd_ne hLl]; exact q2.top, ?_, ?_, bs ++ [l], ?_, ?_⟩
      · rw [List.length_map, ebs]
        have := (List.getElem?_eq_some_iff.mp hv).1
        rw [List.length_map] at this
        exact small1000 (by omega)
      · exact same_upd_at (same_upd_at q1 hl0) (q3 L (List.mem_cons_self ..))
      · have := q2.push (ys := []) hl
        rw [show List.replicate (i + 1) ([] : List V) = List.replicate i [] ++ [[]] from List.replicate_succ']
        exact this
      · intro b hb
        rcases List.mem_cons.mp hb with e | e
        · exact q3 b (by rw [e]; exact List.mem_cons_self ..)
        · rcases List.mem_append.mp e with e | e
          · exact q3 b (List.mem_cons_of_mem _ e)
          · rw [List.mem_singleton.mp e]; exact hl0
    rintro H2 ⟨q1, bs, q2, q3⟩
    rw [List.length_map, elen] at q2
    -- for name in sorted(self.holders)
    have ekeys : (kvD D).map (·.1) = (D.map (·.1)).map (Sum.inr : Str → Key) := by
      unfold kvD
      rw [List.map_map, List.map_map]
      rfl
    refine ⟨_, rfl, p, C, dx, _, _, rfl, q1 _ _ hi.ins, T.cl, T.nH, pf_holders _ _, ld, _, D.map (·.1), rfl, .inl (q1 _ _ hi.dic), ekeys, ?_, fun ys z hperm hsrt hz => ?_⟩
    · rw [List.length_map, hi.hol.length]
      have := hm.bh
      omega
    have hys : ys.Nodup := hperm.nodup_iff.mpr hi.keys
    have hpw := sorted_pw hsrt
    have hzL : ∀ b ∈ L :: bs, z ≠ b := fun b hb q => by
      obtain ⟨xs, e⟩ := q2.tracked hb
      rw [← q, hz] at e
      cases e
    have q2' : LL (upd H2 z (.lst (ys.map V.str))) L bs (List.replicate n []) := q2.stay (F := F0) (ch_new hz) fun _ _ f => f
    have q1' : Same H (upd H2 z (.lst (ys.map V.str))) := q1.trans (same_new hz)
    have hz' : (upd H2 z (.lst (ys.map V.str))) z = some (.lst (ys.map V.str)) := upd_same
    generalize upd H2 z (.lst (ys.map V.str)) = H3 at q2' q1' hz'
    classical
    have hinv : ∀ {i : Nat} {s : Str}, ys[i]? = some s → ∀ r, fr S E (ys.take (i + 1)) r = fr S E (ys.take i) r ++ (open Classical in if Must S E r s then [s] else []) := fun {i s} hs' r => by
      unfold fr
      rw [List.take_add_one, hs', List.filter_append]
      congr 1
      show List.filter _ [s] = _
      rw [List.filter_cons]
      split <;> rename_i h1
      · rw [if_pos (of_decide_eq_true h1)]
        rfl
      · rw [if_neg fun q => h1 (decide_eq_true q)]
        rfl
    refine ⟨z, rfl, ⟨_, SqL.of hz'⟩, for_list (K := K) (a := z) (xs := ys.map V.str) (fun i σ H4 => ∃ v2 v3, σ = [some (.ref p), some (.ref L), v2, v3, none, none] ∧ Same H H4 ∧ H4 z = some (.lst (ys.map V.str)) ∧ LL H4 L bs ((List.range n).map fun r => (fr S E (ys.take i) r).map V.str))
      ⟨none, none, rfl, q1', hz', ?_⟩ (fun i σ H4 _ ⟨_, _, _, _, q, _⟩ => SqL.of q) ?_ ?_⟩
    · have e : (List.range n).map (fun r => (fr S E (ys.take 0) r).map V.str) = List.replicate n ([] : List V) := by
        apply List.ext_getElem?
        intro i
        rw [List.getElem?_map, List.getElem?_replicate]
        by_cases hi' : i < n
        · rw [List.getElem?_range hi', if_pos hi']
          rfl
        · rw [List.getElem?_eq_none (by rw [List.length_range]; omega), if_neg hi']
          rfl
      rw [e]
      exact q2'
    · rintro i x σ H4 hx ⟨v2, v3, rfl, s4, hz4, ll4⟩
      rw [List.getElem?_map] at hx
      cases es : ys[i]? with
      | none =>
        rw [es] at hx
        cases hx
      | some s =>
        rw [es] at hx
        obtain rfl : V.str s = x := Option.some.inj hx
        have hi4 : RwIn C H4 p dx lt ld as vss D ts hs := hi.stay (F := F0) (ch_of_same s4) fun _ _ f => f
        have hsD : s ∈ D.map (·.1) := hperm.mem_iff.mp (List.mem_of_getElem? es)
        refine ⟨_, rfl, p, dx, _, rfl, hi4.ins, pf_no _ _ (by decide +kernel) (by decide +kernel), _, rfl, p, dx, lt, ld, as, vss, D, ts, hs, n, S, E, B, s, rfl, hi4, hm, hn, hB, hsD, fun H5 q rs s5 hq hq5 nd5 mem5 => ?_⟩
        have hrn : ∀ r ∈ rs, r < n := fun r hr' => by
          cases (mem5 r).mp hr' with
          | base h => exact hm.hSn _ _ h
          | step _ h _ => exact hm.hEn _ _ _ h
        have hqL : ∀ b ∈ L :: bs, q ≠ b := fun b hb e => by
          obtain ⟨xs, e'⟩ := ll4.tracked hb
          rw [← e, hq] at e'
          cases e'
        have hqz : q ≠ z := fun e => by
          rw [e, hz4] at hq
          cases hq
        have ll5 := ll4.stay (F := F0) (ch_of_same s5) fun _ _ f => f
        refine ⟨q, rfl, ⟨_, SqL.of hq5⟩, for_list (K := K) (a := q) (xs := rs.map nv) (fun j σ H6 => ∃ v3, σ = [some (.ref p), some (.ref L), some (.str s), v3, none, none] ∧ Same H H6 ∧ H6 z = some (.lst (ys.map V.str)) ∧ H6 q = some (.lst (rs.map nv)) ∧
            LL H6 L bs ((List.range n).map fun r => (fr S E (ys.take i) r ++ if r ∈ rs.take j then [s] else []).map V.str))
          ⟨v3, rfl, s4.trans s5, s5 _ _ hz4, hq5, ?_⟩ (fun j σ H6 _ ⟨_, _, _, _, h, _⟩ => SqL.of h) ?_ ?_⟩
        · have e : ((List.range n).map fun r => (fr S E (ys.take i) r ++ if r ∈ rs.take 0 then [s] else []).map V.str) = (List.range n).map fun r => (fr S E (ys.take i) r).map V.str := by
            apply List.map_congr_left
            intro r _
            simp
          rw [e]
          exact ll5
        · rintro j x σ H6 hx ⟨v3, rfl, s6, hz6, hq6, ll6⟩
          rw [List.getElem?_map] at hx
          cases er : rs[j]? with
          | none =>
            rw [er] at hx
            cases hx
          | some r =>
            rw [er] at hx
            obtain rfl : nv r = x := Option.some.inj hx
            have hr' : r < n := hrn r (List.mem_of_getElem? er)
            have ebs : bs.length = n := by rw [ll6.its.length, List.length_map, List.length_range]
            have eb : bs[r]? = some bs[r] := List.getElem?_eq_getElem (by omega)
            generalize bs[r] = b at eb
            have hbm : b ∈ L :: bs := List.mem_cons_of_mem _ (List.mem_of_getElem? eb)
            obtain ⟨xs, exs, hxs⟩ := pr_get ll6.its eb
            rw [List.getElem?_map, List.getElem?_range hr'] at exs
            have exs' : (fr S E (ys.take i) r ++ if r ∈ rs.take j then [s] else []).map V.str = xs := Option.some.inj exs
            have hrt : r ∉ rs.take j := fun m => by
              obtain ⟨j', hj'⟩ := List.getElem?_of_mem m
              have hlt := (List.getElem?_eq_some_iff.mp hj').1
              rw [List.length_take] at hlt
              rw [List.getElem?_take_of_lt (by omega)] at hj'
              have := nd_ix nd5 hj' er
              omega
            refine ⟨_, rfl, _, rfl, L, _, _, V.ref b, rfl, rfl, SqL.of ll6.top, atI_nat (j := r) (v := V.ref b) (by rw [List.getElem?_map, eb]; rfl), .inl ⟨rfl, _, SqL.of hxs⟩, _, rfl, b, _, _, rfl, rfl, hxs, ?_, ?_⟩
            · rw [← exs', List.length_map, if_neg hrt, List.append_nil]
              unfold fr
              refine Nat.lt_of_le_of_lt (List.length_filter_le _ _) ?_
              rw [List.length_take]
              refine Nat.lt_of_le_of_lt (Nat.min_le_right _ _) (small1000 ?_)
              rw [hperm.length_eq, List.length_map, hi.hol.length]
              have := hm.bh
              omega
            · refine ⟨_, rfl, same_upd_at s6 (q3 b hbm), ?_, ?_, ?_⟩
              · rw [upd_ne (hzL b hbm)]; exact hz6
              · rw [upd_ne (hqL b hbm)]; exact hq6
              · have h1 := ll6.set (ys := xs ++ [.str s]) eb
                rw [set_range hr'] at h1
                have e : (List.range n).map (fun k => if k = r then xs ++ [V.str s] else (fr S E (ys.take i) k ++ if k ∈ rs.take j then [s] else []).map V.str) = (List.range n).map fun k => (fr S E (ys.take i) k ++ if k ∈ rs.take (j + 1) then [s] else []).map V.str := by
                  apply List.map_congr_left
                  intro k _
                  have ht : k ∈ rs.take (j + 1) ↔ k ∈ rs.take j ∨ k = r := by
                    rw [List.take_add_one, er, List.mem_append]
                    show _ ∨ k ∈ [r] ↔ _
                    rw [List.mem_singleton]
                  by_cases e : k = r
                  · rw [if_pos e, if_pos (ht.mpr (.inr e)), ← exs', if_neg hrt, List.append_nil, List.map_append, e]
                    rfl
                  · rw [if_neg e]
                    by_cases e2 : k ∈ rs.take j
                    · rw [if_pos e2, if_pos (ht.mpr (.inl e2))]
                    · rw [if_neg e2, if_neg fun z => (ht.mp z).elim e2 e]
                rw [e] at h1
                exact h1
        · rintro σ H6 ⟨v3, rfl, s6, hz6, hq6, ll6⟩
          refine ⟨_, v3, rfl, s6, hz6, ?_⟩
          rw [List.length_map, List.take_length] at ll6
          have e : ((List.range n).map fun r => (fr S E (ys.take i) r ++ if r ∈ rs then [s] else []).map V.str) = (List.range n).map fun r => (fr S E (ys.take (i + 1)) r).map V.str := by
            apply List.map_congr_left
            intro r _
            rw [hinv es]
            by_cases h : Must S E r s
            · rw [if_pos h, if_pos ((mem5 r).mpr h)]
            · rw [if_neg h, if_neg fun q => h ((mem5 r).mp q)]
          rw [e] at ll6
          exact ll6
    · rintro σ H4 ⟨v2, v3, rfl, s4, hz4, ll4⟩
      rw [List.length_map, List.take_length] at ll4
      -- return [tuple(names) for names in found]
      refine ⟨_, rfl, L, rfl, ⟨_, SqL.of ll4.top⟩, fun X hX => ?_⟩
      have hX0 : H X = none := s4.free hX
      have ebs : bs.length = n := by rw [ll4.its.length, List.length_map, List.length_range]
      refine lc_list (K := K) (a := L) (xs := bs.map V.ref) (fun i H5 => Same H4 H5 ∧ ∃ ps : List Addr, H5 X = some (.lst (ps.map V.ref)) ∧ Paired (fun a (r : List Str) => H5 a = some (HO.tup (r.map V.str))) ps (((List.range n).map (fr S E ys)).take i))
        ⟨same_new hX, [], by rw [upd_same]; rfl, .nil⟩ (fun i H5 _ q => SqL.of (q.1 _ _ ll4.top)) ?_ ?_
      · rintro i x H5 hx ⟨s5, ps, h1, h2⟩
        rw [List.getElem?_map] at hx
        cases eb : bs[i]? with
        | none =>
          rw [eb] at hx
          cases hx
        | some b =>
          rw [eb] at hx
          obtain rfl : V.ref b = x := Option.some.inj hx
          obtain ⟨xs, exs, hxs⟩ := pr_get ll4.its eb
          have hin : i < n := by
            have := (List.getElem?_eq_some_iff.mp eb).1
            omega
          rw [List.getElem?_map, List.getElem?_range hin] at exs
          have exs' : (fr S E ys i).map V.str = xs := Option.some.inj exs
          have egi : ((List.range n).map (fr S E ys))[i]? = some (fr S E ys i) := by
            rw [List.getElem?_map, List.getElem?_range hin]
            rfl
          refine ⟨rfl, _, rfl, .inl ⟨b, xs, rfl, SqL.of (s5 _ _ hxs), fun t ht => ?_⟩⟩
          have hXt : X ≠ t := ne_of_none h1 ht
          have eps : ps.length = i := by
            rw [h2.length, List.length_take, List.length_map, List.length_range]
            omega
          refine ⟨_, by rw [upd_ne hXt]; exact h1, ?_, ?_, ps ++ [t], ?_, ?_⟩
          · rw [List.length_map, eps]
            exact small1000 (by omega)
          · intro a o e
            rw [upd_ne (ne_of_none e hX), upd_ne (ne_of_none (s5 _ _ e) ht)]
            exact s5 _ _ e
          · rw [upd_same, List.map_append]
            rfl
          · rw [List.take_add_one, egi]
            refine Paired.snoc (pr_mono h2 fun a r ha _ e => ?_) ?_
            · rw [upd_ne (ne_of e h1 (by intro z; cases z)), upd_ne (ne_of_none e ht)]
              exact e
            · rw [upd_ne hXt.symm, upd_same, ← exs']
      · rintro H5 ⟨s5, ps, h1, h2⟩
        rw [List.length_map, ebs] at h2
        rw [List.take_of_length_le (by rw [List.length_map, List.length_range]; exact Nat.le_refl _)] at h2
        refine k _ X ((List.range n).map (fr S E ys)) (s4.trans s5) hX0 ⟨ps, h1, h2⟩ ⟨by rw [List.length_map, List.length_range], ?_, ?_, ?_⟩
        · intro i r hr'
          rw [List.getElem?_map] at hr'
          cases ei : (List.range n)[i]? with
          | none => rw [ei] at hr'; cases hr'
          | some j =>
            rw [ei] at hr'
            rw [← Option.some.inj hr']
            exact hpw.sublist List.filter_sublist
        · intro i r hr'
          rw [List.getElem?_map] at hr'
          cases ei : (List.range n)[i]? with
          | none => rw [ei] at hr'; cases hr'
          | some j =>
            rw [ei] at hr'
            rw [← Option.some.inj hr']
            exact hys.sublist List.filter_sublist
        · intro i r hr' s
          rw [List.getElem?_map] at hr'
          cases ei : (List.range n)[i]? with
          | none => rw [ei] at hr'; cases hr'
          | some j =>
            have hj := List.getElem?_eq_some_iff.mp ei
            have ej : j = i := by
              have := hj.2
              rw [List.getElem_range] at this
              exact this.symm
            subst ej
            rw [ei] at hr'
            rw [← Option.some.inj hr']
            unfold fr
            rw [List.mem_filter]
            constructor
            · exact fun q => of_decide_eq_true q.2
            · intro q
              refine ⟨?_, decide_eq_true q⟩
              obtain ⟨i', h'⟩ := must_hold q
              obtain ⟨is, h3, h4⟩ := (hm.hS _ _).mp h'
              obtain ⟨d, hd⟩ := List.getElem?_of_mem h3
              obtain ⟨e, he, hb⟩ := pr_get' hi.hol hd
              exact hperm.mem_iff.mpr (List.mem_map.mpr ⟨e, List.mem_of_getElem? he, hb.1⟩)
end
end Ka


set_option Elab.async false
set_option linter.all false
set_option maxRecDepth 100000
set_option maxHeartbeats 4000000
namespace Ka
open PySem PySem.Spec L2 PyProof.Rows Km
inductive Cond where
  | contain (i : Nat) (s : Str)
  | same (i j : Nat)
  | flow (i j : Nat) (w : List Str)
def names5 : List Str := ["a", "b", "c", "dd", "e"]
def CondOk (n : Nat) : Cond → Prop
  | .contain i s => i < n ∧ s ∈ names5
  | .same i j => i < n ∧ j < n
  | .flow i j w => i < n ∧ j < n
def CondAt (H : Hp) (U : Addr → Prop) (v : V) : Cond → Prop
  | .contain i s => ∃ t, v = .ref t ∧ H t = some (HO.tup [.str "contain", nv i, .str s])
  | .same i j => ∃ t, v = .ref t ∧ H t = some (HO.tup [.str "same", nv i, nv j])
  | .flow i j w => ∃ t u, v = .ref t ∧ H t = some (HO.tup [.str "flow", nv i, nv j, .ref u]) ∧ H u = some (HO.lst (w.map V.str)) ∧ U u
theorem CondAt.stay {F U U' : Addr → Prop} {H H' : Hp} {v : V} {c : Cond} (h : CondAt H U v c) (k : Ch F H H') (n : ∀ u, U u → ¬ F u) (hU : ∀ u, U u → U' u) : CondAt H' U' v c := by
  cases c with
  | contain i s =>
    obtain ⟨t, e, h1⟩ := h
    exact ⟨t, e, k.tup _ _ h1⟩
  | same i j =>
    obtain ⟨t, e, h1⟩ := h
    exact ⟨t, e, k.tup _ _ h1⟩
  | flow i j w =>
    obtain ⟨t, u, e, h1, h2, h3⟩ := h
    exact ⟨t, u, e, k.tup _ _ h1, k.keep _ _ h2 (n u h3), hU u h3⟩
def spCond : Sp := fun vs H Q _ => ∃ (s c : Addr) (n : Nat), vs = [.ref s, nv n] ∧ StAt H s c ∧ 0 < n ∧ n ≤ 10 ∧
  ∀ (H' : Hp) (v : V) (cnd : Cond) (U : Addr → Prop), StAt H' s c → Ch (Fst s c) H H' → CondOk n cnd → CondAt H' U v cnd → (∀ u, U u → H u = none ∧ ∃ o, H' u = some o) → Q v H'
section
variable {P : Program} {w : World} {K : PySem.W.Frag} {mg : Str → Option Value} {base : Heap}
abbrev nCond : List Str := ["_law_state_here", "_law_count", "_law_names", "_law_kind", "_law_one", "_law_two", "_law_name"]
theorem scCond : FnScope nCond ["_law_state_here", "_law_count"] (defScope sCond) := ⟨rfl, rfl, rfl, by decide +kernel, rfl, by decide +kernel, by decide +kernel⟩
theorem ok_cond {f fT : Addr} {fd fdT : FuncData} (F : Fun K "_law_condition" "_law_condition" sCond f fd) (FT : Fun K "_law_take" "_law_take" sTake fT fdT) (bT : Binds K fdT ["_law_state_here", "_law_most"] []) (gT : mg "_law_take" = some (.ref fT))
    (ml : mg "len" = none) (mi : mg "int" = none) : FnOk P w K mg base CX0 2 f fd ["_law_state_here", "_law_count"] spCond := by
  have GT : FnOk P w K mg base CX0 1 fT fdT ["_law_state_here", "_law_most"] spTake := ok_take FT ml mi
  refine F.ok scCond (fun vs H Q E h => ?_) (fun cdv A outer s H vs Q E hr h => ?_)
  · obtain ⟨s, c, n, rfl, _⟩ := h
    rfl
  · obtain ⟨a, c, n, rfl, hS, hn0, hn, k⟩ := h
    refine ⟨_, pss_cons (ps_set (i := 2) scCond.nd rfl (Or.inl rfl) (pe_lst (pa_cons pe_str (pa_cons pe_str (pa_cons pe_str (pa_cons pe_str (pa_cons pe_str pa_nil)))))))
      (pss_cons (ps_set (i := 3) scCond.nd rfl (Or.inl rfl) (pe_call GT hr (by rfl) gT FT.kp bT .nil pass0 (pa_cons (pv 0) (pa_cons pe_int pa_nil))))
      (pss_cons (ps_par (i := 4) (j := 5) (by rfl) scCond.nd rfl rfl (by decide) rfl rfl (pa_cons (pe_call GT hr (by rfl) gT FT.kp bT .nil pass0 (pa_cons (pv 0) (pa_cons (pv 1) pa_nil))) (pa_cons (pe_call GT hr (by rfl) gT FT.kp bT .nil pass0 (pa_cons (pv 0) (pa_cons (pv 1) pa_nil))) pa_nil)) (by rfl))
      (pss_cons (ps_if (pt_cmpR op_lt (pv 3) pe_int (nomark _))
        (pss_one (ps_ret (pe_tup (pa_cons pe_str (pa_cons (pv 4) (pa_cons (pe_ix ix_list (pv 2) (pe_call GT hr (by rfl) gT FT.kp bT .nil pass0 (pa_cons (pv 0) (pa_cons pe_int pa_nil))) (fun _ _ => rfl)) pa_nil)))))) pss_nil)
      (pss_cons (ps_if (pt_cmpR op_eq (pv 3) pe_int (nomark _))
        (pss_one (ps_ret (pe_tup (pa_cons pe_str (pa_cons (pv 4) (pa_cons (pv 5) pa_nil)))))) pss_nil)
      (pss_one (ps_ret (pe_tup (pa_cons pe_str (pa_cons (pv 4) (pa_cons (pv 5) (pa_cons
        (pe_lc (own := [("_law_name", 6)]) (g := gName 6) rfl scCond.nd (pi_list (pv 2)) (blkOk_by (N := nCond) (sc := defScope sCond) (by decide +kernel))
          (fun _ _ _ _ _ => pg_name (i := 6) scCond.nd rfl (Or.inl rfl))
          (fun _ _ _ _ _ => pts_one (pt_cmpR op_eq (pe_call GT hr (by rfl) gT FT.kp bT .nil pass0 (pa_cons (pv 0) (pa_cons pe_int pa_nil))) pe_int (nomark _)))
          (fun _ _ _ _ _ => pv 6)) pa_nil))))))))))), ?_⟩
    -- names
    refine ⟨by show 5 ≤ sizeLine; decide, fun L hL => ?_⟩
    have sL : Same H (upd H L (.lst (names5.map V.str))) := same_new hL
    have hLL : (upd H L (.lst (names5.map V.str))) L = some (.lst (names5.map V.str)) := upd_same
    have hS1 := hS.stay (F := F0) (ch_of_same sL) (fun f => f) fun f => f
    have hLa : L ≠ a := fun q => by obtain ⟨_, _, h1, _⟩ := hS; rw [← q, hL] at h1; cases h1
    have hLc : L ≠ c := fun q => by obtain ⟨_, _, _, h1, _⟩ := hS; rw [← q, hL] at h1; cases h1
    have hLF : ¬ Fst a c L := fun q => q.elim hLa hLc
    have c1 : Ch (Fst a c) H (upd H L (.lst (names5.map V.str))) := ch_of_same sL
    show gName 2 (.ref L) _ (upd H L (.lst (names5.map V.str))) _
    generalize upd H L (.lst (names5.map V.str)) = H1 at sL hLL hS1 c1
    -- kind
    refine ⟨_, rfl, a, c, 6, rfl, by decide, by decide, hS1, fun H2 kd hS2 c2 k0 k1 => ?_⟩
    have hL2 := c2.keep _ _ hLL hLF
    have c12 := c1.trans c2 fun x f => .inl f
    -- one, two
    refine ⟨_, rfl, _, rfl, a, c, n, rfl, by omega, by omega, hS2, fun H3 z1 hS3 c3 a0 a1 => ?_⟩
    have hL3 := c3.keep _ _ hL2 hLF
    have c13 := c12.trans c3 fun x f => .inl f
    refine ⟨_, rfl, _, rfl, a, c, n, rfl, by omega, by omega, hS3, fun H4 z2 hS4 c4 b0 b1 => ⟨_, _, rfl, ?_⟩⟩
    have hL4 := c4.keep _ _ hL3 hLF
    have c14 := c13.trans c4 fun x f => .inl f
    obtain ⟨i, rfl⟩ : ∃ i : Nat, z1 = (i : Int) := ⟨z1.toNat, by omega⟩
    obtain ⟨j, rfl⟩ : ∃ j : Nat, z2 = (j : Int) := ⟨z2.toNat, by omega⟩
    -- if kind < 2
    refine ⟨_, rfl, _, _, rfl, rfl, _, rfl, ite2 (fun _ => ?_) (fun _ => ?_)⟩
    · refine ⟨_, rfl, _, rfl, _, rfl, a, c, 5, rfl, by decide, by decide, hS4, fun H5 z hS5 c5 d0 d1 => ?_⟩
      have hL5 := c5.keep _ _ hL4 hLF
      have c15 := c14.trans c5 fun x f => .inl f
      obtain ⟨m, rfl⟩ : ∃ m : Nat, z = (m : Int) := ⟨z.toNat, by omega⟩
      have hm5 : m < names5.length := by show m < 5; omega
      have hat : (names5.map V.str)[m]? = some (.str names5[m]) := by
        rw [List.getElem?_map, List.getElem?_eq_getElem hm5]
        rfl
      refine ⟨L, _, _, _, rfl, rfl, SqL.of hL5, atI_nat hat, by show 3 ≤ sizeLine; decide, fun t ht => ?_⟩
      refine k _ _ (.contain i names5[m]) (fun _ => False) (hS5.stay (F := F0) (ch_new ht) (fun f => f) fun f => f) (c15.trans0 (ch_new ht)) ⟨by omega, List.getElem_mem hm5⟩ ⟨t, rfl, upd_same⟩ fun _ f => f.elim
    · -- if kind == 2
      refine ⟨_, rfl, rfl, _, rfl, ite2 (fun _ => ?_) (fun _ => ?_)⟩
      · refine ⟨_, rfl, _, rfl, by show 3 ≤ sizeLine; decide, fun t ht => ?_⟩
        exact k _ _ (.same i j) (fun _ => False) (hS4.stay (F := F0) (ch_new ht) (fun f => f) fun f => f) (c14.trans0 (ch_new ht)) ⟨by omega, by omega⟩ ⟨t, rfl, upd_same⟩ fun _ f => f.elim
      · refine ⟨_, rfl, _, rfl, _, rfl, L, rfl, ⟨_, SqL.of hL4⟩, fun X hX => ?_⟩
        have hX0 : H X = none := c14.free hX
        have hXa : X ≠ a := fun q => by obtain ⟨_, _, h1, _⟩ := hS4; rw [← q, hX] at h1; cases h1
        have hXc : X ≠ c := fun q => by obtain ⟨_, _, _, h1, _⟩ := hS4; rw [← q, hX] at h1; cases h1
        have hXL : X ≠ L := fun q => by rw [q, hL4] at hX; cases hX
        refine lc_list (K := K) (a := L) (xs := names5.map V.str) (fun m H5 => StAt H5 a c ∧ Ch (Fst a c) H H5 ∧ H5 L = some (.lst (names5.map V.str)) ∧ ∃ w : List Str, H5 X = some (.lst (w.map V.str)) ∧ w.length ≤ m)
          ⟨hS4.stay (F := F0) (ch_new hX) (fun f => f) (fun f => f), c14.trans0 (ch_new hX), by rw [upd_ne hXL.symm]; exact hL4, [], upd_same, Nat.le_refl _⟩ (fun m H5 _ q => SqL.of q.2.2.1) ?_ ?_
        · rintro m v H5 hv ⟨q1, q2, q3, w, q4, q5⟩
          have hml : m < 5 := by
            have := (List.getElem?_eq_some_iff.mp hv).1
            rw [List.length_map] at this
            exact this
          obtain ⟨x, rfl⟩ : ∃ x, v = V.str x := by
            rw [List.getElem?_map] at hv
            cases e : names5[m]? with
            | none => rw [e] at hv; cases hv
            | some x => rw [e] at hv; exact ⟨x, (Option.some.inj hv).symm⟩
          refine ⟨rfl, _, rfl, a, c, 4, rfl, by decide, by decide, q1, fun H6 z r1 r2 _ _ => ⟨rfl, _, rfl, ?_⟩⟩
          have r3 : Ch (Fst a c) H H6 := q2.trans r2 fun x f => .inl f
          have r4 := r2.keep _ _ q3 hLF
          have r5 := r2.keep _ _ q4 fun q => q.elim hXa hXc
          refine ite2 (fun _ => ?_) (fun _ => ?_)
          · refine ⟨_, rfl, _, r5, by rw [List.length_map]; exact small1000 (by omega), ?_, ?_, ?_, w ++ [x], ?_, ?_⟩
            · exact r1.stay (F := fun y => y = X) (ch_at r5 (by intro xs z; cases z) rfl) hXa.symm hXc.symm
            · exact r3.trans (ch_at (F := fun y => y = X) r5 (by intro xs z; cases z) rfl) fun y f => .inr (by rw [f]; exact hX0)
            · rw [upd_ne hXL.symm]; exact r4
            · rw [upd_same, List.map_append]; rfl
            · rw [List.length_append]
              simp
              omega
          · exact ⟨r1, r3, r4, w, r5, by omega⟩
        · rintro H5 ⟨q1, q2, q3, w, q4, q5⟩
          refine ⟨by show 4 ≤ sizeLine; decide, fun t ht => ?_⟩
          have hXt : X ≠ t := ne_of_none q4 ht
          refine k _ _ (.flow i j w) (fun u => u = X) (q1.stay (F := F0) (ch_new ht) (fun f => f) fun f => f) (q2.trans0 (ch_new ht)) ⟨by omega, by omega⟩ ⟨t, X, rfl, upd_same, by rw [upd_ne hXt]; exact q4, rfl⟩ ?_
          intro u hu
          rw [hu]
          exact ⟨hX0, _, by rw [upd_ne hXt]; exact q4⟩
end
end Ka


set_option Elab.async false
set_option linter.all false
set_option maxRecDepth 100000
set_option maxHeartbeats 4000000
namespace Ka
open PySem PySem.Spec L2 PyProof.Rows Km
theorem RwAt.congr {C : Addr} {H : Hp} {p : Addr} {n : Nat} {S S' : Nat → Str → Prop} {E E' : Nat → Nat → List Str → Prop} {B B' : Nat} {F : Addr → Prop} (h : RwAt C H p n S E B F) (hS : ∀ i s, S i s ↔ S' i s) (hE : ∀ i j w, E i j w ↔ E' i j w) (hB : B ≤ B') : RwAt C H p n S' E' B' F := by
  obtain ⟨dx, lt, ld, as, vss, D, ts, hs, hi, hm, e⟩ := h
  exact ⟨dx, lt, ld, as, vss, D, ts, hs, hi, ⟨hm.hn, fun i s => (hS i s).symm.trans (hm.hS i s), fun i j w => (hE i j w).symm.trans (hm.hE i j w), fun i s q => hm.hSn i s ((hS i s).mpr q), fun i j w q => hm.hEn i j w ((hE i j w).mpr q),
    fun fs q => Nat.le_trans (hm.bt fs q) hB, Nat.le_trans hm.bh hB, fun q r => Nat.le_trans (hm.bi q r) hB⟩, e⟩
/-- what the conditions say -/
def Sc (cs : List Cond) (i : Nat) (s : Str) : Prop := Cond.contain i s ∈ cs
def Ec (cs : List Cond) (i j : Nat) (w : List Str) : Prop := Cond.flow i j w ∈ cs ∨ (w = [] ∧ (Cond.same i j ∈ cs ∨ Cond.same j i ∈ cs))
def spAdd (C : Addr) : Sp := fun vs H Q _ => ∃ (p : Addr) (v : V) (n : Nat) (cs : List Cond) (c : Cond) (B : Nat) (F U : Addr → Prop), vs = [.ref p, v] ∧ RwAt C H p n (Sc cs) (Ec cs) B F ∧ CondAt H U v c ∧ CondOk n c ∧ B < 100 ∧
  RwOut C H p n (Sc (cs ++ [c])) (Ec (cs ++ [c])) (B + 2) F fun H' => Q .non H'
theorem tup0 {K : PySem.W.Frag} {H : Hp} {t : Addr} {xs : List V} (h : H t = some (HO.tup xs)) {j : Nat} {v : V} (hv : xs[j]? = some v) : ∀ Q : V → Hp → Prop, Q v H → rIxT K (.ref t) (.int (j : Int)) H Q := fun Q q => ⟨t, xs, _, v, rfl, rfl, SqT.of h, atI_nat hv, q⟩
theorem s_cs : ¬ V.str "same" = V.str "contain" := by
  intro q
  have h := V.str.inj q
  exact absurd h (by decide +kernel)
theorem s_cf : ¬ V.str "flow" = V.str "contain" := by
  intro q
  have h := V.str.inj q
  exact absurd h (by decide +kernel)
theorem s_sf : ¬ V.str "flow" = V.str "same" := by
  intro q
  have h := V.str.inj q
  exact absurd h (by decide +kernel)
section
variable {P : Program} {w : World} {K : PySem.W.Frag} {mg : Str → Option Value} {base : Heap}
theorem scAdd : FnScope ["_law_rows", "_law_condition_here"] ["_law_rows", "_law_condition_here"] (defScope sAdd) := ⟨rfl, rfl, rfl, by decide +kernel, rfl, by decide +kernel, by decide +kernel⟩
theorem ok_add {f fC fF fS C : Addr} {fd fdC fdF fdS : FuncData} (F : Fun K "_law_add" "_law_add" sAdd f fd) (T : Txt K mg C) (FC : Fun K "contain" "Rows.contain" sContain fC fdC) (bC : Binds K fdC ["self", "row", "name"] []) (mC : Meth K C "contain" fC)
    (FF : Fun K "flow" "Rows.flow" sFlow fF fdF) (bF : Binds K fdF ["self", "source", "target", "without"] []) (mF : Meth K C "flow" fF) (FS : Fun K "same" "Rows.same" sSame fS fdS) (bS : Binds K fdS ["self", "one", "other"] []) (mS : Meth K C "same" fS) :
    FnOk P w K mg base CX0 3 f fd ["_law_rows", "_law_condition_here"] (spAdd C) := by
  have GC : FnOk P w K mg base CX0 1 fC fdC ["self", "row", "name"] (spContain C) := ok_contain FC T
  have GF : FnOk P w K mg base CX0 1 fF fdF ["self", "source", "target", "without"] (spFlow C K) := ok_flow FF T
  have GS : FnOk P w K mg base CX0 2 fS fdS ["self", "one", "other"] (spSame C) := ok_same FS T FF bF mF
  refine F.ok scAdd (fun vs H Q E h => ?_) (fun cdv A outer s H vs Q E hr h => ?_)
  · obtain ⟨p, v, n, cs, c, B, F, U, rfl, _⟩ := h
    rfl
  · obtain ⟨p, v, n, cs, c, B, F, U, rfl, hR, hc, ho, hB, k⟩ := h
    have hr1 : Room 1 _ := hr.mono (by decide)
    refine ⟨_, pss_cons (ps_if (pt_cmpR op_eq (pe_ix ix_tup (pv 1) pe_int (fun _ _ => rfl)) pe_str (nomark _))
        (pss_one (ps_ret (pe_meth (pv 0) T.cl mC GC hr1 bC .nil pass0 (pa_cons (pe_ix ix_tup (pv 1) pe_int (fun _ _ => rfl)) (pa_cons (pe_ix ix_tup (pv 1) pe_int (fun _ _ => rfl)) pa_nil))))) pss_nil)
      (pss_cons (ps_if (pt_cmpR op_eq (pe_ix ix_tup (pv 1) pe_int (fun _ _ => rfl)) pe_str (nomark _))
        (pss_one (ps_ret (pe_meth (pv 0) T.cl mS GS hr bS .nil pass0 (pa_cons (pe_ix ix_tup (pv 1) pe_int (fun _ _ => rfl)) (pa_cons (pe_ix ix_tup (pv 1) pe_int (fun _ _ => rfl)) pa_nil))))) pss_nil)
      (pss_one (ps_ret (pe_meth (pv 0) T.cl mF GF hr1 bF .nil pass0 (pa_cons (pe_ix ix_tup (pv 1) pe_int (fun _ _ => rfl)) (pa_cons (pe_ix ix_tup (pv 1) pe_int (fun _ _ => rfl))
        (pa_cons (pe_callTy call_list_of (by rfl) T.lst (by decide +kernel) (pa_cons (pe_ix ix_tup (pv 1) pe_int (fun _ _ => rfl)) pa_nil)) pa_nil))))))), ?_⟩
    obtain ⟨dx, l, d, h1⟩ := hR.ins
    cases c with
    | contain i s =>
      obtain ⟨t, rfl, ht⟩ := hc
      refine ⟨_, rfl, t, _, 0, _, rfl, rfl, SqT.of ht, atI_nat (j := 0) rfl, rfl, _, rfl, ?_⟩
      refine (if_pos (decide_eq_true rfl)).mpr ?_
      refine ⟨_, rfl, p, dx, _, rfl, h1, pf_no _ _ (by decide +kernel) (by decide +kernel), _, rfl, t, _, 1, _, rfl, rfl, SqT.of ht, atI_nat (j := 1) rfl, _, rfl, t, _, 2, _, rfl, rfl, SqT.of ht, atI_nat (j := 2) rfl, ?_⟩
      refine ⟨p, n, _, _, B, F, i, s, rfl, hR, by omega, ho.1, fun H' F' hR' c' f' => k H' F' (hR'.congr (fun a x => ?_) (fun a b x => ?_) (by omega)) c' f'⟩
      · unfold Sc
        rw [List.mem_append, List.mem_singleton]
        exact or_congr Iff.rfl ⟨fun q => by rw [q.1, q.2], fun q => by cases q; exact ⟨rfl, rfl⟩⟩
      · unfold Ec
        simp
    | same i j =>
      obtain ⟨t, rfl, ht⟩ := hc
      refine ⟨_, rfl, t, _, 0, _, rfl, rfl, SqT.of ht, atI_nat (j := 0) rfl, rfl, _, rfl, ?_⟩
      refine (if_neg (fun q => s_cs (of_decide_eq_true q))).mpr ?_
      refine ⟨_, rfl, t, _, 0, _, rfl, rfl, SqT.of ht, atI_nat (j := 0) rfl, rfl, _, rfl, ?_⟩
      refine (if_pos (decide_eq_true rfl)).mpr ?_
      refine ⟨_, rfl, p, dx, _, rfl, h1, pf_no _ _ (by decide +kernel) (by decide +kernel), _, rfl, t, _, 1, _, rfl, rfl, SqT.of ht, atI_nat (j := 1) rfl, _, rfl, t, _, 2, _, rfl, rfl, SqT.of ht, atI_nat (j := 2) rfl, ?_⟩
      refine ⟨p, n, _, _, B, F, i, j, rfl, hR, by omega, ho.1, ho.2, fun H' F' hR' c' f' => k H' F' (hR'.congr (fun a x => ?_) (fun a b x => ?_) (by omega)) c' f'⟩
      · unfold Sc
        simp
      · unfold Ec
        simp only [List.mem_append, List.mem_singleton, Cond.same.injEq, reduceCtorEq, or_false]
        constructor
        · rintro ((h | ⟨rfl, rfl, rfl⟩) | ⟨rfl, rfl, rfl⟩)
          · rcases h with h | ⟨h1, h2 | h2⟩
            · exact .inl h
            · exact .inr ⟨h1, .inl (.inl h2)⟩
            · exact .inr ⟨h1, .inr (.inl h2)⟩
          · exact .inr ⟨rfl, .inl (.inr ⟨rfl, rfl⟩)⟩
          · exact .inr ⟨rfl, .inr (.inr ⟨rfl, rfl⟩)⟩
        · rintro (h | ⟨h1, (h2 | ⟨rfl, rfl⟩) | (h2 | ⟨rfl, rfl⟩)⟩)
          · exact .inl (.inl (.inl h))
          · exact .inl (.inl (.inr ⟨h1, .inl h2⟩))
          · exact .inl (.inr ⟨rfl, rfl, h1⟩)
          · exact .inl (.inl (.inr ⟨h1, .inr h2⟩))
          · exact .inr ⟨rfl, rfl, h1⟩
    | flow i j w =>
      obtain ⟨t, u, rfl, ht, hu, _⟩ := hc
      refine ⟨_, rfl, t, _, 0, _, rfl, rfl, SqT.of ht, atI_nat (j := 0) rfl, rfl, _, rfl, ?_⟩
      refine (if_neg (fun q => s_cf (of_decide_eq_true q))).mpr ?_
      refine ⟨_, rfl, t, _, 0, _, rfl, rfl, SqT.of ht, atI_nat (j := 0) rfl, rfl, _, rfl, ?_⟩
      refine (if_neg (fun q => s_sf (of_decide_eq_true q))).mpr ?_
      refine ⟨_, rfl, p, dx, _, rfl, h1, pf_no _ _ (by decide +kernel) (by decide +kernel), _, rfl, t, _, 1, _, rfl, rfl, SqT.of ht, atI_nat (j := 1) rfl, _, rfl, t, _, 2, _, rfl, rfl, SqT.of ht, atI_nat (j := 2) rfl,
        _, rfl, t, _, 3, _, rfl, rfl, SqT.of ht, atI_nat (j := 3) rfl, u, _, rfl, .inl (SqL.of hu), fun l2 hl2 => ?_⟩
      have cN : Ch F H (upd H l2 (.lst (w.map V.str))) := ch_new hl2
      refine ⟨p, l2, n, _, _, B, F, i, j, w, rfl, hR.stay (F' := F0) (ch_new hl2) (fun _ _ f => f), by omega, ho.1, ho.2, SqL.of upd_same, fun H' F' hR' c' f' => k H' F' (hR'.congr (fun a x => ?_) (fun a b x => ?_) (by omega)) (cN.trans c' fun x f => .inl f) (fun a m => (f' a m).imp id fun e => cN.free e)⟩
      · unfold Sc
        simp
      · unfold Ec
        simp only [List.mem_append, List.mem_singleton, Cond.flow.injEq, reduceCtorEq, or_false]
        constructor
        · rintro (h | ⟨rfl, rfl, rfl⟩)
          · rcases h with h | h
            · exact .inl (.inl h)
            · exact .inr h
          · exact .inl (.inr ⟨rfl, rfl, rfl⟩)
        · rintro ((h | ⟨rfl, rfl, rfl⟩) | h)
          · exact .inl (.inl h)
          · exact .inr ⟨rfl, rfl, rfl⟩
          · exact .inl (.inr h)
end
end Ka


set_option Elab.async false
set_option linter.all false
set_option maxRecDepth 100000
set_option maxHeartbeats 4000000
namespace Ka
open PySem PySem.Spec L2 PyProof.Rows Km
theorem pr_append {α β : Type} {R : α → β → Prop} : ∀ {as : List α} {bs : List β} {cs : List α} {ds : List β}, Paired R as bs → Paired R cs ds → Paired R (as ++ cs) (bs ++ ds)
  | _, _, _, _, .nil, h => h
  | _, _, _, _, .cons a t, h => .cons a (pr_append t h)
def missing (rows : List (List Str)) : Cond → List (Nat × Str)
  | .contain i s => [(i, s)]
  | .same i j => (rows.getD i []).map (fun s => (j, s)) ++ (rows.getD j []).map (fun s => (i, s))
  | .flow i j w => ((rows.getD i []).filter fun s => decide (s ∉ w)).map fun s => (j, s)
def MsAt (H : Hp) (q : Addr) (ms : List (Nat × Str)) : Prop := ∃ ts : List Addr, H q = some (HO.lst (ts.map V.ref)) ∧ Paired (fun t (m : Nat × Str) => H t = some (HO.tup [nv m.1, .str m.2])) ts ms
abbrev sxs (rows : List (List Str)) : List (List V) := rows.map fun r => r.map V.str
def spMiss : Sp := fun vs H Q _ => ∃ (L : Addr) (bs : List Addr) (rows : List (List Str)) (v : V) (c : Cond) (U : Addr → Prop), vs = [.ref L, v] ∧ LL H L bs (sxs rows) ∧ CondAt H U v c ∧ CondOk rows.length c ∧ (∀ r ∈ rows, r.length ≤ 100) ∧
  ∀ (H' : Hp) (q : Addr), Same H H' → H q = none → MsAt H' q (missing rows c) → Q (.ref q) H'
theorem LL.row {H : Hp} {L : Addr} {bs : List Addr} {rows : List (List Str)} (h : LL H L bs (sxs rows)) {i : Nat} (hi : i < rows.length) : ∃ b, bs[i]? = some b ∧ (bs.map V.ref)[i]? = some (.ref b) ∧ H b = some (HO.lst ((rows.getD i []).map V.str)) := by
  have e : (sxs rows)[i]? = some ((rows.getD i []).map V.str) := by
    rw [List.getElem?_map, List.getElem?_eq_getElem hi]
    simp [List.getD, List.getElem?_eq_getElem hi]
  obtain ⟨b, hb, r⟩ := pr_get' h.its e
  exact ⟨b, hb, by rw [List.getElem?_map, hb]; rfl, r⟩
section
variable {P : Program} {w : World} {K : PySem.W.Frag} {mg : Str → Option Value} {base : Heap}
abbrev nMiss : List Str := ["_law_found", "_law_condition_here", "_law_both", "_law_name"]
theorem scMiss : FnScope nMiss ["_law_found", "_law_condition_here"] (defScope sMiss) := ⟨rfl, rfl, rfl, by decide +kernel, rfl, by decide +kernel, by decide +kernel⟩
/-- the comprehension [(cond[ix], name) for name in found[..]] over a list of texts -/
theorem lc_pairs {σ : L2.St} {H1 : Hp} {D a t : Addr} {Qd : Hp → Prop} {xs : List Str} {vs : List V} {ix : Nat} {j : Nat} (hD : H1 D = none) (ha : H1 a = some (.lst (xs.map V.str))) (ht : H1 t = some (.tup vs)) (hv : vs[ix]? = some (nv j)) (hx : xs.length ≤ 200)
    (hσ : σ.length = 4) (h1 : σ[1]? = some (some (.ref t))) (hd : ∀ H, Same H1 H → MsAt H D (xs.map fun s => (j, s)) → Qd H) :
    ∃ W : Nat → Nat → Hp → Prop, (∃ m, W 0 m (upd H1 D (.lst []))) ∧ ∀ i m H, W i m H →
      ((Itl K a).stop i H ∧ Qd H) ∨ ((Itl K a).go i H ∧ ∃ Nx : Hp → Prop, (∀ H', Nx H' → ∃ m', m' < m ∧ W (i + 1) m' H') ∧ ∀ x H', (Itl K a).yld i H x H' → gName 3 x (wipe σ [3]) H' fun σ2 H2 => wipe σ2 [3] = wipe σ [3] ∧ tYes σ2 H2 fun b H3 =>
        if b = true then tTup (tCons (tOp (rIxT K) (tVar 1) (tC (.int (ix : Int)))) (tCons (tVar 3) tNil)) σ2 H3 fun y H4 => ∃ acc, H4 D = some (.lst acc) ∧ acc.length < sizeLine ∧ Nx (upd H4 D (.lst (acc ++ [y]))) else Nx H3) := by
  match σ, hσ with
  | [s0, s1, s2, s3], _ =>
    have e1 : s1 = some (.ref t) := Option.some.inj h1
    subst e1
    refine lc_list (K := K) (a := a) (xs := xs.map V.str) (fun i H => Same H1 H ∧ MsAt H D ((xs.take i).map fun s => (j, s))) ⟨same_new hD, [], by rw [upd_same]; rfl, .nil⟩ (fun i H _ q => SqL.of (q.1 _ _ ha)) ?_ ?_
    · rintro i x H hx' ⟨q1, ts, q2, q3⟩
      rw [List.getElem?_map] at hx'
      cases es : xs[i]? with
      | none => rw [es] at hx'; cases hx'
      | some s =>
        rw [es] at hx'
        obtain rfl : V.str s = x := Option.some.inj hx'
        refine ⟨rfl, _, rfl, t, vs, _, _, rfl, rfl, SqT.of (q1 _ _ ht), atI_nat hv, _, rfl, by show 2 ≤ sizeLine; decide, fun u hu => ?_⟩
        have hDu : D ≠ u := ne_of_none q2 hu
        refine ⟨_, by rw [upd_ne hDu]; exact q2, ?_, ?_, ts ++ [u], ?_, ?_⟩
        · rw [List.length_map, q3.length, List.length_map, List.length_take]
          exact Nat.lt_of_le_of_lt (Nat.min_le_right _ _) (small1000 (by omega))
        · intro b o e
          rw [upd_ne (ne_of_none e hD), upd_ne (ne_of_none (q1 _ _ e) hu)]
          exact q1 _ _ e
        · rw [upd_same, List.map_append]; rfl
        · rw [List.take_add_one, es, List.map_append]
          refine Paired.snoc (pr_mono q3 fun y m hy _ e => ?_) ?_
          · rw [upd_ne (ne_of e q2 (by intro z; cases z)), upd_ne (ne_of_none e hu)]
            exact e
          · rw [upd_ne hDu.symm, upd_same]
    · rintro H ⟨q1, q2⟩
      rw [List.length_map, List.take_length] at q2
      exact hd H q1 q2
theorem ok_miss {f : Addr} {fd : FuncData} (F : Fun K "_law_missing" "_law_missing" sMiss f fd) : FnOk P w K mg base CX0 1 f fd ["_law_found", "_law_condition_here"] spMiss := by
  refine F.ok scMiss (fun vs H Q E h => ?_) (fun cdv A outer s H vs Q E hr h => ?_)
  · obtain ⟨L, bs, rows, v, c, U, rfl, _⟩ := h
    rfl
  · obtain ⟨L, bs, rows, v, c, U, rfl, hL, hc, ho, hrl, k⟩ := h
    refine ⟨_, pss_cons (ps_if (pt_cmpR op_eq (pe_ix ix_tup (pv 1) pe_int (fun _ _ => rfl)) pe_str (nomark _))
        (pss_one (ps_ret (pe_lst (pa_cons (pe_tup (pa_cons (pe_ix ix_tup (pv 1) pe_int (fun _ _ => rfl)) (pa_cons (pe_ix ix_tup (pv 1) pe_int (fun _ _ => rfl)) pa_nil))) pa_nil)))) pss_nil)
      (pss_cons (ps_if (pt_cmpR op_eq (pe_ix ix_tup (pv 1) pe_int (fun _ _ => rfl)) pe_str (nomark _))
        (pss_cons (ps_setLc (i := 2) (own := [("_law_name", 3)]) (g := gName 3) (tt := tYes) (te := tTup (tCons (tOp (rIxT K) (tVar 1) (tC (.int 2))) (tCons (tVar 3) tNil))) rfl scMiss.nd rfl rfl (sw_true rfl rfl rfl (by decide +kernel))
            (pi_list (pe_ix ix_list (pv 0) (pe_ix ix_tup (pv 1) pe_int (fun _ _ => rfl)) (fun _ _ => rfl)))
            (blkOk_by (N := nMiss) (sc := defScope sMiss) (by decide +kernel)) (fun _ _ _ _ _ => pg_name (i := 3) scMiss.nd rfl (Or.inl rfl)) (fun _ _ _ _ _ => pts_nil)
            (fun _ _ _ _ _ => pe_tup (pa_cons (pe_ix ix_tup (pv 1) pe_int (fun _ _ => rfl)) (pa_cons (pv 3) pa_nil))))
          (pss_one (ps_ret (pe_op op_cat (pv 2) (pe_lc (own := [("_law_name", 3)]) (g := gName 3) (tt := tYes) (te := tTup (tCons (tOp (rIxT K) (tVar 1) (tC (.int 1))) (tCons (tVar 3) tNil))) rfl scMiss.nd
            (pi_list (pe_ix ix_list (pv 0) (pe_ix ix_tup (pv 1) pe_int (fun _ _ => rfl)) (fun _ _ => rfl)))
            (blkOk_by (N := nMiss) (sc := defScope sMiss) (by decide +kernel)) (fun _ _ _ _ _ => pg_name (i := 3) scMiss.nd rfl (Or.inl rfl)) (fun _ _ _ _ _ => pts_nil)
            (fun _ _ _ _ _ => pe_tup (pa_cons (pe_ix ix_tup (pv 1) pe_int (fun _ _ => rfl)) (pa_cons (pv 3) pa_nil)))))))) pss_nil)
      (pss_one (ps_ret (pe_lc (own := [("_law_name", 3)]) (g := gName 3) (tt := tTest (tOp (rIn K true) (tVar 3) (tOp (rIxT K) (tVar 1) (tC (.int 3))))) (te := tTup (tCons (tOp (rIxT K) (tVar 1) (tC (.int 2))) (tCons (tVar 3) tNil))) rfl scMiss.nd
            (pi_list (pe_ix ix_list (pv 0) (pe_ix ix_tup (pv 1) pe_int (fun _ _ => rfl)) (fun _ _ => rfl)))
            (blkOk_by (N := nMiss) (sc := defScope sMiss) (by decide +kernel)) (fun _ _ _ _ _ => pg_name (i := 3) scMiss.nd rfl (Or.inl rfl))
            (fun _ _ _ _ _ => pts_one (pt_cmpR op_notIn_seq (pv 3) (pe_ix ix_tup (pv 1) pe_int (fun _ _ => rfl)) (by rfl)))
            (fun _ _ _ _ _ => pe_tup (pa_cons (pe_ix ix_tup (pv 1) pe_int (fun _ _ => rfl)) (pa_cons (pv 3) pa_nil))))))), ?_⟩
    have hlen : ∀ i, (rows.getD i []).length ≤ 100 := fun i => by
      rw [List.getD]
      cases e : rows[i]? with
      | none => exact Nat.zero_le _
      | some r => exact hrl r (List.mem_of_getElem? e)
    cases c with
    | contain i s =>
      obtain ⟨t, rfl, ht⟩ := hc
      refine ⟨_, rfl, t, _, 0, _, rfl, rfl, SqT.of ht, atI_nat (j := 0) rfl, rfl, _, rfl, ?_⟩
      refine (if_pos (decide_eq_true rfl)).mpr ?_
      refine ⟨_, rfl, t, _, 1, _, rfl, rfl, SqT.of ht, atI_nat (j := 1) rfl, _, rfl, t, _, 2, _, rfl, rfl, SqT.of ht, atI_nat (j := 2) rfl, by show 2 ≤ sizeLine; decide, fun u hu => ⟨by show 1 ≤ sizeLine; decide, fun q hq => ?_⟩⟩
      have hqu : q ≠ u := fun e => by rw [e, upd_same] at hq; cases hq
      exact k _ q ((same_new hu).trans (same_new hq)) ((same_new hu).free hq) ⟨[u], upd_same, .cons (by rw [upd_ne hqu.symm, upd_same]) .nil⟩
    | same i j =>
      obtain ⟨t, rfl, ht⟩ := hc
      refine ⟨_, rfl, t, _, 0, _, rfl, rfl, SqT.of ht, atI_nat (j := 0) rfl, rfl, _, rfl, ?_⟩
      refine (if_neg (fun q => s_cs (of_decide_eq_true q))).mpr ?_
      refine ⟨_, rfl, t, _, 0, _, rfl, rfl, SqT.of ht, atI_nat (j := 0) rfl, rfl, _, rfl, ?_⟩
      refine (if_pos (decide_eq_true rfl)).mpr ?_
      obtain ⟨b, _, hbr, hb⟩ := hL.row ho.1
      refine ⟨_, rfl, _, rfl, t, _, 1, _, rfl, rfl, SqT.of ht, atI_nat (j := 1) rfl, L, _, _, V.ref b, rfl, rfl, SqL.of hL.top, atI_nat hbr, b, rfl, ⟨_, SqL.of hb⟩, fun D hD => ?_⟩
      refine lc_pairs (vs := [.str "same", nv i, nv j]) (ix := 2) (j := j) (t := t) hD hb ht rfl (by have := hlen i; omega) rfl rfl fun H2 s2 m2 => ?_
      obtain ⟨b2, _, hbr2, hb2⟩ := hL.row ho.2
      refine ⟨_, rfl, _, rfl, _, rfl, t, _, 2, _, rfl, rfl, SqT.of (s2 _ _ ht), atI_nat (j := 2) rfl, L, _, _, V.ref b2, rfl, rfl, SqL.of (s2 _ _ hL.top), atI_nat hbr2, b2, rfl, ⟨_, SqL.of (s2 _ _ hb2)⟩, fun D2 hD2 => ?_⟩
      refine lc_pairs (vs := [.str "same", nv i, nv j]) (ix := 1) (j := i) (t := t) hD2 (s2 _ _ hb2) (s2 _ _ ht) rfl (by have := hlen j; omega) rfl rfl fun H3 s3 m3 => ?_
      obtain ⟨ts, t1, t2⟩ := m2
      obtain ⟨us, u1, u2⟩ := m3
      refine ⟨D, D2, _, _, rfl, rfl, s3 _ _ t1, u1, ?_, fun q hq => ?_⟩
      · rw [List.length_map, List.length_map, t2.length, u2.length, List.length_map, List.length_map]
        have h1 := hlen i
        have h2 := hlen j
        exact Nat.le_of_lt (small1000 (by omega))
      · have sq := same_new (o := HO.lst (ts.map V.ref ++ us.map V.ref)) hq
        refine k _ q ((s2.trans s3).trans sq) ((s2.trans s3).free hq) ⟨ts ++ us, by rw [upd_same, List.map_append], ?_⟩
        exact pr_append (pr_mono t2 fun a m _ _ e => sq _ _ (s3 _ _ e)) (pr_mono u2 fun a m _ _ e => sq _ _ e)
    | flow i j w =>
      obtain ⟨t, u, rfl, ht, hu, _⟩ := hc
      refine ⟨_, rfl, t, _, 0, _, rfl, rfl, SqT.of ht, atI_nat (j := 0) rfl, rfl, _, rfl, ?_⟩
      refine (if_neg (fun q => s_cf (of_decide_eq_true q))).mpr ?_
      refine ⟨_, rfl, t, _, 0, _, rfl, rfl, SqT.of ht, atI_nat (j := 0) rfl, rfl, _, rfl, ?_⟩
      refine (if_neg (fun q => s_sf (of_decide_eq_true q))).mpr ?_
      obtain ⟨b, _, hbr, hb⟩ := hL.row ho.1
      refine ⟨_, rfl, _, rfl, t, _, 1, _, rfl, rfl, SqT.of ht, atI_nat (j := 1) rfl, L, _, _, V.ref b, rfl, rfl, SqL.of hL.top, atI_nat hbr, b, rfl, ⟨_, SqL.of hb⟩, fun D hD => ?_⟩
      have hxl := hlen i
      have egoal : missing rows (.flow i j w) = ((rows.getD i []).filter fun s => decide (s ∉ w)).map fun s => (j, s) := rfl
      rw [egoal] at k
      generalize rows.getD i [] = xs at hb hxl k
      refine lc_list (K := K) (a := b) (xs := xs.map V.str) (fun m H2 => Same H H2 ∧ MsAt H2 D (((xs.take m).filter fun s => decide (s ∉ w)).map fun s => (j, s))) ⟨same_new hD, [], by rw [upd_same]; rfl, .nil⟩ (fun m H2 _ q => SqL.of (q.1 _ _ hb)) ?_ ?_
      · rintro m x H2 hx' ⟨q1, ts, q2, q3⟩
        rw [List.getElem?_map] at hx'
        cases es : xs[m]? with
        | none => rw [es] at hx'; cases hx'
        | some s =>
          rw [es] at hx'
          obtain rfl : V.str s = x := Option.some.inj hx'
          refine ⟨rfl, _, rfl, _, rfl, t, _, 3, _, rfl, rfl, SqT.of (q1 _ _ ht), atI_nat (j := 3) rfl, u, _, rfl, .inl (SqL.of (q1 _ _ hu)), rfl, flat_str _, _, rfl, ?_⟩
          rw [inV_str]
          by_cases hs : s ∈ w
          · rw [decide_eq_true hs]
            refine iteF ⟨q1, ts, q2, ?_⟩
            rw [List.take_add_one, es]
            show Paired _ ts (((xs.take m ++ [s]).filter fun s => decide (s ∉ w)).map fun s => (j, s))
            rw [List.filter_append]
            have : [s].filter (fun s => decide (s ∉ w)) = [] := by simp [hs]
            rw [this, List.append_nil]
            exact q3
          · rw [decide_eq_false hs]
            refine iteT ?_
            refine ⟨_, rfl, t, _, 2, _, rfl, rfl, SqT.of (q1 _ _ ht), atI_nat (j := 2) rfl, _, rfl, by show 2 ≤ sizeLine; decide, fun z hz => ?_⟩
            have hDz : D ≠ z := ne_of_none q2 hz
            refine ⟨_, by rw [upd_ne hDz]; exact q2, ?_, ?_, ts ++ [z], ?_, ?_⟩
            · rw [List.length_map, q3.length, List.length_map]
              refine Nat.lt_of_le_of_lt (List.length_filter_le _ _) ?_
              rw [List.length_take]
              exact Nat.lt_of_le_of_lt (Nat.min_le_right _ _) (small1000 (by omega))
            · intro b' o e
              rw [upd_ne (ne_of_none e hD), upd_ne (ne_of_none (q1 _ _ e) hz)]
              exact q1 _ _ e
            · rw [upd_same, List.map_append]; rfl
            · rw [List.take_add_one, es]
              show Paired _ (ts ++ [z]) (((xs.take m ++ [s]).filter fun s => decide (s ∉ w)).map fun s => (j, s))
              rw [List.filter_append]
              have : [s].filter (fun s => decide (s ∉ w)) = [s] := by simp [hs]
              rw [this, List.map_append]
              refine Paired.snoc (pr_mono q3 fun y m' hy _ e => ?_) ?_
              · rw [upd_ne (ne_of e q2 (by intro z; cases z)), upd_ne (ne_of_none e hz)]
                exact e
              · rw [upd_ne hDz.symm, upd_same]
      · rintro H2 ⟨q1, q2⟩
        rw [List.length_map, List.take_length] at q2
        exact k _ D q1 hD q2
end
end Ka


set_option Elab.async false
set_option linter.all false
set_option maxRecDepth 100000
set_option maxHeartbeats 4000000
namespace Ka
open PySem PySem.Spec L2 PyProof.Rows Km
/-! ### the rounds, by their totals -/
theorem nodup_sub : ∀ {m l : List Str}, l.Nodup → (∀ x ∈ l, x ∈ m) → l.length ≤ m.length
  | [], [], _, _ => Nat.le_refl _
  | [], x :: r, _, k => by have := k x (List.mem_cons_self ..); cases this
  | a :: m, l, h, k => by
    have ih := nodup_sub (m := m) (l := l.erase a) (h.erase a) fun x hx => by
      have h1 := (List.Nodup.mem_erase_iff h).mp hx
      rcases List.mem_cons.mp (k x h1.2) with e | e
      · exact absurd e h1.1
      · exact e
    rw [List.length_erase] at ih
    rw [List.length_cons]
    split at ih <;> omega
def total (rows : List (List Str)) : Nat := (rows.map List.length).sum
theorem total_set : ∀ {rows : List (List Str)} {i : Nat} {s : Str}, i < rows.length → total (rows.set i (rows.getD i [] ++ [s])) = total rows + 1
  | [], _, _, h => by simp at h
  | r :: rows, 0, s, _ => by
    show ((r ++ [s]).length :: rows.map List.length).sum = (r.length :: rows.map List.length).sum + 1
    rw [List.sum_cons, List.sum_cons, List.length_append]
    simp
    omega
  | r :: rows, i + 1, s, h => by
    have ih := total_set (rows := rows) (i := i) (s := s) (by simpa using h)
    show (r.length :: (rows.set i (rows.getD i [] ++ [s])).map List.length).sum = (r.length :: rows.map List.length).sum + 1
    rw [List.sum_cons, List.sum_cons]
    unfold total at ih
    rw [ih]
    omega
theorem total_le : ∀ {rows : List (List Str)}, (∀ r ∈ rows, r.length ≤ 5) → total rows ≤ rows.length * 5
  | [], _ => Nat.le_refl _
  | r :: rows, h => by
    have ih := total_le (rows := rows) fun x hx => h x (List.mem_cons_of_mem _ hx)
    have h1 := h r (List.mem_cons_self ..)
    show (r.length :: rows.map List.length).sum ≤ (rows.length + 1) * 5
    rw [List.sum_cons]
    unfold total at ih
    omega
structure Rin (cs : List Cond) (n : Nat) (rows : List (List Str)) : Prop where
  len : rows.length = n
  nd : ∀ i, (rows.getD i []).Nodup
  snd : ∀ (i : Nat) (s : Str), s ∈ rows.getD i [] → Must (Sc cs) (Ec cs) i s
theorem getD_mem {rows : List (List Str)} {r : List Str} (h : r ∈ rows) : ∃ i, rows.getD i [] = r := by
  obtain ⟨i, hi⟩ := List.getElem?_of_mem h
  exact ⟨i, by rw [List.getD, hi]; rfl⟩
theorem must_five {cs : List Cond} {n : Nat} (ok : ∀ c ∈ cs, CondOk n c) {i : Nat} {s : Str} (h : Must (Sc cs) (Ec cs) i s) : s ∈ names5 := by
  obtain ⟨j, hj⟩ := must_hold h
  exact (ok _ hj).2
theorem must_lt {cs : List Cond} {n : Nat} (ok : ∀ c ∈ cs, CondOk n c) {i : Nat} {s : Str} (h : Must (Sc cs) (Ec cs) i s) : i < n := by
  cases h with
  | base h => exact (ok _ h).1
  | step _ h _ =>
    rcases h with h | ⟨_, h | h⟩
    · exact (ok _ h).2
    · exact (ok _ h).2
    · exact (ok _ h).1
theorem Rin.le5 {cs : List Cond} {n : Nat} {rows : List (List Str)} (h : Rin cs n rows) (ok : ∀ c ∈ cs, CondOk n c) : ∀ r ∈ rows, r.length ≤ 5 := fun r hr => by
  obtain ⟨i, rfl⟩ := getD_mem hr
  exact nodup_sub (m := names5) (h.nd i) fun x hx => must_five ok (h.snd i x hx)
theorem getD_set {rows : List (List Str)} {i k : Nat} {y : List Str} (hi : i < rows.length) : (rows.set i y).getD k [] = if k = i then y else rows.getD k [] := by
  rw [List.getD, List.getD]
  by_cases e : i = k
  · subst e
    rw [List.getElem?_set_self hi, if_pos rfl]
    rfl
  · rw [List.getElem?_set_ne e, if_neg fun q => e q.symm]
theorem Rin.add {cs : List Cond} {n : Nat} {rows : List (List Str)} (h : Rin cs n rows) {i : Nat} {s : Str} (hi : i < n) (hm : Must (Sc cs) (Ec cs) i s) (hn : s ∉ rows.getD i []) : Rin cs n (rows.set i (rows.getD i [] ++ [s])) := by
  have hl : i < rows.length := by rw [h.len]; exact hi
  refine ⟨by rw [List.length_set, h.len], fun k => ?_, fun k x hx => ?_⟩
  · rw [getD_set hl]
    split
    · exact List.nodup_append.mpr ⟨h.nd i, by simp, fun x hx y hy e => hn (by rw [List.mem_singleton.mp hy] at e; rw [← e]; exact hx)⟩
    · exact h.nd k
  · rw [getD_set hl] at hx
    split at hx
    · rename_i e
      rw [e]
      rcases List.mem_append.mp hx with hx | hx
      · exact h.snd i x hx
      · rw [List.mem_singleton.mp hx]; exact hm
    · exact h.snd k x hx
theorem miss_ok {cs : List Cond} {n : Nat} {rows : List (List Str)} (h : Rin cs n rows) (ok : ∀ c ∈ cs, CondOk n c) {c : Cond} (hc : c ∈ cs) {m : Nat × Str} (hm : m ∈ missing rows c) : m.1 < n ∧ Must (Sc cs) (Ec cs) m.1 m.2 := by
  have : Must (Sc cs) (Ec cs) m.1 m.2 := by
    cases c with
    | contain i s =>
      rw [List.mem_singleton.mp hm]
      exact .base hc
    | same i j =>
      rcases List.mem_append.mp hm with hm | hm
      · obtain ⟨s, hs, rfl⟩ := List.mem_map.mp hm
        exact .step (h.snd i s hs) (.inr ⟨rfl, .inl hc⟩) (by simp)
      · obtain ⟨s, hs, rfl⟩ := List.mem_map.mp hm
        exact .step (h.snd j s hs) (.inr ⟨rfl, .inr hc⟩) (by simp)
    | flow i j w =>
      obtain ⟨s, hs, rfl⟩ := List.mem_map.mp hm
      obtain ⟨h1, h2⟩ := List.mem_filter.mp hs
      exact .step (h.snd i s h1) (.inl hc) (of_decide_eq_true h2)
  exact ⟨must_lt ok this, this⟩
def Closed (cs : List Cond) (rows : List (List Str)) : Prop := ∀ c ∈ cs, ∀ m ∈ missing rows c, m.2 ∈ rows.getD m.1 []
theorem closed_must {cs : List Cond} {rows : List (List Str)} (h : Closed cs rows) {i : Nat} {s : Str} (hm : Must (Sc cs) (Ec cs) i s) : s ∈ rows.getD i [] := by
  induction hm with
  | base hc => exact h _ hc _ (List.mem_singleton.mpr rfl)
  | step _ hE hn ih =>
    rcases hE with hE | ⟨rfl, hE | hE⟩
    · exact h _ hE _ (List.mem_map.mpr ⟨_, List.mem_filter.mpr ⟨ih, decide_eq_true hn⟩, rfl⟩)
    · exact h _ hE _ (List.mem_append_left _ (List.mem_map.mpr ⟨_, ih, rfl⟩))
    · exact h _ hE _ (List.mem_append_right _ (List.mem_map.mpr ⟨_, ih, rfl⟩))
def CsAt (H : Hp) (L : Addr) (cs : List Cond) (U : Addr → Prop) : Prop := ∃ vs, H L = some (HO.lst vs) ∧ Paired (fun v c => CondAt H U v c) vs cs
def spLLeast : Sp := fun vs H Q _ => ∃ (n : Nat) (Lc : Addr) (cs : List Cond) (U : Addr → Prop), vs = [nv n, .ref Lc] ∧ CsAt H Lc cs U ∧ n ≤ 10 ∧ (∀ c ∈ cs, CondOk n c) ∧
  ∀ (H' : Hp) (q : Addr) (rows : List (List Str)), Same H H' → H q = none → ResAt H' q rows → Least n (Must (Sc cs) (Ec cs)) rows → Q (.ref q) H'
theorem for_rangeB {lo : Int} {n : Nat} {g : TG} {tb : TS} {D : Ends} {σ : L2.St} {H : Hp} (Pv : Nat → L2.St → Hp → Prop) (Post : L2.St → Hp → Prop) (after : ∀ σ H, Post σ H → D.nx σ H) (h0 : Pv 0 σ H)
    (hs : (∀ σ H, Post σ H → D.nx σ H) → ∀ i σ H, i < n → Pv i σ H → g (.int (lo + i)) σ H fun σ2 H2 => tb { nx := Pv (i + 1), rt := D.rt, bk := D.nx, ct := Pv (i + 1) } σ2 H2) (hd : ∀ σ H, Pv n σ H → Post σ H) :
    ∃ W : Nat → Nat → L2.St → Hp → Prop, (∃ m, W 0 m σ H) ∧ ∀ i m σ H, W i m σ H →
      ((Itr lo n).stop i H ∧ D.nx σ H) ∨ ((Itr lo n).go i H ∧ ∃ N : L2.St → Hp → Prop, (∀ σ' H', N σ' H' → ∃ m', m' < m ∧ W (i + 1) m' σ' H') ∧ ∀ x H', (Itr lo n).yld i H x H' → g x σ H' fun σ2 H2 => tb { nx := N, rt := D.rt, bk := D.nx, ct := N } σ2 H2) :=
  for_range Pv h0 (hs after) fun σ H h => after σ H (hd σ H h)
section
variable {P : Program} {w : World} {K : PySem.W.Frag} {mg : Str → Option Value} {base : Heap}
abbrev nLL : List Str := ["_law_count", "_law_conditions", "_law_k", "_law_found", "_law_grown", "_law_condition_here", "_law_place", "_law_name", "_law_row"]
theorem scLL : FnScope nLL ["_law_count", "_law_conditions"] (defScope sLLeast) := ⟨rfl, rfl, rfl, by decide +kernel, rfl, by decide +kernel, by decide +kernel⟩
theorem ok_lleast {f fM : Addr} {fd fdM : FuncData} (F : Fun K "_law_least" "_law_least" sLLeast f fd) (FM : Fun K "_law_missing" "_law_missing" sMiss fM fdM) (bM : Binds K fdM ["_law_found", "_law_condition_here"] []) (gM : mg "_law_missing" = some (.ref fM))
    (mr : mg "range" = none) (mt : mg "tuple" = none) (ms : mg "sorted" = none) : FnOk P w K mg base CX0 2 f fd ["_law_count", "_law_conditions"] spLLeast := by
  have GM : FnOk P w K mg base CX0 1 fM fdM ["_law_found", "_law_condition_here"] spMiss := ok_miss FM
  refine F.ok scLL (fun vs H Q E h => ?_) (fun cdv A outer s H vs Q E hr h => ?_)
  · obtain ⟨n, Lc, cs, U, rfl, _⟩ := h
    rfl
  · obtain ⟨n, Lc, cs, U, rfl, ⟨vs, hLc, hcs⟩, hn, hok, k⟩ := h
    refine ⟨_, pss_cons (ps_setLc (i := 3) (own := [("_law_k", 2)]) (g := gName 2) (tt := tYes) (te := tLst tNil) rfl scLL.nd rfl rfl (sw_true rfl rfl rfl (by decide +kernel)) (pi_range1 rfl mr (pa_cons (pv 0) pa_nil))
        (blkOk_by (N := nLL) (sc := defScope sLLeast) (by decide +kernel)) (fun _ _ _ _ _ => pg_name (i := 2) scLL.nd rfl (Or.inl rfl)) (fun _ _ _ _ _ => pts_nil) (fun _ _ _ _ _ => pe_lst pa_nil))
      (pss_cons (ps_for PassesOwn.never rfl (pi_range1 rfl mr (pa_cons (pe_op op_add (pe_op op_mul (pv 0) pe_int) pe_int) pa_nil)) (pg_name (i := 2) scLL.nd rfl (Or.inl rfl))
        (pss_cons (ps_set (i := 4) scLL.nd rfl (Or.inl rfl) pe_bl)
        (pss_cons (ps_for PassesOwn.never rfl (pi_list (pv 1)) (pg_name (i := 5) scLL.nd rfl (Or.inl rfl))
          (pss_one (ps_for PassesOwn.never rfl (pi_list (pe_call GM hr (by rfl) gM FM.kp bM .nil pass0 (pa_cons (pv 3) (pa_cons (pv 5) pa_nil)))) (pg_tup rfl (pgs_cons (pg_name (i := 6) scLL.nd rfl (Or.inl rfl)) (pgs_cons (pg_name (i := 7) scLL.nd rfl (Or.inl rfl)) pgs_nil)))
            (pss_one (ps_if (pt_cmpR op_notIn_seq (pv 7) (pe_ix ix_list (pv 3) (pv 6) (fun _ _ => rfl)) (by rfl))
              (pss_cons (ps_expr (pe_bm PySem.F.plainAttrs_list PySem.F.slot_list_append PySem.F.type_list_append mt_append (pe_ix ix_list (pv 3) (pv 6) (fun _ _ => rfl)) (pa_cons (pv 7) pa_nil)))
                (pss_one (ps_set (i := 4) scLL.nd rfl (Or.inl rfl) pe_bl))) pss_nil)))))
        (pss_one (ps_if (pt_not (pt_val (pv 4))) (pss_one ps_break) pss_nil)))))
      (pss_one (ps_ret (pe_lc (own := [("_law_row", 8)]) (g := gName 8) (tt := tYes) (te := tThen (tCB (rSortedS K) (tCons (tVar 8) tNil)) (kTup K)) rfl scLL.nd (pi_list (pv 3)) (blkOk_by (N := nLL) (sc := defScope sLLeast) (by decide +kernel))
        (fun _ _ _ _ _ => pg_name (i := 8) scLL.nd rfl (Or.inl rfl)) (fun _ _ _ _ _ => pts_nil) (fun _ _ _ _ _ => pe_tupleOf (by rfl) mt (pe_callB cr_sortedS (by rfl) ms (by decide +kernel) (pa_cons (pv 8) pa_nil))))))), ?_⟩
    -- found = [[] for _ in range(count)]
    refine ⟨_, rfl, (n : Int), rfl, by omega, by omega, fun L hL => ?_⟩
    have en : ((n : Int)).toNat = n := Int.toNat_natCast n
    rw [en]
    refine lc_range (lo := 0) (n := n) (fun i H2 => Same H H2 ∧ ∃ bs, LL H2 L bs (List.replicate i []) ∧ ∀ b ∈ L :: bs, H b = none) ⟨same_new hL, [], ⟨by simp, by rw [upd_same]; rfl, .nil⟩, fun b hb => by rw [List.mem_singleton.mp hb]; exact hL⟩ ?_ ?_
    · rintro i H2 hin ⟨q1, bs, q2, q3⟩
      refine ⟨rfl, Nat.zero_le _, fun l hl => ?_⟩
      have hLl : L ≠ l := ne_of_none q2.top hl
      have hl0 : H l = none := q1.free hl
      have ebs : bs.length = i := by rw [q2.its.length, List.length_replicate]
      refine ⟨_, by rw [upd_ne hLl]; exact q2.top, ?_, ?_, bs ++ [l], ?_, ?_⟩
      · rw [List.length_map, ebs]
        exact small1000 (by omega)
      · exact same_upd_at (same_upd_at q1 hl0) (q3 L (List.mem_cons_self ..))
      · have := q2.push (ys := []) hl
        rw [show List.replicate (i + 1) ([] : List V) = List.replicate i [] ++ [[]] from List.replicate_succ']
        exact this
      · intro b hb
        rcases List.mem_cons.mp hb with e | e
        · exact q3 b (by rw [e]; exact List.mem_cons_self ..)
        · rcases List.mem_append.mp e with e | e
          · exact q3 b (List.mem_cons_of_mem _ e)
          · rw [List.mem_singleton.mp e]; exact hl0
    rintro H2 ⟨q1, bs, q2, q3⟩
    have e0 : List.replicate n ([] : List V) = sxs (List.replicate n []) := by
      show _ = (List.replicate n ([] : List Str)).map _
      rw [List.map_replicate]
      rfl
    rw [e0] at q2
    have rin0 : Rin cs n (List.replicate n []) := by
      have eg : ∀ i, (List.replicate n ([] : List Str)).getD i [] = [] := fun i => by
        rw [List.getD, List.getElem?_replicate]
        split <;> rfl
      exact ⟨List.length_replicate, fun i => by rw [eg]; exact List.nodup_nil, fun i s hs => by rw [eg] at hs; cases hs⟩
    -- the rounds
    refine ⟨_, rfl, _, _, rfl, rfl, .inl ⟨by omega, by omega⟩, _, _, rfl, rfl, ((n : Int) * 5 + 1), rfl, by omega, by omega, ?_⟩
    have em : ((n : Int) * 5 + 1).toNat = n * 5 + 1 := by omega
    rw [em]
    refine for_rangeB (lo := 0) (n := n * 5 + 1)
      (fun i σ H3 => ∃ v2 v4 v5 v6 v7 rows, σ = [some (nv n), some (.ref Lc), v2, some (.ref L), v4, v5, v6, v7, none] ∧ Same H H3 ∧ LL H3 L bs (sxs rows) ∧ Rin cs n rows ∧ i ≤ total rows)
      (fun σ H3 => ∃ v2 v4 v5 v6 v7 rows, σ = [some (nv n), some (.ref Lc), v2, some (.ref L), v4, v5, v6, v7, none] ∧ Same H H3 ∧ LL H3 L bs (sxs rows) ∧ Rin cs n rows ∧ Closed cs rows)
      ?_ ⟨none, none, none, none, none, _, rfl, q1, q2, rin0, Nat.zero_le _⟩ ?_ ?_
    · -- return [tuple(sorted(row)) for row in found]
      rintro σ H3 ⟨v2, v4, v5, v6, v7, rows, rfl, s3, l3, r3, cl⟩
      refine ⟨_, rfl, L, rfl, ⟨_, SqL.of l3.top⟩, fun X hX => ?_⟩
      have hX0 : H X = none := s3.free hX
      have ebs : bs.length = n := by rw [l3.its.length, List.length_map, r3.len]
      refine lc_list (K := K) (a := L) (xs := bs.map V.ref) (fun i H5 => Same H3 H5 ∧ ∃ (ps : List Addr) (out : List (List Str)), H5 X = some (.lst (ps.map V.ref)) ∧ Paired (fun a (r : List Str) => H5 a = some (HO.tup (r.map V.str))) ps out ∧ out.length = i ∧
          ∀ j r, out[j]? = some r → r.Perm (rows.getD j []) ∧ sortedS r = true)
        ⟨same_new hX, [], [], by rw [upd_same]; rfl, .nil, rfl, by simp⟩ (fun i H5 _ q => SqL.of (q.1 _ _ l3.top)) ?_ ?_
      · rintro i x H5 hx ⟨s5, ps, out, h1, h2, h3, h4⟩
        rw [List.getElem?_map] at hx
        cases eb : bs[i]? with
        | none =>
          rw [eb] at hx
          cases hx
        | some b =>
          rw [eb] at hx
          obtain rfl : V.ref b = x := Option.some.inj hx
          have hin : i < rows.length := by
            have := (List.getElem?_eq_some_iff.mp eb).1
            rw [r3.len]
            omega
          obtain ⟨b', eb', _, hb⟩ := l3.row hin
          rw [eb] at eb'
          cases Option.some.inj eb'
          have hl5 : (rows.getD i []).length ≤ 5 := by
            rw [List.getD, List.getElem?_eq_getElem hin]
            exact r3.le5 hok _ (List.getElem_mem hin)
          refine ⟨rfl, _, rfl, b, rows.getD i [], rfl, SqL.of (s5 _ _ hb), by omega, fun ys y hperm hsrt hy => ?_⟩
          refine .inl ⟨y, _, rfl, SqL.of upd_same, fun t ht => ?_⟩
          have hXy : X ≠ y := ne_of_none h1 hy
          have hyt : y ≠ t := fun q => by rw [← q, upd_same] at ht; cases ht
          have ht0 : H5 t = none := by rw [upd_ne hyt.symm] at ht; exact ht
          have hXt : X ≠ t := ne_of_none h1 ht0
          have eps : ps.length = i := by rw [h2.length, h3]
          refine ⟨_, by rw [upd_ne hXt, upd_ne hXy]; exact h1, ?_, ?_, ps ++ [t], out ++ [ys], ?_, ?_, ?_, ?_⟩
          · rw [List.length_map, eps]
            rw [r3.len] at hin
            exact small1000 (by omega)
          · intro a o e
            have e5 := s5 _ _ e
            rw [upd_ne (ne_of_none e hX), upd_ne (ne_of_none e5 ht0), upd_ne (ne_of_none e5 hy)]
            exact e5
          · rw [upd_same, List.map_append]
            rfl
          · refine Paired.snoc (pr_mono h2 fun a r ha _ e => ?_) ?_
            · rw [upd_ne (ne_of e h1 (by intro z; cases z)), upd_ne (ne_of_none e ht0), upd_ne (ne_of_none e hy)]
              exact e
            · rw [upd_ne hXt.symm, upd_same]
          · rw [List.length_append, h3]
            rfl
          · intro j r hj
            by_cases e : j < i
            · rw [List.getElem?_append_left (by omega)] at hj
              exact h4 j r hj
            · have hj2 := (List.getElem?_eq_some_iff.mp hj).1
              rw [List.length_append, h3] at hj2
              have ej : j = i := by
                simp at hj2
                omega
              subst ej
              rw [List.getElem?_append_right (by omega), h3, Nat.sub_self] at hj
              rw [← Option.some.inj hj]
              exact ⟨hperm, hsrt⟩
      · rintro H5 ⟨s5, ps, out, h1, h2, h3, h4⟩
        rw [List.length_map, ebs] at h3
        refine k _ X out (s3.trans s5) hX0 ⟨ps, h1, h2⟩ ⟨h3, ?_, ?_, ?_⟩
        · intro i r hr'
          exact sorted_pw (h4 i r hr').2
        · intro i r hr'
          exact (h4 i r hr').1.nodup_iff.mpr (r3.nd i)
        · intro i r hr' s
          rw [(h4 i r hr').1.mem_iff]
          exact ⟨r3.snd i s, fun q => closed_must cl q⟩
    · -- one round
      rintro after i σ H3 hi ⟨v2, v4, v5, v6, v7, rows, rfl, s3, l3, r3, ht⟩
      have hC3 : H3 Lc = some (.lst vs) := s3 _ _ hLc
      refine ⟨_, rfl, Lc, rfl, ⟨_, SqL.of hC3⟩, for_list (K := K) (a := Lc) (xs := vs) (fun j σ H4 => ∃ v5 v6 v7 g rows', σ = [some (nv n), some (.ref Lc), some (.int (0 + (i : Nat))), some (.ref L), some (.bl g), v5, v6, v7, none] ∧ Same H H4 ∧ LL H4 L bs (sxs rows') ∧ Rin cs n rows' ∧
          (g = false → rows' = rows ∧ ∀ c ∈ cs.take j, ∀ m ∈ missing rows c, m.2 ∈ rows.getD m.1 []) ∧ (g = true → total rows + 1 ≤ total rows'))
        ⟨v5, v6, v7, false, rows, rfl, s3, l3, r3, fun _ => ⟨rfl, by simp⟩, fun q => by cases q⟩ (fun j σ H4 _ ⟨_, _, _, _, _, _, q, _⟩ => SqL.of (q _ _ hLc)) ?_ ?_⟩
      · rintro j v σ H4 hv ⟨v5, v6, v7, g, rows', rfl, s4, l4, r4, g0, g1⟩
        obtain ⟨c, ec, hcv⟩ := pr_get hcs hv
        have hcm : c ∈ cs := List.mem_of_getElem? ec
        have hcv4 : CondAt H4 U v c := hcv.stay (F := F0) (ch_of_same s4) (fun _ _ f => f) fun _ q => q
        -- the missing ones
        refine ⟨_, rfl, _, rfl, L, bs, rows', v, c, U, rfl, l4, hcv4, by rw [r4.len]; exact hok c hcm, fun r hr' => by have := r4.le5 hok r hr'; omega, fun H5 q s5 hq ⟨ts, hq5, hts⟩ => ?_⟩
        have hqL : ∀ b ∈ L :: bs, q ≠ b := fun b hb e => by
          obtain ⟨xs, e'⟩ := l4.tracked hb
          rw [← e, hq] at e'
          cases e'
        have l5 := l4.stay (F := F0) (ch_of_same s5) fun _ _ f => f
        have hms : ∀ m ∈ missing rows' c, m.1 < n ∧ Must (Sc cs) (Ec cs) m.1 m.2 := fun m hm => miss_ok r4 hok hcm hm
        have htn : ∀ a ∈ ts, ∀ b ∈ L :: bs, a ≠ b := fun a ha b hb e => by
          obtain ⟨i', hi'⟩ := List.getElem?_of_mem ha
          obtain ⟨m, _, em⟩ := pr_get hts hi'
          obtain ⟨xs, e'⟩ := l5.tracked hb
          rw [← e, em] at e'
          cases e'
        refine ⟨q, rfl, ⟨_, SqL.of hq5⟩, for_list (K := K) (a := q) (xs := ts.map V.ref) (fun k' σ H6 => ∃ v6 v7 g' rows'', σ = [some (nv n), some (.ref Lc), some (.int (0 + (i : Nat))), some (.ref L), some (.bl g'), some v, v6, v7, none] ∧ Same H H6 ∧ LL H6 L bs (sxs rows'') ∧ Rin cs n rows'' ∧
            H6 q = some (.lst (ts.map V.ref)) ∧ Paired (fun t (m : Nat × Str) => H6 t = some (HO.tup [nv m.1, .str m.2])) ts (missing rows' c) ∧
            (g' = false → rows'' = rows' ∧ g = false ∧ ∀ m ∈ (missing rows' c).take k', m.2 ∈ rows'.getD m.1 []) ∧ (g' = true → total rows + 1 ≤ total rows''))
          ⟨v6, v7, g, rows', rfl, s4.trans s5, l5, r4, hq5, hts, fun h => ⟨rfl, h, by simp⟩, g1⟩ (fun k' σ H6 _ ⟨_, _, _, _, _, _, _, _, h, _⟩ => SqL.of h) ?_ ?_⟩
        · rintro k' x σ H6 hx ⟨v6, v7, g', rows'', rfl, s6, l6, r6, hq6, hts6, g2, g3⟩
          rw [List.getElem?_map] at hx
          cases et : ts[k']? with
          | none => rw [et] at hx; cases hx
          | some t =>
            rw [et] at hx
            obtain rfl : V.ref t = x := Option.some.inj hx
            obtain ⟨m, em, hm⟩ := pr_get hts6 et
            obtain ⟨mi, ms'⟩ := m
            obtain ⟨hmn, hmm⟩ := hms _ (List.mem_of_getElem? em)
            obtain ⟨b, eb, hbr, hb⟩ := l6.row (i := mi) (by rw [r6.len]; exact hmn)
            refine ⟨t, _, rfl, SqT.of hm, rfl, _, _, rfl, _, _, rfl, rfl, ?_⟩
            refine ⟨_, rfl, _, rfl, _, rfl, L, _, _, V.ref b, rfl, rfl, SqL.of l6.top, atI_nat hbr, b, _, rfl, .inl (SqL.of hb), rfl, flat_str _, _, rfl, ?_⟩
            rw [inV_str]
            by_cases hin : ms' ∈ rows''.getD mi []
            · rw [decide_eq_true hin]
              refine iteF ⟨_, _, g', rows'', rfl, s6, l6, r6, hq6, hts6, fun h => ⟨(g2 h).1, (g2 h).2.1, fun m' hm' => ?_⟩, g3⟩
              rw [List.take_add_one, em] at hm'
              rcases List.mem_append.mp hm' with hm' | hm'
              · exact (g2 h).2.2 m' hm'
              · rw [List.mem_singleton.mp hm', ← (g2 h).1]
                exact hin
            · rw [decide_eq_false hin]
              have hlt : mi < rows''.length := by rw [r6.len]; exact hmn
              have hbm : b ∈ L :: bs := List.mem_cons_of_mem _ (List.mem_of_getElem? eb)
              refine iteT ⟨_, rfl, _, rfl, L, _, _, V.ref b, rfl, rfl, SqL.of l6.top, atI_nat hbr, .inl ⟨rfl, _, SqL.of hb⟩, _, rfl, b, _, _, rfl, rfl, hb, ?_, ?_⟩
              · rw [List.length_map, List.getD, List.getElem?_eq_getElem hlt]
                exact small1000 (by have := r6.le5 hok _ (List.getElem_mem hlt); show rows''[mi].length ≤ 1000; omega)
              · refine ⟨_, _, true, rows''.set mi (rows''.getD mi [] ++ [ms']), rfl, same_upd_at s6 (q3 b hbm), ?_, r6.add hmn hmm hin, by rw [upd_ne (hqL b hbm)]; exact hq6, ?_, (fun h => by cases h), fun _ => ?_⟩
                · have h1 := l6.set (ys := (rows''.getD mi []).map V.str ++ [.str ms']) eb
                  have e : (sxs rows'').set mi ((rows''.getD mi []).map V.str ++ [.str ms']) = sxs (rows''.set mi (rows''.getD mi [] ++ [ms'])) := by
                    show _ = (rows''.set mi (rows''.getD mi [] ++ [ms'])).map _
                    rw [List.map_set, List.map_append]
                    rfl
                  rw [e] at h1
                  exact h1
                · refine pr_mono hts6 fun a m ha _ e => ?_
                  rw [upd_ne (htn a ha b hbm)]
                  exact e
                · rw [total_set hlt]
                  cases eg : g' with
                  | true =>
                    have := g3 eg
                    omega
                  | false =>
                    have h1 := g2 eg
                    have h2 := g0 h1.2.1
                    rw [h1.1, h2.1]
                    exact Nat.le_refl _
        · rintro σ H6 ⟨v6, v7, g', rows'', rfl, s6, l6, r6, hq6, hts6, g2, g3⟩
          refine ⟨_, v6, v7, g', rows'', rfl, s6, l6, r6, fun h => ?_, g3⟩
          have h1 := g2 h
          have h2 := g0 h1.2.1
          refine ⟨h1.1.trans h2.1, fun c' hc' m hm => ?_⟩
          rw [List.take_add_one, ec] at hc'
          rcases List.mem_append.mp hc' with hc' | hc'
          · exact h2.2 c' hc' m hm
          · rw [List.mem_singleton.mp hc'] at hm
            have h3 := h1.2.2 m
            rw [List.length_map, hts.length, List.take_length, h2.1] at h3
            exact h3 hm
      · rintro σ H4 ⟨v5, v6, v7, g, rows', rfl, s4, l4, r4, g0, g1⟩
        -- if not grown: break
        refine ⟨_, rfl, g, rfl, ?_⟩
        cases g with
        | false =>
          refine iteT ?_
          have h := g0 rfl
          rw [hcs.length, List.take_length] at h
          refine after _ _ ⟨_, _, v5, v6, v7, rows', rfl, s4, l4, r4, ?_⟩
          rw [h.1]
          exact h.2
        | true =>
          refine iteF ?_
          have h := g1 rfl
          exact ⟨_, _, v5, v6, v7, rows', rfl, s4, l4, r4, by omega⟩
    · rintro σ H3 ⟨v2, v4, v5, v6, v7, rows, rfl, s3, l3, r3, ht⟩
      have h1 := total_le (r3.le5 hok)
      rw [r3.len] at h1
      omega
end
end Ka


set_option Elab.async false
set_option linter.all false
set_option maxRecDepth 100000
set_option maxHeartbeats 4000000
namespace Ka
open PySem PySem.Spec L2 PyProof.Rows Km
/-! ### data -/
theorem dpall_of {K : PySem.W.Frag} {H : Hp} : ∀ {vs : List V} {ds : List PyData}, Paired (Dp K H) vs ds → DpAll K H vs ds
  | _, _, .nil => .nil
  | _, _, .cons h t => .cons h (dpall_of t)
theorem dp_nats {K : PySem.W.Frag} {H : Hp} {a : Addr} {ns : List Nat} (h : SqL K H a (ns.map nv)) : Dp K H (.ref a) (.list (ns.map fun i : Nat => PyData.int (i : Int))) :=
  .lst h (dpall_of (pr_ix (by rw [List.length_map, List.length_map]) fun i v d hv hd => by
    rw [List.getElem?_map] at hv hd
    cases e : ns[i]? with
    | none => rw [e] at hv; cases hv
    | some x =>
      rw [e] at hv hd
      rw [← Option.some.inj hv, ← Option.some.inj hd]
      exact .int _))
theorem can_ints : ∀ ns : List Nat, PyData.canLayAll0 (ns.map fun i : Nat => PyData.int (i : Int)) = true
  | [] => by simp [PyData.canLayAll0]
  | x :: r => by
    show PyData.canLayAll0 (PyData.int (x : Int) :: r.map fun i : Nat => PyData.int (i : Int)) = true
    simp only [PyData.canLayAll0, PyData.canLay0, Bool.true_and]
    exact can_ints r
theorem dep_ints : ∀ ns : List Nat, PyData.depthAll (ns.map fun i : Nat => PyData.int (i : Int)) = 0
  | [] => by simp [PyData.depthAll]
  | x :: r => by
    show PyData.depthAll (PyData.int (x : Int) :: r.map fun i : Nat => PyData.int (i : Int)) = 0
    simp only [PyData.depthAll, PyData.depth, dep_ints r]
    rfl
theorem shaped_ints (ns : List Nat) : SeqAt.shaped (.list (ns.map fun i : Nat => PyData.int (i : Int))) = true := by
  unfold SeqAt.shaped
  rw [Bool.and_eq_true]
  refine ⟨by simp only [PyData.canLay0]; exact can_ints ns, decide_eq_true ?_⟩
  simp only [PyData.depth, dep_ints]
  omega
def dRow (r : List Str) : PyData := .tuple (r.map PyData.str)
def dRows (rows : List (List Str)) : PyData := .list (rows.map dRow)
theorem five_ok : ∀ x ∈ names5, PyData.strOk x = true := by decide +kernel
theorem can_strs : ∀ r : List Str, (∀ s ∈ r, s ∈ names5) → PyData.canLayAll0 (r.map PyData.str) = true
  | [], _ => by simp [PyData.canLayAll0]
  | x :: r, h => by
    show PyData.canLayAll0 (PyData.str x :: r.map PyData.str) = true
    simp only [PyData.canLayAll0, PyData.canLay0, Bool.and_eq_true]
    exact ⟨five_ok x (h x (List.mem_cons_self ..)), can_strs r fun s hs => h s (List.mem_cons_of_mem _ hs)⟩
theorem dep_strs : ∀ r : List Str, PyData.depthAll (r.map PyData.str) = 0
  | [] => by simp [PyData.depthAll]
  | x :: r => by
    show PyData.depthAll (PyData.str x :: r.map PyData.str) = 0
    simp only [PyData.depthAll, PyData.depth, dep_strs r]
    rfl
theorem can_rows : ∀ rows : List (List Str), (∀ r ∈ rows, ∀ s ∈ r, s ∈ names5) → PyData.canLayAll0 (rows.map dRow) = true
  | [], _ => by simp [PyData.canLayAll0]
  | x :: r, h => by
    show PyData.canLayAll0 (PyData.tuple (x.map PyData.str) :: r.map dRow) = true
    simp only [PyData.canLayAll0, PyData.canLay0, Bool.and_eq_true]
    exact ⟨can_strs x (h x (List.mem_cons_self ..)), can_rows r fun s hs => h s (List.mem_cons_of_mem _ hs)⟩
theorem dep_rows : ∀ rows : List (List Str), PyData.depthAll (rows.map dRow) ≤ 1
  | [] => by simp [PyData.depthAll]
  | x :: r => by
    show PyData.depthAll (PyData.tuple (x.map PyData.str) :: r.map dRow) ≤ 1
    simp only [PyData.depthAll, PyData.depth, dep_strs x]
    have := dep_rows r
    omega
theorem shaped_rows {rows : List (List Str)} (h : ∀ r ∈ rows, ∀ s ∈ r, s ∈ names5) : SeqAt.shaped (dRows rows) = true := by
  unfold SeqAt.shaped dRows
  rw [Bool.and_eq_true]
  refine ⟨by simp only [PyData.canLay0]; exact can_rows rows h, decide_eq_true ?_⟩
  simp only [PyData.depth]
  have := dep_rows rows
  omega
theorem dp_tup {K : PySem.W.Frag} {H : Hp} {a : Addr} {r : List Str} (h : H a = some (HO.tup (r.map V.str))) : Dp K H (.ref a) (dRow r) :=
  .tup (SqT.of h) (dpall_of (pr_ix (by rw [List.length_map, List.length_map]) fun i v d hv hd => by
    rw [List.getElem?_map] at hv hd
    cases e : r[i]? with
    | none => rw [e] at hv; cases hv
    | some x =>
      rw [e] at hv hd
      rw [← Option.some.inj hv, ← Option.some.inj hd]
      exact .str _))
theorem dp_res {K : PySem.W.Frag} {H : Hp} {q : Addr} {rows : List (List Str)} (h : ResAt H q rows) : Dp K H (.ref q) (dRows rows) := by
  obtain ⟨ps, h1, h2⟩ := h
  refine .lst (SqL.of h1) (dpall_of (pr_ix (by rw [List.length_map, List.length_map, h2.length]) fun i v d hv hd => ?_))
  rw [List.getElem?_map] at hv hd
  cases e : ps[i]? with
  | none => rw [e] at hv; cases hv
  | some x =>
    obtain ⟨r, er, hr⟩ := pr_get h2 e
    rw [e] at hv
    rw [er] at hd
    rw [← Option.some.inj hv, ← Option.some.inj hd]
    exact dp_tup hr
theorem eqv_self {d : PyData} (h : SeqAt.shaped d = true) : PyData.eqv d d = true := SeqAt.eqv_refl d (SeqAt.canLay_of_shaped h)
section
variable {P : Program} {w : World} {K : PySem.W.Frag} {mg : Str → Option Value} {base : Heap}
abbrev nLaw : List Str := ["_law_script", "_law_state_here", "_law_rows", "_law_count", "_law_conditions", "_law_k_here", "_law_due", "_law_told", "_law_k", "_law_row"]
theorem scLaw : FnScope nLaw ["_law_script"] (defScope sLaw) := ⟨rfl, rfl, rfl, by decide +kernel, rfl, by decide +kernel, by decide +kernel⟩
def spLaw (K : PySem.W.Frag) : Sp := fun vs H Q _ => ∃ (a : Addr) (ns : List Int), vs = [.ref a] ∧ SqL K H a (ns.map V.int) ∧ ns.length ≤ 63 ∧ ∀ H', Q (.bl true) H'
/-! ### the law's world: the state, the rows, the list of conditions, each apart -/
structure Wd (C : Addr) (H : Hp) (s c p n : Nat) (cr cl : List Cond) (B : Nat) (R : Addr → Prop) (L : Addr) (U : Addr → Prop) : Prop where
  st : StAt H s c
  rw : RwAt C H p n (Sc cr) (Ec cr) B R
  cs : CsAt H L cl U
  rs : ∀ a, R a → ¬ Fst s c a
  ru : ∀ a, R a → a ≠ L ∧ ¬ U a
  us : ∀ a, U a → ¬ Fst s c a ∧ a ≠ L
  ls : ¬ Fst s c L
  tu : ∀ a, U a → ∃ o, H a = some o
theorem StAt.tracked {H : Hp} {s c a : Addr} (h : StAt H s c) (m : Fst s c a) : ∃ o, H a = some o := by
  obtain ⟨i, cs, h1, h2, _⟩ := h
  rcases m with e | e
  · exact ⟨_, by rw [e]; exact h1⟩
  · exact ⟨_, by rw [e]; exact h2⟩
theorem CsAt.stay {F U : Addr → Prop} {H H' : Hp} {L : Addr} {cs : List Cond} (h : CsAt H L cs U) (k : Ch F H H') (n : ∀ u, U u → ¬ F u) (hL : ¬ F L) : CsAt H' L cs U := by
  obtain ⟨vs, h1, h2⟩ := h
  exact ⟨vs, k.keep _ _ h1 hL, pr_mono h2 fun v c _ _ r => r.stay k n fun _ q => q⟩
theorem Wd.same {C : Addr} {H H' : Hp} {s c p n : Nat} {cr cl : List Cond} {B : Nat} {R : Addr → Prop} {L : Addr} {U : Addr → Prop} (h : Wd C H s c p n cr cl B R L U) (k : Same H H') : Wd C H' s c p n cr cl B R L U where
  st := h.st.stay (F := F0) (ch_of_same k) (fun f => f) fun f => f
  rw := h.rw.stay (F' := F0) (ch_of_same k) fun _ _ f => f
  cs := h.cs.stay (F := F0) (ch_of_same k) (fun _ _ f => f) fun f => f
  rs := h.rs
  ru := h.ru
  us := h.us
  ls := h.ls
  tu := fun a ha => let ⟨o, e⟩ := h.tu a ha; ⟨o, k a o e⟩
theorem Wd.take {C : Addr} {H H' : Hp} {s c p n : Nat} {cr cl : List Cond} {B : Nat} {R : Addr → Prop} {L : Addr} {U : Addr → Prop} (h : Wd C H s c p n cr cl B R L U) (k : Ch (Fst s c) H H') (st : StAt H' s c) : Wd C H' s c p n cr cl B R L U where
  st := st
  rw := h.rw.stay k h.rs
  cs := h.cs.stay k (fun u hu => (h.us u hu).1) h.ls
  rs := h.rs
  ru := h.ru
  us := h.us
  ls := h.ls
  tu := fun a ha => let ⟨o, e⟩ := h.tu a ha; ⟨o, k.keep a o e (h.us a ha).1⟩
/-- behind «conditions.append(_law_condition(..))» -/
theorem Wd.cond {C : Addr} {H H' : Hp} {s c p n : Nat} {cr cl : List Cond} {B : Nat} {R : Addr → Prop} {L : Addr} {U U2 : Addr → Prop} {v : V} {cd : Cond} {vs : List V} (h : Wd C H s c p n cr cl B R L U) (k : Ch (Fst s c) H H') (st : StAt H' s c)
    (hv : CondAt H' U2 v cd) (hU : ∀ u, U2 u → H u = none ∧ ∃ o, H' u = some o) (hL : H' L = some (.lst vs)) (hp : Paired (fun v c => CondAt H' U v c) vs cl) :
    Wd C (upd H' L (.lst (vs ++ [v]))) s c p n cr (cl ++ [cd]) B R L (fun a => U a ∨ U2 a) := by
  have h' := h.take k st
  have kL : Ch (fun a => a = L) H' (upd H' L (.lst (vs ++ [v]))) := ch_at hL (by intro xs z; cases z) rfl
  have nU2 : ∀ u, U2 u → ¬ Fst s c u ∧ u ≠ L ∧ ¬ R u := fun u hu => by
    have e := (hU u hu).1
    refine ⟨fun m => ?_, fun m => ?_, fun m => ?_⟩
    · obtain ⟨o, q⟩ := h.st.tracked m
      rw [e] at q
      cases q
    · obtain ⟨w, q, _⟩ := h.cs
      rw [m, q] at e
      cases e
    · obtain ⟨o, q, _⟩ := h.rw.tracked m
      rw [e] at q
      cases q
  exact {
    st := h'.st.stay kL (fun q => h.ls (.inl q.symm)) fun q => h.ls (.inr q.symm)
    rw := h'.rw.stay kL fun a ha q => (h.ru a ha).1 q
    cs := ⟨vs ++ [v], upd_same, Paired.snoc (pr_mono hp fun v c _ _ r => r.stay kL (fun u hu q => (h.us u hu).2 q) fun _ q => .inl q) (hv.stay kL (fun u hu q => (nU2 u hu).2.1 q) fun _ q => .inr q)⟩
    rs := h.rs
    ru := fun a ha => ⟨(h.ru a ha).1, fun q => q.elim (h.ru a ha).2 fun q => (nU2 a q).2.2 ha⟩
    us := fun a ha => ha.elim (h.us a) fun q => ⟨(nU2 a q).1, (nU2 a q).2.1⟩
    ls := h.ls
    tu := fun a ha => by
      by_cases e : a = L
      · exact ⟨_, by rw [e, upd_same]⟩
      · rw [upd_ne e]
        exact ha.elim (h'.tu a) fun q => (hU a q).2 }
theorem Wd.add {C : Addr} {H H' : Hp} {s c p n : Nat} {cr cr' cl : List Cond} {B B' : Nat} {R R' : Addr → Prop} {L : Addr} {U : Addr → Prop} (h : Wd C H s c p n cr cl B R L U) (k : Ch R H H') (hr : RwAt C H' p n (Sc cr') (Ec cr') B' R') (hf : ∀ a, R' a → R a ∨ H a = none) : Wd C H' s c p n cr' cl B' R' L U where
  st := h.st.stay k (fun q => h.rs _ q (.inl rfl)) fun q => h.rs _ q (.inr rfl)
  rw := hr
  cs := h.cs.stay k (fun u hu q => (h.ru u q).2 hu) fun q => (h.ru L q).1 rfl
  rs := fun a ha => (hf a ha).elim (h.rs a) fun e m => by
    obtain ⟨o, q⟩ := h.st.tracked m
    rw [e] at q
    cases q
  ru := fun a ha => (hf a ha).elim (h.ru a) fun e => ⟨(fun m => by
    obtain ⟨w, q, _⟩ := h.cs
    rw [m, q] at e
    cases e), fun m => by
    obtain ⟨o, q⟩ := h.tu a m
    rw [e] at q
    cases q⟩
  us := h.us
  ls := h.ls
  tu := fun a ha => let ⟨o, e⟩ := h.tu a ha; ⟨o, k.keep a o e fun q => (h.ru a q).2 ha⟩
theorem least_five {cs : List Cond} {n : Nat} (ok : ∀ c ∈ cs, CondOk n c) {rows : List (List Str)} (h : Least n (Must (Sc cs) (Ec cs)) rows) : ∀ r ∈ rows, ∀ s ∈ r, s ∈ names5 := fun r hr s hs => by
  obtain ⟨i, hi⟩ := List.getElem?_of_mem hr
  exact must_five ok ((h.mem i r hi s).mp hs)
theorem least_nil {n : Nat} : Least n (Must (Sc []) (Ec [])) (List.replicate n []) := by
  have e : ∀ (i : Nat) (r : List Str), (List.replicate n ([] : List Str))[i]? = some r → r = [] := fun i r h => by
    have := List.mem_of_getElem? h
    exact (List.mem_replicate.mp this).2
  refine ⟨List.length_replicate, fun i r h => by rw [e i r h]; exact List.Pairwise.nil, fun i r h => by rw [e i r h]; exact List.nodup_nil, fun i r h s => ?_⟩
  rw [e i r h]
  constructor
  · intro q
    cases q
  · intro q
    obtain ⟨j, hj⟩ := must_hold q
    cases hj
theorem least_snoc {cs : List Cond} {n : Nat} (ok : ∀ c ∈ cs, CondOk n c) {rows : List (List Str)} (h : Least n (Must (Sc cs) (Ec cs)) rows) : Least (n + 1) (Must (Sc cs) (Ec cs)) (rows ++ [[]]) := by
  have key : ∀ (i : Nat) (r : List Str), (rows ++ [[]])[i]? = some r → rows[i]? = some r ∨ (i = n ∧ r = []) := fun i r hr => by
    by_cases e : i < rows.length
    · rw [List.getElem?_append_left e] at hr
      exact .inl hr
    · have hl := (List.getElem?_eq_some_iff.mp hr).1
      rw [List.length_append] at hl
      have hl2 : i < rows.length + 1 := hl
      have e2 : i = rows.length := by omega
      rw [List.getElem?_append_right (by omega), e2, Nat.sub_self] at hr
      exact .inr ⟨by rw [e2, h.len], (Option.some.inj hr).symm⟩
  refine ⟨by rw [List.length_append, h.len]; rfl, fun i r hr => ?_, fun i r hr => ?_, fun i r hr s => ?_⟩
  · rcases key i r hr with e | ⟨_, e⟩
    · exact h.pw i r e
    · rw [e]; exact List.Pairwise.nil
  · rcases key i r hr with e | ⟨_, e⟩
    · exact h.nd i r e
    · rw [e]; exact List.nodup_nil
  · rcases key i r hr with e | ⟨e1, e⟩
    · exact h.mem i r e s
    · rw [e, e1]
      constructor
      · intro q
        cases q
      · intro q
        have := must_lt ok q
        omega
structure Fs (K : PySem.W.Frag) (mg : Str → Option Value) (C : Addr) where
  fI : Addr
  fF : Addr
  fC : Addr
  fW : Addr
  fS : Addr
  fL : Addr
  fR : Addr
  gS : Addr
  gT : Addr
  gC : Addr
  gA : Addr
  gM : Addr
  gL : Addr
  dI : FuncData
  dF : FuncData
  dC : FuncData
  dW : FuncData
  dS : FuncData
  dL : FuncData
  dR : FuncData
  eS : FuncData
  eT : FuncData
  eC : FuncData
  eA : FuncData
  eM : FuncData
  eL : FuncData
  T : Txt K mg C
  M : Mk K C fI
  FI : Fun K "__init__" "Rows.__init__" sInit fI dI
  bI : Binds K dI ["self"] []
  FF : Fun K "fresh" "Rows.fresh" sFresh fF dF
  bF : Binds K dF ["self"] []
  mF : Meth K C "fresh" fF
  FC : Fun K "contain" "Rows.contain" sContain fC dC
  bC : Binds K dC ["self", "row", "name"] []
  mC : Meth K C "contain" fC
  FW : Fun K "flow" "Rows.flow" sFlow fW dW
  bW : Binds K dW ["self", "source", "target", "without"] []
  mW : Meth K C "flow" fW
  FS : Fun K "same" "Rows.same" sSame fS dS
  bS : Binds K dS ["self", "one", "other"] []
  mS : Meth K C "same" fS
  FL : Fun K "least" "Rows.least" sLeast fL dL
  bL : Binds K dL ["self"] []
  mL : Meth K C "least" fL
  FR : Fun K "reached" "Rows.reached" sReached fR dR
  bR : Binds K dR ["self", "name"] []
  mR : Meth K C "reached" fR
  hS : Fun K "_law_state" "_law_state" sState gS eS
  cS : Binds K eS ["_law_script"] []
  uS : mg "_law_state" = some (.ref gS)
  hT : Fun K "_law_take" "_law_take" sTake gT eT
  cT : Binds K eT ["_law_state_here", "_law_most"] []
  uT : mg "_law_take" = some (.ref gT)
  hC : Fun K "_law_condition" "_law_condition" sCond gC eC
  cC : Binds K eC ["_law_state_here", "_law_count"] []
  uC : mg "_law_condition" = some (.ref gC)
  hA : Fun K "_law_add" "_law_add" sAdd gA eA
  cA : Binds K eA ["_law_rows", "_law_condition_here"] []
  uA : mg "_law_add" = some (.ref gA)
  hM : Fun K "_law_missing" "_law_missing" sMiss gM eM
  cM : Binds K eM ["_law_found", "_law_condition_here"] []
  uM : mg "_law_missing" = some (.ref gM)
  hL : Fun K "_law_least" "_law_least" sLLeast gL eL
  cL : Binds K eL ["_law_count", "_law_conditions"] []
  uL : mg "_law_least" = some (.ref gL)
  mabs : mg "abs" = none
  mint : mg "int" = none
  mrng : mg "range" = none
  mall : mg "all" = none
  misi : mg "isinstance" = none
theorem ok_law {f C : Addr} {fd : FuncData} (F : Fun K "law" "law" sLaw f fd) (A : Fs K mg C) : FnOk P w K mg base CX0 4 f fd ["_law_script"] (spLaw K) := by
  have GI : FnOk P w K mg base CX0 1 A.fI A.dI ["self"] (spInit C) := ok_init A.FI A.T
  have GF : FnOk P w K mg base CX0 1 A.fF A.dF ["self"] (spFresh C) := ok_fresh A.FF A.T
  have GL : FnOk P w K mg base CX0 2 A.fL A.dL ["self"] (spLeast C) := ok_least A.FL A.T A.FR A.bR A.mR
  have JS : FnOk P w K mg base CX0 1 A.gS A.eS ["_law_script"] (spState K) := ok_state A.hS A.T.len A.mabs
  have JT : FnOk P w K mg base CX0 1 A.gT A.eT ["_law_state_here", "_law_most"] spTake := ok_take A.hT A.T.len A.mint
  have JC : FnOk P w K mg base CX0 2 A.gC A.eC ["_law_state_here", "_law_count"] spCond := ok_cond A.hC A.hT A.cT A.uT A.T.len A.mint
  have JA : FnOk P w K mg base CX0 3 A.gA A.eA ["_law_rows", "_law_condition_here"] (spAdd C) := ok_add A.hA A.T A.FC A.bC A.mC A.FW A.bW A.mW A.FS A.bS A.mS
  have JL : FnOk P w K mg base CX0 2 A.gL A.eL ["_law_count", "_law_conditions"] spLLeast := ok_lleast A.hL A.hM A.cM A.uM A.mrng A.T.tup A.T.srt
  refine F.ok scLaw (fun vs H Q E h => ?_) (fun cdv Ar outer s H vs Q E hr h => ?_)
  · obtain ⟨a, ns, rfl, _⟩ := h
    rfl
  · obtain ⟨a, ns, rfl, hS, hlen, k⟩ := h
    have hr1 : Room 1 _ := hr.mono (by decide)
    have hr2 : Room 2 _ := hr.mono (by decide)
    have hu := hr.units
    refine ⟨_, pss_cons (ps_set (i := 1) scLaw.nd rfl (Or.inl rfl) (pe_call JS hr1 (by rfl) A.uS A.hS.kp A.cS .nil pass0 (pa_cons (pv 0) pa_nil)))
      (pss_cons (ps_set (i := 2) scLaw.nd rfl (Or.inr rfl) (pe_make0 A.M GI hr2 rfl A.T.mgC A.bI .nil pass0))
      (pss_cons (ps_set (i := 3) scLaw.nd rfl (Or.inl rfl) (pe_op op_add pe_int (pe_call JT hr1 (by rfl) A.uT A.hT.kp A.cT .nil pass0 (pa_cons (pv 1) (pa_cons pe_int pa_nil)))))
      (pss_cons (ps_if (PW.pt (pw_or
          (pt_cmpR (op_neD hu) (pe_lc (own := [("_law_k", 8)]) (g := gName 8) (tt := tYes) (te := tMeth C "fresh" (spFresh C) [] E0 (tVar 2) tNil) rfl scLaw.nd (pi_range1 rfl A.mrng (pa_cons (pv 3) pa_nil))
              (blkOk_by (N := nLaw) (sc := defScope sLaw) (by decide +kernel)) (fun _ _ _ _ _ => pg_name (i := 8) scLaw.nd rfl (Or.inl rfl)) (fun _ _ _ _ _ => pts_nil) (fun _ _ _ _ _ => pe_meth0 (pv 2) A.T.cl A.mF GF hr1 A.bF .nil pass0))
            (pe_listRg rfl (by rfl) A.T.lst (prg_1 (by rfl) A.mrng (pv 3))) (nomark _))
          (pw_or1 (pt_cmpR (op_neD hu) (pe_meth0 (pv 2) A.T.cl A.mL GL hr2 A.bL .nil pass0)
            (pe_lc (own := [("_law_k", 8)]) (g := gName 8) (tt := tYes) (te := tTup tNil) rfl scLaw.nd (pi_range1 rfl A.mrng (pa_cons (pv 3) pa_nil))
              (blkOk_by (N := nLaw) (sc := defScope sLaw) (by decide +kernel)) (fun _ _ _ _ _ => pg_name (i := 8) scLaw.nd rfl (Or.inl rfl)) (fun _ _ _ _ _ => pts_nil) (fun _ _ _ _ _ => pe_tup pa_nil)) (nomark _)))))
          (pss_one (ps_ret pe_bl)) pss_nil)
      (pss_cons (ps_set (i := 4) scLaw.nd rfl (Or.inl rfl) (pe_lst pa_nil))
      (pss_cons (ps_for PassesOwn.never rfl (pi_range1 rfl A.mrng (pa_cons (pe_op op_add pe_int (pe_call JT hr1 (by rfl) A.uT A.hT.kp A.cT .nil pass0 (pa_cons (pv 1) (pa_cons pe_int pa_nil)))) pa_nil)) (pg_name (i := 5) scLaw.nd rfl (Or.inl rfl))
        (pss_cons (ps_expr (pe_bm PySem.F.plainAttrs_list PySem.F.slot_list_append PySem.F.type_list_append mt_append (pv 4) (pa_cons (pe_call JC hr2 (by rfl) A.uC A.hC.kp A.cC .nil pass0 (pa_cons (pv 1) (pa_cons (pv 3) pa_nil))) pa_nil)))
        (pss_cons (ps_if (pt_cmpR op_notN (pe_call JA hr (by rfl) A.uA A.hA.kp A.cA .nil pass0 (pa_cons (pv 2) (pa_cons (pe_ix ix_list (pv 4) (pv 5) (fun _ _ => rfl)) pa_nil))) pe_non (nomark _)) (pss_one (ps_ret pe_bl)) pss_nil)
        (pss_one (ps_if (PW.pt (pw_and (pt_cmpR op_eq (pe_call JT hr1 (by rfl) A.uT A.hT.kp A.cT .nil pass0 (pa_cons (pv 1) (pa_cons pe_int pa_nil))) pe_int (nomark _))
            (pw_and1 (pt_cmpR (op_neD hu) (pe_meth0 (pv 2) A.T.cl A.mL GL hr2 A.bL .nil pass0) (pe_call JL hr2 (by rfl) A.uL A.hL.kp A.cL .nil pass0 (pa_cons (pv 3) (pa_cons (pv 4) pa_nil))) (nomark _)))))
          (pss_one (ps_ret pe_bl)) pss_nil)))))
      (pss_cons (ps_set (i := 6) scLaw.nd rfl (Or.inl rfl) (pe_call JL hr2 (by rfl) A.uL A.hL.kp A.cL .nil pass0 (pa_cons (pv 3) (pa_cons (pv 4) pa_nil))))
      (pss_cons (ps_set (i := 7) scLaw.nd rfl (Or.inl rfl) (pe_meth0 (pv 2) A.T.cl A.mL GL hr2 A.bL .nil pass0))
      (pss_cons (ps_if (PW.pt (pw_or (pt_cmpR (op_neD hu) (pv 7) (pv 6) (nomark _))
          (pw_or (pt_not (pt_val (pe_callB call_isi (by rfl) A.misi (by decide +kernel) (pa_cons (pv 7) (pa_cons (pe_bltn (v := .ty "list") (by rfl) A.T.lst (by decide +kernel) rfl) pa_nil)))))
          (pw_or1 (pt_not (pt_val (pe_callB (cr_all rfl) (by rfl) A.mall (by decide +kernel) (pa_cons
            (pe_lc (own := [("_law_row", 9)]) (g := gName 9) (tt := tYes) (te := tCB (rIsi K) (tCons (tVar 9) (tCons (tC (.ty "tuple")) tNil))) rfl scLaw.nd (pi_list (pv 7))
              (blkOk_by (N := nLaw) (sc := defScope sLaw) (by decide +kernel)) (fun _ _ _ _ _ => pg_name (i := 9) scLaw.nd rfl (Or.inl rfl)) (fun _ _ _ _ _ => pts_nil)
              (fun _ _ _ _ _ => pe_callB call_isi (by rfl) A.misi (by decide +kernel) (pa_cons (pv 9) (pa_cons (pe_bltn (v := .ty "tuple") (by rfl) A.T.tup (by decide +kernel) rfl) pa_nil)))) pa_nil))))))))
          (pss_one (ps_ret pe_bl)) pss_nil)
      (pss_cons (ps_expr (pe_bm PySem.F.plainAttrs_list PySem.F.slot_list_append PySem.F.type_list_append mt_append (pv 7) (pa_cons (pe_tup pa_nil) pa_nil)))
      (pss_one (ps_ret (pe_and (pe_cmpR (op_eqD hu) (pe_meth0 (pv 2) A.T.cl A.mL GL hr2 A.bL .nil pass0) (pv 6) (nomark _))
        (pe_and (pe_cmpR op_eq (pe_meth0 (pv 2) A.T.cl A.mF GF hr1 A.bF .nil pass0) (pv 3) (nomark _))
        (pe_one (pe_cmpR (op_eqD hu) (pe_meth0 (pv 2) A.T.cl A.mL GL hr2 A.bL .nil pass0) (pe_op op_cat (pv 6) (pe_lst (pa_cons (pe_tup pa_nil) pa_nil))) (nomark _)))))))))))))))), ?_⟩
    -- state = _law_state(script)
    refine ⟨_, rfl, a, ns, rfl, hS, hlen, fun H1 s c st1 s1 hs0 hc0 => ?_⟩
    -- rows = Rows()
    intro p dx np ndx hdx
    have s2 : Same H1 (upd (upd H1 dx (.own p)) p (.ins C dx [])) := fun b o e => by
      rw [upd_ne (ne_of_none e np), upd_ne (ne_of_none e ndx)]
      exact e
    refine ⟨H1, p, dx, rfl, s2, np, upd_same, fun H2 R2 hR2 s12 f2 => ⟨rfl, ?_⟩⟩
    have st2 := st1.stay (F := F0) (ch_of_same s12) (fun f => f) fun f => f
    have rs2 : ∀ a, R2 a → ¬ Fst s c a := fun a ha m => by
      obtain ⟨o, q⟩ := st1.tracked m
      rw [f2 a ha] at q
      cases q
    -- count = 1 + _law_take(state, 9)
    refine ⟨_, rfl, s, c, 9, rfl, by decide, by decide, st2, fun H3 z st3 c3 z0 z1 => ⟨_, _, rfl, rfl, ?_⟩⟩
    have hR3 : RwAt C H3 p 0 NoS NoE 0 R2 := hR2.stay c3 rs2
    obtain ⟨n, en⟩ : ∃ n : Nat, 1 + z = (n : Int) := ⟨(1 + z).toNat, by omega⟩
    have hn0 : 0 < n := by omega
    have hn10 : n ≤ 10 := by omega
    show gName 3 (.int (1 + z)) _ _ _
    rw [en]
    -- [rows.fresh() for ..] != list(range(count))
    refine ⟨_, rfl, (n : Int), rfl, by omega, by omega, fun X hX => ?_⟩
    have ent : ((n : Int)).toNat = n := Int.toNat_natCast n
    rw [ent]
    refine lc_range (lo := 0) (n := n) (fun i H4 => ∃ R4, RwAt C H4 p i NoS NoE 0 R4 ∧ StAt H4 s c ∧ (∀ a, R4 a → ¬ Fst s c a) ∧ ¬ R4 X ∧ ¬ Fst s c X ∧ H4 X = some (.lst ((List.range i).map nv))) ?_ ?_ ?_
    · have nX : ¬ R2 X := fun m => by
        obtain ⟨o, q, _⟩ := hR3.tracked m
        rw [hX] at q
        cases q
      have nS : ¬ Fst s c X := fun m => by
        obtain ⟨o, q⟩ := st3.tracked m
        rw [hX] at q
        cases q
      exact ⟨R2, hR3.stay (F' := F0) (ch_new hX) (fun _ _ f => f), st3.stay (F := F0) (ch_new hX) (fun f => f) (fun f => f), rs2, nX, nS, upd_same⟩
    · rintro i H4 hin ⟨R4, hR4, st4, rs4, nX, nS, hX4⟩
      obtain ⟨dx4, l4, d4, i4⟩ := hR4.ins
      refine ⟨rfl, _, rfl, p, dx4, _, rfl, i4, pf_no _ _ (by decide +kernel) (by decide +kernel), p, i, NoS, NoE, 0, R4, rfl, hR4, by omega, fun H5 R5 hR5 c5 f5 => ?_⟩
      have hX5 := c5.keep _ _ hX4 nX
      have st5 := st4.stay c5 (fun q => rs4 _ q (.inl rfl)) fun q => rs4 _ q (.inr rfl)
      have rs5 : ∀ a, R5 a → ¬ Fst s c a := fun a ha m => (f5 a ha).elim (fun q => rs4 a q m) fun e => by
        obtain ⟨o, q⟩ := st4.tracked m
        rw [e] at q
        cases q
      have nX5 : ¬ R5 X := fun m => (f5 X m).elim nX fun e => by
        rw [hX4] at e
        cases e
      have kX : Ch (fun a => a = X) H5 (upd H5 X (.lst ((List.range i).map nv ++ [nv i]))) := ch_at hX5 (by intro xs z; cases z) rfl
      refine ⟨_, hX5, ?_, R5, hR5.stay kX (fun a ha q => nX5 (q ▸ ha)), st5.stay kX (fun q => nS (.inl q.symm)) (fun q => nS (.inr q.symm)), rs5, nX5, nS, ?_⟩
      · rw [List.length_map, List.length_range]
        exact small1000 (by omega)
      · rw [upd_same, List.range_succ, List.map_append]
        rfl
    rintro H4 ⟨R4, hR4, st4, rs4, _, _, hX4⟩
    refine ⟨_, rfl, (n : Int), rfl, RgOk.of_le (by omega) (by omega) (by omega) (by omega), fun Y hY => ?_⟩
    have s45 : Same H4 (upd H4 Y (.lst (rgV 0 (n : Int)))) := same_new hY
    have erg : rgV 0 (n : Int) = (List.range n).map nv := by
      unfold rgV
      rw [Int.sub_zero, ent]
      apply List.map_congr_left
      intro i _
      show V.int (0 + (i : Int)) = nv i
      rw [Int.zero_add]
    refine ⟨_, _, dp_nats (SqL.of (s45 _ _ hX4)), dp_nats (ns := List.range n) (SqL.of (by rw [upd_same, erg])), shaped_ints _, shaped_ints _, _, rfl, ?_⟩
    rw [eqv_self (shaped_ints _)]
    refine iteF ?_
    -- rows.least() != [() for ..]
    have hR5 : RwAt C (upd H4 Y (.lst (rgV 0 (n : Int)))) p n (Sc []) (Ec []) 0 R4 := (hR4.stay (F' := F0) (ch_of_same s45) fun _ _ f => f).congr (fun i s => ⟨fun q => q.elim, fun q => by cases q⟩)
      (fun i j w => ⟨fun q => q.elim, fun q => by
        rcases q with q | ⟨_, q | q⟩
        · cases q
        · cases q
        · cases q⟩) (Nat.le_refl _)
    have st5 := st4.stay (F := F0) (ch_of_same s45) (fun f => f) fun f => f
    generalize upd H4 Y (.lst (rgV 0 (n : Int))) = H5 at hR5 st5
    obtain ⟨dx5, l5, d5, i5⟩ := hR5.ins
    refine ⟨_, rfl, p, dx5, _, rfl, i5, pf_no _ _ (by decide +kernel) (by decide +kernel), p, n, _, _, 0, R4, rfl, hR5, hn10, by omega, fun H6 q rows s6 hq res lst => ?_⟩
    have erows := lst.uniq least_nil
    refine ⟨_, rfl, (n : Int), rfl, by omega, by omega, fun Z hZ => ?_⟩
    rw [ent]
    refine lc_range (lo := 0) (n := n) (fun i H7 => Same H6 H7 ∧ ResAt H7 Z (List.replicate i [])) ⟨same_new hZ, [], by rw [upd_same]; rfl, .nil⟩ ?_ ?_
    · rintro i H7 hin ⟨q1, ps, q2, q3⟩
      refine ⟨rfl, Nat.zero_le _, fun t ht => ?_⟩
      have hZt : Z ≠ t := ne_of_none q2 ht
      refine ⟨_, by rw [upd_ne hZt]; exact q2, ?_, ?_, ps ++ [t], ?_, ?_⟩
      · rw [List.length_map, q3.length, List.length_replicate]
        exact small1000 (by omega)
      · intro b o e
        rw [upd_ne (ne_of_none e hZ), upd_ne (ne_of_none (q1 _ _ e) ht)]
        exact q1 _ _ e
      · rw [upd_same, List.map_append]; rfl
      · rw [show List.replicate (i + 1) ([] : List Str) = List.replicate i [] ++ [[]] from List.replicate_succ']
        refine Paired.snoc (pr_mono q3 fun y m hy _ e => ?_) ?_
        · rw [upd_ne (ne_of e q2 (by intro z; cases z)), upd_ne (ne_of_none e ht)]
          exact e
        · rw [upd_ne hZt.symm, upd_same]
          rfl
    rintro H7 ⟨s7, res7⟩
    have hfv : ∀ r ∈ rows, ∀ s ∈ r, s ∈ names5 := least_five (fun c h => by cases h) lst
    rw [← erows] at res7
    refine ⟨_, _, dp_res (res.same s7), dp_res res7, shaped_rows hfv, shaped_rows hfv, _, rfl, ?_⟩
    rw [eqv_self (shaped_rows hfv)]
    refine iteF ?_
    have hR7 := hR5.stay (F' := F0) (ch_of_same (s6.trans s7)) fun _ _ f => f
    have st7 := st5.stay (F := F0) (ch_of_same (s6.trans s7)) (fun f => f) fun f => f
    -- conditions = []
    refine ⟨Nat.zero_le _, fun L hL => ?_⟩
    have w8 : Wd C (upd H7 L (.lst [])) s c p n [] [] 0 R4 L (fun _ => False) := {
      st := st7.stay (F := F0) (ch_new hL) (fun f => f) fun f => f
      rw := hR7.stay (F' := F0) (ch_new hL) fun _ _ f => f
      cs := ⟨[], upd_same, .nil⟩
      rs := rs4
      ru := fun a ha => ⟨(fun e => by
        obtain ⟨o, q, _⟩ := hR7.tracked ha
        rw [e, hL] at q
        cases q), fun f => f⟩
      us := fun _ f => f.elim
      ls := fun m => by
        obtain ⟨o, q⟩ := st7.tracked m
        rw [hL] at q
        cases q
      tu := fun _ f => f.elim }
    generalize upd H7 L (.lst []) = H8 at w8
    -- for k in range(1 + _law_take(state, 20))
    refine ⟨_, rfl, s, c, 20, rfl, by decide, by decide, w8.st, fun H9 z2 st9 c9 b0 b1 => ⟨_, _, rfl, rfl, (1 + z2), rfl, by omega, by omega, ?_⟩⟩
    have w9 := w8.take c9 st9
    have hm20 : (1 + z2).toNat ≤ 20 := by omega
    generalize (1 + z2).toNat = m at hm20
    refine for_range (lo := 0) (n := m) (fun i σ H10 => ∃ cs R U v5, σ = [some (.ref a), some (.ref s), some (.ref p), some (nv n), some (.ref L), v5, none, none, none, none] ∧ Wd C H10 s c p n cs cs (2 * i) R L U ∧ cs.length = i ∧ ∀ c ∈ cs, CondOk n c)
      ⟨[], R4, _, none, rfl, w9, rfl, fun _ h => by cases h⟩ ?_ ?_
    · rintro i σ H10 him ⟨cs, R, U, v5, rfl, w10, lcs, ok10⟩
      -- conditions.append(_law_condition(state, count))
      obtain ⟨vs, hL10, hp10⟩ := id w10.cs
      refine ⟨_, rfl, .inl ⟨rfl, _, SqL.of hL10⟩, _, rfl, _, rfl, s, c, n, rfl, w10.st, hn0, hn10, fun H11 v cd U2 st11 c11 cok hcv hU2 => ?_⟩
      have hL11 := c11.keep _ _ hL10 w10.ls
      have hp11 : Paired (fun v c => CondAt H11 U v c) vs cs := pr_mono hp10 fun v c _ _ r => r.stay c11 (fun u hu => (w10.us u hu).1) fun _ q => q
      have lvs : vs.length = i := by rw [hp10.length, lcs]
      refine ⟨L, _, _, rfl, rfl, hL11, by rw [lvs]; exact small1000 (by omega), ?_⟩
      have w12 := w10.cond c11 st11 hcv hU2 hL11 hp11
      have hcv12 : CondAt (upd H11 L (.lst (vs ++ [v]))) U2 v cd := hcv.stay (F := fun a => a = L) (ch_at hL11 (by intro xs z; cases z) rfl) (fun u hu q => by
        have := (hU2 u hu).1
        rw [q, hL10] at this
        cases this) fun _ q => q
      have hL12 : (upd H11 L (.lst (vs ++ [v]))) L = some (.lst (vs ++ [v])) := upd_same
      generalize upd H11 L (.lst (vs ++ [v])) = H12 at w12 hcv12 hL12
      -- _law_add(rows, conditions[k])
      have hat : (vs ++ [v])[i]? = some v := by
        rw [List.getElem?_append_right (by omega), lvs, Nat.sub_self]
        rfl
      refine ⟨_, rfl, _, rfl, _, rfl, L, _, _, v, rfl, rfl, SqL.of hL12, at_of (by omega) hat, p, v, n, cs, cd, 2 * i, R, U2, rfl, w12.rw, hcv12, cok, by omega, fun H13 R13 hR13 c13 f13 => ?_⟩
      have w13 := w12.add c13 hR13 f13
      have ok13 : ∀ c ∈ cs ++ [cd], CondOk n c := fun c hc => by
        rcases List.mem_append.mp hc with h | h
        · exact ok10 c h
        · rw [List.mem_singleton.mp h]; exact cok
      refine ⟨rfl, _, rfl, ?_⟩
      refine iteF ?_
      -- _law_take(state, 5) == 0
      refine ⟨_, rfl, s, c, 5, rfl, by decide, by decide, w13.st, fun H14 z5 st14 c14 _ _ => ⟨rfl, _, rfl, ?_⟩⟩
      have w14 := w13.take c14 st14
      have hend : ∀ H', Wd C H' s c p n (cs ++ [cd]) (cs ++ [cd]) (2 * i + 2) R13 L (fun a => U a ∨ U2 a) → ∃ cs R U v5, [some (V.ref a), some (.ref s), some (.ref p), some (nv n), some (.ref L), some (V.int (0 + (i : Nat))), none, none, none, none] = [some (V.ref a), some (.ref s), some (.ref p), some (nv n), some (.ref L), v5, none, none, none, none] ∧ Wd C H' s c p n cs cs (2 * (i + 1)) R L U ∧ cs.length = i + 1 ∧ ∀ c ∈ cs, CondOk n c :=
        fun H' w' => ⟨cs ++ [cd], R13, _, _, rfl, w', by rw [List.length_append, lcs]; rfl, ok13⟩
      refine ite2 (fun _ => ?_) (fun _ => ?_)
      · obtain ⟨dx14, l14, d14, i14⟩ := w14.rw.ins
        refine ⟨_, rfl, p, dx14, _, rfl, i14, pf_no _ _ (by decide +kernel) (by decide +kernel), p, n, _, _, _, R13, rfl, w14.rw, hn10, by omega, fun H15 q15 rows15 s15 hq15 res15 lst15 => ?_⟩
        have w15 := w14.same s15
        refine ⟨_, rfl, _, rfl, n, L, cs ++ [cd], _, rfl, w15.cs, hn10, ok13, fun H16 q16 rows16 s16 hq16 res16 lst16 => ?_⟩
        have e16 := lst16.uniq lst15
        rw [e16] at res16
        have hfv := least_five ok13 lst15
        refine ⟨_, _, dp_res (res15.same s16), dp_res res16, shaped_rows hfv, shaped_rows hfv, _, rfl, ?_⟩
        rw [eqv_self (shaped_rows hfv)]
        refine iteF ?_
        exact hend _ (w15.same s16)
      · exact hend _ w14
    · rintro σ H10 ⟨cs, R, U, v5, rfl, w10, lcs, ok10⟩
      -- due = _law_least(count, conditions)
      refine ⟨_, rfl, _, rfl, n, L, cs, U, rfl, w10.cs, hn10, ok10, fun H11 q11 rows11 s11 hq11 res11 lst11 => ?_⟩
      have w11 := w10.same s11
      have hfv := least_five ok10 lst11
      -- told = rows.least()
      obtain ⟨dx11, l11, d11, i11⟩ := w11.rw.ins
      refine ⟨_, rfl, p, dx11, _, rfl, i11, pf_no _ _ (by decide +kernel) (by decide +kernel), p, n, _, _, _, R, rfl, w11.rw, hn10, by omega, fun H12 q12 rows12 s12 hq12 res12 lst12 => ?_⟩
      have e12 := lst12.uniq lst11
      subst e12
      have w12 := w11.same s12
      have res11' := res11.same s12
      -- told != due
      refine ⟨_, rfl, _, rfl, _, _, dp_res res12, dp_res res11', shaped_rows hfv, shaped_rows hfv, _, rfl, ?_⟩
      rw [eqv_self (shaped_rows hfv)]
      refine iteF ?_
      obtain ⟨ps, hq12', hps⟩ := id res12
      -- not isinstance(told, list)
      refine ⟨_, rfl, _, _, _, _, true, rfl, .ty "list", .base (.lst hq12'), kit_ty (by decide +kernel), _, rfl, ?_⟩
      refine iteF ?_
      -- all([isinstance(row, tuple) ..])
      refine ⟨_, rfl, q12, rfl, ⟨_, SqL.of hq12'⟩, fun D hD => ?_⟩
      refine lc_list (K := K) (a := q12) (xs := ps.map V.ref) (fun i H13 => Same H12 H13 ∧ H13 D = some (.lst ((List.replicate i true).map V.bl))) ⟨same_new hD, by rw [upd_same]; rfl⟩ (fun i H13 _ q => SqL.of (q.1 _ _ hq12')) ?_ ?_
      · rintro i x H13 hx ⟨q1, q2⟩
        rw [List.getElem?_map] at hx
        cases et : ps[i]? with
        | none => rw [et] at hx; cases hx
        | some t =>
          rw [et] at hx
          obtain rfl : V.ref t = x := Option.some.inj hx
          obtain ⟨r, er, hr'⟩ := pr_get hps et
          have hil := (List.getElem?_eq_some_iff.mp er).1
          rw [lst12.len] at hil
          refine ⟨rfl, _, rfl, _, _, _, _, true, rfl, .ty "tuple", .base (.tup (q1 _ _ hr')), kit_ty (by decide +kernel), _, q2, ?_, ?_, ?_⟩
          · rw [List.length_map, List.length_replicate]
            exact small1000 (by omega)
          · exact same_upd_at q1 hD
          · rw [upd_same, List.replicate_succ', List.map_append]
            rfl
      rintro H13 ⟨s13, hD13⟩
      refine ⟨D, _, rfl, SqL.of hD13, _, rfl, ?_⟩
      have eall : (List.replicate (ps.map V.ref).length true).all id = true := by
        rw [List.all_eq_true]
        intro b hb
        rw [(List.mem_replicate.mp hb).2]
        rfl
      rw [eall]
      refine iteF ?_
      have w13 := w12.same s13
      have res11'' := res11'.same s13
      have res12' := res12.same s13
      -- told.append(())
      have hq13 := s13 _ _ hq12'
      refine ⟨_, rfl, .inl ⟨rfl, _, SqL.of hq13⟩, Nat.zero_le _, fun t ht => ?_⟩
      have hqt : q12 ≠ t := ne_of_none hq13 ht
      have hq14 : (upd H13 t (.tup [])) q12 = some (.lst (ps.map V.ref)) := by rw [upd_ne hqt]; exact hq13
      refine ⟨q12, _, _, rfl, rfl, hq14, ?_, ?_⟩
      · rw [List.length_map, hps.length, lst12.len]
        exact small1000 (by omega)
      -- q12 is no part of the world
      have hq12n : H11 q12 = none := hq12
      have hq1110 : H10 q12 = none := s11.free hq12n
      have k15 : Ch (fun a => a = q12) H13 (upd (upd H13 t (.tup [])) q12 (.lst (ps.map V.ref ++ [V.ref t]))) := (ch_new (F := fun a => a = q12) ht).trans (ch_at (F := fun a => a = q12) hq14 (by intro xs z; cases z) rfl) fun x f => .inl f
      have hR15 := w13.rw.stay k15 fun a ha e => by
        obtain ⟨o, q, _⟩ := w11.rw.tracked ha
        rw [e, hq12n] at q
        cases q
      have hq11q : q11 ≠ q12 := fun e => by
        obtain ⟨_, h1, _⟩ := res11
        rw [e, hq12n] at h1
        cases h1
      have res15 : ResAt (upd (upd H13 t (.tup [])) q12 (.lst (ps.map V.ref ++ [V.ref t]))) q11 rows12 := by
        obtain ⟨ps', h1, h2⟩ := res11''
        exact ⟨ps', k15.keep _ _ h1 hq11q, pr_mono h2 fun a r _ _ e => k15.tup _ _ e⟩
      generalize upd (upd H13 t (.tup [])) q12 (.lst (ps.map V.ref ++ [V.ref t])) = H15 at hR15 res15
      -- return rows.least() == due and ..
      obtain ⟨dx15, l15, d15, i15⟩ := hR15.ins
      refine ⟨_, rfl, p, dx15, _, rfl, i15, pf_no _ _ (by decide +kernel) (by decide +kernel), p, n, _, _, _, R, rfl, hR15, hn10, by omega, fun H16 q16 rows16 s16 hq16 res16 lst16 => ?_⟩
      have e16 := lst16.uniq lst12
      subst e16
      have res16d := res15.same s16
      refine ⟨_, rfl, _, _, dp_res res16, dp_res res16d, shaped_rows hfv, shaped_rows hfv, _, rfl, ?_⟩
      rw [eqv_self (shaped_rows hfv)]
      refine iteT ?_
      -- rows.fresh() == count
      have hR16 := hR15.stay (F' := F0) (ch_of_same s16) fun _ _ f => f
      obtain ⟨dx16, l16, d16, i16⟩ := hR16.ins
      refine ⟨_, rfl, p, dx16, _, rfl, i16, pf_no _ _ (by decide +kernel) (by decide +kernel), p, n, _, _, _, R, rfl, hR16, by omega, fun H17 R17 hR17 c17 f17 => ?_⟩
      refine ⟨_, rfl, rfl, _, rfl, ?_⟩
      refine (if_pos (decide_eq_true rfl)).mpr ?_
      -- rows.least() == due + [()]
      have hq11R : ¬ R q11 := fun m => by
        obtain ⟨o, q, _⟩ := w10.rw.tracked m
        rw [hq11] at q
        cases q
      have res17 : ResAt H17 q11 rows16 := by
        obtain ⟨ps', h1, h2⟩ := res16d
        exact ⟨ps', c17.keep _ _ h1 hq11R, pr_mono h2 fun a r _ _ e => c17.tup _ _ e⟩
      obtain ⟨dx17, l17, d17, i17⟩ := hR17.ins
      refine ⟨_, rfl, p, dx17, _, rfl, i17, pf_no _ _ (by decide +kernel) (by decide +kernel), p, n + 1, _, _, _, R17, rfl, hR17, by omega, by omega, fun H18 q18 rows18 s18 hq18 res18 lst18 => ?_⟩
      obtain ⟨ps', h1, h2⟩ := res17.same s18
      refine ⟨_, rfl, Nat.zero_le _, fun t2 ht2 => ⟨by show 1 ≤ sizeLine; decide, fun l2 hl2 => ?_⟩⟩
      have s19 : Same H18 (upd (upd H18 t2 (.tup [])) l2 (.lst [V.ref t2])) := (same_new ht2).trans (same_new hl2)
      have ht2l : t2 ≠ l2 := fun e => by rw [← e, upd_same] at hl2; cases hl2
      refine ⟨q11, l2, _, _, rfl, rfl, s19 _ _ h1, upd_same, ?_, fun o ho => ?_⟩
      · rw [List.length_map, h2.length, lst16.len]
        show n + 1 ≤ sizeLine
        exact Nat.le_of_lt (small1000 (by omega))
      have so : Same H18 (upd (upd (upd H18 t2 (.tup [])) l2 (.lst [V.ref t2])) o (.lst (ps'.map V.ref ++ [V.ref t2]))) := s19.trans (same_new ho)
      have reso : ResAt (upd (upd (upd H18 t2 (.tup [])) l2 (.lst [V.ref t2])) o (.lst (ps'.map V.ref ++ [V.ref t2]))) o (rows16 ++ [[]]) := by
        have ht2o : t2 ≠ o := fun e => by rw [← e, upd_ne ht2l, upd_same] at ho; cases ho
        refine ⟨ps' ++ [t2], by rw [upd_same, List.map_append]; rfl, Paired.snoc (pr_mono h2 fun a r _ _ e => so _ _ e) ?_⟩
        rw [upd_ne ht2o, upd_ne ht2l, upd_same]
        rfl
      have e18 : rows18 = rows16 ++ [[]] := lst18.uniq (least_snoc ok10 lst16)
      subst e18
      have hfv2 : ∀ r ∈ rows16 ++ [[]], ∀ s ∈ r, s ∈ names5 := fun r hr s hs => by
        rcases List.mem_append.mp hr with h | h
        · exact hfv r h s hs
        · rw [List.mem_singleton.mp h] at hs
          cases hs
      refine ⟨_, _, dp_res (res18.same so), dp_res reso, shaped_rows hfv2, shaped_rows hfv2, ?_⟩
      show Q (.bl (PyData.eqv (dRows (rows16 ++ [[]])) (dRows (rows16 ++ [[]])))) _
      rw [eqv_self (shaped_rows hfv2)]
      exact k _
end
end Ka


set_option Elab.async false
set_option linter.all false
set_option maxRecDepth 100000
set_option maxHeartbeats 4000000
namespace Ka
open PySem PySem.Spec L2 PyProof.Rows Km
theorem all_mk {l : PySem.W.OpenLaw} {w : World} {K : PySem.W.Frag} {h : Heap} {mg : Str → Option Value} {fa C fI fF fC fW fS fL fR fgS fgT fgC fgA fgM fgL fgg : Addr} (X : K.In h) (G : h.Ns mainGlobals mg) (hfa : mg "law" = some (.ref fa))
    {odI anI : Option Addr} {slI : Array (Option Value)} {ocI kVI dcI pmI cdI ctI : Value}
    {odF anF : Option Addr} {slF : Array (Option Value)} {ocF kVF dcF pmF cdF ctF : Value}
    {odC anC : Option Addr} {slC : Array (Option Value)} {ocC kVC dcC pmC cdC ctC : Value}
    {odW anW : Option Addr} {slW : Array (Option Value)} {ocW kVW dcW pmW cdW ctW : Value}
    {odS anS : Option Addr} {slS : Array (Option Value)} {ocS kVS dcS pmS cdS ctS : Value}
    {odL anL : Option Addr} {slL : Array (Option Value)} {ocL kVL dcL pmL cdL ctL : Value}
    {odR anR : Option Addr} {slR : Array (Option Value)} {ocR kVR dcR pmR cdR ctR : Value}
    {odgS angS : Option Addr} {slgS : Array (Option Value)} {ocgS kVgS dcgS pmgS cdgS ctgS : Value}
    {odgT angT : Option Addr} {slgT : Array (Option Value)} {ocgT kVgT dcgT pmgT cdgT ctgT : Value}
    {odgC angC : Option Addr} {slgC : Array (Option Value)} {ocgC kVgC dcgC pmgC cdgC ctgC : Value}
    {odgA angA : Option Addr} {slgA : Array (Option Value)} {ocgA kVgA dcgA pmgA cdgA ctgA : Value}
    {odgM angM : Option Addr} {slgM : Array (Option Value)} {ocgM kVgM dcgM pmgM cdgM ctgM : Value}
    {odgL angL : Option Addr} {slgL : Array (Option Value)} {ocgL kVgL dcgL pmgL cdgL ctgL : Value}
    {odgg angg : Option Addr} {slgg : Array (Option Value)} {ocgg kVgg dcgg pmgg cdgg ctgg : Value}
    (aCls : PySem.W.nsIn K mainGlobals "Rows" = some (some (.ref C)))
    (aI : PySem.W.findIn K (.ref C) "__init__" = some (some (.ref fI))) (iI : PySem.W.isFn K (.ref fI) = true)
    (lI : K.lookup fI = some ⟨ocI, odI, .func (PySem.W.fnOf "__init__" "Rows.__init__" (defArgs sInit) (defBody sInit) (defScope sInit) .none kVI dcI pmI anI cdI ctI), slI⟩) (cI : PySem.W.codeIn K cdI "Rows.__init__" = true) (kI : PySem.W.keepIn K (.ref fI) = true)
    (aF : PySem.W.findIn K (.ref C) "fresh" = some (some (.ref fF))) (iF : PySem.W.isFn K (.ref fF) = true)
    (lF : K.lookup fF = some ⟨ocF, odF, .func (PySem.W.fnOf "fresh" "Rows.fresh" (defArgs sFresh) (defBody sFresh) (defScope sFresh) .none kVF dcF pmF anF cdF ctF), slF⟩) (cF : PySem.W.codeIn K cdF "Rows.fresh" = true) (kF : PySem.W.keepIn K (.ref fF) = true)
    (aC : PySem.W.findIn K (.ref C) "contain" = some (some (.ref fC))) (iC : PySem.W.isFn K (.ref fC) = true)
    (lC : K.lookup fC = some ⟨ocC, odC, .func (PySem.W.fnOf "contain" "Rows.contain" (defArgs sContain) (defBody sContain) (defScope sContain) .none kVC dcC pmC anC cdC ctC), slC⟩) (cC : PySem.W.codeIn K cdC "Rows.contain" = true) (kC : PySem.W.keepIn K (.ref fC) = true)
    (aW : PySem.W.findIn K (.ref C) "flow" = some (some (.ref fW))) (iW : PySem.W.isFn K (.ref fW) = true)
    (lW : K.lookup fW = some ⟨ocW, odW, .func (PySem.W.fnOf "flow" "Rows.flow" (defArgs sFlow) (defBody sFlow) (defScope sFlow) .none kVW dcW pmW anW cdW ctW), slW⟩) (cW : PySem.W.codeIn K cdW "Rows.flow" = true) (kW : PySem.W.keepIn K (.ref fW) = true)
    (aS : PySem.W.findIn K (.ref C) "same" = some (some (.ref fS))) (iS : PySem.W.isFn K (.ref fS) = true)
    (lS : K.lookup fS = some ⟨ocS, odS, .func (PySem.W.fnOf "same" "Rows.same" (defArgs sSame) (defBody sSame) (defScope sSame) .none kVS dcS pmS anS cdS ctS), slS⟩) (cS : PySem.W.codeIn K cdS "Rows.same" = true) (kS : PySem.W.keepIn K (.ref fS) = true)
    (aL : PySem.W.findIn K (.ref C) "least" = some (some (.ref fL))) (iL : PySem.W.isFn K (.ref fL) = true)
    (lL : K.lookup fL = some ⟨ocL, odL, .func (PySem.W.fnOf "least" "Rows.least" (defArgs sLeast) (defBody sLeast) (defScope sLeast) .none kVL dcL pmL anL cdL ctL), slL⟩) (cL : PySem.W.codeIn K cdL "Rows.least" = true) (kL : PySem.W.keepIn K (.ref fL) = true)
    (aR : PySem.W.findIn K (.ref C) "reached" = some (some (.ref fR))) (iR : PySem.W.isFn K (.ref fR) = true)
    (lR : K.lookup fR = some ⟨ocR, odR, .func (PySem.W.fnOf "reached" "Rows.reached" (defArgs sReached) (defBody sReached) (defScope sReached) .none kVR dcR pmR anR cdR ctR), slR⟩) (cR : PySem.W.codeIn K cdR "Rows.reached" = true) (kR : PySem.W.keepIn K (.ref fR) = true)
    (agS : PySem.W.nsIn K mainGlobals "_law_state" = some (some (.ref fgS)))
    (lgS : K.lookup fgS = some ⟨ocgS, odgS, .func (PySem.W.fnOf "_law_state" "_law_state" (defArgs sState) (defBody sState) (defScope sState) .none kVgS dcgS pmgS angS cdgS ctgS), slgS⟩) (cgS : PySem.W.codeIn K cdgS "_law_state" = true) (kgS : PySem.W.keepIn K (.ref fgS) = true)
    (agT : PySem.W.nsIn K mainGlobals "_law_take" = some (some (.ref fgT)))
    (lgT : K.lookup fgT = some ⟨ocgT, odgT, .func (PySem.W.fnOf "_law_take" "_law_take" (defArgs sTake) (defBody sTake) (defScope sTake) .none kVgT dcgT pmgT angT cdgT ctgT), slgT⟩) (cgT : PySem.W.codeIn K cdgT "_law_take" = true) (kgT : PySem.W.keepIn K (.ref fgT) = true)
    (agC : PySem.W.nsIn K mainGlobals "_law_condition" = some (some (.ref fgC)))
    (lgC : K.lookup fgC = some ⟨ocgC, odgC, .func (PySem.W.fnOf "_law_condition" "_law_condition" (defArgs sCond) (defBody sCond) (defScope sCond) .none kVgC dcgC pmgC angC cdgC ctgC), slgC⟩) (cgC : PySem.W.codeIn K cdgC "_law_condition" = true) (kgC : PySem.W.keepIn K (.ref fgC) = true)
    (agA : PySem.W.nsIn K mainGlobals "_law_add" = some (some (.ref fgA)))
    (lgA : K.lookup fgA = some ⟨ocgA, odgA, .func (PySem.W.fnOf "_law_add" "_law_add" (defArgs sAdd) (defBody sAdd) (defScope sAdd) .none kVgA dcgA pmgA angA cdgA ctgA), slgA⟩) (cgA : PySem.W.codeIn K cdgA "_law_add" = true) (kgA : PySem.W.keepIn K (.ref fgA) = true)
    (agM : PySem.W.nsIn K mainGlobals "_law_missing" = some (some (.ref fgM)))
    (lgM : K.lookup fgM = some ⟨ocgM, odgM, .func (PySem.W.fnOf "_law_missing" "_law_missing" (defArgs sMiss) (defBody sMiss) (defScope sMiss) .none kVgM dcgM pmgM angM cdgM ctgM), slgM⟩) (cgM : PySem.W.codeIn K cdgM "_law_missing" = true) (kgM : PySem.W.keepIn K (.ref fgM) = true)
    (agL : PySem.W.nsIn K mainGlobals "_law_least" = some (some (.ref fgL)))
    (lgL : K.lookup fgL = some ⟨ocgL, odgL, .func (PySem.W.fnOf "_law_least" "_law_least" (defArgs sLLeast) (defBody sLLeast) (defScope sLLeast) .none kVgL dcgL pmgL angL cdgL ctgL), slgL⟩) (cgL : PySem.W.codeIn K cdgL "_law_least" = true) (kgL : PySem.W.keepIn K (.ref fgL) = true)
    (agg : PySem.W.nsIn K mainGlobals "law" = some (some (.ref fgg)))
    (lgg : K.lookup fgg = some ⟨ocgg, odgg, .func (PySem.W.fnOf "law" "law" (defArgs sLaw) (defBody sLaw) (defScope sLaw) .none kVgg dcgg pmgg angg cdgg ctgg), slgg⟩) (cgg : PySem.W.codeIn K cdgg "law" = true) (kgg : PySem.W.keepIn K (.ref fgg) = true)
    (pg : PySem.W.plainGet K C Str.empty = true) (hd : PySem.W.hasDictIn K C = true) (po : PySem.W.plainOver K C = true) (sa : PySem.W.findIn K (.ref C) "__setattr__" = some (some (.builtin "object.__setattr__"))) (mk : PySem.W.makesIn K C = true) (kc : PySem.W.keepIn K (.ref C) = true)
    (nT : PySem.W.findIn K (.ref C) "targets" = some none) (nH : PySem.W.findIn K (.ref C) "holders" = some none)
    (z_len : PySem.W.nsIn K mainGlobals "len" = some none)
    (z_tuple : PySem.W.nsIn K mainGlobals "tuple" = some none)
    (z_sorted : PySem.W.nsIn K mainGlobals "sorted" = some none)
    (z_list : PySem.W.nsIn K mainGlobals "list" = some none)
    (z_abs : PySem.W.nsIn K mainGlobals "abs" = some none)
    (z_int : PySem.W.nsIn K mainGlobals "int" = some none)
    (z_range : PySem.W.nsIn K mainGlobals "range" = some none)
    (z_all : PySem.W.nsIn K mainGlobals "all" = some none)
    (z_isinstance : PySem.W.nsIn K mainGlobals "isinstance" = some none) :
    ∃ fd : FuncData, (∀ (s : Shared) (v : Value), BindsTo s fd ⟨[v], []⟩ [("_law_script", v)]) ∧ ∀ base : Heap, K.In base → base.Ns mainGlobals mg → FnOk l.prog w K mg base CX0 4 fa fd ["_law_script"] (spLaw K) := by
  have e := hfa.symm.trans (PySem.W.mg_of X G agg)
  cases e
  have T : Txt K mg C := ⟨⟨pg, hd, po, sa⟩, nT, nH, PySem.W.mg_of X G aCls, PySem.W.mg_none_of X G z_len, PySem.W.mg_none_of X G z_tuple, PySem.W.mg_none_of X G z_sorted, PySem.W.mg_none_of X G z_list⟩
  have FI := fun_mk (st := sInit) lI cI kI
  have bI := FI.binds (ps := ["self"]) fun _ _ _ _ _ _ us hl => match us, hl with | [_], _ => rfl
  have FF := fun_mk (st := sFresh) lF cF kF
  have bF := FF.binds (ps := ["self"]) fun _ _ _ _ _ _ us hl => match us, hl with | [_], _ => rfl
  have FC := fun_mk (st := sContain) lC cC kC
  have bC := FC.binds (ps := ["self", "row", "name"]) fun _ _ _ _ _ _ us hl => match us, hl with | [_, _, _], _ => rfl
  have FW := fun_mk (st := sFlow) lW cW kW
  have bW := FW.binds (ps := ["self", "source", "target", "without"]) fun _ _ _ _ _ _ us hl => match us, hl with | [_, _, _, _], _ => rfl
  have FS := fun_mk (st := sSame) lS cS kS
  have bS := FS.binds (ps := ["self", "one", "other"]) fun _ _ _ _ _ _ us hl => match us, hl with | [_, _, _], _ => rfl
  have FL := fun_mk (st := sLeast) lL cL kL
  have bL := FL.binds (ps := ["self"]) fun _ _ _ _ _ _ us hl => match us, hl with | [_], _ => rfl
  have FR := fun_mk (st := sReached) lR cR kR
  have bR := FR.binds (ps := ["self", "name"]) fun _ _ _ _ _ _ us hl => match us, hl with | [_, _], _ => rfl
  have FgS := fun_mk (st := sState) lgS cgS kgS
  have bgS := FgS.binds (ps := ["_law_script"]) fun _ _ _ _ _ _ us hl => match us, hl with | [_], _ => rfl
  have FgT := fun_mk (st := sTake) lgT cgT kgT
  have bgT := FgT.binds (ps := ["_law_state_here", "_law_most"]) fun _ _ _ _ _ _ us hl => match us, hl with | [_, _], _ => rfl
  have FgC := fun_mk (st := sCond) lgC cgC kgC
  have bgC := FgC.binds (ps := ["_law_state_here", "_law_count"]) fun _ _ _ _ _ _ us hl => match us, hl with | [_, _], _ => rfl
  have FgA := fun_mk (st := sAdd) lgA cgA kgA
  have bgA := FgA.binds (ps := ["_law_rows", "_law_condition_here"]) fun _ _ _ _ _ _ us hl => match us, hl with | [_, _], _ => rfl
  have FgM := fun_mk (st := sMiss) lgM cgM kgM
  have bgM := FgM.binds (ps := ["_law_found", "_law_condition_here"]) fun _ _ _ _ _ _ us hl => match us, hl with | [_, _], _ => rfl
  have FgL := fun_mk (st := sLLeast) lgL cgL kgL
  have bgL := FgL.binds (ps := ["_law_count", "_law_conditions"]) fun _ _ _ _ _ _ us hl => match us, hl with | [_, _], _ => rfl
  have Fgg := fun_mk (st := sLaw) lgg cgg kgg
  have bgg := Fgg.binds (ps := ["_law_script"]) fun _ _ _ _ _ _ us hl => match us, hl with | [_], _ => rfl
  have A : Fs K mg C := {
    fI := fI, dI := _,
    fF := fF, dF := _,
    fC := fC, dC := _,
    fW := fW, dW := _,
    fS := fS, dS := _,
    fL := fL, dL := _,
    fR := fR, dR := _,
    gS := fgS, eS := _,
    gT := fgT, eT := _,
    gC := fgC, eC := _,
    gA := fgA, eA := _,
    gM := fgM, eM := _,
    gL := fgL, eL := _,
    T := T, M := ⟨mk, aI, iI, kc⟩,
    FI := FI, bI := bI,
    FF := FF, bF := bF, mF := ⟨aF, iF, kF⟩,
    FC := FC, bC := bC, mC := ⟨aC, iC, kC⟩,
    FW := FW, bW := bW, mW := ⟨aW, iW, kW⟩,
    FS := FS, bS := bS, mS := ⟨aS, iS, kS⟩,
    FL := FL, bL := bL, mL := ⟨aL, iL, kL⟩,
    FR := FR, bR := bR, mR := ⟨aR, iR, kR⟩,
    hS := FgS, cS := bgS, uS := PySem.W.mg_of X G agS,
    hT := FgT, cT := bgT, uT := PySem.W.mg_of X G agT,
    hC := FgC, cC := bgC, uC := PySem.W.mg_of X G agC,
    hA := FgA, cA := bgA, uA := PySem.W.mg_of X G agA,
    hM := FgM, cM := bgM, uM := PySem.W.mg_of X G agM,
    hL := FgL, cL := bgL, uL := PySem.W.mg_of X G agL,
    mabs := PySem.W.mg_none_of X G z_abs, mint := PySem.W.mg_none_of X G z_int, mrng := PySem.W.mg_none_of X G z_range, mall := PySem.W.mg_none_of X G z_all, misi := PySem.W.mg_none_of X G z_isinstance }
  exact ⟨PySem.W.fnOf "law" "law" (defArgs sLaw) (defBody sLaw) (defScope sLaw) .none kVgg dcgg pmgg angg cdgg ctgg, fun s v => .of_eq rfl, fun base _ _ => ok_law Fgg A⟩
theorem walk {l : PySem.W.OpenLaw} {q : Program} {loose : List Str} {XP : (Str → Option Value) → Heap → Prop} {YP : World → Heap → Prop} {d : DefRec} {K : Params → PySem.W.Frag} (hn : l.most = some 63) (hdf : d.params.defaults = [])
    (hY : ∀ (w : World) (h : Heap), YP w h → (K w.params).In h)
    (F : ∀ (w : World) (mg : Str → Option Value) (fa : Addr) (h : Heap), (K w.params).In h → h.Ns mainGlobals mg → mg d.name = some (.ref fa) →
      ∃ fd : FuncData, (∀ (s : Shared) (u : Value), BindsTo s fd ⟨[u], []⟩ [("_law_script", u)]) ∧ ∀ base : Heap, (K w.params).In base → base.Ns mainGlobals mg → FnOk l.prog w (K w.params) mg base CX0 4 fa fd ["_law_script"] (spLaw (K w.params))) :
    PySem.W.WalkO q loose XP YP l.row.toRowW d [] (fun f vs => PySem.call f vs) :=
  L2.walk_of (n := 63) (k := 4) (x := "_law_script") (CX := fun _ => CX0) (sp := fun w => spLaw (K w.params)) hn (by decide) hdf ⟨rfl, by decide, by decide⟩ hY F (fun _ _ a ns hl _ hS => ⟨a, ns, rfl, hS, hl, fun _ => rfl⟩) fun _ _ _ _ _ z => z
end Ka
open PySem PySem.W PyProof.Rows in
set_option maxRecDepth 100000 in
set_option maxHeartbeats 0 in
theorem PySem.Challenge.cw_askedfor_k04_least_rows_holds : PySem.Challenge.rw_askedfor_k04_least_rows.Holds := by
  w_on; o_law; k_head; (case hw => w_witness2)
  k_fill
  refine Ka.walk (l := PySem.Challenge.rw_askedfor_k04_least_rows) rfl rfl (fun w h Y => PySem.W.kIn_of Y) ?F
  case F =>
    intro w mg fa h KX G hmg
    refine' Ka.all_mk KX G hmg ?aCls ?aI ?iI ?lI ?cI ?kI ?aF ?iF ?lF ?cF ?kF ?aC ?iC ?lC ?cC ?kC ?aW ?iW ?lW ?cW ?kW ?aS ?iS ?lS ?cS ?kS ?aL ?iL ?lL ?cL ?kL ?aR ?iR ?lR ?cR ?kR ?agS ?lgS ?cgS ?kgS ?agT ?lgT ?cgT ?kgT ?agC ?lgC ?cgC ?kgC ?agA ?lgA ?cgA ?kgA ?agM ?lgM ?cgM ?kgM ?agL ?lgL ?cgL ?kgL ?agg ?lgg ?cgg ?kgg ?pg ?hd ?po ?sa ?mk ?kc ?nT ?nH ?z_len ?z_tuple ?z_sorted ?z_list ?z_abs ?z_int ?z_range ?z_all ?z_isinstance
    (case aCls => k_is)
    (case aI => k_is)
    (case iI => k_is)
    (case lI => k_is)
    (case cI => k_is)
    (case kI => k_is)
    (case aF => k_is)
    (case iF => k_is)
    (case lF => k_is)
    (case cF => k_is)
    (case kF => k_is)
    (case aC => k_is)
    (case iC => k_is)
    (case lC => k_is)
    (case cC => k_is)
    (case kC => k_is)
    (case aW => k_is)
    (case iW => k_is)
    (case lW => k_is)
    (case cW => k_is)
    (case kW => k_is)
    (case aS => k_is)
    (case iS => k_is)
    (case lS => k_is)
    (case cS => k_is)
    (case kS => k_is)
    (case aL => k_is)
    (case iL => k_is)
    (case lL => k_is)
    (case cL => k_is)
    (case kL => k_is)
    (case aR => k_is)
    (case iR => k_is)
    (case lR => k_is)
    (case cR => k_is)
    (case kR => k_is)
    (case agS => k_is)
    (case lgS => k_is)
    (case cgS => k_is)
    (case kgS => k_is)
    (case agT => k_is)
    (case lgT => k_is)
    (case cgT => k_is)
    (case kgT => k_is)
    (case agC => k_is)
    (case lgC => k_is)
    (case cgC => k_is)
    (case kgC => k_is)
    (case agA => k_is)
    (case lgA => k_is)
    (case cgA => k_is)
    (case kgA => k_is)
    (case agM => k_is)
    (case lgM => k_is)
    (case cgM => k_is)
    (case kgM => k_is)
    (case agL => k_is)
    (case lgL => k_is)
    (case cgL => k_is)
    (case kgL => k_is)
    (case agg => k_is)
    (case lgg => k_is)
    (case cgg => k_is)
    (case kgg => k_is)
    (case pg => k_is)
    (case hd => k_is)
    (case po => k_is)
    (case sa => k_is)
    (case mk => k_is)
    (case kc => k_is)
    (case nT => k_is)
    (case nH => k_is)
    (case z_len => k_is)
    (case z_tuple => k_is)
    (case z_sorted => k_is)
    (case z_list => k_is)
    (case z_abs => k_is)
    (case z_int => k_is)
    (case z_range => k_is)
    (case z_all => k_is)
    (case z_isinstance => k_is)
#print axioms PySem.Challenge.cw_askedfor_k04_least_rows_holds

