import PyProof.Rows.All
import Wide.All
import OpenK.AllK
import Wide.FinOn
import HandS.ForMost
import HandS.SetKeys
import HandS.More
import HandS.Conv
import HandS.Wide
import HandS.EndBits
import HandS.IsInst
import HandS.Flow
import HandS.NoneIn
import HandS.Star
import HandS.ClsMeth
import HandS.DictComp
import HandS.CallLocal
import HandS.Zip
import HandS.Codes
import KE.KUnpackStar
import KE.GoesMore
import HandS.Walk
import PyProof.DictUpdate
import PyProof.Tail
import PySem.Challenge.RW_askedfor_k25_answers_at_once
import HandS.TupAny
import HandS.Style
set_option Elab.async false
set_option linter.all false
set_option maxRecDepth 100000
set_option maxHeartbeats 4000000
namespace Bz
open PySem PySem.Spec L2 PyProof.Rows
/-! ### made data: what is never changed once it stands -/
inductive D where
  | non
  | bl (b : Bool)
  | int (n : Int)
  | str (s : Str)
  | tup (l : List D)
  | lst (l : List D)
  | dct (ks : List Str) (l : List D)
/-- the pairs of a dict with text keys -/
def kz (ks : List Str) (vs : List V) : List (Key × V) := (ks.zip vs).map fun p => ((Sum.inr p.1 : Key), p.2)
mutual
def At (R : Hp) : D → V → Prop
  | .non, v => v = .non
  | .bl b, v => v = .bl b
  | .int n, v => v = .int n
  | .str s, v => v = .str s
  | .tup l, v => ∃ p vs, v = .ref p ∧ R p = some (.tup vs) ∧ Ats R l vs
  | .lst l, v => ∃ p vs, v = .ref p ∧ R p = some (.lst vs) ∧ Ats R l vs
  | .dct ks l, v => ∃ p vs, v = .ref p ∧ R p = some (.dK (kz ks vs)) ∧ Ats R l vs ∧ ks.length = l.length ∧ ks.Nodup
def Ats (R : Hp) : List D → List V → Prop
  | [], vs => vs = []
  | d :: l, vs => ∃ v r, vs = v :: r ∧ At R d v ∧ Ats R l r
end
mutual
theorem At.up {R R' : Hp} (s : Same R R') : ∀ {d : D} {v : V}, At R d v → At R' d v
  | .non, _, h => h
  | .bl _, _, h => h
  | .int _, _, h => h
  | .str _, _, h => h
  | .tup l, _, ⟨p, vs, e, h, a⟩ => ⟨p, vs, e, s _ _ h, Ats.up s (l := l) a⟩
  | .lst l, _, ⟨p, vs, e, h, a⟩ => ⟨p, vs, e, s _ _ h, Ats.up s (l := l) a⟩
  | .dct _ l, _, ⟨p, vs, e, h, a, k⟩ => ⟨p, vs, e, s _ _ h, Ats.up s (l := l) a, k⟩
theorem Ats.up {R R' : Hp} (s : Same R R') : ∀ {l : List D} {vs : List V}, Ats R l vs → Ats R' l vs
  | [], _, h => h
  | d :: l, _, ⟨v, r, e, h, a⟩ => ⟨v, r, e, At.up s (d := d) h, Ats.up s (l := l) a⟩
end
theorem Ats.length {R : Hp} : ∀ {l : List D} {vs : List V}, Ats R l vs → vs.length = l.length
  | [], _, h => by rw [show _ = ([] : List V) from h]; rfl
  | _ :: l, _, ⟨v, r, e, _, a⟩ => by rw [e, List.length_cons, List.length_cons, Ats.length (l := l) a]
theorem Ats.get {R : Hp} : ∀ {l : List D} {vs : List V} {i : Nat} {d : D}, Ats R l vs → l[i]? = some d → ∃ v, vs[i]? = some v ∧ At R d v
  | [], _, _, _, _, h => by simp at h
  | e :: l, _, 0, d, ⟨v, r, q, h, _⟩, hi => by
    cases (show e = d from Option.some.inj hi)
    exact ⟨v, by rw [q]; rfl, h⟩
  | _ :: l, _, i + 1, d, ⟨v, r, q, _, a⟩, hi => by
    obtain ⟨w, hw, h⟩ := Ats.get (l := l) (i := i) (d := d) a (by simpa using hi)
    exact ⟨w, by rw [q]; simpa using hw, h⟩
theorem Ats.append {R : Hp} : ∀ {l m : List D} {vs ws : List V}, Ats R l vs → Ats R m ws → Ats R (l ++ m) (vs ++ ws)
  | [], _, _, _, h, k => by rw [show _ = ([] : List V) from h]; exact k
  | d :: l, m, _, ws, ⟨v, r, e, h, a⟩, k => ⟨v, r ++ ws, by rw [e]; rfl, h, Ats.append (l := l) a k⟩
theorem Ats.one {R : Hp} {d : D} {v : V} (h : At R d v) : Ats R [d] [v] := ⟨v, [], rfl, h, rfl⟩
theorem Ats.drop {R : Hp} : ∀ (n : Nat) {l : List D} {vs : List V}, Ats R l vs → Ats R (l.drop n) (vs.drop n)
  | 0, _, _, h => h
  | n + 1, [], _, h => by rw [show _ = ([] : List V) from h]; exact rfl
  | n + 1, d :: l, _, ⟨v, r, e, _, a⟩ => by rw [e]; exact Ats.drop n (l := l) a
theorem Ats.take {R : Hp} : ∀ (n : Nat) {l : List D} {vs : List V}, Ats R l vs → Ats R (l.take n) (vs.take n)
  | 0, _, _, h => rfl
  | n + 1, [], _, h => by rw [show _ = ([] : List V) from h]; exact rfl
  | n + 1, d :: l, _, ⟨v, r, e, h, a⟩ => by rw [e]; exact ⟨v, r.take n, rfl, h, Ats.take n (l := l) a⟩
theorem Ats.split {R : Hp} : ∀ {l m : List D} {vs : List V}, Ats R (l ++ m) vs → ∃ a b, vs = a ++ b ∧ Ats R l a ∧ Ats R m b
  | [], _, vs, h => ⟨[], vs, rfl, rfl, h⟩
  | d :: l, m, _, ⟨v, r, e, h, a⟩ => by
    obtain ⟨x, y, e2, h1, h2⟩ := Ats.split (l := l) (m := m) a
    exact ⟨v :: x, y, by rw [e, e2]; rfl, ⟨v, x, rfl, h, h1⟩, h2⟩
/-! ### how a heap and its still part grow -/
structure Mv (F : Addr → Prop) (R H R' H' : Hp) : Prop where
  keep : ∀ a o, H a = some o → ¬ F a → H' a = some o
  dom : ∀ a o, H a = some o → ∃ o', H' a = some o'
  up : Same R R'
  sub : Same R' H'
  new : ∀ a o, R' a = some o → R a = some o ∨ H a = none
abbrev F0 : Addr → Prop := fun _ => False
theorem Mv.refl {F : Addr → Prop} {R H : Hp} (s : Same R H) : Mv F R H R H := ⟨fun _ _ h _ => h, fun _ o h => ⟨o, h⟩, .refl _, s, fun _ _ h => .inl h⟩
theorem Mv.free {F : Addr → Prop} {R H R' H' : Hp} (m : Mv F R H R' H') {x : Addr} (h : H' x = none) : H x = none := by
  cases e : H x with
  | none => rfl
  | some o =>
    obtain ⟨o', h'⟩ := m.dom x o e
    rw [h'] at h
    cases h
theorem Mv.trans {F F1 F2 : Addr → Prop} {R H R1 H1 R2 H2 : Hp} (a : Mv F R H R1 H1) (b : Mv F1 R1 H1 R2 H2) (h0 : ∀ x, F x → F2 x) (h1 : ∀ x, F1 x → F2 x ∨ H x = none) : Mv F2 R H R2 H2 where
  keep := fun x o h n => b.keep x o (a.keep x o h fun f => n (h0 x f)) fun f => (h1 x f).elim n fun e => by rw [h] at e; cases e
  dom := fun x o h => let ⟨o', h'⟩ := a.dom x o h; b.dom x o' h'
  up := a.up.trans b.up
  sub := b.sub
  new := fun x o h => (b.new x o h).elim (fun h => a.new x o h) fun h => .inr (a.free h)
theorem Mv.tr {F : Addr → Prop} {R H R1 H1 R2 H2 : Hp} (a : Mv F R H R1 H1) (b : Mv F R1 H1 R2 H2) : Mv F R H R2 H2 := a.trans b (fun _ f => f) fun _ f => .inl f
theorem Mv.tr0 {F : Addr → Prop} {R H R1 H1 R2 H2 : Hp} (a : Mv F R H R1 H1) (b : Mv F0 R1 H1 R2 H2) : Mv F R H R2 H2 := a.trans b (fun _ f => f) fun _ f => f.elim
theorem Mv.mono {F F1 : Addr → Prop} {R H R1 H1 : Hp} (a : Mv F R H R1 H1) (h : ∀ x, F x → F1 x) : Mv F1 R H R1 H1 := ⟨fun x o e n => a.keep x o e fun f => n (h x f), a.dom, a.up, a.sub, a.new⟩
theorem Mv.same {R H R1 H1 : Hp} (a : Mv F0 R H R1 H1) : Same H H1 := fun x o h => a.keep x o h fun f => f
/-- outside of the still part: it stays so -/
theorem Mv.out {F : Addr → Prop} {R H R' H' : Hp} (m : Mv F R H R' H') {a : Addr} {o : HO} (h : R a = none) (e : H a = some o) : R' a = none := by
  cases q : R' a with
  | none => rfl
  | some u => rcases m.new a u q with z | z
              · rw [h] at z; cases z
              · rw [e] at z; cases z
theorem same_new {H : Hp} {p : Addr} {o : HO} (h : H p = none) : Same H (upd H p o) := fun b x e => by
  rw [upd_ne (ne_of_none e h)]
  exact e
/-- a new thing that will stand still -/
theorem mv_new {F : Addr → Prop} {R H : Hp} {p : Addr} {o : HO} (s : Same R H) (h : H p = none) : Mv F R H (upd R p o) (upd H p o) where
  keep := fun b x e _ => same_new h b x e
  dom := fun b x e => ⟨x, same_new h b x e⟩
  up := same_new (s.free h)
  sub := fun b x e => by
    by_cases q : b = p
    · subst q
      rw [upd_same] at e ⊢
      exact e
    · rw [upd_ne q] at e ⊢
      exact s b x e
  new := fun b x e => by
    by_cases q : b = p
    · subst q; exact .inr h
    · rw [upd_ne q] at e; exact .inl e
/-- a new thing that may change -/
theorem mv_mut {F : Addr → Prop} {R H : Hp} {p : Addr} {o : HO} (s : Same R H) (h : H p = none) : Mv F R H R (upd H p o) where
  keep := fun b x e _ => same_new h b x e
  dom := fun b x e => ⟨x, same_new h b x e⟩
  up := .refl _
  sub := fun b x e => same_new h b x (s b x e)
  new := fun b x e => .inl e
/-- a change of what is not still -/
theorem mv_at {F : Addr → Prop} {R H : Hp} {p : Addr} {o u : HO} (s : Same R H) (n : R p = none) (h : H p = some u) (hF : F p) : Mv F R H R (upd H p o) where
  keep := fun b x e f => by
    rw [upd_ne fun q => f (by rw [q]; exact hF)]
    exact e
  dom := fun b x e => by
    by_cases q : b = p
    · exact ⟨o, by rw [q, upd_same]⟩
    · exact ⟨x, by rw [upd_ne q]; exact e⟩
  up := .refl _
  sub := fun b x e => by
    rw [upd_ne (ne_of_none e n)]
    exact s b x e
  new := fun b x e => .inl e
theorem At.tup {R : Hp} {p : Addr} {vs : List V} {l : List D} (h : R p = some (.tup vs)) (a : Ats R l vs) : At R (.tup l) (.ref p) := ⟨p, vs, rfl, h, a⟩
theorem At.lst {R : Hp} {p : Addr} {vs : List V} {l : List D} (h : R p = some (.lst vs)) (a : Ats R l vs) : At R (.lst l) (.ref p) := ⟨p, vs, rfl, h, a⟩
/-- a new tuple of still things -/
theorem At.ntup {R H : Hp} {p : Addr} {vs : List V} {l : List D} (s : Same R H) (h : H p = none) (a : Ats R l vs) : At (upd R p (.tup vs)) (.tup l) (.ref p) := ⟨p, vs, rfl, upd_same, a.up (same_new (s.free h))⟩
theorem At.nlst {R H : Hp} {p : Addr} {vs : List V} {l : List D} (s : Same R H) (h : H p = none) (a : Ats R l vs) : At (upd R p (.lst vs)) (.lst l) (.ref p) := ⟨p, vs, rfl, upd_same, a.up (same_new (s.free h))⟩
/-! ### as data that is compared -/
mutual
def D.py : D → PyData
  | .non => .none
  | .bl b => .bool b
  | .int n => .int n
  | .str s => .str s
  | .tup l => .tuple (pys l)
  | .lst l => .list (pys l)
  | .dct _ _ => .none
def pys : List D → List PyData
  | [] => []
  | d :: l => d.py :: pys l
end
mutual
def D.flat : D → Bool
  | .dct _ _ => false
  | .tup l => flats l
  | .lst l => flats l
  | _ => true
def flats : List D → Bool
  | [] => true
  | d :: l => d.flat && flats l
end
mutual
theorem At.dp {K : PySem.W.Frag} {R H : Hp} (s : Same R H) : ∀ {d : D} {v : V}, d.flat = true → At R d v → Dp K H v d.py
  | .non, _, _, h => by rw [show _ = V.non from h]; exact .non
  | .bl b, _, _, h => by rw [show _ = V.bl b from h]; exact .bl b
  | .int n, _, _, h => by rw [show _ = V.int n from h]; exact .int n
  | .str x, _, _, h => by rw [show _ = V.str x from h]; exact .str x
  | .tup l, _, f, ⟨p, vs, e, h, a⟩ => by rw [e]; exact .tup (SqT.of (s _ _ h)) (Ats.dp s (l := l) f a)
  | .lst l, _, f, ⟨p, vs, e, h, a⟩ => by rw [e]; exact .lst (SqL.of (s _ _ h)) (Ats.dp s (l := l) f a)
  | .dct _ _, _, f, _ => by cases f
theorem Ats.dp {K : PySem.W.Frag} {R H : Hp} (s : Same R H) : ∀ {l : List D} {vs : List V}, flats l = true → Ats R l vs → DpAll K H vs (pys l)
  | [], _, _, h => by rw [show _ = ([] : List V) from h]; exact .nil
  | d :: l, _, f, ⟨v, r, e, h, a⟩ => by
    have f2 : (d.flat && flats l) = true := f
    rw [Bool.and_eq_true] at f2
    rw [e]
    exact .cons (At.dp s (d := d) f2.1 h) (Ats.dp s (l := l) f2.2 a)
end
end Bz


set_option Elab.async false
set_option linter.all false
set_option maxRecDepth 100000
set_option maxHeartbeats 4000000
namespace Bz
open PySem PySem.Spec L2 PyProof.Rows
/-! ### del xs[a:] -/
theorem kept_eq {α : Type} (a : Nat) : ∀ (l : List α) (k n : Nat), n = k + l.length → (l.zipIdx k).filterMap (fun p => if (decide ((a : Int) ≤ (p.2 : Int)) && decide ((p.2 : Int) < (n : Int)) && (((p.2 : Int) - a) % 1 == 0)) = true then none else some p.1) = l.take (a - k)
  | [], k, n, _ => by simp
  | x :: r, k, n, h => by
    have ih := kept_eq a r (k + 1) n (by rw [h, List.length_cons]; omega)
    rw [List.zipIdx_cons, List.filterMap_cons]
    have hk : k < n := by rw [h, List.length_cons]; omega
    have h1 : ((((k : Nat) : Int) - a) % 1 == 0) = true := by
      rw [Int.emod_one]; rfl
    dsimp only
    rw [h1, Bool.and_true]
    by_cases c : a ≤ k
    · rw [if_pos (by simp; omega), ih, show a - (k + 1) = 0 by omega, show a - k = 0 by omega]
      rfl
    · rw [if_neg (by simp; omega), ih, show a - k = (a - (k + 1)) + 1 by omega]
      rfl
theorem bounds_from {a n : Nat} (h : a ≤ n) : sliceBounds (some (a : Int)) none none n = ((a : Int), (n : Int), 1) := by
  simp only [sliceBounds, Option.getD_none]
  have h1 : ¬ ((a : Int) < 0) := by omega
  simp only [h1, if_false, show (1 : Int) > 0 by decide, if_true]
  congr 1
  omega
section
variable {prog : Program} {w : World} {A : Around} {E : Value → Shared → Prop} {s : Shared}
set_option maxRecDepth 100000 in
theorem delItem_from {l sl : Addr} {items : Array Value} {n : Nat} {vl : Value} {a : Nat} {Q : Unit → Shared → Prop}
    (e : s.heap.get? l = some { cls := .type "list", data := .seq items n }) (hs : s.heap.IsSliceOf sl vl .none .none) (pl : IsPart vl (some (a : Int))) (ha : a ≤ items.size)
    (hsz : items.size ≤ sizeLine) (h : ∀ f : Array Value → Array Value, f items = (items.toList.take a).toArray → Q () { s with heap := s.heap.update l (Obj.mapSeq f) }) :
    wpAny (model prog w) A (delItem (.ref l) (.ref sl)) Q E s := by
  have hl : s.heap.IsList l items := PySem.IsL.isList e
  obtain ⟨os, hos, hcs, hds⟩ := id hs
  have hTs : s.TypeIs (.ref sl) "slice" := ⟨os, hos, hcs⟩
  have hstep : ¬ ((rawPart none == rawInt 0) = true) := Bool.false_ne_true
  have hz' : ((fun xs : Array Value => (xs.toList.take a).toArray) items).size ≤ sizeLine + 1 := by
    simp only [List.size_toArray, List.length_take, Array.length_toList]
    omega
  unfold delItem
  try with_reducible refine wpAny_holding ?_
  refine wpAny_bind (wpAny_sequenceKey hl.typeIs (by decide) ?_)
  refine wpAny_bind (wpAny_callSpecial?_slot (name := Str.ofString "__delitem__") hl.typeIs PySem.F.slot_list_delitem
    (wpAny_call_entry PySem.F.slot_list_delitem hl.typeIs PySem.F.entry_list_delitem ?_ (PySem.F.args_list_delitem_2 _ _)))
  show wpAny _ _ (Builtin.List.listSubscript? (.ref sl) >>= _) _ _ s
  refine wpAny_bind ?_
  unfold Builtin.List.listSubscript?
  refine wpAny_bind (wpAny_specialOf hTs slice_no_index ?_)
  simp only [Option.isNone_none, if_true]
  refine wpAny_pure ?_
  show wpAny _ _ (typeOf (.ref sl) >>= _) _ _ s
  refine wpAny_bind (wpAny_typeOf hTs ?_)
  first
    | rw [if_neg (by decide)]
    | refine PySem.W.KFB.if_not (by decide) ?_
  rw [listSliceParts_eq]
  refine wpAny_bind (wpAny_bind (wpAny_field hos hds (x := .none) rfl (wpAny_bind (wpAny_listPart .none ?_))))
  rw [if_neg hstep]
  refine wpAny_bind (wpAny_field hos hds (x := vl) rfl (wpAny_bind (wpAny_listPart pl ?_)))
  refine wpAny_bind (wpAny_field hos hds (x := .none) rfl (wpAny_bind (wpAny_listPart .none (wpAny_pure ?_))))
  unfold Builtin.List.listItems
  refine wpAny_bind (wpAny_bind (wpAny_seqItems e rfl (wpAny_pure ?_)))
  refine wpAny_bind (wpAny_of_eq ((sliceIndices_raw (some (a : Int)) none none items.size (by simp)).trans (congrArg (pure : Int × Int × Int → Sem (Int × Int × Int)) (bounds_from ha))) ?_)
  refine wpAny_bind (wpAny_rule ?_)
  have ef : (fun xs : Array Value => (xs.toList.zipIdx.filterMap fun (p : Value × Nat) => if (decide ((a : Int) ≤ (p.2 : Int)) && decide ((p.2 : Int) < (items.size : Int)) && (((p.2 : Int) - a) % 1 == 0)) = true then none else some p.1).toArray) items = (items.toList.take a).toArray := by
    show (List.filterMap _ (items.toList.zipIdx 0)).toArray = _
    rw [kept_eq a items.toList 0 items.size (by simp)]
    rfl
  show wpAny _ _ (updateSeq l (fun xs : Array Value => (xs.toList.zipIdx.filterMap fun (p : Value × Nat) => if (decide ((a : Int) ≤ (p.2 : Int)) && decide ((p.2 : Int) < (items.size : Int)) && (((p.2 : Int) - a) % 1 == 0)) = true then none else some p.1).toArray) >>= _) _ _ s
  refine wpAny_bind (wpAny_updateSeq (hz := hsz) (_hz' := by rw [show (List.filterMap _ items.toList.zipIdx).toArray = (items.toList.take a).toArray from ef]; exact hz') e rfl ?_)
  refine wpAny_bind (wpAny_letGo ?_)
  first
    | exact wpAny_bind (wpAny_pure (wpAny_pure ⟨.none, rfl, wpAny_pure (h _ ef)⟩))
    | exact wpAny_pure ⟨.none, rfl, wpAny_pure (h _ ef)⟩
end
section
variable {X : Cx}
/-- del o[a:] -/
def sDelFrom (to : TE) (ti : TO) : TS := fun D σ H => to σ H fun x H1 => ti σ H1 fun y H2 => ∃ (l : Addr) (xs : List V) (a : Nat), x = .ref l ∧ y = some (a : Int) ∧ H2 l = some (.lst xs) ∧ a ≤ xs.length ∧ D.nx σ (upd H2 l (.lst (xs.take a)))
theorem ps_delFrom {o : Expr} {i : Option Expr} {to : TE} {ti : TO} {tpos p2 pos : Pos} (ho : PE X o to) (hi : PO X i ti) : PS X (.Delete [.Subscript o (.Slice i none none p2) tpos] pos) (sDelFrom to ti) := by
  refine ⟨fun pins s σ H D I h => ?_⟩
  refine wpAny_Delete (wpAny_deleteEach_cons (wpAny_delete_Subscript (thn (ho.run pins s σ H _ I h) fun u s1 ⟨x, H1, I1, rx, q1⟩ => ?_)))
  refine wpAny_Slice (thn (hi.run pins s1 σ H1 _ I1 q1) fun vl s2 ⟨y, H2, I2, pl, q2⟩ => ?_)
  rw [evalPart_none]
  refine wpAny_pure ?_
  refine wpAny_pure ?_
  have I3 : Inv X pins σ H2 { s2 with heap := s2.heap.push { cls := .type "slice", data := .fields #[vl, .none, .none] } } := I2.kept (t' := s2.toks) fun b ob q => Heap.get?_push_of_some _ q
  obtain ⟨l, xs, a, ex, ey, hH, ha, q2⟩ := q2
  subst ex
  subst ey
  cases (show u = Value.ref l from rx)
  obtain ⟨z, its, n, r, hl, e⟩ := I3.lstM hH
  refine delItem_from (a := a) e (Heap.IsSliceOf.new ..) pl (by rw [List.size_toArray]; omega) (by rw [List.size_toArray]; omega) fun f hf => ?_
  exact wpAny_deleteEach_nil ⟨σ, _, I3.lset (its' := its.take a) (t' := s2.toks) hH e hf (r.take a) (by rw [List.length_take]; omega), q2⟩
end
end Bz


set_option Elab.async false
set_option linter.all false
set_option maxRecDepth 100000
set_option maxHeartbeats 4000000
namespace Bz
open PySem PySem.Spec L2 PyProof.Rows
/-! ### a, b, *c = a list -/
section
variable {prog : Program} {w : World} {A : Around} {E : Value → Shared → Prop} {s : Shared}
theorem star_items {l : Addr} {items : Array Value} {i : Nat} {Q : List Value → Shared → Prop} (hl : s.heap.IsList l items) (hh : A.handled = none) (hi : i ≤ items.size) (hz : items.size ≤ 16384)
    (h : ∀ h' tk, Heap.ExtBut s.heap.objs.size s.heap h' → Q (items.toList.take i ++ [.ref h'.objs.size]) { s with heap := h'.push { cls := .type "list", data := .seq (items.toList.drop i).toArray }, toks := tk }) : wpAny (model prog w) A (unpackItems (.ref l) (i + 1) (some i)) Q E s := by
  have hlt : l ≠ s.heap.objs.size := by obtain ⟨o, ho, _⟩ := hl; exact Nat.ne_of_lt (Heap.lt_size ho)
  unfold unpackItems
  refine wpAny_bind ?_
  unfold notIterableAtAll
  refine wpAny_bind (wpAny_specialOf hl.typeIs slot_list_iter.lookup ?_)
  refine wpAny_pure ?_
  simp only [Bool.false_eq_true, if_false]
  refine wpAny_bind (wpAny_holding (wpAny_pyIter_list hl ?_))
  refine wpAny_bind (wpAny_holding (PySem.W.kun_draw hlt i 0 _ _ ⟨_, Heap.get?_push_size _ rfl, rfl, rfl⟩ (hl.push _) (by omega) fun h₁ hit₁ hs₁ => ?_))
  have hl₁ : h₁.IsList l items := (hl.push _).extBut hs₁.extBut hlt
  rw [Nat.zero_add] at hit₁
  have hit₁' := hit₁
  obtain ⟨oi, hoi, _⟩ := hit₁'
  have hl₁' := hl₁
  obtain ⟨ol, hol, _⟩ := hl₁'
  rw [List.drop_zero]
  have hfl : (items.toList.take i).length = i := by rw [List.length_take, Array.length_toList]; omega
  rw [if_neg (show ¬ ((items.toList.take i).length < i) by rw [hfl]; omega)]
  refine wpAny_bind (wpAny_holding (PySem.W.kun_collect (s := { s with heap := h₁ }) (T := "list_iterator") (.inr (.inr (.inl rfl))) (Walks.list (A := A.in1) hh s.heap.objs.size l hlt items) (fun j u st => st.1.typeIs) (k := i) (by omega) ⟨hit₁, hl₁⟩ (Heap.lt_size hoi) (Heap.lt_size hol) (fun h₂ tk hk => ?_) (by rw [sizeLine_eq]; omega)))
  have hrl : (items.toList.drop i).length = items.size - i := by rw [List.length_drop, Array.length_toList]
  have hmid : (items.toList.drop i).length - (i + 1 - 1 - i) = (items.toList.drop i).length := by omega
  show wpAny _ _ (if (items.toList.drop i).length < i + 1 - 1 - i then _ else _) _ _ _
  rw [if_neg (by rw [hrl]; omega)]
  show wpAny _ _ (newList ((items.toList.drop i).take ((items.toList.drop i).length - (i + 1 - 1 - i))) >>= fun d => pure (items.toList.take i ++ [d] ++ (items.toList.drop i).drop ((items.toList.drop i).length - (i + 1 - 1 - i)))) _ _ _
  rw [hmid, List.take_length, List.drop_length]
  have he : Heap.ExtBut s.heap.objs.size s.heap h₂ := fun b o hb e => hk b o hb (hs₁.extBut b o hb (Heap.get?_push_of_some _ e))
  refine wpAny_bind (wpAny_newList (s := { s with heap := h₂, toks := tk }) (wpAny_pure ?_) (by rw [hrl, sizeLine_eq]; omega))
  rw [List.append_nil]
  exact h h₂ tk he
end
section
variable {X : Cx} {pos : Pos}
def gUnlS (K : PySem.W.Frag) (n : Nat) (t : TGs) : TG := fun v σ H Q => ∃ a xs, v = .ref a ∧ SqL K H a xs ∧ n ≤ xs.length ∧ xs.length ≤ 16384 ∧ ∀ p, H p = none → t (xs.take n ++ [.ref p]) σ (upd H p (.lst (xs.drop n))) Q
theorem pgs_star {e : Expr} {es : List Expr} {t : TG} {u : TGs} {p : Pos} (h1 : PG X e t) (h2 : PGs X es u)
    (hs : (assignEach (.Starred e p :: es) X.env).map (·.2) = assign e X.env :: (assignEach es X.env).map (·.2) := by rfl) : PGs X (.Starred e p :: es) (gCons t u) := by
  refine ⟨fun pins s σ H vs us Q I r h => ?_⟩
  obtain ⟨v, vr, e1, h⟩ := h
  subst e1
  cases r with
  | cons r rr =>
    rw [hs]
    refine assignInOrder_cons (thn (h1.run pins s σ H _ _ _ I r h) fun _ s1 ⟨σ1, H1, I1, q1⟩ => ?_)
    exact h2.run pins s1 σ1 H1 _ _ Q I1 rr q1
theorem pg_unlS {es : List Expr} {k : Nat} {t : TGs} {n : Nat} (hc : X.calm = true) (h : PGs X es t)
    (hn : (assignEach es X.env).length = n + 1 := by rfl) (hst : (assignEach es X.env).findIdx? (·.1) = some n := by rfl) : PG X (.Tuple es k pos) (gUnlS X.K n t) := by
  refine ⟨fun pins s σ H v u Q I r hw => ?_⟩
  obtain ⟨a, xs, e1, hq, hl, hz, hw⟩ := hw
  subst e1
  cases r
  obtain ⟨its, rv, pl, _⟩ := I.list hq
  have hl' : s.heap.IsList a its.toArray := by
    obtain ⟨o, m, e, c, d, q⟩ := pl
    exact ⟨o, e, c, m, q⟩
  rw [PyProof.Rows.assign_Tuple]
  refine wpAny_bind (wpAny_standAt ?_)
  unfold unpack
  rw [hn, hst]
  refine wpAny_bind (wpAny_holding (star_items (hl' ) (I.ok.hd hc) (by rw [List.size_toArray, ← rv.length]; exact hl) (by rw [List.size_toArray, ← rv.length]; exact hz) fun h' tk hx => ?_))
  have I1 : Inv X pins σ H { s with heap := h', toks := tk } := I.kept (t' := tk) fun b o e => hx b o (Nat.ne_of_lt (Heap.lt_size e)) e
  have I2 := I1.lnew (t' := tk) (rv.drop n) (by rw [List.length_drop]; have : sizeLine = 16777216 := by decide
                                                omega)
  refine h.run pins _ σ _ (xs.take n ++ [.ref h'.objs.size]) _ Q I2 ?_ (hw _ I1.fresh)
  rw [show its.toArray.toList = its from rfl]
  exact (rv.take n).append (.cons rfl .nil)
/-! ### C.m(e, ..), m a def of the class at C -/
def tCallC (K : PySem.W.Frag) (f : Addr) (m : Str) (ta : TE) (sp : Sp) (E : XK) (t : TA) : TE := fun σ H Q => ta σ H fun x H1 => ∃ C mc, x = .ref C ∧ ClX.CRead K C mc ∧ ClX.CVal K C mc m (.ref f) (.ref f) ∧ t σ H1 fun vs H2 => sp vs H2 Q E
variable {CX : CXT} {k : Nat} {f : Addr} {fd : FuncData} {ps : List Str} {sp : Sp} {E : XK} {o e : Expr} {es : List Expr} {m : Str} {apos : Pos} {ta : TE} {t : TA} {pl : Sem Bool}
theorem pe_callC (he : PE X o ta) (F : FnOk X.prog X.w X.K X.mg X.base CX k f fd ps sp) (hr : Room k X.A) (hk : PySem.W.keepIn X.K (.ref f) = true) (hb : Binds X.K fd ps []) (hx : Passes CX X E) (ha : PA X (e :: es) t)
    (hst : starEach (e :: es) X.env = (false, eval e X.env) :: starEach es X.env := by rfl) (hpl : (backTo pos (starEach es X.env)).any (·.1) = false := by rfl)
    (ht : eval (.Call (.Attribute o m apos) (e :: es) [] pos) X.env = (do
      let ov ← eval o X.env
      standAt apos.atName
      let (f, first) ← holding [ov] (getMethod ov m pl)
      callWith pos f first (backTo pos (starEach (e :: es) X.env)) (backToKw pos (keywordEach [] X.env))) := by rfl) :
    PE X (.Call (.Attribute o m apos) (e :: es) [] pos) (tCallC X.K f m ta sp E t) := by
  refine ⟨fun pins s σ H Q I h => ?_⟩
  refine PySem.W.methodCall_KW (pl := pl) (thn (he.run pins s σ H _ I h) fun u s1 ⟨x, H1, I1, rx, C, mc, ex, r, cv, q⟩ => ?_) ht
  subst ex
  obtain rfl : u = Value.ref C := rx
  refine PySem.W.method_cls I1.kIn r.ga (ClX.getcval_ok I1 r cv fun s2 I2 => ?_)
  refine PySem.W.callWith_K (first := []) (h₀ := X.base) I2.ok.mod.kin hk (thn (ha.run pos pins s2 σ H1 _ I2 q) fun us s3 ⟨vs, H3, I3, r3, q3⟩ => ⟨I3.kIn, ?_⟩) hst hpl
  exact run_fn F hr hb .nil hx I3 r3 (by rw [List.append_nil]; exact q3)
end
end Bz


set_option Elab.async false
set_option linter.all false
set_option maxRecDepth 100000
set_option maxHeartbeats 4000000
namespace Bz
open PySem PySem.Spec L2 PyProof.Rows
/-! ### zip(a tuple, a list) -/
def ItzM (K : PySem.W.Frag) (a b : Addr) : It :=
  ⟨fun i H => ∃ (xs ys : List V) (x y : V), SqT K H a xs ∧ SqL K H b ys ∧ xs[i]? = some x ∧ ys[i]? = some y,
    fun i H v H' => ∃ T x y, v = .ref T ∧ H T = none ∧ H' = upd H T (.tup [x, y]) ∧ (∀ xs, SqT K H a xs → xs[i]? = some x) ∧ ∀ ys, SqL K H b ys → ys[i]? = some y,
    fun i H => ∃ xs ys : List V, SqT K H a xs ∧ SqL K H b ys ∧ xs.length = i ∧ ys.length = i⟩
def tnM (a b z T O j k : Addr) (i : Nat) (h : Heap) : Prop := IsZip h z T O .none ∧ IsTupOf2 h T (.ref j) (.ref k) ∧ (∃ x y, IsTupOf2 h O x y) ∧ h.IsTupleIter j a i ∧ h.IsListIter k b i
theorem sep_of {a b z T O j k : Addr} (D : ZipApart z T O j k a b) : ZipSep2 z T O j k [j, a] [k, b] where
  TIz := D.TIz
  TOz := D.TOz
  TITO := D.TITO
  TIi1 := D.TIi1
  mem1 := List.mem_cons_self ..
  zf1 := by
    intro m
    rcases List.mem_cons.mp m with e | e
    · exact D.i1z e.symm
    · exact D.l1z (List.mem_singleton.mp e).symm
  Tf1 := by
    intro m
    rcases List.mem_cons.mp m with e | e
    · exact D.TOi1 e
    · exact D.l1TO (List.mem_singleton.mp e).symm
  TIi2 := D.TIi2
  mem2 := List.mem_cons_self ..
  zf2 := by
    intro m
    rcases List.mem_cons.mp m with e | e
    · exact D.i2z e.symm
    · exact D.l2z (List.mem_singleton.mp e).symm
  Tf2 := by
    intro m
    rcases List.mem_cons.mp m with e | e
    · exact D.TOi2 e
    · exact D.l2TO (List.mem_singleton.mp e).symm
  sep1_2 := by
    intro m
    rcases List.mem_cons.mp m with e | e
    · exact D.i12 e
    · exact D.l2i1 (List.mem_singleton.mp e).symm
  sep2_1 := by
    intro m
    rcases List.mem_cons.mp m with e | e
    · exact D.i12 e.symm
    · exact D.l1i2 (List.mem_singleton.mp e).symm
theorem five {z T O j k c : Addr} (h : c ∈ [z, T, O, j, k]) : c = z ∨ c = T ∨ c = O ∨ c = j ∨ c = k := by simpa using h
theorem turn_zipM {P : Program} {w : World} {K : PySem.W.Frag} {elts : List Expr} {kk : Nat} {tpos : Pos} {a b z T O j k : Addr} (D : ZipApart z T O j k a b) :
    Turn P w K (.Tuple elts kk tpos) (ItzM K a b) [z, T, O, j, k] z (tnM a b z T O j k) where
  mem := List.mem_cons_self ..
  obj := fun i h st c m => by
    obtain ⟨gz, gT, ⟨_, _, gO⟩, ⟨u1, e1, _, d1⟩, ⟨u2, e2, _, d2⟩⟩ := st
    rcases five m with rfl | rfl | rfl | rfl | rfl
    · exact ⟨_, gz, fun _ q => nomatch q⟩
    · exact ⟨_, gT, fun _ q => nomatch q⟩
    · exact ⟨_, gO, fun _ q => nomatch q⟩
    · exact ⟨u1, e1, fun _ q => by rw [d1] at q; cases q⟩
    · exact ⟨u2, e2, fun _ q => by rw [d2] at q; cases q⟩
  keep := fun i h h' st kp => by
    obtain ⟨gz, gT, ⟨x, y, gO⟩, g1, g2⟩ := st
    have m : ∀ c, (c = z ∨ c = T ∨ c = O ∨ c = j ∨ c = k) → c ∈ [z, T, O, j, k] := fun c q => by simpa using q
    exact ⟨kp z (m _ (.inl rfl)) _ gz, kp T (m _ (.inr (.inl rfl))) _ gT, ⟨x, y, kp O (m _ (.inr (.inr (.inl rfl)))) _ gO⟩, g1.at fun o q => kp j (m _ (.inr (.inr (.inr (.inl rfl))))) o q, g2.at fun o q => kp k (m _ (.inr (.inr (.inr (.inr rfl))))) o q⟩
  item := by
    intro X eP ew eK hc i pins s σ H E I free st go
    subst eP ew eK
    obtain ⟨gz, gT, ⟨x0, y0, gO⟩, g1, g2⟩ := st
    obtain ⟨xs, ys, x, y, qx, qy, hx, hy⟩ := go
    obtain ⟨us, r1, p1, _⟩ := I.tuple qx
    obtain ⟨vs, r2, p2, _⟩ := I.list qy
    obtain ⟨u, hu, ru⟩ := r1.get hx
    obtain ⟨v, hv, rv⟩ := r2.get hy
    have lu : i < us.toArray.size := by rw [List.size_toArray]; exact (List.getElem?_eq_some_iff.mp hu).1
    have lv : i < vs.toArray.size := by rw [List.size_toArray]; exact (List.getElem?_eq_some_iff.mp hv).1
    have lz : z < s.heap.objs.size := Heap.lt_size gz
    refine wpAny_pyNext_zipD2_item (sep_of D) (Draws.tuple (A := X.A.in1) (I.ok.hd hc) j a D.l1i1 us.toArray) (Draws.list (A := X.A.in1) (I.ok.hd hc) k b D.l2i2 vs.toArray) gz gT gO ⟨g1, p1⟩ ⟨g2, p2.isList⟩ lu lv fun u' v' h1 tk eu ev nz nO n1 n2 nT sz kp => ?_
    obtain rfl : u = u' := by
      have q : us.toArray[i]? = some u' := eu
      rw [List.getElem?_toArray, hu] at q
      exact Option.some.inj q
    obtain rfl : v = v' := by
      have q : vs.toArray[i]? = some v' := ev
      rw [List.getElem?_toArray, hv] at q
      exact Option.some.inj q
    refine ⟨_, rfl, wpAny_letOwnedTupleGo_zip (s := { s with heap := h1, toks := tk }) nz fun h2 nz2 sb => ?_⟩
    have nT2 : h2.get? s.heap.objs.size = some { cls := .type "tuple", data := .seq #[u, v] } := (sb.2 _ (Nat.ne_of_gt lz)).trans nT
    have ok : ObjOk X.prog X.w (upd H s.heap.objs.size (.tup [x, y])) h2 s.heap.objs.size (.tup [x, y]) := ⟨by show 2 ≤ sizeLine; decide, [u, v], .cons ru (.cons rv .nil), ⟨_, nT2, rfl, _, rfl⟩⟩
    have I1 : Inv X pins σ (upd H s.heap.objs.size (.tup [x, y])) { s with heap := h2, toks := tk } := by
      refine I.turnedNew (t' := tk) (ch := [z, T, O, j, k]) (fun c o n q => ?_) free (Nat.le_refl _) ok
      have nn : ∀ d, (d = z ∨ d = T ∨ d = O ∨ d = j ∨ d = k) → c ≠ d := fun d q e => n (by rw [e]; simpa using q)
      exact (sb.2 c (nn z (.inl rfl))).trans (kp c o (nn z (.inl rfl)) (nn O (.inr (.inr (.inl rfl)))) (nn j (.inr (.inr (.inr (.inl rfl))))) (nn k (.inr (.inr (.inr (.inr rfl))))) q)
    refine ⟨.ref s.heap.objs.size, _, I1, rfl, ⟨_, x, y, rfl, I.hok.fresh (Nat.le_refl _), rfl, fun l hl => by rw [I.tuple_inj hl qx]; exact hx, fun l hl => by rw [I.list_inj hl qy]; exact hy⟩,
      ⟨nz2, (sb.2 _ D.TIz).trans (kp _ _ D.TIz D.TITO D.TIi1 D.TIi2 gT), ⟨u, v, (sb.2 _ D.TOz).trans nO⟩, n1.1.at fun o q => (sb.2 _ D.i1z).trans q, n2.1.at fun o q => (sb.2 _ D.i2z).trans q⟩, fun c m => ?_⟩
    have lt : c < s.heap.objs.size := by
      rcases five m with rfl | rfl | rfl | rfl | rfl
      · exact lz
      · exact Heap.lt_size gT
      · exact Heap.lt_size gO
      · obtain ⟨_, e, _⟩ := g1; exact Heap.lt_size e
      · obtain ⟨_, e, _⟩ := g2; exact Heap.lt_size e
    rw [upd_ne (Nat.ne_of_lt lt)]
    exact (free c m).1
  done := by
    intro X eP ew eK hc i pins s σ H E I free st stop
    subst eP ew eK
    obtain ⟨gz, gT, ⟨x0, y0, gO⟩, g1, g2⟩ := st
    obtain ⟨xs, ys, qx, qy, lx, ly⟩ := stop
    obtain ⟨us, r1, p1, _⟩ := I.tuple qx
    obtain ⟨vs, r2, p2, _⟩ := I.list qy
    have lu : i = us.toArray.size := by rw [List.size_toArray, ← r1.length, lx]
    have lv : i = vs.toArray.size := by rw [List.size_toArray, ← r2.length, ly]
    refine wpAny_pyNext_zipD2_end (sep_of D) (Draws.tuple (A := X.A.in1) (I.ok.hd hc) j a D.l1i1 us.toArray) (Draws.list (A := X.A.in1) (I.ok.hd hc) k b D.l2i2 vs.toArray) gz gT gO (i := i) ⟨g1, p1⟩ ⟨g2, p2.isList⟩ (Nat.le_of_eq lu) (Nat.le_of_eq lv) (.inl lu) fun h1 tk kp => ⟨rfl, ?_⟩
    refine I.turnedL (t' := tk) (ch := [z, T, O, j, k]) (fun c o n q => ?_) free
    have nn : ∀ d, (d = z ∨ d = T ∨ d = O ∨ d = j ∨ d = k) → c ≠ d := fun d q e => n (by rw [e]; simpa using q)
    exact kp c o (nn z (.inl rfl)) (nn O (.inr (.inr (.inl rfl)))) (nn j (.inr (.inr (.inr (.inl rfl))))) (nn k (.inr (.inr (.inr (.inr rfl))))) q
  self := fun A i s Q E st h => wpAny_pyIter_zip st.1 h
def iZipM (K : PySem.W.Frag) (ta : TA) : TI := fun σ H R => ta σ H fun vs H1 => ∃ a b xs ys, vs = [.ref a, .ref b] ∧ SqT K H1 a xs ∧ SqL K H1 b ys ∧ R (ItzM K a b) H1
theorem pi_zipM {X : Cx} {e e2 : Expr} {ta : TA} {p pos tpos : Pos} {elts : List Expr} {kk : Nat} (hg : Gl X "zip") (hm : X.mg "zip" = none) (ha : PA X [e, e2] ta)
    (hs : starEach [e, e2] X.env = (false, eval e X.env) :: starEach [e2] X.env := by rfl) (hpl : (backTo pos (starEach [e2] X.env)).any (·.1) = false := by rfl) :
    PI X (.Tuple elts kk tpos) (.Call (.Name "zip" p) [e, e2] [] pos) (iZipM X.K ta) := by
  refine ⟨fun pins s σ H R I h => ?_⟩
  refine Call_ (ld_blt I hg hm PyProof.Rows.boot_zip (PyProof.Rows.callWith_type1 (thn (ha.run pos pins s σ H _ I h) fun us s1 ⟨vs, H1, I1, r1, a, b, xs, ys, ex, qx, qy, q⟩ => ?_) hs hpl))
  subst ex
  cases r1 with
  | cons ra rr =>
  cases rr with
  | cons rb rr =>
  cases rr
  cases ra
  cases rb
  obtain ⟨us, v1, p1, _⟩ := I1.tuple qx
  obtain ⟨vs, v2, p2, _⟩ := I1.list qy
  obtain ⟨o1, e1, _⟩ := id p1
  refine zip_begins2 (begins_tuple a us.toArray) (begins_list b vs.toArray) (show s1.heap.IsTuple a us.toArray from p1) p2.isList fun h1 nz nT nO n1 n2 sz kp => wpAny_pyIter_zip nz ?_
  have I2 : Inv X pins σ H1 { s1 with heap := h1 } := I1.kept (t' := s1.toks) kp
  refine ⟨s1.heap.objs.size + 4, [s1.heap.objs.size + 4, s1.heap.objs.size + 2, s1.heap.objs.size + 3, s1.heap.objs.size, s1.heap.objs.size + 1], _, _, H1, rfl, I2, turn_zipM (PySem.W.ktu_apart s1.heap.objs.size a b (Heap.lt_size e1) p2.lt), ⟨nz, nT, ⟨_, _, nO⟩, ⟨_, n1, rfl, rfl⟩, ⟨_, n2, rfl, rfl⟩⟩, fun c m => ?_, q⟩
  have le : s1.heap.objs.size ≤ c := by
    rcases five m with rfl | rfl | rfl | rfl | rfl <;> omega
  exact I1.fpOk le (I1.hok.fresh le)
theorem walk_zipM {K : PySem.W.Frag} {a b : Addr} {xs ys : List V} (hl : xs.length = ys.length) : Walk (ItzM K a b) xs.length (fun H => SqT K H a xs ∧ SqL K H b ys) (YPair (fun i => xs[i]?) (fun i => ys[i]?)) where
  goes := fun i H hi q => ⟨xs, ys, xs[i], ys[i], q.1, q.2, by simp [hi], by simp [show i < ys.length by omega]⟩
  stops := fun H q => ⟨xs, ys, q.1, q.2, rfl, hl.symm⟩
  yields := fun i H v H' hi q y => by
    obtain ⟨T, x, y, e, n, eH, f, g⟩ := y
    exact ⟨T, x, y, e, n, eH, f xs q.1, g ys q.2⟩
end Bz


set_option Elab.async false
set_option linter.all false
set_option maxRecDepth 100000
set_option maxHeartbeats 4000000
namespace Bz
open PySem PySem.Spec L2 PyProof.Rows
theorem at_int {R : Hp} {n : Int} : At R (.int n) (.int n) := rfl
theorem at_bl {R : Hp} {b : Bool} : At R (.bl b) (.bl b) := rfl
theorem at_str {R : Hp} {s : Str} : At R (.str s) (.str s) := rfl
theorem at_non {R : Hp} : At R .non .non := rfl
/-! ### expressions -/
mutual
inductive Ex where
  | num (n : Int) | flag (b : Bool) | unit | name (x : Str)
  | call (f e : Ex) | fn (x : Str) (e : Ex) | rc (h x : Str) (e : Ex) | lt (x : Str) (e f : Ex) | ite (e f g : Ex)
  | pair (e f : Ex) | fst (e : Ex) | snd (e : Ex) | op (s : Str) (e f : Ex) | nt (e : Ex) | pr (e f : Ex) | ask (o : Str) (e : Ex)
  | hd (e : Ex) (x : Str) (f : Ex) (cs : Clz)
inductive Clz where
  | nil
  | cons (o x k : Str) (g : Ex) (r : Clz)
end
/-- the names that occur free, each once, in the order of their first places -/
def addN (x : Str) (ks : List Str) : List Str := if x ∈ ks then ks else ks ++ [x]
mutual
def noted : Ex → List Str → List Str → List Str
  | .num _, _, ks => ks
  | .flag _, _, ks => ks
  | .unit, _, ks => ks
  | .name x, bs, ks => if x ∈ bs then ks else addN x ks
  | .call f e, bs, ks => noted e bs (noted f bs ks)
  | .fn x e, bs, ks => noted e (bs ++ [x]) ks
  | .rc h x e, bs, ks => noted e (bs ++ [h, x]) ks
  | .lt x e f, bs, ks => noted f (bs ++ [x]) (noted e bs ks)
  | .ite e f g, bs, ks => noted g bs (noted f bs (noted e bs ks))
  | .pair e f, bs, ks => noted f bs (noted e bs ks)
  | .fst e, bs, ks => noted e bs ks
  | .snd e, bs, ks => noted e bs ks
  | .op _ e f, bs, ks => noted f bs (noted e bs ks)
  | .nt e, bs, ks => noted e bs ks
  | .pr e f, bs, ks => noted f bs (noted e bs ks)
  | .ask _ e, bs, ks => noted e bs ks
  | .hd e x f cs, bs, ks => notedC cs bs (noted f (bs ++ [x]) (noted e bs ks))
def notedC : Clz → List Str → List Str → List Str
  | .nil, _, ks => ks
  | .cons _ x k g r, bs, ks => notedC r bs (noted g (bs ++ [x, k]) ks)
end
def insS (x : Str) : List Str → List Str
  | [] => [x]
  | y :: r => if ltCps y.cps.toList x.cps.toList then y :: insS x r else x :: y :: r
def sortS : List Str → List Str
  | [] => []
  | x :: r => insS x (sortS r)
/-- the free names of an expression, in order -/
def fv (e : Ex) : List Str := sortS (noted e [] [])
/-! ### expressions as made data; p: prepared for the machine -/
mutual
def Ex.d (p : Bool) : Ex → D
  | .num n => .tup [.str "num", .int n]
  | .flag b => .tup [.str "flag", .bl b]
  | .unit => .tup [.str "unit"]
  | .name x => .tup [.str "name", .str x]
  | .call f e => .tup [.str "call", f.d p, e.d p]
  | .fn x e => .tup (.str "fun" :: .str x :: e.d p :: if p then [.lst ((fv (.fn x e)).map D.str)] else [])
  | .rc h x e => .tup (.str "rec" :: .str h :: .str x :: e.d p :: if p then [.lst ((fv (.rc h x e)).map D.str)] else [])
  | .lt x e f => .tup [.str "let", .str x, e.d p, f.d p]
  | .ite e f g => .tup [.str "if", e.d p, f.d p, g.d p]
  | .pair e f => .tup [.str "pair", e.d p, f.d p]
  | .fst e => .tup [.str "fst", e.d p]
  | .snd e => .tup [.str "snd", e.d p]
  | .op s e f => .tup [.str "op", .str s, e.d p, f.d p]
  | .nt e => .tup [.str "not", e.d p]
  | .pr e f => .tup [.str "print", e.d p, f.d p]
  | .ask o e => .tup [.str "ask", .str o, e.d p]
  | .hd e x f cs => .tup [.str "handle", e.d p, .tup [.str x, f.d p], .tup (cs.d p)]
def Clz.d (p : Bool) : Clz → List D
  | .nil => []
  | .cons o x k g r => .tup [.str o, .str x, .str k, g.d p] :: r.d p
end
/-! ### what the machine has -/
mutual
inductive Val where
  | num (n : Int) | flag (b : Bool) | unit | pair (v w : Val) | clo (e : Ex) (env : Env) | kept (ps : Pcs)
inductive Env where
  | nil
  | cons (x : Str) (v : Val) (r : Env)
inductive Vls where
  | nil
  | cons (v : Val) (r : Vls)
inductive Frs where
  | nil
  | cons (e : Ex) (env : Env) (vs : Vls) (r : Frs)
/-- pieces, the uppermost first -/
inductive Pcs where
  | nil
  | cons (e : Ex) (env : Env) (fs : Frs) (r : Pcs)
end
def Env.keys : Env → List Str
  | .nil => []
  | .cons x _ r => x :: r.keys
mutual
def Val.d : Val → D
  | .num n => .tup [.str "num", .int n]
  | .flag b => .tup [.str "flag", .bl b]
  | .unit => .tup [.str "unit"]
  | .pair v w => .tup [.str "pair", v.d, w.d]
  | .clo e env => .tup [.str "closure", e.d true, .dct env.keys env.ds]
  | .kept ps => .tup [.str "kept", .tup [.lst ps.hd.reverse, .lst ps.fd.reverse]]
def Env.ds : Env → List D
  | .nil => []
  | .cons _ v r => v.d :: r.ds
def Vls.ds : Vls → List D
  | .nil => []
  | .cons v r => v.d :: r.ds
def Frs.d : Frs → D
  | .nil => .non
  | .cons e env vs r => .tup [.tup [e.d true, .dct env.keys env.ds, .tup vs.ds], r.d]
def Pcs.hd : Pcs → List D
  | .nil => []
  | .cons e env _ r => .tup [e.d true, .dct env.keys env.ds] :: r.hd
def Pcs.fd : Pcs → List D
  | .nil => []
  | .cons _ _ fs r => fs.d :: r.fd
end
abbrev Env.d (e : Env) : D := .dct e.keys e.ds
def Env.get : Env → Str → Option Val
  | .nil, _ => none
  | .cons y v r, x => if y = x then some v else r.get x
def Env.put : Env → Str → Val → Env
  | .nil, x, v => .cons x v .nil
  | .cons y w r, x, v => if y = x then .cons y v r else .cons y w (r.put x v)
def Env.len : Env → Nat
  | .nil => 0
  | .cons _ _ r => r.len + 1
def Pcs.len : Pcs → Nat
  | .nil => 0
  | .cons _ _ _ r => r.len + 1
def Pcs.app : Pcs → Pcs → Pcs
  | .nil, q => q
  | .cons e env fs r, q => .cons e env fs (r.app q)
theorem Pcs.app_hd : ∀ (p q : Pcs), (p.app q).hd = p.hd ++ q.hd
  | .nil, q => rfl
  | .cons e env fs r, q => by
    show D.tup [e.d true, env.d] :: (r.app q).hd = _
    rw [Pcs.app_hd r q]
    rfl
theorem Pcs.app_fd : ∀ (p q : Pcs), (p.app q).fd = p.fd ++ q.fd
  | .nil, q => rfl
  | .cons e env fs r, q => by
    show fs.d :: (r.app q).fd = _
    rw [Pcs.app_fd r q]
    rfl
theorem Pcs.len_hd : ∀ p : Pcs, p.hd.length = p.len
  | .nil => rfl
  | .cons _ _ _ r => by
    show r.hd.length + 1 = r.len + 1
    rw [Pcs.len_hd r]
theorem Pcs.len_fd : ∀ p : Pcs, p.fd.length = p.len
  | .nil => rfl
  | .cons _ _ _ r => by
    show r.fd.length + 1 = r.len + 1
    rw [Pcs.len_fd r]
theorem Env.len_keys : ∀ e : Env, e.keys.length = e.len
  | .nil => rfl
  | .cons _ _ r => by
    show r.keys.length + 1 = r.len + 1
    rw [Env.len_keys r]
theorem Env.len_ds : ∀ e : Env, e.ds.length = e.len
  | .nil => rfl
  | .cons _ _ r => by
    show r.ds.length + 1 = r.len + 1
    rw [Env.len_ds r]
/-! ### a run -/
inductive Shp where
  | int (n : Int) | bool (b : Bool) | unit | pair (a b : Shp) | fn
def Shp.d : Shp → D
  | .int n => .tup [.str "int", .int n]
  | .bool b => .tup [.str "bool", .bl b]
  | .unit => .tup [.str "unit"]
  | .pair a b => .tup [.str "pair", a.d, b.d]
  | .fn => .tup [.str "fun"]
def Val.shp : Val → Shp
  | .num n => .int n
  | .flag b => .bool b
  | .unit => .unit
  | .pair v w => .pair v.shp w.shp
  | .clo _ _ => .fn
  | .kept _ => .fn
inductive Fin where
  | steps | unh (o : Str) | val (s : Shp)
def Fin.d : Fin → D
  | .steps => .tup [.str "steps"]
  | .unh o => .tup [.str "unhandled", .str o]
  | .val s => .tup [.str "value", s.d]
def finD : Option Fin → D
  | none => .non
  | some f => f.d
structure Ms where
  left : Nat
  prints : List Int
  fin : Option Fin
  pcs : Pcs
  bot : Frs
  kept : Nat
  most : Nat
inductive Tree where
  | ex (e : Ex)
  | known (v : Val)
def Tree.d : Tree → D
  | .ex e => e.d true
  | .known v => .tup [.str "known", v.d]
def wrap (n : Int) : Int := (n + 2147483648) % 4294967296 - 2147483648
def oper (s : Str) (a b : Int) : Val :=
  if s = "+" then .num (wrap (a + b)) else if s = "-" then .num (wrap (a - b)) else if s = "*" then .num (wrap (a * b)) else if s = "<" then .flag (decide (a < b)) else .flag (decide (a = b))
def Ms.wait (m : Ms) (e : Ex) (env : Env) (vs : Vls) : Ms := match m.pcs with
  | .nil => { m with bot := .cons e env vs m.bot }
  | .cons h he fs r => { m with pcs := .cons h he (.cons e env vs fs) r }
def Ms.top (m : Ms) : Frs := match m.pcs with
  | .nil => m.bot
  | .cons _ _ fs _ => fs
def Ms.setTop (m : Ms) (fs : Frs) : Ms := match m.pcs with
  | .nil => { m with bot := fs }
  | .cons h he _ r => { m with pcs := .cons h he fs r }
def Ms.back (m : Ms) (ps : Pcs) : Ms := { m with pcs := ps.app m.pcs, most := Nat.max m.most ((ps.app m.pcs).len + 1) }
/-- the clause of a handler for an operation -/
def Clz.find : Clz → Str → Option (Str × Str × Ex)
  | .nil, _ => none
  | .cons o x k g r, p => if o = p then some (x, k, g) else r.find p
def clsOf : Ex → Clz
  | .hd _ _ _ cs => cs
  | _ => .nil
/-- the pieces down to the one that answers, what is below, its bindings and its clause -/
def Pcs.answer : Pcs → Str → Option (Pcs × Pcs × Env × Str × Str × Ex)
  | .nil, _ => none
  | .cons e env fs r, o => match (clsOf e).find o with
    | some (x, k, g) => some (.cons e env fs .nil, r, env, x, k, g)
    | none => match r.answer o with
      | none => none
      | some (p, q, t) => some (.cons e env fs p, q, t)
end Bz


set_option Elab.async false
set_option linter.all false
set_option maxRecDepth 100000
set_option maxHeartbeats 4000000
namespace Bz
open PySem PySem.Spec L2 PyProof.Rows
/-! ### order of texts -/
theorem lt_tr : ∀ {a b c : List Nat}, ltCps b a = false → ltCps c b = false → ltCps c a = false
  | [], [], [], _, _ => rfl
  | [], [], _ :: _, _, h => by simp [ltCps] at h ⊢
  | [], _ :: _, [], _, h => by simp [ltCps] at h
  | [], _ :: _, _ :: _, _, _ => by simp [ltCps]
  | _ :: _, [], [], h, _ => by simp [ltCps] at h
  | _ :: _, [], _ :: _, h, _ => by simp [ltCps] at h
  | _ :: _, _ :: _, [], _, h => by simp [ltCps] at h
  | x :: xs, y :: ys, z :: zs, h, h' => by
    simp only [ltCps, Bool.or_eq_false_iff, Bool.and_eq_false_iff, decide_eq_false_iff_not, beq_eq_false_iff_ne] at h h' ⊢
    obtain ⟨h1, h2⟩ := h
    obtain ⟨h3, h4⟩ := h'
    refine ⟨by omega, ?_⟩
    by_cases e : z = x
    · right
      have e1 : y = x := by omega
      have e2 : z = y := by omega
      exact lt_tr (h2.resolve_left fun q => q e1) (h4.resolve_left fun q => q e2)
    · exact .inl e
theorem lt_anti : ∀ {a b : List Nat}, ltCps a b = false → ltCps b a = false → a = b
  | [], [], _, _ => rfl
  | [], _ :: _, h, _ => by simp [ltCps] at h
  | _ :: _, [], _, h => by simp [ltCps] at h
  | x :: xs, y :: ys, h, h' => by
    simp only [ltCps, Bool.or_eq_false_iff, Bool.and_eq_false_iff, decide_eq_false_iff_not, beq_eq_false_iff_ne] at h h'
    obtain ⟨h1, h2⟩ := h
    obtain ⟨h3, h4⟩ := h'
    have e : x = y := by omega
    rw [e, lt_anti (h2.resolve_left fun q => q e) (h4.resolve_left fun q => q e.symm)]
def leS (a b : Str) : Prop := ltCps b.cps.toList a.cps.toList = false
theorem leS_tr {a b c : Str} (h : leS a b) (h' : leS b c) : leS a c := lt_tr h h'
theorem leS_anti {a b : Str} (h : leS a b) (h' : leS b a) : a = b := by
  have e : a.cps.toList = b.cps.toList := lt_anti h' h
  cases a
  cases b
  have e2 := congrArg List.toArray e
  simpa using e2
theorem rising_pw : ∀ {l : List Str} {p : Str}, risingS p l = true → (p :: l).Pairwise leS
  | [], p, _ => by simp
  | x :: r, p, h => by
    unfold risingS at h
    rw [Bool.and_eq_true] at h
    have h1 : leS p x := by
      unfold leS
      simpa using h.1
    have ih := rising_pw h.2
    refine List.Pairwise.cons (fun y hy => ?_) ih
    rcases List.mem_cons.mp hy with e | e
    · rw [e]; exact h1
    · exact leS_tr h1 ((List.pairwise_cons.mp ih).1 y e)
theorem sorted_pw {l : List Str} (h : sortedS l = true) : l.Pairwise leS := by
  cases l with
  | nil => exact List.Pairwise.nil
  | cons x r => exact rising_pw h
theorem pw_uniq : ∀ {l m : List Str}, l.Pairwise leS → m.Pairwise leS → l.Nodup → m.Nodup → (∀ s, s ∈ l ↔ s ∈ m) → l = m
  | [], [], _, _, _, _, _ => rfl
  | [], y :: m, _, _, _, _, h => by have := (h y).mpr (List.mem_cons_self ..); cases this
  | x :: l, [], _, _, _, _, h => by have := (h x).mp (List.mem_cons_self ..); cases this
  | x :: l, y :: m, h1, h2, n1, n2, h => by
    have p1 := List.pairwise_cons.mp h1
    have p2 := List.pairwise_cons.mp h2
    have q1 := List.nodup_cons.mp n1
    have q2 := List.nodup_cons.mp n2
    have e : x = y := by
      rcases List.mem_cons.mp ((h x).mp (List.mem_cons_self ..)) with e | e
      · exact e
      · rcases List.mem_cons.mp ((h y).mpr (List.mem_cons_self ..)) with e' | e'
        · exact e'.symm
        · exact leS_anti (p1.1 y e') (p2.1 x e)
    subst e
    rw [pw_uniq p1.2 p2.2 q1.2 q2.2 fun s => ?_]
    constructor
    · intro hs
      rcases List.mem_cons.mp ((h s).mp (List.mem_cons_of_mem _ hs)) with e | e
      · subst e; exact absurd hs q1.1
      · exact e
    · intro hs
      rcases List.mem_cons.mp ((h s).mpr (List.mem_cons_of_mem _ hs)) with e | e
      · subst e; exact absurd hs q2.1
      · exact e
theorem inV_str (s : Str) : ∀ w : List Str, inV (.str s) (w.map V.str) = decide (s ∈ w)
  | [] => rfl
  | x :: r => by
    show (eqV (.str x) (.str s) || inV (.str s) (r.map V.str)) = _
    rw [inV_str s r]
    show ((x == s) || decide (s ∈ r)) = _
    by_cases e : x = s
    · subst e
      simp
    · have e1 : (x == s) = false := by simpa using e
      rw [e1, Bool.false_or]
      apply decide_eq_decide.mpr
      rw [List.mem_cons]
      constructor
      · exact .inr
      · rintro (q | q)
        · exact absurd q.symm e
        · exact q
theorem flat_str (w : List Str) : (w.map V.str).all flatV = true := by
  rw [List.all_eq_true]
  intro x hx
  obtain ⟨y, _, rfl⟩ := List.mem_map.mp hx
  rfl

theorem lt_asy : ∀ {a b : List Nat}, ltCps a b = true → ltCps b a = false
  | [], [], h => by simp [ltCps] at h
  | [], _ :: _, _ => by simp [ltCps]
  | _ :: _, [], h => by simp [ltCps] at h
  | x :: xs, y :: ys, h => by
    simp only [ltCps, Bool.or_eq_true, Bool.and_eq_true, decide_eq_true_eq, beq_iff_eq] at h
    simp only [ltCps, Bool.or_eq_false_iff, Bool.and_eq_false_iff, decide_eq_false_iff_not, beq_eq_false_iff_ne]
    rcases h with h | ⟨e, h⟩
    · exact ⟨by omega, .inl (by omega)⟩
    · exact ⟨by omega, .inr (lt_asy h)⟩
theorem insS_mem (x s : Str) : ∀ l : List Str, s ∈ insS x l ↔ s = x ∨ s ∈ l
  | [] => by simp [insS]
  | y :: r => by
    have ih := insS_mem x s r
    unfold insS
    split
    · rw [List.mem_cons, ih, List.mem_cons]
      constructor
      · rintro (h | h | h)
        · exact .inr (.inl h)
        · exact .inl h
        · exact .inr (.inr h)
      · rintro (h | h | h)
        · exact .inr (.inl h)
        · exact .inl h
        · exact .inr (.inr h)
    · rw [List.mem_cons]
theorem insS_pw (x : Str) : ∀ {l : List Str}, l.Pairwise leS → (insS x l).Pairwise leS
  | [], _ => by simp [insS]
  | y :: r, h => by
    obtain ⟨h1, h2⟩ := List.pairwise_cons.mp h
    unfold insS
    split
    · rename_i c
      refine List.pairwise_cons.mpr ⟨fun z hz => ?_, insS_pw x h2⟩
      rcases (insS_mem x z r).mp hz with e | e
      · rw [e]; exact lt_asy c
      · exact h1 z e
    · rename_i c
      have c : leS x y := by unfold leS; simpa using c
      refine List.pairwise_cons.mpr ⟨fun z hz => ?_, h⟩
      rcases List.mem_cons.mp hz with e | e
      · rw [e]; exact c
      · exact leS_tr c (h1 z e)
theorem insS_nd {x : Str} : ∀ {l : List Str}, x ∉ l → l.Nodup → (insS x l).Nodup
  | [], _, _ => by simp [insS]
  | y :: r, n, h => by
    obtain ⟨h1, h2⟩ := List.nodup_cons.mp h
    unfold insS
    split
    · refine List.nodup_cons.mpr ⟨fun m => ?_, insS_nd (fun m => n (List.mem_cons_of_mem _ m)) h2⟩
      rcases (insS_mem x y r).mp m with e | e
      · exact n (by rw [e]; exact List.mem_cons_self ..)
      · exact h1 e
    · exact List.nodup_cons.mpr ⟨n, h⟩
theorem sortS_mem (s : Str) : ∀ l : List Str, s ∈ sortS l ↔ s ∈ l
  | [] => Iff.rfl
  | x :: r => by
    show s ∈ insS x (sortS r) ↔ _
    rw [insS_mem, sortS_mem s r, List.mem_cons]
theorem sortS_pw : ∀ l : List Str, (sortS l).Pairwise leS
  | [] => List.Pairwise.nil
  | x :: r => insS_pw x (sortS_pw r)
theorem sortS_nd : ∀ {l : List Str}, l.Nodup → (sortS l).Nodup
  | [], _ => List.nodup_nil
  | x :: r, h => by
    obtain ⟨h1, h2⟩ := List.nodup_cons.mp h
    exact insS_nd (fun m => h1 ((sortS_mem x r).mp m)) (sortS_nd h2)
theorem sort_uniq {ys ks : List Str} (p : ys.Perm ks) (s : sortedS ys = true) (n : ks.Nodup) : ys = sortS ks :=
  pw_uniq (sorted_pw s) (sortS_pw ks) (p.nodup_iff.mpr n) (sortS_nd n) fun x => by rw [sortS_mem, p.mem_iff]
theorem ats_str {R : Hp} : ∀ {bs : List Str} {vs : List V}, Ats R (bs.map D.str) vs → vs = bs.map V.str
  | [], _, h => h
  | b :: bs, _, ⟨v, r, e, h, a⟩ => by rw [e, ats_str (bs := bs) a, show v = V.str b from h]; rfl
theorem str_ats {R : Hp} : ∀ (bs : List Str), Ats R (bs.map D.str) (bs.map V.str)
  | [] => rfl
  | b :: bs => ⟨_, _, rfl, rfl, str_ats bs⟩
/-- a dict whose keys are names and whose values are True -/
def nkK (ks : List Str) : List (Key × V) := ks.map fun x => ((Sum.inr x : Key), V.bl true)
theorem nkK_put (x : Str) (ks : List Str) : putK (nkK ks) (Sum.inr x : Key) (V.bl true) = nkK (addN x ks) := by
  have ea : ((nkK ks).any fun kv => decide (kv.1 = (Sum.inr x : Key))) = decide (x ∈ ks) := by
    unfold nkK
    rw [List.any_map]
    induction ks with
    | nil => rfl
    | cons y r ih =>
      rw [List.any_cons, ih]
      show (decide ((Sum.inr y : Key) = Sum.inr x) || decide (x ∈ r)) = _
      rw [← Bool.decide_or]
      apply decide_eq_decide.mpr
      rw [List.mem_cons]
      exact ⟨fun q => q.imp (fun e => (Sum.inr.inj e).symm) id, fun q => q.imp (fun e => by rw [e]) id⟩
  unfold putK addN
  rw [ea]
  by_cases c : x ∈ ks
  · rw [if_pos (decide_eq_true c), if_pos c]
    have : ∀ l : List Str, (nkK l).map (fun kv => if kv.1 = (Sum.inr x : Key) then (kv.1, V.bl true) else kv) = nkK l := fun l => by
      unfold nkK
      rw [List.map_map]
      refine List.map_congr_left fun y _ => ?_
      show (if (Sum.inr y : Key) = Sum.inr x then ((Sum.inr y : Key), V.bl true) else _) = _
      split <;> rfl
    exact this ks
  · rw [if_neg (by rw [decide_eq_false c]; exact Bool.false_ne_true), if_neg c]
    unfold nkK
    rw [List.map_append]
    rfl
end Bz


set_option Elab.async false
set_option linter.all false
set_option maxRecDepth 100000
set_option maxHeartbeats 4000000
namespace Rd
open PySem PySem.Spec L2 PyProof.Rows
section
variable {prog : Program} {w : World} {κ : Type} [DecidableEq κ] {kn : KeyKind prog w κ} {A : Around} {E : Value → Shared → Prop} {s : Shared}
/-- what is stored at a key of a table told by its pairs -/
theorem put_of {d : Addr} {ps : List (κ × Value)} {k : κ} {kv v : Value} {Q : Unit → Shared → Prop} (ik : kn.is k kv = true) (T : s.heap.DictOf kn d ps) (z : ps.length ≤ sizeLine)
    (q : ∀ h2, h2.DictOf kn d (stored ps k v) → Heap.SameBut d s.heap h2 → Q () { s with heap := h2 }) : wpAny (model prog w) A (dictPut d (kn.hash k) kv v) Q E s := by
  obtain ⟨o, ent, ep, t1, t2, t3, t4, t5, t6⟩ := T
  have ez : ent.size ≤ sizeLine := by
    have a1 := t5.length
    simp at a1
    omega
  have ei : ent.findIdx? (fun x => kn.is k x.key) = ps.findIdx? fun p => decide (p.1 = k) := by
    rw [← t5.findIdx k]
    obtain ⟨l⟩ := ent
    simp
  unfold dictPut
  refine wpAny_bind (wpAny_dictFind_of ik t1 t3 t4 ?_)
  cases e : ent.findIdx? fun x => kn.is k x.key with
  | some i =>
    have yes : (ps.any fun p => decide (p.1 = k)) = true := any_of_findIdx_some (ei ▸ e)
    refine wpAny_updateDict t1 t3 (q _ ⟨_, _, ep, Heap.get?_update_self _ t1 (Obj.isFreed_of_dict (Obj.data_mapDict t3 _)), t2.mapDict _, Obj.data_mapDict t3 _, t4.modify _ _, ?_, ?_⟩ (Heap.SameBut.update ..))
    · have el : ent.toList.findIdx? (fun x => kn.is k x.key) = some i := by
        rw [← e]
        obtain ⟨l⟩ := ent
        simp
      have m := t5.modify t6 el v
      rw [stored, if_pos yes]
      obtain ⟨l⟩ := ent
      simpa using m
    · rw [stored, if_pos yes, keys_map_store]
      exact t6
  | none =>
    have nk : k ∉ ps.map (·.1) := not_mem_of_findIdx_none (ei ▸ e)
    have no : ¬ (ps.any fun p => decide (p.1 = k)) = true := fun a => by
      obtain ⟨p, hp, hk⟩ := List.any_eq_true.mp a
      exact nk (List.mem_map.mpr ⟨p, hp, of_decide_eq_true hk⟩)
    refine wpAny_updateDictKeys (hz := ez) t1 t3 (q _ ⟨_, _, ep + 1, Heap.get?_update_self _ t1 (Obj.isFreed_of_dict (Obj.data_mapDictKeys t3 _)), t2.mapDictKeys _, Obj.data_mapDictKeys t3 _, t4.push ik _, ?_, ?_⟩ (Heap.SameBut.update ..))
    · have m := t5.append ik (kn.hash k) v
      rw [stored, if_neg no]
      obtain ⟨l⟩ := ent
      simpa using m
    · rw [stored, if_neg no, List.map_append]
      refine List.nodup_append.mpr ⟨t6, by simp, fun a ha b hb eab => nk ?_⟩
      rw [List.mem_singleton.mp hb] at eab
      rw [← show a = k from eab]
      exact ha
end
end Rd


set_option Elab.async false
set_option linter.all false
set_option maxRecDepth 100000
set_option maxHeartbeats 4000000
namespace Rd
open PySem PySem.Spec L2 PyProof.Rows
section
variable {prog : Program} {w : World} {A : Around} {E : Value → Shared → Prop} {s : Shared}
theorem noref {k : Key} {v : Value} (h : (mixKind prog w).is k v = true) : ∀ a, v ≠ .ref a := by
  intro a e
  subst e
  rcases keyIs_shape h with ⟨_, _, _, e⟩ | ⟨_, _, _, e⟩ <;> cases e
/-- a plain table is merged into another one -/
theorem merge_of {d o : Addr} {ps qs : List (Key × Value)} {Q : Unit → Shared → Prop} (ne : d ≠ o) (ns : (o == sysModules) = false) (Td : s.heap.DictOf (mixKind prog w) d ps) (To : s.heap.DictOf (mixKind prog w) o qs) (z : ps.length + qs.length ≤ sizeLine)
    (q : ∀ h2, h2.DictOf (mixKind prog w) d (merged ps qs) → Heap.SameBut d s.heap h2 → Q () { s with heap := h2 }) : wpAny (model prog w) A (mergeMapping d (.ref o) false) Q E s := by
  obtain ⟨od, ed, pd, d1, d2, d3, d4, d5, d6⟩ := id Td
  obtain ⟨oo, eo, po, o1, o2, o3, o4, o5, o6⟩ := id To
  have lo : qs.length = eo.size := by rw [← o5.length]; simp
  unfold mergeMapping
  refine wpAny_bind (wpAny_isInstance To.typeIs isSubtype_dict_dict ?_)
  simp only [if_true]
  refine wpAny_bind (wpAny_specialOf To.typeIs PySem.F.slot_dict_iter.lookup ?_)
  simp only [beq_self_eq_true, pure_bind, ns, Bool.false_eq_true, if_false]
  refine wpAny_bind (wpAny_dictEntries d1 d3 ?_)
  have rest : wpAny (model prog w) A (do
      let l ← dictEntries o
      let ep ← dictEpoch o
      forIn (List.range l.size) PUnit.unit fun i (_ : PUnit) => (do
        let l2 ← dictEntries o
        match l2[i]? with
        | some x => do
          holding [x.key, x.val] (dictPut d x.hash x.key x.val)
          let ep2 ← dictEpoch o
          if (ep2 != ep) = true then do
            (unsupported "dict.changed-during-merge" : Sem PUnit)
            pure (ForInStep.yield PUnit.unit)
          else pure (ForInStep.yield PUnit.unit)
        | _ => do
          (unsupported "dict.changed-during-merge" : Sem PUnit)
          pure (ForInStep.yield PUnit.unit) : Sem (ForInStep PUnit))
      pure ()) Q E s := by
    refine wpAny_bind (wpAny_dictEntries o1 o3 (wpAny_bind (wpAny_dictEpoch o1 o3 (wpAny_bind ?_))))
    refine wpAny_forIn_list _ (fun l _ s2 => ∃ h2 i, s2 = { s with heap := h2 } ∧ l = (List.range eo.size).drop i ∧ i ≤ eo.size ∧ h2.DictOf (mixKind prog w) d (merged ps (qs.take i)) ∧ h2.get? o = some oo ∧ Heap.SameBut d s.heap h2) _ ?_ ?_ _ _
      ⟨s.heap, 0, rfl, rfl, Nat.zero_le _, Td, o1, Heap.SameBut.refl _ _⟩
    · rintro x l b s2 ⟨h2, i, rfl, el, hi, T2, O2, S2⟩
      have hlt : i < eo.size := by
        rcases Nat.lt_or_ge i eo.size with a | a
        · exact a
        · rw [List.drop_eq_nil_of_le (by rw [List.length_range]; exact a)] at el
          cases el
      rw [List.drop_eq_getElem_cons (by rw [List.length_range]; exact hlt)] at el
      injection el with e1 e2
      rw [List.getElem_range] at e1
      subst e1
      refine wpAny_bind (wpAny_dictEntries O2 o3 ?_)
      rw [Array.getElem?_eq_getElem hlt]
      have hq : qs[x]? = some (qs[x]'(by rw [lo]; exact hlt)) := List.getElem?_eq_getElem _
      generalize qs[x]'(by rw [lo]; exact hlt) = kv at hq
      obtain ⟨ky, vl⟩ := kv
      obtain ⟨ik, iv⟩ := o5.get? (e := eo[x]) (by simp [hlt]) hq
      obtain ⟨k2, ik2, hh⟩ := o4 eo[x] (Array.getElem_mem hlt)
      have ek : k2 = ky := (mixKind prog w).inj _ _ _ ik2 ik
      subst ek
      show wpAny _ _ (holding [eo[x].key, eo[x].val] (dictPut d eo[x].hash eo[x].key eo[x].val) >>= _) _ _ _
      rw [hh, iv]
      refine wpAny_bind (wpAny_holding (put_of ik T2 (by
        have a1 := merged_length_le ps (qs.take x)
        have a2 : (qs.take x).length ≤ qs.length := by rw [List.length_take]; omega
        omega) fun h3 T3 S3 => ?_))
      have O3 : h3.get? o = some oo := (S3.2 o (Ne.symm ne)).trans O2
      refine wpAny_bind (wpAny_dictEpoch O3 o3 ?_)
      rw [if_neg (by simp)]
      exact wpAny_pure ⟨h3, x + 1, rfl, e2, hlt, by rw [merged_take_succ ps qs x (k2, vl) hq]; exact T3, O3, S2.trans S3⟩
    · rintro b s2 ⟨h2, i, rfl, el, hi, T2, O2, S2⟩
      have hin : i = eo.size := by
        rcases Nat.lt_or_ge i eo.size with a | a
        · rw [List.drop_eq_getElem_cons (by rw [List.length_range]; exact a)] at el
          cases el
        · omega
      rw [hin, ← lo, List.take_length] at T2
      exact wpAny_pure (q h2 T2 S2)
  by_cases he : ed.isEmpty = true
  · rw [if_pos he]
    refine wpAny_bind (wpAny_dictEntries o1 o3 (wpAny_bind ?_))
    refine wpAny_forIn_array' _ (fun l _ s2 => s2 = s ∧ ∀ x ∈ l, x ∈ eo) _ ?_ ?_ _ _ ⟨rfl, fun x hx => Array.mem_toList_iff.mp hx⟩
    · rintro x l b s2 ⟨es, hl⟩
      subst es
      obtain ⟨ky, ik, _⟩ := o4 x (hl x (List.mem_cons_self ..))
      have nr := noref ik
      cases ex : x.key with
      | ref a => exact absurd ex (nr a)
      | _ => exact wpAny_pure ⟨rfl, fun y hy => hl y (List.mem_cons_of_mem _ hy)⟩
    · rintro b s2 ⟨es, _⟩
      subst es
      exact rest
  · rw [if_neg he]
    exact rest
end
end Rd


set_option Elab.async false
set_option linter.all false
set_option maxRecDepth 100000
set_option maxHeartbeats 4000000
namespace Rd
open PySem PySem.Spec L2 PyProof.Rows
section
variable {prog : Program} {w : World} {A : Around} {E : Value → Shared → Prop} {s : Shared}
theorem gather {d : Addr} (f : (Option (Sem Value) × Sem Value) → (Option Addr × List (Sem Value × Sem Value)) → Sem (ForInStep (Option Addr × List (Sem Value × Sem Value))))
    (hf : ∀ (p : Sem Value × Sem Value) (r : List (Sem Value × Sem Value)), r.length + 1 < 17 → f (some p.1, p.2) (some d, r) = pure (.yield (some d, r ++ [p]))) :
    ∀ (l r : List (Sem Value × Sem Value)), r.length + l.length < 17 → forIn (l.map fun p => (some p.1, p.2)) (some d, r) f = pure (some d, r ++ l)
  | [], r, _ => by simp
  | p :: l, r, h => by
    rw [List.length_cons] at h
    rw [List.map_cons, List.forIn_cons, hf p r (by omega), pure_bind]
    show forIn (l.map fun p => (some p.1, p.2)) (some d, r ++ [p]) f = _
    rw [gather f hf l (r ++ [p]) (by rw [List.length_append]; simp; omega), List.append_assoc]
    rfl
theorem disp_walk {v0 : Sem Value} {ps : List (Sem Value × Sem Value)} {Q : Value → Shared → Prop} (h0 : ps ≠ []) (hl : ps.length < 17)
    (h : wpAny (model prog w) A v0 (fun m s1 => wpAny (model prog w) A (mergeMapping s.heap.objs.size m false) (fun _ s2 => wpAny (model prog w) A (subDict ps) (fun e s3 => wpAny (model prog w) A (mergeMapping s.heap.objs.size (.ref e) false) (fun _ s4 => Q (.ref s.heap.objs.size) s4) (fun _ _ => False) s3) E s2) (fun _ _ => False) s1) E
      { s with heap := s.heap.push { cls := .type "dict", data := .dict #[] } }) :
    wpAny (model prog w) A (dictDisplay ((none, v0) :: ps.map fun p => (some p.1, p.2))) Q E s := by
  unfold dictDisplay
  dsimp only
  rw [List.forIn_cons]
  simp only [List.isEmpty_nil, if_true, pure_bind, bind_assoc]
  refine wpAny_bind (wpAny_alloc ?_)
  refine wpAny_bind (wpAny_holding (wpAny_mono h (fun m s1 h1 => ?_) fun _ _ e => e))
  refine wpAny_bind (wpAny_onRaise (wpAny_tryCatch (wpAny_onRaise (wpAny_holding (wpAny_mono h1 (fun _ s2 h2 => ?_) fun _ _ f => f.elim)))))
  rw [gather _ (fun p r hr => by
    have e : ((r ++ [(p.1, p.2)]).length == 17) = false := by
      rw [List.length_append]
      simp
      omega
    simp only [e, Bool.false_eq_true, if_false]) ps [] (by simpa using hl)]
  have e1 : ps.isEmpty = false := by
    cases ps with
    | nil => exact absurd rfl h0
    | cons a b => rfl
  simp only [List.nil_append, e1, pure_bind, Bool.false_eq_true, if_false, bind_assoc]
  refine wpAny_bind (wpAny_holding (wpAny_mono h2 (fun e s3 h3 => ?_) fun _ _ f => f))
  exact wpAny_bind (wpAny_onRaise (wpAny_holding (wpAny_mono h3 (fun _ s4 h4 => wpAny_pure h4) fun _ _ f => f.elim)))
end
/-! ### {**x, k: v, ..} over the layer -/
def tDStar (tx : TE) (trs : List (TE × TE)) : TE := fun σ H Q => ∀ d, H d = none → tx σ (upd H d (.dK [])) fun x H1 => ∃ a kvs, x = .ref a ∧ H1 a = some (.dK kvs) ∧ a ≠ d ∧ H1 d = some (.dK []) ∧ kvs.length ≤ 1000 ∧
  ∀ e, (upd H1 d (.dK kvs)) e = none → tPairs trs σ (upd (upd H1 d (.dK kvs)) e (.dK [])) fun ps H2 => H2 e = some (.dK []) ∧ H2 d = some (.dK kvs) ∧ ∃ more : List (Key × V), ps = more.map (fun kv => (kV kv.1, kv.2)) ∧ more.length ≤ 15 ∧
    Q (.ref d) (upd (upd H2 e (.dK (mergeK [] more))) d (.dK (mergeK kvs (mergeK [] more))))
theorem merge_nodup {kvs : List (Key × V)} {vs : List (Key × Value)} (r : KV kvs vs) (n : (vs.map (·.1)).Nodup) : mergeK [] kvs = kvs := by
  have hk : kvs.map (·.1) = vs.map (·.1) := by
    unfold KV at r
    induction r with
    | nil => rfl
    | @cons a b _ _ h _ ih =>
      rw [List.map_cons, List.map_cons, h.1, ih (List.nodup_cons.mp (by simpa using n)).2]
  have key : ∀ (l acc : List (Key × V)), ((acc ++ l).map (·.1)).Nodup → mergeK acc l = acc ++ l := fun l => by
    induction l with
    | nil => intro acc _; show acc = acc ++ []; rw [List.append_nil]
    | cons p l ih =>
      intro acc hn
      have hnew : valV acc p.1 = none := by
        cases e : valV acc p.1 with
        | none => rfl
        | some v =>
          have hm : p.1 ∈ acc.map (·.1) := valV_in e
          rw [List.map_append, List.map_cons] at hn
          exact absurd rfl ((List.nodup_append.mp hn).2.2 _ hm _ (List.mem_cons_self ..))
      show mergeK (putK acc p.1 p.2) l = _
      rw [putK_new _ hnew, ih _ (by rw [List.append_assoc]; exact hn), List.append_assoc]
      rfl
  have := key kvs [] (by rw [List.nil_append, hk]; exact n)
  rw [this, List.nil_append]
theorem pe_dstar {X : Cx} {pos : Pos} {xe : Expr} {tx : TE} {keys : List (Option Expr)} {values : List Expr} {trs : List (TE × TE)} (hx : PE X xe tx) (hp : PPs X pos keys values trs) (hall : keys.all (·.isSome) = true) (hl : keys.length = values.length) (h0 : keys ≠ []) (h15 : keys.length ≤ 15) :
    PE X (.Dict (none :: keys) (xe :: values) pos) (tDStar tx trs) := by
  refine ⟨fun pins s σ H Q I q => ?_⟩
  have hn := I.hok.fresh (Nat.le_refl s.heap.objs.size)
  have I1 := I.laid (a := s.heap.objs.size) (o := .dK []) (h' := s.heap.push { cls := .type "dict", data := .dict #[] }) (t' := s.toks) (fun _ _ z => Heap.get?_push_of_some _ z) (Nat.le_refl _) (dk_empty s.heap I.big)
  have elen := pairTrees_length keys values X.env pos hall hl
  rw [PySem.arm_eval_Dict]
  have esh : (evalEachOpt (none :: keys) X.env).zip ((evalEach (xe :: values) X.env).map fun v => do let x ← v; standAt pos; pure x) =
      (none, do let x ← eval xe X.env; standAt pos; pure x) :: (pairTrees keys values X.env pos).map fun p => (some p.1, p.2) := by
    rw [← zip_pairTrees keys values X.env pos hall hl]
    rfl
  rw [esh]
  refine wpAny_bind (wpAny_standAt (disp_walk (by
    intro e
    rw [e] at elen
    exact h0 (List.length_eq_zero_iff.mp elen.symm)) (by omega) ?_))
  refine wpAny_bind (thn (hx.run pins _ σ _ _ I1 (q _ hn)) fun u s1 ⟨x, H1, I2, rx, a, kvs, ex, ha, hne, hd, hk, q1⟩ => ?_)
  subst ex
  obtain rfl : u = Value.ref a := rx
  refine wpAny_bind (wpAny_standAt (wpAny_pure ?_))
  obtain ⟨_, zd, vd, rd, Td⟩ := dk_of I2.hok hd
  cases rd
  obtain ⟨_, za, va, ra, Ta⟩ := dk_of I2.hok ha
  have la : va.length = kvs.length := (Paired.length ra).symm
  refine merge_of (Ne.symm hne) za Td Ta (by rw [la]; exact Nat.le_of_lt (small1000 (by rw [List.length_nil]; omega))) fun h2 T2 S2 => ?_
  have nva : (va.map (·.1)).Nodup := by
    obtain ⟨_, _, _, _, _, _, _, _, n⟩ := Ta
    exact n
  have em : mergeK [] kvs = kvs := merge_nodup ra nva
  have r2 : KV (mergeK [] kvs) (merged [] va) := ra.merge .nil
  rw [em] at r2
  have I3 := d_write (t' := s1.toks) I2 (by rw [hd]; exact True.intro) S2 (let ⟨o, _, _, e, _⟩ := T2; ⟨o, e⟩) (dk_new (Nat.le_of_lt (small1000 hk)) zd r2 T2)
  have he := I3.hok.fresh (Nat.le_refl h2.objs.size)
  have I4 := I3.laid (a := h2.objs.size) (o := .dK []) (h' := h2.push { cls := .type "dict", data := .dict #[] }) (t' := s1.toks) (fun _ _ z => Heap.get?_push_of_some _ z) (Nat.le_refl _) (dk_empty h2 I3.big)
  refine wpAny_subDict (knd := mixKind X.prog X.w) (by omega) (thn (hp.run pins _ σ _ _ I4 (q1 _ he)) fun ws s5 ⟨ps, H5, I5, rel, e5, d5, more, ep, lk, q5⟩ => ?_)
  subst ep
  obtain ⟨rs, c, rk⟩ := carries_of (P := X.prog) (w := X.w) rel
  obtain ⟨_, ze, ve, re, Te⟩ := dk_of I5.hok e5
  cases re
  refine ⟨rs, c, Te, fun h6 T6 S6 => ?_⟩
  have lm : (mergeK [] more).length ≤ more.length := by
    have := length_mergeK more []
    rw [List.length_nil, Nat.zero_add] at this
    exact this
  have I6 := d_write (t' := s5.toks + ws.length) I5 (by rw [e5]; exact True.intro) S6 (let ⟨o, _, _, e, _⟩ := T6; ⟨o, e⟩) (dk_new (Nat.le_of_lt (small1000 (by omega))) ze (rk.merge .nil) T6)
  have hde : s.heap.objs.size ≠ h2.objs.size := fun e => by
    rw [← e] at he
    rw [upd_same] at he
    cases he
  have d6 : (upd H5 h2.objs.size (.dK (mergeK [] more))) s.heap.objs.size = some (.dK kvs) := by rw [upd_ne hde]; exact d5
  have e6 : (upd H5 h2.objs.size (.dK (mergeK [] more))) h2.objs.size = some (.dK (mergeK [] more)) := upd_same
  obtain ⟨_, zd6, vd6, rd6, Td6⟩ := dk_of I6.hok d6
  obtain ⟨_, ze6, ve6, re6, Te6⟩ := dk_of I6.hok e6
  have l1 : vd6.length = kvs.length := (Paired.length rd6).symm
  have l2 : ve6.length = (mergeK [] more).length := (Paired.length re6).symm
  have l3 : kvs.length + (mergeK [] more).length ≤ sizeLine := by
    have : sizeLine = 16777216 := by decide
    omega
  refine merge_of hde ze6 Td6 Te6 (by rw [l1, l2]; exact l3) fun h7 T7 S7 => ?_
  refine ⟨.ref s.heap.objs.size, _, ?_, rfl, q5⟩
  exact d_write (t' := s5.toks + ws.length) I6 (by rw [d6]; exact True.intro) S7 (let ⟨o, _, _, e, _⟩ := T7; ⟨o, e⟩) (dk_new (by
    have := length_mergeK (mergeK [] more) kvs
    omega) zd6 (re6.merge rd6) T7)
end Rd


set_option Elab.async false
set_option linter.all false
set_option maxRecDepth 100000
set_option maxHeartbeats 4000000
namespace Bz
open PySem PySem.Spec L2 PyProof.Rows
theorem mv_freeze {F : Addr → Prop} {R H R' H' : Hp} {d : Addr} {o : HO} (m : Mv F R H R' H') (h : H' d = some o) (r : R' d = none) (n : H d = none) : Mv F R H (upd R' d o) H' :=
  ⟨m.keep, m.dom, m.up.trans (same_new r), fun b z e => by
    by_cases eb : b = d
    · subst eb
      rw [upd_same] at e
      rw [h]
      exact e
    · rw [upd_ne eb] at e
      exact m.sub b z e, fun b z e => by
    by_cases eb : b = d
    · subst eb
      exact .inr n
    · rw [upd_ne eb] at e
      exact m.new b z e⟩
/-! ### dicts with text keys -/
theorem kz_cons (x : Str) (ks : List Str) (v : V) (vs : List V) : kz (x :: ks) (v :: vs) = ((Sum.inr x : Key), v) :: kz ks vs := rfl
theorem putK_neg {κ : Type} [DecidableEq κ] {p : κ × V} {r : List (κ × V)} {k : κ} {v : V} (h : p.1 ≠ k) : putK (p :: r) k v = p :: putK r k v := by
  unfold putK
  rw [List.any_cons, decide_eq_false h, Bool.false_or]
  split
  · rw [List.map_cons, if_neg h]
  · rfl
theorem putK_pos {κ : Type} [DecidableEq κ] {p : κ × V} {r : List (κ × V)} {k : κ} {v : V} (h : p.1 = k) (n : ∀ q ∈ r, q.1 ≠ k) : putK (p :: r) k v = (p.1, v) :: r := by
  unfold putK
  rw [List.any_cons, decide_eq_true h, Bool.true_or, if_pos rfl, List.map_cons, if_pos h]
  congr 1
  have : r.map (fun kv => if kv.1 = k then (kv.1, v) else kv) = r.map id := List.map_congr_left fun q hq => if_neg (n q hq)
  rw [this, List.map_id]
theorem kz_mem {ks : List Str} {vs : List V} {q : Key × V} (h : q ∈ kz ks vs) : ∃ x, x ∈ ks ∧ q.1 = Sum.inr x := by
  unfold kz at h
  obtain ⟨p, hp, e⟩ := List.mem_map.mp h
  exact ⟨p.1, (List.of_mem_zip hp).1, by rw [← e]⟩
theorem kz_len {ks : List Str} {vs : List V} (h : ks.length = vs.length) : (kz ks vs).length = ks.length := by
  unfold kz
  rw [List.length_map, List.length_zip, h]
  exact Nat.min_self _
theorem Env.put_keys (x : Str) (v : Val) : ∀ e : Env, (e.put x v).keys = if x ∈ e.keys then e.keys else e.keys ++ [x]
  | .nil => by simp [Env.put, Env.keys]
  | .cons y w r => by
    have ih := Env.put_keys x v r
    unfold Env.put
    by_cases c : y = x
    · rw [if_pos c]
      subst c
      show y :: r.keys = if y ∈ y :: r.keys then y :: r.keys else _
      rw [if_pos (List.mem_cons_self ..)]
    · rw [if_neg c]
      show y :: (r.put x v).keys = if x ∈ y :: r.keys then y :: r.keys else y :: r.keys ++ [x]
      rw [ih]
      by_cases m : x ∈ r.keys
      · rw [if_pos m, if_pos (List.mem_cons_of_mem _ m)]
      · rw [if_neg m, if_neg fun h => (List.mem_cons.mp h).elim (fun e => c e.symm) m]
        rfl
theorem Env.put_nd {x : Str} {v : Val} {e : Env} (h : e.keys.Nodup) : (e.put x v).keys.Nodup := by
  rw [Env.put_keys]
  split
  · exact h
  · rename_i n; exact nd_snoc h n
theorem Env.put_len (x : Str) (v : Val) (e : Env) : (e.put x v).len ≤ e.len + 1 := by
  rw [← Env.len_keys, Env.put_keys, ← Env.len_keys]
  split
  · omega
  · rw [List.length_append]; exact Nat.le_refl _
theorem env_put {R : Hp} {x : Str} {u : Val} {v : V} (a : At R u.d v) : ∀ {e : Env} {vs : List V}, e.keys.Nodup → Ats R e.ds vs → ∃ ws, putK (kz e.keys vs) (Sum.inr x : Key) v = kz (e.put x u).keys ws ∧ Ats R (e.put x u).ds ws
  | .nil, vs, _, h => by
    rw [show vs = [] from h]
    exact ⟨[v], rfl, v, [], rfl, a, rfl⟩
  | .cons y w r, vs, n, h => by
    obtain ⟨z, rs, rfl, hz, hr⟩ := h
    obtain ⟨n1, n2⟩ := List.nodup_cons.mp n
    show ∃ ws, putK (((Sum.inr y : Key), z) :: kz r.keys rs) (Sum.inr x : Key) v = _ ∧ _
    unfold Env.put
    by_cases c : y = x
    · rw [if_pos c]
      subst c
      refine ⟨v :: rs, ?_, v, rs, rfl, a, hr⟩
      rw [putK_pos rfl fun q hq => by
        obtain ⟨x, hx, e⟩ := kz_mem hq
        rw [e]
        exact fun e => n1 (by rw [← Sum.inr.inj e]; exact hx)]
      rfl
    · rw [if_neg c]
      obtain ⟨ws, e1, e2⟩ := env_put a (e := r) n2 hr
      refine ⟨z :: ws, ?_, z, ws, rfl, hz, e2⟩
      rw [putK_neg fun e => c (Sum.inr.inj e), e1]
      rfl
theorem env_get {R : Hp} {x : Str} {u : Val} : ∀ {e : Env} {vs : List V}, e.get x = some u → Ats R e.ds vs → ∃ v, valV (kz e.keys vs) (Sum.inr x : Key) = some v ∧ At R u.d v
  | .nil, _, h, _ => by cases h
  | .cons y w r, vs, h, a => by
    obtain ⟨z, rs, rfl, hz, hr⟩ := a
    unfold Env.get at h
    show ∃ v, valV (((Sum.inr y : Key), z) :: kz r.keys rs) (Sum.inr x : Key) = some v ∧ _
    by_cases c : y = x
    · rw [if_pos c] at h
      cases h
      exact ⟨z, valV_pos (p := ((Sum.inr y : Key), z)) (by rw [c]), hz⟩
    · rw [if_neg c] at h
      obtain ⟨v, e1, e2⟩ := env_get (e := r) h hr
      exact ⟨v, by rw [valV_neg (p := ((Sum.inr y : Key), z)) fun e => c (Sum.inr.inj e)]; exact e1, e2⟩
theorem merge1 {kvs : List (Key × V)} {k : Key} {v : V} : mergeK kvs (mergeK [] [(k, v)]) = putK kvs k v := rfl
theorem putK_twice {kvs : List (Key × V)} {k : Key} {v u : V} : putK (putK kvs k v) k u = putK kvs k u := by
  have hm : ∀ l : List (Key × V), (l.map fun kv => if kv.1 = k then (kv.1, v) else kv).map (fun kv => if kv.1 = k then (kv.1, u) else kv) = l.map fun kv => if kv.1 = k then (kv.1, u) else kv := fun l => by
    rw [List.map_map]
    refine List.map_congr_left fun q _ => ?_
    show (if (if q.1 = k then (q.1, v) else q).1 = k then ((if q.1 = k then (q.1, v) else q).1, u) else (if q.1 = k then (q.1, v) else q)) = _
    by_cases c : q.1 = k
    · rw [if_pos c, if_pos c, if_pos c]
    · simp only [if_neg c]
  by_cases c : (kvs.any fun kv => decide (kv.1 = k)) = true
  · have e1 : putK kvs k v = kvs.map fun kv => if kv.1 = k then (kv.1, v) else kv := if_pos c
    have c2 : ((putK kvs k v).any fun kv => decide (kv.1 = k)) = true := by
      rw [e1, List.any_map]
      obtain ⟨q, hq, hk⟩ := List.any_eq_true.mp c
      refine List.any_eq_true.mpr ⟨q, hq, ?_⟩
      have hk := of_decide_eq_true hk
      show decide ((if q.1 = k then (q.1, v) else q).1 = k) = true
      rw [if_pos hk]
      exact decide_eq_true hk
    show (if ((putK kvs k v).any fun kv => decide (kv.1 = k)) = true then _ else _) = if (kvs.any fun kv => decide (kv.1 = k)) = true then _ else _
    rw [if_pos c2, if_pos c, e1, hm]
  · have e1 : putK kvs k v = kvs ++ [(k, v)] := if_neg c
    have c2 : ((putK kvs k v).any fun kv => decide (kv.1 = k)) = true := by
      rw [e1, List.any_append]
      simp
    have c3 : ∀ q ∈ kvs, q.1 ≠ k := fun q hq e => c (List.any_eq_true.mpr ⟨q, hq, decide_eq_true e⟩)
    show (if ((putK kvs k v).any fun kv => decide (kv.1 = k)) = true then _ else _) = if (kvs.any fun kv => decide (kv.1 = k)) = true then _ else _
    rw [if_pos c2, if_neg c, e1, List.map_append]
    congr 1
    · have : kvs.map (fun kv => if kv.1 = k then (kv.1, u) else kv) = kvs.map id := List.map_congr_left fun q hq => if_neg (c3 q hq)
      rw [this, List.map_id]
    · show [if k = k then (k, u) else (k, v)] = [(k, u)]
      rw [if_pos rfl]
theorem merge2 {kvs : List (Key × V)} {k j : Key} {v u : V} : mergeK kvs (mergeK [] [(k, v), (j, u)]) = putK (putK kvs k v) j u := by
  show mergeK kvs (putK (putK [] k v) j u) = _
  by_cases c : k = j
  · subst c
    rw [putK_twice, putK_twice]
    rfl
  · show mergeK kvs (putK [(k, v)] j u) = _
    rw [putK_neg (show ((k, v) : Key × V).1 ≠ j from c)]
    rfl
/-- a dict comprehension over anything that walks -/
theorem dc_it {J : It} {n : Nat} {G : Hp → Prop} {Y : Nat → Hp → V → Hp → Prop} (w : Walk J n G Y) {g : TG} {tt : TT} {tk tv : TE} {vs : List Nat} {σ : L2.St} {H1 : Hp} {D : Addr} {Qd : Hp → Prop} (Pv : Nat → Hp → Prop) (h0 : Pv 0 (upd H1 D (.dK []))) (hG : ∀ i H, i ≤ n → Pv i H → G H)
    (hs : ∀ i x H H', i < n → Pv i H → Y i H x H' → g x (wipe σ vs) H' fun σ2 H2 => wipe σ2 vs = wipe σ vs ∧ tt σ2 H2 fun b H3 =>
      if b = true then tk σ2 H3 fun y H4 => tv σ2 H4 fun z H5 => ∃ kvs k, y = kV k ∧ H5 D = some (.dK kvs) ∧ kvs.length < sizeLine ∧ Pv (i + 1) (upd H5 D (.dK (putK kvs k z))) else Pv (i + 1) H3) (hd : ∀ H, Pv n H → Qd H) :
    ∃ W : Nat → Nat → Hp → Prop, (∃ m, W 0 m (upd H1 D (.dK []))) ∧ ∀ i m H, W i m H →
      (J.stop i H ∧ Qd H) ∨ (J.go i H ∧ ∃ Nx : Hp → Prop, (∀ H', Nx H' → ∃ m', m' < m ∧ W (i + 1) m' H') ∧ ∀ x H', J.yld i H x H' → g x (wipe σ vs) H' fun σ2 H2 => wipe σ2 vs = wipe σ vs ∧ tt σ2 H2 fun b H3 =>
        if b = true then tk σ2 H3 fun y H4 => tv σ2 H4 fun z H5 => ∃ kvs k, y = kV k ∧ H5 D = some (.dK kvs) ∧ kvs.length < sizeLine ∧ Nx (upd H5 D (.dK (putK kvs k z))) else Nx H3) := by
  refine ⟨fun i m H => m + i = n ∧ Pv i H, ⟨n, rfl, h0⟩, fun i m H ⟨hm, p⟩ => ?_⟩
  cases m with
  | zero =>
    obtain rfl : i = n := by omega
    exact .inl ⟨w.stops H (hG _ H (Nat.le_refl _) p), hd H p⟩
  | succ m =>
    have lt : i < n := by omega
    have gg := hG i H (Nat.le_of_lt lt) p
    exact .inr ⟨w.goes i H lt gg, Pv (i + 1), fun H' p' => ⟨m, Nat.lt_succ_self _, by omega, p'⟩, fun x H' y => hs i x H H' lt p (w.yields i H x H' lt gg y)⟩
/-- the bindings of some names -/
def Env.pick (e : Env) : List Str → Option Env
  | [] => some .nil
  | x :: r => match e.get x, e.pick r with
    | some v, some t => some (.cons x v t)
    | _, _ => none
end Bz


set_option Elab.async false
set_option linter.all false
set_option maxRecDepth 100000
set_option maxHeartbeats 4000000
namespace Bz
open PySem PySem.Spec L2 PyProof.Rows
def topS (i : Nat) : Stmt := PySem.Challenge.pw_askedfor_k25_answers_at_once.main.body.getD i (.Pass ⟨0, 0, 0, 0⟩)
/-- a def that is called by its name -/
structure Fn (P : Program) (w : World) (K : PySem.W.Frag) (mg : Str → Option Value) (base : Heap) (X : CXT) (k : Nat) (x : Str) (ps : List Str) (sp : Sp) (f : Addr) (fd : FuncData) : Prop where
  ok : FnOk P w K mg base X k f fd ps sp
  g : mg x = some (.ref f)
  kp : PySem.W.keepIn K (.ref f) = true
  b : Binds K fd ps []
theorem Fn.up {P : Program} {w : World} {K : PySem.W.Frag} {mg : Str → Option Value} {base : Heap} {X : CXT} {j k : Nat} {x : Str} {ps : List Str} {sp : Sp} {f : Addr} {fd : FuncData} (h : Fn P w K mg base X j x ps sp f fd) (l : j ≤ k) : Fn P w K mg base X k x ps sp f fd := ⟨h.ok.mono l, h.g, h.kp, h.b⟩
theorem ifT {b : Bool} {A B : Prop} (h : b = true) (z : A) : if b = true then A else B := by
  rw [if_pos h]
  exact z
theorem ifF {b : Bool} {A B : Prop} (h : b = false) (z : B) : if b = true then A else B := by
  rw [h]
  exact iteF z
theorem isF {a b : Str} (h : a = b → False) {A B : Prop} (z : B) : if decide (V.str a = V.str b) = true then A else B := by
  rw [if_neg fun e => h (V.str.inj (of_decide_eq_true e))]
  exact z
/-- what is known of a heap under a still part, when a mutable thing is looked at -/
theorem put_get {α : Type} {l : List α} {x : α} (h : l ≠ []) : ∃ p y, l = p ++ [y] := ⟨l.dropLast, l.getLast h, (List.dropLast_concat_getLast h).symm⟩
theorem atI_lastA {α : Type} {l : List α} {x : α} : atI (l ++ [x]) (-1) = some x := atI_last l x
theorem ixN_last {n : Nat} (h : 0 < n) : ixN n (-1) = some (n - 1) := by
  unfold ixN
  rw [if_neg (by decide), if_pos (by omega)]
  congr 1
  omega
theorem Ats.last {R : Hp} {l : List D} {d : D} {vs : List V} (h : Ats R (l ++ [d]) vs) : ∃ p v, vs = p ++ [v] ∧ Ats R l p ∧ At R d v := by
  obtain ⟨a, b, e, h1, v, r, e2, h2, e3⟩ := h.split
  exact ⟨a, v, by rw [e, e2, e3], h1, h2⟩
theorem cut_from {xs : List V} {i : Nat} (h : i ≤ xs.length) : cutV xs (some (i : Int)) none = xs.drop i := by
  unfold cutV
  rw [show HT.sIx xs.length 0 (some (i : Int)) = min i xs.length from HT.sIx_nat xs.length _ i, Nat.min_eq_left h, HT.sIx_none]
  rw [List.take_of_length_le (by rw [List.length_drop]; exact Nat.le_refl _)]
theorem Ats.mem {R : Hp} {l : List D} {vs : List V} {j : Nat} {v : V} (h : Ats R l vs) (hj : vs[j]? = some v) : ∃ d, l[j]? = some d ∧ At R d v := by
  have hl := h.length
  have lt : j < l.length := by rw [← hl]; exact (List.getElem?_eq_some_iff.mp hj).1
  obtain ⟨v', e, a⟩ := h.get (List.getElem?_eq_getElem lt)
  rw [hj] at e
  cases e
  exact ⟨_, List.getElem?_eq_getElem lt, a⟩
theorem Ats.snoc {R : Hp} {l : List D} {d : D} {p : List V} {v : V} (h : Ats R l p) (h2 : At R d v) : Ats R (l ++ [d]) (p ++ [v]) := h.append (.one h2)
/-! ### what a run's stack has, as made data -/
theorem upd_twice {H : Hp} {a : Addr} {o u : HO} : upd (upd H a o) a u = upd H a u := by
  funext x
  by_cases e : x = a
  · subst e
    rw [upd_same, upd_same]
  · rw [upd_ne e, upd_ne e, upd_ne e]
end Bz


set_option Elab.async false
set_option linter.all false
set_option maxRecDepth 100000
set_option maxHeartbeats 4000000
namespace Bz
open PySem PySem.Spec L2 PyProof.Rows
/-! ### parts -/
def fpTab : List (Str × Nat) := [("num", 2), ("flag", 2), ("unit", 1), ("name", 2), ("call", 1), ("fun", 2), ("rec", 3), ("let", 2), ("if", 1), ("pair", 1), ("fst", 1), ("snd", 1), ("op", 2), ("not", 1), ("print", 1), ("ask", 2), ("kept", 2), ("known", 2)]
structure FpTxt (K : PySem.W.Frag) (w : World) (mg : Str → Option Value) (p : Addr) : Prop where
  g : mg "FIRST_PART" = some (.ref p)
  d : ∀ x k, fpTab.lookup x = some k → KDct K w p x (.int (k : Nat))
abbrev Cl4 := D × D × D × D
def cls4 (cs : List Cl4) : List D := cs.map fun c => .tup [c.1, c.2.1, c.2.2.1, c.2.2.2]
def gs4 (cs : List Cl4) : List D := cs.map fun c => c.2.2.2
inductive PartsOf : D → List D → Prop where
  | a {tag : Str} {lead ps : List D} : tag ≠ "handle" → fpTab.lookup tag = some (lead.length + 1) → lead.length + ps.length ≤ 1000 → PartsOf (.tup (.str tag :: (lead ++ ps))) ps
  | h {e x f : D} {cs : List Cl4} : cs.length ≤ 1000 → PartsOf (.tup [.str "handle", e, .tup [x, f], .tup (cls4 cs)]) (e :: f :: gs4 cs)
def setG : List Cl4 → List D → List Cl4
  | [], _ => []
  | c :: r, [] => c :: setG r []
  | c :: r, g :: s => (c.1, c.2.1, c.2.2.1, g) :: setG r s
inductive WithP : D → List D → D → Prop where
  | a {tag : Str} {lead ps is : List D} : tag ≠ "handle" → fpTab.lookup tag = some (lead.length + 1) → lead.length + ps.length ≤ 1000 → is.length ≤ 1000 → WithP (.tup (.str tag :: (lead ++ ps))) is (.tup (.str tag :: (lead ++ is)))
  | h {e x f e' f' : D} {cs : List Cl4} {gs : List D} : cs.length ≤ 1000 → gs.length = cs.length → WithP (.tup [.str "handle", e, .tup [x, f], .tup (cls4 cs)]) (e' :: f' :: gs) (.tup [.str "handle", e', .tup [x, f'], .tup (cls4 (setG cs gs))])
theorem cut_to {xs : List V} {i : Nat} (h : i ≤ xs.length) : cutV xs none (some (i : Int)) = xs.take i := by
  unfold cutV
  rw [HT.sIx_none, show HT.sIx xs.length xs.length (some (i : Int)) = min i xs.length from HT.sIx_nat xs.length _ i, Nat.min_eq_left h]
  rfl
theorem sIx0 {n i : Nat} (h : i ≤ n) : HT.sIx n 0 (some (i : Int)) = i := by
  rw [show HT.sIx n 0 (some (i : Int)) = min i n from HT.sIx_nat n _ i, Nat.min_eq_left h]
theorem sIxn {n i : Nat} (h : i ≤ n) : HT.sIx n n (some (i : Int)) = i := by
  rw [show HT.sIx n n (some (i : Int)) = min i n from HT.sIx_nat n _ i, Nat.min_eq_left h]
theorem drop_lead {α : Type} {x : α} {l m : List α} : (x :: (l ++ m)).drop (l.length + 1) = m := by simp
theorem take_lead {α : Type} {x : α} {l m : List α} : (x :: (l ++ m)).take (l.length + 1) = x :: l := by simp
theorem big3 {n : Nat} (h : n ≤ 5000) : n ≤ sizeLine := Nat.le_trans h (by decide)
theorem cls4_get {cs : List Cl4} {i : Nat} {d : D} (h : (cls4 cs)[i]? = some d) : ∃ c, cs[i]? = some c ∧ d = .tup [c.1, c.2.1, c.2.2.1, c.2.2.2] := by
  unfold cls4 at h
  rw [List.getElem?_map] at h
  cases e : cs[i]? with
  | none => rw [e] at h; cases h
  | some c => rw [e] at h; exact ⟨c, rfl, (Option.some.inj h).symm⟩
theorem setG_len : ∀ (cs : List Cl4) (gs : List D), (setG cs gs).length = cs.length
  | [], _ => rfl
  | c :: r, [] => congrArg (· + 1) (setG_len r [])
  | c :: r, g :: s => congrArg (· + 1) (setG_len r s)
theorem setG_get : ∀ {cs : List Cl4} {gs : List D} {i : Nat} {c : Cl4} {g : D}, cs[i]? = some c → gs[i]? = some g → (setG cs gs)[i]? = some (c.1, c.2.1, c.2.2.1, g)
  | c :: r, g :: s, 0, c', g', h, k => by
    cases (show c = c' from Option.some.inj h)
    cases (show g = g' from Option.some.inj k)
    rfl
  | c :: r, g :: s, i + 1, c', g', h, k => setG_get (cs := r) (gs := s) (i := i) (by simpa using h) (by simpa using k)
  | [], _, _, _, _, h, _ => by simp at h
  | _ :: _, [], _, _, _, _, k => by simp at k
section
variable {P : Program} {w : World} {K : PySem.W.Frag} {mg : Str → Option Value} {base : Heap}
abbrev g_parts : Stmt := topS 2
abbrev n_parts : List Str := ["expression", "_", "inner", "returned", "clauses", "clause"]
abbrev p_parts : List Str := ["expression"]
theorem sc_parts : FnScope n_parts p_parts (defScope g_parts) := ⟨rfl, rfl, rfl, by decide +kernel, rfl, by decide +kernel, by decide +kernel⟩
def spParts : Sp := fun vs H Q _ => ∃ (R : Hp) (d : D) (ps : List D) (v : V), vs = [v] ∧ Same R H ∧ At R d v ∧ PartsOf d ps ∧ ∀ (R' H' : Hp) (u : V), Mv F0 R H R' H' → At R' (.lst ps) u → Q u H'
theorem ok_parts {f pF : Addr} {fd : FuncData} (F : Fun K "parts" "parts" g_parts f fd) (TF : FpTxt K w mg pF) (mli : mg "list" = none) : FnOk P w K mg base CX0 1 f fd p_parts spParts := by
  refine F.ok sc_parts (fun vs H Q E h => ?_) (fun cdv A outer st H vs Q E hr h => ?_)
  · obtain ⟨R, d, ps, v, rfl, _⟩ := h
    rfl
  · obtain ⟨R, d, ps, v, rfl, sub, hd, hp, q⟩ := h
    refine ⟨_, (pss_cons (ps_if (pt_cmpR op_eq (pe_ix ix_tup (pv 0) (pe_int) (fun _ _ => rfl)) (pe_str) (nomark _)) (pss_cons (ps_asg (pv 0) (pg_tup rfl (pgs_cons (pg_name (i := 1) sc_parts.nd rfl (Or.inl rfl)) (pgs_cons (pg_name (i := 2) sc_parts.nd rfl (Or.inl rfl)) (pgs_cons (pg_name (i := 3) sc_parts.nd rfl (Or.inl rfl)) (pgs_cons (pg_name (i := 4) sc_parts.nd rfl (Or.inl rfl)) pgs_nil))))))
      (pss_one (ps_ret (pe_lst (pa_cons (pv 2) (pa_cons (pe_ix ix_tup (pv 3) (pe_int) (fun _ _ => rfl)) (StX.pa_star (pe_lc (own := [("clause", 5)]) (g := gName 5) (tt := tYes) (te := tOp (rIxT K) (tVar 5) (tC (.int 3))) rfl sc_parts.nd (pi_tup (pv 4)) (blkOk_by (N := n_parts) (sc := defScope g_parts) (by decide +kernel)) (fun _ _ _ _ _ => pg_name (i := 5) sc_parts.nd rfl (Or.inl rfl)) (fun _ _ _ _ _ => pts_nil) (fun _ _ _ _ _ => pe_ix ix_tup (pv 5) pe_int (fun _ _ => rfl))) pa_nil))))))) pss_nil)
      (pss_one (ps_ret (pe_callTy call_list_of (by rfl) mli (by decide +kernel) (pa_cons (pe_slice sl_tup (pv 0) (po_some (pe_ix ix_kdict (pe_glob (v := .ref pF) rfl TF.g rfl) (pe_ix ix_tup (pv 0) (pe_int) (fun _ _ => rfl)) (fun _ _ => rfl))) po_none) pa_nil))))), ?_⟩
    cases hp with
    | @a tag lead _ hn hk big =>
      obtain ⟨pe, _, rfl, he, _, rr, rfl, rfl, hr2⟩ := hd
      have he := sub _ _ he
      have hl := hr2.length
      rw [List.length_append] at hl
      refine ⟨_, rfl, pe, _, 0, _, rfl, rfl, SqT.of he, atI_nat (j := 0) rfl, rfl, _, rfl, ?_⟩
      refine isF hn ?_
      refine ⟨_, rfl, _, rfl, pe, _, 0, _, rfl, rfl, SqT.of he, atI_nat (j := 0) rfl, pF, _, _, rfl, rfl, TF.d _ _ hk, ((lead.length + 1 : Nat) : Int), rfl, pe, _, rfl, SqT.of he, ?_, fun p n => ?_⟩
      · rw [sIx0 (by rw [List.length_cons]; omega)]
        exact fun e => Nat.succ_ne_zero _ e.1
      rw [cut_from (by rw [List.length_cons]; omega)]
      have ed : (V.str tag :: rr).drop (lead.length + 1) = rr.drop lead.length := rfl
      rw [ed]
      have m1 : Mv F0 R H R _ := mv_mut (o := .tup (rr.drop lead.length)) sub n
      refine ⟨p, _, rfl, .inr (SqT.of upd_same), fun l nl => ?_⟩
      have a2 := hr2.drop lead.length
      rw [List.drop_left] at a2
      exact q _ _ _ (m1.tr (mv_new m1.sub nl)) (.nlst m1.sub nl a2)
    | @h e x f cs big =>
      obtain ⟨pe, _, rfl, he, _, _, rfl, rfl, ve, _, rfl, ae, vr, _, rfl, ⟨pr, _, rfl, hpr, vx, _, rfl, ax, vf, _, rfl, af, rfl⟩, vc, _, rfl, ⟨pc, cvs, rfl, hc, acs⟩, rfl⟩ := hd
      have he := sub _ _ he
      have hpr := sub _ _ hpr
      have hc := sub _ _ hc
      have lc := acs.length
      rw [show (cls4 cs).length = cs.length by unfold cls4; rw [List.length_map]] at lc
      refine ⟨_, rfl, pe, _, 0, _, rfl, rfl, SqT.of he, rfl, rfl, _, rfl, ?_⟩
      refine ifT (decide_eq_true rfl) ?_
      refine ⟨_, rfl, pe, _, rfl, SqT.of he, rfl, _, _, rfl, _, _, rfl, _, _, rfl, _, _, rfl, rfl, ?_⟩
      refine ⟨_, rfl, _, rfl, pr, _, 1, _, rfl, rfl, SqT.of hpr, rfl, _, rfl, pc, rfl, ⟨_, SqT.of hc⟩, fun L nL => ?_⟩
      refine lc_tup (K := K) (a := pc) (xs := cvs) (fun i H2 => ∃ ws, Same H H2 ∧ H2 L = some (.lst ws) ∧ H2 = upd H L (.lst ws) ∧ Ats R (gs4 (cs.take i)) ws) ⟨[], same_new nL, upd_same, rfl, rfl⟩ (fun i H2 _ q => by obtain ⟨_, s, _⟩ := q; exact SqT.of (s _ _ hc)) ?_ ?_
      · rintro i y H2 hy ⟨ws, s2, hL, rfl, aw⟩
        obtain ⟨dd, hdd, ad⟩ := acs.mem hy
        obtain ⟨c, hcs, rfl⟩ := cls4_get hdd
        obtain ⟨py, _, rfl, hpy, v1, _, rfl, a1, v2, _, rfl, a2, v3, _, rfl, a3, v4, _, rfl, a4, rfl⟩ := ad
        have li : i < cs.length := (List.getElem?_eq_some_iff.mp hcs).1
        have lw := aw.length
        rw [show (gs4 (cs.take i)).length = i by unfold gs4; rw [List.length_map, List.length_take]; omega] at lw
        refine ⟨rfl, _, rfl, py, _, 3, _, rfl, rfl, SqT.of (s2 _ _ (sub _ _ hpy)), rfl, ws, hL, Nat.lt_of_le_of_lt (by omega : ws.length ≤ 1000) (by decide), ws ++ [v4], ?_, upd_same, ?_, ?_⟩
        · rw [upd_twice]; exact same_new nL
        · rw [upd_twice]
        · rw [List.take_add_one, hcs]
          unfold gs4
          rw [List.map_append]
          exact aw.snoc a4
      · rintro H2 ⟨ws, s2, hL, rfl, aw⟩
        rw [lc, List.take_length] at aw
        have lw := aw.length
        rw [show (gs4 cs).length = cs.length by unfold gs4; rw [List.length_map]] at lw
        have m1 : Mv F0 R H _ _ := mv_new (o := .lst ws) sub nL
        refine ⟨L, ws, rfl, .inr (SqL.of hL), ?_, fun l nl => ?_⟩
        · rw [List.append_nil]
          show ws.length + 1 + 1 ≤ sizeLine
          exact big3 (by omega)
        · rw [List.append_nil]
          exact q _ _ _ (m1.tr (mv_new m1.sub nl)) (.nlst m1.sub nl ⟨_, _, rfl, ae.up m1.up, _, _, rfl, af.up m1.up, aw.up m1.up⟩)
end
end Bz


set_option Elab.async false
set_option linter.all false
set_option maxRecDepth 100000
set_option maxHeartbeats 4000000
namespace Bz
open PySem PySem.Spec L2 PyProof.Rows
/-! ### the names that are bound in parts -/
abbrev Cs4 := Str × Str × Str × D
def up4 (cs : List Cs4) : List Cl4 := cs.map fun c => (.str c.1, .str c.2.1, .str c.2.2.1, c.2.2.2)
inductive BndOf : D → List (List Str) → Prop where
  | fn {x : Str} {r : List D} : BndOf (.tup (.str "fun" :: .str x :: r)) [[x]]
  | rc {h x : Str} {r : List D} : BndOf (.tup (.str "rec" :: .str h :: .str x :: r)) [[h, x]]
  | lt {x : Str} {r : List D} : BndOf (.tup (.str "let" :: .str x :: r)) [[], [x]]
  | hd {e f : D} {x : Str} {cs : List Cs4} : cs.length ≤ 1000 → BndOf (.tup [.str "handle", e, .tup [.str x, f], .tup (cls4 (up4 cs))]) ([] :: [x] :: cs.map fun c => [c.2.1, c.2.2.1])
  | no {tag : Str} {r ps : List D} : tag ≠ "fun" → tag ≠ "rec" → tag ≠ "let" → tag ≠ "handle" → PartsOf (.tup (.str tag :: r)) ps → ps.length ≤ 1000 → BndOf (.tup (.str tag :: r)) (ps.map fun _ => [])
def bndD (bs : List (List Str)) : List D := bs.map fun b => .tup (b.map D.str)
section
variable {P : Program} {w : World} {K : PySem.W.Frag} {mg : Str → Option Value} {base : Heap}
abbrev g_bound_in_parts : Stmt := topS 4
abbrev n_bound_in_parts : List Str := ["expression", "form", "returned", "clauses", "clause", "_"]
abbrev p_bound_in_parts : List Str := ["expression"]
theorem sc_bound_in_parts : FnScope n_bound_in_parts p_bound_in_parts (defScope g_bound_in_parts) := ⟨rfl, rfl, rfl, by decide +kernel, rfl, by decide +kernel, by decide +kernel⟩
def spBnd : Sp := fun vs H Q _ => ∃ (R : Hp) (d : D) (bs : List (List Str)) (v : V), vs = [v] ∧ Same R H ∧ At R d v ∧ BndOf d bs ∧ ∀ (R' H' : Hp) (u : V), Mv F0 R H R' H' → At R' (.lst (bndD bs)) u → Q u H'
theorem ok_bnd {f fP : Addr} {fd fdP : FuncData} (F : Fun K "bound_in_parts" "bound_in_parts" g_bound_in_parts f fd) (GP : Fn P w K mg base CX0 1 "parts" p_parts spParts fP fdP) : FnOk P w K mg base CX0 2 f fd p_bound_in_parts spBnd := by
  refine F.ok sc_bound_in_parts (fun vs H Q E h => ?_) (fun cdv A outer st H vs Q E hr h => ?_)
  · obtain ⟨R, d, bs, v, rfl, _⟩ := h
    rfl
  · obtain ⟨R, d, bs, v, rfl, sub, hd, hb, q⟩ := h
    refine ⟨_, (pss_cons (ps_set (i := 1) sc_bound_in_parts.nd rfl (Or.inl rfl) (pe_ix ix_tup (pv 0) (pe_int) (fun _ _ => rfl)))
      (pss_cons (ps_if (pt_cmpR op_eq (pv 1) (pe_str) (nomark _)) (pss_one (ps_ret (pe_lst (pa_cons (pe_tup (pa_cons (pe_ix ix_tup (pv 0) (pe_int) (fun _ _ => rfl)) pa_nil)) pa_nil)))) pss_nil)
      (pss_cons (ps_if (pt_cmpR op_eq (pv 1) (pe_str) (nomark _)) (pss_one (ps_ret (pe_lst (pa_cons (pe_tup (pa_cons (pe_ix ix_tup (pv 0) (pe_int) (fun _ _ => rfl)) (pa_cons (pe_ix ix_tup (pv 0) (pe_int) (fun _ _ => rfl)) pa_nil))) pa_nil)))) pss_nil)
      (pss_cons (ps_if (pt_cmpR op_eq (pv 1) (pe_str) (nomark _)) (pss_one (ps_ret (pe_lst (pa_cons (pe_tup pa_nil) (pa_cons (pe_tup (pa_cons (pe_ix ix_tup (pv 0) (pe_int) (fun _ _ => rfl)) pa_nil)) pa_nil))))) pss_nil)
      (pss_cons (ps_if (pt_cmpR op_eq (pv 1) (pe_str) (nomark _)) (pss_cons (ps_asg (pe_slice sl_tup (pv 0) (po_some (pe_int)) po_none) (pg_tup rfl (pgs_cons (pg_name (i := 2) sc_bound_in_parts.nd rfl (Or.inl rfl)) (pgs_cons (pg_name (i := 3) sc_bound_in_parts.nd rfl (Or.inl rfl)) pgs_nil))))
      (pss_one (ps_ret (pe_lst (pa_cons (pe_tup pa_nil) (pa_cons (pe_slice sl_tup (pv 2) po_none (po_some (pe_int))) (StX.pa_star (pe_lc (own := [("clause", 4)]) (g := gName 4) (tt := tYes) (te := tSl (rSlT K) (tVar 4) (tPart (tC (.int 1))) (tPart (tC (.int 3)))) rfl sc_bound_in_parts.nd (pi_tup (pv 3)) (blkOk_by (N := n_bound_in_parts) (sc := defScope g_bound_in_parts) (by decide +kernel)) (fun _ _ _ _ _ => pg_name (i := 4) sc_bound_in_parts.nd rfl (Or.inl rfl)) (fun _ _ _ _ _ => pts_nil) (fun _ _ _ _ _ => pe_slice sl_tup (pv 4) (po_some pe_int) (po_some pe_int))) pa_nil))))))) pss_nil)
      (pss_one (ps_ret (pe_lc (own := [("_", 5)]) (g := gName 5) (tt := tYes) (te := tTup tNil) rfl sc_bound_in_parts.nd (pi_list (pe_call GP.ok hr (by rfl) GP.g GP.kp GP.b .nil pass0 (pa_cons (pv 0) pa_nil))) (blkOk_by (N := n_bound_in_parts) (sc := defScope g_bound_in_parts) (by decide +kernel)) (fun _ _ _ _ _ => pg_name (i := 5) sc_bound_in_parts.nd rfl (Or.inl rfl)) (fun _ _ _ _ _ => pts_nil) (fun _ _ _ _ _ => pe_tup pa_nil))))))))), ?_⟩
    cases hb with
    | @fn x r =>
      obtain ⟨pe, _, rfl, he, _, _, rfl, rfl, _, rr, rfl, rfl, hr2⟩ := hd
      have he := sub _ _ he
      refine ⟨_, rfl, pe, _, 0, _, rfl, rfl, SqT.of he, atI_nat (j := 0) rfl, ?_⟩
      refine ⟨_, rfl, rfl, _, rfl, ?_⟩
      refine ifT (decide_eq_true rfl) ?_
      refine ⟨_, rfl, pe, _, 1, _, rfl, rfl, SqT.of he, atI_nat (j := 1) rfl, by show 1 ≤ sizeLine; decide, fun p n => ?_⟩
      have m1 : Mv F0 R H _ _ := mv_new (o := .tup [.str x]) sub n
      refine ⟨by show 1 ≤ sizeLine; decide, fun l nl => ?_⟩
      exact q _ _ _ (m1.tr (mv_new m1.sub nl)) (.nlst m1.sub nl (.one (.ntup (l := [.str x]) sub n (.one rfl))))
    | @rc h x r =>
      obtain ⟨pe, _, rfl, he, _, _, rfl, rfl, _, _, rfl, rfl, _, rr, rfl, rfl, hr2⟩ := hd
      have he := sub _ _ he
      refine ⟨_, rfl, pe, _, 0, _, rfl, rfl, SqT.of he, atI_nat (j := 0) rfl, ?_⟩
      refine ⟨_, rfl, rfl, _, rfl, ?_⟩
      refine isF (by decide +kernel) ?_
      refine ⟨_, rfl, rfl, _, rfl, ?_⟩
      refine ifT (decide_eq_true rfl) ?_
      refine ⟨_, rfl, pe, _, 1, _, rfl, rfl, SqT.of he, atI_nat (j := 1) rfl, _, rfl, pe, _, 2, _, rfl, rfl, SqT.of he, atI_nat (j := 2) rfl, by show 2 ≤ sizeLine; decide, fun p n => ?_⟩
      have m1 : Mv F0 R H _ _ := mv_new (o := .tup [.str h, .str x]) sub n
      refine ⟨by show 1 ≤ sizeLine; decide, fun l nl => ?_⟩
      exact q _ _ _ (m1.tr (mv_new m1.sub nl)) (.nlst m1.sub nl (.one (.ntup (l := [.str h, .str x]) sub n ⟨_, _, rfl, rfl, _, _, rfl, rfl, rfl⟩)))
    | @lt x r =>
      obtain ⟨pe, _, rfl, he, _, _, rfl, rfl, _, rr, rfl, rfl, hr2⟩ := hd
      have he := sub _ _ he
      refine ⟨_, rfl, pe, _, 0, _, rfl, rfl, SqT.of he, atI_nat (j := 0) rfl, ?_⟩
      refine ⟨_, rfl, rfl, _, rfl, ?_⟩
      refine isF (by decide +kernel) ?_
      refine ⟨_, rfl, rfl, _, rfl, ?_⟩
      refine isF (by decide +kernel) ?_
      refine ⟨_, rfl, rfl, _, rfl, ?_⟩
      refine ifT (decide_eq_true rfl) ?_
      refine ⟨Nat.zero_le _, fun p0 n0 => ?_⟩
      have m0 : Mv F0 R H _ _ := mv_new (o := .tup []) sub n0
      have a0 : At (upd R p0 (.tup [])) (.tup []) (.ref p0) := .ntup (vs := []) sub n0 rfl
      refine ⟨_, rfl, pe, _, 1, _, rfl, rfl, SqT.of (m0.same _ _ he), atI_nat (j := 1) rfl, by show 1 ≤ sizeLine; decide, fun p n => ?_⟩
      have m1 := m0.tr (mv_new (o := .tup [.str x]) m0.sub n)
      have u1 : Same (upd R p0 (.tup [])) (upd (upd R p0 (.tup [])) p (.tup [.str x])) := same_new (m0.sub.free n)
      refine ⟨by show 2 ≤ sizeLine; decide, fun l nl => ?_⟩
      exact q _ _ _ (m1.tr (mv_new m1.sub nl)) (.nlst m1.sub nl ⟨_, _, rfl, a0.up u1, _, _, rfl, .ntup (l := [.str x]) m0.sub n (.one rfl), rfl⟩)
    | @hd e f x cs big =>
      obtain ⟨pe, _, rfl, he, _, _, rfl, rfl, ve, _, rfl, ae, vr, _, rfl, ⟨pr, _, rfl, hpr, vx, _, rfl, rfl, vf, _, rfl, af, rfl⟩, vc, _, rfl, ⟨pc, cvs, rfl, hc, acs⟩, rfl⟩ := hd
      have he := sub _ _ he
      have hpr := sub _ _ hpr
      have hc := sub _ _ hc
      have lc := acs.length
      rw [show (cls4 (up4 cs)).length = cs.length by unfold cls4 up4; rw [List.length_map, List.length_map]] at lc
      refine ⟨_, rfl, pe, _, 0, _, rfl, rfl, SqT.of he, atI_nat (j := 0) rfl, ?_⟩
      refine ⟨_, rfl, rfl, _, rfl, ?_⟩
      refine isF (by decide +kernel) ?_
      refine ⟨_, rfl, rfl, _, rfl, ?_⟩
      refine isF (by decide +kernel) ?_
      refine ⟨_, rfl, rfl, _, rfl, ?_⟩
      refine isF (by decide +kernel) ?_
      refine ⟨_, rfl, rfl, _, rfl, ?_⟩
      refine ifT (decide_eq_true rfl) ?_
      refine ⟨_, rfl, 2, rfl, pe, _, rfl, SqT.of he, (fun e => by have := e.1; exact absurd this (by show ¬ (2 = 0); decide)), fun s0 ns => ?_⟩
      rw [show cutV [V.str "handle", ve, V.ref pr, V.ref pc] (some 2) none = [.ref pr, .ref pc] from rfl]
      have m0 : Mv F0 R H R _ := mv_mut (o := .tup [.ref pr, .ref pc]) sub ns
      refine ⟨s0, [.ref pr, .ref pc], rfl, SqT.of upd_same, rfl, _, _, rfl, _, _, rfl, rfl, ?_⟩
      refine ⟨Nat.zero_le _, fun p0 n0 => ?_⟩
      have m1 := m0.tr (mv_new (o := .tup []) m0.sub n0)
      have a0 : At (upd R p0 (.tup [])) (.tup []) (.ref p0) := .ntup (vs := []) m0.sub n0 rfl
      refine ⟨_, rfl, 1, rfl, pr, _, rfl, SqT.of (m1.same _ _ hpr), (fun e => by have := e.2; exact absurd this (by show ¬ (1 = 2); decide)), fun p1 n1 => ?_⟩
      rw [show cutV [V.str x, vf] none (some 1) = [.str x] from rfl]
      have m2 := m1.tr (mv_new (o := .tup [.str x]) m1.sub n1)
      have a1 : At (upd (upd R p0 (.tup [])) p1 (.tup [.str x])) (.tup [.str x]) (.ref p1) := .ntup (vs := [.str x]) m1.sub n1 (.one rfl)
      have a0 := a0.up (same_new (o := .tup [.str x]) (m1.sub.free n1))
      have hc2 := m2.same _ _ hc
      generalize upd (upd (upd H s0 (.tup [.ref pr, .ref pc])) p0 (.tup [])) p1 (.tup [.str x]) = H2 at m2 hc2
      generalize upd (upd R p0 (.tup [])) p1 (.tup [.str x]) = R2 at m2 a0 a1
      refine ⟨_, rfl, pc, rfl, ⟨_, SqT.of hc2⟩, fun L nL => ?_⟩
      refine lc_tup (K := K) (a := pc) (xs := cvs) (fun i H3 => ∃ (R3 : Hp) (ws : List V), Mv F0 R H R3 H3 ∧ Mv F0 R2 H2 R3 H3 ∧ R3 L = none ∧ H3 L = some (.lst ws) ∧ Ats R3 (bndD ((cs.take i).map fun c => [c.2.1, c.2.2.1])) ws) ?_ ?_ ?_ ?_
      · have mD : Mv F0 R2 H2 R2 _ := mv_mut (o := .lst []) m2.sub nL
        exact ⟨_, [], m2.tr mD, mD, m2.sub.free nL, upd_same, rfl⟩
      · rintro i H3 _ ⟨R3, ws, _, m3, _⟩
        exact SqT.of (m3.same _ _ hc2)
      · rintro i y H3 hy ⟨R3, ws, mv3, m3, rD, hD, aw⟩
        obtain ⟨dd, hdd, ad⟩ := acs.mem hy
        obtain ⟨c4, hcs, rfl⟩ := cls4_get hdd
        obtain ⟨c, hcc, rfl⟩ : ∃ c, cs[i]? = some c ∧ c4 = (.str c.1, .str c.2.1, .str c.2.2.1, c.2.2.2) := by
          unfold up4 at hcs
          rw [List.getElem?_map] at hcs
          cases ec : cs[i]? with
          | none => rw [ec] at hcs; cases hcs
          | some c => rw [ec] at hcs; exact ⟨c, rfl, (Option.some.inj hcs).symm⟩
        obtain ⟨py, _, rfl, hpy, v1, _, rfl, rfl, v2, _, rfl, rfl, v3, _, rfl, rfl, v4, _, rfl, a4, rfl⟩ := ad
        have hpy3 := mv3.sub _ _ (mv3.up _ _ hpy)
        refine ⟨rfl, _, rfl, 1, rfl, 3, rfl, py, _, rfl, SqT.of hpy3, (fun e => by have := e.1; exact absurd this (by show ¬ (1 = 0); decide)), fun S nS => ?_⟩
        have mU := mv3.tr (mv_new (o := .tup [.str c.2.1, .str c.2.2.1]) mv3.sub nS)
        have mU3 := m3.tr (mv_new (o := .tup [.str c.2.1, .str c.2.2.1]) mv3.sub nS)
        have hDU := (mv_new (F := F0) (o := .tup [.str c.2.1, .str c.2.2.1]) mv3.sub nS).same _ _ hD
        have rDU := (mv_new (F := F0) (o := .tup [.str c.2.1, .str c.2.2.1]) mv3.sub nS).out rD hD
        have lw := aw.length
        have li : i < cs.length := (List.getElem?_eq_some_iff.mp hcc).1
        rw [show (bndD ((cs.take i).map fun c => [c.2.1, c.2.2.1])).length = i by unfold bndD; rw [List.length_map, List.length_map, List.length_take]; omega] at lw
        refine ⟨ws, hDU, Nat.lt_of_le_of_lt (by omega : ws.length ≤ 1000) (by decide), ?_⟩
        have mset : Mv (fun x => x = L) _ _ _ _ := mv_at (o := .lst (ws ++ [.ref S])) mU.sub rDU hDU rfl
        have nL0 : H L = none := m2.free nL
        refine ⟨_, ws ++ [.ref S], mU.trans mset (fun _ f => f) (fun x f => .inr (by rw [f]; exact nL0)), mU3.trans mset (fun _ f => f) (fun x f => .inr (by rw [f]; exact nL)), rDU, upd_same, ?_⟩
        rw [List.take_add_one, hcc, List.map_append]
        unfold bndD
        rw [List.map_append]
        exact Ats.snoc (Ats.up (same_new (mv3.sub.free nS)) aw) (At.ntup (l := [.str c.2.1, .str c.2.2.1]) mv3.sub nS ⟨_, _, rfl, rfl, _, _, rfl, rfl, rfl⟩)
      · rintro H3 ⟨R3, ws, mv3, m3, rD, hD, aw⟩
        rw [lc, List.take_length] at aw
        have lw := aw.length
        rw [show (bndD (cs.map fun c => [c.2.1, c.2.2.1])).length = cs.length by unfold bndD; rw [List.length_map, List.length_map]] at lw
        refine ⟨L, ws, rfl, .inr (SqL.of hD), ?_, fun l nl => ?_⟩
        · rw [List.append_nil]
          show ws.length + 1 + 1 ≤ sizeLine
          exact big3 (by omega)
        · rw [List.append_nil]
          exact q _ _ _ (mv3.tr (mv_new mv3.sub nl)) (.nlst mv3.sub nl ⟨_, _, rfl, a0.up m3.up, _, _, rfl, a1.up m3.up, aw⟩)
    | @no tag r ps n1 n2 n3 n4 hps big =>
      have hd' := hd
      obtain ⟨pe, _, rfl, he, _, rr, rfl, rfl, hr2⟩ := hd
      have he := sub _ _ he
      refine ⟨_, rfl, pe, _, 0, _, rfl, rfl, SqT.of he, atI_nat (j := 0) rfl, ?_⟩
      refine ⟨_, rfl, rfl, _, rfl, ?_⟩
      refine isF n1 ?_
      refine ⟨_, rfl, rfl, _, rfl, ?_⟩
      refine isF n2 ?_
      refine ⟨_, rfl, rfl, _, rfl, ?_⟩
      refine isF n3 ?_
      refine ⟨_, rfl, rfl, _, rfl, ?_⟩
      refine isF n4 ?_
      refine ⟨_, rfl, R, _, ps, _, rfl, sub, hd', hps, fun R1 H1 u m1 au => ?_⟩
      obtain ⟨pl, pvs, rfl, hpl, apl⟩ := au
      have lp := apl.length
      have hpl := m1.sub _ _ hpl
      refine ⟨pl, rfl, ⟨_, SqL.of hpl⟩, fun L nL => ?_⟩
      refine lc_list (K := K) (a := pl) (xs := pvs) (fun i H3 => ∃ (R3 : Hp) (ws : List V), Mv F0 R H R3 H3 ∧ Mv F0 R1 H1 R3 H3 ∧ R3 L = none ∧ H3 L = some (.lst ws) ∧ Ats R3 (bndD ((ps.take i).map fun _ => [])) ws) ?_ ?_ ?_ ?_
      · have mD : Mv F0 R1 H1 R1 _ := mv_mut (o := .lst []) m1.sub nL
        exact ⟨_, [], m1.tr mD, mD, m1.sub.free nL, upd_same, rfl⟩
      · rintro i H3 _ ⟨R3, ws, _, m3, _⟩
        exact SqL.of (m3.same _ _ hpl)
      · rintro i y H3 hy ⟨R3, ws, mv3, m3, rD, hD, aw⟩
        obtain ⟨dd, hdd, ad⟩ := apl.mem hy
        refine ⟨rfl, Nat.zero_le _, fun S nS => ?_⟩
        have m1' : Mv F0 R3 H3 _ _ := mv_new (o := .tup []) mv3.sub nS
        have mU := mv3.tr m1'
        have mU3 := m3.tr m1'
        have hDU := m1'.same _ _ hD
        have rDU := m1'.out rD hD
        have lw := aw.length
        have li : i < ps.length := (List.getElem?_eq_some_iff.mp hdd).1
        rw [show (bndD ((ps.take i).map fun _ => [])).length = i by unfold bndD; rw [List.length_map, List.length_map, List.length_take]; omega] at lw
        refine ⟨ws, hDU, Nat.lt_of_le_of_lt (by omega : ws.length ≤ 1000) (by decide), ?_⟩
        have mset : Mv (fun x => x = L) _ _ _ _ := mv_at (o := .lst (ws ++ [.ref S])) mU.sub rDU hDU rfl
        have nL0 : H L = none := m1.free nL
        refine ⟨_, ws ++ [.ref S], mU.trans mset (fun _ f => f) (fun x f => .inr (by rw [f]; exact nL0)), mU3.trans mset (fun _ f => f) (fun x f => .inr (by rw [f]; exact nL)), rDU, upd_same, ?_⟩
        rw [List.take_add_one, hdd, List.map_append]
        unfold bndD
        rw [List.map_append]
        exact Ats.snoc (Ats.up m1'.up aw) (At.ntup (l := []) (vs := []) mv3.sub nS rfl)
      · rintro H3 ⟨R3, ws, mv3, m3, rD, hD, aw⟩
        rw [lp, List.take_length] at aw
        have a9 : At (upd R3 L (.lst ws)) (.lst (bndD (ps.map fun _ => []))) (.ref L) := ⟨L, ws, rfl, upd_same, aw.up (same_new rD)⟩
        have nL0 : H L = none := m1.free nL
        have eH : H3 = upd H3 L (.lst ws) := by
          funext x
          by_cases e : x = L
          · subst e
            rw [upd_same, hD]
          · rw [upd_ne e]
        refine q (upd R3 L (.lst ws)) H3 _ ⟨mv3.keep, mv3.dom, mv3.up.trans (same_new rD), fun b z e => ?_, fun b z e => ?_⟩ a9
        · by_cases eb : b = L
          · subst eb
            rw [upd_same] at e
            rw [hD]
            exact e
          · rw [upd_ne eb] at e
            exact mv3.sub b z e
        · by_cases eb : b = L
          · subst eb
            exact .inr nL0
          · rw [upd_ne eb] at e
            exact mv3.new b z e
end
end Bz


set_option Elab.async false
set_option linter.all false
set_option maxRecDepth 100000
set_option maxHeartbeats 4000000
namespace Bz
open PySem PySem.Spec L2 PyProof.Rows
/-! ### expressions by their parts -/
def Clz.gs : Clz → List Ex
  | .nil => []
  | .cons _ _ _ g r => g :: r.gs
def Clz.c4 (p : Bool) : Clz → List Cs4
  | .nil => []
  | .cons o x k g r => (o, x, k, g.d p) :: r.c4 p
def Clz.nb : Clz → List (List Str)
  | .nil => []
  | .cons _ x k _ r => [x, k] :: r.nb
def Clz.len : Clz → Nat
  | .nil => 0
  | .cons _ _ _ _ r => r.len + 1
theorem Clz.d4 (p : Bool) : ∀ c : Clz, c.d p = cls4 (up4 (c.c4 p))
  | .nil => rfl
  | .cons o x k g r => by
    show D.tup [.str o, .str x, .str k, g.d p] :: r.d p = _
    rw [Clz.d4 p r]
    rfl
theorem Clz.g4 (p : Bool) : ∀ c : Clz, gs4 (up4 (c.c4 p)) = c.gs.map (Ex.d p)
  | .nil => rfl
  | .cons o x k g r => by
    show g.d p :: gs4 (up4 (r.c4 p)) = _
    rw [Clz.g4 p r]
    rfl
theorem Clz.n4 (p : Bool) : ∀ c : Clz, (c.c4 p).map (fun c => [c.2.1, c.2.2.1]) = c.nb
  | .nil => rfl
  | .cons o x k g r => by
    show [x, k] :: (r.c4 p).map _ = _
    rw [Clz.n4 p r]
    rfl
theorem Clz.l4 (p : Bool) : ∀ c : Clz, (c.c4 p).length = c.len
  | .nil => rfl
  | .cons o x k g r => congrArg (· + 1) (Clz.l4 p r)
theorem Clz.s4 : ∀ c : Clz, cls4 (setG (up4 (c.c4 false)) (c.gs.map (Ex.d true))) = c.d true
  | .nil => rfl
  | .cons o x k g r => by
    show D.tup [.str o, .str x, .str k, g.d true] :: cls4 (setG (up4 (r.c4 false)) (r.gs.map (Ex.d true))) = _
    rw [Clz.s4 r]
    rfl
theorem Clz.lg : ∀ c : Clz, c.gs.length = c.len
  | .nil => rfl
  | .cons o x k g r => congrArg (· + 1) (Clz.lg r)
def exParts : Ex → List Ex
  | .num _ => [] | .flag _ => [] | .unit => [] | .name _ => []
  | .call f e => [f, e] | .fn _ e => [e] | .rc _ _ e => [e] | .lt _ e f => [e, f] | .ite e f g => [e, f, g]
  | .pair e f => [e, f] | .fst e => [e] | .snd e => [e] | .op _ e f => [e, f] | .nt e => [e] | .pr e f => [e, f] | .ask _ e => [e]
  | .hd e _ f cs => e :: f :: cs.gs
def bnds : Ex → List (List Str)
  | .num _ => [] | .flag _ => [] | .unit => [] | .name _ => []
  | .call _ _ => [[], []] | .fn x _ => [[x]] | .rc h x _ => [[h, x]] | .lt x _ _ => [[], [x]] | .ite _ _ _ => [[], [], []]
  | .pair _ _ => [[], []] | .fst _ => [[]] | .snd _ => [[]] | .op _ _ _ => [[], []] | .nt _ => [[]] | .pr _ _ => [[], []] | .ask _ _ => [[]]
  | .hd _ x _ cs => [] :: [x] :: cs.nb
mutual
def exD : Ex → Nat
  | .num _ => 1 | .flag _ => 1 | .unit => 1 | .name _ => 1
  | .call f e => Nat.max (exD f) (exD e) + 1 | .fn _ e => exD e + 1 | .rc _ _ e => exD e + 1 | .lt _ e f => Nat.max (exD e) (exD f) + 1 | .ite e f g => Nat.max (exD e) (Nat.max (exD f) (exD g)) + 1
  | .pair e f => Nat.max (exD e) (exD f) + 1 | .fst e => exD e + 1 | .snd e => exD e + 1 | .op _ e f => Nat.max (exD e) (exD f) + 1 | .nt e => exD e + 1 | .pr e f => Nat.max (exD e) (exD f) + 1 | .ask _ e => exD e + 1
  | .hd e _ f cs => Nat.max (exD e) (Nat.max (exD f) (clD cs)) + 1
def clD : Clz → Nat
  | .nil => 0
  | .cons _ _ _ g r => Nat.max (exD g) (clD r)
end
mutual
/-- how many expressions there are -/
def exN : Ex → Nat
  | .num _ => 1 | .flag _ => 1 | .unit => 1 | .name _ => 1
  | .call f e => exN f + exN e + 1 | .fn _ e => exN e + 1 | .rc _ _ e => exN e + 1 | .lt _ e f => exN e + exN f + 1 | .ite e f g => exN e + (exN f + exN g) + 1
  | .pair e f => exN e + exN f + 1 | .fst e => exN e + 1 | .snd e => exN e + 1 | .op _ e f => exN e + exN f + 1 | .nt e => exN e + 1 | .pr e f => exN e + exN f + 1 | .ask _ e => exN e + 1
  | .hd e _ f cs => exN e + (exN f + clN cs) + 1
def clN : Clz → Nat
  | .nil => 0
  | .cons _ _ _ g r => exN g + clN r
end
mutual
/-- few clauses everywhere -/
def smE : Ex → Bool
  | .num _ => true | .flag _ => true | .unit => true | .name _ => true
  | .call f e => smE f && smE e | .fn _ e => smE e | .rc _ _ e => smE e | .lt _ e f => smE e && smE f | .ite e f g => smE e && (smE f && smE g)
  | .pair e f => smE e && smE f | .fst e => smE e | .snd e => smE e | .op _ e f => smE e && smE f | .nt e => smE e | .pr e f => smE e && smE f | .ask _ e => smE e
  | .hd e _ f cs => decide (cs.len ≤ 900) && (smE e && (smE f && smC cs))
def smC : Clz → Bool
  | .nil => true
  | .cons _ _ _ g r => smE g && smC r
end
def clsLen : Ex → Nat
  | .hd _ _ _ cs => cs.len
  | _ => 0
theorem sm_len {e : Ex} (h : smE e = true) : clsLen e ≤ 900 := by
  cases e with
  | hd e x f cs =>
    have h : (decide (cs.len ≤ 900) && (smE e && (smE f && smC cs))) = true := h
    rw [Bool.and_eq_true, decide_eq_true_eq] at h
    exact h.1
  | _ => exact Nat.zero_le _
theorem ex_parts (e : Ex) (h : clsLen e ≤ 900) : PartsOf (e.d false) ((exParts e).map (Ex.d false)) := by
  cases e with
  | num n => exact .a (lead := [.int n]) (ps := []) (by decide +kernel) rfl (by simp)
  | flag b => exact .a (lead := [.bl b]) (ps := []) (by decide +kernel) rfl (by simp)
  | unit => exact .a (lead := []) (ps := []) (by decide +kernel) rfl (by simp)
  | name x => exact .a (lead := [.str x]) (ps := []) (by decide +kernel) rfl (by simp)
  | call f e => exact .a (lead := []) (ps := [f.d false, e.d false]) (by decide +kernel) rfl (by simp)
  | fn x e => exact .a (lead := [.str x]) (ps := [e.d false]) (by decide +kernel) rfl (by simp)
  | rc y x e => exact .a (lead := [.str y, .str x]) (ps := [e.d false]) (by decide +kernel) rfl (by simp)
  | lt x e f => exact .a (lead := [.str x]) (ps := [e.d false, f.d false]) (by decide +kernel) rfl (by simp)
  | ite e f g => exact .a (lead := []) (ps := [e.d false, f.d false, g.d false]) (by decide +kernel) rfl (by simp)
  | pair e f => exact .a (lead := []) (ps := [e.d false, f.d false]) (by decide +kernel) rfl (by simp)
  | fst e => exact .a (lead := []) (ps := [e.d false]) (by decide +kernel) rfl (by simp)
  | snd e => exact .a (lead := []) (ps := [e.d false]) (by decide +kernel) rfl (by simp)
  | op s e f => exact .a (lead := [.str s]) (ps := [e.d false, f.d false]) (by decide +kernel) rfl (by simp)
  | nt e => exact .a (lead := []) (ps := [e.d false]) (by decide +kernel) rfl (by simp)
  | pr e f => exact .a (lead := []) (ps := [e.d false, f.d false]) (by decide +kernel) rfl (by simp)
  | ask o e => exact .a (lead := [.str o]) (ps := [e.d false]) (by decide +kernel) rfl (by simp)
  | hd e x f cs =>
    have z := PartsOf.h (e := e.d false) (x := .str x) (f := f.d false) (cs := up4 (cs.c4 false)) (by unfold up4; rw [List.length_map, Clz.l4]; exact Nat.le_trans h (by decide))
    rw [Clz.g4, ← Clz.d4] at z
    exact z
theorem ex_bnd (e : Ex) (h : clsLen e ≤ 900) : BndOf (e.d false) (bnds e) := by
  have hp := ex_parts e h
  cases e with
  | fn x e => exact .fn
  | rc y x e => exact .rc
  | lt x e f => exact .lt
  | hd e x f cs =>
    have z := BndOf.hd (e := e.d false) (x := x) (f := f.d false) (cs := cs.c4 false) (by rw [Clz.l4]; exact Nat.le_trans h (by decide))
    rw [Clz.n4, ← Clz.d4] at z
    exact z
  | num n => exact .no (by decide +kernel) (by decide +kernel) (by decide +kernel) (by decide +kernel) hp (by simp [exParts])
  | flag b => exact .no (by decide +kernel) (by decide +kernel) (by decide +kernel) (by decide +kernel) hp (by simp [exParts])
  | unit => exact .no (by decide +kernel) (by decide +kernel) (by decide +kernel) (by decide +kernel) hp (by simp [exParts])
  | name x => exact .no (by decide +kernel) (by decide +kernel) (by decide +kernel) (by decide +kernel) hp (by simp [exParts])
  | call f e => exact .no (by decide +kernel) (by decide +kernel) (by decide +kernel) (by decide +kernel) hp (by show 2 ≤ 1000; decide)
  | ite e f g => exact .no (by decide +kernel) (by decide +kernel) (by decide +kernel) (by decide +kernel) hp (by show 3 ≤ 1000; decide)
  | pair e f => exact .no (by decide +kernel) (by decide +kernel) (by decide +kernel) (by decide +kernel) hp (by show 2 ≤ 1000; decide)
  | fst e => exact .no (by decide +kernel) (by decide +kernel) (by decide +kernel) (by decide +kernel) hp (by show 1 ≤ 1000; decide)
  | snd e => exact .no (by decide +kernel) (by decide +kernel) (by decide +kernel) (by decide +kernel) hp (by show 1 ≤ 1000; decide)
  | op s e f => exact .no (by decide +kernel) (by decide +kernel) (by decide +kernel) (by decide +kernel) hp (by show 2 ≤ 1000; decide)
  | nt e => exact .no (by decide +kernel) (by decide +kernel) (by decide +kernel) (by decide +kernel) hp (by show 1 ≤ 1000; decide)
  | pr e f => exact .no (by decide +kernel) (by decide +kernel) (by decide +kernel) (by decide +kernel) hp (by show 2 ≤ 1000; decide)
  | ask o e => exact .no (by decide +kernel) (by decide +kernel) (by decide +kernel) (by decide +kernel) hp (by show 1 ≤ 1000; decide)
/-- prepared but for the names of a function -/
def exPre : Ex → D
  | .fn x e => .tup [.str "fun", .str x, e.d true]
  | .rc h x e => .tup [.str "rec", .str h, .str x, e.d true]
  | e => e.d true
theorem ex_with (e : Ex) (h : clsLen e ≤ 900) : WithP (e.d false) ((exParts e).map (Ex.d true)) (exPre e) := by
  cases e with
  | num n => exact .a (lead := [.int n]) (ps := []) (is := []) (by decide +kernel) rfl (by simp) (by simp)
  | flag b => exact .a (lead := [.bl b]) (ps := []) (is := []) (by decide +kernel) rfl (by simp) (by simp)
  | unit => exact .a (lead := []) (ps := []) (is := []) (by decide +kernel) rfl (by simp) (by simp)
  | name x => exact .a (lead := [.str x]) (ps := []) (is := []) (by decide +kernel) rfl (by simp) (by simp)
  | call f e => exact .a (lead := []) (ps := [f.d false, e.d false]) (is := [f.d true, e.d true]) (by decide +kernel) rfl (by simp) (by simp)
  | fn x e => exact .a (lead := [.str x]) (ps := [e.d false]) (is := [e.d true]) (by decide +kernel) rfl (by simp) (by simp)
  | rc y x e => exact .a (lead := [.str y, .str x]) (ps := [e.d false]) (is := [e.d true]) (by decide +kernel) rfl (by simp) (by simp)
  | lt x e f => exact .a (lead := [.str x]) (ps := [e.d false, f.d false]) (is := [e.d true, f.d true]) (by decide +kernel) rfl (by simp) (by simp)
  | ite e f g => exact .a (lead := []) (ps := [e.d false, f.d false, g.d false]) (is := [e.d true, f.d true, g.d true]) (by decide +kernel) rfl (by simp) (by simp)
  | pair e f => exact .a (lead := []) (ps := [e.d false, f.d false]) (is := [e.d true, f.d true]) (by decide +kernel) rfl (by simp) (by simp)
  | fst e => exact .a (lead := []) (ps := [e.d false]) (is := [e.d true]) (by decide +kernel) rfl (by simp) (by simp)
  | snd e => exact .a (lead := []) (ps := [e.d false]) (is := [e.d true]) (by decide +kernel) rfl (by simp) (by simp)
  | op s e f => exact .a (lead := [.str s]) (ps := [e.d false, f.d false]) (is := [e.d true, f.d true]) (by decide +kernel) rfl (by simp) (by simp)
  | nt e => exact .a (lead := []) (ps := [e.d false]) (is := [e.d true]) (by decide +kernel) rfl (by simp) (by simp)
  | pr e f => exact .a (lead := []) (ps := [e.d false, f.d false]) (is := [e.d true, f.d true]) (by decide +kernel) rfl (by simp) (by simp)
  | ask o e => exact .a (lead := [.str o]) (ps := [e.d false]) (is := [e.d true]) (by decide +kernel) rfl (by simp) (by simp)
  | hd e x f cs =>
    have h : cs.len ≤ 900 := h
    have z := WithP.h (e := e.d false) (x := .str x) (f := f.d false) (cs := up4 (cs.c4 false)) (e' := e.d true) (f' := f.d true) (gs := cs.gs.map (Ex.d true)) (by unfold up4; rw [List.length_map, Clz.l4]; omega) (by unfold up4; rw [List.length_map, List.length_map, Clz.l4, Clz.lg])
    rw [Clz.s4, ← Clz.d4] at z
    exact z
theorem cl_mem {c : Clz} : ∀ {g : Ex}, g ∈ c.gs → exD g ≤ clD c ∧ (smC c = true → smE g = true) := by
  induction c using Clz.rec (motive_1 := fun _ => True) with
  | nil => intro g h; cases h
  | cons o x k g r _ ih =>
    intro g' h
    rcases List.mem_cons.mp h with e | h
    · subst e
      refine ⟨Nat.le_max_left _ _, fun q => ?_⟩
      have q : (smE g' && smC r) = true := q
      rw [Bool.and_eq_true] at q
      exact q.1
    · obtain ⟨i1, i2⟩ := ih h
      refine ⟨Nat.le_trans i1 (Nat.le_max_right _ _), fun q => ?_⟩
      have q : (smE g && smC r) = true := q
      rw [Bool.and_eq_true] at q
      exact i2 q.2
  | _ => trivial
theorem part_mem {e g : Ex} (h : g ∈ exParts e) : exD g < exD e ∧ (smE e = true → smE g = true) := by
  have two : ∀ {a b : Nat}, a < Nat.max a b + 1 ∧ b < Nat.max a b + 1 := fun {a b} => ⟨Nat.lt_succ_of_le (Nat.le_max_left a b), Nat.lt_succ_of_le (Nat.le_max_right a b)⟩
  have b2 : ∀ {a b : Bool}, (a && b) = true → a = true ∧ b = true := fun {a b} q => by rw [Bool.and_eq_true] at q; exact q
  cases e with
  | num n => cases h
  | flag b => cases h
  | unit => cases h
  | name x => cases h
  | fn x e => rw [List.mem_singleton.mp h]; exact ⟨Nat.lt_succ_self _, id⟩
  | rc y x e => rw [List.mem_singleton.mp h]; exact ⟨Nat.lt_succ_self _, id⟩
  | fst e => rw [List.mem_singleton.mp h]; exact ⟨Nat.lt_succ_self _, id⟩
  | snd e => rw [List.mem_singleton.mp h]; exact ⟨Nat.lt_succ_self _, id⟩
  | nt e => rw [List.mem_singleton.mp h]; exact ⟨Nat.lt_succ_self _, id⟩
  | ask o e => rw [List.mem_singleton.mp h]; exact ⟨Nat.lt_succ_self _, id⟩
  | call f e =>
    rcases List.mem_cons.mp h with q | h
    · rw [q]; exact ⟨two.1, fun z => (b2 z).1⟩
    · rw [List.mem_singleton.mp h]; exact ⟨two.2, fun z => (b2 z).2⟩
  | lt x e f =>
    rcases List.mem_cons.mp h with q | h
    · rw [q]; exact ⟨two.1, fun z => (b2 z).1⟩
    · rw [List.mem_singleton.mp h]; exact ⟨two.2, fun z => (b2 z).2⟩
  | pair e f =>
    rcases List.mem_cons.mp h with q | h
    · rw [q]; exact ⟨two.1, fun z => (b2 z).1⟩
    · rw [List.mem_singleton.mp h]; exact ⟨two.2, fun z => (b2 z).2⟩
  | op s e f =>
    rcases List.mem_cons.mp h with q | h
    · rw [q]; exact ⟨two.1, fun z => (b2 z).1⟩
    · rw [List.mem_singleton.mp h]; exact ⟨two.2, fun z => (b2 z).2⟩
  | pr e f =>
    rcases List.mem_cons.mp h with q | h
    · rw [q]; exact ⟨two.1, fun z => (b2 z).1⟩
    · rw [List.mem_singleton.mp h]; exact ⟨two.2, fun z => (b2 z).2⟩
  | ite e f k =>
    rcases List.mem_cons.mp h with q | h
    · rw [q]; exact ⟨two.1, fun z => (b2 z).1⟩
    rcases List.mem_cons.mp h with q | h
    · rw [q]; exact ⟨Nat.lt_of_lt_of_le two.1 (Nat.succ_le_succ (Nat.le_max_right _ _)), fun z => (b2 (b2 z).2).1⟩
    · rw [List.mem_singleton.mp h]; exact ⟨Nat.lt_of_lt_of_le two.2 (Nat.succ_le_succ (Nat.le_max_right _ _)), fun z => (b2 (b2 z).2).2⟩
  | hd e x f cs =>
    rcases List.mem_cons.mp h with q | h
    · rw [q]; exact ⟨two.1, fun z => (b2 (b2 z).2).1⟩
    rcases List.mem_cons.mp h with q | h
    · rw [q]; exact ⟨Nat.lt_of_lt_of_le two.1 (Nat.succ_le_succ (Nat.le_max_right _ _)), fun z => (b2 (b2 (b2 z).2).2).1⟩
    · obtain ⟨i1, i2⟩ := cl_mem h
      exact ⟨Nat.lt_of_le_of_lt i1 (Nat.lt_of_lt_of_le two.2 (Nat.succ_le_succ (Nat.le_max_right _ _))), fun z => i2 (b2 (b2 (b2 z).2).2).2⟩
def foldN : List (Ex × List Str) → List Str → List Str → List Str
  | [], _, ks => ks
  | (e, b) :: r, bs, ks => foldN r bs (noted e (bs ++ b) ks)
def preN : Ex → List Str → List Str → List Str
  | .name x, bs, ks => if x ∈ bs then ks else addN x ks
  | _, _, ks => ks
theorem cl_fold : ∀ (c : Clz) (bs ks : List Str), notedC c bs ks = foldN (c.gs.zip c.nb) bs ks
  | .nil, _, _ => rfl
  | .cons o x k g r, bs, ks => cl_fold r bs (noted g (bs ++ [x, k]) ks)
theorem ex_fold (e : Ex) (bs ks : List Str) : noted e bs ks = foldN ((exParts e).zip (bnds e)) bs (preN e bs ks) := by
  cases e with
  | hd e x f cs =>
    show notedC cs bs (noted f (bs ++ [x]) (noted e bs ks)) = foldN (cs.gs.zip cs.nb) bs (noted f (bs ++ [x]) (noted e (bs ++ []) ks))
    rw [List.append_nil]
    exact cl_fold _ _ _
  | num n => rfl
  | flag b => rfl
  | unit => rfl
  | name x => rfl
  | fn x e => rfl
  | rc y x e => rfl
  | call f e => show _ = noted e (bs ++ []) (noted f (bs ++ []) ks); rw [List.append_nil]; rfl
  | lt x e f => show _ = noted f (bs ++ [x]) (noted e (bs ++ []) ks); rw [List.append_nil]; rfl
  | ite e f g => show _ = noted g (bs ++ []) (noted f (bs ++ []) (noted e (bs ++ []) ks)); rw [List.append_nil]; rfl
  | pair e f => show _ = noted f (bs ++ []) (noted e (bs ++ []) ks); rw [List.append_nil]; rfl
  | fst e => show _ = noted e (bs ++ []) ks; rw [List.append_nil]; rfl
  | snd e => show _ = noted e (bs ++ []) ks; rw [List.append_nil]; rfl
  | op s e f => show _ = noted f (bs ++ []) (noted e (bs ++ []) ks); rw [List.append_nil]; rfl
  | nt e => show _ = noted e (bs ++ []) ks; rw [List.append_nil]; rfl
  | pr e f => show _ = noted f (bs ++ []) (noted e (bs ++ []) ks); rw [List.append_nil]; rfl
  | ask o e => show _ = noted e (bs ++ []) ks; rw [List.append_nil]; rfl
theorem parts_bnds (e : Ex) : (exParts e).length = (bnds e).length := by
  cases e with
  | hd e x f cs =>
    show cs.gs.length + 1 + 1 = cs.nb.length + 1 + 1
    have : ∀ c : Clz, c.gs.length = c.nb.length := fun c => by
      induction c using Clz.rec (motive_1 := fun _ => True) with
      | nil => rfl
      | cons o x k g r _ ih => exact congrArg (· + 1) ih
      | _ => trivial
    rw [this]
  | _ => rfl
theorem addN_len (x : Str) (ks : List Str) : (addN x ks).length ≤ ks.length + 1 := by
  unfold addN
  split
  · omega
  · rw [List.length_append]; exact Nat.le_refl _
theorem addN_nd {x : Str} {ks : List Str} (h : ks.Nodup) : (addN x ks).Nodup := by
  unfold addN
  split
  · exact h
  · rename_i n; exact nd_snoc h n
mutual
theorem noted_len : ∀ (e : Ex) (bs ks : List Str), (noted e bs ks).length ≤ ks.length + exN e
  | .num _, _, ks => Nat.le_succ _
  | .flag _, _, ks => Nat.le_succ _
  | .unit, _, ks => Nat.le_succ _
  | .name x, bs, ks => by
    show (if x ∈ bs then ks else addN x ks).length ≤ ks.length + 1
    split
    · omega
    · exact addN_len x ks
  | .call f e, bs, ks => by have h1 := noted_len e bs (noted f bs ks); have h2 := noted_len f bs ks; show _ ≤ ks.length + (exN f + exN e + 1); unfold noted; omega
  | .fn x e, bs, ks => by have h1 := noted_len e (bs ++ [x]) ks; show _ ≤ ks.length + (exN e + 1); unfold noted; omega
  | .rc h x e, bs, ks => by have h1 := noted_len e (bs ++ [h, x]) ks; show _ ≤ ks.length + (exN e + 1); unfold noted; omega
  | .lt x e f, bs, ks => by have h1 := noted_len f (bs ++ [x]) (noted e bs ks); have h2 := noted_len e bs ks; show _ ≤ ks.length + (exN e + exN f + 1); unfold noted; omega
  | .ite e f g, bs, ks => by have h1 := noted_len g bs (noted f bs (noted e bs ks)); have h2 := noted_len f bs (noted e bs ks); have h3 := noted_len e bs ks; show _ ≤ ks.length + (exN e + (exN f + exN g) + 1); unfold noted; omega
  | .pair e f, bs, ks => by have h1 := noted_len f bs (noted e bs ks); have h2 := noted_len e bs ks; show _ ≤ ks.length + (exN e + exN f + 1); unfold noted; omega
  | .fst e, bs, ks => by have h1 := noted_len e bs ks; show _ ≤ ks.length + (exN e + 1); unfold noted; omega
  | .snd e, bs, ks => by have h1 := noted_len e bs ks; show _ ≤ ks.length + (exN e + 1); unfold noted; omega
  | .op _ e f, bs, ks => by have h1 := noted_len f bs (noted e bs ks); have h2 := noted_len e bs ks; show _ ≤ ks.length + (exN e + exN f + 1); unfold noted; omega
  | .nt e, bs, ks => by have h1 := noted_len e bs ks; show _ ≤ ks.length + (exN e + 1); unfold noted; omega
  | .pr e f, bs, ks => by have h1 := noted_len f bs (noted e bs ks); have h2 := noted_len e bs ks; show _ ≤ ks.length + (exN e + exN f + 1); unfold noted; omega
  | .ask _ e, bs, ks => by have h1 := noted_len e bs ks; show _ ≤ ks.length + (exN e + 1); unfold noted; omega
  | .hd e x f cs, bs, ks => by have h1 := notedC_len cs bs (noted f (bs ++ [x]) (noted e bs ks)); have h2 := noted_len f (bs ++ [x]) (noted e bs ks); have h3 := noted_len e bs ks; show _ ≤ ks.length + (exN e + (exN f + clN cs) + 1); unfold noted; omega
theorem notedC_len : ∀ (c : Clz) (bs ks : List Str), (notedC c bs ks).length ≤ ks.length + clN c
  | .nil, _, _ => Nat.le_refl _
  | .cons o x k g r, bs, ks => by have h1 := notedC_len r bs (noted g (bs ++ [x, k]) ks); have h2 := noted_len g (bs ++ [x, k]) ks; show _ ≤ ks.length + (exN g + clN r); unfold notedC; omega
end
def sumN : List (Ex × List Str) → Nat
  | [] => 0
  | p :: r => exN p.1 + sumN r
theorem cl_sum : ∀ c : Clz, sumN (c.gs.zip c.nb) = clN c
  | .nil => rfl
  | .cons o x k g r => congrArg (exN g + ·) (cl_sum r)
theorem ex_sum (e : Ex) : sumN ((exParts e).zip (bnds e)) + 1 = exN e := by
  cases e with
  | hd e x f cs =>
    show exN e + (exN f + sumN (cs.gs.zip cs.nb)) + 1 = _
    rw [cl_sum]
    rfl
  | _ => rfl
end Bz


set_option Elab.async false
set_option linter.all false
set_option maxRecDepth 100000
set_option maxHeartbeats 4000000
namespace Bz
open PySem PySem.Spec L2 PyProof.Rows
mutual
theorem noted_nd : ∀ (e : Ex) (bs : List Str) {ks : List Str}, ks.Nodup → (noted e bs ks).Nodup
  | .num _, _, _, h => h
  | .flag _, _, _, h => h
  | .unit, _, _, h => h
  | .name x, bs, ks, h => by
    show (if x ∈ bs then ks else addN x ks).Nodup
    split
    · exact h
    · exact addN_nd h
  | .call f e, bs, _, h => noted_nd e bs (noted_nd f bs h)
  | .fn x e, bs, _, h => noted_nd e _ h
  | .rc y x e, bs, _, h => noted_nd e _ h
  | .lt x e f, bs, _, h => noted_nd f _ (noted_nd e bs h)
  | .ite e f g, bs, _, h => noted_nd g bs (noted_nd f bs (noted_nd e bs h))
  | .pair e f, bs, _, h => noted_nd f bs (noted_nd e bs h)
  | .fst e, bs, _, h => noted_nd e bs h
  | .snd e, bs, _, h => noted_nd e bs h
  | .op _ e f, bs, _, h => noted_nd f bs (noted_nd e bs h)
  | .nt e, bs, _, h => noted_nd e bs h
  | .pr e f, bs, _, h => noted_nd f bs (noted_nd e bs h)
  | .ask _ e, bs, _, h => noted_nd e bs h
  | .hd e x f cs, bs, _, h => notedC_nd cs bs (noted_nd f _ (noted_nd e bs h))
theorem notedC_nd : ∀ (c : Clz) (bs : List Str) {ks : List Str}, ks.Nodup → (notedC c bs ks).Nodup
  | .nil, _, _, h => h
  | .cons o x k g r, bs, _, h => notedC_nd r bs (noted_nd g _ h)
end
theorem foldN_snoc (p : Ex × List Str) : ∀ (l : List (Ex × List Str)) (bs ks : List Str), foldN (l ++ [p]) bs ks = noted p.1 (bs ++ p.2) (foldN l bs ks)
  | [], _, _ => rfl
  | q :: l, bs, ks => foldN_snoc p l bs _
theorem foldN_len : ∀ (l : List (Ex × List Str)) (bs ks : List Str), (foldN l bs ks).length ≤ ks.length + sumN l
  | [], _, _ => Nat.le_refl _
  | p :: l, bs, ks => by
    have h1 := foldN_len l bs (noted p.1 (bs ++ p.2) ks)
    have h2 := noted_len p.1 (bs ++ p.2) ks
    show (foldN l bs _).length ≤ ks.length + (exN p.1 + sumN l)
    omega
theorem sumN_take : ∀ (l : List (Ex × List Str)) (i : Nat) (p : Ex × List Str), l[i]? = some p → sumN (l.take i) + exN p.1 ≤ sumN l
  | [], _, _, h => by simp at h
  | q :: l, 0, p, h => by
    cases (show q = p from Option.some.inj h)
    exact Nat.le_trans (Nat.le_of_eq (Nat.zero_add _)) (Nat.le_add_right _ _)
  | q :: l, i + 1, p, h => by
    have ih := sumN_take l i p (by simpa using h)
    show exN q.1 + sumN (l.take i) + exN p.1 ≤ exN q.1 + sumN l
    omega
theorem big3' {n : Nat} (h : n ≤ 20000) : n ≤ sizeLine := Nat.le_trans h (by decide)
theorem bnds_two {e : Ex} {b : List Str} (h : b ∈ bnds e) : b.length ≤ 2 := by
  cases e with
  | hd e x f cs =>
    rcases List.mem_cons.mp h with q | h
    · rw [q]; exact Nat.zero_le _
    rcases List.mem_cons.mp h with q | h
    · rw [q]; exact Nat.le_succ 1
    · have : ∀ c : Clz, ∀ b ∈ c.nb, b.length ≤ 2 := fun c => by
        induction c using Clz.rec (motive_1 := fun _ => True) with
        | nil => intro b h; cases h
        | cons o x k g r _ ih =>
          intro b h
          rcases List.mem_cons.mp h with q | h
          · rw [q]; exact Nat.le_refl _
          · exact ih b h
        | _ => trivial
      exact this cs b h
  | _ =>
    simp [bnds] at h
    try (rcases h with h | h | h <;> simp [h])
    try (rcases h with h | h <;> simp [h])
    try simp [h]
section
variable {P : Program} {w : World} {K : PySem.W.Frag} {mg : Str → Option Value} {base : Heap}
abbrev g_note_free_names : Stmt := topS 6
abbrev n_note_free_names : List Str := ["expression", "bound", "found", "part", "names"]
abbrev p_note_free_names : List Str := ["expression", "bound", "found"]
theorem sc_note_free_names : FnScope n_note_free_names p_note_free_names (defScope g_note_free_names) := ⟨rfl, rfl, rfl, by decide +kernel, rfl, by decide +kernel, by decide +kernel⟩
def tagE : Ex → Str
  | .num _ => "num" | .flag _ => "flag" | .unit => "unit" | .name _ => "name"
  | .call _ _ => "call" | .fn _ _ => "fun" | .rc _ _ _ => "rec" | .lt _ _ _ => "let" | .ite _ _ _ => "if"
  | .pair _ _ => "pair" | .fst _ => "fst" | .snd _ => "snd" | .op _ _ _ => "op" | .nt _ => "not" | .pr _ _ => "print" | .ask _ _ => "ask"
  | .hd _ _ _ _ => "handle"
theorem ex_tag (p : Bool) (e : Ex) : ∃ r, e.d p = .tup (.str (tagE e) :: r) := by cases e <;> exact ⟨_, rfl⟩
theorem ex_head {R : Hp} {e : Ex} {p : Bool} {v : V} (h : At R (e.d p) v) : ∃ pe r, v = .ref pe ∧ R pe = some (.tup (.str (tagE e) :: r)) := by
  obtain ⟨r, er⟩ := ex_tag p e
  rw [er] at h
  obtain ⟨pe, _, rfl, he, _, rr, rfl, rfl, _⟩ := h
  exact ⟨pe, rr, rfl, he⟩
theorem tag_name {e : Ex} (h : ∀ x, e ≠ .name x) : tagE e ≠ "name" ∧ ∀ bs ks, preN e bs ks = ks := by
  cases e with
  | name x => exact absurd rfl (h x)
  | _ => exact ⟨fun h => by simp only [tagE] at h; revert h; decide +kernel, fun _ _ => rfl⟩
def spNote (n : Nat) : Sp := fun vs H Q _ => ∃ (R : Hp) (e : Ex) (bs ks : List Str) (v b : V) (f : Addr), vs = [v, b, .ref f] ∧ Same R H ∧ At R (e.d false) v ∧ At R (.tup (bs.map D.str)) b ∧ R f = none ∧ H f = some (.dK (nkK ks)) ∧
  exD e ≤ n ∧ smE e = true ∧ ks.length + exN e ≤ 1000000 ∧ bs.length + 2 * n ≤ 10000 ∧ ∀ (R' H' : Hp), Mv (fun x => x = f) R H R' H' → H' f = some (.dK (nkK (noted e bs ks))) → Q .non H'
theorem ex_pos (e : Ex) : 1 ≤ exD e := by cases e <;> exact Nat.le_add_left _ _
theorem ok_note0 {f : Addr} {fd : FuncData} (F : Fun K "note_free_names" "note_free_names" g_note_free_names f fd) : FnOk P w K mg base CX0 3 f fd p_note_free_names (spNote 0) := by
  refine F.ok (k := 2) sc_note_free_names (fun vs H Q E h => ?_) (fun cdv A outer st H vs Q E hr h => ?_)
  · obtain ⟨R, e, bs, ks, v, b, fa, rfl, _⟩ := h
    rfl
  · obtain ⟨R, e, bs, ks, v, b, fa, rfl, _, _, _, _, _, h, _⟩ := h
    exact absurd h (by have := ex_pos e; omega)
theorem ok_note {n : Nat} {f fP fB : Addr} {fd fdP fdB : FuncData} (F : Fun K "note_free_names" "note_free_names" g_note_free_names f fd) (mz : mg "zip" = none)
    (GP : Fn P w K mg base CX0 1 "parts" p_parts spParts fP fdP) (GB : Fn P w K mg base CX0 2 "bound_in_parts" p_bound_in_parts spBnd fB fdB)
    (GN : Fn P w K mg base CX0 (n + 3) "note_free_names" p_note_free_names (spNote n) f fd) : FnOk P w K mg base CX0 (n + 4) f fd p_note_free_names (spNote (n + 1)) := by
  refine F.ok (k := n + 3) sc_note_free_names (fun vs H Q E h => ?_) (fun cdv A outer st H vs Q E hr h => ?_)
  · obtain ⟨R, e, bs, ks, v, b, fa, rfl, _⟩ := h
    rfl
  · obtain ⟨R, e, bs, ks, v, b, fa, rfl, sub, hv, hb, rf, hf, dep, sm, sz, bl, q⟩ := h
    have hu := hu_of hr
    refine ⟨_, (C8.pss_cut (ps_if (PW.pt (pw_and (pt_cmpR op_eq (pe_ix ix_tup (pv 0) (pe_int) (fun _ _ => rfl)) (pe_str) (nomark _)) (pw_and1 (pt_cmpR op_notIn_seq (pe_ix ix_tup (pv 0) (pe_int) (fun _ _ => rfl)) (pv 1) (by rfl))))) (pss_one (ps_dput hu (pv 2) (pe_ix ix_tup (pv 0) (pe_int) (fun _ _ => rfl)) (pe_bl) rfl)) pss_nil)
      (pss_one (ps_for PassesOwn.never rfl (pi_zip (by rfl) mz (pa_cons (pe_call GP.ok (hr.mono (by omega)) (by rfl) GP.g GP.kp GP.b .nil pass0 (pa_cons (pv 0) pa_nil)) (pa_cons (pe_call GB.ok (hr.mono (by omega)) (by rfl) GB.g GB.kp GB.b .nil pass0 (pa_cons (pv 0) pa_nil)) pa_nil))) (pg_tup rfl (pgs_cons (pg_name (i := 3) sc_note_free_names.nd rfl (Or.inl rfl)) (pgs_cons (pg_name (i := 4) sc_note_free_names.nd rfl (Or.inl rfl)) pgs_nil))) (pss_one (ps_expr (pe_call GN.ok hr (by rfl) GN.g GN.kp GN.b .nil pass0 (pa_cons (pv 3) (pa_cons (pe_tup (StX.pa_star (pv 1) (StX.pa_star (pv 4) pa_nil))) (pa_cons (pv 2) pa_nil))))))))), ?_⟩
    obtain ⟨pb, bvs, rfl, hpb, hbs⟩ := hb
    have ebs := ats_str hbs
    subst ebs
    have hpb' := sub _ _ hpb
    have hcl := sm_len sm
    have hparts := ex_parts e hcl
    have hbnd := ex_bnd e hcl
    have hsum := ex_sum e
    obtain ⟨pe, er, rfl, hpe⟩ := ex_head hv
    have hpe := sub _ _ hpe
    refine ⟨fun σ H1 => σ = [some (.ref pe), some (.ref pb), some (.ref fa), none, none] ∧ Mv (fun x => x = fa) R H R H1 ∧ H1 fa = some (.dK (nkK (preN e bs ks))), ?_, ?_⟩
    · refine ⟨_, rfl, pe, _, 0, _, rfl, rfl, SqT.of hpe, atI_nat (j := 0) rfl, rfl, _, rfl, ?_⟩
      by_cases hx : ∃ x, e = .name x
      · obtain ⟨x, rfl⟩ := hx
        have hv2 := hv
        obtain ⟨pe2, _, e1, hpe2, _, _, rfl, rfl, _, _, rfl, rfl, rfl⟩ := hv2
        obtain rfl : pe = pe2 := V.ref.inj e1
        have hpe2 := sub _ _ hpe2
        refine ifT (decide_eq_true rfl) ?_
        refine ⟨_, rfl, pe, _, 1, _, rfl, rfl, SqT.of hpe2, rfl, _, rfl, pb, _, rfl, .inr (SqT.of hpb'), rfl, flat_str bs, _, rfl, ?_⟩
        show if (!inV (.str x) (bs.map V.str)) = true then _ else _
        rw [inV_str]
        by_cases c : x ∈ bs
        · refine ifF (by rw [decide_eq_true c]; rfl) ?_
          refine ⟨rfl, .refl sub, ?_⟩
          show H fa = some (.dK (nkK (if x ∈ bs then ks else addN x ks)))
          rw [if_pos c]
          exact hf
        · refine ifT (by rw [decide_eq_false c]; rfl) ?_
          have hl : (nkK ks).length < sizeLine := by
            unfold nkK
            rw [List.length_map]
            exact Nat.lt_of_lt_of_le (by have : exN (.name x) = 1 := rfl; omega : ks.length < 1000001) (by decide)
          refine ⟨_, rfl, _, rfl, pe, _, 1, _, rfl, rfl, SqT.of hpe2, rfl, fa, _, rfl, DPut.k (k := (Sum.inr x : Key)) hf hl, ?_⟩
          refine ⟨rfl, mv_at sub rf hf rfl, ?_⟩
          show (upd H fa _) fa = some (.dK (nkK (if x ∈ bs then ks else addN x ks)))
          rw [if_neg c, upd_same, nkK_put]
      · obtain ⟨hn, hp⟩ := tag_name (e := e) fun x h => hx ⟨x, h⟩
        rw [hp]
        refine isF hn ?_
        exact ⟨rfl, .refl sub, hf⟩
    · rintro σ H1 ⟨rfl, mv1, hf1⟩
      refine ⟨_, rfl, R, _, _, _, rfl, mv1.sub, hv, hparts, fun R2 H2 u2 m2 au2 => ?_⟩
      refine ⟨_, rfl, R2, _, _, _, rfl, m2.sub, hv.up m2.up, hbnd, fun R3 H3 u3 m3 au3 => ?_⟩
      have au2 := au2.up m3.up
      obtain ⟨p1, xs, rfl, hp1, a1⟩ := au2
      obtain ⟨p2, ys, rfl, hp2, a2⟩ := au3
      have l1 := a1.length
      have l2 := a2.length
      rw [List.length_map] at l1
      rw [show (bndD (bnds e)).length = (bnds e).length by unfold bndD; rw [List.length_map], ← parts_bnds] at l2
      have mv3 : Mv (fun x => x = fa) R H R3 H3 := (mv1.tr0 m2).tr0 m3
      have hf3 := (m2.tr m3).same _ _ hf1
      have rf3 := (m2.tr m3).out (show R fa = none from rf) hf1
      refine ⟨p1, p2, xs, ys, rfl, SqL.of (m3.sub _ _ hp1), SqL.of (m3.sub _ _ hp2), ?_⟩
      refine RZ.for_zipL (K := K) (a := p1) (b := p2) (xs := xs) (ys := ys) (by rw [l1, l2]) (fun i σ H' => ∃ (R' : Hp) (x y : Option V), σ = [some (.ref pe), some (.ref pb), some (.ref fa), x, y] ∧ Mv (fun x => x = fa) R H R' H' ∧ Same R3 R' ∧ R' fa = none ∧ H' fa = some (.dK (nkK (foldN (((exParts e).zip (bnds e)).take i) bs (preN e bs ks))))) ⟨R3, none, none, rfl, mv3, .refl _, rf3, hf3⟩ ?_ ?_ ?_
      · rintro i σ H' ⟨R', x, y, rfl, mv', s3, _, _⟩
        exact ⟨SqL.of (mv'.sub _ _ (s3 _ _ hp1)), SqL.of (mv'.sub _ _ (s3 _ _ hp2))⟩
      · rintro i u w T σ H' hu' hw' ⟨R', x, y, rfl, mv', s3, rf', hf'⟩ nT
        obtain ⟨dd, hdd, ad⟩ := a1.mem hu'
        obtain ⟨db, hdb, ab⟩ := a2.mem hw'
        rw [List.getElem?_map] at hdd
        unfold bndD at hdb
        rw [List.getElem?_map] at hdb
        cases eg : (exParts e)[i]? with
        | none => rw [eg] at hdd; cases hdd
        | some g =>
          cases eb : (bnds e)[i]? with
          | none => rw [eb] at hdb; cases hdb
          | some b2 =>
            rw [eg] at hdd
            rw [eb] at hdb
            obtain rfl : g.d false = dd := Option.some.inj hdd
            obtain rfl : D.tup (b2.map D.str) = db := Option.some.inj hdb
            have ez : ((exParts e).zip (bnds e))[i]? = some (g, b2) := List.getElem?_zip_eq_some.mpr ⟨eg, eb⟩
            obtain ⟨pd, ps⟩ := part_mem (List.mem_of_getElem? eg)
            have b2l := bnds_two (List.mem_of_getElem? eb)
            have ab := ab.up s3
            obtain ⟨pb2, b2vs, rfl, hpb2, hb2s⟩ := ab
            have eb2 := ats_str hb2s
            subst eb2
            have mT : Mv (fun x => x = fa) R' H' R' _ := mv_mut (o := .tup [u, .ref pb2]) mv'.sub nT
            refine ⟨T, _, rfl, SqT.of upd_same, rfl, _, _, rfl, _, _, rfl, rfl, ?_⟩
            refine ⟨_, rfl, _, rfl, pb, _, rfl, .inl (SqT.of (mT.sub _ _ (mv'.up _ _ hpb))), _, rfl, pb2, _, rfl, .inl (SqT.of (mT.sub _ _ hpb2)), ?_⟩
            have e3 : bs.map V.str ++ (b2.map V.str ++ []) = (bs ++ b2).map V.str := by rw [List.append_nil, List.map_append]
            refine ⟨by show (bs.map V.str ++ (b2.map V.str ++ [])).length ≤ sizeLine; rw [e3, List.length_map, List.length_append]; exact big3' (by omega), fun pn nn => ?_⟩
            have mN := mT.tr (mv_new (F := fun x => x = fa) (o := .tup (bs.map V.str ++ (b2.map V.str ++ []))) mT.sub nn)
            have hfN := (mv_new (F := F0) (o := .tup (bs.map V.str ++ (b2.map V.str ++ []))) mT.sub nn).same _ _ (show (upd H' T (.tup [u, .ref pb2])) fa = some _ from by rw [upd_ne (ne_of_none hf' nT)]; exact hf')
            have rfN := (mT.tr (mv_new (F := fun x => x = fa) (o := .tup (bs.map V.str ++ (b2.map V.str ++ []))) mT.sub nn)).out rf' hf'
            refine ⟨_, rfl, ?_⟩
            have fl := foldN_len (((exParts e).zip (bnds e)).take i) bs (preN e bs ks)
            have st := sumN_take _ _ _ ez
            have pl : (preN e bs ks).length ≤ ks.length + 1 := by
              by_cases hx : ∃ x, e = .name x
              · obtain ⟨x, rfl⟩ := hx
                show (if x ∈ bs then ks else addN x ks).length ≤ _
                split
                · omega
                · exact addN_len x ks
              · rw [(tag_name (e := e) fun x h => hx ⟨x, h⟩).2]; omega
            have st2 : sumN (((exParts e).zip (bnds e)).take i) + exN g ≤ sumN ((exParts e).zip (bnds e)) := st
            refine ⟨_, g, bs ++ b2, _, u, .ref pn, fa, rfl, mN.sub, (ad.up s3).up mN.up, .ntup (l := (bs ++ b2).map D.str) mT.sub nn (by rw [e3]; exact str_ats _), rfN, hfN, by omega, ps sm, by omega, by rw [List.length_append]; omega, fun R4 H4 m4 hf4 => ?_⟩
            refine ⟨R4, _, _, rfl, (mv'.tr mN).tr m4, (s3.trans mN.up).trans m4.up, m4.out rfN hfN, ?_⟩
            rw [hf4, List.take_add_one, ez]
            show _ = some (HO.dK (nkK (foldN (((exParts e).zip (bnds e)).take i ++ [(g, b2)]) bs (preN e bs ks))))
            rw [foldN_snoc]
      · rintro σ H' ⟨R', x, y, rfl, mv', s3, rf', hf'⟩
        rw [l1, List.take_of_length_le (by rw [List.length_zip]; exact Nat.min_le_left _ _), ← ex_fold] at hf'
        exact q R' H' mv' hf'
end
end Bz


set_option Elab.async false
set_option linter.all false
set_option maxRecDepth 100000
set_option maxHeartbeats 4000000
namespace Bz
open PySem PySem.Spec L2 PyProof.Rows
section
variable {P : Program} {w : World} {K : PySem.W.Frag} {mg : Str → Option Value} {base : Heap}
theorem note_all {f fP fB : Addr} {fd fdP fdB : FuncData} (F : Fun K "note_free_names" "note_free_names" g_note_free_names f fd) (mz : mg "zip" = none)
    (GP : Fn P w K mg base CX0 1 "parts" p_parts spParts fP fdP) (GB : Fn P w K mg base CX0 2 "bound_in_parts" p_bound_in_parts spBnd fB fdB) (g : mg "note_free_names" = some (.ref f)) (b : Binds K fd p_note_free_names []) :
    ∀ n, Fn P w K mg base CX0 (n + 3) "note_free_names" p_note_free_names (spNote n) f fd
  | 0 => ⟨ok_note0 F, g, F.kp, b⟩
  | n + 1 => ⟨ok_note F mz GP GB (note_all F mz GP GB g b n), g, F.kp, b⟩
abbrev g_free_names : Stmt := topS 5
abbrev n_free_names : List Str := ["expression", "found"]
abbrev p_free_names : List Str := ["expression"]
theorem sc_free_names : FnScope n_free_names p_free_names (defScope g_free_names) := ⟨rfl, rfl, rfl, by decide +kernel, rfl, by decide +kernel, by decide +kernel⟩
def spFree (n : Nat) : Sp := fun vs H Q _ => ∃ (R : Hp) (e : Ex) (v : V), vs = [v] ∧ Same R H ∧ At R (e.d false) v ∧ exD e ≤ n ∧ n ≤ 4000 ∧ smE e = true ∧ exN e ≤ 1000000 ∧ (noted e [] []).length < 64 ∧
  ∀ (R' H' : Hp) (u : V), Mv F0 R H R' H' → At R' (.lst ((fv e).map D.str)) u → Q u H'
theorem ok_free {n : Nat} {f fN : Addr} {fd fdN : FuncData} (F : Fun K "free_names" "free_names" g_free_names f fd) (mso : mg "sorted" = none)
    (GN : Fn P w K mg base CX0 (n + 3) "note_free_names" p_note_free_names (spNote n) fN fdN) : FnOk P w K mg base CX0 (n + 4) f fd p_free_names (spFree n) := by
  refine F.ok (k := n + 3) sc_free_names (fun vs H Q E h => ?_) (fun cdv A outer st H vs Q E hr h => ?_)
  · obtain ⟨R, e, v, rfl, _⟩ := h
    rfl
  · obtain ⟨R, e, v, rfl, sub, hv, dep, n4, sm, sz, few, q⟩ := h
    refine ⟨_, (pss_cons (ps_set (i := 1) sc_free_names.nd rfl (Or.inl rfl) pe_dnewK)
      (pss_cons (ps_expr (pe_call GN.ok hr (by rfl) GN.g GN.kp GN.b .nil pass0 (pa_cons (pv 0) (pa_cons (pe_tup pa_nil) (pa_cons (pv 1) pa_nil)))))
      (pss_one (ps_ret (pe_callB (call_sortedD rfl) (by rfl) mso (by decide +kernel) (pa_cons (pv 1) pa_nil)))))), ?_⟩
    intro d nd
    have m1 : Mv F0 R H R _ := mv_mut (o := .dK []) sub nd
    refine ⟨_, rfl, Nat.zero_le _, fun pt nt => ?_⟩
    have hd1 : (upd H d (.dK [])) d = some (.dK []) := upd_same
    have m2 := m1.tr (mv_new (o := .tup []) m1.sub nt)
    have hd2 := same_new (o := .tup []) nt _ _ hd1
    have rd : R d = none := sub.free nd
    have rd2 := (mv_new (F := F0) (o := .tup []) m1.sub nt).out rd hd1
    refine ⟨_, rfl, ?_⟩
    refine ⟨_, e, [], [], v, .ref pt, d, rfl, m2.sub, hv.up m2.up, .ntup (vs := []) m1.sub nt rfl, rd2, hd2, dep, sm, by show 0 + exN e ≤ _; omega, by show 0 + 2 * n ≤ _; omega, fun R3 H3 m3 hd3 => ?_⟩
    refine ⟨_, rfl, d, _, noted e [] [], rfl, .inl hd3, ?_, few, fun ys p hp hs np => ?_⟩
    · unfold nkK
      rw [List.map_map]
      exact List.map_congr_left fun _ _ => rfl
    have ey : ys = fv e := sort_uniq hp hs (noted_nd e [] List.nodup_nil)
    subst ey
    have m23 : Mv F0 R H R3 H3 := m2.trans m3 (fun _ f => f) fun x f => .inr (by rw [f]; exact nd)
    exact q _ _ _ (m23.tr (mv_new m23.sub np)) (.nlst m23.sub np (str_ats _))
/-- no function has too many free names -/
def isFnE : Ex → Bool
  | .fn _ _ => true
  | .rc _ _ _ => true
  | _ => false
def okP : Nat → Ex → Prop
  | 0, _ => True
  | n + 1, e => (isFnE e = true → (noted e [] []).length < 64 ∧ exN e ≤ 1000000) ∧ ∀ g ∈ exParts e, okP n g
end
end Bz


set_option Elab.async false
set_option linter.all false
set_option maxRecDepth 100000
set_option maxHeartbeats 4000000
namespace Bz
open PySem PySem.Spec L2 PyProof.Rows
abbrev g__law_state : Stmt := topS 13
abbrev n__law_state : List Str := ["script", "cells", "cell"]
abbrev p__law_state : List Str := ["script"]
theorem sc__law_state : FnScope n__law_state p__law_state (defScope g__law_state) := ⟨rfl, rfl, rfl, by decide +kernel, rfl, by decide +kernel, by decide +kernel⟩
abbrev g__law_take : Stmt := topS 14
abbrev n__law_take : List Str := ["state", "most", "cells", "at", "cell", "mixed"]
abbrev p__law_take : List Str := ["state", "most"]
theorem sc__law_take : FnScope n__law_take p__law_take (defScope g__law_take) := ⟨rfl, rfl, rfl, by decide +kernel, rfl, by decide +kernel, by decide +kernel⟩
section
variable {P : Program} {w : World} {K : PySem.W.Frag} {mg : Str → Option Value} {base : Heap}
/-! ### the state -/
def Bits (z : Int) : Prop := 0 ≤ z
def StAt (H : Hp) (s c : Addr) : Prop := ∃ (i : Int) (cs : List Int), H s = some (.lst [.int i, .ref c]) ∧ H c = some (.lst (cs.map V.int)) ∧ cs ≠ [] ∧ cs.length ≤ 63 ∧ ∀ z ∈ cs, Bits z
abbrev Fst (s c : Addr) : Addr → Prop := fun a => a = s ∨ a = c
theorem StAt.stay {F : Addr → Prop} {R H R' H' : Hp} {s c : Addr} (h : StAt H s c) (k : Mv F R H R' H') (hs : ¬ F s) (hc : ¬ F c) : StAt H' s c := by
  obtain ⟨i, cs, h1, h2, h3⟩ := h
  exact ⟨i, cs, k.keep _ _ h1 hs, k.keep _ _ h2 hc, h3⟩
def spTake : Sp := fun vs H Q _ => ∃ (R : Hp) (s c : Addr) (m : Int), vs = [.ref s, .int m] ∧ 0 < m ∧ m < 1073741824 ∧ Same R H ∧ R s = none ∧ R c = none ∧ StAt H s c ∧
  ∀ (H' : Hp) (v : Int), StAt H' s c → Mv (Fst s c) R H R H' → 0 ≤ v → v < m → Q (.int v) H'
theorem fdiv_bits {z m : Int} (h : Bits z) (hm : 0 < m) : Bits (z / m) := by
  exact Int.ediv_nonneg h (by omega)
theorem set_map {cs : List Int} {j : Nat} {z : Int} : (cs.map V.int).set j (.int z) = (cs.set j z).map V.int := by
  rw [List.map_set]
theorem st_ne {i : Int} {c : Addr} {cs : List Int} : HO.lst [V.int i, V.ref c] ≠ HO.lst (cs.map V.int) := by
  intro q
  have q2 := HO.lst.inj q
  cases cs with
  | nil => cases q2
  | cons x r =>
    cases r with
    | nil => simp at q2
    | cons y r => simp at q2
theorem ok_take {f : Addr} {fd : FuncData} (F : Fun K "_law_take" "_law_take" g__law_take f fd) (ml : mg "len" = none) (mi : mg "int" = none) : FnOk P w K mg base CX0 1 f fd p__law_take spTake := by
  refine F.ok sc__law_take (fun vs H Q E h => ?_) (fun cdv A outer s H vs Q E hr h => ?_)
  · obtain ⟨R, s, c, m, rfl, _⟩ := h
    rfl
  · obtain ⟨R, a, c, m, rfl, hm0, hm1, sub, rs, rc, ⟨i, cs, hs, hc, hne, hlen, hb⟩, k⟩ := h
    refine ⟨_, pss_cons (ps_set (i := 2) sc__law_take.nd rfl (Or.inl rfl) (pe_ix ix_list (pv 0) pe_int (fun _ _ => rfl)))
      (pss_cons (ps_set (i := 3) sc__law_take.nd rfl (Or.inl rfl) (pe_op op_mod (pe_ix ix_list (pv 0) pe_int (fun _ _ => rfl)) (pe_callB call_len_seq (by rfl) ml PySem.boot_len (pa_cons (pv 2) pa_nil))))
      (pss_cons (ps_set (i := 4) sc__law_take.nd rfl (Or.inl rfl) (pe_ix ix_list (pv 2) (pv 3) (fun _ _ => rfl)))
      (pss_cons (ps_if (pt_cmpR op_ge (pv 4) pe_int (nomark _))
        (pss_cons (ps_asg (pe_op op_fdivW (pv 4) (pv 1)) (pg_sub (pv 2) (pv 3) set_list))
          (pss_one (ps_ret (pe_op op_mod (pv 4) (pv 1))))) pss_nil)
      (pss_cons (ps_asg (pe_op op_add (pe_ix ix_list (pv 0) pe_int (fun _ _ => rfl)) pe_int) (pg_sub (pv 0) pe_int set_list))
      (pss_cons (ps_set (i := 5) sc__law_take.nd rfl (Or.inl rfl) (pe_op op_mod (pe_callTy call_int1 (by rfl) mi (by decide +kernel) (pa_cons (pe_op op_add (pe_op op_mul (pv 4) pe_int) (pe_op op_mul (pe_ix ix_list (pv 0) pe_int (fun _ _ => rfl)) pe_int)) pa_nil)) pe_int))
      (pss_cons (ps_set (i := 5) sc__law_take.nd rfl (Or.inl rfl) (pe_op op_mod (pe_callTy call_int1 (by rfl) mi (by decide +kernel) (pa_cons (pe_op op_add (pe_op op_mul (pv 5) pe_int) (pe_op op_mul (pe_ix ix_list (pv 0) pe_int (fun _ _ => rfl)) pe_int)) pa_nil)) pe_int))
      (pss_one (ps_ret (pe_op op_mod (pe_op op_fdivW (pv 5) pe_int) (pv 1)))))))))), ?_⟩
    have hcl : 0 < cs.length := by
      cases cs with
      | nil => exact absurd rfl hne
      | cons x r => exact Nat.succ_pos _
    -- cells = state[1]
    refine ⟨_, rfl, a, _, 1, _, rfl, rfl, SqL.of hs, atI_nat (j := 1) rfl, ?_⟩
    -- at = state[0] % len(cells)
    refine ⟨_, rfl, a, _, 0, _, rfl, rfl, SqL.of hs, atI_nat (j := 0) rfl, _, rfl, c, _, rfl, .inl (SqL.of hc), i, (cs.length : Int), rfl, (by rw [List.length_map]), (by omega), ?_⟩
    have r0 : 0 ≤ i % (cs.length : Int) := Int.emod_nonneg i (by omega)
    have r1 : i % (cs.length : Int) < (cs.length : Int) := Int.emod_lt_of_pos i (by omega)
    obtain ⟨j, hj⟩ : ∃ j : Nat, i % (cs.length : Int) = (j : Int) := ⟨(i % (cs.length : Int)).toNat, by omega⟩
    rw [hj] at r0 r1
    show gName 3 (.int (i % (cs.length : Int))) _ _ _
    rw [hj]
    have hjl : j < cs.length := by omega
    have hat : (cs.map V.int)[j]? = some (.int cs[j]) := by
      rw [List.getElem?_map, List.getElem?_eq_getElem hjl]
      rfl
    have hz : Bits cs[j] := hb _ (List.getElem_mem hjl)
    generalize cs[j] = z at hat hz
    -- cell = cells[at]
    refine ⟨_, rfl, _, rfl, c, _, _, _, rfl, rfl, SqL.of hc, atI_nat hat, ?_⟩
    -- if cell >= 10 ** 18
    refine ⟨_, rfl, _, _, rfl, rfl, _, rfl, ite2 (fun h => ?_) (fun h => ?_)⟩
    · have ac : a ≠ c := ne_of hs hc st_ne
      have hix : ixN (cs.map V.int).length (j : Int) = some j := by
        unfold ixN
        rw [List.length_map, if_pos (by omega), if_pos (by omega)]
        rfl
      refine ⟨_, rfl, _, rfl, _, _, rfl, rfl, wide_div (b := 30) hm0 (by omega) (by decide) (by decide), _, rfl, _, rfl, c, _, _, j, rfl, rfl, hc, hix, ?_⟩
      · refine ⟨_, rfl, _, rfl, _, _, rfl, rfl, by omega, ?_⟩
        refine k _ _ ⟨i, cs.set j (z / m), by rw [upd_ne ac]; exact hs, by rw [upd_same, set_map], ?_, ?_, ?_⟩ (mv_at sub rc hc (.inr rfl)) (Int.emod_nonneg _ (by omega)) (Int.emod_lt_of_pos _ hm0)
        · intro q
          have := congrArg List.length q
          rw [List.length_set] at this
          exact hne (List.length_eq_zero_iff.mp this)
        · rw [List.length_set]; exact hlen
        · intro y hy
          rcases List.mem_or_eq_of_mem_set hy with q | q
          · exact hb y q
          · rw [q]; exact fdiv_bits hz hm0
    · have hz1 : z < 1000000000000000000 := by
        have h2 : ¬ (decide ((1000000000000000000 : Int) ≤ z) = true) := h
        rw [decide_eq_true_eq] at h2
        omega
      have hz0 : 0 ≤ z := hz
      have ac : c ≠ a := (ne_of hs hc st_ne).symm
      -- state[0] = state[0] + 1
      refine ⟨_, rfl, a, _, 0, _, rfl, rfl, SqL.of hs, atI_nat (j := 0) rfl, _, _, rfl, rfl, _, rfl, a, _, _, 0, rfl, rfl, hs, rfl, ?_⟩
      have hs' : (upd H a (.lst [V.int (i + 1), V.ref c])) a = some (.lst [V.int (i + 1), V.ref c]) := upd_same
      -- mixed, twice
      refine ⟨_, rfl, _, _, rfl, rfl, .inl ⟨by omega, by omega⟩, _, rfl, a, _, 0, _, rfl, rfl, SqL.of hs', atI_nat (j := 0) rfl, _, _, rfl, rfl, .inr ⟨by decide, by decide⟩, _, _, rfl, rfl, .inl ⟨_, rfl, _, _, rfl, rfl, (by show (0 : Int) < 2147483647; decide), ?_⟩⟩
      have b1 : 0 ≤ (z * 48271 + (i + 1) * 69621) % 2147483647 := Int.emod_nonneg _ (by decide)
      have b2 : (z * 48271 + (i + 1) * 69621) % 2147483647 < 2147483647 := Int.emod_lt_of_pos _ (by decide)
      show gName 5 (.int ((z * 48271 + (i + 1) * 69621) % 2147483647)) _ _ _
      generalize (z * 48271 + (i + 1) * 69621) % 2147483647 = y at b1 b2
      refine ⟨_, rfl, _, _, rfl, rfl, .inl ⟨by omega, by omega⟩, _, rfl, a, _, 0, _, rfl, rfl, SqL.of hs', atI_nat (j := 0) rfl, _, _, rfl, rfl, .inr ⟨by decide, by decide⟩, _, _, rfl, rfl, .inl ⟨_, rfl, _, _, rfl, rfl, (by show (0 : Int) < 1000000007; decide), ?_⟩⟩
      refine ⟨_, rfl, _, _, rfl, rfl, ⟨by decide, by decide⟩, _, rfl, _, _, rfl, rfl, hm0, ?_⟩
      exact k _ _ ⟨i + 1, cs, hs', by rw [upd_ne ac]; exact hc, hne, hlen, hb⟩ (mv_at sub rs hs (.inl rfl)) (Int.emod_nonneg _ (by omega)) (Int.emod_lt_of_pos _ hm0)
theorem cut63 {xs : List V} (h : xs.length ≤ 63) : cutV xs none (some 63) = xs := by
  unfold cutV
  rw [HT.sIx_none, show HT.sIx xs.length xs.length (some 63) = min 63 xs.length from HT.sIx_nat xs.length _ 63, Nat.min_eq_right h]
  simp
theorem abs_bits {z : Int} : Bits (if z < 0 then -z else z) := by
  show 0 ≤ (if z < 0 then -z else z)
  split <;> omega
def spState (K : PySem.W.Frag) : Sp := fun vs H Q _ => ∃ (a : Addr) (ns : List Int), vs = [.ref a] ∧ SqL K H a (ns.map V.int) ∧ ns.length ≤ 63 ∧
  ∀ (H' : Hp) (s c : Addr), StAt H' s c → Same H H' → H s = none → H c = none → Q (.ref s) H'
theorem ok_state {f : Addr} {fd : FuncData} (F : Fun K "_law_state" "_law_state" g__law_state f fd) (ml : mg "len" = none) (ma : mg "abs" = none) : FnOk P w K mg base CX0 1 f fd p__law_state (spState K) := by
  refine F.ok sc__law_state (fun vs H Q E h => ?_) (fun cdv A outer s H vs Q E hr h => ?_)
  · obtain ⟨a, ns, rfl, _⟩ := h
    rfl
  · obtain ⟨a, ns, rfl, hS, hlen, k⟩ := h
    refine ⟨_, pss_cons (ps_setLc (i := 1) (own := [("cell", 2)]) (g := gName 2) (tt := tYes) rfl sc__law_state.nd rfl rfl (sw_true rfl rfl rfl (by decide +kernel)) (pi_list (pe_slice sl_list (pv 0) po_none (po_some pe_int)))
        (blkOk_by (N := n__law_state) (sc := defScope g__law_state) (by decide +kernel)) (fun _ _ _ _ _ => pg_name (i := 2) sc__law_state.nd rfl (Or.inl rfl)) (fun _ _ _ _ _ => pts_nil)
        (fun _ _ _ _ _ => pe_callB call_abs (by rfl) ma (by decide +kernel) (pa_cons (pv 2) pa_nil)))
      (pss_cons (ps_if (pt_cmpR op_eq (pe_callB call_len_seq (by rfl) ml PySem.boot_len (pa_cons (pv 1) pa_nil)) pe_int (nomark _))
        (pss_one (ps_set (i := 1) sc__law_state.nd rfl (Or.inl rfl) (pe_lst (pa_cons pe_int pa_nil)))) pss_nil)
      (pss_one (ps_ret (pe_lst (pa_cons pe_int (pa_cons (pv 1) pa_nil)))))), ?_⟩
    -- script[:63]
    refine ⟨_, rfl, 63, rfl, a, ns.map V.int, rfl, hS, fun p np => ?_⟩
    have ec : cutV (ns.map V.int) none (some 63) = ns.map V.int := cut63 (by rw [List.length_map]; exact hlen)
    have s1 : Same H (upd H p (.lst (cutV (ns.map V.int) none (some 63)))) := same_new np
    refine ⟨p, rfl, ⟨_, SqL.of upd_same⟩, fun D hD => ?_⟩
    have nDp : D ≠ p := fun q => by
      rw [q, upd_same] at hD
      cases hD
    have hD0 : H D = none := s1.free hD
    refine lc_list (K := K) (a := p) (xs := ns.map V.int) (fun i H2 => Same H H2 ∧ H2 p = some (.lst (ns.map V.int)) ∧ H2 D = some (.lst (((ns.take i).map fun z : Int => if z < 0 then -z else z).map V.int))) ⟨?_, ?_, ?_⟩ (fun i H2 _ q => SqL.of q.2.1) ?_ ?_
    · exact s1.trans (same_new hD)
    · rw [upd_ne nDp.symm, upd_same, ec]
    · rw [upd_same]
      rfl
    · rintro i x H2 hi ⟨q1, q2, q3⟩
      rw [List.getElem?_map] at hi
      cases e : ns[i]? with
      | none =>
        rw [e] at hi
        cases hi
      | some z =>
        rw [e] at hi
        obtain rfl : V.int z = x := Option.some.inj hi
        refine ⟨rfl, _, rfl, z, rfl, _, q3, ?_, ?_, ?_, ?_⟩
        · rw [List.length_map, List.length_map, List.length_take]
          exact Nat.lt_of_le_of_lt (Nat.min_le_left _ _) (small1000 (by have := (List.getElem?_eq_some_iff.mp e).1; omega))
        · exact fun b o h => by
            rw [upd_ne (ne_of_none h hD0)]
            exact q1 b o h
        · rw [upd_ne nDp.symm]
          exact q2
        · rw [upd_same, List.take_add_one, e, List.map_append, List.map_append]
          rfl
    · rintro H2 ⟨q1, q2, q3⟩
      rw [List.length_map, List.take_length] at q3
      -- if len(cells) == 0
      refine ⟨_, rfl, D, _, rfl, .inl (SqL.of q3), rfl, _, rfl, ite2 (fun e => ?_) (fun e => ?_)⟩
      · refine ⟨by decide, fun c hc => ?_⟩
        refine ⟨_, rfl, by show 2 ≤ sizeLine; decide, fun s hs => ?_⟩
        refine k _ s c ⟨0, [0], upd_same, ?_, by decide, by decide, ?_⟩ ?_ ?_ ?_
        · rw [upd_ne fun q => ?_, upd_same]
          · rfl
          · rw [q, upd_same] at hs
            cases hs
        · intro z hz
          rw [List.mem_singleton.mp hz]
          exact Int.le_refl _
        · exact (q1.trans (same_new hc)).trans (same_new hs)
        · exact (q1.trans (same_new hc)).free hs
        · exact q1.free hc
      · refine ⟨_, rfl, by show 2 ≤ sizeLine; decide, fun s hs => ?_⟩
        have e0 : ns ≠ [] := fun q => by
          subst q
          exact e (decide_eq_true rfl)
        refine k _ s D ⟨0, ns.map fun z : Int => if z < 0 then -z else z, upd_same, ?_, ?_, ?_, ?_⟩ (q1.trans (same_new hs)) (q1.free hs) hD0
        · rw [upd_ne (ne_of_none q3 hs)]
          exact q3
        · intro q
          exact e0 (List.map_eq_nil_iff.mp q)
        · rw [List.length_map]; exact hlen
        · intro y hy
          obtain ⟨z, hz, rfl⟩ := List.mem_map.mp hy
          exact abs_bits
end
end Bz


set_option Elab.async false
set_option linter.all false
set_option maxRecDepth 100000
set_option maxHeartbeats 4000000
namespace Bz
open PySem PySem.Spec L2 PyProof.Rows
mutual
/-- all the parts, each before its own -/
def pre : Ex → List Ex
  | .num n => [.num n] | .flag b => [.flag b] | .unit => [.unit] | .name x => [.name x]
  | .call f e => .call f e :: (pre f ++ pre e) | .fn x e => .fn x e :: pre e | .rc h x e => .rc h x e :: pre e | .lt x e f => .lt x e f :: (pre e ++ pre f) | .ite e f g => .ite e f g :: (pre e ++ (pre f ++ pre g))
  | .pair e f => .pair e f :: (pre e ++ pre f) | .fst e => .fst e :: pre e | .snd e => .snd e :: pre e | .op s e f => .op s e f :: (pre e ++ pre f) | .nt e => .nt e :: pre e | .pr e f => .pr e f :: (pre e ++ pre f) | .ask o e => .ask o e :: pre e
  | .hd e x f cs => .hd e x f cs :: (pre e ++ (pre f ++ preC cs))
def preC : Clz → List Ex
  | .nil => []
  | .cons _ _ _ g r => pre g ++ preC r
end
theorem preC_flat : ∀ c : Clz, preC c = c.gs.flatMap pre
  | .nil => rfl
  | .cons o x k g r => by
    show pre g ++ preC r = (g :: r.gs).flatMap pre
    rw [List.flatMap_cons, preC_flat r]
theorem pre_flat (e : Ex) : pre e = e :: (exParts e).flatMap pre := by
  cases e <;> simp [pre, exParts, preC_flat]
mutual
theorem pre_len : ∀ e : Ex, (pre e).length = exN e
  | .num _ => rfl | .flag _ => rfl | .unit => rfl | .name _ => rfl
  | .call f e => by simp only [pre, exN, List.length_cons, List.length_append, pre_len f, pre_len e]
  | .fn x e => by simp only [pre, exN, List.length_cons, pre_len e]
  | .rc h x e => by simp only [pre, exN, List.length_cons, pre_len e]
  | .lt x f e => by simp only [pre, exN, List.length_cons, List.length_append, pre_len f, pre_len e]
  | .ite e f g => by simp only [pre, exN, List.length_cons, List.length_append, pre_len e, pre_len f, pre_len g]
  | .pair f e => by simp only [pre, exN, List.length_cons, List.length_append, pre_len f, pre_len e]
  | .fst e => by simp only [pre, exN, List.length_cons, pre_len e]
  | .snd e => by simp only [pre, exN, List.length_cons, pre_len e]
  | .op s f e => by simp only [pre, exN, List.length_cons, List.length_append, pre_len f, pre_len e]
  | .nt e => by simp only [pre, exN, List.length_cons, pre_len e]
  | .pr f e => by simp only [pre, exN, List.length_cons, List.length_append, pre_len f, pre_len e]
  | .ask o e => by simp only [pre, exN, List.length_cons, pre_len e]
  | .hd e x f cs => by simp only [pre, exN, List.length_cons, List.length_append, pre_len e, pre_len f, preC_len cs]
theorem preC_len : ∀ c : Clz, (preC c).length = clN c
  | .nil => rfl
  | .cons o x k g r => by simp only [preC, clN, List.length_append, pre_len g, preC_len r]
end
theorem flat_gePre : ∀ l : List Ex, l.length ≤ (l.flatMap pre).length
  | [] => Nat.le_refl _
  | e :: r => by
    have ih := flat_gePre r
    rw [List.flatMap_cons, List.length_append, List.length_cons]
    have h : 1 ≤ (pre e).length := by rw [pre_flat e, List.length_cons]; omega
    omega
theorem Ats.rev {R : Hp} : ∀ {l : List D} {vs : List V}, Ats R l vs → Ats R l.reverse vs.reverse
  | [], _, h => by rw [show _ = ([] : List V) from h]; exact rfl
  | d :: l, _, ⟨v, r, e, h, a⟩ => by
    rw [e, List.reverse_cons, List.reverse_cons]
    exact (Ats.rev (l := l) a).append (.one h)
section
variable {P : Program} {w : World} {K : PySem.W.Frag} {mg : Str → Option Value} {base : Heap}
abbrev g_numbered : Stmt := topS 3
abbrev n_numbered : List Str := ["expression", "found", "waiting", "one"]
abbrev p_numbered : List Str := ["expression"]
theorem sc_numbered : FnScope n_numbered p_numbered (defScope g_numbered) := ⟨rfl, rfl, rfl, by decide +kernel, rfl, by decide +kernel, by decide +kernel⟩
def spNumb : Sp := fun vs H Q _ => ∃ (R : Hp) (e : Ex) (v : V), vs = [v] ∧ Same R H ∧ At R (e.d false) v ∧ smE e = true ∧ exN e ≤ 1000000 ∧ ∀ (R' H' : Hp) (u : V), Mv F0 R H R' H' → At R' (.lst ((pre e).map (Ex.d false))) u → Q u H'
def NuW (R H : Hp) (v : V) (lf lw : Addr) (e : Ex) (m : Nat) (σ : L2.St) (H' : Hp) : Prop := ∃ (R' : Hp) (x : Option V) (ks ws : List Ex) (fvs wvs : List V), σ = [some v, some (.ref lf), some (.ref lw), x] ∧ Mv F0 R H R' H' ∧ R' lf = none ∧ R' lw = none ∧ H' lf = some (.lst fvs) ∧ H' lw = some (.lst wvs) ∧
  Ats R' (ks.map (Ex.d false)) fvs ∧ Ats R' (ws.reverse.map (Ex.d false)) wvs ∧ ks ++ ws.flatMap pre = pre e ∧ (∀ g ∈ ws, smE g = true) ∧ m = (ws.flatMap pre).length + 1
theorem ok_numb {f fP : Addr} {fd fdP : FuncData} (F : Fun K "numbered" "numbered" g_numbered f fd) (GP : Fn P w K mg base CX0 1 "parts" p_parts spParts fP fdP) : FnOk P w K mg base CX0 2 f fd p_numbered spNumb := by
  refine F.ok (k := 1) sc_numbered (fun vs H Q E h => ?_) (fun cdv A outer st H vs Q E hr h => ?_)
  · obtain ⟨R, e, v, rfl, _⟩ := h
    rfl
  · obtain ⟨R, e, v, rfl, sub, he, sm, big, q⟩ := h
    refine ⟨_, (pss_cons (ps_set (i := 1) sc_numbered.nd rfl (Or.inl rfl) (pe_lst pa_nil))
      (pss_cons (ps_set (i := 2) sc_numbered.nd rfl (Or.inl rfl) (pe_lst (pa_cons (pv 0) pa_nil)))
      (pss_cons (ps_while PassesOwn.never (pt_truth (pv 2) (by intro _; rfl)) (pss_cons (ps_set (i := 3) sc_numbered.nd rfl (Or.inl rfl) (pe_bm0 PySem.F.plainAttrs_list PySem.F.slot_list_pop PySem.F.type_list_pop mt_pop (pv 2)))
      (pss_cons (ps_expr (pe_bm PySem.F.plainAttrs_list PySem.F.slot_list_append PySem.F.type_list_append mt_append (pv 1) (pa_cons (pv 3) pa_nil)))
      (pss_one (ps_expr (pe_bm PySem.F.plainAttrs_list PySem.F.slot_list_extend PySem.F.type_list_extend mt_extend (pv 2) (pa_cons (pe_revL (pe_call GP.ok (hr.mono (by omega)) (by rfl) GP.g GP.kp GP.b .nil pass0 (pa_cons (pv 3) pa_nil))) pa_nil)))))))
      (pss_one (ps_ret (pv 1)))))), ?_⟩
    refine ⟨Nat.zero_le _, fun lf nf => ?_⟩
    refine ⟨_, rfl, by show 1 ≤ sizeLine; decide, fun lw nw => ?_⟩
    have nfw : lf ≠ lw := fun e => by rw [← e, upd_same] at nw; cases nw
    have nw0 : H lw = none := by rw [upd_ne (Ne.symm nfw)] at nw; exact nw
    have m1 : Mv F0 R H R _ := mv_mut (o := .lst []) sub nf
    have m2 : Mv F0 R _ R _ := mv_mut (o := .lst [v]) m1.sub nw
    have m0 := m1.tr m2
    refine ⟨NuW R H v lf lw e, ⟨(pre e).length + 1, R, none, [], [e], [], [v], rfl, m0, sub.free nf, sub.free nw0, ?_, upd_same, rfl, .one he, by simp, fun g hg => by rw [List.mem_singleton.mp hg]; exact sm, by simp⟩, ?_⟩
    · rw [upd_ne nfw, upd_same]
    · rintro m σ H1 ⟨R1, x, ks, ws, fvs, wvs, rfl, mv1, rf, rw_, hf, hw, af, aw, eq, smw, em⟩
      refine ⟨_, rfl, !wvs.isEmpty, .inl ⟨wvs, SqL.of hw, rfl⟩, ?_⟩
      cases ws with
      | nil =>
        obtain rfl : wvs = [] := aw
        refine iteF ?_
        have ek : ks = pre e := by simpa using eq
        subst ek
        refine ⟨_, rfl, ?_⟩
        exact q _ _ _ (mv_freeze mv1 hf rf nf) (At.lst upd_same (af.up (same_new rf)))
      | cons g r =>
        rw [List.reverse_cons, List.map_append] at aw
        obtain ⟨pw, u, rfl, apw, ag⟩ := Ats.last aw
        have eemp : (!(pw ++ [u]).isEmpty) = true := by simp
        refine ifT eemp ?_
        refine ⟨fun σ' H' => ∃ m', m' < m ∧ NuW R H v lf lw e m' σ' H', fun _ _ z => z, ?_⟩
        refine ⟨_, rfl, .inl ⟨rfl, _, SqL.of hw⟩, lw, _, u, rfl, rfl, hw, (by simp), ?_⟩
        rw [List.dropLast_concat]
        have ms1 : Mv (fun x => x = lf ∨ x = lw) R1 H1 R1 _ := mv_at (o := .lst pw) mv1.sub rw_ hw (.inr rfl)
        have hf1 : (upd H1 lw (.lst pw)) lf = some (.lst fvs) := by rw [upd_ne nfw]; exact hf
        have hw1 : (upd H1 lw (.lst pw)) lw = some (.lst pw) := upd_same
        have eqL := congrArg List.length eq
        rw [pre_len, List.length_append, List.flatMap_cons, List.length_append, pre_flat g, List.length_cons] at eqL
        have g1 := flat_gePre r
        have g2 := flat_gePre (exParts g)
        have fl := af.length
        rw [List.length_map] at fl
        have pl_ := apw.length
        rw [List.length_map, List.length_reverse] at pl_
        refine ⟨_, rfl, .inl ⟨rfl, _, SqL.of hf1⟩, _, rfl, lf, fvs, _, rfl, rfl, hf1, Nat.lt_of_le_of_lt (by omega : fvs.length ≤ 1000000) (by decide), ?_⟩
        have ms2 := ms1.tr (mv_at (F := fun x => x = lf ∨ x = lw) (o := .lst (fvs ++ [u])) ms1.sub rf hf1 (.inl rfl))
        have hf2 : (upd (upd H1 lw (.lst pw)) lf (.lst (fvs ++ [u]))) lf = some (.lst (fvs ++ [u])) := upd_same
        have hw2 : (upd (upd H1 lw (.lst pw)) lf (.lst (fvs ++ [u]))) lw = some (.lst pw) := by rw [upd_ne (Ne.symm nfw)]; exact hw1
        generalize upd (upd H1 lw (.lst pw)) lf (.lst (fvs ++ [u])) = H2 at ms2 hf2 hw2
        have mv2 : Mv F0 R H R1 H2 := mv1.trans ms2 (fun _ f => f) (fun x f => .inr (f.elim (fun e => by rw [e]; exact nf) fun e => by rw [e]; exact nw0))
        refine ⟨_, rfl, .inl ⟨rfl, _, SqL.of hw2⟩, _, rfl, R1, _, _, _, rfl, mv2.sub, ag, ex_parts g (sm_len (smw g List.mem_cons_self)), fun R3 H3 u3 m3 a3 => ?_⟩
        obtain ⟨p3, xs, rfl, hp3, ax⟩ := a3
        refine ⟨p3, xs, rfl, SqL.of (m3.sub _ _ hp3), fun pl nl => ?_⟩
        have m4 : Mv F0 R3 H3 R3 _ := mv_mut (o := .lst xs.reverse) m3.sub nl
        have hw4 := m4.same _ _ (m3.same _ _ hw2)
        have hf4 := m4.same _ _ (m3.same _ _ hf2)
        have xl := ax.length
        rw [List.length_map] at xl
        refine ⟨lw, pl, pw, _, rfl, rfl, hw4, upd_same, ?_, ?_⟩
        · rw [List.length_reverse]
          exact Nat.le_trans (by omega : pw.length + xs.length ≤ 1000000) (by decide)
        have rw3 : R3 lw = none := m3.out rw_ hw2
        have rf3 : R3 lf = none := m3.out rf hf2
        have m5 : Mv (fun x => x = lw) R3 _ R3 _ := mv_at (o := .lst (pw ++ xs.reverse)) m4.sub rw3 hw4 rfl
        have hf5 : (upd (upd H3 pl (.lst xs.reverse)) lw (.lst (pw ++ xs.reverse))) lf = some (.lst (fvs ++ [u])) := by rw [upd_ne nfw]; exact hf4
        have mvE : Mv F0 R H R3 _ := ((mv2.tr m3).tr m4).trans m5 (fun _ f => f) (fun x f => .inr (by rw [f]; exact nw0))
        refine ⟨((exParts g ++ r).flatMap pre).length + 1, ?_, R3, some u, ks ++ [g], exParts g ++ r, _, _, rfl, mvE, rf3, rw3, hf5, upd_same, ?_, ?_, ?_, ?_, rfl⟩
        · rw [em, List.flatMap_append, List.length_append, List.flatMap_cons, List.length_append, pre_flat g, List.length_cons]
          omega
        · rw [List.map_append]
          exact (af.up m3.up).append (.one (ag.up m3.up))
        · rw [List.reverse_append, List.map_append, List.map_reverse]
          rw [List.map_reverse] at apw ⊢
          exact (apw.up m3.up).append ax.rev
        · rw [← eq, List.flatMap_append, List.flatMap_cons, pre_flat g]
          simp
        · intro g' hg'
          rcases List.mem_append.mp hg' with h | h
          · exact (part_mem h).2 (smw g List.mem_cons_self)
          · exact smw g' (List.mem_cons_of_mem _ h)
end
end Bz


set_option Elab.async false
set_option linter.all false
set_option maxRecDepth 100000
set_option maxHeartbeats 4000000
namespace Bz
open PySem PySem.Spec L2 PyProof.Rows
/-- a new tuple -/
theorem lit2 {R H : Hp} {vs : List V} {l : List D} (sub : Same R H) (a : Ats R l vs) {p : Addr} (np : H p = none) : ∃ R' : Hp, Mv F0 R H R' (upd H p (.tup vs)) ∧ At R' (.tup l) (.ref p) := ⟨_, mv_new sub np, .ntup sub np a⟩
def isNm : Ex → Str → Bool
  | .name y, x => y == x
  | _, _ => false
theorem eqv_nm (f : Ex) (x : Str) : PyData.eqv (f.d false).py (D.tup [.str "name", .str x]).py = isNm f x := by
  cases f with
  | name y =>
    show (("name" : Str) == "name" && ((y == x) && true)) = (y == x)
    rw [Bool.and_true]
    rfl
  | _ => kernel_rfl
mutual
theorem ex_flat : ∀ e : Ex, (e.d false).flat = true
  | .num _ => rfl | .flag _ => rfl | .unit => rfl | .name _ => rfl
  | .call f e => by show ((f.d false).flat && ((e.d false).flat && true)) = true; rw [ex_flat f, ex_flat e]; rfl
  | .fn x e => by show (true && ((e.d false).flat && true)) = true; rw [ex_flat e]; rfl
  | .rc h x e => by show (true && (true && ((e.d false).flat && true))) = true; rw [ex_flat e]; rfl
  | .lt x f e => by show (true && ((f.d false).flat && ((e.d false).flat && true))) = true; rw [ex_flat f, ex_flat e]; rfl
  | .ite e f g => by show ((e.d false).flat && ((f.d false).flat && ((g.d false).flat && true))) = true; rw [ex_flat e, ex_flat f, ex_flat g]; rfl
  | .pair f e => by show ((f.d false).flat && ((e.d false).flat && true)) = true; rw [ex_flat f, ex_flat e]; rfl
  | .fst e => by show ((e.d false).flat && true) = true; rw [ex_flat e]; rfl
  | .snd e => by show ((e.d false).flat && true) = true; rw [ex_flat e]; rfl
  | .op s f e => by show (true && ((f.d false).flat && ((e.d false).flat && true))) = true; rw [ex_flat f, ex_flat e]; rfl
  | .nt e => by show ((e.d false).flat && true) = true; rw [ex_flat e]; rfl
  | .pr f e => by show ((f.d false).flat && ((e.d false).flat && true)) = true; rw [ex_flat f, ex_flat e]; rfl
  | .ask s e => by show (true && ((e.d false).flat && true)) = true; rw [ex_flat e]; rfl
  | .hd e x f cs => by
    show ((e.d false).flat && (((f.d false).flat && true) && (flats (cs.d false) && true))) = true
    rw [ex_flat e, ex_flat f, cl_flat cs]; rfl
theorem cl_flat : ∀ c : Clz, flats (c.d false) = true
  | .nil => rfl
  | .cons o x k g r => by
    show (((g.d false).flat && true) && flats (r.d false)) = true
    rw [ex_flat g, cl_flat r]; rfl
end
/-- small enough for all that is asked -/
structure okS (N : Nat) (e : Ex) : Prop where
  dp : exD e ≤ N
  sm : smE e = true
  big : exN e ≤ 1000000
  few : ∀ g ∈ pre e, (noted g [] []).length < 64
  sh : ∀ g ∈ pre e, SeqAt.shaped (g.d false).py = true
theorem pre_self (e : Ex) : e ∈ pre e := by rw [pre_flat e]; exact List.mem_cons_self
theorem pre_part {e g h : Ex} (hg : g ∈ exParts e) (hh : h ∈ pre g) : h ∈ pre e := by
  rw [pre_flat e]
  exact List.mem_cons_of_mem _ (List.mem_flatMap.mpr ⟨g, hg, hh⟩)
theorem part_n : ∀ {l : List Ex} {g : Ex}, g ∈ l → (pre g).length ≤ (l.flatMap pre).length
  | a :: r, g, h => by
    rw [List.flatMap_cons, List.length_append]
    rcases List.mem_cons.mp h with e | h
    · rw [e]; omega
    · have := part_n h; omega
theorem okS.part {N : Nat} {e g : Ex} (h : okS N e) (hg : g ∈ exParts e) : okS N g := by
  have d := part_mem hg
  have n := part_n hg
  have l := pre_len e
  rw [pre_flat e, List.length_cons] at l
  rw [pre_len g] at n
  exact ⟨Nat.le_trans (Nat.le_of_lt d.1) h.dp, d.2 h.sm, Nat.le_trans (by omega) h.big, fun z hz => h.few z (pre_part hg hz), fun z hz => h.sh z (pre_part hg hz)⟩
theorem sh_nm {x : Str} (h : (PyData.str x).canLay0 = true) : SeqAt.shaped (D.tup [.str "name", .str x]).py = true := by
  show ((PyData.canLay0 (.str "name") && ((PyData.str x).canLay0 && true)) && _) = true
  rw [h]
  kernel_rfl
def clM : Ex → Str → Bool
  | .call f e, x => isNm f x && !decide (x ∈ fv e)
  | .lt y e f, x => !decide (x ∈ fv e) && (!decide (y = x) && clM f x)
  | .ite e f g, x => !decide (x ∈ fv e) && (clM f x && clM g x)
  | .pr e f, x => !decide (x ∈ fv e) && clM f x
  | _, _ => false
section
variable {P : Program} {w : World} {K : PySem.W.Frag} {mg : Str → Option Value} {base : Heap}
abbrev g_without : Stmt := topS 11
abbrev n_without : List Str := ["expression", "name"]
abbrev p_without : List Str := ["expression", "name"]
theorem sc_without : FnScope n_without p_without (defScope g_without) := ⟨rfl, rfl, rfl, by decide +kernel, rfl, by decide +kernel, by decide +kernel⟩
def spWo (N : Nat) : Sp := fun vs H Q _ => ∃ (R : Hp) (e : Ex) (x : Str) (v : V), vs = [v, .str x] ∧ Same R H ∧ At R (e.d false) v ∧ okS N e ∧ ∀ (R' H' : Hp), Mv F0 R H R' H' → Q (.bl (!decide (x ∈ fv e))) H'
theorem ok_wo {N : Nat} {f fF : Addr} {fd fdF : FuncData} (F : Fun K "without" "without" g_without f fd) (hN : N ≤ 4000) (GF : Fn P w K mg base CX0 (N + 4) "free_names" p_free_names (spFree N) fF fdF) : FnOk P w K mg base CX0 (N + 5) f fd p_without (spWo N) := by
  refine F.ok (k := N + 4) sc_without (fun vs H Q E h => ?_) (fun cdv A outer st H vs Q E hr h => ?_)
  · obtain ⟨R, e, x, v, rfl, _⟩ := h
    rfl
  · obtain ⟨R, e, x, v, rfl, sub, he, ok, q⟩ := h
    refine ⟨_, (pss_one (ps_ret (pe_cmpR op_notIn_seq (pv 1) (pe_call GF.ok (hr.mono (by omega)) (by rfl) GF.g GF.kp GF.b .nil pass0 (pa_cons (pv 0) pa_nil)) (by rfl)))), ?_⟩
    refine ⟨_, rfl, _, rfl, R, e, v, rfl, sub, he, ok.dp, hN, ok.sm, ok.big, ok.few e (pre_self e), fun R1 H1 u m1 a1 => ?_⟩
    obtain ⟨p1, vs1, rfl, hp1, as1⟩ := a1
    have e1 := ats_str as1
    subst e1
    refine ⟨p1, _, rfl, .inl (SqL.of (m1.sub _ _ hp1)), rfl, flat_str _, ?_⟩
    show Q (.bl (!inV (.str x) ((fv e).map V.str))) _
    rw [inV_str]
    exact q _ _ m1
abbrev g_calls_last : Stmt := topS 10
abbrev n_calls_last : List Str := ["expression", "name", "form", "_", "bound", "first", "body", "test", "branch", "other", "printed"]
abbrev p_calls_last : List Str := ["expression", "name"]
theorem sc_calls_last : FnScope n_calls_last p_calls_last (defScope g_calls_last) := ⟨rfl, rfl, rfl, by decide +kernel, rfl, by decide +kernel, by decide +kernel⟩
def spCl (N n : Nat) : Sp := fun vs H Q _ => ∃ (R : Hp) (e : Ex) (x : Str) (v : V), vs = [v, .str x] ∧ Same R H ∧ At R (e.d false) v ∧ okS N e ∧ (PyData.str x).canLay0 = true ∧ exD e ≤ n ∧ ∀ (R' H' : Hp), Mv F0 R H R' H' → Q (.bl (clM e x)) H'
theorem ok_cl0 {k N : Nat} {f : Addr} {fd : FuncData} (F : Fun K "calls_last" "calls_last" g_calls_last f fd) : FnOk P w K mg base CX0 (k + 1) f fd p_calls_last (spCl N 0) := by
  refine F.ok (k := k) sc_calls_last (fun vs H Q E h => ?_) (fun cdv A outer st H vs Q E hr h => ?_)
  · obtain ⟨R, e, x, v, rfl, _⟩ := h
    rfl
  · obtain ⟨R, e, x, v, rfl, _, _, _, _, h, _⟩ := h
    exact absurd h (by have := ex_pos e; omega)
theorem ok_cl {N n : Nat} {f fW : Addr} {fd fdW : FuncData} (F : Fun K "calls_last" "calls_last" g_calls_last f fd) (GW : Fn P w K mg base CX0 (N + 5) "without" p_without (spWo N) fW fdW)
    (GC : Fn P w K mg base CX0 (N + 6 + n) "calls_last" p_calls_last (spCl N n) f fd) : FnOk P w K mg base CX0 (N + 6 + (n + 1)) f fd p_calls_last (spCl N (n + 1)) := by
  refine F.ok (k := N + 6 + n) sc_calls_last (fun vs H Q E h => ?_) (fun cdv A outer st H vs Q E hr h => ?_)
  · obtain ⟨R, e, x, v, rfl, _⟩ := h
    rfl
  · obtain ⟨R, e, x, v, rfl, sub, he, ok, hx0, dep, q⟩ := h
    refine ⟨_, (pss_cons (ps_set (i := 2) sc_calls_last.nd rfl (Or.inl rfl) (pe_ix ix_tup (pv 0) (pe_int) (fun _ _ => rfl)))
      (pss_cons (ps_if (pt_cmpR op_eq (pv 2) (pe_str) (nomark _)) (pss_one (ps_ret (pe_and (pe_cmpR (op_eqD hr.units) (pe_ix ix_tup (pv 0) (pe_int) (fun _ _ => rfl)) (pe_tup (pa_cons (pe_str) (pa_cons (pv 1) pa_nil))) (nomark _)) (pe_one (pe_call GW.ok (hr.mono (by omega)) (by rfl) GW.g GW.kp GW.b .nil pass0 (pa_cons (pe_ix ix_tup (pv 0) (pe_int) (fun _ _ => rfl)) (pa_cons (pv 1) pa_nil))))))) pss_nil)
      (pss_cons (ps_if (pt_cmpR op_eq (pv 2) (pe_str) (nomark _)) (pss_cons (ps_asg (pv 0) (pg_tup rfl (pgs_cons (pg_name (i := 3) sc_calls_last.nd rfl (Or.inl rfl)) (pgs_cons (pg_name (i := 4) sc_calls_last.nd rfl (Or.inl rfl)) (pgs_cons (pg_name (i := 5) sc_calls_last.nd rfl (Or.inl rfl)) (pgs_cons (pg_name (i := 6) sc_calls_last.nd rfl (Or.inl rfl)) pgs_nil))))))
      (pss_one (ps_ret (pe_and (pe_call GW.ok (hr.mono (by omega)) (by rfl) GW.g GW.kp GW.b .nil pass0 (pa_cons (pv 5) (pa_cons (pv 1) pa_nil))) (pe_and (pe_cmpR op_ne (pv 4) (pv 1) (nomark _)) (pe_one (pe_call GC.ok hr (by rfl) GC.g GC.kp GC.b .nil pass0 (pa_cons (pv 6) (pa_cons (pv 1) pa_nil))))))))) pss_nil)
      (pss_cons (ps_if (pt_cmpR op_eq (pv 2) (pe_str) (nomark _)) (pss_cons (ps_asg (pv 0) (pg_tup rfl (pgs_cons (pg_name (i := 3) sc_calls_last.nd rfl (Or.inl rfl)) (pgs_cons (pg_name (i := 7) sc_calls_last.nd rfl (Or.inl rfl)) (pgs_cons (pg_name (i := 8) sc_calls_last.nd rfl (Or.inl rfl)) (pgs_cons (pg_name (i := 9) sc_calls_last.nd rfl (Or.inl rfl)) pgs_nil))))))
      (pss_one (ps_ret (pe_and (pe_call GW.ok (hr.mono (by omega)) (by rfl) GW.g GW.kp GW.b .nil pass0 (pa_cons (pv 7) (pa_cons (pv 1) pa_nil))) (pe_and (pe_call GC.ok hr (by rfl) GC.g GC.kp GC.b .nil pass0 (pa_cons (pv 8) (pa_cons (pv 1) pa_nil))) (pe_one (pe_call GC.ok hr (by rfl) GC.g GC.kp GC.b .nil pass0 (pa_cons (pv 9) (pa_cons (pv 1) pa_nil))))))))) pss_nil)
      (pss_cons (ps_if (pt_cmpR op_eq (pv 2) (pe_str) (nomark _)) (pss_cons (ps_asg (pv 0) (pg_tup rfl (pgs_cons (pg_name (i := 3) sc_calls_last.nd rfl (Or.inl rfl)) (pgs_cons (pg_name (i := 10) sc_calls_last.nd rfl (Or.inl rfl)) (pgs_cons (pg_name (i := 6) sc_calls_last.nd rfl (Or.inl rfl)) pgs_nil)))))
      (pss_one (ps_ret (pe_and (pe_call GW.ok (hr.mono (by omega)) (by rfl) GW.g GW.kp GW.b .nil pass0 (pa_cons (pv 10) (pa_cons (pv 1) pa_nil))) (pe_one (pe_call GC.ok hr (by rfl) GC.g GC.kp GC.b .nil pass0 (pa_cons (pv 6) (pa_cons (pv 1) pa_nil)))))))) pss_nil)
      (pss_one (ps_ret (pe_bl)))))))), ?_⟩
    have m0 : Mv F0 R H R H := .refl sub
    cases e with
    | call f e2 =>
      obtain ⟨pe, _, rfl, hpe, _, _, rfl, rfl, vf, _, rfl, af, v2, _, rfl, a2, rfl⟩ := he
      have hpe := sub _ _ hpe
      refine ⟨_, rfl, pe, _, 0, _, rfl, rfl, SqT.of hpe, atI_nat (j := 0) rfl, ?_⟩
      refine ⟨_, rfl, rfl, _, rfl, ?_⟩
      refine ifT (decide_eq_true rfl) ?_
      refine ⟨_, rfl, pe, _, 1, _, rfl, rfl, SqT.of hpe, rfl, _, rfl, by show 2 ≤ sizeLine; decide, fun p np => ?_⟩
      obtain ⟨R2, m2, al⟩ := lit2 sub (l := [.str "name", .str x]) ⟨_, _, rfl, at_str, _, _, rfl, at_str, rfl⟩ np
      refine ⟨_, _, (af.up m2.up).dp m2.sub (ex_flat f), al.dp m2.sub rfl, (ok.part (g := f) List.mem_cons_self).sh f (pre_self f), sh_nm hx0, _, rfl, ?_⟩
      rw [eqv_nm]
      by_cases hx : isNm f x = true
      · refine ifT hx ?_
        refine ⟨_, rfl, pe, _, 2, _, rfl, rfl, SqT.of (m2.same _ _ hpe), rfl, _, rfl, R2, e2, x, v2, rfl, m2.sub, a2.up m2.up, ok.part (List.mem_cons_of_mem _ List.mem_cons_self), fun R3 H3 m3 => ?_⟩
        have := q R3 H3 (m2.tr m3)
        rw [show clM (.call f e2) x = (isNm f x && !decide (x ∈ fv e2)) from rfl, hx] at this
        exact this
      · rw [Bool.not_eq_true] at hx
        refine ifF hx ?_
        have := q _ _ m2
        rw [show clM (.call f e2) x = (isNm f x && !decide (x ∈ fv e2)) from rfl, hx] at this
        exact this
    | lt y e1 e2 =>
      obtain ⟨pe, _, rfl, hpe, _, _, rfl, rfl, _, _, rfl, rfl, v1, _, rfl, a1, v2, _, rfl, a2, rfl⟩ := he
      have hpe := sub _ _ hpe
      refine ⟨_, rfl, pe, _, 0, _, rfl, rfl, SqT.of hpe, atI_nat (j := 0) rfl, ?_⟩
      (refine ⟨_, rfl, rfl, _, rfl, ?_⟩; refine isF (by decide +kernel) ?_)
      refine ⟨_, rfl, rfl, _, rfl, ?_⟩
      refine ifT (decide_eq_true rfl) ?_
      refine ⟨_, rfl, pe, _, rfl, SqT.of hpe, rfl, _, _, rfl, _, _, rfl, _, _, rfl, _, _, rfl, rfl, ?_⟩
      have o1 : okS N e1 := ok.part List.mem_cons_self
      have o2 : okS N e2 := ok.part (List.mem_cons_of_mem _ List.mem_cons_self)
      have d2 := (part_mem (e := .lt y e1 e2) (g := e2) (List.mem_cons_of_mem _ List.mem_cons_self)).1
      refine ⟨_, rfl, _, rfl, R, e1, x, v1, rfl, sub, a1, o1, fun R3 H3 m3 => ⟨_, rfl, ?_⟩⟩
      have ec : clM (.lt y e1 e2) x = (!decide (x ∈ fv e1) && (!decide (y = x) && clM e2 x)) := rfl
      by_cases h1 : (!decide (x ∈ fv e1)) = true
      · refine ifT h1 ?_
        rw [h1, Bool.true_and] at ec
        refine ⟨_, rfl, _, rfl, rfl, _, rfl, ?_⟩
        by_cases h2 : y = x
        · rw [show (!decide (y = x)) = false by rw [decide_eq_true h2]; rfl, Bool.false_and] at ec
          refine ifF (by rw [decide_eq_true (congrArg V.str h2)]; rfl) ?_
          have := q R3 H3 m3
          rw [ec] at this
          exact this
        · rw [show (!decide (y = x)) = true by rw [decide_eq_false h2]; rfl, Bool.true_and] at ec
          refine ifT (by rw [decide_eq_false fun e => h2 (V.str.inj e)]; rfl) ?_
          refine ⟨_, rfl, _, rfl, R3, e2, x, v2, rfl, m3.sub, a2.up m3.up, o2, hx0, by omega, fun R4 H4 m4 => ?_⟩
          have := q R4 H4 (m3.tr m4)
          rw [ec] at this
          exact this
      · rw [Bool.not_eq_true] at h1
        refine ifF h1 ?_
        rw [h1, Bool.false_and] at ec
        have := q R3 H3 m3
        rw [ec] at this
        exact this
    | ite e1 e2 e3 =>
      obtain ⟨pe, _, rfl, hpe, _, _, rfl, rfl, v1, _, rfl, a1, v2, _, rfl, a2, v3, _, rfl, a3, rfl⟩ := he
      have hpe := sub _ _ hpe
      refine ⟨_, rfl, pe, _, 0, _, rfl, rfl, SqT.of hpe, atI_nat (j := 0) rfl, ?_⟩
      (refine ⟨_, rfl, rfl, _, rfl, ?_⟩; refine isF (by decide +kernel) ?_)
      (refine ⟨_, rfl, rfl, _, rfl, ?_⟩; refine isF (by decide +kernel) ?_)
      refine ⟨_, rfl, rfl, _, rfl, ?_⟩
      refine ifT (decide_eq_true rfl) ?_
      refine ⟨_, rfl, pe, _, rfl, SqT.of hpe, rfl, _, _, rfl, _, _, rfl, _, _, rfl, _, _, rfl, rfl, ?_⟩
      have o1 : okS N e1 := ok.part List.mem_cons_self
      have o2 : okS N e2 := ok.part (List.mem_cons_of_mem _ List.mem_cons_self)
      have o3 : okS N e3 := ok.part (List.mem_cons_of_mem _ (List.mem_cons_of_mem _ List.mem_cons_self))
      have d2 := (part_mem (e := .ite e1 e2 e3) (g := e2) (List.mem_cons_of_mem _ List.mem_cons_self)).1
      have d3 := (part_mem (e := .ite e1 e2 e3) (g := e3) (List.mem_cons_of_mem _ (List.mem_cons_of_mem _ List.mem_cons_self))).1
      refine ⟨_, rfl, _, rfl, R, e1, x, v1, rfl, sub, a1, o1, fun R3 H3 m3 => ⟨_, rfl, ?_⟩⟩
      have ec : clM (.ite e1 e2 e3) x = (!decide (x ∈ fv e1) && (clM e2 x && clM e3 x)) := rfl
      by_cases h1 : (!decide (x ∈ fv e1)) = true
      · refine ifT h1 ?_
        rw [h1, Bool.true_and] at ec
        refine ⟨_, rfl, _, rfl, R3, e2, x, v2, rfl, m3.sub, a2.up m3.up, o2, hx0, by omega, fun R4 H4 m4 => ⟨_, rfl, ?_⟩⟩
        have m34 := m3.tr m4
        by_cases h2 : clM e2 x = true
        · refine ifT h2 ?_
          rw [h2, Bool.true_and] at ec
          refine ⟨_, rfl, _, rfl, R4, e3, x, v3, rfl, m34.sub, a3.up m34.up, o3, hx0, by omega, fun R5 H5 m5 => ?_⟩
          have := q R5 H5 (m34.tr m5)
          rw [ec] at this
          exact this
        · rw [Bool.not_eq_true] at h2
          refine ifF h2 ?_
          rw [h2, Bool.false_and] at ec
          have := q R4 H4 m34
          rw [ec] at this
          exact this
      · rw [Bool.not_eq_true] at h1
        refine ifF h1 ?_
        rw [h1, Bool.false_and] at ec
        have := q R3 H3 m3
        rw [ec] at this
        exact this
    | pr e1 e2 =>
      obtain ⟨pe, _, rfl, hpe, _, _, rfl, rfl, v1, _, rfl, a1, v2, _, rfl, a2, rfl⟩ := he
      have hpe := sub _ _ hpe
      refine ⟨_, rfl, pe, _, 0, _, rfl, rfl, SqT.of hpe, atI_nat (j := 0) rfl, ?_⟩
      (refine ⟨_, rfl, rfl, _, rfl, ?_⟩; refine isF (by decide +kernel) ?_)
      (refine ⟨_, rfl, rfl, _, rfl, ?_⟩; refine isF (by decide +kernel) ?_)
      (refine ⟨_, rfl, rfl, _, rfl, ?_⟩; refine isF (by decide +kernel) ?_)
      refine ⟨_, rfl, rfl, _, rfl, ?_⟩
      refine ifT (decide_eq_true rfl) ?_
      refine ⟨_, rfl, pe, _, rfl, SqT.of hpe, rfl, _, _, rfl, _, _, rfl, _, _, rfl, rfl, ?_⟩
      have o1 : okS N e1 := ok.part List.mem_cons_self
      have o2 : okS N e2 := ok.part (List.mem_cons_of_mem _ List.mem_cons_self)
      have d2 := (part_mem (e := .pr e1 e2) (g := e2) (List.mem_cons_of_mem _ List.mem_cons_self)).1
      refine ⟨_, rfl, _, rfl, R, e1, x, v1, rfl, sub, a1, o1, fun R3 H3 m3 => ⟨_, rfl, ?_⟩⟩
      have ec : clM (.pr e1 e2) x = (!decide (x ∈ fv e1) && clM e2 x) := rfl
      by_cases h1 : (!decide (x ∈ fv e1)) = true
      · refine ifT h1 ?_
        rw [h1, Bool.true_and] at ec
        refine ⟨_, rfl, _, rfl, R3, e2, x, v2, rfl, m3.sub, a2.up m3.up, o2, hx0, by omega, fun R4 H4 m4 => ?_⟩
        have := q R4 H4 (m3.tr m4)
        rw [ec] at this
        exact this
      · rw [Bool.not_eq_true] at h1
        refine ifF h1 ?_
        rw [h1, Bool.false_and] at ec
        have := q R3 H3 m3
        rw [ec] at this
        exact this
    | _ =>
      obtain ⟨pe, _, rfl, hpe, _, _, rfl, rfl, _⟩ := he
      have hpe := sub _ _ hpe
      refine ⟨_, rfl, pe, _, 0, _, rfl, rfl, SqT.of hpe, atI_nat (j := 0) rfl, ?_⟩
      (refine ⟨_, rfl, rfl, _, rfl, ?_⟩; refine isF (by decide +kernel) ?_)
      (refine ⟨_, rfl, rfl, _, rfl, ?_⟩; refine isF (by decide +kernel) ?_)
      (refine ⟨_, rfl, rfl, _, rfl, ?_⟩; refine isF (by decide +kernel) ?_)
      (refine ⟨_, rfl, rfl, _, rfl, ?_⟩; refine isF (by decide +kernel) ?_)
      exact q _ _ m0
end
end Bz


set_option Elab.async false
set_option linter.all false
set_option maxRecDepth 100000
set_option maxHeartbeats 4000000
namespace Bz
open PySem PySem.Spec L2 PyProof.Rows
theorem walkW {J : It} {n : Nat} {G : Hp → Prop} {Y : Nat → Hp → V → Hp → Prop} (w : Walk J n G Y) {H0 : Hp} {stop : Hp → Prop} {B : (Hp → Prop) → V → Hp → Prop} (Pv : Nat → Hp → Prop) (h0 : Pv 0 H0) (hG : ∀ i H, i ≤ n → Pv i H → G H)
    (hs : ∀ i x H H', i < n → Pv i H → Y i H x H' → B (Pv (i + 1)) x H') (hd : ∀ H, Pv n H → stop H) :
    ∃ W : Nat → Nat → Hp → Prop, (∃ m, W 0 m H0) ∧ ∀ i m H, W i m H → (J.stop i H ∧ stop H) ∨ (J.go i H ∧ ∃ Nx : Hp → Prop, (∀ H', Nx H' → ∃ m', m' < m ∧ W (i + 1) m' H') ∧ ∀ x H', J.yld i H x H' → B Nx x H') := by
  let Wv : Nat → Nat → Hp → Prop := fun i m H => i ≤ n ∧ m + i = n ∧ Pv i H
  have key : ∀ (i m : Nat) (H : Hp), Wv i m H → (J.stop i H ∧ stop H) ∨ (J.go i H ∧ ∃ Nx : Hp → Prop, (∀ H', Nx H' → ∃ m', m' < m ∧ Wv (i + 1) m' H') ∧ ∀ x H', J.yld i H x H' → B Nx x H') := by
    intro i m H z
    have g1 := hG i H z.1 z.2.2
    by_cases lt : i = n
    · subst lt
      exact Or.inl ⟨w.stops H g1, hd H z.2.2⟩
    · have lt2 : i < n := Nat.lt_of_le_of_ne z.1 lt
      refine Or.inr ⟨w.goes i H lt2 g1, Pv (i + 1), ?_, ?_⟩
      · intro H' z'
        refine ⟨n - (i + 1), ?_, lt2, ?_, z'⟩
        · have := z.2.1
          omega
        · omega
      · intro x H' y
        exact hs i x H H' lt2 z.2.2 (w.yields i H x H' lt2 g1 y)
  exact ⟨Wv, ⟨n, Nat.zero_le n, Nat.add_zero n, h0⟩, key⟩
/-- a handler's clauses: what each answers -/
def clsB : Clz → List Bool
  | .nil => []
  | .cons _ _ k g r => clM g k :: clsB r
def hdB : Ex → List Bool
  | .hd _ _ _ cs => clsB cs
  | _ => []
def isHdE : Ex → Bool
  | .hd _ _ _ _ => true
  | _ => false
def keepsM (e : Ex) : Bool := ((pre e).flatMap hdB).all id
/-- the names of the clauses are texts that can be held -/
def nmC : Clz → Bool
  | .nil => true
  | .cons _ _ k _ r => (PyData.str k).canLay0 && nmC r
def nmE : Ex → Bool
  | .hd _ _ _ cs => nmC cs
  | _ => true
theorem hds_flat : ∀ l : List Ex, (l.filter isHdE).flatMap hdB = l.flatMap hdB
  | [] => rfl
  | g :: r => by
    rw [List.filter_cons, List.flatMap_cons]
    by_cases h : isHdE g = true
    · rw [if_pos h, List.flatMap_cons, hds_flat r]
    · rw [if_neg h, hds_flat r]
      cases g <;> first | rfl | exact absurd rfl h
theorem clsB_len : ∀ c : Clz, (clsB c).length = c.len
  | .nil => rfl
  | .cons _ _ _ _ r => congrArg (· + 1) (clsB_len r)
theorem hdB_len (g : Ex) : (hdB g).length ≤ (exParts g).length := by
  cases g with
  | hd e x f cs =>
    show (clsB cs).length ≤ (e :: f :: cs.gs).length
    rw [clsB_len, List.length_cons, List.length_cons, Clz.lg]
    omega
  | _ => exact Nat.zero_le _
theorem hdBs_len : ∀ (n : Nat) (e : Ex), exD e ≤ n → ((pre e).flatMap hdB).length + 1 ≤ (pre e).length
  | 0, e, h => absurd h (by have := ex_pos e; omega)
  | n + 1, e, h => by
    have all : ∀ l : List Ex, (∀ g ∈ l, exD g ≤ n) → ((l.flatMap pre).flatMap hdB).length + l.length ≤ (l.flatMap pre).length := by
      intro l
      induction l with
      | nil => exact fun _ => Nat.le_refl _
      | cons g r ih =>
        intro hl
        have h1 := hdBs_len n g (hl g List.mem_cons_self)
        have h2 := ih fun z hz => hl z (List.mem_cons_of_mem _ hz)
        rw [List.flatMap_cons, List.flatMap_append, List.length_append, List.length_append, List.length_cons]
        omega
    have h1 := all (exParts e) fun g hg => by have := (part_mem hg).1; omega
    have h2 := hdB_len e
    rw [pre_flat e, List.flatMap_cons, List.length_append, List.length_cons]
    omega
theorem take_hdB : ∀ {l : List Ex} {i : Nat} {g : Ex}, l[i]? = some g → ((l.take i).flatMap hdB).length + (hdB g).length ≤ (l.flatMap hdB).length
  | [], i, g, h => by cases i <;> cases h
  | a :: r, 0, g, h => by
    cases h
    rw [List.flatMap_cons, List.length_append]
    show 0 + _ ≤ _
    omega
  | a :: r, i + 1, g, h => by
    have := take_hdB (l := r) (i := i) (g := g) h
    rw [List.take_succ_cons, List.flatMap_cons, List.flatMap_cons, List.length_append, List.length_append]
    omega
theorem okS_pre {N : Nat} : ∀ (n : Nat) {e g : Ex}, exD e ≤ n → okS N e → g ∈ pre e → okS N g
  | 0, e, g, h, _, _ => absurd h (by have := ex_pos e; omega)
  | n + 1, e, g, h, ok, hg => by
    rw [pre_flat e] at hg
    rcases List.mem_cons.mp hg with q | hg
    · rw [q]; exact ok
    obtain ⟨z, hz, hg⟩ := List.mem_flatMap.mp hg
    exact okS_pre n (by have := (part_mem hz).1; omega) (ok.part hz) hg
theorem cls_get : ∀ {c : Clz} {j : Nat} {d : D}, (c.d false)[j]? = some d → ∃ o x k g, d = D.tup [.str o, .str x, .str k, g.d false] ∧ g ∈ c.gs ∧ (clsB c)[j]? = some (clM g k) ∧ (nmC c = true → (PyData.str k).canLay0 = true)
  | .nil, j, d, h => by cases j <;> cases h
  | .cons o x k g r, 0, d, h => by
    cases h
    refine ⟨o, x, k, g, rfl, List.mem_cons_self, rfl, fun q => ?_⟩
    have q : ((PyData.str k).canLay0 && nmC r) = true := q
    rw [Bool.and_eq_true] at q
    exact q.1
  | .cons o x k g r, j + 1, d, h => by
    obtain ⟨o', x', k', g', e, m, b, q⟩ := cls_get (c := r) (j := j) (d := d) h
    refine ⟨o', x', k', g', e, List.mem_cons_of_mem _ m, b, fun z => q ?_⟩
    have z : ((PyData.str k).canLay0 && nmC r) = true := z
    rw [Bool.and_eq_true] at z
    exact z.2
section
variable {P : Program} {w : World} {K : PySem.W.Frag} {mg : Str → Option Value} {base : Heap}
abbrev g_answers_at_once : Stmt := topS 8
abbrev n_answers_at_once : List Str := ["clause", "_", "resumption", "expression"]
abbrev p_answers_at_once : List Str := ["clause"]
theorem sc_answers_at_once : FnScope n_answers_at_once p_answers_at_once (defScope g_answers_at_once) := ⟨rfl, rfl, rfl, by decide +kernel, rfl, by decide +kernel, by decide +kernel⟩
def spAn (N : Nat) : Sp := fun vs H Q _ => ∃ (R : Hp) (o x k : Str) (g : Ex) (v : V), vs = [v] ∧ Same R H ∧ At R (.tup [.str o, .str x, .str k, g.d false]) v ∧ okS N g ∧ (PyData.str k).canLay0 = true ∧ ∀ (R' H' : Hp), Mv F0 R H R' H' → Q (.bl (clM g k)) H'
theorem ok_an {N : Nat} {f fC : Addr} {fd fdC : FuncData} (F : Fun K "answers_at_once" "answers_at_once" g_answers_at_once f fd) (GC : Fn P w K mg base CX0 (N + 6 + N) "calls_last" p_calls_last (spCl N N) fC fdC) : FnOk P w K mg base CX0 (N + 6 + N + 1) f fd p_answers_at_once (spAn N) := by
  refine F.ok (k := N + 6 + N) sc_answers_at_once (fun vs H Q E h => ?_) (fun cdv A outer st H vs Q E hr h => ?_)
  · obtain ⟨R, o, x, k, g, v, rfl, _⟩ := h
    rfl
  · obtain ⟨R, o, x, k, g, v, rfl, sub, hv, ok, hk, q⟩ := h
    obtain ⟨pc, _, rfl, hpc, _, _, rfl, rfl, _, _, rfl, rfl, _, _, rfl, rfl, vg, _, rfl, ag, rfl⟩ := hv
    refine ⟨_, (pss_cons (ps_asg (pv 0) (pg_tup rfl (pgs_cons (pg_name (i := 1) sc_answers_at_once.nd rfl (Or.inl rfl)) (pgs_cons (pg_name (i := 1) sc_answers_at_once.nd rfl (Or.inl rfl)) (pgs_cons (pg_name (i := 2) sc_answers_at_once.nd rfl (Or.inl rfl)) (pgs_cons (pg_name (i := 3) sc_answers_at_once.nd rfl (Or.inl rfl)) pgs_nil))))))
      (pss_one (ps_ret (pe_call GC.ok (hr.mono (by omega)) (by rfl) GC.g GC.kp GC.b .nil pass0 (pa_cons (pv 3) (pa_cons (pv 2) pa_nil)))))), ?_⟩
    refine ⟨_, rfl, pc, _, rfl, SqT.of (sub _ _ hpc), rfl, _, _, rfl, _, _, rfl, _, _, rfl, _, _, rfl, rfl, ?_⟩
    exact ⟨_, rfl, _, rfl, R, g, k, vg, rfl, sub, ag, ok, hk, ok.dp, q⟩
abbrev g_keeps_nothing : Stmt := topS 9
abbrev n_keeps_nothing : List Str := ["expression", "handlers", "one", "handler", "clause"]
abbrev p_keeps_nothing : List Str := ["expression"]
theorem sc_keeps_nothing : FnScope n_keeps_nothing p_keeps_nothing (defScope g_keeps_nothing) := ⟨rfl, rfl, rfl, by decide +kernel, rfl, by decide +kernel, by decide +kernel⟩
def spKp (N : Nat) : Sp := fun vs H Q _ => ∃ (R : Hp) (e : Ex) (v : V), vs = [v] ∧ Same R H ∧ At R (e.d false) v ∧ okS N e ∧ (∀ g ∈ pre e, nmE g = true) ∧ ∀ (R' H' : Hp), Mv F0 R H R' H' → Q (.bl (keepsM e)) H'
theorem ok_kp {N : Nat} {f fN fA : Addr} {fd fdN fdA : FuncData} (F : Fun K "keeps_nothing" "keeps_nothing" g_keeps_nothing f fd) (ma : mg "all" = none) (GN : Fn P w K mg base CX0 2 "numbered" p_numbered spNumb fN fdN)
    (GA : Fn P w K mg base CX0 (N + 6 + N + 1) "answers_at_once" p_answers_at_once (spAn N) fA fdA) : FnOk P w K mg base CX0 (N + 6 + N + 2) f fd p_keeps_nothing (spKp N) := by
  refine F.ok (k := N + 6 + N + 1) sc_keeps_nothing (fun vs H Q E h => ?_) (fun cdv A outer st H vs Q E hr h => ?_)
  · obtain ⟨R, e, v, rfl, _⟩ := h
    rfl
  · obtain ⟨R, e, v, rfl, sub, he, ok, nm, q⟩ := h
    refine ⟨_, (pss_cons (ps_setLc (i := 1) (own := [("one", 2)]) (g := gName 2) (tt := tTest (tOp rEq (tOp (rIxT K) (tVar 2) (tC (.int 0))) (tC (.str "handle")))) (te := tVar 2) rfl sc_keeps_nothing.nd rfl rfl (sw_true rfl rfl rfl (by decide +kernel)) (pi_list (pe_call GN.ok (hr.mono (by omega)) (by rfl) GN.g GN.kp GN.b .nil pass0 (pa_cons (pv 0) pa_nil))) (blkOk_by (N := n_keeps_nothing) (sc := defScope g_keeps_nothing) (by decide +kernel)) (fun _ _ _ _ _ => pg_name (i := 2) sc_keeps_nothing.nd rfl (Or.inl rfl)) (fun _ _ _ _ _ => pts_one (pt_cmpR op_eq (pe_ix ix_tup (pv 2) pe_int (fun _ _ => rfl)) pe_str (nomark _))) (fun _ _ _ _ _ => pv 2))
      (pss_one (ps_ret (pe_callB (cr_all rfl) (by rfl) ma (by decide +kernel) (pa_cons (pe_lc2 (own := [("handler", 3), ("clause", 4)]) (vs1 := [4]) (g := gName 3) (tt := tYes) (wi1 := iTup K (tOp (rIxT K) (tVar 3) (tC (.int 3)))) (g1 := gName 4) (tt1 := tYes) (te := tCall (spAn N) [] E0 (tCons (tVar 4) tNil)) rfl sc_keeps_nothing.nd (pi_list (pv 1)) (blkOk_by (N := n_keeps_nothing) (sc := defScope g_keeps_nothing) (by decide +kernel)) (by decide) (fun _ _ _ _ _ => pg_name (i := 3) sc_keeps_nothing.nd rfl (Or.inl rfl)) (fun _ _ _ _ _ => pts_nil) (fun _ _ _ _ _ => pi_tup (pe_ix ix_tup (pv 3) pe_int (fun _ _ => rfl))) (fun _ _ _ _ _ => pg_name (i := 4) sc_keeps_nothing.nd rfl (Or.inl rfl)) (fun _ _ _ _ _ => pts_nil) (fun _ _ _ _ _ => pe_call GA.ok (hr.mono (by omega)) (by rfl) GA.g GA.kp GA.b .nil pass0 (pa_cons (pv 4) pa_nil))) pa_nil))))), ?_⟩
    refine ⟨_, rfl, R, e, v, rfl, sub, he, ok.sm, ok.big, fun R1 H1 u m1 a1 => ?_⟩
    obtain ⟨p1, ps1, rfl, hp1, as1⟩ := a1
    refine ⟨p1, rfl, ⟨_, SqL.of (m1.sub _ _ hp1)⟩, fun D1 nD1 => ?_⟩
    have rD1 : R1 D1 = none := m1.sub.free nD1
    have nH1 : H D1 = none := m1.free nD1
    refine lc_it (walk_list (xs := ps1)) (fun i H' => ∃ acc, Mv F0 R H R1 H' ∧ H' D1 = some (.lst acc) ∧ Ats R1 ((((pre e).take i).filter isHdE).map (Ex.d false)) acc ∧ acc.length ≤ i) ?_ ?_ ?_ ?_
    · exact ⟨[], m1.tr (mv_mut m1.sub nD1), upd_same, rfl, Nat.le_refl _⟩
    · rintro i H' hi ⟨acc, mv, _⟩
      exact SqL.of (mv.sub _ _ hp1)
    · rintro i x H' H'' hi ⟨acc, mv, hD, aa, la⟩ ⟨rfl, hx⟩
      obtain ⟨d, hd, ad⟩ := as1.mem hx
      rw [List.getElem?_map] at hd
      cases eg : (pre e)[i]? with
      | none => rw [eg] at hd; cases hd
      | some g =>
        rw [eg] at hd
        obtain rfl : g.d false = d := Option.some.inj hd
        obtain ⟨px, r, rfl, hpx⟩ := ex_head ad
        have hlen : i < 1000000 := by
          have h1 := (List.getElem?_eq_some_iff.mp eg).1
          rw [pre_len] at h1
          exact Nat.lt_of_lt_of_le h1 ok.big
        refine ⟨rfl, _, rfl, px, _, 0, _, rfl, rfl, SqT.of (mv.sub _ _ hpx), atI_nat (j := 0) rfl, rfl, _, rfl, ?_⟩
        by_cases hh : isHdE g = true
        · have ht : tagE g = "handle" := by cases g <;> first | rfl | cases hh
          refine ifT (by rw [ht]; exact decide_eq_true rfl) ?_
          refine ⟨_, rfl, acc, hD, Nat.lt_of_le_of_lt (by omega : acc.length ≤ 1000000) (by decide), acc ++ [.ref px], ?_, upd_same, ?_, by rw [List.length_append]; show acc.length + 1 ≤ i + 1; omega⟩
          · exact mv.trans (mv_at (F := fun x => x = D1) mv.sub rD1 hD rfl) (fun _ f => f) (fun x f => .inr (by rw [f]; exact nH1))
          · rw [List.take_add_one, eg, List.filter_append, List.map_append]
            refine aa.append ?_
            show Ats R1 (List.map (Ex.d false) (List.filter isHdE [g])) [V.ref px]
            rw [List.filter_cons, if_pos hh]
            exact .one ad
        · have ht : tagE g ≠ "handle" := by
            cases g <;> first | (exact absurd rfl hh) | (intro h; simp only [tagE] at h; revert h; decide +kernel)
          refine ifF (decide_eq_false fun h => ht (V.str.inj h)) ?_
          refine ⟨acc, mv, hD, ?_, by omega⟩
          rw [List.take_add_one, eg, List.filter_append, List.map_append]
          show Ats R1 (_ ++ List.map (Ex.d false) (List.filter isHdE [g])) acc
          rw [List.filter_cons, if_neg hh]
          show Ats R1 (_ ++ []) acc
          rw [List.append_nil]
          exact aa
    · rintro H2 ⟨hv, mv2, hD, ah, _⟩
      rw [show ps1.length = (pre e).length by rw [as1.length, List.length_map], List.take_length] at ah
      let hds : List Ex := (pre e).filter isHdE
      have hbig : (hds.flatMap hdB).length ≤ 1000000 := by
        have h1 := hdBs_len _ e (Nat.le_refl _)
        rw [pre_len] at h1
        rw [show hds.flatMap hdB = (pre e).flatMap hdB from hds_flat _]
        have h2 := ok.big
        omega
      show gName 1 _ _ _ _
      refine ⟨_, rfl, D1, rfl, ⟨_, SqL.of hD⟩, fun D2 nD2 => ?_⟩
      have rD2 : R1 D2 = none := mv2.sub.free nD2
      have nH2 : H D2 = none := mv2.free nD2
      have n12 : D1 ≠ D2 := fun q => by rw [q, nD2] at hD; cases hD
      refine walkW (walk_list (xs := hv)) (fun i H' => ∃ R', Mv F0 R H R' H' ∧ Same R1 R' ∧ R' D1 = none ∧ R' D2 = none ∧ H' D1 = some (.lst hv) ∧ H' D2 = some (.lst ((((hds.take i).flatMap hdB)).map V.bl))) ?_ ?_ ?_ ?_
      · refine ⟨R1, mv2.tr (mv_mut mv2.sub nD2), .refl _, rD1, rD2, ?_, upd_same⟩
        rw [upd_ne n12]
        exact hD
      · rintro i H' hi ⟨R', mv, s1, r1, r2, hd1, hd2⟩
        exact SqL.of hd1
      · rintro i x H' H'' hi ⟨R', mv, s1, r1, r2, hd1, hd2⟩ ⟨rfl, hx⟩
        obtain ⟨d, hd, ad⟩ := ah.mem hx
        rw [List.getElem?_map] at hd
        cases eg : hds[i]? with
        | none => rw [show ((pre e).filter isHdE)[i]? = none from eg] at hd; cases hd
        | some g =>
          rw [show ((pre e).filter isHdE)[i]? = some g from eg] at hd
          obtain rfl : g.d false = d := Option.some.inj hd
          have hm := List.mem_filter.mp (List.mem_of_getElem? eg)
          have okg := okS_pre _ (Nat.le_refl _) ok hm.1
          have nmg := nm g hm.1
          have tl := take_hdB eg
          cases g with
          | hd a y b cs =>
            have ad := ad.up s1
            obtain ⟨pu, _, rfl, hpu, _, _, rfl, rfl, va, _, rfl, _, vb, _, rfl, _, vc, _, rfl, ⟨pc, cvs, rfl, hpc, ac⟩, rfl⟩ := ad
            refine ⟨rfl, ?_⟩
            refine ⟨_, rfl, pu, _, 3, _, rfl, rfl, SqT.of (mv.sub _ _ hpu), rfl, pc, rfl, ⟨_, SqT.of (mv.sub _ _ hpc)⟩, ?_⟩
            refine walkW (walk_tup (xs := cvs)) (fun j H' => ∃ R2, Mv F0 R H R2 H' ∧ Same R' R2 ∧ R2 D1 = none ∧ R2 D2 = none ∧ H' D1 = some (.lst hv) ∧ H' D2 = some (.lst ((((hds.take i).flatMap hdB) ++ (clsB cs).take j).map V.bl))) ?_ ?_ ?_ ?_
            · exact ⟨R', mv, .refl _, r1, r2, hd1, by rw [List.take_zero, List.append_nil]; exact hd2⟩
            · rintro j H2 hj ⟨R2, mvj, s2, q1, q2, e1, e2⟩
              exact SqT.of (mvj.sub _ _ (s2 _ _ hpc))
            · rintro j z H2 H3 hj ⟨R2, mvj, s2, q1, q2, e1, e2⟩ ⟨rfl, hz⟩
              obtain ⟨dz, hdz, adz⟩ := ac.mem hz
              obtain ⟨o, x, k, g2, rfl, hg2, hb2, hk2⟩ := cls_get hdz
              refine ⟨rfl, ?_⟩
              refine ⟨_, rfl, R2, o, x, k, g2, z, rfl, mvj.sub, adz.up s2, okg.part (List.mem_cons_of_mem _ (List.mem_cons_of_mem _ hg2)), hk2 nmg, fun R3 H3 m3 => ?_⟩
              have f1 := m3.same _ _ e1
              have f2 := m3.same _ _ e2
              have z1 : R3 D1 = none := m3.out q1 e1
              have z2 : R3 D2 = none := m3.out q2 e2
              have jl : j < (clsB cs).length := (List.getElem?_eq_some_iff.mp hb2).1
              refine ⟨_, f2, ?_, R3, ?_, s2.trans m3.up, z1, z2, ?_, ?_⟩
              · rw [List.length_map, List.length_append, List.length_take]
                have : (hdB (.hd a y b cs)).length = (clsB cs).length := rfl
                exact Nat.lt_of_le_of_lt (by omega : ((hds.take i).flatMap hdB).length + min j (clsB cs).length ≤ 1000000) (by decide)
              · exact (mvj.tr m3).trans (mv_at (F := fun x => x = D2) m3.sub z2 f2 rfl) (fun _ f => f) (fun x f => .inr (by rw [f]; exact nH2))
              · rw [upd_ne n12]
                exact f1
              · rw [upd_same, List.take_add_one, hb2, ← List.append_assoc, List.map_append (l₂ := Option.toList _)]
                rfl
            · rintro H2 ⟨R2, mvj, s2, q1, q2, e1, e2⟩
              have cl : cvs.length = (clsB cs).length := by
                rw [ac.length, clsB_len, Clz.d4]
                unfold cls4 up4
                rw [List.length_map, List.length_map, Clz.l4]
              rw [cl, List.take_length] at e2
              refine ⟨R2, mvj, s1.trans s2, q1, q2, e1, ?_⟩
              rw [e2, List.take_add_one, eg, List.flatMap_append]
              show _ = some (HO.lst (List.map V.bl (_ ++ (hdB (.hd a y b cs) ++ []))))
              rw [List.append_nil]
              rfl
          | _ => cases hm.2
      · rintro H3 ⟨R', mv, s1, r1, r2, hd1, hd2⟩
        rw [show hv.length = hds.length by rw [ah.length, List.length_map], List.take_length, show hds.flatMap hdB = (pre e).flatMap hdB from hds_flat _] at hd2
        exact ⟨D2, _, rfl, SqL.of hd2, q _ _ mv⟩
end
end Bz


set_option Elab.async false
set_option linter.all false
set_option maxRecDepth 100000
set_option maxHeartbeats 4000000
namespace Bz
open PySem PySem.Spec L2 PyProof.Rows
theorem cls_gs : ∀ {c : Clz} {j : Nat} {d : D}, (c.d false)[j]? = some d → ∃ o x k g, d = D.tup [.str o, .str x, .str k, g.d false] ∧ c.gs[j]? = some g
  | .nil, j, d, h => by cases j <;> cases h
  | .cons o x k g r, 0, d, h => by cases h; exact ⟨o, x, k, g, rfl, rfl⟩
  | .cons o x k g r, j + 1, d, h => cls_gs (c := r) (j := j) (d := d) h
section
variable {P : Program} {w : World} {K : PySem.W.Frag} {mg : Str → Option Value} {base : Heap}
abbrev g__law_parts : Stmt := topS 25
abbrev n__law_parts : List Str := ["tree", "head", "clause"]
abbrev p__law_parts : List Str := ["tree"]
theorem sc__law_parts : FnScope n__law_parts p__law_parts (defScope g__law_parts) := ⟨rfl, rfl, rfl, by decide +kernel, rfl, by decide +kernel, by decide +kernel⟩
def spLP : Sp := fun vs H Q _ => ∃ (R : Hp) (e : Ex) (v : V), vs = [v] ∧ Same R H ∧ At R (e.d false) v ∧ smE e = true ∧ ∀ (R' H' : Hp) (u : V), Mv F0 R H R' H' → At R' (.lst ((exParts e).map (Ex.d false))) u → Q u H'
theorem ok_lp {f : Addr} {fd : FuncData} (F : Fun K "_law_parts" "_law_parts" g__law_parts f fd) (ml : mg "len" = none) (mli : mg "list" = none) : FnOk P w K mg base CX0 1 f fd p__law_parts spLP := by
  refine F.ok sc__law_parts (fun vs H Q E h => ?_) (fun cdv A outer st H vs Q E hr h => ?_)
  · obtain ⟨R, e, v, rfl, _⟩ := h
    rfl
  · obtain ⟨R, e, v, rfl, sub, he, sm, q⟩ := h
    refine ⟨_, (pss_cons (ps_set (i := 1) sc__law_parts.nd rfl (Or.inl rfl) (pe_ix ix_tup (pv 0) (pe_int) (fun _ _ => rfl)))
      (pss_cons (ps_if (pt_cmpR op_in_seq (pv 1) (pe_lst (pa_cons (pe_str) (pa_cons (pe_str) (pa_cons (pe_str) (pa_cons (pe_str) pa_nil))))) (by rfl)) (pss_one (ps_ret (pe_lst pa_nil))) pss_nil)
      (pss_cons (ps_if (pt_cmpR op_in_seq (pv 1) (pe_lst (pa_cons (pe_str) (pa_cons (pe_str) pa_nil))) (by rfl)) (pss_one (ps_ret (pe_lst (pa_cons (pe_ix ix_tup (pv 0) (pe_op op_sub (pe_callB call_len_seq (by rfl) ml PySem.boot_len (pa_cons (pv 0) pa_nil)) (pe_int)) (fun _ _ => rfl)) pa_nil)))) pss_nil)
      (pss_cons (ps_if (pt_cmpR op_in_seq (pv 1) (pe_lst (pa_cons (pe_str) (pa_cons (pe_str) pa_nil))) (by rfl)) (pss_one (ps_ret (pe_lst (pa_cons (pe_ix ix_tup (pv 0) (pe_int) (fun _ _ => rfl)) (pa_cons (pe_ix ix_tup (pv 0) (pe_int) (fun _ _ => rfl)) pa_nil))))) pss_nil)
      (pss_cons (ps_if (pt_cmpR op_eq (pv 1) (pe_str) (nomark _)) (pss_one (ps_ret (pe_lst (pa_cons (pe_ix ix_tup (pv 0) (pe_int) (fun _ _ => rfl)) pa_nil)))) pss_nil)
      (pss_cons (ps_if (pt_cmpR op_eq (pv 1) (pe_str) (nomark _)) (pss_one (ps_ret (pe_op op_cat (pe_lst (pa_cons (pe_ix ix_tup (pv 0) (pe_int) (fun _ _ => rfl)) (pa_cons (pe_ix ix_tup (pe_ix ix_tup (pv 0) (pe_int) (fun _ _ => rfl)) (pe_int) (fun _ _ => rfl)) pa_nil))) (pe_lc (own := [("clause", 2)]) (g := gName 2) (tt := tYes) (te := tOp (rIxT K) (tVar 2) (tC (.int 3))) rfl sc__law_parts.nd (pi_tup (pe_ix ix_tup (pv 0) pe_int (fun _ _ => rfl))) (blkOk_by (N := n__law_parts) (sc := defScope g__law_parts) (by decide +kernel)) (fun _ _ _ _ _ => pg_name (i := 2) sc__law_parts.nd rfl (Or.inl rfl)) (fun _ _ _ _ _ => pts_nil) (fun _ _ _ _ _ => pe_ix ix_tup (pv 2) pe_int (fun _ _ => rfl)))))) pss_nil)
      (pss_one (ps_ret (pe_callTy call_list_of (by rfl) mli (by decide +kernel) (pa_cons (pe_slice sl_tup (pv 0) (po_some (pe_int)) po_none) pa_nil)))))))))), ?_⟩
    have m0 : Mv F0 R H R H := .refl sub
    cases e with
    | num n =>
      obtain ⟨pe, _, rfl, hpe, _, _, rfl, rfl, _, _, rfl, rfl, rfl⟩ := he
      have hpe := sub _ _ hpe
      refine ⟨_, rfl, pe, _, 0, _, rfl, rfl, SqT.of hpe, atI_nat (j := 0) rfl, ?_⟩
      refine ⟨_, rfl, by show 4 ≤ sizeLine; decide, fun p1 n1 => ?_⟩
      have m1 : Mv F0 R H R _ := m0.tr (mv_mut (o := .lst [.str "num", .str "flag", .str "unit", .str "name"]) m0.sub n1)
      refine ⟨p1, _, rfl, .inl (SqL.of upd_same), rfl, rfl, _, rfl, ?_⟩
      refine ifT (by decide +kernel) ?_
      refine ⟨Nat.zero_le _, fun p np => ?_⟩
      exact q _ _ _ (m1.tr (mv_new m1.sub np)) (.nlst m1.sub np rfl)
    | flag b =>
      obtain ⟨pe, _, rfl, hpe, _, _, rfl, rfl, _, _, rfl, rfl, rfl⟩ := he
      have hpe := sub _ _ hpe
      refine ⟨_, rfl, pe, _, 0, _, rfl, rfl, SqT.of hpe, atI_nat (j := 0) rfl, ?_⟩
      refine ⟨_, rfl, by show 4 ≤ sizeLine; decide, fun p1 n1 => ?_⟩
      have m1 : Mv F0 R H R _ := m0.tr (mv_mut (o := .lst [.str "num", .str "flag", .str "unit", .str "name"]) m0.sub n1)
      refine ⟨p1, _, rfl, .inl (SqL.of upd_same), rfl, rfl, _, rfl, ?_⟩
      refine ifT (by decide +kernel) ?_
      refine ⟨Nat.zero_le _, fun p np => ?_⟩
      exact q _ _ _ (m1.tr (mv_new m1.sub np)) (.nlst m1.sub np rfl)
    | unit =>
      obtain ⟨pe, _, rfl, hpe, _, _, rfl, rfl, rfl⟩ := he
      have hpe := sub _ _ hpe
      refine ⟨_, rfl, pe, _, 0, _, rfl, rfl, SqT.of hpe, atI_nat (j := 0) rfl, ?_⟩
      refine ⟨_, rfl, by show 4 ≤ sizeLine; decide, fun p1 n1 => ?_⟩
      have m1 : Mv F0 R H R _ := m0.tr (mv_mut (o := .lst [.str "num", .str "flag", .str "unit", .str "name"]) m0.sub n1)
      refine ⟨p1, _, rfl, .inl (SqL.of upd_same), rfl, rfl, _, rfl, ?_⟩
      refine ifT (by decide +kernel) ?_
      refine ⟨Nat.zero_le _, fun p np => ?_⟩
      exact q _ _ _ (m1.tr (mv_new m1.sub np)) (.nlst m1.sub np rfl)
    | name x =>
      obtain ⟨pe, _, rfl, hpe, _, _, rfl, rfl, _, _, rfl, rfl, rfl⟩ := he
      have hpe := sub _ _ hpe
      refine ⟨_, rfl, pe, _, 0, _, rfl, rfl, SqT.of hpe, atI_nat (j := 0) rfl, ?_⟩
      refine ⟨_, rfl, by show 4 ≤ sizeLine; decide, fun p1 n1 => ?_⟩
      have m1 : Mv F0 R H R _ := m0.tr (mv_mut (o := .lst [.str "num", .str "flag", .str "unit", .str "name"]) m0.sub n1)
      refine ⟨p1, _, rfl, .inl (SqL.of upd_same), rfl, rfl, _, rfl, ?_⟩
      refine ifT (by decide +kernel) ?_
      refine ⟨Nat.zero_le _, fun p np => ?_⟩
      exact q _ _ _ (m1.tr (mv_new m1.sub np)) (.nlst m1.sub np rfl)
    | call f e =>
      obtain ⟨pe, _, rfl, hpe, _, _, rfl, rfl, vf, _, rfl, af, ve, _, rfl, ae, rfl⟩ := he
      have hpe := sub _ _ hpe
      refine ⟨_, rfl, pe, _, 0, _, rfl, rfl, SqT.of hpe, atI_nat (j := 0) rfl, ?_⟩
      refine ⟨_, rfl, by show 4 ≤ sizeLine; decide, fun p1 n1 => ?_⟩
      have m1 : Mv F0 R H R _ := m0.tr (mv_mut (o := .lst [.str "num", .str "flag", .str "unit", .str "name"]) m0.sub n1)
      refine ⟨p1, _, rfl, .inl (SqL.of upd_same), rfl, rfl, _, rfl, ?_⟩
      refine ifF (by decide +kernel) ?_
      refine ⟨_, rfl, by show 2 ≤ sizeLine; decide, fun p2 n2 => ?_⟩
      have m2 : Mv F0 R H R _ := m1.tr (mv_mut (o := .lst [.str "fun", .str "rec"]) m1.sub n2)
      refine ⟨p2, _, rfl, .inl (SqL.of upd_same), rfl, rfl, _, rfl, ?_⟩
      refine ifF (by decide +kernel) ?_
      refine ⟨_, rfl, by show 2 ≤ sizeLine; decide, fun p3 n3 => ?_⟩
      have m3 : Mv F0 R H R _ := m2.tr (mv_mut (o := .lst [.str "let", .str "op"]) m2.sub n3)
      refine ⟨p3, _, rfl, .inl (SqL.of upd_same), rfl, rfl, _, rfl, ?_⟩
      refine ifF (by decide +kernel) ?_
      refine ⟨_, rfl, rfl, _, rfl, ?_⟩
      refine isF (by decide +kernel) ?_
      refine ⟨_, rfl, rfl, _, rfl, ?_⟩
      refine isF (by decide +kernel) ?_
      refine ⟨_, rfl, 1, rfl, pe, _, rfl, SqT.of (m3.same _ _ hpe), (fun z => absurd z.1 (by show ¬ HT.sIx 3 0 (some 1) = 0; decide)), fun ps nps => ?_⟩
      have mS : Mv F0 R H R _ := m3.tr (mv_mut (o := .tup [vf, ve]) m3.sub nps)
      refine ⟨ps, _, rfl, .inr (SqT.of upd_same), fun p np => ?_⟩
      exact q _ _ _ (mS.tr (mv_new mS.sub np)) (.nlst mS.sub np ⟨_, _, rfl, af, _, _, rfl, ae, rfl⟩)
    | fn x e =>
      obtain ⟨pe, _, rfl, hpe, _, _, rfl, rfl, _, _, rfl, rfl, ve, _, rfl, ae, rfl⟩ := he
      have hpe := sub _ _ hpe
      refine ⟨_, rfl, pe, _, 0, _, rfl, rfl, SqT.of hpe, atI_nat (j := 0) rfl, ?_⟩
      refine ⟨_, rfl, by show 4 ≤ sizeLine; decide, fun p1 n1 => ?_⟩
      have m1 : Mv F0 R H R _ := m0.tr (mv_mut (o := .lst [.str "num", .str "flag", .str "unit", .str "name"]) m0.sub n1)
      refine ⟨p1, _, rfl, .inl (SqL.of upd_same), rfl, rfl, _, rfl, ?_⟩
      refine ifF (by decide +kernel) ?_
      refine ⟨_, rfl, by show 2 ≤ sizeLine; decide, fun p2 n2 => ?_⟩
      have m2 : Mv F0 R H R _ := m1.tr (mv_mut (o := .lst [.str "fun", .str "rec"]) m1.sub n2)
      refine ⟨p2, _, rfl, .inl (SqL.of upd_same), rfl, rfl, _, rfl, ?_⟩
      refine ifT (by decide +kernel) ?_
      refine ⟨_, rfl, _, rfl, pe, _, rfl, .inr (SqT.of (m2.same _ _ hpe)), _, _, rfl, rfl, pe, _, _, _, rfl, rfl, SqT.of (m2.same _ _ hpe), atI_nat (j := 2) rfl, by show 1 ≤ sizeLine; decide, fun p np => ?_⟩
      exact q _ _ _ (m2.tr (mv_new m2.sub np)) (.nlst m2.sub np ⟨_, _, rfl, ae, rfl⟩)
    | rc h x e =>
      obtain ⟨pe, _, rfl, hpe, _, _, rfl, rfl, _, _, rfl, rfl, _, _, rfl, rfl, ve, _, rfl, ae, rfl⟩ := he
      have hpe := sub _ _ hpe
      refine ⟨_, rfl, pe, _, 0, _, rfl, rfl, SqT.of hpe, atI_nat (j := 0) rfl, ?_⟩
      refine ⟨_, rfl, by show 4 ≤ sizeLine; decide, fun p1 n1 => ?_⟩
      have m1 : Mv F0 R H R _ := m0.tr (mv_mut (o := .lst [.str "num", .str "flag", .str "unit", .str "name"]) m0.sub n1)
      refine ⟨p1, _, rfl, .inl (SqL.of upd_same), rfl, rfl, _, rfl, ?_⟩
      refine ifF (by decide +kernel) ?_
      refine ⟨_, rfl, by show 2 ≤ sizeLine; decide, fun p2 n2 => ?_⟩
      have m2 : Mv F0 R H R _ := m1.tr (mv_mut (o := .lst [.str "fun", .str "rec"]) m1.sub n2)
      refine ⟨p2, _, rfl, .inl (SqL.of upd_same), rfl, rfl, _, rfl, ?_⟩
      refine ifT (by decide +kernel) ?_
      refine ⟨_, rfl, _, rfl, pe, _, rfl, .inr (SqT.of (m2.same _ _ hpe)), _, _, rfl, rfl, pe, _, _, _, rfl, rfl, SqT.of (m2.same _ _ hpe), atI_nat (j := 3) rfl, by show 1 ≤ sizeLine; decide, fun p np => ?_⟩
      exact q _ _ _ (m2.tr (mv_new m2.sub np)) (.nlst m2.sub np ⟨_, _, rfl, ae, rfl⟩)
    | lt x f e =>
      obtain ⟨pe, _, rfl, hpe, _, _, rfl, rfl, _, _, rfl, rfl, vf, _, rfl, af, ve, _, rfl, ae, rfl⟩ := he
      have hpe := sub _ _ hpe
      refine ⟨_, rfl, pe, _, 0, _, rfl, rfl, SqT.of hpe, atI_nat (j := 0) rfl, ?_⟩
      refine ⟨_, rfl, by show 4 ≤ sizeLine; decide, fun p1 n1 => ?_⟩
      have m1 : Mv F0 R H R _ := m0.tr (mv_mut (o := .lst [.str "num", .str "flag", .str "unit", .str "name"]) m0.sub n1)
      refine ⟨p1, _, rfl, .inl (SqL.of upd_same), rfl, rfl, _, rfl, ?_⟩
      refine ifF (by decide +kernel) ?_
      refine ⟨_, rfl, by show 2 ≤ sizeLine; decide, fun p2 n2 => ?_⟩
      have m2 : Mv F0 R H R _ := m1.tr (mv_mut (o := .lst [.str "fun", .str "rec"]) m1.sub n2)
      refine ⟨p2, _, rfl, .inl (SqL.of upd_same), rfl, rfl, _, rfl, ?_⟩
      refine ifF (by decide +kernel) ?_
      refine ⟨_, rfl, by show 2 ≤ sizeLine; decide, fun p3 n3 => ?_⟩
      have m3 : Mv F0 R H R _ := m2.tr (mv_mut (o := .lst [.str "let", .str "op"]) m2.sub n3)
      refine ⟨p3, _, rfl, .inl (SqL.of upd_same), rfl, rfl, _, rfl, ?_⟩
      refine ifT (by decide +kernel) ?_
      refine ⟨_, rfl, pe, _, 2, _, rfl, rfl, SqT.of (m3.same _ _ hpe), rfl, _, rfl, pe, _, 3, _, rfl, rfl, SqT.of (m3.same _ _ hpe), rfl, by show 2 ≤ sizeLine; decide, fun p np => ?_⟩
      exact q _ _ _ (m3.tr (mv_new m3.sub np)) (.nlst m3.sub np ⟨_, _, rfl, af, _, _, rfl, ae, rfl⟩)
    | ite f e g =>
      obtain ⟨pe, _, rfl, hpe, _, _, rfl, rfl, vf, _, rfl, af, ve, _, rfl, ae, vg, _, rfl, ag, rfl⟩ := he
      have hpe := sub _ _ hpe
      refine ⟨_, rfl, pe, _, 0, _, rfl, rfl, SqT.of hpe, atI_nat (j := 0) rfl, ?_⟩
      refine ⟨_, rfl, by show 4 ≤ sizeLine; decide, fun p1 n1 => ?_⟩
      have m1 : Mv F0 R H R _ := m0.tr (mv_mut (o := .lst [.str "num", .str "flag", .str "unit", .str "name"]) m0.sub n1)
      refine ⟨p1, _, rfl, .inl (SqL.of upd_same), rfl, rfl, _, rfl, ?_⟩
      refine ifF (by decide +kernel) ?_
      refine ⟨_, rfl, by show 2 ≤ sizeLine; decide, fun p2 n2 => ?_⟩
      have m2 : Mv F0 R H R _ := m1.tr (mv_mut (o := .lst [.str "fun", .str "rec"]) m1.sub n2)
      refine ⟨p2, _, rfl, .inl (SqL.of upd_same), rfl, rfl, _, rfl, ?_⟩
      refine ifF (by decide +kernel) ?_
      refine ⟨_, rfl, by show 2 ≤ sizeLine; decide, fun p3 n3 => ?_⟩
      have m3 : Mv F0 R H R _ := m2.tr (mv_mut (o := .lst [.str "let", .str "op"]) m2.sub n3)
      refine ⟨p3, _, rfl, .inl (SqL.of upd_same), rfl, rfl, _, rfl, ?_⟩
      refine ifF (by decide +kernel) ?_
      refine ⟨_, rfl, rfl, _, rfl, ?_⟩
      refine isF (by decide +kernel) ?_
      refine ⟨_, rfl, rfl, _, rfl, ?_⟩
      refine isF (by decide +kernel) ?_
      refine ⟨_, rfl, 1, rfl, pe, _, rfl, SqT.of (m3.same _ _ hpe), (fun z => absurd z.1 (by show ¬ HT.sIx 4 0 (some 1) = 0; decide)), fun ps nps => ?_⟩
      have mS : Mv F0 R H R _ := m3.tr (mv_mut (o := .tup [vf, ve, vg]) m3.sub nps)
      refine ⟨ps, _, rfl, .inr (SqT.of upd_same), fun p np => ?_⟩
      exact q _ _ _ (mS.tr (mv_new mS.sub np)) (.nlst mS.sub np ⟨_, _, rfl, af, _, _, rfl, ae, _, _, rfl, ag, rfl⟩)
    | pair f e =>
      obtain ⟨pe, _, rfl, hpe, _, _, rfl, rfl, vf, _, rfl, af, ve, _, rfl, ae, rfl⟩ := he
      have hpe := sub _ _ hpe
      refine ⟨_, rfl, pe, _, 0, _, rfl, rfl, SqT.of hpe, atI_nat (j := 0) rfl, ?_⟩
      refine ⟨_, rfl, by show 4 ≤ sizeLine; decide, fun p1 n1 => ?_⟩
      have m1 : Mv F0 R H R _ := m0.tr (mv_mut (o := .lst [.str "num", .str "flag", .str "unit", .str "name"]) m0.sub n1)
      refine ⟨p1, _, rfl, .inl (SqL.of upd_same), rfl, rfl, _, rfl, ?_⟩
      refine ifF (by decide +kernel) ?_
      refine ⟨_, rfl, by show 2 ≤ sizeLine; decide, fun p2 n2 => ?_⟩
      have m2 : Mv F0 R H R _ := m1.tr (mv_mut (o := .lst [.str "fun", .str "rec"]) m1.sub n2)
      refine ⟨p2, _, rfl, .inl (SqL.of upd_same), rfl, rfl, _, rfl, ?_⟩
      refine ifF (by decide +kernel) ?_
      refine ⟨_, rfl, by show 2 ≤ sizeLine; decide, fun p3 n3 => ?_⟩
      have m3 : Mv F0 R H R _ := m2.tr (mv_mut (o := .lst [.str "let", .str "op"]) m2.sub n3)
      refine ⟨p3, _, rfl, .inl (SqL.of upd_same), rfl, rfl, _, rfl, ?_⟩
      refine ifF (by decide +kernel) ?_
      refine ⟨_, rfl, rfl, _, rfl, ?_⟩
      refine isF (by decide +kernel) ?_
      refine ⟨_, rfl, rfl, _, rfl, ?_⟩
      refine isF (by decide +kernel) ?_
      refine ⟨_, rfl, 1, rfl, pe, _, rfl, SqT.of (m3.same _ _ hpe), (fun z => absurd z.1 (by show ¬ HT.sIx 3 0 (some 1) = 0; decide)), fun ps nps => ?_⟩
      have mS : Mv F0 R H R _ := m3.tr (mv_mut (o := .tup [vf, ve]) m3.sub nps)
      refine ⟨ps, _, rfl, .inr (SqT.of upd_same), fun p np => ?_⟩
      exact q _ _ _ (mS.tr (mv_new mS.sub np)) (.nlst mS.sub np ⟨_, _, rfl, af, _, _, rfl, ae, rfl⟩)
    | fst e =>
      obtain ⟨pe, _, rfl, hpe, _, _, rfl, rfl, ve, _, rfl, ae, rfl⟩ := he
      have hpe := sub _ _ hpe
      refine ⟨_, rfl, pe, _, 0, _, rfl, rfl, SqT.of hpe, atI_nat (j := 0) rfl, ?_⟩
      refine ⟨_, rfl, by show 4 ≤ sizeLine; decide, fun p1 n1 => ?_⟩
      have m1 : Mv F0 R H R _ := m0.tr (mv_mut (o := .lst [.str "num", .str "flag", .str "unit", .str "name"]) m0.sub n1)
      refine ⟨p1, _, rfl, .inl (SqL.of upd_same), rfl, rfl, _, rfl, ?_⟩
      refine ifF (by decide +kernel) ?_
      refine ⟨_, rfl, by show 2 ≤ sizeLine; decide, fun p2 n2 => ?_⟩
      have m2 : Mv F0 R H R _ := m1.tr (mv_mut (o := .lst [.str "fun", .str "rec"]) m1.sub n2)
      refine ⟨p2, _, rfl, .inl (SqL.of upd_same), rfl, rfl, _, rfl, ?_⟩
      refine ifF (by decide +kernel) ?_
      refine ⟨_, rfl, by show 2 ≤ sizeLine; decide, fun p3 n3 => ?_⟩
      have m3 : Mv F0 R H R _ := m2.tr (mv_mut (o := .lst [.str "let", .str "op"]) m2.sub n3)
      refine ⟨p3, _, rfl, .inl (SqL.of upd_same), rfl, rfl, _, rfl, ?_⟩
      refine ifF (by decide +kernel) ?_
      refine ⟨_, rfl, rfl, _, rfl, ?_⟩
      refine isF (by decide +kernel) ?_
      refine ⟨_, rfl, rfl, _, rfl, ?_⟩
      refine isF (by decide +kernel) ?_
      refine ⟨_, rfl, 1, rfl, pe, _, rfl, SqT.of (m3.same _ _ hpe), (fun z => absurd z.1 (by show ¬ HT.sIx 2 0 (some 1) = 0; decide)), fun ps nps => ?_⟩
      have mS : Mv F0 R H R _ := m3.tr (mv_mut (o := .tup [ve]) m3.sub nps)
      refine ⟨ps, _, rfl, .inr (SqT.of upd_same), fun p np => ?_⟩
      exact q _ _ _ (mS.tr (mv_new mS.sub np)) (.nlst mS.sub np ⟨_, _, rfl, ae, rfl⟩)
    | snd e =>
      obtain ⟨pe, _, rfl, hpe, _, _, rfl, rfl, ve, _, rfl, ae, rfl⟩ := he
      have hpe := sub _ _ hpe
      refine ⟨_, rfl, pe, _, 0, _, rfl, rfl, SqT.of hpe, atI_nat (j := 0) rfl, ?_⟩
      refine ⟨_, rfl, by show 4 ≤ sizeLine; decide, fun p1 n1 => ?_⟩
      have m1 : Mv F0 R H R _ := m0.tr (mv_mut (o := .lst [.str "num", .str "flag", .str "unit", .str "name"]) m0.sub n1)
      refine ⟨p1, _, rfl, .inl (SqL.of upd_same), rfl, rfl, _, rfl, ?_⟩
      refine ifF (by decide +kernel) ?_
      refine ⟨_, rfl, by show 2 ≤ sizeLine; decide, fun p2 n2 => ?_⟩
      have m2 : Mv F0 R H R _ := m1.tr (mv_mut (o := .lst [.str "fun", .str "rec"]) m1.sub n2)
      refine ⟨p2, _, rfl, .inl (SqL.of upd_same), rfl, rfl, _, rfl, ?_⟩
      refine ifF (by decide +kernel) ?_
      refine ⟨_, rfl, by show 2 ≤ sizeLine; decide, fun p3 n3 => ?_⟩
      have m3 : Mv F0 R H R _ := m2.tr (mv_mut (o := .lst [.str "let", .str "op"]) m2.sub n3)
      refine ⟨p3, _, rfl, .inl (SqL.of upd_same), rfl, rfl, _, rfl, ?_⟩
      refine ifF (by decide +kernel) ?_
      refine ⟨_, rfl, rfl, _, rfl, ?_⟩
      refine isF (by decide +kernel) ?_
      refine ⟨_, rfl, rfl, _, rfl, ?_⟩
      refine isF (by decide +kernel) ?_
      refine ⟨_, rfl, 1, rfl, pe, _, rfl, SqT.of (m3.same _ _ hpe), (fun z => absurd z.1 (by show ¬ HT.sIx 2 0 (some 1) = 0; decide)), fun ps nps => ?_⟩
      have mS : Mv F0 R H R _ := m3.tr (mv_mut (o := .tup [ve]) m3.sub nps)
      refine ⟨ps, _, rfl, .inr (SqT.of upd_same), fun p np => ?_⟩
      exact q _ _ _ (mS.tr (mv_new mS.sub np)) (.nlst mS.sub np ⟨_, _, rfl, ae, rfl⟩)
    | op s f e =>
      obtain ⟨pe, _, rfl, hpe, _, _, rfl, rfl, _, _, rfl, rfl, vf, _, rfl, af, ve, _, rfl, ae, rfl⟩ := he
      have hpe := sub _ _ hpe
      refine ⟨_, rfl, pe, _, 0, _, rfl, rfl, SqT.of hpe, atI_nat (j := 0) rfl, ?_⟩
      refine ⟨_, rfl, by show 4 ≤ sizeLine; decide, fun p1 n1 => ?_⟩
      have m1 : Mv F0 R H R _ := m0.tr (mv_mut (o := .lst [.str "num", .str "flag", .str "unit", .str "name"]) m0.sub n1)
      refine ⟨p1, _, rfl, .inl (SqL.of upd_same), rfl, rfl, _, rfl, ?_⟩
      refine ifF (by decide +kernel) ?_
      refine ⟨_, rfl, by show 2 ≤ sizeLine; decide, fun p2 n2 => ?_⟩
      have m2 : Mv F0 R H R _ := m1.tr (mv_mut (o := .lst [.str "fun", .str "rec"]) m1.sub n2)
      refine ⟨p2, _, rfl, .inl (SqL.of upd_same), rfl, rfl, _, rfl, ?_⟩
      refine ifF (by decide +kernel) ?_
      refine ⟨_, rfl, by show 2 ≤ sizeLine; decide, fun p3 n3 => ?_⟩
      have m3 : Mv F0 R H R _ := m2.tr (mv_mut (o := .lst [.str "let", .str "op"]) m2.sub n3)
      refine ⟨p3, _, rfl, .inl (SqL.of upd_same), rfl, rfl, _, rfl, ?_⟩
      refine ifT (by decide +kernel) ?_
      refine ⟨_, rfl, pe, _, 2, _, rfl, rfl, SqT.of (m3.same _ _ hpe), rfl, _, rfl, pe, _, 3, _, rfl, rfl, SqT.of (m3.same _ _ hpe), rfl, by show 2 ≤ sizeLine; decide, fun p np => ?_⟩
      exact q _ _ _ (m3.tr (mv_new m3.sub np)) (.nlst m3.sub np ⟨_, _, rfl, af, _, _, rfl, ae, rfl⟩)
    | nt e =>
      obtain ⟨pe, _, rfl, hpe, _, _, rfl, rfl, ve, _, rfl, ae, rfl⟩ := he
      have hpe := sub _ _ hpe
      refine ⟨_, rfl, pe, _, 0, _, rfl, rfl, SqT.of hpe, atI_nat (j := 0) rfl, ?_⟩
      refine ⟨_, rfl, by show 4 ≤ sizeLine; decide, fun p1 n1 => ?_⟩
      have m1 : Mv F0 R H R _ := m0.tr (mv_mut (o := .lst [.str "num", .str "flag", .str "unit", .str "name"]) m0.sub n1)
      refine ⟨p1, _, rfl, .inl (SqL.of upd_same), rfl, rfl, _, rfl, ?_⟩
      refine ifF (by decide +kernel) ?_
      refine ⟨_, rfl, by show 2 ≤ sizeLine; decide, fun p2 n2 => ?_⟩
      have m2 : Mv F0 R H R _ := m1.tr (mv_mut (o := .lst [.str "fun", .str "rec"]) m1.sub n2)
      refine ⟨p2, _, rfl, .inl (SqL.of upd_same), rfl, rfl, _, rfl, ?_⟩
      refine ifF (by decide +kernel) ?_
      refine ⟨_, rfl, by show 2 ≤ sizeLine; decide, fun p3 n3 => ?_⟩
      have m3 : Mv F0 R H R _ := m2.tr (mv_mut (o := .lst [.str "let", .str "op"]) m2.sub n3)
      refine ⟨p3, _, rfl, .inl (SqL.of upd_same), rfl, rfl, _, rfl, ?_⟩
      refine ifF (by decide +kernel) ?_
      refine ⟨_, rfl, rfl, _, rfl, ?_⟩
      refine isF (by decide +kernel) ?_
      refine ⟨_, rfl, rfl, _, rfl, ?_⟩
      refine isF (by decide +kernel) ?_
      refine ⟨_, rfl, 1, rfl, pe, _, rfl, SqT.of (m3.same _ _ hpe), (fun z => absurd z.1 (by show ¬ HT.sIx 2 0 (some 1) = 0; decide)), fun ps nps => ?_⟩
      have mS : Mv F0 R H R _ := m3.tr (mv_mut (o := .tup [ve]) m3.sub nps)
      refine ⟨ps, _, rfl, .inr (SqT.of upd_same), fun p np => ?_⟩
      exact q _ _ _ (mS.tr (mv_new mS.sub np)) (.nlst mS.sub np ⟨_, _, rfl, ae, rfl⟩)
    | pr f e =>
      obtain ⟨pe, _, rfl, hpe, _, _, rfl, rfl, vf, _, rfl, af, ve, _, rfl, ae, rfl⟩ := he
      have hpe := sub _ _ hpe
      refine ⟨_, rfl, pe, _, 0, _, rfl, rfl, SqT.of hpe, atI_nat (j := 0) rfl, ?_⟩
      refine ⟨_, rfl, by show 4 ≤ sizeLine; decide, fun p1 n1 => ?_⟩
      have m1 : Mv F0 R H R _ := m0.tr (mv_mut (o := .lst [.str "num", .str "flag", .str "unit", .str "name"]) m0.sub n1)
      refine ⟨p1, _, rfl, .inl (SqL.of upd_same), rfl, rfl, _, rfl, ?_⟩
      refine ifF (by decide +kernel) ?_
      refine ⟨_, rfl, by show 2 ≤ sizeLine; decide, fun p2 n2 => ?_⟩
      have m2 : Mv F0 R H R _ := m1.tr (mv_mut (o := .lst [.str "fun", .str "rec"]) m1.sub n2)
      refine ⟨p2, _, rfl, .inl (SqL.of upd_same), rfl, rfl, _, rfl, ?_⟩
      refine ifF (by decide +kernel) ?_
      refine ⟨_, rfl, by show 2 ≤ sizeLine; decide, fun p3 n3 => ?_⟩
      have m3 : Mv F0 R H R _ := m2.tr (mv_mut (o := .lst [.str "let", .str "op"]) m2.sub n3)
      refine ⟨p3, _, rfl, .inl (SqL.of upd_same), rfl, rfl, _, rfl, ?_⟩
      refine ifF (by decide +kernel) ?_
      refine ⟨_, rfl, rfl, _, rfl, ?_⟩
      refine isF (by decide +kernel) ?_
      refine ⟨_, rfl, rfl, _, rfl, ?_⟩
      refine isF (by decide +kernel) ?_
      refine ⟨_, rfl, 1, rfl, pe, _, rfl, SqT.of (m3.same _ _ hpe), (fun z => absurd z.1 (by show ¬ HT.sIx 3 0 (some 1) = 0; decide)), fun ps nps => ?_⟩
      have mS : Mv F0 R H R _ := m3.tr (mv_mut (o := .tup [vf, ve]) m3.sub nps)
      refine ⟨ps, _, rfl, .inr (SqT.of upd_same), fun p np => ?_⟩
      exact q _ _ _ (mS.tr (mv_new mS.sub np)) (.nlst mS.sub np ⟨_, _, rfl, af, _, _, rfl, ae, rfl⟩)
    | ask s e =>
      obtain ⟨pe, _, rfl, hpe, _, _, rfl, rfl, _, _, rfl, rfl, ve, _, rfl, ae, rfl⟩ := he
      have hpe := sub _ _ hpe
      refine ⟨_, rfl, pe, _, 0, _, rfl, rfl, SqT.of hpe, atI_nat (j := 0) rfl, ?_⟩
      refine ⟨_, rfl, by show 4 ≤ sizeLine; decide, fun p1 n1 => ?_⟩
      have m1 : Mv F0 R H R _ := m0.tr (mv_mut (o := .lst [.str "num", .str "flag", .str "unit", .str "name"]) m0.sub n1)
      refine ⟨p1, _, rfl, .inl (SqL.of upd_same), rfl, rfl, _, rfl, ?_⟩
      refine ifF (by decide +kernel) ?_
      refine ⟨_, rfl, by show 2 ≤ sizeLine; decide, fun p2 n2 => ?_⟩
      have m2 : Mv F0 R H R _ := m1.tr (mv_mut (o := .lst [.str "fun", .str "rec"]) m1.sub n2)
      refine ⟨p2, _, rfl, .inl (SqL.of upd_same), rfl, rfl, _, rfl, ?_⟩
      refine ifF (by decide +kernel) ?_
      refine ⟨_, rfl, by show 2 ≤ sizeLine; decide, fun p3 n3 => ?_⟩
      have m3 : Mv F0 R H R _ := m2.tr (mv_mut (o := .lst [.str "let", .str "op"]) m2.sub n3)
      refine ⟨p3, _, rfl, .inl (SqL.of upd_same), rfl, rfl, _, rfl, ?_⟩
      refine ifF (by decide +kernel) ?_
      refine ⟨_, rfl, rfl, _, rfl, ?_⟩
      refine ifT (decide_eq_true rfl) ?_
      refine ⟨_, rfl, pe, _, 2, _, rfl, rfl, SqT.of (m3.same _ _ hpe), rfl, by show 1 ≤ sizeLine; decide, fun p np => ?_⟩
      exact q _ _ _ (m3.tr (mv_new m3.sub np)) (.nlst m3.sub np ⟨_, _, rfl, ae, rfl⟩)
    | hd e x f cs =>
      obtain ⟨pe, _, rfl, hpe, _, _, rfl, rfl, ve, _, rfl, ae, vr, _, rfl, ⟨pr, _, rfl, hpr, vx, _, rfl, ax, vf, _, rfl, af, rfl⟩, vc, _, rfl, ⟨pc, cvs, rfl, hpc, acs⟩, rfl⟩ := he
      have hpe := sub _ _ hpe
      refine ⟨_, rfl, pe, _, 0, _, rfl, rfl, SqT.of hpe, atI_nat (j := 0) rfl, ?_⟩
      refine ⟨_, rfl, by show 4 ≤ sizeLine; decide, fun p1 n1 => ?_⟩
      have m1 : Mv F0 R H R _ := m0.tr (mv_mut (o := .lst [.str "num", .str "flag", .str "unit", .str "name"]) m0.sub n1)
      refine ⟨p1, _, rfl, .inl (SqL.of upd_same), rfl, rfl, _, rfl, ?_⟩
      refine ifF (by decide +kernel) ?_
      refine ⟨_, rfl, by show 2 ≤ sizeLine; decide, fun p2 n2 => ?_⟩
      have m2 : Mv F0 R H R _ := m1.tr (mv_mut (o := .lst [.str "fun", .str "rec"]) m1.sub n2)
      refine ⟨p2, _, rfl, .inl (SqL.of upd_same), rfl, rfl, _, rfl, ?_⟩
      refine ifF (by decide +kernel) ?_
      refine ⟨_, rfl, by show 2 ≤ sizeLine; decide, fun p3 n3 => ?_⟩
      have m3 : Mv F0 R H R _ := m2.tr (mv_mut (o := .lst [.str "let", .str "op"]) m2.sub n3)
      refine ⟨p3, _, rfl, .inl (SqL.of upd_same), rfl, rfl, _, rfl, ?_⟩
      refine ifF (by decide +kernel) ?_
      refine ⟨_, rfl, rfl, _, rfl, ?_⟩
      refine isF (by decide +kernel) ?_
      refine ⟨_, rfl, rfl, _, rfl, ?_⟩
      refine ifT (decide_eq_true rfl) ?_
      have hp3 := m3.same _ _ hpe
      refine ⟨_, rfl, pe, _, 1, _, rfl, rfl, SqT.of hp3, rfl, _, rfl, pe, _, 2, _, rfl, rfl, SqT.of hp3, rfl, pr, _, 1, _, rfl, rfl, SqT.of (m3.sub _ _ hpr), rfl, by show 2 ≤ sizeLine; decide, fun p4 n4 => ?_⟩
      have m4 : Mv F0 R H R _ := m3.tr (mv_mut (o := .lst [ve, vf]) m3.sub n4)
      refine ⟨_, rfl, pe, _, 3, _, rfl, rfl, SqT.of (m4.same _ _ hpe), rfl, pc, rfl, ⟨_, SqT.of (m4.sub _ _ hpc)⟩, fun D nD => ?_⟩
      have rD : R D = none := m4.sub.free nD
      have nH : H D = none := m4.free nD
      have n4D : p4 ≠ D := fun z => by rw [← z, upd_same] at nD; cases nD
      have cl : cvs.length = cs.len := by
        rw [acs.length, Clz.d4]
        unfold cls4 up4
        rw [List.length_map, List.length_map, Clz.l4]
      have cl9 : cs.len ≤ 900 := sm_len sm
      refine lc_it (walk_tup (xs := cvs)) (fun i H' => ∃ acc, Mv F0 R H R H' ∧ H' p4 = some (.lst [ve, vf]) ∧ H' D = some (.lst acc) ∧ Ats R ((cs.gs.take i).map (Ex.d false)) acc ∧ acc.length ≤ i) ?_ ?_ ?_ ?_
      · refine ⟨[], m4.tr (mv_mut m4.sub nD), ?_, upd_same, rfl, Nat.le_refl _⟩
        rw [upd_ne n4D]
        exact upd_same
      · rintro i H' hi ⟨acc, mv, _⟩
        exact SqT.of (mv.sub _ _ hpc)
      · rintro i z H' H'' hi ⟨acc, mv, h4, hD, aa, la⟩ ⟨rfl, hz⟩
        obtain ⟨d, hd, ad⟩ := acs.mem hz
        obtain ⟨o, x', k, g, rfl, hg⟩ := cls_gs hd
        obtain ⟨pz, _, rfl, hpz, _, _, rfl, rfl, _, _, rfl, rfl, _, _, rfl, rfl, vg, _, rfl, ag, rfl⟩ := ad
        refine ⟨rfl, ?_⟩
        refine ⟨_, rfl, pz, _, 3, _, rfl, rfl, SqT.of (mv.sub _ _ hpz), rfl, acc, hD, Nat.lt_of_le_of_lt (by omega : acc.length ≤ 1000000) (by decide), acc ++ [vg], ?_, ?_, upd_same, ?_, by rw [List.length_append]; show acc.length + 1 ≤ i + 1; omega⟩
        · exact mv.trans (mv_at (F := fun x => x = D) mv.sub rD hD rfl) (fun _ f => f) (fun x f => .inr (by rw [f]; exact nH))
        · rw [upd_ne n4D]
          exact h4
        · rw [List.take_add_one, hg, List.map_append]
          exact aa.append (.one ag)
      · rintro H5 ⟨acc, mv, h4, hD, aa, la⟩
        rw [cl, ← Clz.lg, List.take_length] at aa
        refine ⟨p4, D, [ve, vf], acc, rfl, rfl, h4, hD, ?_, fun p np => ?_⟩
        · have := aa.length
          rw [List.length_map, Clz.lg] at this
          show 2 + acc.length ≤ _
          exact Nat.le_trans (by omega : 2 + acc.length ≤ 1000) (by decide)
        exact q _ _ _ (mv.tr (mv_new mv.sub np)) (.nlst mv.sub np ⟨_, _, rfl, ae, _, _, rfl, af, aa⟩)
end
end Bz


set_option Elab.async false
set_option linter.all false
set_option maxRecDepth 100000
set_option maxHeartbeats 4000000
namespace Bz
open PySem PySem.Spec L2 PyProof.Rows
theorem take_pre : ∀ {l : List Ex} {i : Nat} {g : Ex}, l[i]? = some g → ((l.take i).flatMap pre).length + (pre g).length ≤ (l.flatMap pre).length
  | [], i, g, h => by cases i <;> cases h
  | a :: r, 0, g, h => by
    cases h
    rw [List.flatMap_cons, List.length_append]
    show 0 + _ ≤ _
    omega
  | a :: r, i + 1, g, h => by
    have := take_pre (l := r) (i := i) (g := g) h
    rw [List.take_succ_cons, List.flatMap_cons, List.flatMap_cons, List.length_append, List.length_append]
    omega
section
variable {P : Program} {w : World} {K : PySem.W.Frag} {mg : Str → Option Value} {base : Heap}
abbrev g__law_all : Stmt := topS 26
abbrev n__law_all : List Str := ["tree", "found", "part"]
abbrev p__law_all : List Str := ["tree"]
theorem sc__law_all : FnScope n__law_all p__law_all (defScope g__law_all) := ⟨rfl, rfl, rfl, by decide +kernel, rfl, by decide +kernel, by decide +kernel⟩
def spAll (n : Nat) : Sp := fun vs H Q _ => ∃ (R : Hp) (e : Ex) (v : V), vs = [v] ∧ Same R H ∧ At R (e.d false) v ∧ exD e ≤ n ∧ smE e = true ∧ exN e ≤ 1000000 ∧ ∀ (R' H' : Hp) (u : V), Mv F0 R H R' H' → At R' (.lst ((pre e).map (Ex.d false))) u → Q u H'
theorem ok_all0 {f : Addr} {fd : FuncData} (F : Fun K "_law_all" "_law_all" g__law_all f fd) : FnOk P w K mg base CX0 2 f fd p__law_all (spAll 0) := by
  refine F.ok (k := 1) sc__law_all (fun vs H Q E h => ?_) (fun cdv A outer st H vs Q E hr h => ?_)
  · obtain ⟨R, e, v, rfl, _⟩ := h
    rfl
  · obtain ⟨R, e, v, rfl, _, _, h, _⟩ := h
    exact absurd h (by have := ex_pos e; omega)
theorem ok_all {n : Nat} {f fP : Addr} {fd fdP : FuncData} (F : Fun K "_law_all" "_law_all" g__law_all f fd) (GP : Fn P w K mg base CX0 1 "_law_parts" p__law_parts spLP fP fdP)
    (GR : Fn P w K mg base CX0 (n + 2) "_law_all" p__law_all (spAll n) f fd) : FnOk P w K mg base CX0 (n + 3) f fd p__law_all (spAll (n + 1)) := by
  refine F.ok (k := n + 2) sc__law_all (fun vs H Q E h => ?_) (fun cdv A outer st H vs Q E hr h => ?_)
  · obtain ⟨R, e, v, rfl, _⟩ := h
    rfl
  · obtain ⟨R, e, v, rfl, sub, he, dep, sm, big, q⟩ := h
    refine ⟨_, (pss_cons (ps_set (i := 1) sc__law_all.nd rfl (Or.inl rfl) (pe_lst (pa_cons (pv 0) pa_nil)))
      (pss_cons (ps_for PassesOwn.never rfl (pi_list (pe_call GP.ok (hr.mono (by omega)) (by rfl) GP.g GP.kp GP.b .nil pass0 (pa_cons (pv 0) pa_nil))) (pg_name (i := 2) sc__law_all.nd rfl (Or.inl rfl)) (pss_one (ps_set (i := 1) sc__law_all.nd rfl (Or.inl rfl) (pe_op op_cat (pv 1) (pe_call GR.ok hr (by rfl) GR.g GR.kp GR.b .nil pass0 (pa_cons (pv 2) pa_nil))))))
      (pss_one (ps_ret (pv 1))))), ?_⟩
    refine ⟨_, rfl, by show 1 ≤ sizeLine; decide, fun p0 n0 => ?_⟩
    have m1 : Mv F0 R H _ _ := mv_new (o := .lst [v]) sub n0
    have a1 : At _ (.lst [e.d false]) (.ref p0) := .nlst sub n0 (.one he)
    generalize upd R p0 (.lst [v]) = R1 at m1 a1
    generalize upd H p0 (.lst [v]) = H1 at m1
    refine ⟨_, rfl, R1, e, v, rfl, m1.sub, he.up m1.up, sm, fun R2 H2 u m2 a2 => ?_⟩
    obtain ⟨pl, pvs, rfl, hpl, ap⟩ := a2
    have m12 := m1.tr m2
    have pl_ := pre_len e
    rw [pre_flat e, List.length_cons] at pl_
    refine ⟨pl, rfl, ⟨_, SqL.of (m2.sub _ _ hpl)⟩, ?_⟩
    refine for_it (walk_list (xs := pvs)) (fun i σ H' => ∃ (R' : Hp) (z : Option V) (p : Addr), σ = [some v, some (.ref p), z] ∧ Mv F0 R H R' H' ∧ Same R2 R' ∧ At R' (.lst ((e :: ((exParts e).take i).flatMap pre).map (Ex.d false))) (.ref p)) ?_ ?_ ?_ ?_
    · exact ⟨R2, none, p0, rfl, m12, .refl _, a1.up m2.up⟩
    · rintro i σ H' hi ⟨R', z, p, rfl, mv, s2, ap'⟩
      exact SqL.of (mv.sub _ _ (s2 _ _ hpl))
    · rintro i x σ H' H'' hi ⟨R', z, p, rfl, mv, s2, ap'⟩ ⟨rfl, hx⟩
      obtain ⟨d, hd, ad⟩ := ap.mem hx
      rw [List.getElem?_map] at hd
      cases eg : (exParts e)[i]? with
      | none => rw [eg] at hd; cases hd
      | some g =>
        rw [eg] at hd
        obtain rfl : g.d false = d := Option.some.inj hd
        have hm := List.mem_of_getElem? eg
        have pm := part_mem hm
        have tl := take_pre eg
        have gl := pre_len g
        obtain ⟨p', fvs, e1, hp', af⟩ := ap'
        obtain rfl : p = p' := V.ref.inj e1
        refine ⟨_, rfl, _, rfl, R', g, x, rfl, mv.sub, ad.up s2, by omega, pm.2 sm, by omega, fun R4 H4 u4 m4 a4 => ?_⟩
        obtain ⟨p5, gvs, rfl, hp5, ag⟩ := a4
        have m44 := mv.tr m4
        refine ⟨p, p5, fvs, gvs, rfl, rfl, m4.same _ _ (mv.sub _ _ hp'), m4.sub _ _ hp5, ?_, fun p6 n6 => ?_⟩
        · have l1 := af.length
          have l2 := ag.length
          rw [List.length_map, List.length_cons] at l1
          rw [List.length_map] at l2
          exact Nat.le_trans (by omega : fvs.length + gvs.length ≤ 1000000) (by decide)
        refine ⟨_, some x, p6, rfl, m44.tr (mv_new m44.sub n6), (s2.trans m4.up).trans (same_new (m44.sub.free n6)), ?_⟩
        have z : Ats R4 ((e :: ((exParts e).take (i + 1)).flatMap pre).map (Ex.d false)) (fvs ++ gvs) := by
          rw [List.take_add_one, eg, List.flatMap_append]
          show Ats R4 ((e :: (((exParts e).take i).flatMap pre ++ (pre g ++ []))).map (Ex.d false)) _
          rw [List.append_nil, ← List.cons_append, List.map_append]
          exact (af.up m4.up).append ag
        exact .nlst m44.sub n6 z
    · rintro σ H' ⟨R', z, p, rfl, mv, s2, ap'⟩
      rw [show pvs.length = (exParts e).length by rw [ap.length, List.length_map], List.take_length, ← pre_flat e] at ap'
      exact ⟨_, rfl, q _ _ _ mv ap'⟩
end
end Bz


set_option Elab.async false
set_option linter.all false
set_option maxRecDepth 100000
set_option maxHeartbeats 4000000
namespace Bz
open PySem PySem.Spec L2 PyProof.Rows
mutual
/-- a name occurs free -/
def occ : Ex → Str → Bool
  | .num _, _ => false | .flag _, _ => false | .unit, _ => false | .name y, x => decide (x = y)
  | .call f e, x => occ f x || occ e x
  | .fn y e, x => !decide (x = y) && occ e x
  | .rc h y e, x => !decide (x = h ∨ x = y) && occ e x
  | .lt y e f, x => occ e x || (!decide (x = y) && occ f x)
  | .ite e f g, x => occ e x || (occ f x || occ g x)
  | .pair e f, x => occ e x || occ f x
  | .fst e, x => occ e x | .snd e, x => occ e x
  | .op _ e f, x => occ e x || occ f x
  | .nt e, x => occ e x
  | .pr e f, x => occ e x || occ f x
  | .ask _ e, x => occ e x
  | .hd e y f cs, x => occ e x || ((!decide (x = y) && occ f x) || occC cs x)
def occC : Clz → Str → Bool
  | .nil, _ => false
  | .cons _ y k g r, x => (!decide (x = y ∨ x = k) && occ g x) || occC r x
end
theorem mem_addN {x y : Str} {ks : List Str} : x ∈ addN y ks ↔ x ∈ ks ∨ x = y := by
  unfold addN
  by_cases h : y ∈ ks
  · rw [if_pos h]
    exact ⟨.inl, fun z => z.elim id fun e => by rw [e]; exact h⟩
  · rw [if_neg h, List.mem_append, List.mem_singleton]
mutual
theorem mem_noted (x : Str) : ∀ (e : Ex) (bs ks : List Str), x ∈ noted e bs ks ↔ x ∈ ks ∨ (x ∉ bs ∧ occ e x = true)
  | .num _, bs, ks => by simp [noted, occ]
  | .flag _, bs, ks => by simp [noted, occ]
  | .unit, bs, ks => by simp [noted, occ]
  | .name y, bs, ks => by
    simp only [noted, occ, decide_eq_true_eq]
    by_cases h : y ∈ bs
    · rw [if_pos h]
      exact ⟨.inl, fun z => z.elim id fun ⟨a, b⟩ => absurd (by rw [b]; exact h) a⟩
    · rw [if_neg h, mem_addN]
      exact ⟨fun z => z.elim .inl fun e => .inr ⟨by rw [e]; exact h, e⟩, fun z => z.elim .inl fun a => .inr a.2⟩
  | .call f e, bs, ks => by
    simp only [noted, occ, mem_noted x f, mem_noted x e, Bool.or_eq_true]
    by_cases a : x ∈ ks <;> by_cases b : x ∈ bs <;> simp [a, b]
  | .fn y e, bs, ks => by
    simp only [noted, occ, mem_noted x e, Bool.and_eq_true, Bool.not_eq_true', decide_eq_false_iff_not, List.mem_append, List.mem_singleton]
    by_cases a : x ∈ ks <;> by_cases b : x ∈ bs <;> simp [a, b]
  | .rc h y e, bs, ks => by
    simp only [noted, occ, mem_noted x e, Bool.and_eq_true, Bool.not_eq_true', decide_eq_false_iff_not, List.mem_append, List.mem_cons, List.not_mem_nil, or_false]
    by_cases a : x ∈ ks <;> by_cases b : x ∈ bs <;> simp [a, b]
  | .lt y e f, bs, ks => by
    simp only [noted, occ, mem_noted x e, mem_noted x f, Bool.or_eq_true, Bool.and_eq_true, Bool.not_eq_true', decide_eq_false_iff_not, List.mem_append, List.mem_singleton]
    by_cases a : x ∈ ks <;> by_cases b : x ∈ bs <;> simp [a, b]
  | .ite e f g, bs, ks => by
    simp only [noted, occ, mem_noted x e, mem_noted x f, mem_noted x g, Bool.or_eq_true]
    by_cases a : x ∈ ks <;> by_cases b : x ∈ bs <;> simp [a, b, or_assoc]
  | .pair e f, bs, ks => by
    simp only [noted, occ, mem_noted x f, mem_noted x e, Bool.or_eq_true]
    by_cases a : x ∈ ks <;> by_cases b : x ∈ bs <;> simp [a, b]
  | .fst e, bs, ks => by simp only [noted, occ, mem_noted x e]
  | .snd e, bs, ks => by simp only [noted, occ, mem_noted x e]
  | .op _ e f, bs, ks => by
    simp only [noted, occ, mem_noted x f, mem_noted x e, Bool.or_eq_true]
    by_cases a : x ∈ ks <;> by_cases b : x ∈ bs <;> simp [a, b]
  | .nt e, bs, ks => by simp only [noted, occ, mem_noted x e]
  | .pr e f, bs, ks => by
    simp only [noted, occ, mem_noted x f, mem_noted x e, Bool.or_eq_true]
    by_cases a : x ∈ ks <;> by_cases b : x ∈ bs <;> simp [a, b]
  | .ask _ e, bs, ks => by simp only [noted, occ, mem_noted x e]
  | .hd e y f cs, bs, ks => by
    simp only [noted, occ, mem_noted x f, mem_noted x e, mem_notedC x cs, Bool.or_eq_true, Bool.and_eq_true, Bool.not_eq_true', decide_eq_false_iff_not, List.mem_append, List.mem_singleton]
    by_cases a : x ∈ ks <;> by_cases b : x ∈ bs <;> simp [a, b, or_assoc]
theorem mem_notedC (x : Str) : ∀ (c : Clz) (bs ks : List Str), x ∈ notedC c bs ks ↔ x ∈ ks ∨ (x ∉ bs ∧ occC c x = true)
  | .nil, bs, ks => by simp [notedC, occC]
  | .cons o y k g r, bs, ks => by
    simp only [notedC, occC, mem_noted x g, mem_notedC x r, Bool.or_eq_true, Bool.and_eq_true, Bool.not_eq_true', decide_eq_false_iff_not, List.mem_append, List.mem_cons, List.not_mem_nil, or_false]
    by_cases a : x ∈ ks <;> by_cases b : x ∈ bs <;> simp [a, b]
end
theorem mem_insS {x y : Str} : ∀ {l : List Str}, x ∈ insS y l ↔ x = y ∨ x ∈ l
  | [] => by simp [insS]
  | z :: r => by
    unfold insS
    split
    · rw [List.mem_cons, mem_insS (l := r), List.mem_cons]
      exact ⟨fun h => h.elim (fun a => .inr (.inl a)) fun h => h.elim .inl fun a => .inr (.inr a), fun h => h.elim (fun a => .inr (.inl a)) fun h => h.elim .inl fun a => .inr (.inr a)⟩
    · rw [List.mem_cons]
theorem mem_sortS {x : Str} : ∀ {l : List Str}, x ∈ sortS l ↔ x ∈ l
  | [] => Iff.rfl
  | z :: r => by
    show x ∈ insS z (sortS r) ↔ _
    rw [mem_insS, mem_sortS (l := r), List.mem_cons]
theorem occ_fv (e : Ex) (x : Str) : decide (x ∈ fv e) = occ e x := by
  have h : x ∈ fv e ↔ occ e x = true := by
    unfold fv
    rw [mem_sortS, mem_noted x e]
    simp
  by_cases c : occ e x = true
  · rw [c]; exact decide_eq_true (h.mpr c)
  · rw [Bool.not_eq_true] at c
    rw [c]
    exact decide_eq_false fun z => by rw [h, c] at z; cases z
end Bz


set_option Elab.async false
set_option linter.all false
set_option maxRecDepth 100000
set_option maxHeartbeats 4000000
namespace Bz
open PySem PySem.Spec L2 PyProof.Rows
theorem cls_nb {R : Hp} : ∀ {c : Clz} {vs : List V} {j : Nat} {bs : List Str}, Ats R (c.d false) vs → c.nb[j]? = some bs → ∃ v o x k g, vs[j]? = some v ∧ bs = [x, k] ∧ At R (D.tup [.str o, .str x, .str k, Ex.d false g]) v
  | .nil, _, j, bs, _, h => by cases j <;> cases h
  | .cons o x k g r, vs, 0, bs, ⟨v, z, e, a, _⟩, h => ⟨v, o, x, k, g, by rw [e]; rfl, (Option.some.inj h).symm, a⟩
  | .cons o x k g r, vs, j + 1, bs, ⟨v, z, e, _, a⟩, h => by
    obtain ⟨v', o', x', k', g', h1, h2, h3⟩ := cls_nb (c := r) (vs := z) (j := j) a h
    exact ⟨v', o', x', k', g', by rw [e]; exact h1, h2, h3⟩
section
variable {P : Program} {w : World} {K : PySem.W.Frag} {mg : Str → Option Value} {base : Heap}
abbrev g__law_binds : Stmt := topS 28
abbrev n__law_binds : List Str := ["tree", "k"]
abbrev p__law_binds : List Str := ["tree", "k"]
theorem sc__law_binds : FnScope n__law_binds p__law_binds (defScope g__law_binds) := ⟨rfl, rfl, rfl, by decide +kernel, rfl, by decide +kernel, by decide +kernel⟩
def spBd : Sp := fun vs H Q _ => ∃ (R : Hp) (e : Ex) (v : V) (k : Nat) (bs : List Str), vs = [v, .int (k : Int)] ∧ Same R H ∧ At R (e.d false) v ∧ smE e = true ∧ (bnds e)[k]? = some bs ∧ ∀ (R' H' : Hp) (u : V), Mv F0 R H R' H' → At R' (.lst (bs.map D.str)) u → Q u H'
theorem ok_bd {f : Addr} {fd : FuncData} (F : Fun K "_law_binds" "_law_binds" g__law_binds f fd) (ml : mg "len" = none) (mli : mg "list" = none) : FnOk P w K mg base CX0 1 f fd p__law_binds spBd := by
  refine F.ok sc__law_binds (fun vs H Q E h => ?_) (fun cdv A outer st H vs Q E hr h => ?_)
  · obtain ⟨R, e, v, k, bs, rfl, _⟩ := h
    rfl
  · obtain ⟨R, e, v, k, bs, rfl, sub, he, sm, hk, q⟩ := h
    refine ⟨_, (pss_cons (ps_if (pt_cmpR op_in_seq (pe_ix ix_tup (pv 0) (pe_int) (fun _ _ => rfl)) (pe_lst (pa_cons (pe_str) (pa_cons (pe_str) pa_nil))) (by rfl)) (pss_one (ps_ret (pe_callTy call_list_of (by rfl) mli (by decide +kernel) (pa_cons (pe_slice sl_tup (pv 0) (po_some (pe_int)) (po_some (pe_op op_sub (pe_callB call_len_seq (by rfl) ml PySem.boot_len (pa_cons (pv 0) pa_nil)) (pe_int)))) pa_nil)))) pss_nil)
      (pss_cons (ps_if (PW.pt (pw_and (pt_cmpR op_eq (pe_ix ix_tup (pv 0) (pe_int) (fun _ _ => rfl)) (pe_str) (nomark _)) (pw_and1 (pt_cmpR op_eq (pv 1) (pe_int) (nomark _))))) (pss_one (ps_ret (pe_lst (pa_cons (pe_ix ix_tup (pv 0) (pe_int) (fun _ _ => rfl)) pa_nil)))) pss_nil)
      (pss_cons (ps_if (PW.pt (pw_and (pt_cmpR op_eq (pe_ix ix_tup (pv 0) (pe_int) (fun _ _ => rfl)) (pe_str) (nomark _)) (pw_and1 (pt_cmpR op_eq (pv 1) (pe_int) (nomark _))))) (pss_one (ps_ret (pe_lst (pa_cons (pe_ix ix_tup (pe_ix ix_tup (pv 0) (pe_int) (fun _ _ => rfl)) (pe_int) (fun _ _ => rfl)) pa_nil)))) pss_nil)
      (pss_cons (ps_if (PW.pt (pw_and (pt_cmpR op_eq (pe_ix ix_tup (pv 0) (pe_int) (fun _ _ => rfl)) (pe_str) (nomark _)) (pw_and1 (pt_cmpR op_gt (pv 1) (pe_int) (nomark _))))) (pss_one (ps_ret (pe_callTy call_list_of (by rfl) mli (by decide +kernel) (pa_cons (pe_slice sl_tup (pe_ix ix_tup (pe_ix ix_tup (pv 0) (pe_int) (fun _ _ => rfl)) (pe_op op_sub (pv 1) (pe_int)) (fun _ _ => rfl)) (po_some (pe_int)) (po_some (pe_int))) pa_nil)))) pss_nil)
      (pss_one (ps_ret (pe_lst pa_nil))))))), ?_⟩
    cases e with
    | num n =>
      obtain ⟨pe, _, rfl, hpe, _, _, rfl, rfl, _, _, rfl, rfl, rfl⟩ := he
      have hpe := sub _ _ hpe
      refine ⟨_, rfl, pe, _, 0, _, rfl, rfl, SqT.of hpe, atI_nat (j := 0) rfl, by show 2 ≤ sizeLine; decide, fun p1 n1 => ?_⟩
      have m1 : Mv F0 R H R _ := mv_mut (o := .lst [.str "fun", .str "rec"]) sub n1
      refine ⟨p1, _, rfl, .inl (SqL.of upd_same), rfl, rfl, _, rfl, ?_⟩
      have hp1 := m1.same _ _ hpe
      refine ifF (by decide +kernel) ?_
      obtain rfl : bs = [] := by
        have hm := List.mem_of_getElem? hk
        simpa [bnds] using hm
      refine ⟨_, rfl, pe, _, 0, _, rfl, rfl, SqT.of hp1, atI_nat (j := 0) rfl, rfl, _, rfl, ?_⟩
      refine isF (by decide +kernel) ?_
      refine ⟨_, rfl, pe, _, 0, _, rfl, rfl, SqT.of hp1, atI_nat (j := 0) rfl, rfl, _, rfl, ?_⟩
      refine isF (by decide +kernel) ?_
      refine ⟨_, rfl, pe, _, 0, _, rfl, rfl, SqT.of hp1, atI_nat (j := 0) rfl, rfl, _, rfl, ?_⟩
      refine isF (by decide +kernel) ?_
      refine ⟨Nat.zero_le _, fun p np => ?_⟩
      exact q _ _ _ (m1.tr (mv_new m1.sub np)) (.nlst m1.sub np rfl)
    | flag b =>
      obtain ⟨pe, _, rfl, hpe, _, _, rfl, rfl, _, _, rfl, rfl, rfl⟩ := he
      have hpe := sub _ _ hpe
      refine ⟨_, rfl, pe, _, 0, _, rfl, rfl, SqT.of hpe, atI_nat (j := 0) rfl, by show 2 ≤ sizeLine; decide, fun p1 n1 => ?_⟩
      have m1 : Mv F0 R H R _ := mv_mut (o := .lst [.str "fun", .str "rec"]) sub n1
      refine ⟨p1, _, rfl, .inl (SqL.of upd_same), rfl, rfl, _, rfl, ?_⟩
      have hp1 := m1.same _ _ hpe
      refine ifF (by decide +kernel) ?_
      obtain rfl : bs = [] := by
        have hm := List.mem_of_getElem? hk
        simpa [bnds] using hm
      refine ⟨_, rfl, pe, _, 0, _, rfl, rfl, SqT.of hp1, atI_nat (j := 0) rfl, rfl, _, rfl, ?_⟩
      refine isF (by decide +kernel) ?_
      refine ⟨_, rfl, pe, _, 0, _, rfl, rfl, SqT.of hp1, atI_nat (j := 0) rfl, rfl, _, rfl, ?_⟩
      refine isF (by decide +kernel) ?_
      refine ⟨_, rfl, pe, _, 0, _, rfl, rfl, SqT.of hp1, atI_nat (j := 0) rfl, rfl, _, rfl, ?_⟩
      refine isF (by decide +kernel) ?_
      refine ⟨Nat.zero_le _, fun p np => ?_⟩
      exact q _ _ _ (m1.tr (mv_new m1.sub np)) (.nlst m1.sub np rfl)
    | unit =>
      obtain ⟨pe, _, rfl, hpe, _, _, rfl, rfl, rfl⟩ := he
      have hpe := sub _ _ hpe
      refine ⟨_, rfl, pe, _, 0, _, rfl, rfl, SqT.of hpe, atI_nat (j := 0) rfl, by show 2 ≤ sizeLine; decide, fun p1 n1 => ?_⟩
      have m1 : Mv F0 R H R _ := mv_mut (o := .lst [.str "fun", .str "rec"]) sub n1
      refine ⟨p1, _, rfl, .inl (SqL.of upd_same), rfl, rfl, _, rfl, ?_⟩
      have hp1 := m1.same _ _ hpe
      refine ifF (by decide +kernel) ?_
      obtain rfl : bs = [] := by
        have hm := List.mem_of_getElem? hk
        simpa [bnds] using hm
      refine ⟨_, rfl, pe, _, 0, _, rfl, rfl, SqT.of hp1, atI_nat (j := 0) rfl, rfl, _, rfl, ?_⟩
      refine isF (by decide +kernel) ?_
      refine ⟨_, rfl, pe, _, 0, _, rfl, rfl, SqT.of hp1, atI_nat (j := 0) rfl, rfl, _, rfl, ?_⟩
      refine isF (by decide +kernel) ?_
      refine ⟨_, rfl, pe, _, 0, _, rfl, rfl, SqT.of hp1, atI_nat (j := 0) rfl, rfl, _, rfl, ?_⟩
      refine isF (by decide +kernel) ?_
      refine ⟨Nat.zero_le _, fun p np => ?_⟩
      exact q _ _ _ (m1.tr (mv_new m1.sub np)) (.nlst m1.sub np rfl)
    | name x =>
      obtain ⟨pe, _, rfl, hpe, _, _, rfl, rfl, _, _, rfl, rfl, rfl⟩ := he
      have hpe := sub _ _ hpe
      refine ⟨_, rfl, pe, _, 0, _, rfl, rfl, SqT.of hpe, atI_nat (j := 0) rfl, by show 2 ≤ sizeLine; decide, fun p1 n1 => ?_⟩
      have m1 : Mv F0 R H R _ := mv_mut (o := .lst [.str "fun", .str "rec"]) sub n1
      refine ⟨p1, _, rfl, .inl (SqL.of upd_same), rfl, rfl, _, rfl, ?_⟩
      have hp1 := m1.same _ _ hpe
      refine ifF (by decide +kernel) ?_
      obtain rfl : bs = [] := by
        have hm := List.mem_of_getElem? hk
        simpa [bnds] using hm
      refine ⟨_, rfl, pe, _, 0, _, rfl, rfl, SqT.of hp1, atI_nat (j := 0) rfl, rfl, _, rfl, ?_⟩
      refine isF (by decide +kernel) ?_
      refine ⟨_, rfl, pe, _, 0, _, rfl, rfl, SqT.of hp1, atI_nat (j := 0) rfl, rfl, _, rfl, ?_⟩
      refine isF (by decide +kernel) ?_
      refine ⟨_, rfl, pe, _, 0, _, rfl, rfl, SqT.of hp1, atI_nat (j := 0) rfl, rfl, _, rfl, ?_⟩
      refine isF (by decide +kernel) ?_
      refine ⟨Nat.zero_le _, fun p np => ?_⟩
      exact q _ _ _ (m1.tr (mv_new m1.sub np)) (.nlst m1.sub np rfl)
    | call f e =>
      obtain ⟨pe, _, rfl, hpe, _, _, rfl, rfl, vf, _, rfl, af, ve, _, rfl, ae, rfl⟩ := he
      have hpe := sub _ _ hpe
      refine ⟨_, rfl, pe, _, 0, _, rfl, rfl, SqT.of hpe, atI_nat (j := 0) rfl, by show 2 ≤ sizeLine; decide, fun p1 n1 => ?_⟩
      have m1 : Mv F0 R H R _ := mv_mut (o := .lst [.str "fun", .str "rec"]) sub n1
      refine ⟨p1, _, rfl, .inl (SqL.of upd_same), rfl, rfl, _, rfl, ?_⟩
      have hp1 := m1.same _ _ hpe
      refine ifF (by decide +kernel) ?_
      obtain rfl : bs = [] := by
        have hm := List.mem_of_getElem? hk
        simpa [bnds] using hm
      refine ⟨_, rfl, pe, _, 0, _, rfl, rfl, SqT.of hp1, atI_nat (j := 0) rfl, rfl, _, rfl, ?_⟩
      refine isF (by decide +kernel) ?_
      refine ⟨_, rfl, pe, _, 0, _, rfl, rfl, SqT.of hp1, atI_nat (j := 0) rfl, rfl, _, rfl, ?_⟩
      refine isF (by decide +kernel) ?_
      refine ⟨_, rfl, pe, _, 0, _, rfl, rfl, SqT.of hp1, atI_nat (j := 0) rfl, rfl, _, rfl, ?_⟩
      refine isF (by decide +kernel) ?_
      refine ⟨Nat.zero_le _, fun p np => ?_⟩
      exact q _ _ _ (m1.tr (mv_new m1.sub np)) (.nlst m1.sub np rfl)
    | fn x e =>
      obtain ⟨pe, _, rfl, hpe, _, _, rfl, rfl, _, _, rfl, rfl, ve, _, rfl, ae, rfl⟩ := he
      have hpe := sub _ _ hpe
      refine ⟨_, rfl, pe, _, 0, _, rfl, rfl, SqT.of hpe, atI_nat (j := 0) rfl, by show 2 ≤ sizeLine; decide, fun p1 n1 => ?_⟩
      have m1 : Mv F0 R H R _ := mv_mut (o := .lst [.str "fun", .str "rec"]) sub n1
      refine ⟨p1, _, rfl, .inl (SqL.of upd_same), rfl, rfl, _, rfl, ?_⟩
      have hp1 := m1.same _ _ hpe
      refine ifT (by decide +kernel) ?_
      obtain ⟨rfl, rfl⟩ : k = 0 ∧ bs = [x] := by
        match k, hk with
        | 0, hk => exact ⟨rfl, (Option.some.inj hk).symm⟩
      refine ⟨_, rfl, 1, rfl, _, rfl, pe, _, rfl, .inr (SqT.of hp1), _, _, rfl, rfl, _, rfl, pe, _, rfl, SqT.of hp1, (fun z => absurd z.1 (by show ¬ HT.sIx 3 0 (some 1) = 0; decide)), fun ps nps => ?_⟩
      have mS : Mv F0 R H R _ := m1.tr (mv_mut (o := .tup [.str x]) m1.sub nps)
      refine ⟨ps, _, rfl, .inr (SqT.of upd_same), fun p np => ?_⟩
      exact q _ _ _ (mS.tr (mv_new mS.sub np)) (.nlst mS.sub np ⟨_, _, rfl, rfl, rfl⟩)
    | rc h x e =>
      obtain ⟨pe, _, rfl, hpe, _, _, rfl, rfl, _, _, rfl, rfl, _, _, rfl, rfl, ve, _, rfl, ae, rfl⟩ := he
      have hpe := sub _ _ hpe
      refine ⟨_, rfl, pe, _, 0, _, rfl, rfl, SqT.of hpe, atI_nat (j := 0) rfl, by show 2 ≤ sizeLine; decide, fun p1 n1 => ?_⟩
      have m1 : Mv F0 R H R _ := mv_mut (o := .lst [.str "fun", .str "rec"]) sub n1
      refine ⟨p1, _, rfl, .inl (SqL.of upd_same), rfl, rfl, _, rfl, ?_⟩
      have hp1 := m1.same _ _ hpe
      refine ifT (by decide +kernel) ?_
      obtain ⟨rfl, rfl⟩ : k = 0 ∧ bs = [h, x] := by
        match k, hk with
        | 0, hk => exact ⟨rfl, (Option.some.inj hk).symm⟩
      refine ⟨_, rfl, 1, rfl, _, rfl, pe, _, rfl, .inr (SqT.of hp1), _, _, rfl, rfl, _, rfl, pe, _, rfl, SqT.of hp1, (fun z => absurd z.1 (by show ¬ HT.sIx 4 0 (some 1) = 0; decide)), fun ps nps => ?_⟩
      have mS : Mv F0 R H R _ := m1.tr (mv_mut (o := .tup [.str h, .str x]) m1.sub nps)
      refine ⟨ps, _, rfl, .inr (SqT.of upd_same), fun p np => ?_⟩
      exact q _ _ _ (mS.tr (mv_new mS.sub np)) (.nlst mS.sub np ⟨_, _, rfl, rfl, _, _, rfl, rfl, rfl⟩)
    | lt x f e =>
      obtain ⟨pe, _, rfl, hpe, _, _, rfl, rfl, _, _, rfl, rfl, vf, _, rfl, af, ve, _, rfl, ae, rfl⟩ := he
      have hpe := sub _ _ hpe
      refine ⟨_, rfl, pe, _, 0, _, rfl, rfl, SqT.of hpe, atI_nat (j := 0) rfl, by show 2 ≤ sizeLine; decide, fun p1 n1 => ?_⟩
      have m1 : Mv F0 R H R _ := mv_mut (o := .lst [.str "fun", .str "rec"]) sub n1
      refine ⟨p1, _, rfl, .inl (SqL.of upd_same), rfl, rfl, _, rfl, ?_⟩
      have hp1 := m1.same _ _ hpe
      refine ifF (by decide +kernel) ?_
      refine ⟨_, rfl, pe, _, 0, _, rfl, rfl, SqT.of hp1, atI_nat (j := 0) rfl, rfl, _, rfl, ?_⟩
      refine ifT (decide_eq_true rfl) ?_
      match k, hk with
      | 0, hk =>
        cases Option.some.inj hk
        refine ⟨_, rfl, rfl, _, rfl, ?_⟩
        refine ifF (by decide) ?_
        refine ⟨_, rfl, pe, _, 0, _, rfl, rfl, SqT.of hp1, atI_nat (j := 0) rfl, rfl, _, rfl, ?_⟩
        refine isF (by decide +kernel) ?_
        refine ⟨_, rfl, pe, _, 0, _, rfl, rfl, SqT.of hp1, atI_nat (j := 0) rfl, rfl, _, rfl, ?_⟩
        refine isF (by decide +kernel) ?_
        refine ⟨Nat.zero_le _, fun p np => ?_⟩
        exact q _ _ _ (m1.tr (mv_new m1.sub np)) (.nlst m1.sub np rfl)
      | 1, hk =>
        cases Option.some.inj hk
        refine ⟨_, rfl, rfl, _, rfl, ?_⟩
        refine ifT (by decide) ?_
        refine ⟨_, rfl, pe, _, 1, _, rfl, rfl, SqT.of hp1, rfl, by show 1 ≤ sizeLine; decide, fun p np => ?_⟩
        exact q _ _ _ (m1.tr (mv_new m1.sub np)) (.nlst m1.sub np ⟨_, _, rfl, rfl, rfl⟩)
      | k + 2, hk => cases hk
    | ite f e g =>
      obtain ⟨pe, _, rfl, hpe, _, _, rfl, rfl, vf, _, rfl, af, ve, _, rfl, ae, vg, _, rfl, ag, rfl⟩ := he
      have hpe := sub _ _ hpe
      refine ⟨_, rfl, pe, _, 0, _, rfl, rfl, SqT.of hpe, atI_nat (j := 0) rfl, by show 2 ≤ sizeLine; decide, fun p1 n1 => ?_⟩
      have m1 : Mv F0 R H R _ := mv_mut (o := .lst [.str "fun", .str "rec"]) sub n1
      refine ⟨p1, _, rfl, .inl (SqL.of upd_same), rfl, rfl, _, rfl, ?_⟩
      have hp1 := m1.same _ _ hpe
      refine ifF (by decide +kernel) ?_
      obtain rfl : bs = [] := by
        have hm := List.mem_of_getElem? hk
        simpa [bnds] using hm
      refine ⟨_, rfl, pe, _, 0, _, rfl, rfl, SqT.of hp1, atI_nat (j := 0) rfl, rfl, _, rfl, ?_⟩
      refine isF (by decide +kernel) ?_
      refine ⟨_, rfl, pe, _, 0, _, rfl, rfl, SqT.of hp1, atI_nat (j := 0) rfl, rfl, _, rfl, ?_⟩
      refine isF (by decide +kernel) ?_
      refine ⟨_, rfl, pe, _, 0, _, rfl, rfl, SqT.of hp1, atI_nat (j := 0) rfl, rfl, _, rfl, ?_⟩
      refine isF (by decide +kernel) ?_
      refine ⟨Nat.zero_le _, fun p np => ?_⟩
      exact q _ _ _ (m1.tr (mv_new m1.sub np)) (.nlst m1.sub np rfl)
    | pair f e =>
      obtain ⟨pe, _, rfl, hpe, _, _, rfl, rfl, vf, _, rfl, af, ve, _, rfl, ae, rfl⟩ := he
      have hpe := sub _ _ hpe
      refine ⟨_, rfl, pe, _, 0, _, rfl, rfl, SqT.of hpe, atI_nat (j := 0) rfl, by show 2 ≤ sizeLine; decide, fun p1 n1 => ?_⟩
      have m1 : Mv F0 R H R _ := mv_mut (o := .lst [.str "fun", .str "rec"]) sub n1
      refine ⟨p1, _, rfl, .inl (SqL.of upd_same), rfl, rfl, _, rfl, ?_⟩
      have hp1 := m1.same _ _ hpe
      refine ifF (by decide +kernel) ?_
      obtain rfl : bs = [] := by
        have hm := List.mem_of_getElem? hk
        simpa [bnds] using hm
      refine ⟨_, rfl, pe, _, 0, _, rfl, rfl, SqT.of hp1, atI_nat (j := 0) rfl, rfl, _, rfl, ?_⟩
      refine isF (by decide +kernel) ?_
      refine ⟨_, rfl, pe, _, 0, _, rfl, rfl, SqT.of hp1, atI_nat (j := 0) rfl, rfl, _, rfl, ?_⟩
      refine isF (by decide +kernel) ?_
      refine ⟨_, rfl, pe, _, 0, _, rfl, rfl, SqT.of hp1, atI_nat (j := 0) rfl, rfl, _, rfl, ?_⟩
      refine isF (by decide +kernel) ?_
      refine ⟨Nat.zero_le _, fun p np => ?_⟩
      exact q _ _ _ (m1.tr (mv_new m1.sub np)) (.nlst m1.sub np rfl)
    | fst e =>
      obtain ⟨pe, _, rfl, hpe, _, _, rfl, rfl, ve, _, rfl, ae, rfl⟩ := he
      have hpe := sub _ _ hpe
      refine ⟨_, rfl, pe, _, 0, _, rfl, rfl, SqT.of hpe, atI_nat (j := 0) rfl, by show 2 ≤ sizeLine; decide, fun p1 n1 => ?_⟩
      have m1 : Mv F0 R H R _ := mv_mut (o := .lst [.str "fun", .str "rec"]) sub n1
      refine ⟨p1, _, rfl, .inl (SqL.of upd_same), rfl, rfl, _, rfl, ?_⟩
      have hp1 := m1.same _ _ hpe
      refine ifF (by decide +kernel) ?_
      obtain rfl : bs = [] := by
        have hm := List.mem_of_getElem? hk
        simpa [bnds] using hm
      refine ⟨_, rfl, pe, _, 0, _, rfl, rfl, SqT.of hp1, atI_nat (j := 0) rfl, rfl, _, rfl, ?_⟩
      refine isF (by decide +kernel) ?_
      refine ⟨_, rfl, pe, _, 0, _, rfl, rfl, SqT.of hp1, atI_nat (j := 0) rfl, rfl, _, rfl, ?_⟩
      refine isF (by decide +kernel) ?_
      refine ⟨_, rfl, pe, _, 0, _, rfl, rfl, SqT.of hp1, atI_nat (j := 0) rfl, rfl, _, rfl, ?_⟩
      refine isF (by decide +kernel) ?_
      refine ⟨Nat.zero_le _, fun p np => ?_⟩
      exact q _ _ _ (m1.tr (mv_new m1.sub np)) (.nlst m1.sub np rfl)
    | snd e =>
      obtain ⟨pe, _, rfl, hpe, _, _, rfl, rfl, ve, _, rfl, ae, rfl⟩ := he
      have hpe := sub _ _ hpe
      refine ⟨_, rfl, pe, _, 0, _, rfl, rfl, SqT.of hpe, atI_nat (j := 0) rfl, by show 2 ≤ sizeLine; decide, fun p1 n1 => ?_⟩
      have m1 : Mv F0 R H R _ := mv_mut (o := .lst [.str "fun", .str "rec"]) sub n1
      refine ⟨p1, _, rfl, .inl (SqL.of upd_same), rfl, rfl, _, rfl, ?_⟩
      have hp1 := m1.same _ _ hpe
      refine ifF (by decide +kernel) ?_
      obtain rfl : bs = [] := by
        have hm := List.mem_of_getElem? hk
        simpa [bnds] using hm
      refine ⟨_, rfl, pe, _, 0, _, rfl, rfl, SqT.of hp1, atI_nat (j := 0) rfl, rfl, _, rfl, ?_⟩
      refine isF (by decide +kernel) ?_
      refine ⟨_, rfl, pe, _, 0, _, rfl, rfl, SqT.of hp1, atI_nat (j := 0) rfl, rfl, _, rfl, ?_⟩
      refine isF (by decide +kernel) ?_
      refine ⟨_, rfl, pe, _, 0, _, rfl, rfl, SqT.of hp1, atI_nat (j := 0) rfl, rfl, _, rfl, ?_⟩
      refine isF (by decide +kernel) ?_
      refine ⟨Nat.zero_le _, fun p np => ?_⟩
      exact q _ _ _ (m1.tr (mv_new m1.sub np)) (.nlst m1.sub np rfl)
    | op s f e =>
      obtain ⟨pe, _, rfl, hpe, _, _, rfl, rfl, _, _, rfl, rfl, vf, _, rfl, af, ve, _, rfl, ae, rfl⟩ := he
      have hpe := sub _ _ hpe
      refine ⟨_, rfl, pe, _, 0, _, rfl, rfl, SqT.of hpe, atI_nat (j := 0) rfl, by show 2 ≤ sizeLine; decide, fun p1 n1 => ?_⟩
      have m1 : Mv F0 R H R _ := mv_mut (o := .lst [.str "fun", .str "rec"]) sub n1
      refine ⟨p1, _, rfl, .inl (SqL.of upd_same), rfl, rfl, _, rfl, ?_⟩
      have hp1 := m1.same _ _ hpe
      refine ifF (by decide +kernel) ?_
      obtain rfl : bs = [] := by
        have hm := List.mem_of_getElem? hk
        simpa [bnds] using hm
      refine ⟨_, rfl, pe, _, 0, _, rfl, rfl, SqT.of hp1, atI_nat (j := 0) rfl, rfl, _, rfl, ?_⟩
      refine isF (by decide +kernel) ?_
      refine ⟨_, rfl, pe, _, 0, _, rfl, rfl, SqT.of hp1, atI_nat (j := 0) rfl, rfl, _, rfl, ?_⟩
      refine isF (by decide +kernel) ?_
      refine ⟨_, rfl, pe, _, 0, _, rfl, rfl, SqT.of hp1, atI_nat (j := 0) rfl, rfl, _, rfl, ?_⟩
      refine isF (by decide +kernel) ?_
      refine ⟨Nat.zero_le _, fun p np => ?_⟩
      exact q _ _ _ (m1.tr (mv_new m1.sub np)) (.nlst m1.sub np rfl)
    | nt e =>
      obtain ⟨pe, _, rfl, hpe, _, _, rfl, rfl, ve, _, rfl, ae, rfl⟩ := he
      have hpe := sub _ _ hpe
      refine ⟨_, rfl, pe, _, 0, _, rfl, rfl, SqT.of hpe, atI_nat (j := 0) rfl, by show 2 ≤ sizeLine; decide, fun p1 n1 => ?_⟩
      have m1 : Mv F0 R H R _ := mv_mut (o := .lst [.str "fun", .str "rec"]) sub n1
      refine ⟨p1, _, rfl, .inl (SqL.of upd_same), rfl, rfl, _, rfl, ?_⟩
      have hp1 := m1.same _ _ hpe
      refine ifF (by decide +kernel) ?_
      obtain rfl : bs = [] := by
        have hm := List.mem_of_getElem? hk
        simpa [bnds] using hm
      refine ⟨_, rfl, pe, _, 0, _, rfl, rfl, SqT.of hp1, atI_nat (j := 0) rfl, rfl, _, rfl, ?_⟩
      refine isF (by decide +kernel) ?_
      refine ⟨_, rfl, pe, _, 0, _, rfl, rfl, SqT.of hp1, atI_nat (j := 0) rfl, rfl, _, rfl, ?_⟩
      refine isF (by decide +kernel) ?_
      refine ⟨_, rfl, pe, _, 0, _, rfl, rfl, SqT.of hp1, atI_nat (j := 0) rfl, rfl, _, rfl, ?_⟩
      refine isF (by decide +kernel) ?_
      refine ⟨Nat.zero_le _, fun p np => ?_⟩
      exact q _ _ _ (m1.tr (mv_new m1.sub np)) (.nlst m1.sub np rfl)
    | pr f e =>
      obtain ⟨pe, _, rfl, hpe, _, _, rfl, rfl, vf, _, rfl, af, ve, _, rfl, ae, rfl⟩ := he
      have hpe := sub _ _ hpe
      refine ⟨_, rfl, pe, _, 0, _, rfl, rfl, SqT.of hpe, atI_nat (j := 0) rfl, by show 2 ≤ sizeLine; decide, fun p1 n1 => ?_⟩
      have m1 : Mv F0 R H R _ := mv_mut (o := .lst [.str "fun", .str "rec"]) sub n1
      refine ⟨p1, _, rfl, .inl (SqL.of upd_same), rfl, rfl, _, rfl, ?_⟩
      have hp1 := m1.same _ _ hpe
      refine ifF (by decide +kernel) ?_
      obtain rfl : bs = [] := by
        have hm := List.mem_of_getElem? hk
        simpa [bnds] using hm
      refine ⟨_, rfl, pe, _, 0, _, rfl, rfl, SqT.of hp1, atI_nat (j := 0) rfl, rfl, _, rfl, ?_⟩
      refine isF (by decide +kernel) ?_
      refine ⟨_, rfl, pe, _, 0, _, rfl, rfl, SqT.of hp1, atI_nat (j := 0) rfl, rfl, _, rfl, ?_⟩
      refine isF (by decide +kernel) ?_
      refine ⟨_, rfl, pe, _, 0, _, rfl, rfl, SqT.of hp1, atI_nat (j := 0) rfl, rfl, _, rfl, ?_⟩
      refine isF (by decide +kernel) ?_
      refine ⟨Nat.zero_le _, fun p np => ?_⟩
      exact q _ _ _ (m1.tr (mv_new m1.sub np)) (.nlst m1.sub np rfl)
    | ask s e =>
      obtain ⟨pe, _, rfl, hpe, _, _, rfl, rfl, _, _, rfl, rfl, ve, _, rfl, ae, rfl⟩ := he
      have hpe := sub _ _ hpe
      refine ⟨_, rfl, pe, _, 0, _, rfl, rfl, SqT.of hpe, atI_nat (j := 0) rfl, by show 2 ≤ sizeLine; decide, fun p1 n1 => ?_⟩
      have m1 : Mv F0 R H R _ := mv_mut (o := .lst [.str "fun", .str "rec"]) sub n1
      refine ⟨p1, _, rfl, .inl (SqL.of upd_same), rfl, rfl, _, rfl, ?_⟩
      have hp1 := m1.same _ _ hpe
      refine ifF (by decide +kernel) ?_
      obtain rfl : bs = [] := by
        have hm := List.mem_of_getElem? hk
        simpa [bnds] using hm
      refine ⟨_, rfl, pe, _, 0, _, rfl, rfl, SqT.of hp1, atI_nat (j := 0) rfl, rfl, _, rfl, ?_⟩
      refine isF (by decide +kernel) ?_
      refine ⟨_, rfl, pe, _, 0, _, rfl, rfl, SqT.of hp1, atI_nat (j := 0) rfl, rfl, _, rfl, ?_⟩
      refine isF (by decide +kernel) ?_
      refine ⟨_, rfl, pe, _, 0, _, rfl, rfl, SqT.of hp1, atI_nat (j := 0) rfl, rfl, _, rfl, ?_⟩
      refine isF (by decide +kernel) ?_
      refine ⟨Nat.zero_le _, fun p np => ?_⟩
      exact q _ _ _ (m1.tr (mv_new m1.sub np)) (.nlst m1.sub np rfl)
    | hd e x f cs =>
      obtain ⟨pe, _, rfl, hpe, _, _, rfl, rfl, ve, _, rfl, ae, vr, _, rfl, ⟨pr, _, rfl, hpr, _, _, rfl, rfl, vf, _, rfl, af, rfl⟩, vc, _, rfl, ⟨pc, cvs, rfl, hpc, acs⟩, rfl⟩ := he
      have hpe := sub _ _ hpe
      refine ⟨_, rfl, pe, _, 0, _, rfl, rfl, SqT.of hpe, atI_nat (j := 0) rfl, by show 2 ≤ sizeLine; decide, fun p1 n1 => ?_⟩
      have m1 : Mv F0 R H R _ := mv_mut (o := .lst [.str "fun", .str "rec"]) sub n1
      refine ⟨p1, _, rfl, .inl (SqL.of upd_same), rfl, rfl, _, rfl, ?_⟩
      have hp1 := m1.same _ _ hpe
      refine ifF (by decide +kernel) ?_
      refine ⟨_, rfl, pe, _, 0, _, rfl, rfl, SqT.of hp1, atI_nat (j := 0) rfl, rfl, _, rfl, ?_⟩
      refine isF (by decide +kernel) ?_
      refine ⟨_, rfl, pe, _, 0, _, rfl, rfl, SqT.of hp1, atI_nat (j := 0) rfl, rfl, _, rfl, ?_⟩
      refine ifT (decide_eq_true rfl) ?_
      match k, hk with
      | 0, hk =>
        cases Option.some.inj hk
        refine ⟨_, rfl, rfl, _, rfl, ?_⟩
        refine ifF (by decide) ?_
        refine ⟨_, rfl, pe, _, 0, _, rfl, rfl, SqT.of hp1, atI_nat (j := 0) rfl, rfl, _, rfl, ?_⟩
        refine ifT (decide_eq_true rfl) ?_
        refine ⟨_, rfl, _, _, rfl, rfl, _, rfl, ?_⟩
        refine ifF (by decide) ?_
        refine ⟨Nat.zero_le _, fun p np => ?_⟩
        exact q _ _ _ (m1.tr (mv_new m1.sub np)) (.nlst m1.sub np rfl)
      | 1, hk =>
        cases Option.some.inj hk
        refine ⟨_, rfl, rfl, _, rfl, ?_⟩
        refine ifT (by decide) ?_
        refine ⟨_, rfl, pe, _, 2, _, rfl, rfl, SqT.of hp1, rfl, pr, _, 0, _, rfl, rfl, SqT.of (m1.sub _ _ hpr), atI_nat (j := 0) rfl, by show 1 ≤ sizeLine; decide, fun p np => ?_⟩
        exact q _ _ _ (m1.tr (mv_new m1.sub np)) (.nlst m1.sub np ⟨_, _, rfl, rfl, rfl⟩)
      | k + 2, hk =>
        have hk : cs.nb[k]? = some bs := hk
        refine ⟨_, rfl, rfl, _, rfl, ?_⟩
        refine ifF (decide_eq_false fun z => by have := V.int.inj z; omega) ?_
        refine ⟨_, rfl, pe, _, 0, _, rfl, rfl, SqT.of hp1, atI_nat (j := 0) rfl, rfl, _, rfl, ?_⟩
        refine ifT (decide_eq_true rfl) ?_
        refine ⟨_, rfl, _, _, rfl, rfl, _, rfl, ?_⟩
        refine ifT (decide_eq_true (by omega)) ?_
        obtain ⟨vz, o, y, k', g, hz, ez⟩ := cls_nb acs hk
        obtain ⟨rfl, pz, _, rfl, hpz, _, _, rfl, rfl, _, _, rfl, rfl, _, _, rfl, rfl, vg, _, rfl, ag, rfl⟩ := ez
        have e2 : ((k + 2 : Nat) : Int) - 2 = (k : Int) := by omega
        refine ⟨_, rfl, pe, _, 3, _, rfl, rfl, SqT.of hp1, rfl, _, rfl, _, _, rfl, rfl, pc, _, _, _, rfl, rfl, SqT.of (m1.sub _ _ hpc), by rw [e2]; exact atI_nat hz, 1, rfl, 3, rfl, pz, _, rfl, SqT.of (m1.sub _ _ hpz), (fun z => absurd z.1 (by show ¬ HT.sIx 4 0 (some 1) = 0; decide)), fun ps nps => ?_⟩
        have mS : Mv F0 R H R _ := m1.tr (mv_mut (o := .tup [.str y, .str k']) m1.sub nps)
        refine ⟨ps, _, rfl, .inr (SqT.of upd_same), fun p np => ?_⟩
        exact q _ _ _ (mS.tr (mv_new mS.sub np)) (.nlst mS.sub np ⟨_, _, rfl, rfl, _, _, rfl, rfl, rfl⟩)
end
end Bz


set_option Elab.async false
set_option linter.all false
set_option maxRecDepth 100000
set_option maxHeartbeats 4000000
namespace Bz
open PySem PySem.Spec L2 PyProof.Rows
theorem occC_zip (x : Str) : ∀ c : Clz, occC c x = (c.gs.zip c.nb).any fun p => !decide (x ∈ p.2) && occ p.1 x
  | .nil => rfl
  | .cons o y k g r => by
    show ((!decide (x = y ∨ x = k) && occ g x) || occC r x) = ((!decide (x ∈ [y, k]) && occ g x) || (r.gs.zip r.nb).any _)
    rw [occC_zip x r]
    congr 3
    simp
theorem occ_zip (x : Str) (e : Ex) (h : ∀ y, e ≠ .name y) : occ e x = ((exParts e).zip (bnds e)).any fun p => !decide (x ∈ p.2) && occ p.1 x := by
  cases e with
  | name y => exact absurd rfl (h y)
  | hd e y f cs =>
    show (occ e x || ((!decide (x = y) && occ f x) || occC cs x)) = ((!decide (x ∈ []) && occ e x) || ((!decide (x ∈ [y]) && occ f x) || (cs.gs.zip cs.nb).any _))
    rw [occC_zip x cs]
    simp
  | _ => simp [occ, exParts, bnds]
section
variable {P : Program} {w : World} {K : PySem.W.Frag} {mg : Str → Option Value} {base : Heap}
abbrev g__law_occurs : Stmt := topS 27
abbrev n__law_occurs : List Str := ["tree", "name", "inner", "k"]
abbrev p__law_occurs : List Str := ["tree", "name"]
theorem sc__law_occurs : FnScope n__law_occurs p__law_occurs (defScope g__law_occurs) := ⟨rfl, rfl, rfl, by decide +kernel, rfl, by decide +kernel, by decide +kernel⟩
def spOc (n : Nat) : Sp := fun vs H Q _ => ∃ (R : Hp) (e : Ex) (x : Str) (v : V), vs = [v, .str x] ∧ Same R H ∧ At R (e.d false) v ∧ exD e ≤ n ∧ smE e = true ∧ exN e ≤ 1000000 ∧ ∀ (R' H' : Hp), Mv F0 R H R' H' → Q (.bl (occ e x)) H'
theorem ok_oc0 {f : Addr} {fd : FuncData} (F : Fun K "_law_occurs" "_law_occurs" g__law_occurs f fd) : FnOk P w K mg base CX0 2 f fd p__law_occurs (spOc 0) := by
  refine F.ok (k := 1) sc__law_occurs (fun vs H Q E h => ?_) (fun cdv A outer st H vs Q E hr h => ?_)
  · obtain ⟨R, e, x, v, rfl, _⟩ := h
    rfl
  · obtain ⟨R, e, x, v, rfl, _, _, h, _⟩ := h
    exact absurd h (by have := ex_pos e; omega)
theorem ok_oc {n : Nat} {f fP fB : Addr} {fd fdP fdB : FuncData} (F : Fun K "_law_occurs" "_law_occurs" g__law_occurs f fd) (ml : mg "len" = none) (mr : mg "range" = none) (GP : Fn P w K mg base CX0 1 "_law_parts" p__law_parts spLP fP fdP)
    (GB : Fn P w K mg base CX0 1 "_law_binds" p__law_binds spBd fB fdB)
    (GR : Fn P w K mg base CX0 (n + 2) "_law_occurs" p__law_occurs (spOc n) f fd) : FnOk P w K mg base CX0 (n + 3) f fd p__law_occurs (spOc (n + 1)) := by
  refine F.ok (k := n + 2) sc__law_occurs (fun vs H Q E h => ?_) (fun cdv A outer st H vs Q E hr h => ?_)
  · obtain ⟨R, e, x, v, rfl, _⟩ := h
    rfl
  · obtain ⟨R, e, x, v, rfl, sub, he, dep, sm, big, q⟩ := h
    refine ⟨_, (pss_cons (ps_if (pt_cmpR op_eq (pe_ix ix_tup (pv 0) (pe_int) (fun _ _ => rfl)) (pe_str) (nomark _)) (pss_one (ps_ret (pe_cmpR op_eq (pe_ix ix_tup (pv 0) (pe_int) (fun _ _ => rfl)) (pv 1) (nomark _)))) pss_nil)
      (pss_cons (ps_set (i := 2) sc__law_occurs.nd rfl (Or.inl rfl) (pe_call GP.ok (hr.mono (by omega)) (by rfl) GP.g GP.kp GP.b .nil pass0 (pa_cons (pv 0) pa_nil)))
      (pss_cons (ps_for PassesOwn.never rfl (pi_range1 rfl mr (pa_cons (pe_callB call_len_seq (by rfl) ml PySem.boot_len (pa_cons (pv 2) pa_nil)) pa_nil)) (pg_name (i := 3) sc__law_occurs.nd rfl (Or.inl rfl)) (pss_one (ps_if (PW.pt (pw_and (pt_cmpR op_notIn_seq (pv 1) (pe_call GB.ok (hr.mono (by omega)) (by rfl) GB.g GB.kp GB.b .nil pass0 (pa_cons (pv 0) (pa_cons (pv 3) pa_nil))) (by rfl)) (pw_and1 (pt_val (pe_call GR.ok hr (by rfl) GR.g GR.kp GR.b .nil pass0 (pa_cons (pe_ix ix_list (pv 2) (pv 3) (fun _ _ => rfl)) (pa_cons (pv 1) pa_nil))))))) (pss_one (ps_ret (pe_bl))) pss_nil)))
      (pss_one (ps_ret (pe_bl)))))), ?_⟩
    obtain ⟨pe, rr, rfl, hpe'⟩ := ex_head he
    have hpe := sub _ _ hpe'
    refine ⟨_, rfl, pe, _, 0, _, rfl, rfl, SqT.of hpe, atI_nat (j := 0) rfl, rfl, _, rfl, ?_⟩
    by_cases hn : ∃ y, e = .name y
    · obtain ⟨y, rfl⟩ := hn
      obtain ⟨pe2, _, e1, hpe2, _, _, rfl, rfl, _, _, rfl, rfl, rfl⟩ := he
      obtain rfl : pe = pe2 := V.ref.inj e1
      have hpe2 := sub _ _ hpe2
      refine ifT (decide_eq_true rfl) ?_
      refine ⟨_, rfl, pe, _, 1, _, rfl, rfl, SqT.of hpe2, rfl, _, rfl, rfl, ?_⟩
      have := q R H (.refl sub)
      rw [show occ (.name y) x = decide (V.str y = V.str x) by
        show decide (x = y) = _
        exact decide_eq_decide.mpr ⟨fun z => by rw [z], fun z => (V.str.inj z).symm⟩] at this
      exact this
    · have hn : ∀ y, e ≠ .name y := fun y z => hn ⟨y, z⟩
      refine ifF (decide_eq_false fun z => (tag_name hn).1 (V.str.inj z)) ?_
      refine ⟨_, rfl, R, e, _, rfl, sub, he, sm, fun R1 H1 u m1 a1 => ?_⟩
      obtain ⟨pl, pvs, rfl, hpl, ap⟩ := a1
      have ez := occ_zip x e hn
      have lpb := parts_bnds e
      have lv := ap.length
      rw [List.length_map] at lv
      have big2 : (exParts e).length ≤ 1000000 := by
        have h1 := flat_gePre (exParts e)
        have h2 := pre_len e
        rw [pre_flat e, List.length_cons] at h2
        omega
      refine ⟨_, rfl, pl, _, rfl, .inl (SqL.of (m1.sub _ _ hpl)), ((exParts e).length : Int), by rw [lv], by omega, by omega, ?_⟩
      refine for_range (lo := 0) (n := (exParts e).length) (fun i σ H' => ∃ (R' : Hp) (z : Option V), σ = [some (.ref pe), some (.str x), some (.ref pl), z] ∧ Mv F0 R H R' H' ∧ Same R1 R' ∧ (((exParts e).zip (bnds e)).take i).any (fun p => !decide (x ∈ p.2) && occ p.1 x) = false) ?_ ?_ ?_
      · exact ⟨R1, none, rfl, m1, .refl _, rfl⟩
      · rintro i σ H' hi ⟨R', z, rfl, mv, s2, hany⟩
        show gName 3 _ _ _ _
        rw [Int.zero_add]
        obtain ⟨bs, hb⟩ : ∃ bs, (bnds e)[i]? = some bs := ⟨_, List.getElem?_eq_getElem (by omega)⟩
        obtain ⟨g, hg⟩ : ∃ g, (exParts e)[i]? = some g := ⟨_, List.getElem?_eq_getElem hi⟩
        have hm := List.mem_of_getElem? hg
        have pm := part_mem hm
        have pn := part_n hm
        have pl2 := pre_len e
        rw [pre_flat e, List.length_cons] at pl2
        rw [pre_len g] at pn
        obtain ⟨vg, hvg, ag⟩ := ap.get (i := i) (d := g.d false) (by rw [List.getElem?_map, hg]; rfl)
        have zi : ((exParts e).zip (bnds e))[i]? = some (g, bs) := by rw [List.getElem?_zip_eq_some]; exact ⟨hg, hb⟩
        refine ⟨_, rfl, _, rfl, _, rfl, R', e, _, i, bs, rfl, mv.sub, he.up mv.up, sm, hb, fun R3 H3 u3 m3 a3 => ?_⟩
        obtain ⟨p3, bvs, rfl, hp3, ab⟩ := a3
        have e3 := ats_str ab
        subst e3
        have m13 := mv.tr m3
        refine ⟨p3, _, rfl, .inl (SqL.of (m3.sub _ _ hp3)), rfl, flat_str bs, _, rfl, ?_⟩
        show if (!inV (.str x) (bs.map V.str)) = true then _ else _
        rw [inV_str]
        by_cases c : (!decide (x ∈ bs)) = true
        · refine ifT c ?_
          refine ⟨_, rfl, _, rfl, pl, _, _, _, rfl, rfl, SqL.of (m3.same _ _ (mv.sub _ _ (s2 _ _ hpl))), atI_nat hvg, _, rfl, R3, g, x, vg, rfl, m13.sub, (ag.up s2).up m3.up, by omega, pm.2 sm, by omega, fun R4 H4 m4 => ⟨_, rfl, ?_⟩⟩
          by_cases c2 : occ g x = true
          · refine ifT c2 ?_
            have := q R4 H4 (m13.tr m4)
            rw [ez, List.any_eq_true.mpr ⟨(g, bs), List.mem_of_getElem? zi, by show (!decide (x ∈ bs) && occ g x) = true; rw [c, c2]; rfl⟩] at this
            exact this
          · rw [Bool.not_eq_true] at c2
            refine ifF c2 ?_
            refine ⟨R4, _, rfl, m13.tr m4, (s2.trans m3.up).trans m4.up, ?_⟩
            rw [List.take_add_one, zi, List.any_append, hany]
            show (false || ((!decide (x ∈ bs) && occ g x) || false)) = false
            rw [c2]
            simp
        · rw [Bool.not_eq_true] at c
          refine ifF c ?_
          refine ⟨R3, _, rfl, m13, s2.trans m3.up, ?_⟩
          rw [List.take_add_one, zi, List.any_append, hany]
          show (false || ((!decide (x ∈ bs) && occ g x) || false)) = false
          rw [c]
          simp
      · rintro σ H' ⟨R', z, rfl, mv, s2, hany⟩
        rw [show (exParts e).length = ((exParts e).zip (bnds e)).length by rw [List.length_zip, ← lpb]; simp, List.take_length] at hany
        have := q R' H' mv
        rw [ez, hany] at this
        exact this
end
end Bz


set_option Elab.async false
set_option linter.all false
set_option maxRecDepth 100000
set_option maxHeartbeats 4000000
namespace Bz
open PySem PySem.Spec L2 PyProof.Rows
section
variable {P : Program} {w : World} {K : PySem.W.Frag} {mg : Str → Option Value} {base : Heap}
abbrev g__law_at_once : Stmt := topS 29
abbrev n__law_at_once : List Str := ["tree", "kept", "head"]
abbrev p__law_at_once : List Str := ["tree", "kept"]
theorem sc__law_at_once : FnScope n__law_at_once p__law_at_once (defScope g__law_at_once) := ⟨rfl, rfl, rfl, by decide +kernel, rfl, by decide +kernel, by decide +kernel⟩
def spAo (N n : Nat) : Sp := fun vs H Q _ => ∃ (R : Hp) (e : Ex) (x : Str) (v : V), vs = [v, .str x] ∧ Same R H ∧ At R (e.d false) v ∧ okS N e ∧ (PyData.str x).canLay0 = true ∧ exD e ≤ n ∧ ∀ (R' H' : Hp), Mv F0 R H R' H' → Q (.bl (clM e x)) H'
theorem ok_ao0 {k N : Nat} {f : Addr} {fd : FuncData} (F : Fun K "_law_at_once" "_law_at_once" g__law_at_once f fd) : FnOk P w K mg base CX0 (k + 1) f fd p__law_at_once (spAo N 0) := by
  refine F.ok (k := k) sc__law_at_once (fun vs H Q E h => ?_) (fun cdv A outer st H vs Q E hr h => ?_)
  · obtain ⟨R, e, x, v, rfl, _⟩ := h
    rfl
  · obtain ⟨R, e, x, v, rfl, _, _, _, _, h, _⟩ := h
    exact absurd h (by have := ex_pos e; omega)
theorem ok_ao {N n : Nat} {f fW : Addr} {fd fdW : FuncData} (F : Fun K "_law_at_once" "_law_at_once" g__law_at_once f fd) (GW : Fn P w K mg base CX0 (N + 2) "_law_occurs" p__law_occurs (spOc N) fW fdW)
    (GC : Fn P w K mg base CX0 (N + 6 + n) "_law_at_once" p__law_at_once (spAo N n) f fd) : FnOk P w K mg base CX0 (N + 6 + (n + 1)) f fd p__law_at_once (spAo N (n + 1)) := by
  refine F.ok (k := N + 6 + n) sc__law_at_once (fun vs H Q E h => ?_) (fun cdv A outer st H vs Q E hr h => ?_)
  · obtain ⟨R, e, x, v, rfl, _⟩ := h
    rfl
  · obtain ⟨R, e, x, v, rfl, sub, he, ok, hx0, dep, q⟩ := h
    refine ⟨_, (pss_cons (ps_set (i := 2) sc__law_at_once.nd rfl (Or.inl rfl) (pe_ix ix_tup (pv 0) (pe_int) (fun _ _ => rfl)))
      (pss_cons (ps_if (pt_cmpR op_eq (pv 2) (pe_str) (nomark _)) (pss_one (ps_ret (pe_and (pe_cmpR (op_eqD hr.units) (pe_ix ix_tup (pv 0) (pe_int) (fun _ _ => rfl)) (pe_tup (pa_cons (pe_str) (pa_cons (pv 1) pa_nil))) (nomark _)) (pe_one (pe_not (pe_call GW.ok (hr.mono (by omega)) (by rfl) GW.g GW.kp GW.b .nil pass0 (pa_cons (pe_ix ix_tup (pv 0) (pe_int) (fun _ _ => rfl)) (pa_cons (pv 1) pa_nil)))))))) pss_nil)
      (pss_cons (ps_if (pt_cmpR op_eq (pv 2) (pe_str) (nomark _)) (pss_one (ps_ret (pe_and (pe_not (pe_call GW.ok (hr.mono (by omega)) (by rfl) GW.g GW.kp GW.b .nil pass0 (pa_cons (pe_ix ix_tup (pv 0) (pe_int) (fun _ _ => rfl)) (pa_cons (pv 1) pa_nil)))) (pe_and (pe_cmpR op_ne (pe_ix ix_tup (pv 0) (pe_int) (fun _ _ => rfl)) (pv 1) (nomark _)) (pe_one (pe_call GC.ok hr (by rfl) GC.g GC.kp GC.b .nil pass0 (pa_cons (pe_ix ix_tup (pv 0) (pe_int) (fun _ _ => rfl)) (pa_cons (pv 1) pa_nil)))))))) pss_nil)
      (pss_cons (ps_if (pt_cmpR op_eq (pv 2) (pe_str) (nomark _)) (pss_one (ps_ret (pe_and (pe_not (pe_call GW.ok (hr.mono (by omega)) (by rfl) GW.g GW.kp GW.b .nil pass0 (pa_cons (pe_ix ix_tup (pv 0) (pe_int) (fun _ _ => rfl)) (pa_cons (pv 1) pa_nil)))) (pe_one (pe_call GC.ok hr (by rfl) GC.g GC.kp GC.b .nil pass0 (pa_cons (pe_ix ix_tup (pv 0) (pe_int) (fun _ _ => rfl)) (pa_cons (pv 1) pa_nil))))))) pss_nil)
      (pss_cons (ps_if (pt_cmpR op_eq (pv 2) (pe_str) (nomark _)) (pss_cons (ps_if (pt_val (pe_call GW.ok (hr.mono (by omega)) (by rfl) GW.g GW.kp GW.b .nil pass0 (pa_cons (pe_ix ix_tup (pv 0) (pe_int) (fun _ _ => rfl)) (pa_cons (pv 1) pa_nil)))) (pss_one (ps_ret (pe_bl))) pss_nil)
      (pss_one (ps_ret (pe_and (pe_call GC.ok hr (by rfl) GC.g GC.kp GC.b .nil pass0 (pa_cons (pe_ix ix_tup (pv 0) (pe_int) (fun _ _ => rfl)) (pa_cons (pv 1) pa_nil))) (pe_one (pe_call GC.ok hr (by rfl) GC.g GC.kp GC.b .nil pass0 (pa_cons (pe_ix ix_tup (pv 0) (pe_int) (fun _ _ => rfl)) (pa_cons (pv 1) pa_nil)))))))) pss_nil)
      (pss_one (ps_ret (pe_bl)))))))), ?_⟩
    have m0 : Mv F0 R H R H := .refl sub
    cases e with
    | call f e2 =>
      obtain ⟨pe, _, rfl, hpe, _, _, rfl, rfl, vf, _, rfl, af, v2, _, rfl, a2, rfl⟩ := he
      have hpe := sub _ _ hpe
      refine ⟨_, rfl, pe, _, 0, _, rfl, rfl, SqT.of hpe, atI_nat (j := 0) rfl, ?_⟩
      refine ⟨_, rfl, rfl, _, rfl, ?_⟩
      refine ifT (decide_eq_true rfl) ?_
      refine ⟨_, rfl, pe, _, 1, _, rfl, rfl, SqT.of hpe, rfl, _, rfl, by show 2 ≤ sizeLine; decide, fun p np => ?_⟩
      obtain ⟨R2, m2, al⟩ := lit2 sub (l := [.str "name", .str x]) ⟨_, _, rfl, at_str, _, _, rfl, at_str, rfl⟩ np
      have o2 : okS N e2 := ok.part (List.mem_cons_of_mem _ List.mem_cons_self)
      refine ⟨_, _, (af.up m2.up).dp m2.sub (ex_flat f), al.dp m2.sub rfl, (ok.part (g := f) List.mem_cons_self).sh f (pre_self f), sh_nm hx0, _, rfl, ?_⟩
      rw [eqv_nm]
      by_cases hx : isNm f x = true
      · refine ifT hx ?_
        refine ⟨_, rfl, pe, _, 2, _, rfl, rfl, SqT.of (m2.same _ _ hpe), rfl, _, rfl, R2, e2, x, v2, rfl, m2.sub, a2.up m2.up, o2.dp, o2.sm, o2.big, fun R3 H3 m3 => ?_⟩
        refine ⟨_, rfl, ?_⟩
        have := q R3 H3 (m2.tr m3)
        rw [show clM (.call f e2) x = (isNm f x && !decide (x ∈ fv e2)) from rfl, hx, occ_fv] at this
        exact this
      · rw [Bool.not_eq_true] at hx
        refine ifF hx ?_
        have := q _ _ m2
        rw [show clM (.call f e2) x = (isNm f x && !decide (x ∈ fv e2)) from rfl, hx] at this
        exact this
    | lt y e1 e2 =>
      obtain ⟨pe, _, rfl, hpe, _, _, rfl, rfl, _, _, rfl, rfl, v1, _, rfl, a1, v2, _, rfl, a2, rfl⟩ := he
      have hpe := sub _ _ hpe
      refine ⟨_, rfl, pe, _, 0, _, rfl, rfl, SqT.of hpe, atI_nat (j := 0) rfl, ?_⟩
      (refine ⟨_, rfl, rfl, _, rfl, ?_⟩; refine isF (by decide +kernel) ?_)
      refine ⟨_, rfl, rfl, _, rfl, ?_⟩
      refine ifT (decide_eq_true rfl) ?_
      have o1 : okS N e1 := ok.part List.mem_cons_self
      have o2 : okS N e2 := ok.part (List.mem_cons_of_mem _ List.mem_cons_self)
      have d2 := (part_mem (e := .lt y e1 e2) (g := e2) (List.mem_cons_of_mem _ List.mem_cons_self)).1
      refine ⟨_, rfl, pe, _, 2, _, rfl, rfl, SqT.of hpe, rfl, _, rfl, R, e1, x, v1, rfl, sub, a1, o1.dp, o1.sm, o1.big, fun R3 H3 m3 => ⟨_, rfl, _, rfl, ?_⟩⟩
      have ec : clM (.lt y e1 e2) x = (!occ e1 x && (!decide (y = x) && clM e2 x)) := by rw [← occ_fv]; rfl
      by_cases h1 : (!occ e1 x) = true
      · refine ifT h1 ?_
        rw [h1, Bool.true_and] at ec
        refine ⟨_, rfl, pe, _, 1, _, rfl, rfl, SqT.of (m3.same _ _ hpe), rfl, _, rfl, rfl, _, rfl, ?_⟩
        by_cases h2 : y = x
        · rw [show (!decide (y = x)) = false by rw [decide_eq_true h2]; rfl, Bool.false_and] at ec
          refine ifF (by rw [decide_eq_true (congrArg V.str h2)]; rfl) ?_
          have := q R3 H3 m3
          rw [ec] at this
          exact this
        · rw [show (!decide (y = x)) = true by rw [decide_eq_false h2]; rfl, Bool.true_and] at ec
          refine ifT (by rw [decide_eq_false fun e => h2 (V.str.inj e)]; rfl) ?_
          refine ⟨_, rfl, pe, _, 3, _, rfl, rfl, SqT.of (m3.same _ _ hpe), rfl, _, rfl, R3, e2, x, v2, rfl, m3.sub, a2.up m3.up, o2, hx0, by omega, fun R4 H4 m4 => ?_⟩
          have := q R4 H4 (m3.tr m4)
          rw [ec] at this
          exact this
      · rw [Bool.not_eq_true] at h1
        refine ifF h1 ?_
        rw [h1, Bool.false_and] at ec
        have := q R3 H3 m3
        rw [ec] at this
        exact this
    | pr e1 e2 =>
      obtain ⟨pe, _, rfl, hpe, _, _, rfl, rfl, v1, _, rfl, a1, v2, _, rfl, a2, rfl⟩ := he
      have hpe := sub _ _ hpe
      refine ⟨_, rfl, pe, _, 0, _, rfl, rfl, SqT.of hpe, atI_nat (j := 0) rfl, ?_⟩
      (refine ⟨_, rfl, rfl, _, rfl, ?_⟩; refine isF (by decide +kernel) ?_)
      (refine ⟨_, rfl, rfl, _, rfl, ?_⟩; refine isF (by decide +kernel) ?_)
      refine ⟨_, rfl, rfl, _, rfl, ?_⟩
      refine ifT (decide_eq_true rfl) ?_
      have o1 : okS N e1 := ok.part List.mem_cons_self
      have o2 : okS N e2 := ok.part (List.mem_cons_of_mem _ List.mem_cons_self)
      have d2 := (part_mem (e := .pr e1 e2) (g := e2) (List.mem_cons_of_mem _ List.mem_cons_self)).1
      refine ⟨_, rfl, pe, _, 1, _, rfl, rfl, SqT.of hpe, rfl, _, rfl, R, e1, x, v1, rfl, sub, a1, o1.dp, o1.sm, o1.big, fun R3 H3 m3 => ⟨_, rfl, _, rfl, ?_⟩⟩
      have ec : clM (.pr e1 e2) x = (!occ e1 x && clM e2 x) := by rw [← occ_fv]; rfl
      by_cases h1 : (!occ e1 x) = true
      · refine ifT h1 ?_
        rw [h1, Bool.true_and] at ec
        refine ⟨_, rfl, pe, _, 2, _, rfl, rfl, SqT.of (m3.same _ _ hpe), rfl, _, rfl, R3, e2, x, v2, rfl, m3.sub, a2.up m3.up, o2, hx0, by omega, fun R4 H4 m4 => ?_⟩
        have := q R4 H4 (m3.tr m4)
        rw [ec] at this
        exact this
      · rw [Bool.not_eq_true] at h1
        refine ifF h1 ?_
        rw [h1, Bool.false_and] at ec
        have := q R3 H3 m3
        rw [ec] at this
        exact this
    | ite e1 e2 e3 =>
      obtain ⟨pe, _, rfl, hpe, _, _, rfl, rfl, v1, _, rfl, a1, v2, _, rfl, a2, v3, _, rfl, a3, rfl⟩ := he
      have hpe := sub _ _ hpe
      refine ⟨_, rfl, pe, _, 0, _, rfl, rfl, SqT.of hpe, atI_nat (j := 0) rfl, ?_⟩
      (refine ⟨_, rfl, rfl, _, rfl, ?_⟩; refine isF (by decide +kernel) ?_)
      (refine ⟨_, rfl, rfl, _, rfl, ?_⟩; refine isF (by decide +kernel) ?_)
      (refine ⟨_, rfl, rfl, _, rfl, ?_⟩; refine isF (by decide +kernel) ?_)
      refine ⟨_, rfl, rfl, _, rfl, ?_⟩
      refine ifT (decide_eq_true rfl) ?_
      have o1 : okS N e1 := ok.part List.mem_cons_self
      have o2 : okS N e2 := ok.part (List.mem_cons_of_mem _ List.mem_cons_self)
      have o3 : okS N e3 := ok.part (List.mem_cons_of_mem _ (List.mem_cons_of_mem _ List.mem_cons_self))
      have d2 := (part_mem (e := .ite e1 e2 e3) (g := e2) (List.mem_cons_of_mem _ List.mem_cons_self)).1
      have d3 := (part_mem (e := .ite e1 e2 e3) (g := e3) (List.mem_cons_of_mem _ (List.mem_cons_of_mem _ List.mem_cons_self))).1
      refine ⟨_, rfl, pe, _, 1, _, rfl, rfl, SqT.of hpe, rfl, _, rfl, R, e1, x, v1, rfl, sub, a1, o1.dp, o1.sm, o1.big, fun R3 H3 m3 => ⟨_, rfl, ?_⟩⟩
      have ec : clM (.ite e1 e2 e3) x = (!occ e1 x && (clM e2 x && clM e3 x)) := by rw [← occ_fv]; rfl
      by_cases h1 : occ e1 x = true
      · refine ifT h1 ?_
        have := q R3 H3 m3
        rw [ec, h1] at this
        exact this
      · rw [Bool.not_eq_true] at h1
        refine ifF h1 ?_
        rw [h1, Bool.not_false, Bool.true_and] at ec
        refine ⟨_, rfl, pe, _, 2, _, rfl, rfl, SqT.of (m3.same _ _ hpe), rfl, _, rfl, R3, e2, x, v2, rfl, m3.sub, a2.up m3.up, o2, hx0, by omega, fun R4 H4 m4 => ⟨_, rfl, ?_⟩⟩
        have m34 := m3.tr m4
        by_cases h2 : clM e2 x = true
        · refine ifT h2 ?_
          rw [h2, Bool.true_and] at ec
          refine ⟨_, rfl, pe, _, 3, _, rfl, rfl, SqT.of (m34.same _ _ hpe), rfl, _, rfl, R4, e3, x, v3, rfl, m34.sub, a3.up m34.up, o3, hx0, by omega, fun R5 H5 m5 => ?_⟩
          have := q R5 H5 (m34.tr m5)
          rw [ec] at this
          exact this
        · rw [Bool.not_eq_true] at h2
          refine ifF h2 ?_
          rw [h2, Bool.false_and] at ec
          have := q R4 H4 m34
          rw [ec] at this
          exact this
    | _ =>
      obtain ⟨pe, _, rfl, hpe, _, _, rfl, rfl, _⟩ := he
      have hpe := sub _ _ hpe
      refine ⟨_, rfl, pe, _, 0, _, rfl, rfl, SqT.of hpe, atI_nat (j := 0) rfl, ?_⟩
      (refine ⟨_, rfl, rfl, _, rfl, ?_⟩; refine isF (by decide +kernel) ?_)
      (refine ⟨_, rfl, rfl, _, rfl, ?_⟩; refine isF (by decide +kernel) ?_)
      (refine ⟨_, rfl, rfl, _, rfl, ?_⟩; refine isF (by decide +kernel) ?_)
      (refine ⟨_, rfl, rfl, _, rfl, ?_⟩; refine isF (by decide +kernel) ?_)
      exact q _ _ m0
end
end Bz


set_option Elab.async false
set_option linter.all false
set_option maxRecDepth 100000
set_option maxHeartbeats 4000000
namespace Bz
open PySem PySem.Spec L2 PyProof.Rows
/-- the law's state, apart from all that stands still -/
structure Wd (R H : Hp) (s c : Addr) : Prop where
  sub : Same R H
  rs : R s = none
  rc : R c = none
  st : StAt H s c
theorem Wd.up0 {R H R' H' : Hp} {s c : Addr} (w : Wd R H s c) (m : Mv F0 R H R' H') : Wd R' H' s c := by
  obtain ⟨i, cs, h1, h2, _⟩ := w.st
  exact ⟨m.sub, m.out w.rs h1, m.out w.rc h2, w.st.stay m id id⟩
theorem Wd.took {R H H' : Hp} {s c : Addr} (w : Wd R H s c) (m : Mv (Fst s c) R H R H') (st : StAt H' s c) : Wd R H' s c := ⟨m.sub, w.rs, w.rc, st⟩
/-! ### kinds -/
inductive Kd where
  | int | bool | unit | fn (a b : Kd) | pair (a b : Kd)
def Kd.d : Kd → D
  | .int => .tup [.str "int"]
  | .bool => .tup [.str "bool"]
  | .unit => .tup [.str "unit"]
  | .fn a b => .tup [.str "fun", a.d, b.d]
  | .pair a b => .tup [.str "pair", a.d, b.d]
def Kd.dp : Kd → Nat
  | .fn a b => Nat.max a.dp b.dp + 1
  | .pair a b => Nat.max a.dp b.dp + 1
  | _ => 0
section
variable {P : Program} {w : World} {K : PySem.W.Frag} {mg : Str → Option Value} {base : Heap}
abbrev g__law_kind : Stmt := topS 15
abbrev n__law_kind : List Str := ["state", "depth", "kind"]
abbrev p__law_kind : List Str := ["state", "depth"]
theorem sc__law_kind : FnScope n__law_kind p__law_kind (defScope g__law_kind) := ⟨rfl, rfl, rfl, by decide +kernel, rfl, by decide +kernel, by decide +kernel⟩
def spKind (n : Nat) : Sp := fun vs H Q _ => ∃ (R : Hp) (s c : Addr) (d : Nat), vs = [.ref s, .int (d : Int)] ∧ Wd R H s c ∧ d < n ∧ ∀ (R' H' : Hp) (κ : Kd) (v : V), Mv (Fst s c) R H R' H' → Wd R' H' s c → At R' κ.d v → κ.dp ≤ d → Q v H'
theorem ok_kind0 {f : Addr} {fd : FuncData} (F : Fun K "_law_kind" "_law_kind" g__law_kind f fd) : FnOk P w K mg base CX0 2 f fd p__law_kind (spKind 0) := by
  refine F.ok (k := 1) sc__law_kind (fun vs H Q E h => ?_) (fun cdv A outer st H vs Q E hr h => ?_)
  · obtain ⟨R, s, c, d, rfl, _⟩ := h
    rfl
  · obtain ⟨R, s, c, d, rfl, _, h, _⟩ := h
    exact absurd h (Nat.not_lt_zero d)
theorem ok_kind {n : Nat} {f fT : Addr} {fd fdT : FuncData} (F : Fun K "_law_kind" "_law_kind" g__law_kind f fd) (GT : Fn P w K mg base CX0 1 "_law_take" p__law_take spTake fT fdT)
    (GR : Fn P w K mg base CX0 (n + 2) "_law_kind" p__law_kind (spKind n) f fd) : FnOk P w K mg base CX0 (n + 3) f fd p__law_kind (spKind (n + 1)) := by
  refine F.ok (k := n + 2) sc__law_kind (fun vs H Q E h => ?_) (fun cdv A outer st H vs Q E hr h => ?_)
  · obtain ⟨R, s, c, d, rfl, _⟩ := h
    rfl
  · obtain ⟨R, s, c, d, rfl, w0, hd, q⟩ := h
    refine ⟨_, (pss_cons (ps_set (i := 2) sc__law_kind.nd rfl (Or.inl rfl) (pe_call GT.ok (hr.mono (by omega)) (by rfl) GT.g GT.kp GT.b .nil pass0 (pa_cons (pv 0) (pa_cons (pe_int) pa_nil))))
      (pss_cons (ps_if (PW.pt (pw_and (pt_cmpR op_gt (pv 1) (pe_int) (nomark _)) (pw_and1 (pt_cmpR op_eq (pv 2) (pe_int) (nomark _))))) (pss_one (ps_ret (pe_tup (pa_cons (pe_str) (pa_cons (pe_call GR.ok hr (by rfl) GR.g GR.kp GR.b .nil pass0 (pa_cons (pv 0) (pa_cons (pe_op op_sub (pv 1) (pe_int)) pa_nil))) (pa_cons (pe_call GR.ok hr (by rfl) GR.g GR.kp GR.b .nil pass0 (pa_cons (pv 0) (pa_cons (pe_op op_sub (pv 1) (pe_int)) pa_nil))) pa_nil)))))) pss_nil)
      (pss_cons (ps_if (PW.pt (pw_and (pt_cmpR op_gt (pv 1) (pe_int) (nomark _)) (pw_and1 (pt_cmpR op_eq (pv 2) (pe_int) (nomark _))))) (pss_one (ps_ret (pe_tup (pa_cons (pe_str) (pa_cons (pe_call GR.ok hr (by rfl) GR.g GR.kp GR.b .nil pass0 (pa_cons (pv 0) (pa_cons (pe_op op_sub (pv 1) (pe_int)) pa_nil))) (pa_cons (pe_call GR.ok hr (by rfl) GR.g GR.kp GR.b .nil pass0 (pa_cons (pv 0) (pa_cons (pe_op op_sub (pv 1) (pe_int)) pa_nil))) pa_nil)))))) pss_nil)
      (pss_one (ps_ret (pe_ix ix_list (pe_lst (pa_cons (pe_tup (pa_cons (pe_str) pa_nil)) (pa_cons (pe_tup (pa_cons (pe_str) pa_nil)) (pa_cons (pe_tup (pa_cons (pe_str) pa_nil)) (pa_cons (pe_tup (pa_cons (pe_str) pa_nil)) (pa_cons (pe_tup (pa_cons (pe_str) pa_nil)) pa_nil)))))) (pe_op op_mod (pv 2) (pe_int)) (fun _ _ => rfl))))))), ?_⟩
    refine ⟨_, rfl, R, s, c, 9, rfl, by decide, by decide, w0.sub, w0.rs, w0.rc, w0.st, fun H1 z st1 c1 z0 z1 => ?_⟩
    have w1 := w0.took c1 st1
    show gName 2 _ _ _ _
    by_cases h0 : 0 < d
    · have ee : [V.ref s, V.int ((d : Int) - 1)] = [V.ref s, V.int ((d - 1 : Nat) : Int)] := by rw [show ((d : Int) - 1) = ((d - 1 : Nat) : Int) by omega]
      refine ⟨_, rfl, _, _, rfl, rfl, _, rfl, ?_⟩
      refine ifT (decide_eq_true (by omega)) ?_
      refine ⟨_, rfl, rfl, _, rfl, ?_⟩
      by_cases hz : z = 0
      · refine ifT (decide_eq_true (by rw [hz])) ?_
        refine ⟨_, rfl, _, rfl, _, _, rfl, rfl, R, s, c, d - 1, ee, w1, by omega, fun R2 H2 k2 v2 m2 w2 a2 b2 => ?_⟩
        refine ⟨_, rfl, _, rfl, _, _, rfl, rfl, R2, s, c, d - 1, ee, w2, by omega, fun R3 H3 k3 v3 m3 w3 a3 b3 => ?_⟩
        refine ⟨by show 3 ≤ sizeLine; decide, fun p np => ?_⟩
        obtain ⟨R4, m4, a4⟩ := lit2 w3.sub (l := [.str "fun", k2.d, k3.d]) ⟨_, _, rfl, at_str, _, _, rfl, a2.up m3.up, _, _, rfl, a3, rfl⟩ np
        have mm : Mv (Fst s c) R H R4 _ := ((c1.tr m2).tr m3).tr0 m4
        exact q _ _ (.fn k2 k3) _ mm (w3.up0 m4) a4 (Nat.le_trans (Nat.succ_le_succ (Nat.max_le.mpr ⟨b2, b3⟩)) (by omega))
      refine ifF (decide_eq_false fun h => hz (V.int.inj h)) ?_
      refine ⟨_, rfl, _, _, rfl, rfl, _, rfl, ?_⟩
      refine ifT (decide_eq_true (by omega)) ?_
      refine ⟨_, rfl, rfl, _, rfl, ?_⟩
      by_cases hz1 : z = 1
      · refine ifT (decide_eq_true (by rw [hz1])) ?_
        refine ⟨_, rfl, _, rfl, _, _, rfl, rfl, R, s, c, d - 1, ee, w1, by omega, fun R2 H2 k2 v2 m2 w2 a2 b2 => ?_⟩
        refine ⟨_, rfl, _, rfl, _, _, rfl, rfl, R2, s, c, d - 1, ee, w2, by omega, fun R3 H3 k3 v3 m3 w3 a3 b3 => ?_⟩
        refine ⟨by show 3 ≤ sizeLine; decide, fun p np => ?_⟩
        obtain ⟨R4, m4, a4⟩ := lit2 w3.sub (l := [.str "pair", k2.d, k3.d]) ⟨_, _, rfl, at_str, _, _, rfl, a2.up m3.up, _, _, rfl, a3, rfl⟩ np
        have mm : Mv (Fst s c) R H R4 _ := ((c1.tr m2).tr m3).tr0 m4
        exact q _ _ (.pair k2 k3) _ mm (w3.up0 m4) a4 (Nat.le_trans (Nat.succ_le_succ (Nat.max_le.mpr ⟨b2, b3⟩)) (by omega))
      refine ifF (decide_eq_false fun h => hz1 (V.int.inj h)) ?_
      refine ⟨by show 1 ≤ sizeLine; decide, fun p1 n1 => ?_⟩
      obtain ⟨Q1, m1, a1⟩ := lit2 w1.sub (l := [.str "int"]) ⟨_, _, rfl, at_str, rfl⟩ n1
      have x1 := w1.up0 m1
      refine ⟨by show 1 ≤ sizeLine; decide, fun p2 n2 => ?_⟩
      obtain ⟨Q2, m2, a2⟩ := lit2 x1.sub (l := [.str "bool"]) ⟨_, _, rfl, at_str, rfl⟩ n2
      have x2 := x1.up0 m2
      refine ⟨by show 1 ≤ sizeLine; decide, fun p3 n3 => ?_⟩
      obtain ⟨Q3, m3, a3⟩ := lit2 x2.sub (l := [.str "int"]) ⟨_, _, rfl, at_str, rfl⟩ n3
      have x3 := x2.up0 m3
      refine ⟨by show 1 ≤ sizeLine; decide, fun p4 n4 => ?_⟩
      obtain ⟨Q4, m4, a4⟩ := lit2 x3.sub (l := [.str "unit"]) ⟨_, _, rfl, at_str, rfl⟩ n4
      have x4 := x3.up0 m4
      refine ⟨by show 1 ≤ sizeLine; decide, fun p5 n5 => ?_⟩
      obtain ⟨Q5, m5, a5⟩ := lit2 x4.sub (l := [.str "int"]) ⟨_, _, rfl, at_str, rfl⟩ n5
      have x5 := x4.up0 m5
      refine ⟨by show 5 ≤ sizeLine; decide, fun pL nL => ?_⟩
      have mL : Mv F0 Q5 _ Q5 _ := mv_mut (o := .lst [.ref p1, .ref p2, .ref p3, .ref p4, .ref p5]) x5.sub nL
      have mm : Mv (Fst s c) R H Q5 _ := (((((c1.tr0 m1).tr0 m2).tr0 m3).tr0 m4).tr0 m5).tr0 mL
      have x6 := x5.up0 mL
      have b1 := a1.up (((m2.tr m3).tr m4).tr m5).up
      have b2 := a2.up ((m3.tr m4).tr m5).up
      have b3 := a3.up (m4.tr m5).up
      have b4 := a4.up m5.up
      rcases (by omega : z = 0 ∨ z = 1 ∨ z = 2 ∨ z = 3 ∨ z = 4 ∨ z = 5 ∨ z = 6 ∨ z = 7 ∨ z = 8) with rfl | rfl | rfl | rfl | rfl | rfl | rfl | rfl | rfl
      · exact ⟨_, rfl, _, _, rfl, rfl, by decide, pL, _, _, _, rfl, rfl, SqL.of upd_same, rfl, q _ _ .int _ mm x6 b1 (Nat.zero_le _)⟩
      · exact ⟨_, rfl, _, _, rfl, rfl, by decide, pL, _, _, _, rfl, rfl, SqL.of upd_same, rfl, q _ _ .bool _ mm x6 b2 (Nat.zero_le _)⟩
      · exact ⟨_, rfl, _, _, rfl, rfl, by decide, pL, _, _, _, rfl, rfl, SqL.of upd_same, rfl, q _ _ .int _ mm x6 b3 (Nat.zero_le _)⟩
      · exact ⟨_, rfl, _, _, rfl, rfl, by decide, pL, _, _, _, rfl, rfl, SqL.of upd_same, rfl, q _ _ .unit _ mm x6 b4 (Nat.zero_le _)⟩
      · exact ⟨_, rfl, _, _, rfl, rfl, by decide, pL, _, _, _, rfl, rfl, SqL.of upd_same, rfl, q _ _ .int _ mm x6 a5 (Nat.zero_le _)⟩
      · exact ⟨_, rfl, _, _, rfl, rfl, by decide, pL, _, _, _, rfl, rfl, SqL.of upd_same, rfl, q _ _ .int _ mm x6 b1 (Nat.zero_le _)⟩
      · exact ⟨_, rfl, _, _, rfl, rfl, by decide, pL, _, _, _, rfl, rfl, SqL.of upd_same, rfl, q _ _ .bool _ mm x6 b2 (Nat.zero_le _)⟩
      · exact ⟨_, rfl, _, _, rfl, rfl, by decide, pL, _, _, _, rfl, rfl, SqL.of upd_same, rfl, q _ _ .int _ mm x6 b3 (Nat.zero_le _)⟩
      · exact ⟨_, rfl, _, _, rfl, rfl, by decide, pL, _, _, _, rfl, rfl, SqL.of upd_same, rfl, q _ _ .unit _ mm x6 b4 (Nat.zero_le _)⟩
    · refine ⟨_, rfl, _, _, rfl, rfl, _, rfl, ?_⟩
      refine ifF (decide_eq_false (by omega)) ?_
      refine ⟨_, rfl, _, _, rfl, rfl, _, rfl, ?_⟩
      refine ifF (decide_eq_false (by omega)) ?_
      refine ⟨by show 1 ≤ sizeLine; decide, fun p1 n1 => ?_⟩
      obtain ⟨Q1, m1, a1⟩ := lit2 w1.sub (l := [.str "int"]) ⟨_, _, rfl, at_str, rfl⟩ n1
      have x1 := w1.up0 m1
      refine ⟨by show 1 ≤ sizeLine; decide, fun p2 n2 => ?_⟩
      obtain ⟨Q2, m2, a2⟩ := lit2 x1.sub (l := [.str "bool"]) ⟨_, _, rfl, at_str, rfl⟩ n2
      have x2 := x1.up0 m2
      refine ⟨by show 1 ≤ sizeLine; decide, fun p3 n3 => ?_⟩
      obtain ⟨Q3, m3, a3⟩ := lit2 x2.sub (l := [.str "int"]) ⟨_, _, rfl, at_str, rfl⟩ n3
      have x3 := x2.up0 m3
      refine ⟨by show 1 ≤ sizeLine; decide, fun p4 n4 => ?_⟩
      obtain ⟨Q4, m4, a4⟩ := lit2 x3.sub (l := [.str "unit"]) ⟨_, _, rfl, at_str, rfl⟩ n4
      have x4 := x3.up0 m4
      refine ⟨by show 1 ≤ sizeLine; decide, fun p5 n5 => ?_⟩
      obtain ⟨Q5, m5, a5⟩ := lit2 x4.sub (l := [.str "int"]) ⟨_, _, rfl, at_str, rfl⟩ n5
      have x5 := x4.up0 m5
      refine ⟨by show 5 ≤ sizeLine; decide, fun pL nL => ?_⟩
      have mL : Mv F0 Q5 _ Q5 _ := mv_mut (o := .lst [.ref p1, .ref p2, .ref p3, .ref p4, .ref p5]) x5.sub nL
      have mm : Mv (Fst s c) R H Q5 _ := (((((c1.tr0 m1).tr0 m2).tr0 m3).tr0 m4).tr0 m5).tr0 mL
      have x6 := x5.up0 mL
      have b1 := a1.up (((m2.tr m3).tr m4).tr m5).up
      have b2 := a2.up ((m3.tr m4).tr m5).up
      have b3 := a3.up (m4.tr m5).up
      have b4 := a4.up m5.up
      rcases (by omega : z = 0 ∨ z = 1 ∨ z = 2 ∨ z = 3 ∨ z = 4 ∨ z = 5 ∨ z = 6 ∨ z = 7 ∨ z = 8) with rfl | rfl | rfl | rfl | rfl | rfl | rfl | rfl | rfl
      · exact ⟨_, rfl, _, _, rfl, rfl, by decide, pL, _, _, _, rfl, rfl, SqL.of upd_same, rfl, q _ _ .int _ mm x6 b1 (Nat.zero_le _)⟩
      · exact ⟨_, rfl, _, _, rfl, rfl, by decide, pL, _, _, _, rfl, rfl, SqL.of upd_same, rfl, q _ _ .bool _ mm x6 b2 (Nat.zero_le _)⟩
      · exact ⟨_, rfl, _, _, rfl, rfl, by decide, pL, _, _, _, rfl, rfl, SqL.of upd_same, rfl, q _ _ .int _ mm x6 b3 (Nat.zero_le _)⟩
      · exact ⟨_, rfl, _, _, rfl, rfl, by decide, pL, _, _, _, rfl, rfl, SqL.of upd_same, rfl, q _ _ .unit _ mm x6 b4 (Nat.zero_le _)⟩
      · exact ⟨_, rfl, _, _, rfl, rfl, by decide, pL, _, _, _, rfl, rfl, SqL.of upd_same, rfl, q _ _ .int _ mm x6 a5 (Nat.zero_le _)⟩
      · exact ⟨_, rfl, _, _, rfl, rfl, by decide, pL, _, _, _, rfl, rfl, SqL.of upd_same, rfl, q _ _ .int _ mm x6 b1 (Nat.zero_le _)⟩
      · exact ⟨_, rfl, _, _, rfl, rfl, by decide, pL, _, _, _, rfl, rfl, SqL.of upd_same, rfl, q _ _ .bool _ mm x6 b2 (Nat.zero_le _)⟩
      · exact ⟨_, rfl, _, _, rfl, rfl, by decide, pL, _, _, _, rfl, rfl, SqL.of upd_same, rfl, q _ _ .int _ mm x6 b3 (Nat.zero_le _)⟩
      · exact ⟨_, rfl, _, _, rfl, rfl, by decide, pL, _, _, _, rfl, rfl, SqL.of upd_same, rfl, q _ _ .unit _ mm x6 b4 (Nat.zero_le _)⟩
end
end Bz


set_option Elab.async false
set_option linter.all false
set_option maxRecDepth 100000
set_option maxHeartbeats 4000000
namespace Bz
open PySem PySem.Spec L2 PyProof.Rows
/-! ### drawn expressions: how deep, how many, which names -/
def nmN (a : Str) (n : Nat) : Str := a ++ Str.ofString (toString (n : Int))
/-- all names that are drawn -/
def allN : List Str := ("r" : Str) :: ("y" : Str) :: ("z" : Str) :: ("x" : Str) :: ("k" : Str) :: (List.range 16).flatMap fun n => [nmN "x" n, nmN "k" n, nmN "h" n]
theorem mem5 {α : Type} {a b c d e x : α} {l : List α} (h : x ∈ l) : x ∈ a :: b :: c :: d :: e :: l := List.mem_cons_of_mem _ (List.mem_cons_of_mem _ (List.mem_cons_of_mem _ (List.mem_cons_of_mem _ (List.mem_cons_of_mem _ h))))
def okNm (x : Str) : Bool := decide (x ∈ allN)
theorem okNm_x {n : Nat} (h : n < 16) : okNm (nmN "x" n) = true := decide_eq_true (mem5 (List.mem_flatMap.mpr ⟨n, List.mem_range.mpr h, List.mem_cons_self⟩))
theorem okNm_k {n : Nat} (h : n < 16) : okNm (nmN "k" n) = true := decide_eq_true (mem5 (List.mem_flatMap.mpr ⟨n, List.mem_range.mpr h, List.mem_cons_of_mem _ List.mem_cons_self⟩))
theorem okNm_h {n : Nat} (h : n < 16) : okNm (nmN "h" n) = true := decide_eq_true (mem5 (List.mem_flatMap.mpr ⟨n, List.mem_range.mpr h, List.mem_cons_of_mem _ (List.mem_cons_of_mem _ List.mem_cons_self)⟩))
theorem allN_lay : (allN.all fun x => (PyData.str x).canLay0) = true := by decide +kernel
theorem allN_len : allN.length = 53 := by decide +kernel
theorem okNm_lay {x : Str} (h : okNm x = true) : (PyData.str x).canLay0 = true := List.all_eq_true.mp allN_lay x (of_decide_eq_true h)
theorem nm_small {n : Nat} (h : n < 16) : ((n : Int)).natAbs.log2 < 1920 ∧ ("x" : Str).length + (Str.ofString (toString (n : Int))).length ≤ sizeLine ∧ ("k" : Str).length + (Str.ofString (toString (n : Int))).length ≤ sizeLine ∧ ("h" : Str).length + (Str.ofString (toString (n : Int))).length ≤ sizeLine := by
  rcases (by omega : n = 0 ∨ n = 1 ∨ n = 2 ∨ n = 3 ∨ n = 4 ∨ n = 5 ∨ n = 6 ∨ n = 7 ∨ n = 8 ∨ n = 9 ∨ n = 10 ∨ n = 11 ∨ n = 12 ∨ n = 13 ∨ n = 14 ∨ n = 15) with rfl | rfl | rfl | rfl | rfl | rfl | rfl | rfl | rfl | rfl | rfl | rfl | rfl | rfl | rfl | rfl <;> decide +kernel
mutual
/-- a bound of the depth of the data -/
def ddE : Ex → Nat
  | .num _ => 1 | .flag _ => 1 | .unit => 1 | .name _ => 1
  | .call f e => max (ddE f) (ddE e) + 1 | .fn _ e => ddE e + 1 | .rc _ _ e => ddE e + 1 | .lt _ e f => max (ddE e) (ddE f) + 1 | .ite e f g => max (ddE e) (max (ddE f) (ddE g)) + 1
  | .pair e f => max (ddE e) (ddE f) + 1 | .fst e => ddE e + 1 | .snd e => ddE e + 1 | .op _ e f => max (ddE e) (ddE f) + 1 | .nt e => ddE e + 1 | .pr e f => max (ddE e) (ddE f) + 1 | .ask _ e => ddE e + 1
  | .hd e _ f cs => max (ddE e) (max (ddE f + 1) (ddC cs + 1)) + 1
def ddC : Clz → Nat
  | .nil => 0
  | .cons _ _ _ g r => max (ddE g + 1) (ddC r)
end
mutual
/-- names that are drawn, texts that can be laid, few clauses -/
def gdE : Ex → Bool
  | .num _ => true | .flag _ => true | .unit => true | .name x => okNm x
  | .call f e => gdE f && gdE e | .fn x e => okNm x && gdE e | .rc h x e => okNm h && (okNm x && gdE e) | .lt x e f => okNm x && (gdE e && gdE f) | .ite e f g => gdE e && (gdE f && gdE g)
  | .pair e f => gdE e && gdE f | .fst e => gdE e | .snd e => gdE e | .op s e f => (PyData.str s).canLay0 && (gdE e && gdE f) | .nt e => gdE e | .pr e f => gdE e && gdE f | .ask s e => (PyData.str s).canLay0 && gdE e
  | .hd e x f cs => decide (cs.len ≤ 900) && (okNm x && (gdE e && (gdE f && gdC cs)))
def gdC : Clz → Bool
  | .nil => true
  | .cons o x k g r => (PyData.str o).canLay0 && (okNm x && (okNm k && (gdE g && gdC r)))
end
theorem mxm {a b c d : Nat} (x : a ≤ c) (y : b ≤ d) : Nat.max a b ≤ max c d := Nat.max_le.mpr ⟨Nat.le_trans x (Nat.le_max_left _ _), Nat.le_trans y (Nat.le_max_right _ _)⟩
mutual
theorem dd_ex : ∀ e : Ex, exD e ≤ ddE e
  | .num _ => Nat.le_refl _ | .flag _ => Nat.le_refl _ | .unit => Nat.le_refl _ | .name _ => Nat.le_refl _
  | .call f e => Nat.succ_le_succ (mxm (dd_ex f) (dd_ex e))
  | .fn _ e => Nat.succ_le_succ (dd_ex e) | .rc _ _ e => Nat.succ_le_succ (dd_ex e)
  | .lt _ f e => Nat.succ_le_succ (mxm (dd_ex f) (dd_ex e))
  | .ite e f g => Nat.succ_le_succ (mxm (dd_ex e) (mxm (dd_ex f) (dd_ex g)))
  | .pair f e => Nat.succ_le_succ (mxm (dd_ex f) (dd_ex e))
  | .fst e => Nat.succ_le_succ (dd_ex e) | .snd e => Nat.succ_le_succ (dd_ex e)
  | .op _ f e => Nat.succ_le_succ (mxm (dd_ex f) (dd_ex e))
  | .nt e => Nat.succ_le_succ (dd_ex e)
  | .pr f e => Nat.succ_le_succ (mxm (dd_ex f) (dd_ex e))
  | .ask _ e => Nat.succ_le_succ (dd_ex e)
  | .hd e _ f cs => Nat.succ_le_succ (mxm (dd_ex e) (mxm (Nat.le_succ_of_le (dd_ex f)) (Nat.le_succ_of_le (dd_cl cs))))
theorem dd_cl : ∀ c : Clz, clD c ≤ ddC c
  | .nil => Nat.le_refl _
  | .cons _ _ _ g r => mxm (Nat.le_succ_of_le (dd_ex g)) (dd_cl r)
end
def dpD (d : D) : Nat := d.py.depth
theorem dp_tup {l : List D} : (D.tup l).py.depth = PyData.depthAll (pys l) + 1 := by show (PyData.tuple _).depth = _; rw [PyData.depth]
theorem dp_str {s : Str} : (D.str s).py.depth = 0 := by show (PyData.str s).depth = _; rw [PyData.depth]
theorem dp_int {s : Int} : (D.int s).py.depth = 0 := by show (PyData.int s).depth = _; rw [PyData.depth]
theorem dp_bl {s : Bool} : (D.bl s).py.depth = 0 := by show (PyData.bool s).depth = _; rw [PyData.depth]
theorem dpa_nil : PyData.depthAll (pys []) = 0 := by show PyData.depthAll [] = 0; rw [PyData.depthAll]
theorem dpa_cons {d : D} {l : List D} : PyData.depthAll (pys (d :: l)) = max d.py.depth (PyData.depthAll (pys l)) := by show PyData.depthAll (_ :: _) = _; rw [PyData.depthAll]
mutual
theorem dd_py : ∀ e : Ex, (e.d false).py.depth ≤ ddE e
  | .num _ => by simp only [Ex.d, dp_tup, dpa_cons, dpa_nil, dp_str, dp_int, ddE]; omega
  | .flag _ => by simp only [Ex.d, dp_tup, dpa_cons, dpa_nil, dp_str, dp_bl, ddE]; omega
  | .unit => by simp only [Ex.d, dp_tup, dpa_cons, dpa_nil, dp_str, ddE]; omega
  | .name _ => by simp only [Ex.d, dp_tup, dpa_cons, dpa_nil, dp_str, ddE]; omega
  | .call f e => by have := dd_py f; have := dd_py e; simp only [Ex.d, dp_tup, dpa_cons, dpa_nil, dp_str, ddE]; omega
  | .fn _ e => by have := dd_py e; simp only [Ex.d, dp_tup, dpa_cons, dpa_nil, dp_str, ddE, Bool.false_eq_true, if_false]; omega
  | .rc _ _ e => by have := dd_py e; simp only [Ex.d, dp_tup, dpa_cons, dpa_nil, dp_str, ddE, Bool.false_eq_true, if_false]; omega
  | .lt _ f e => by have := dd_py f; have := dd_py e; simp only [Ex.d, dp_tup, dpa_cons, dpa_nil, dp_str, ddE]; omega
  | .ite e f g => by have := dd_py f; have := dd_py e; have := dd_py g; simp only [Ex.d, dp_tup, dpa_cons, dpa_nil, dp_str, ddE]; omega
  | .pair f e => by have := dd_py f; have := dd_py e; simp only [Ex.d, dp_tup, dpa_cons, dpa_nil, dp_str, ddE]; omega
  | .fst e => by have := dd_py e; simp only [Ex.d, dp_tup, dpa_cons, dpa_nil, dp_str, ddE]; omega
  | .snd e => by have := dd_py e; simp only [Ex.d, dp_tup, dpa_cons, dpa_nil, dp_str, ddE]; omega
  | .op _ f e => by have := dd_py f; have := dd_py e; simp only [Ex.d, dp_tup, dpa_cons, dpa_nil, dp_str, ddE]; omega
  | .nt e => by have := dd_py e; simp only [Ex.d, dp_tup, dpa_cons, dpa_nil, dp_str, ddE]; omega
  | .pr f e => by have := dd_py f; have := dd_py e; simp only [Ex.d, dp_tup, dpa_cons, dpa_nil, dp_str, ddE]; omega
  | .ask _ e => by have := dd_py e; simp only [Ex.d, dp_tup, dpa_cons, dpa_nil, dp_str, ddE]; omega
  | .hd e _ f cs => by have := dd_py f; have := dd_py e; have := dd_pyC cs; simp only [Ex.d, dp_tup, dpa_cons, dpa_nil, dp_str, ddE]; omega
theorem dd_pyC : ∀ c : Clz, PyData.depthAll (pys (c.d false)) ≤ ddC c
  | .nil => by simp only [Clz.d, dpa_nil, ddC]; omega
  | .cons _ _ _ g r => by have := dd_py g; have := dd_pyC r; simp only [Clz.d, dp_tup, dpa_cons, dpa_nil, dp_str, ddC]; omega
end
theorem and2 {a b : Bool} (q : (a && b) = true) : a = true ∧ b = true := by rw [Bool.and_eq_true] at q; exact q
theorem and2i {a b : Bool} (x : a = true) (y : b = true) : (a && b) = true := by rw [x, y]; rfl
mutual
theorem gd_sm : ∀ e : Ex, gdE e = true → smE e = true
  | .num _, _ => rfl | .flag _, _ => rfl | .unit, _ => rfl | .name _, _ => rfl
  | .call f e, h => and2i (gd_sm f (and2 h).1) (gd_sm e (and2 h).2)
  | .fn _ e, h => gd_sm e (and2 h).2 | .rc _ _ e, h => gd_sm e (and2 (and2 h).2).2
  | .lt _ f e, h => and2i (gd_sm f (and2 (and2 h).2).1) (gd_sm e (and2 (and2 h).2).2)
  | .ite e f g, h => and2i (gd_sm e (and2 h).1) (and2i (gd_sm f (and2 (and2 h).2).1) (gd_sm g (and2 (and2 h).2).2))
  | .pair f e, h => and2i (gd_sm f (and2 h).1) (gd_sm e (and2 h).2)
  | .fst e, h => gd_sm e h | .snd e, h => gd_sm e h
  | .op _ f e, h => and2i (gd_sm f (and2 (and2 h).2).1) (gd_sm e (and2 (and2 h).2).2)
  | .nt e, h => gd_sm e h
  | .pr f e, h => and2i (gd_sm f (and2 h).1) (gd_sm e (and2 h).2)
  | .ask _ e, h => gd_sm e (and2 h).2
  | .hd e _ f cs, h => and2i (and2 h).1 (and2i (gd_sm e (and2 (and2 (and2 h).2).2).1) (and2i (gd_sm f (and2 (and2 (and2 (and2 h).2).2).2).1) (gd_smC cs (and2 (and2 (and2 (and2 h).2).2).2).2)))
theorem gd_smC : ∀ c : Clz, gdC c = true → smC c = true
  | .nil, _ => rfl
  | .cons _ _ _ g r, h => and2i (gd_sm g (and2 (and2 (and2 (and2 h).2).2).2).1) (gd_smC r (and2 (and2 (and2 (and2 h).2).2).2).2)
end
theorem gdC_gs : ∀ {c : Clz} {g : Ex}, gdC c = true → g ∈ c.gs → gdE g = true
  | .nil, g, _, h => by cases h
  | .cons _ _ _ g r, g', h, hm => by
    rcases List.mem_cons.mp hm with e | hm
    · rw [e]; exact (and2 (and2 (and2 (and2 h).2).2).2).1
    · exact gdC_gs (and2 (and2 (and2 (and2 h).2).2).2).2 hm
theorem gd_part {e g : Ex} (h : gdE e = true) (hg : g ∈ exParts e) : gdE g = true := by
  cases e with
  | num _ => cases hg
  | flag _ => cases hg
  | unit => cases hg
  | name _ => cases hg
  | call f e => rcases List.mem_cons.mp hg with q | hg
                · rw [q]; exact (and2 h).1
                · rw [List.mem_singleton.mp hg]; exact (and2 h).2
  | fn x e => rw [List.mem_singleton.mp hg]; exact (and2 h).2
  | rc y x e => rw [List.mem_singleton.mp hg]; exact (and2 (and2 h).2).2
  | lt x f e => rcases List.mem_cons.mp hg with q | hg
                · rw [q]; exact (and2 (and2 h).2).1
                · rw [List.mem_singleton.mp hg]; exact (and2 (and2 h).2).2
  | ite a b c => rcases List.mem_cons.mp hg with q | hg
                 · rw [q]; exact (and2 h).1
                 rcases List.mem_cons.mp hg with q | hg
                 · rw [q]; exact (and2 (and2 h).2).1
                 · rw [List.mem_singleton.mp hg]; exact (and2 (and2 h).2).2
  | pair f e => rcases List.mem_cons.mp hg with q | hg
                · rw [q]; exact (and2 h).1
                · rw [List.mem_singleton.mp hg]; exact (and2 h).2
  | fst e => rw [List.mem_singleton.mp hg]; exact h
  | snd e => rw [List.mem_singleton.mp hg]; exact h
  | op s f e => rcases List.mem_cons.mp hg with q | hg
                · rw [q]; exact (and2 (and2 h).2).1
                · rw [List.mem_singleton.mp hg]; exact (and2 (and2 h).2).2
  | nt e => rw [List.mem_singleton.mp hg]; exact h
  | pr f e => rcases List.mem_cons.mp hg with q | hg
              · rw [q]; exact (and2 h).1
              · rw [List.mem_singleton.mp hg]; exact (and2 h).2
  | ask s e => rw [List.mem_singleton.mp hg]; exact (and2 h).2
  | hd e x f cs =>
    have h := (and2 (and2 h).2).2
    rcases List.mem_cons.mp hg with q | hg
    · rw [q]; exact (and2 h).1
    rcases List.mem_cons.mp hg with q | hg
    · rw [q]; exact (and2 (and2 h).2).1
    · exact gdC_gs (and2 (and2 h).2).2 hg
theorem gd_pre : ∀ (n : Nat) {e g : Ex}, exD e ≤ n → gdE e = true → g ∈ pre e → gdE g = true
  | 0, e, g, h, _, _ => absurd h (by have := ex_pos e; omega)
  | n + 1, e, g, h, ok, hg => by
    rw [pre_flat e] at hg
    rcases List.mem_cons.mp hg with q | hg
    · rw [q]; exact ok
    · obtain ⟨p, hp, hm⟩ := List.mem_flatMap.mp hg
      exact gd_pre n (by have := (part_mem hp).1; omega) (gd_part ok hp) hm
theorem ddC_gs : ∀ {c : Clz} {g : Ex}, g ∈ c.gs → ddE g ≤ ddC c
  | .nil, g, h => by cases h
  | .cons _ _ _ g r, g', h => by
    show ddE g' ≤ max (ddE g + 1) (ddC r)
    rcases List.mem_cons.mp h with e | h
    · rw [e]; exact Nat.le_trans (Nat.le_succ _) (Nat.le_max_left _ _)
    · exact Nat.le_trans (ddC_gs h) (Nat.le_max_right _ _)
theorem dd_part {e g : Ex} (hg : g ∈ exParts e) : ddE g ≤ ddE e := by
  cases e with
  | hd e x f cs =>
    show ddE g ≤ max (ddE e) (max (ddE f + 1) (ddC cs + 1)) + 1
    rcases List.mem_cons.mp hg with q | hg
    · rw [q]; omega
    rcases List.mem_cons.mp hg with q | hg
    · rw [q]; omega
    · have := ddC_gs hg; omega
  | ite a b c =>
    show ddE g ≤ max (ddE a) (max (ddE b) (ddE c)) + 1
    simp only [exParts, List.mem_cons, List.not_mem_nil, or_false] at hg
    rcases hg with q | q | q <;> rw [q] <;> omega
  | num _ => cases hg
  | flag _ => cases hg
  | unit => cases hg
  | name _ => cases hg
  | _ =>
    simp only [exParts, List.mem_cons, List.not_mem_nil, or_false] at hg
    first
      | (rcases hg with q | q <;> rw [q] <;> simp only [ddE, Nat.max_def] <;> split <;> omega)
      | (rw [hg]; exact Nat.le_succ _)
theorem dd_pre : ∀ (n : Nat) {e g : Ex}, exD e ≤ n → g ∈ pre e → ddE g ≤ ddE e
  | 0, e, g, h, _ => absurd h (by have := ex_pos e; omega)
  | n + 1, e, g, h, hg => by
    rw [pre_flat e] at hg
    rcases List.mem_cons.mp hg with q | hg
    · rw [q]; exact Nat.le_refl _
    · obtain ⟨p, hp, hm⟩ := List.mem_flatMap.mp hg
      exact Nat.le_trans (dd_pre n (by have := (part_mem hp).1; omega) hm) (dd_part hp)
mutual
theorem gd_occ (x : Str) : ∀ e : Ex, gdE e = true → occ e x = true → okNm x = true
  | .num _, _, o => by cases o
  | .flag _, _, o => by cases o
  | .unit, _, o => by cases o
  | .name y, h, o => by rw [of_decide_eq_true o]; exact h
  | .call f e, h, o => by
    rcases Bool.or_eq_true .. ▸ o with o | o
    · exact gd_occ x f (and2 h).1 o
    · exact gd_occ x e (and2 h).2 o
  | .fn _ e, h, o => gd_occ x e (and2 h).2 (and2 o).2
  | .rc _ _ e, h, o => gd_occ x e (and2 (and2 h).2).2 (and2 o).2
  | .lt _ f e, h, o => by
    rcases Bool.or_eq_true .. ▸ o with o | o
    · exact gd_occ x f (and2 (and2 h).2).1 o
    · exact gd_occ x e (and2 (and2 h).2).2 (and2 o).2
  | .ite a b c, h, o => by
    rcases Bool.or_eq_true .. ▸ o with o | o
    · exact gd_occ x a (and2 h).1 o
    rcases Bool.or_eq_true .. ▸ o with o | o
    · exact gd_occ x b (and2 (and2 h).2).1 o
    · exact gd_occ x c (and2 (and2 h).2).2 o
  | .pair f e, h, o => by
    rcases Bool.or_eq_true .. ▸ o with o | o
    · exact gd_occ x f (and2 h).1 o
    · exact gd_occ x e (and2 h).2 o
  | .fst e, h, o => gd_occ x e h o
  | .snd e, h, o => gd_occ x e h o
  | .op _ f e, h, o => by
    rcases Bool.or_eq_true .. ▸ o with o | o
    · exact gd_occ x f (and2 (and2 h).2).1 o
    · exact gd_occ x e (and2 (and2 h).2).2 o
  | .nt e, h, o => gd_occ x e h o
  | .pr f e, h, o => by
    rcases Bool.or_eq_true .. ▸ o with o | o
    · exact gd_occ x f (and2 h).1 o
    · exact gd_occ x e (and2 h).2 o
  | .ask _ e, h, o => gd_occ x e (and2 h).2 o
  | .hd e _ f cs, h, o => by
    have h := (and2 (and2 h).2).2
    rcases Bool.or_eq_true .. ▸ o with o | o
    · exact gd_occ x e (and2 h).1 o
    rcases Bool.or_eq_true .. ▸ o with o | o
    · exact gd_occ x f (and2 (and2 h).2).1 (and2 o).2
    · exact gd_occC x cs (and2 (and2 h).2).2 o
theorem gd_occC (x : Str) : ∀ c : Clz, gdC c = true → occC c x = true → okNm x = true
  | .nil, _, o => by cases o
  | .cons _ _ _ g r, h, o => by
    have h := (and2 (and2 (and2 h).2).2).2
    rcases Bool.or_eq_true .. ▸ o with o | o
    · exact gd_occ x g (and2 h).1 (and2 o).2
    · exact gd_occC x r (and2 h).2 o
end
theorem nd_len {α : Type} [DecidableEq α] : ∀ {l m : List α}, l.Nodup → (∀ x ∈ l, x ∈ m) → l.length ≤ m.length
  | [], _, _, _ => Nat.zero_le _
  | x :: l, m, h, s => by
    obtain ⟨h1, h2⟩ := List.nodup_cons.mp h
    have hx := s x List.mem_cons_self
    have ih := nd_len (l := l) (m := m.erase x) h2 fun y hy => by
      have : y ≠ x := fun e => h1 (e ▸ hy)
      exact (List.mem_erase_of_ne this).mpr (s y (List.mem_cons_of_mem _ hy))
    rw [List.length_erase_of_mem hx] at ih
    have := List.length_pos_of_mem hx
    rw [List.length_cons]
    omega
theorem gd_few {e : Ex} (h : gdE e = true) : (noted e [] []).length < 64 := by
  have := nd_len (noted_nd e [] List.nodup_nil) (m := allN) fun x hx => by
    rcases (mem_noted x e [] []).mp hx with q | q
    · cases q
    · exact of_decide_eq_true (gd_occ x e h q.2)
  rw [allN_len] at this
  omega
theorem ly_tup {l : List D} : (D.tup l).py.canLay0 = PyData.canLayAll0 (pys l) := by show (PyData.tuple _).canLay0 = _; rw [PyData.canLay0]
theorem lya_nil : PyData.canLayAll0 (pys []) = true := by show PyData.canLayAll0 [] = _; rw [PyData.canLayAll0]
theorem lya_cons {d : D} {l : List D} : PyData.canLayAll0 (pys (d :: l)) = (d.py.canLay0 && PyData.canLayAll0 (pys l)) := by show PyData.canLayAll0 (_ :: _) = _; rw [PyData.canLayAll0]
theorem ly_int {s : Int} : (D.int s).py.canLay0 = true := by show (PyData.int s).canLay0 = _; rw [PyData.canLay0]
theorem ly_bl {s : Bool} : (D.bl s).py.canLay0 = true := by show (PyData.bool s).canLay0 = _; rw [PyData.canLay0]
theorem ly_str {s : Str} (h : (PyData.str s).canLay0 = true) : (D.str s).py.canLay0 = true := h
theorem tg {s : Str} (h : (PyData.str s).canLay0 = true := by decide +kernel) : (D.str s).py.canLay0 = true := h
mutual
theorem gd_lay : ∀ e : Ex, gdE e = true → (e.d false).py.canLay0 = true
  | .num _, _ => by simp only [Ex.d, ly_tup, lya_cons, lya_nil, tg (s := "num"), ly_int, Bool.and_true]
  | .flag _, _ => by simp only [Ex.d, ly_tup, lya_cons, lya_nil, tg (s := "flag"), ly_bl, Bool.and_true]
  | .unit, _ => by simp only [Ex.d, ly_tup, lya_cons, lya_nil, tg (s := "unit"), Bool.and_true]
  | .name _, h => by simp only [Ex.d, ly_tup, lya_cons, lya_nil, tg (s := "name"), ly_str (okNm_lay h), Bool.and_true]
  | .call f e, h => by simp only [Ex.d, ly_tup, lya_cons, lya_nil, tg (s := "call"), gd_lay f (and2 h).1, gd_lay e (and2 h).2, Bool.and_true]
  | .fn _ e, h => by simp only [Ex.d, ly_tup, lya_cons, lya_nil, tg (s := "fun"), ly_str (okNm_lay (and2 h).1), gd_lay e (and2 h).2, Bool.and_true, Bool.false_eq_true, if_false]
  | .rc _ _ e, h => by simp only [Ex.d, ly_tup, lya_cons, lya_nil, tg (s := "rec"), ly_str (okNm_lay (and2 h).1), ly_str (okNm_lay (and2 (and2 h).2).1), gd_lay e (and2 (and2 h).2).2, Bool.and_true, Bool.false_eq_true, if_false]
  | .lt _ f e, h => by simp only [Ex.d, ly_tup, lya_cons, lya_nil, tg (s := "let"), ly_str (okNm_lay (and2 h).1), gd_lay f (and2 (and2 h).2).1, gd_lay e (and2 (and2 h).2).2, Bool.and_true]
  | .ite a b c, h => by simp only [Ex.d, ly_tup, lya_cons, lya_nil, tg (s := "if"), gd_lay a (and2 h).1, gd_lay b (and2 (and2 h).2).1, gd_lay c (and2 (and2 h).2).2, Bool.and_true]
  | .pair f e, h => by simp only [Ex.d, ly_tup, lya_cons, lya_nil, tg (s := "pair"), gd_lay f (and2 h).1, gd_lay e (and2 h).2, Bool.and_true]
  | .fst e, h => by simp only [Ex.d, ly_tup, lya_cons, lya_nil, tg (s := "fst"), gd_lay e h, Bool.and_true]
  | .snd e, h => by simp only [Ex.d, ly_tup, lya_cons, lya_nil, tg (s := "snd"), gd_lay e h, Bool.and_true]
  | .op _ f e, h => by simp only [Ex.d, ly_tup, lya_cons, lya_nil, tg (s := "op"), ly_str (and2 h).1, gd_lay f (and2 (and2 h).2).1, gd_lay e (and2 (and2 h).2).2, Bool.and_true]
  | .nt e, h => by simp only [Ex.d, ly_tup, lya_cons, lya_nil, tg (s := "not"), gd_lay e h, Bool.and_true]
  | .pr f e, h => by simp only [Ex.d, ly_tup, lya_cons, lya_nil, tg (s := "print"), gd_lay f (and2 h).1, gd_lay e (and2 h).2, Bool.and_true]
  | .ask _ e, h => by simp only [Ex.d, ly_tup, lya_cons, lya_nil, tg (s := "ask"), ly_str (and2 h).1, gd_lay e (and2 h).2, Bool.and_true]
  | .hd e _ f cs, h => by
    have h := (and2 h).2
    simp only [Ex.d, ly_tup, lya_cons, lya_nil, tg (s := "handle"), ly_str (okNm_lay (and2 h).1), gd_lay e (and2 (and2 h).2).1, gd_lay f (and2 (and2 (and2 h).2).2).1, gd_layC cs (and2 (and2 (and2 h).2).2).2, Bool.and_true]
theorem gd_layC : ∀ c : Clz, gdC c = true → PyData.canLayAll0 (pys (c.d false)) = true
  | .nil, _ => by simp only [Clz.d, lya_nil]
  | .cons _ _ _ g r, h => by
    simp only [Clz.d, ly_tup, lya_cons, lya_nil, ly_str (and2 h).1, ly_str (okNm_lay (and2 (and2 h).2).1), ly_str (okNm_lay (and2 (and2 (and2 h).2).2).1), gd_lay g (and2 (and2 (and2 (and2 h).2).2).2).1, gd_layC r (and2 (and2 (and2 (and2 h).2).2).2).2, Bool.and_true]
end
theorem gd_nmC : ∀ {c : Clz}, gdC c = true → nmC c = true
  | .nil, _ => rfl
  | .cons _ _ _ g r, h => and2i (okNm_lay (and2 (and2 (and2 h).2).2).1) (gd_nmC (and2 (and2 (and2 (and2 h).2).2).2).2)
theorem gd_nmE {e : Ex} (h : gdE e = true) : nmE e = true := by
  cases e with
  | hd e x f cs => exact gd_nmC (and2 (and2 (and2 (and2 h).2).2).2).2
  | _ => rfl
/-- an expression that is drawn: its depth and its size at most -/
structure Tr (e : Ex) (a b : Nat) : Prop where
  d : ddE e ≤ a
  n : exN e ≤ b
  g : gdE e = true
theorem Tr.ok {e : Ex} {a b : Nat} (h : Tr e a b) (ha : a ≤ 60) (hb : b ≤ 1000000) : okS 60 e ∧ ∀ g ∈ pre e, nmE g = true := by
  have hd : exD e ≤ 60 := Nat.le_trans (dd_ex e) (Nat.le_trans h.d ha)
  refine ⟨⟨hd, gd_sm e h.g, Nat.le_trans h.n hb, fun g hg => gd_few (gd_pre 60 hd h.g hg), fun g hg => ?_⟩, fun g hg => gd_nmE (gd_pre 60 hd h.g hg)⟩
  refine and2i (gd_lay g (gd_pre 60 hd h.g hg)) (decide_eq_true ?_)
  exact Nat.le_trans (dd_py g) (Nat.le_trans (dd_pre 60 hd hg) (by have := h.d; omega))
theorem Tr.mono {e : Ex} {a b c d : Nat} (h : Tr e a b) (x : a ≤ c) (y : b ≤ d) : Tr e c d := ⟨Nat.le_trans h.d x, Nat.le_trans h.n y, h.g⟩
theorem mx {a b c : Nat} (x : a ≤ c) (y : b ≤ c) : max a b + 1 ≤ c + 1 := Nat.succ_le_succ (Nat.max_le.mpr ⟨x, y⟩)
theorem Tr.num {n : Int} : Tr (.num n) 1 1 := ⟨Nat.le_refl _, Nat.le_refl _, rfl⟩
theorem Tr.flag {n : Bool} : Tr (.flag n) 1 1 := ⟨Nat.le_refl _, Nat.le_refl _, rfl⟩
theorem Tr.unit : Tr .unit 1 1 := ⟨Nat.le_refl _, Nat.le_refl _, rfl⟩
theorem Tr.name {x : Str} (h : okNm x = true) : Tr (.name x) 1 1 := ⟨Nat.le_refl _, Nat.le_refl _, h⟩
section
variable {e f g : Ex} {a b c d : Nat} {x y : Str}
theorem Tr.call (p : Tr f a b) (q : Tr e a c) : Tr (.call f e) (a + 1) (b + c + 1) := ⟨mx p.d q.d, Nat.succ_le_succ (Nat.add_le_add p.n q.n), and2i p.g q.g⟩
theorem Tr.pair (p : Tr f a b) (q : Tr e a c) : Tr (.pair f e) (a + 1) (b + c + 1) := ⟨mx p.d q.d, Nat.succ_le_succ (Nat.add_le_add p.n q.n), and2i p.g q.g⟩
theorem Tr.pr (p : Tr f a b) (q : Tr e a c) : Tr (.pr f e) (a + 1) (b + c + 1) := ⟨mx p.d q.d, Nat.succ_le_succ (Nat.add_le_add p.n q.n), and2i p.g q.g⟩
theorem Tr.op (h : (PyData.str x).canLay0 = true) (p : Tr f a b) (q : Tr e a c) : Tr (.op x f e) (a + 1) (b + c + 1) := ⟨mx p.d q.d, Nat.succ_le_succ (Nat.add_le_add p.n q.n), and2i h (and2i p.g q.g)⟩
theorem Tr.lt (h : okNm x = true) (p : Tr f a b) (q : Tr e a c) : Tr (.lt x f e) (a + 1) (b + c + 1) := ⟨mx p.d q.d, Nat.succ_le_succ (Nat.add_le_add p.n q.n), and2i h (and2i p.g q.g)⟩
theorem Tr.ite (p : Tr e a b) (q : Tr f a c) (r : Tr g a d) : Tr (.ite e f g) (a + 1) (b + (c + d) + 1) := ⟨Nat.succ_le_succ (Nat.max_le.mpr ⟨p.d, Nat.max_le.mpr ⟨q.d, r.d⟩⟩), Nat.succ_le_succ (Nat.add_le_add p.n (Nat.add_le_add q.n r.n)), and2i p.g (and2i q.g r.g)⟩
theorem Tr.fn (h : okNm x = true) (p : Tr f a b) : Tr (.fn x f) (a + 1) (b + 1) := ⟨Nat.succ_le_succ p.d, Nat.succ_le_succ p.n, and2i h p.g⟩
theorem Tr.rc (h : okNm y = true) (h2 : okNm x = true) (p : Tr f a b) : Tr (.rc y x f) (a + 1) (b + 1) := ⟨Nat.succ_le_succ p.d, Nat.succ_le_succ p.n, and2i h (and2i h2 p.g)⟩
theorem Tr.fst (p : Tr f a b) : Tr (.fst f) (a + 1) (b + 1) := ⟨Nat.succ_le_succ p.d, Nat.succ_le_succ p.n, p.g⟩
theorem Tr.snd (p : Tr f a b) : Tr (.snd f) (a + 1) (b + 1) := ⟨Nat.succ_le_succ p.d, Nat.succ_le_succ p.n, p.g⟩
theorem Tr.nt (p : Tr f a b) : Tr (.nt f) (a + 1) (b + 1) := ⟨Nat.succ_le_succ p.d, Nat.succ_le_succ p.n, p.g⟩
theorem Tr.ask (h : (PyData.str x).canLay0 = true) (p : Tr f a b) : Tr (.ask x f) (a + 1) (b + 1) := ⟨Nat.succ_le_succ p.d, Nat.succ_le_succ p.n, and2i h p.g⟩
end
/-- clauses that are drawn -/
structure TrC (cs : Clz) (a b : Nat) : Prop where
  d : ddC cs ≤ a
  n : clN cs ≤ b
  g : gdC cs = true
theorem TrC.nil : TrC .nil 0 0 := ⟨Nat.le_refl _, Nat.le_refl _, rfl⟩
theorem TrC.mono {e : Clz} {a b c d : Nat} (h : TrC e a b) (x : a ≤ c) (y : b ≤ d) : TrC e c d := ⟨Nat.le_trans h.d x, Nat.le_trans h.n y, h.g⟩
def Clz.snoc : Clz → Str → Str → Str → Ex → Clz
  | .nil, o, x, k, g => .cons o x k g .nil
  | .cons o x k g r, o', x', k', g' => .cons o x k g (r.snoc o' x' k' g')
theorem snoc_d : ∀ (c : Clz) (o x k : Str) (g : Ex), (c.snoc o x k g).d false = c.d false ++ [D.tup [.str o, .str x, .str k, g.d false]]
  | .nil, _, _, _, _ => rfl
  | .cons o x k g r, o', x', k', g' => by
    show _ :: (r.snoc o' x' k' g').d false = _
    rw [snoc_d r]
    rfl
theorem snoc_len : ∀ (c : Clz) (o x k : Str) (g : Ex), (c.snoc o x k g).len = c.len + 1
  | .nil, _, _, _, _ => rfl
  | .cons o x k g r, o', x', k', g' => congrArg (· + 1) (snoc_len r o' x' k' g')
theorem TrC.snoc : ∀ {cs : Clz} {a b c : Nat} {o x k : Str} {g : Ex}, TrC cs (a + 1) b → (PyData.str o).canLay0 = true → okNm x = true → okNm k = true → Tr g a c → TrC (cs.snoc o x k g) (a + 1) (b + c)
  | .nil, a, b, c, o, x, k, g, h, ho, hx, hk, hg => ⟨Nat.max_le.mpr ⟨Nat.succ_le_succ hg.d, Nat.zero_le _⟩, by show exN g + 0 ≤ b + c; have := hg.n; omega, and2i ho (and2i hx (and2i hk (and2i hg.g rfl)))⟩
  | .cons o x k g r, a, b, c, o', x', k', g', h, ho, hx, hk, hg => by
    have h2 := (and2 (and2 (and2 (and2 h.g).2).2).2).2
    have hd := Nat.max_le.mp h.d
    have hn : exN g + clN r ≤ b := h.n
    have ih := TrC.snoc (cs := r) (b := b - exN g) ⟨hd.2, by omega, h2⟩ ho hx hk hg
    refine ⟨Nat.max_le.mpr ⟨hd.1, ih.d⟩, ?_, and2i (and2 h.g).1 (and2i (and2 (and2 h.g).2).1 (and2i (and2 (and2 (and2 h.g).2).2).1 (and2i (and2 (and2 (and2 (and2 h.g).2).2).2).1 ih.g)))⟩
    have := ih.n
    show exN g + clN (r.snoc o' x' k' g') ≤ b + c
    omega
theorem Tr.hd {e f : Ex} {cs : Clz} {x : Str} {a b c d : Nat} (h : okNm x = true) (hl : cs.len ≤ 900) (p : Tr e (a + 1) b) (q : Tr f a c) (r : TrC cs a d) : Tr (.hd e x f cs) (a + 2) (b + (c + d) + 1) :=
  ⟨Nat.succ_le_succ (Nat.max_le.mpr ⟨p.d, Nat.max_le.mpr ⟨Nat.succ_le_succ q.d, Nat.succ_le_succ r.d⟩⟩), Nat.succ_le_succ (Nat.add_le_add p.n (Nat.add_le_add q.n r.n)), and2i (decide_eq_true hl) (and2i h (and2i p.g (and2i q.g r.g)))⟩
end Bz


set_option Elab.async false
set_option linter.all false
set_option maxRecDepth 100000
set_option maxHeartbeats 4000000
namespace Bz
open PySem PySem.Spec L2 PyProof.Rows
/-! ### what is known when an expression is drawn -/
def knD (p : Str × Kd) : D := .tup [.str p.1, p.2.d]
def okKn (l : List (Str × Kd)) : Prop := ∀ p ∈ l, okNm p.1 = true ∧ p.2.dp ≤ 20
theorem okKn.snoc {l : List (Str × Kd)} (h : okKn l) {x : Str} {κ : Kd} (a : okNm x = true) (b : κ.dp ≤ 20) : okKn (l ++ [(x, κ)]) := fun p hp => by
  rcases List.mem_append.mp hp with q | q
  · exact h p q
  · rw [List.mem_singleton.mp q]; exact ⟨a, b⟩
theorem kd_flat : ∀ κ : Kd, κ.d.flat = true
  | .int => rfl | .bool => rfl | .unit => rfl
  | .fn a b => by show (a.d.flat && (b.d.flat && true)) = true; rw [kd_flat a, kd_flat b]; rfl
  | .pair a b => by show (a.d.flat && (b.d.flat && true)) = true; rw [kd_flat a, kd_flat b]; rfl
theorem kd_lay : ∀ κ : Kd, κ.d.py.canLay0 = true
  | .int => by simp only [Kd.d, ly_tup, lya_cons, lya_nil, tg (s := "int"), Bool.and_true]
  | .bool => by simp only [Kd.d, ly_tup, lya_cons, lya_nil, tg (s := "bool"), Bool.and_true]
  | .unit => by simp only [Kd.d, ly_tup, lya_cons, lya_nil, tg (s := "unit"), Bool.and_true]
  | .fn a b => by simp only [Kd.d, ly_tup, lya_cons, lya_nil, tg (s := "fun"), kd_lay a, kd_lay b, Bool.and_true]
  | .pair a b => by simp only [Kd.d, ly_tup, lya_cons, lya_nil, tg (s := "pair"), kd_lay a, kd_lay b, Bool.and_true]
theorem kd_dep : ∀ κ : Kd, κ.d.py.depth ≤ κ.dp + 1
  | .int => by simp only [Kd.d, dp_tup, dpa_cons, dpa_nil, dp_str, Kd.dp]; omega
  | .bool => by simp only [Kd.d, dp_tup, dpa_cons, dpa_nil, dp_str, Kd.dp]; omega
  | .unit => by simp only [Kd.d, dp_tup, dpa_cons, dpa_nil, dp_str, Kd.dp]; omega
  | .fn a b => by have := kd_dep a; have := kd_dep b; simp only [Kd.d, dp_tup, dpa_cons, dpa_nil, dp_str]; show _ ≤ max a.dp b.dp + 1 + 1; omega
  | .pair a b => by have := kd_dep a; have := kd_dep b; simp only [Kd.d, dp_tup, dpa_cons, dpa_nil, dp_str]; show _ ≤ max a.dp b.dp + 1 + 1; omega
theorem kd_sh {κ : Kd} (h : κ.dp ≤ 40) : SeqAt.shaped κ.d.py = true := and2i (kd_lay κ) (decide_eq_true (Nat.le_trans (kd_dep κ) (by omega)))
theorem Wd.nf {R H : Hp} {s c L : Addr} (w : Wd R H s c) (h : H L = none) : ¬ Fst s c L := by
  obtain ⟨i, cs, h1, h2, _⟩ := w.st
  rintro (e | e)
  · rw [e, h1] at h; cases h
  · rw [e, h2] at h; cases h
theorem lit3 {R H : Hp} {vs : List V} {l : List D} (sub : Same R H) (a : Ats R l vs) {p : Addr} (np : H p = none) : ∃ R' : Hp, Mv F0 R H R' (upd H p (.lst vs)) ∧ At R' (.lst l) (.ref p) := ⟨_, mv_new sub np, .nlst sub np a⟩
def lfN : Nat → Nat
  | 0 => 1
  | n + 1 => 2 * lfN n + 1
theorem lfN_mono : ∀ {a b : Nat}, a ≤ b → lfN a ≤ lfN b
  | 0, 0, _ => Nat.le_refl _
  | 0, b + 1, _ => by have := lfN_mono (a := 0) (b := b) (Nat.zero_le _); show lfN 0 ≤ 2 * lfN b + 1; omega
  | a + 1, 0, h => absurd h (by omega)
  | a + 1, b + 1, h => by have := lfN_mono (a := a) (b := b) (by omega); show 2 * lfN a + 1 ≤ 2 * lfN b + 1; omega
/-- a list at a place that is not still, of drawn names -/
theorem kn_get {l : List (Str × Kd)} {i : Nat} {d : D} (h : (l.map knD)[i]? = some d) : ∃ p, p ∈ l ∧ d = knD p := by
  rw [List.getElem?_map] at h
  cases e : l[i]? with
  | none => rw [e] at h; cases h
  | some p => rw [e] at h; exact ⟨p, List.mem_of_getElem? e, (Option.some.inj h).symm⟩
theorem str_get {l : List Str} {i : Nat} (h : i < l.length) : (l.map V.str)[i]? = some (.str l[i]) := by rw [List.getElem?_map, List.getElem?_eq_getElem h]; rfl
section
variable {P : Program} {w : World} {K : PySem.W.Frag} {mg : Str → Option Value} {base : Heap}
abbrev g__law_leaf : Stmt := topS 17
abbrev n__law_leaf : List Str := ["state", "known", "wanted", "names", "pair", "name"]
abbrev p__law_leaf : List Str := ["state", "known", "wanted"]
theorem sc__law_leaf : FnScope n__law_leaf p__law_leaf (defScope g__law_leaf) := ⟨rfl, rfl, rfl, by decide +kernel, rfl, by decide +kernel, by decide +kernel⟩
def spLeaf (n : Nat) : Sp := fun vs H Q _ => ∃ (R : Hp) (s c : Addr) (kn : List (Str × Kd)) (κ : Kd) (vk vw : V), vs = [.ref s, vk, vw] ∧ Wd R H s c ∧ At R (.lst (kn.map knD)) vk ∧ At R κ.d vw ∧ okKn kn ∧ κ.dp < n ∧ kn.length + κ.dp ≤ 15 ∧
  ∀ (R' H' : Hp) (e : Ex) (v : V), Mv (Fst s c) R H R' H' → Wd R' H' s c → At R' (e.d false) v → Tr e (κ.dp + 1) (lfN κ.dp) → Q v H'
theorem ok_leaf0 {f : Addr} {fd : FuncData} (F : Fun K "_law_leaf" "_law_leaf" g__law_leaf f fd) : FnOk P w K mg base CX0 2 f fd p__law_leaf (spLeaf 0) := by
  refine F.ok (k := 1) sc__law_leaf (fun vs H Q E h => ?_) (fun cdv A outer st H vs Q E hr h => ?_)
  · obtain ⟨R, s, c, kn, κ, vk, vw, rfl, _⟩ := h
    rfl
  · obtain ⟨R, s, c, kn, κ, vk, vw, rfl, _, _, _, _, h, _⟩ := h
    exact absurd h (Nat.not_lt_zero _)
theorem ok_leaf {n : Nat} {f fT : Addr} {fd fdT : FuncData} (F : Fun K "_law_leaf" "_law_leaf" g__law_leaf f fd) (ml : mg "len" = none) (ms : mg "str" = none) (GT : Fn P w K mg base CX0 1 "_law_take" p__law_take spTake fT fdT)
    (GR : Fn P w K mg base CX0 (n + 2) "_law_leaf" p__law_leaf (spLeaf n) f fd) : FnOk P w K mg base CX0 (n + 3) f fd p__law_leaf (spLeaf (n + 1)) := by
  refine F.ok (k := n + 2) sc__law_leaf (fun vs H Q E h => ?_) (fun cdv A outer st H vs Q E hr h => ?_)
  · obtain ⟨R, s, c, kn, κ, vk, vw, rfl, _⟩ := h
    rfl
  · obtain ⟨R, s, c, kn, κ, vk, vw, rfl, w, ak, aw, okk, hd, hl, q⟩ := h
    refine ⟨_, (pss_cons (ps_setLc (i := 3) (own := [("pair", 4)]) (g := gName 4) (tt := tTest (tOp (rEqD K) (tOp (rIxT K) (tVar 4) (tC (.int 1))) (tVar 2))) (te := tOp (rIxT K) (tVar 4) (tC (.int 0))) rfl sc__law_leaf.nd rfl rfl (sw_true rfl rfl rfl (by decide +kernel)) (pi_list (pv 1)) (blkOk_by (N := n__law_leaf) (sc := defScope g__law_leaf) (by decide +kernel)) (fun _ _ _ _ _ => pg_name (i := 4) sc__law_leaf.nd rfl (Or.inl rfl)) (fun _ _ _ _ _ => pts_one (pt_cmpR (op_eqD hr.units) (pe_ix ix_tup (pv 4) pe_int (fun _ _ => rfl)) (pv 2) (nomark _))) (fun _ _ _ _ _ => pe_ix ix_tup (pv 4) pe_int (fun _ _ => rfl)))
      (C8.pss_cut (ps_if (PW.pt (pw_and (pt_cmpR op_gt (pe_callB call_len_seq (by rfl) ml PySem.boot_len (pa_cons (pv 3) pa_nil)) (pe_int) (nomark _)) (pw_and1 (pt_cmpR op_gt (pe_call GT.ok (hr.mono (by omega)) (by rfl) GT.g GT.kp GT.b .nil pass0 (pa_cons (pv 0) (pa_cons (pe_int) pa_nil))) (pe_int) (nomark _))))) (pss_one (ps_ret (pe_tup (pa_cons (pe_str) (pa_cons (pe_ix ix_list (pv 3) (pe_op op_sub (pe_op op_sub (pe_callB call_len_seq (by rfl) ml PySem.boot_len (pa_cons (pv 3) pa_nil)) (pe_int)) (pe_call GT.ok (hr.mono (by omega)) (by rfl) GT.g GT.kp GT.b .nil pass0 (pa_cons (pv 0) (pa_cons (pe_callB call_len_seq (by rfl) ml PySem.boot_len (pa_cons (pv 3) pa_nil)) pa_nil)))) (fun _ _ => rfl)) pa_nil))))) pss_nil)
      (pss_cons (ps_if (pt_cmpR op_eq (pe_ix ix_tup (pv 2) (pe_int) (fun _ _ => rfl)) (pe_str) (nomark _)) (pss_cons (ps_set (i := 5) sc__law_leaf.nd rfl (Or.inl rfl) (pe_op op_add_str (pe_str) (pe_callTy call_str_int (by rfl) ms (by decide +kernel) (pa_cons (pe_callB call_len_seq (by rfl) ml PySem.boot_len (pa_cons (pv 1) pa_nil)) pa_nil))))
      (pss_one (ps_ret (pe_tup (pa_cons (pe_str) (pa_cons (pv 5) (pa_cons (pe_call GR.ok hr (by rfl) GR.g GR.kp GR.b .nil pass0 (pa_cons (pv 0) (pa_cons (pe_op op_cat (pv 1) (pe_lst (pa_cons (pe_tup (pa_cons (pv 5) (pa_cons (pe_ix ix_tup (pv 2) (pe_int) (fun _ _ => rfl)) pa_nil))) pa_nil))) (pa_cons (pe_ix ix_tup (pv 2) (pe_int) (fun _ _ => rfl)) pa_nil)))) pa_nil))))))) pss_nil)
      (pss_cons (ps_if (pt_cmpR op_eq (pe_ix ix_tup (pv 2) (pe_int) (fun _ _ => rfl)) (pe_str) (nomark _)) (pss_one (ps_ret (pe_tup (pa_cons (pe_str) (pa_cons (pe_call GR.ok hr (by rfl) GR.g GR.kp GR.b .nil pass0 (pa_cons (pv 0) (pa_cons (pv 1) (pa_cons (pe_ix ix_tup (pv 2) (pe_int) (fun _ _ => rfl)) pa_nil)))) (pa_cons (pe_call GR.ok hr (by rfl) GR.g GR.kp GR.b .nil pass0 (pa_cons (pv 0) (pa_cons (pv 1) (pa_cons (pe_ix ix_tup (pv 2) (pe_int) (fun _ _ => rfl)) pa_nil)))) pa_nil)))))) pss_nil)
      (pss_cons (ps_if (pt_cmpR op_eq (pe_ix ix_tup (pv 2) (pe_int) (fun _ _ => rfl)) (pe_str) (nomark _)) (pss_one (ps_ret (pe_tup (pa_cons (pe_str) (pa_cons (pe_call GT.ok (hr.mono (by omega)) (by rfl) GT.g GT.kp GT.b .nil pass0 (pa_cons (pv 0) (pa_cons (pe_int) pa_nil))) pa_nil))))) pss_nil)
      (pss_cons (ps_if (pt_cmpR op_eq (pe_ix ix_tup (pv 2) (pe_int) (fun _ _ => rfl)) (pe_str) (nomark _)) (pss_one (ps_ret (pe_tup (pa_cons (pe_str) (pa_cons (pe_cmpR op_eq (pe_call GT.ok (hr.mono (by omega)) (by rfl) GT.g GT.kp GT.b .nil pass0 (pa_cons (pv 0) (pa_cons (pe_int) pa_nil))) (pe_int) (nomark _)) pa_nil))))) pss_nil)
      (pss_one (ps_ret (pe_tup (pa_cons (pe_str) pa_nil)))))))))), ?_⟩
    have mm : Mv (Fst s c) R H R H := .refl w.sub
    have bk : κ.dp ≤ 20 := by omega
    obtain ⟨pk, kvs, rfl, hk, ats⟩ := ak
    have lk := ats.length
    rw [List.length_map] at lk
    have ak : At R (.lst (kn.map knD)) (.ref pk) := ⟨pk, kvs, rfl, hk, ats⟩
    refine ⟨_, rfl, pk, rfl, ⟨_, SqL.of (w.sub _ _ hk)⟩, fun L nL => ?_⟩
    refine lc_list (K := K) (a := pk) (xs := kvs) (fun i H2 => ∃ ns : List Str, H2 = upd H L (.lst (ns.map V.str)) ∧ ns.length ≤ i ∧ ∀ y ∈ ns, okNm y = true) ⟨[], rfl, Nat.le_refl _, fun y h => by cases h⟩ (fun i H2 _ q => by obtain ⟨ns, rfl, _⟩ := q; exact SqL.of (same_new nL _ _ (w.sub _ _ hk))) ?_ ?_
    · rintro i y H2 hy ⟨ns, rfl, ll, hns⟩
      obtain ⟨dd, hdd, ad⟩ := ats.mem hy
      obtain ⟨p, hp, rfl⟩ := kn_get hdd
      obtain ⟨py, _, rfl, hpy, v1, _, rfl, a1, v2, _, rfl, a2, rfl⟩ := ad
      obtain rfl : v1 = .str p.1 := a1
      have li : i < kn.length := by
        have := (List.getElem?_eq_some_iff.mp hy).1
        omega
      have s2 : Same R (upd H L (.lst (ns.map V.str))) := w.sub.trans (same_new nL)
      refine ⟨rfl, _, rfl, py, _, 1, _, rfl, rfl, SqT.of (s2 _ _ hpy), rfl, _, rfl, _, _, At.dp s2 (kd_flat p.2) a2, At.dp s2 (kd_flat κ) aw, kd_sh (Nat.le_trans (okk p hp).2 (by decide)), kd_sh (by omega), _, rfl, ?_⟩
      by_cases he : PyData.eqv p.2.d.py κ.d.py = true
      · refine ifT he ?_
        refine ⟨_, rfl, py, _, 0, _, rfl, rfl, SqT.of (s2 _ _ hpy), rfl, _, upd_same, ?_, ns ++ [p.1], ?_, ?_, ?_⟩
        · rw [List.length_map]; exact Nat.lt_of_le_of_lt (by omega : ns.length ≤ 1000) (by decide)
        · rw [upd_twice, List.map_append]; rfl
        · rw [List.length_append]; exact Nat.succ_le_succ ll
        · intro y hy
          rcases List.mem_append.mp hy with q | q
          · exact hns y q
          · rw [List.mem_singleton.mp q]; exact (okk p hp).1
      · refine ifF (Bool.eq_false_iff.mpr he) ?_
        exact ⟨ns, rfl, Nat.le_succ_of_le ll, hns⟩
    rintro H2 ⟨ns, rfl, ll, hns⟩
    have w0 := w
    have m0 : Mv F0 R H R (upd H L (.lst (ns.map V.str))) := mv_mut w.sub nL
    have rL : R L = none := w.sub.free nL
    have hL : (upd H L (.lst (ns.map V.str))) L = some (.lst (ns.map V.str)) := upd_same
    have w := w.up0 m0
    have mm := mm.tr0 m0
    have nF : ¬ Fst s c L := w0.nf nL
    show gName 3 _ _ _ _
    refine ⟨fun σ' H' => σ' = [some (.ref s), some (.ref pk), some vw, some (.ref L), none, none] ∧ Mv (Fst s c) R H R H' ∧ Wd R H' s c, ?_, ?_⟩
    · refine ⟨_, rfl, L, _, rfl, .inl (SqL.of hL), _, _, rfl, rfl, _, rfl, ?_⟩
      by_cases h0 : 0 < ns.length
      · refine ifT (decide_eq_true (by rw [List.length_map]; exact Int.ofNat_lt.mpr h0)) ?_
        refine ⟨_, rfl, _, s, c, 4, rfl, by decide, by decide, w.sub, w.rs, w.rc, w.st, fun J1 z1 st1 c1 z10 z11 => ?_⟩
        have hL := c1.keep _ _ hL nF
        have mm := mm.tr c1
        have w := w.took c1 st1
        refine ⟨_, _, rfl, rfl, _, rfl, ?_⟩
        by_cases hz : 0 < z1
        · refine ifT (decide_eq_true hz) ?_
          have lm : (ns.map V.str).length = ns.length := List.length_map ..
          refine ⟨_, rfl, _, rfl, L, _, rfl, .inl (SqL.of hL), _, _, rfl, rfl, _, rfl, _, rfl, L, _, rfl, .inl (SqL.of hL), R, s, c, _, rfl, by omega, by omega, w.sub, w.rs, w.rc, w.st, fun J2 z2 st2 c2 z20 z21 => ?_⟩
          have hL := c2.keep _ _ hL nF
          have mm := mm.tr c2
          have w := w.took c2 st2
          obtain ⟨j, hj⟩ : ∃ j : Nat, z2 = (j : Int) := ⟨z2.toNat, by omega⟩
          rw [lm] at z21
          have hjl : ns.length - 1 - j < ns.length := by omega
          have hat : atI (ns.map V.str) (((ns.map V.str).length : Int) - 1 - z2) = some (.str ns[ns.length - 1 - j]) := by
            rw [show (((ns.map V.str).length : Int) - 1 - z2) = ((ns.length - 1 - j : Nat) : Int) by rw [lm]; omega]
            exact atI_nat (str_get hjl)
          refine ⟨_, _, rfl, rfl, L, _, _, _, rfl, rfl, SqL.of hL, hat, by show 2 ≤ sizeLine; decide, fun p1 n1 => ?_⟩
          obtain ⟨Q1, m1, a1⟩ := lit2 w.sub (l := [.str "name", .str ns[ns.length - 1 - j]]) ⟨_, _, rfl, at_str, _, _, rfl, at_str, rfl⟩ n1
          exact q _ _ (.name ns[ns.length - 1 - j]) _ (mm.tr0 m1) (w.up0 m1) a1 ((Tr.name (hns _ (List.getElem_mem _))).mono (Nat.le_add_left _ _) (lfN_mono (Nat.zero_le _)))
        · refine ifF (decide_eq_false hz) ?_
          exact ⟨rfl, mm, w⟩
      · refine ifF (decide_eq_false (by rw [List.length_map]; intro q; exact h0 (Int.ofNat_lt.mp q))) ?_
        exact ⟨rfl, mm, w⟩
    rintro σ' H' ⟨rfl, mm, w⟩
    cases κ with
    | int =>
      obtain ⟨pw, _, rfl, hw, v0, _, rfl, e0, rfl⟩ := aw
      obtain rfl : v0 = _ := e0
      refine ⟨_, rfl, pw, _, 0, _, rfl, rfl, SqT.of (w.sub _ _ hw), atI_nat (j := 0) rfl, rfl, _, rfl, ?_⟩
      refine isF (by decide +kernel) ?_
      refine ⟨_, rfl, pw, _, 0, _, rfl, rfl, SqT.of (w.sub _ _ hw), atI_nat (j := 0) rfl, rfl, _, rfl, ?_⟩
      refine isF (by decide +kernel) ?_
      refine ⟨_, rfl, pw, _, 0, _, rfl, rfl, SqT.of (w.sub _ _ hw), atI_nat (j := 0) rfl, rfl, _, rfl, ?_⟩
      refine ifT (decide_eq_true rfl) ?_
      refine ⟨_, rfl, _, s, c, 9, rfl, by decide, by decide, w.sub, w.rs, w.rc, w.st, fun J1 z1 st1 c1 z10 z11 => ?_⟩
      have w := w.took c1 st1
      have mm := mm.tr c1
      refine ⟨by show 2 ≤ sizeLine; decide, fun p2 n2 => ?_⟩
      obtain ⟨Q2, m2, ar⟩ := lit2 w.sub (l := [.str "num", .int z1]) ⟨_, _, rfl, at_str, _, _, rfl, at_int, rfl⟩ n2
      have w := w.up0 m2
      have mm := mm.tr0 m2
      have ak := ak.up m2.up
      have hw := m2.up _ _ hw
      exact q _ _ (.num z1) _ mm w ar (Tr.num.mono (Nat.le_refl _) (Nat.le_refl _))
    | bool =>
      obtain ⟨pw, _, rfl, hw, v0, _, rfl, e0, rfl⟩ := aw
      obtain rfl : v0 = _ := e0
      refine ⟨_, rfl, pw, _, 0, _, rfl, rfl, SqT.of (w.sub _ _ hw), atI_nat (j := 0) rfl, rfl, _, rfl, ?_⟩
      refine isF (by decide +kernel) ?_
      refine ⟨_, rfl, pw, _, 0, _, rfl, rfl, SqT.of (w.sub _ _ hw), atI_nat (j := 0) rfl, rfl, _, rfl, ?_⟩
      refine isF (by decide +kernel) ?_
      refine ⟨_, rfl, pw, _, 0, _, rfl, rfl, SqT.of (w.sub _ _ hw), atI_nat (j := 0) rfl, rfl, _, rfl, ?_⟩
      refine isF (by decide +kernel) ?_
      refine ⟨_, rfl, pw, _, 0, _, rfl, rfl, SqT.of (w.sub _ _ hw), atI_nat (j := 0) rfl, rfl, _, rfl, ?_⟩
      refine ifT (decide_eq_true rfl) ?_
      refine ⟨_, rfl, _, s, c, 2, rfl, by decide, by decide, w.sub, w.rs, w.rc, w.st, fun J1 z1 st1 c1 z10 z11 => ?_⟩
      have w := w.took c1 st1
      have mm := mm.tr c1
      refine ⟨rfl, by show 2 ≤ sizeLine; decide, fun p2 n2 => ?_⟩
      obtain ⟨Q2, m2, ar⟩ := lit2 w.sub (l := [.str "flag", .bl (decide (V.int z1 = V.int 1))]) ⟨_, _, rfl, at_str, _, _, rfl, at_bl, rfl⟩ n2
      have w := w.up0 m2
      have mm := mm.tr0 m2
      have ak := ak.up m2.up
      have hw := m2.up _ _ hw
      exact q _ _ (.flag _) _ mm w ar (Tr.flag.mono (Nat.le_refl _) (Nat.le_refl _))
    | unit =>
      obtain ⟨pw, _, rfl, hw, v0, _, rfl, e0, rfl⟩ := aw
      obtain rfl : v0 = _ := e0
      refine ⟨_, rfl, pw, _, 0, _, rfl, rfl, SqT.of (w.sub _ _ hw), atI_nat (j := 0) rfl, rfl, _, rfl, ?_⟩
      refine isF (by decide +kernel) ?_
      refine ⟨_, rfl, pw, _, 0, _, rfl, rfl, SqT.of (w.sub _ _ hw), atI_nat (j := 0) rfl, rfl, _, rfl, ?_⟩
      refine isF (by decide +kernel) ?_
      refine ⟨_, rfl, pw, _, 0, _, rfl, rfl, SqT.of (w.sub _ _ hw), atI_nat (j := 0) rfl, rfl, _, rfl, ?_⟩
      refine isF (by decide +kernel) ?_
      refine ⟨_, rfl, pw, _, 0, _, rfl, rfl, SqT.of (w.sub _ _ hw), atI_nat (j := 0) rfl, rfl, _, rfl, ?_⟩
      refine isF (by decide +kernel) ?_
      refine ⟨by show 1 ≤ sizeLine; decide, fun p1 n1 => ?_⟩
      obtain ⟨Q1, m1, ar⟩ := lit2 w.sub (l := [.str "unit"]) ⟨_, _, rfl, at_str, rfl⟩ n1
      have w := w.up0 m1
      have mm := mm.tr0 m1
      have ak := ak.up m1.up
      have hw := m1.up _ _ hw
      exact q _ _ .unit _ mm w ar (Tr.unit.mono (Nat.le_refl _) (Nat.le_refl _))
    | fn a b =>
      obtain ⟨pw, _, rfl, hw, v0, _, rfl, e0, v1, _, rfl, a1, v2, _, rfl, a2, rfl⟩ := aw
      obtain rfl : v0 = _ := e0
      have hd : Nat.max a.dp b.dp + 1 < n + 1 := hd
      have hl : kn.length + (Nat.max a.dp b.dp + 1) ≤ 15 := hl
      have hma : a.dp ≤ Nat.max a.dp b.dp := Nat.le_max_left _ _
      have hmb : b.dp ≤ Nat.max a.dp b.dp := Nat.le_max_right _ _
      refine ⟨_, rfl, pw, _, 0, _, rfl, rfl, SqT.of (w.sub _ _ hw), atI_nat (j := 0) rfl, rfl, _, rfl, ?_⟩
      refine ifT (decide_eq_true rfl) ?_
      have hnl : kn.length < 16 := by omega
      have ns := nm_small hnl
      refine ⟨_, rfl, pk, _, rfl, .inl (SqL.of (w.sub _ _ hk)), _, rfl, by rw [lk]; exact ns.1, _, _, rfl, rfl, by rw [lk]; exact ns.2.1, ?_⟩
      rw [lk]
      show gName 5 (.str (nmN "x" kn.length)) _ _ _
      refine ⟨_, rfl, _, rfl, _, rfl, _, rfl, _, rfl, pw, _, 1, _, rfl, rfl, SqT.of (w.sub _ _ hw), rfl, by show 2 ≤ sizeLine; decide, fun p2 n2 => ?_⟩
      obtain ⟨Q2, m2, at1⟩ := lit2 w.sub (l := [.str (nmN "x" kn.length), a.d]) ⟨_, _, rfl, at_str, _, _, rfl, a1, rfl⟩ n2
      have w := w.up0 m2
      have mm := mm.tr0 m2
      have ak := ak.up m2.up
      have a1 := a1.up m2.up
      have a2 := a2.up m2.up
      have hw := m2.up _ _ hw
      refine ⟨by show 1 ≤ sizeLine; decide, fun p3 n3 => ?_⟩
      obtain ⟨Q3, m3, al1⟩ := lit3 w.sub (l := [knD ((nmN "x" kn.length), a)]) ⟨_, _, rfl, at1, rfl⟩ n3
      have w := w.up0 m3
      have mm := mm.tr0 m3
      have ak := ak.up m3.up
      have a1 := a1.up m3.up
      have a2 := a2.up m3.up
      have at1 := at1.up m3.up
      have hw := m3.up _ _ hw
      obtain ⟨pa1, va1, ea1, ha1, ta1⟩ := id ak
      obtain ⟨pb1, vb1, eb1, hb1, tb1⟩ := id al1
      cases ea1; cases eb1
      have len4 := ta1.length
      rw [List.length_map] at len4
      have lem4 : vb1.length = 1 := tb1.length
      refine ⟨_, _, _, _, rfl, rfl, w.sub _ _ ha1, w.sub _ _ hb1, big3 (by omega), fun p4 n4 => ?_⟩
      obtain ⟨Q4, m4, ak2⟩ := lit3 w.sub (l := (kn ++ [((nmN "x" kn.length), a)]).map knD) (by rw [List.map_append]; exact ta1.append tb1) n4
      have w := w.up0 m4
      have mm := mm.tr0 m4
      have ak := ak.up m4.up
      have a1 := a1.up m4.up
      have a2 := a2.up m4.up
      have at1 := at1.up m4.up
      have al1 := al1.up m4.up
      have hw := m4.up _ _ hw
      refine ⟨_, rfl, pw, _, 2, _, rfl, rfl, SqT.of (w.sub _ _ hw), rfl, _, s, c, kn ++ [(nmN "x" kn.length, a)], b, _, _, rfl, w, ak2, a2, okk.snoc (okNm_x hnl) (by omega), by omega, by rw [List.length_append]; show kn.length + 1 + b.dp ≤ 15; omega, fun Q5 J5 e v m w ae te => ?_⟩
      have mm := mm.tr m
      have ak := ak.up m.up
      have a1 := a1.up m.up
      have a2 := a2.up m.up
      have at1 := at1.up m.up
      have al1 := al1.up m.up
      have ak2 := ak2.up m.up
      have hw := m.up _ _ hw
      refine ⟨by show 3 ≤ sizeLine; decide, fun p6 n6 => ?_⟩
      obtain ⟨Q6, m6, ar⟩ := lit2 w.sub (l := [.str "fun", .str (nmN "x" kn.length), e.d false]) ⟨_, _, rfl, at_str, _, _, rfl, at_str, _, _, rfl, ae, rfl⟩ n6
      have w := w.up0 m6
      have mm := mm.tr0 m6
      have ak := ak.up m6.up
      have a1 := a1.up m6.up
      have a2 := a2.up m6.up
      have at1 := at1.up m6.up
      have al1 := al1.up m6.up
      have ak2 := ak2.up m6.up
      have hw := m6.up _ _ hw
      exact q _ _ (.fn (nmN "x" kn.length) e) _ mm w ar ((Tr.fn (okNm_x hnl) te).mono (by show b.dp + 1 + 1 ≤ Nat.max a.dp b.dp + 1 + 1; omega) (by have := lfN_mono hmb; show lfN b.dp + 1 ≤ 2 * lfN (Nat.max a.dp b.dp) + 1; omega))
    | pair a b =>
      obtain ⟨pw, _, rfl, hw, v0, _, rfl, e0, v1, _, rfl, a1, v2, _, rfl, a2, rfl⟩ := aw
      obtain rfl : v0 = _ := e0
      have hd : Nat.max a.dp b.dp + 1 < n + 1 := hd
      have hl : kn.length + (Nat.max a.dp b.dp + 1) ≤ 15 := hl
      have hma : a.dp ≤ Nat.max a.dp b.dp := Nat.le_max_left _ _
      have hmb : b.dp ≤ Nat.max a.dp b.dp := Nat.le_max_right _ _
      refine ⟨_, rfl, pw, _, 0, _, rfl, rfl, SqT.of (w.sub _ _ hw), atI_nat (j := 0) rfl, rfl, _, rfl, ?_⟩
      refine isF (by decide +kernel) ?_
      refine ⟨_, rfl, pw, _, 0, _, rfl, rfl, SqT.of (w.sub _ _ hw), atI_nat (j := 0) rfl, rfl, _, rfl, ?_⟩
      refine ifT (decide_eq_true rfl) ?_
      refine ⟨_, rfl, _, rfl, _, rfl, pw, _, 1, _, rfl, rfl, SqT.of (w.sub _ _ hw), rfl, _, s, c, kn, a, _, _, rfl, w, ak, a1, okk, by omega, by omega, fun Q1 J1 e v m w ae te => ?_⟩
      have mm := mm.tr m
      have ak := ak.up m.up
      have a1 := a1.up m.up
      have a2 := a2.up m.up
      have hw := m.up _ _ hw
      refine ⟨_, rfl, _, rfl, _, rfl, pw, _, 2, _, rfl, rfl, SqT.of (w.sub _ _ hw), rfl, _, s, c, kn, b, _, _, rfl, w, ak, a2, okk, by omega, by omega, fun Q2 J2 f u m w af tf => ?_⟩
      have mm := mm.tr m
      have ak := ak.up m.up
      have a1 := a1.up m.up
      have a2 := a2.up m.up
      have ae := ae.up m.up
      have hw := m.up _ _ hw
      refine ⟨by show 3 ≤ sizeLine; decide, fun p3 n3 => ?_⟩
      obtain ⟨Q3, m3, ar⟩ := lit2 w.sub (l := [.str "pair", e.d false, f.d false]) ⟨_, _, rfl, at_str, _, _, rfl, ae, _, _, rfl, af, rfl⟩ n3
      have w := w.up0 m3
      have mm := mm.tr0 m3
      have ak := ak.up m3.up
      have a1 := a1.up m3.up
      have a2 := a2.up m3.up
      have ae := ae.up m3.up
      have hw := m3.up _ _ hw
      exact q _ _ (.pair e f) _ mm w ar ((Tr.pair (te.mono (c := Nat.max a.dp b.dp + 1) (by omega) (Nat.le_refl _)) (tf.mono (by omega) (Nat.le_refl _))).mono (Nat.le_refl _) (by have := lfN_mono hma; have := lfN_mono hmb; show lfN a.dp + lfN b.dp + 1 ≤ 2 * lfN (Nat.max a.dp b.dp) + 1; omega))
end
end Bz


set_option Elab.async false
set_option linter.all false
set_option maxRecDepth 100000
set_option maxHeartbeats 4000000
namespace Bz
open PySem PySem.Spec L2 PyProof.Rows
theorem Mv.freeze {F : Addr → Prop} {R H R1 H1 : Hp} {l : Addr} {o : HO} (m : Mv F R H R1 H1) (rR : R1 l = none) (hR : H1 l = some o) (nH : H l = none) : Mv F R H (upd R1 l o) H1 where
  keep := m.keep
  dom := m.dom
  up := m.up.trans (same_new rR)
  sub := fun b x e => by
    by_cases q : b = l
    · rw [q, upd_same] at e; rw [q, hR]; exact e
    · rw [upd_ne q] at e; exact m.sub b x e
  new := fun b x e => by
    by_cases q : b = l
    · rw [q]; exact .inr nH
    · rw [upd_ne q] at e; exact m.new b x e
theorem Wd.freeze {R1 H1 : Hp} {s c l : Addr} {o : HO} (w : Wd R1 H1 s c) (rR : R1 l = none) (hR : H1 l = some o) (nF : ¬ Fst s c l) : Wd (upd R1 l o) H1 s c where
  sub := fun b x e => by
    by_cases q : b = l
    · rw [q, upd_same] at e; rw [q, hR]; exact e
    · rw [upd_ne q] at e; exact w.sub b x e
  rs := by rw [upd_ne fun q => nF (.inl q.symm)]; exact w.rs
  rc := by rw [upd_ne fun q => nF (.inr q.symm)]; exact w.rc
  st := w.st
/-- an operation's row -/
def opD (r : Str × Kd × Kd) : D := .tup [.str r.1, r.2.1.d, r.2.2.d]
def opNames : List Str := ["get", "flip", "tell", "put"]
def plainK : List Kd := [.int, .bool, .unit, .pair .int .bool, .int]
theorem plain_get {z : Nat} (h : z < 5) : ∃ κ, plainK[z]? = some κ ∧ κ.dp ≤ 1 := by
  rcases (by omega : z = 0 ∨ z = 1 ∨ z = 2 ∨ z = 3 ∨ z = 4) with rfl | rfl | rfl | rfl | rfl <;> exact ⟨_, rfl, by decide⟩
theorem plain_d {z : Nat} {κ : Kd} (h : plainK[z]? = some κ) : (plainK.map Kd.d)[z]? = some κ.d := by rw [List.getElem?_map, h]; rfl
theorem opN_get {z : Nat} (h : z < 4) : ∃ x, opNames[z]? = some x ∧ x ∈ opNames := ⟨opNames[z], List.getElem?_eq_getElem h, List.getElem_mem _⟩
/-- the rows that are drawn -/
def okOp (r : Str × Kd × Kd) : Prop := r.1 ∈ opNames ∧ r.2.1.dp ≤ 1 ∧ r.2.2.dp ≤ 1
def okOps (l : List (Str × Kd × Kd)) : Prop := 1 ≤ l.length ∧ l.length ≤ 4 ∧ ∀ r ∈ l, okOp r
section
variable {P : Program} {w : World} {K : PySem.W.Frag} {mg : Str → Option Value} {base : Heap}
abbrev g__law_operations : Stmt := topS 16
abbrev n__law_operations : List Str := ["state", "plain", "names", "rows", "k"]
abbrev p__law_operations : List Str := ["state"]
theorem sc__law_operations : FnScope n__law_operations p__law_operations (defScope g__law_operations) := ⟨rfl, rfl, rfl, by decide +kernel, rfl, by decide +kernel, by decide +kernel⟩
def spOps : Sp := fun vs H Q _ => ∃ (R : Hp) (s c : Addr), vs = [.ref s] ∧ Wd R H s c ∧ ∀ (R' H' : Hp) (l : List (Str × Kd × Kd)) (v : V), Mv (Fst s c) R H R' H' → Wd R' H' s c → At R' (.lst (l.map opD)) v → okOps l → Q v H'
theorem ok_ops {f fT : Addr} {fd fdT : FuncData} (F : Fun K "_law_operations" "_law_operations" g__law_operations f fd) (mr : mg "range" = none) (GT : Fn P w K mg base CX0 1 "_law_take" p__law_take spTake fT fdT) : FnOk P w K mg base CX0 2 f fd p__law_operations spOps := by
  refine F.ok (k := 1) sc__law_operations (fun vs H Q E h => ?_) (fun cdv A outer st H vs Q E hr h => ?_)
  · obtain ⟨R, s, c, rfl, _⟩ := h
    rfl
  · obtain ⟨R, s, c, rfl, w, q⟩ := h
    refine ⟨_, (pss_cons (ps_set (i := 1) sc__law_operations.nd rfl (Or.inl rfl) (pe_lst (pa_cons (pe_tup (pa_cons (pe_str) pa_nil)) (pa_cons (pe_tup (pa_cons (pe_str) pa_nil)) (pa_cons (pe_tup (pa_cons (pe_str) pa_nil)) (pa_cons (pe_tup (pa_cons (pe_str) (pa_cons (pe_tup (pa_cons (pe_str) pa_nil)) (pa_cons (pe_tup (pa_cons (pe_str) pa_nil)) pa_nil)))) (pa_cons (pe_tup (pa_cons (pe_str) pa_nil)) pa_nil)))))))
      (pss_cons (ps_set (i := 2) sc__law_operations.nd rfl (Or.inl rfl) (pe_lst (pa_cons (pe_str) (pa_cons (pe_str) (pa_cons (pe_str) (pa_cons (pe_str) pa_nil))))))
      (pss_cons (ps_set (i := 3) sc__law_operations.nd rfl (Or.inl rfl) (pe_lst pa_nil))
      (pss_cons (ps_for PassesOwn.never rfl (pi_range1 rfl mr (pa_cons (pe_op op_add (pe_int) (pe_call GT.ok (hr.mono (by omega)) (by rfl) GT.g GT.kp GT.b .nil pass0 (pa_cons (pv 0) (pa_cons (pe_int) pa_nil)))) pa_nil)) (pg_name (i := 4) sc__law_operations.nd rfl (Or.inl rfl)) (pss_one (ps_expr (pe_bm PySem.F.plainAttrs_list PySem.F.slot_list_append PySem.F.type_list_append mt_append (pv 3) (pa_cons (pe_tup (pa_cons (pe_ix ix_list (pv 2) (pv 4) (fun _ _ => rfl)) (pa_cons (pe_ix ix_list (pv 1) (pe_call GT.ok (hr.mono (by omega)) (by rfl) GT.g GT.kp GT.b .nil pass0 (pa_cons (pv 0) (pa_cons (pe_int) pa_nil))) (fun _ _ => rfl)) (pa_cons (pe_ix ix_list (pv 1) (pe_call GT.ok (hr.mono (by omega)) (by rfl) GT.g GT.kp GT.b .nil pass0 (pa_cons (pv 0) (pa_cons (pe_int) pa_nil))) (fun _ _ => rfl)) pa_nil)))) pa_nil)))))
      (pss_one (ps_ret (pv 3))))))), ?_⟩
    have mm : Mv (Fst s c) R H R H := .refl w.sub
    refine ⟨by show 1 ≤ sizeLine; decide, fun p1 n1 => ?_⟩
    obtain ⟨Q1, m1, a1⟩ := lit2 w.sub (l := [.str "int"]) ⟨_, _, rfl, at_str, rfl⟩ n1
    have w := w.up0 m1
    have mm := mm.tr0 m1
    refine ⟨by show 1 ≤ sizeLine; decide, fun p2 n2 => ?_⟩
    obtain ⟨Q2, m2, a2⟩ := lit2 w.sub (l := [.str "bool"]) ⟨_, _, rfl, at_str, rfl⟩ n2
    have w := w.up0 m2
    have mm := mm.tr0 m2
    have a1 := a1.up m2.up
    refine ⟨by show 1 ≤ sizeLine; decide, fun p3 n3 => ?_⟩
    obtain ⟨Q3, m3, a3⟩ := lit2 w.sub (l := [.str "unit"]) ⟨_, _, rfl, at_str, rfl⟩ n3
    have w := w.up0 m3
    have mm := mm.tr0 m3
    have a1 := a1.up m3.up
    have a2 := a2.up m3.up
    refine ⟨by show 1 ≤ sizeLine; decide, fun p4 n4 => ?_⟩
    obtain ⟨Q4, m4, a4⟩ := lit2 w.sub (l := [.str "int"]) ⟨_, _, rfl, at_str, rfl⟩ n4
    have w := w.up0 m4
    have mm := mm.tr0 m4
    have a1 := a1.up m4.up
    have a2 := a2.up m4.up
    have a3 := a3.up m4.up
    refine ⟨by show 1 ≤ sizeLine; decide, fun p5 n5 => ?_⟩
    obtain ⟨Q5, m5, a5⟩ := lit2 w.sub (l := [.str "bool"]) ⟨_, _, rfl, at_str, rfl⟩ n5
    have w := w.up0 m5
    have mm := mm.tr0 m5
    have a1 := a1.up m5.up
    have a2 := a2.up m5.up
    have a3 := a3.up m5.up
    have a4 := a4.up m5.up
    refine ⟨by show 3 ≤ sizeLine; decide, fun p6 n6 => ?_⟩
    obtain ⟨Q6, m6, a6⟩ := lit2 w.sub (l := [.str "pair", .tup [.str "int"], .tup [.str "bool"]]) ⟨_, _, rfl, at_str, _, _, rfl, a4, _, _, rfl, a5, rfl⟩ n6
    have w := w.up0 m6
    have mm := mm.tr0 m6
    have a1 := a1.up m6.up
    have a2 := a2.up m6.up
    have a3 := a3.up m6.up
    have a4 := a4.up m6.up
    have a5 := a5.up m6.up
    refine ⟨by show 1 ≤ sizeLine; decide, fun p7 n7 => ?_⟩
    obtain ⟨Q7, m7, a7⟩ := lit2 w.sub (l := [.str "int"]) ⟨_, _, rfl, at_str, rfl⟩ n7
    have w := w.up0 m7
    have mm := mm.tr0 m7
    have a1 := a1.up m7.up
    have a2 := a2.up m7.up
    have a3 := a3.up m7.up
    have a4 := a4.up m7.up
    have a5 := a5.up m7.up
    have a6 := a6.up m7.up
    refine ⟨by show 5 ≤ sizeLine; decide, fun p8 n8 => ?_⟩
    obtain ⟨Q8, m8, aL⟩ := lit3 w.sub (l := plainK.map Kd.d) ⟨_, _, rfl, a1, _, _, rfl, a2, _, _, rfl, a3, _, _, rfl, a6, _, _, rfl, a7, rfl⟩ n8
    have w := w.up0 m8
    have mm := mm.tr0 m8
    have a1 := a1.up m8.up
    have a2 := a2.up m8.up
    have a3 := a3.up m8.up
    have a4 := a4.up m8.up
    have a5 := a5.up m8.up
    have a6 := a6.up m8.up
    have a7 := a7.up m8.up
    show gName 1 _ _ _ _
    refine ⟨by show 4 ≤ sizeLine; decide, fun p9 n9 => ?_⟩
    obtain ⟨Q9, m9, aN⟩ := lit3 w.sub (l := opNames.map D.str) ⟨_, _, rfl, at_str, _, _, rfl, at_str, _, _, rfl, at_str, _, _, rfl, at_str, rfl⟩ n9
    have w := w.up0 m9
    have mm := mm.tr0 m9
    have aL := aL.up m9.up
    show gName 2 _ _ _ _
    refine ⟨Nat.zero_le _, fun lR nR => ?_⟩
    have rR := w.sub.free nR
    have nH : H lR = none := mm.free nR
    have mR : Mv F0 _ _ _ _ := mv_mut (F := F0) (o := .lst []) w.sub nR
    have nF : ¬ Fst s c lR := w.nf nR
    have w := w.up0 mR
    have mm := mm.tr0 mR
    show gName 3 _ _ _ _
    refine ⟨_, rfl, _, s, c, 4, rfl, by decide, by decide, w.sub, w.rs, w.rc, w.st, fun J10 z10 st10 c10 z100 z101 => ?_⟩
    have w := w.took c10 st10
    have mm := mm.tr c10
    obtain ⟨j, rfl⟩ : ∃ j : Nat, z10 = (j : Int) := ⟨z10.toNat, by omega⟩
    refine ⟨_, _, rfl, rfl, ((1 + j : Nat) : Int), rfl, by omega, by omega, ?_⟩
    refine for_range (lo := 0) (n := 1 + j) (fun i σ H' => ∃ (R' : Hp) (l : List (Str × Kd × Kd)) (acc : List V) (z : Option V), σ = [some (.ref s), some (.ref p8), some (.ref p9), some (.ref lR), z] ∧ Mv (Fst s c) R H R' H' ∧ Wd R' H' s c ∧ R' lR = none ∧ H' lR = some (.lst acc) ∧ Ats R' (l.map opD) acc ∧ l.length = i ∧ (∀ r ∈ l, okOp r) ∧ At R' (.lst (plainK.map Kd.d)) (.ref p8) ∧ At R' (.lst (opNames.map D.str)) (.ref p9)) ?_ ?_ ?_
    · exact ⟨_, [], [], none, rfl, mm, w, rR, c10.keep _ _ upd_same nF, rfl, rfl, (fun r h => by cases h), aL, aN⟩
    · rintro i σ H' hi ⟨R1, l, acc, zz, rfl, mm, w, rR, hR, al, ll, hok, aL, aN⟩
      show gName 4 _ _ _ _
      rw [Int.zero_add]
      obtain ⟨x, hx, hxm⟩ := opN_get (z := i) (by omega)
      obtain ⟨pn, vn, en, hn, an⟩ := id aN
      cases en
      obtain ⟨xv, hxv, rfl⟩ := an.get (d := D.str x) (i := i) (by rw [List.getElem?_map, hx]; rfl)
      obtain ⟨pl, vl, el, hl, apl⟩ := id aL
      cases el
      refine ⟨_, rfl, .inl ⟨rfl, _, SqL.of hR⟩, _, rfl, _, rfl, _, _, _, _, rfl, rfl, SqL.of (w.sub _ _ hn), atI_nat hxv, ?_⟩
      refine ⟨_, rfl, _, rfl, _, s, c, 5, rfl, by decide, by decide, w.sub, w.rs, w.rc, w.st, fun J1 z1 st1 c1 z10 z11 => ?_⟩
      have w := w.took c1 st1
      have mm := mm.tr c1
      have hR := c1.keep _ _ hR nF
      obtain ⟨j1, rfl⟩ : ∃ j : Nat, z1 = (j : Int) := ⟨z1.toNat, by omega⟩
      obtain ⟨k1, hk1, d1⟩ := plain_get (z := j1) (by omega)
      obtain ⟨v1, hv1, a1⟩ := apl.get (plain_d hk1)
      refine ⟨_, _, _, _, rfl, rfl, SqL.of (w.sub _ _ hl), atI_nat hv1, ?_⟩
      refine ⟨_, rfl, _, rfl, _, s, c, 5, rfl, by decide, by decide, w.sub, w.rs, w.rc, w.st, fun J2 z2 st2 c2 z20 z21 => ?_⟩
      have w := w.took c2 st2
      have mm := mm.tr c2
      have hR := c2.keep _ _ hR nF
      obtain ⟨j2, rfl⟩ : ∃ j : Nat, z2 = (j : Int) := ⟨z2.toNat, by omega⟩
      obtain ⟨k2, hk2, d2⟩ := plain_get (z := j2) (by omega)
      obtain ⟨v2, hv2, a2⟩ := apl.get (plain_d hk2)
      refine ⟨_, _, _, _, rfl, rfl, SqL.of (w.sub _ _ hl), atI_nat hv2, ?_⟩
      refine ⟨by show 3 ≤ sizeLine; decide, fun p n => ?_⟩
      obtain ⟨R2, m3, a3⟩ := lit2 w.sub (l := [.str x, k1.d, k2.d]) ⟨_, _, rfl, at_str, _, _, rfl, a1, _, _, rfl, a2, rfl⟩ n
      have rR2 := m3.out rR hR
      have w := w.up0 m3
      have hR := m3.keep _ _ hR id
      have lal := al.length
      rw [List.length_map] at lal
      refine ⟨lR, _, _, rfl, rfl, hR, Nat.lt_of_le_of_lt (by omega : acc.length ≤ 1000) (by decide), ?_⟩
      have m4 : Mv (fun a => a = lR) R2 _ R2 _ := mv_at (o := .lst (acc ++ [.ref p])) w.sub rR2 hR rfl
      refine ⟨R2, l ++ [(x, k1, k2)], acc ++ [.ref p], _, rfl, (mm.tr0 m3).trans m4 (fun _ f => f) (fun y f => .inr (by rw [f]; exact nH)), ?_, rR2, upd_same, ?_, ?_, ?_, aL.up m3.up, aN.up m3.up⟩
      · exact ⟨m4.sub, w.rs, w.rc, w.st.stay m4 (fun e => nF (.inl e.symm)) (fun e => nF (.inr e.symm))⟩
      · rw [List.map_append]
        exact (al.up m3.up).append (Ats.one a3)
      · rw [List.length_append, ll]; rfl
      · intro r hr
        rcases List.mem_append.mp hr with q | q
        · exact hok r q
        · rw [List.mem_singleton.mp q]; exact ⟨hxm, d1, d2⟩
    rintro σ' H' ⟨R1, l, acc, zz, rfl, mm, w, rR, hR, al, ll, hok, aL, aN⟩
    -- the list stands still from here
    refine ⟨_, rfl, ?_⟩
    exact q _ _ l _ (mm.freeze rR hR nH) (w.freeze rR hR nF) ⟨lR, acc, rfl, upd_same, al.up (same_new rR)⟩ ⟨by omega, by omega, hok⟩
end
end Bz


set_option Elab.async false
set_option linter.all false
set_option maxRecDepth 100000
set_option maxHeartbeats 4000000
namespace Bz
open PySem PySem.Spec L2 PyProof.Rows
def trA (n : Nat) : Nat := 7 + 5 * n
def trB : Nat → Nat
  | 0 => 150
  | n + 1 => 8 * trB n
theorem trB_ge : ∀ n, 150 ≤ trB n
  | 0 => Nat.le_refl _
  | n + 1 => by have := trB_ge n; show 150 ≤ 8 * trB n; omega
theorem Tr.up {e : Ex} {a b n : Nat} (h : Tr e a b) (x : a ≤ 12 + 5 * n) (y : b ≤ 8 * trB n) : Tr e (trA (n + 1)) (trB (n + 1)) := h.mono (by show a ≤ 7 + 5 * (n + 1); omega) y
theorem Tr.fit {e : Ex} {a b c d : Nat} (h : Tr e a b) (x : a ≤ c) (y : b ≤ d) : Tr e c d := h.mono x y
theorem lf6 {a : Nat} (h : a ≤ 6) : lfN a ≤ 127 := lfN_mono h
theorem lf1 {a : Nat} (h : a ≤ 1) : lfN a ≤ 3 := lfN_mono h
/-- what a def that draws is given -/
structure Gin (R H : Hp) (s c : Addr) (ops : List (Str × Kd × Kd)) (kn : List (Str × Kd)) (κ : Kd) (vo vk vw : V) (n : Nat) : Prop where
  w : Wd R H s c
  ao : At R (.lst (ops.map opD)) vo
  oko : okOps ops
  ak : At R (.lst (kn.map knD)) vk
  okk : okKn kn
  aw : At R κ.d vw
  n4 : n ≤ 4
  kl : kn.length + 2 * n ≤ 8
  kd : κ.dp + n ≤ 6
def spTree (n : Nat) : Sp := fun vs H Q _ => ∃ (R : Hp) (s c : Addr) (ops : List (Str × Kd × Kd)) (kn : List (Str × Kd)) (κ : Kd) (vo vk vw : V) (d : Int), vs = [.ref s, vo, vk, vw, .int d] ∧ d ≤ (n : Int) ∧ Gin R H s c ops kn κ vo vk vw n ∧
  ∀ (R' H' : Hp) (e : Ex) (v : V), Mv (Fst s c) R H R' H' → Wd R' H' s c → At R' (e.d false) v → Tr e (trA n) (trB n) → Q v H'
def opl3 : List Str := ["+", "-", "*"]
def opl2 : List Str := ["<", "=="]
theorem opl3_get {z : Nat} (h : z < 3) : ∃ x, opl3[z]? = some x ∧ (PyData.str x).canLay0 = true := by
  rcases (by omega : z = 0 ∨ z = 1 ∨ z = 2) with rfl | rfl | rfl <;> exact ⟨_, rfl, by decide +kernel⟩
theorem opl2_get {z : Nat} (h : z < 2) : ∃ x, opl2[z]? = some x ∧ (PyData.str x).canLay0 = true := by
  rcases (by omega : z = 0 ∨ z = 1) with rfl | rfl <;> exact ⟨_, rfl, by decide +kernel⟩
section
variable {P : Program} {w : World} {K : PySem.W.Frag} {mg : Str → Option Value} {base : Heap}
abbrev g__law_special : Stmt := topS 18
abbrev n__law_special : List Str := ["state", "ops", "known", "wanted", "depth", "name", "one", "other"]
abbrev p__law_special : List Str := ["state", "ops", "known", "wanted", "depth"]
theorem sc__law_special : FnScope n__law_special p__law_special (defScope g__law_special) := ⟨rfl, rfl, rfl, by decide +kernel, rfl, by decide +kernel, by decide +kernel⟩
theorem ok_special {n : Nat} {f fT fL fK fV : Addr} {fd fdT fdL fdK fdV : FuncData} (F : Fun K "_law_special" "_law_special" g__law_special f fd) (ml : mg "len" = none) (ms : mg "str" = none) (GT : Fn P w K mg base CX0 1 "_law_take" p__law_take spTake fT fdT) (GL : Fn P w K mg base CX0 9 "_law_leaf" p__law_leaf (spLeaf 7) fL fdL)
    (GK : Fn P w K mg base CX0 4 "_law_kind" p__law_kind (spKind 2) fK fdK) (GV : Fn P w K mg base CX0 (10 + 3 * n) "_law_tree" ["state", "ops", "known", "wanted", "depth"] (spTree n) fV fdV) : FnOk P w K mg base CX0 (10 + 3 * n + 1) f fd p__law_special (spTree (n + 1)) := by
  refine F.ok (k := 10 + 3 * n) sc__law_special (fun vs H Q E h => ?_) (fun cdv A outer st H vs Q E hr h => ?_)
  · obtain ⟨R, s, c, ops, kn, κ, vo, vk, vw, d, rfl, _⟩ := h
    rfl
  · obtain ⟨R, s, c, ops, kn, κ, vo, vk, vw, d, rfl, hd, ⟨w, ao, oko, ak, okk, aw, n4, kl, kd⟩, q⟩ := h
    refine ⟨_, (pss_cons (ps_set (i := 5) sc__law_special.nd rfl (Or.inl rfl) (pe_op op_add_str (pe_str) (pe_callTy call_str_int (by rfl) ms (by decide +kernel) (pa_cons (pe_callB call_len_seq (by rfl) ml PySem.boot_len (pa_cons (pv 2) pa_nil)) pa_nil))))
      (pss_cons (ps_if (pt_cmpR op_eq (pe_ix ix_tup (pv 3) (pe_int) (fun _ _ => rfl)) (pe_str) (nomark _)) (pss_cons (ps_set (i := 6) sc__law_special.nd rfl (Or.inl rfl) (pe_call GV.ok hr (by rfl) GV.g GV.kp GV.b .nil pass0 (pa_cons (pv 0) (pa_cons (pv 1) (pa_cons (pv 2) (pa_cons (pv 3) (pa_cons (pe_op op_sub (pv 4) (pe_int)) pa_nil)))))))
      (pss_one (ps_ret (pe_tup (pa_cons (pe_str) (pa_cons (pe_ix ix_list (pe_lst (pa_cons (pe_str) (pa_cons (pe_str) (pa_cons (pe_str) pa_nil)))) (pe_call GT.ok (hr.mono (by omega)) (by rfl) GT.g GT.kp GT.b .nil pass0 (pa_cons (pv 0) (pa_cons (pe_int) pa_nil))) (fun _ _ => rfl)) (pa_cons (pv 6) (pa_cons (pe_call GV.ok hr (by rfl) GV.g GV.kp GV.b .nil pass0 (pa_cons (pv 0) (pa_cons (pv 1) (pa_cons (pv 2) (pa_cons (pv 3) (pa_cons (pe_op op_sub (pv 4) (pe_int)) pa_nil)))))) pa_nil)))))))) pss_nil)
      (pss_cons (ps_if (pt_cmpR op_eq (pe_ix ix_tup (pv 3) (pe_int) (fun _ _ => rfl)) (pe_str) (nomark _)) (pss_cons (ps_set (i := 6) sc__law_special.nd rfl (Or.inl rfl) (pe_call GV.ok hr (by rfl) GV.g GV.kp GV.b .nil pass0 (pa_cons (pv 0) (pa_cons (pv 1) (pa_cons (pv 2) (pa_cons (pe_tup (pa_cons (pe_str) pa_nil)) (pa_cons (pe_op op_sub (pv 4) (pe_int)) pa_nil)))))))
      (pss_cons (ps_if (pt_cmpR op_eq (pe_call GT.ok (hr.mono (by omega)) (by rfl) GT.g GT.kp GT.b .nil pass0 (pa_cons (pv 0) (pa_cons (pe_int) pa_nil))) (pe_int) (nomark _)) (pss_one (ps_ret (pe_tup (pa_cons (pe_str) (pa_cons (pe_call GV.ok hr (by rfl) GV.g GV.kp GV.b .nil pass0 (pa_cons (pv 0) (pa_cons (pv 1) (pa_cons (pv 2) (pa_cons (pv 3) (pa_cons (pe_op op_sub (pv 4) (pe_int)) pa_nil)))))) pa_nil))))) pss_nil)
      (pss_one (ps_ret (pe_tup (pa_cons (pe_str) (pa_cons (pe_ix ix_list (pe_lst (pa_cons (pe_str) (pa_cons (pe_str) pa_nil))) (pe_call GT.ok (hr.mono (by omega)) (by rfl) GT.g GT.kp GT.b .nil pass0 (pa_cons (pv 0) (pa_cons (pe_int) pa_nil))) (fun _ _ => rfl)) (pa_cons (pv 6) (pa_cons (pe_call GL.ok (hr.mono (by omega)) (by rfl) GL.g GL.kp GL.b .nil pass0 (pa_cons (pv 0) (pa_cons (pv 2) (pa_cons (pe_tup (pa_cons (pe_str) pa_nil)) pa_nil)))) pa_nil))))))))) pss_nil)
      (pss_cons (ps_if (pt_cmpR op_eq (pe_ix ix_tup (pv 3) (pe_int) (fun _ _ => rfl)) (pe_str) (nomark _)) (pss_one (ps_ret (pe_tup (pa_cons (pe_str) (pa_cons (pv 5) (pa_cons (pe_call GV.ok hr (by rfl) GV.g GV.kp GV.b .nil pass0 (pa_cons (pv 0) (pa_cons (pv 1) (pa_cons (pe_op op_cat (pv 2) (pe_lst (pa_cons (pe_tup (pa_cons (pv 5) (pa_cons (pe_ix ix_tup (pv 3) (pe_int) (fun _ _ => rfl)) pa_nil))) pa_nil))) (pa_cons (pe_ix ix_tup (pv 3) (pe_int) (fun _ _ => rfl)) (pa_cons (pe_op op_sub (pv 4) (pe_int)) pa_nil)))))) pa_nil)))))) pss_nil)
      (pss_cons (ps_if (pt_cmpR op_eq (pe_ix ix_tup (pv 3) (pe_int) (fun _ _ => rfl)) (pe_str) (nomark _)) (pss_cons (ps_set (i := 6) sc__law_special.nd rfl (Or.inl rfl) (pe_call GV.ok hr (by rfl) GV.g GV.kp GV.b .nil pass0 (pa_cons (pv 0) (pa_cons (pv 1) (pa_cons (pv 2) (pa_cons (pe_ix ix_tup (pv 3) (pe_int) (fun _ _ => rfl)) (pa_cons (pe_op op_sub (pv 4) (pe_int)) pa_nil)))))))
      (pss_one (ps_ret (pe_tup (pa_cons (pe_str) (pa_cons (pv 6) (pa_cons (pe_call GV.ok hr (by rfl) GV.g GV.kp GV.b .nil pass0 (pa_cons (pv 0) (pa_cons (pv 1) (pa_cons (pv 2) (pa_cons (pe_ix ix_tup (pv 3) (pe_int) (fun _ _ => rfl)) (pa_cons (pe_op op_sub (pv 4) (pe_int)) pa_nil)))))) pa_nil))))))) pss_nil)
      (pss_cons (ps_set (i := 7) sc__law_special.nd rfl (Or.inl rfl) (pe_call GK.ok (hr.mono (by omega)) (by rfl) GK.g GK.kp GK.b .nil pass0 (pa_cons (pv 0) (pa_cons (pe_int) pa_nil))))
      (pss_cons (ps_set (i := 6) sc__law_special.nd rfl (Or.inl rfl) (pe_call GV.ok hr (by rfl) GV.g GV.kp GV.b .nil pass0 (pa_cons (pv 0) (pa_cons (pv 1) (pa_cons (pv 2) (pa_cons (pv 7) (pa_cons (pe_op op_sub (pv 4) (pe_int)) pa_nil)))))))
      (pss_one (ps_ret (pe_tup (pa_cons (pe_str) (pa_cons (pv 5) (pa_cons (pv 6) (pa_cons (pe_call GL.ok (hr.mono (by omega)) (by rfl) GL.g GL.kp GL.b .nil pass0 (pa_cons (pv 0) (pa_cons (pe_op op_cat (pv 2) (pe_lst (pa_cons (pe_tup (pa_cons (pv 5) (pa_cons (pv 7) pa_nil))) pa_nil))) (pa_cons (pv 3) pa_nil)))) pa_nil)))))))))))))), ?_⟩
    have hB := trB_ge n
    have hnl : kn.length < 15 := by omega
    have nsz := nm_small (n := kn.length) (by omega)
    obtain ⟨pk, kvs, rfl, hk, ats⟩ := ak
    have lk := ats.length
    rw [List.length_map] at lk
    have ak : At R (.lst (kn.map knD)) (.ref pk) := ⟨pk, kvs, rfl, hk, ats⟩
    have mm : Mv (Fst s c) R H R H := .refl w.sub
    refine ⟨_, rfl, pk, _, rfl, .inl (SqL.of (w.sub _ _ hk)), _, rfl, by rw [lk]; exact nsz.1, _, _, rfl, rfl, by rw [lk]; exact nsz.2.1, ?_⟩
    rw [lk]
    show gName 5 (.str (nmN "x" kn.length)) _ _ _
    cases κ with
    | int =>
      have aw0 := aw
      obtain ⟨pw, _, rfl, hw, v0, _, rfl, e0, rfl⟩ := aw0
      obtain rfl : v0 = _ := e0
      have kd : 0 + (n + 1) ≤ 6 := kd
      have z0 : Kd.int.dp = 0 := rfl
      have zi : Kd.int.dp = 0 := rfl
      refine ⟨_, rfl, pw, _, 0, _, rfl, rfl, SqT.of (w.sub _ _ hw), atI_nat (j := 0) rfl, rfl, _, rfl, ?_⟩
      refine ifT (decide_eq_true rfl) ?_
      refine ⟨_, rfl, _, rfl, _, rfl, _, rfl, _, rfl, _, _, rfl, rfl, _, s, c, ops, kn, .int, _, _, _, d - 1, rfl, by omega, ⟨w, ao, oko, ak, okk, aw, by omega, by  omega, by  omega⟩, fun Q1 J1 e1 ve1 m w ae1 te1 => ?_⟩
      have mm := mm.tr m
      have ao := ao.up m.up
      have ak := ak.up m.up
      have aw := aw.up m.up
      have hk := m.up _ _ hk
      have hw := m.up _ _ hw
      show gName 6 _ _ _ _
      refine ⟨by show 3 ≤ sizeLine; decide, fun p2 n2 => ?_⟩
      obtain ⟨Q2, m2, al⟩ := lit3 w.sub (l := opl3.map D.str) ⟨_, _, rfl, at_str, _, _, rfl, at_str, _, _, rfl, at_str, rfl⟩ n2
      have w := w.up0 m2
      have mm := mm.tr0 m2
      have ao := ao.up m2.up
      have ak := ak.up m2.up
      have aw := aw.up m2.up
      have ae1 := ae1.up m2.up
      have hk := m2.up _ _ hk
      have hw := m2.up _ _ hw
      refine ⟨_, rfl, _, s, c, 3, rfl, by decide, by decide, w.sub, w.rs, w.rc, w.st, fun J3 z3 st3 c3 z30 z31 => ?_⟩
      have w := w.took c3 st3
      have mm := mm.tr c3
      obtain ⟨jj4, rfl⟩ : ∃ j : Nat, z3 = (j : Int) := ⟨z3.toNat, by omega⟩
      obtain ⟨x, hx4, hlx⟩ := opl3_get (z := jj4) (by omega)
      obtain ⟨pX4, vX4, eX4, hX4, tX4⟩ := id al
      cases eX4
      obtain ⟨xv4, hxv4, rfl⟩ := tX4.get (d := D.str x) (i := jj4) (by rw [List.getElem?_map, hx4]; rfl)
      refine ⟨_, _, _, _, rfl, rfl, SqL.of (w.sub _ _ hX4), atI_nat hxv4, _, rfl, _, rfl, _, rfl, _, rfl, _, rfl, _, rfl, _, _, rfl, rfl, _, s, c, ops, kn, .int, _, _, _, d - 1, rfl, by omega, ⟨w, ao, oko, ak, okk, aw, by omega, by  omega, by  omega⟩, fun Q5 J5 e2 ve2 m w ae2 te2 => ?_⟩
      have mm := mm.tr m
      have ao := ao.up m.up
      have ak := ak.up m.up
      have aw := aw.up m.up
      have ae1 := ae1.up m.up
      have al := al.up m.up
      have hk := m.up _ _ hk
      have hw := m.up _ _ hw
      refine ⟨by show 4 ≤ sizeLine; decide, fun p6 n6 => ?_⟩
      obtain ⟨Q6, m6, ar⟩ := lit2 w.sub (l := [.str "op", .str x, e1.d false, e2.d false]) ⟨_, _, rfl, at_str, _, _, rfl, at_str, _, _, rfl, ae1, _, _, rfl, ae2, rfl⟩ n6
      have w := w.up0 m6
      have mm := mm.tr0 m6
      have ao := ao.up m6.up
      have ak := ak.up m6.up
      have aw := aw.up m6.up
      have ae1 := ae1.up m6.up
      have al := al.up m6.up
      have ae2 := ae2.up m6.up
      have hk := m6.up _ _ hk
      have hw := m6.up _ _ hw
      exact q _ _ (.op x e1 e2) _ mm w ar ((Tr.op hlx te1 te2).up (by show 7 + 5 * n + 1 ≤ _; omega) (by omega))
    | bool =>
      have aw0 := aw
      obtain ⟨pw, _, rfl, hw, v0, _, rfl, e0, rfl⟩ := aw0
      obtain rfl : v0 = _ := e0
      have kd : 0 + (n + 1) ≤ 6 := kd
      have z0 : Kd.bool.dp = 0 := rfl
      have zi : Kd.int.dp = 0 := rfl
      refine ⟨_, rfl, pw, _, 0, _, rfl, rfl, SqT.of (w.sub _ _ hw), atI_nat (j := 0) rfl, rfl, _, rfl, ?_⟩
      refine isF (by decide +kernel) ?_
      refine ⟨_, rfl, pw, _, 0, _, rfl, rfl, SqT.of (w.sub _ _ hw), atI_nat (j := 0) rfl, rfl, _, rfl, ?_⟩
      refine ifT (decide_eq_true rfl) ?_
      refine ⟨_, rfl, _, rfl, _, rfl, by show 1 ≤ sizeLine; decide, fun p1 n1 => ?_⟩
      obtain ⟨Q1, m1, ai⟩ := lit2 w.sub (l := [.str "int"]) ⟨_, _, rfl, at_str, rfl⟩ n1
      have w := w.up0 m1
      have mm := mm.tr0 m1
      have ao := ao.up m1.up
      have ak := ak.up m1.up
      have aw := aw.up m1.up
      have hk := m1.up _ _ hk
      have hw := m1.up _ _ hw
      refine ⟨_, rfl, _, _, rfl, rfl, _, s, c, ops, kn, .int, _, _, _, d - 1, rfl, by omega, ⟨w, ao, oko, ak, okk, ai, by omega, by  omega, by  omega⟩, fun Q2 J2 e1 ve1 m w ae1 te1 => ?_⟩
      have mm := mm.tr m
      have ao := ao.up m.up
      have ak := ak.up m.up
      have aw := aw.up m.up
      have ai := ai.up m.up
      have hk := m.up _ _ hk
      have hw := m.up _ _ hw
      show gName 6 _ _ _ _
      refine ⟨_, rfl, _, s, c, 3, rfl, by decide, by decide, w.sub, w.rs, w.rc, w.st, fun J3 z3 st3 c3 z30 z31 => ?_⟩
      have w := w.took c3 st3
      have mm := mm.tr c3
      refine ⟨rfl, _, rfl, ?_⟩
      by_cases hz : z3 = 0
      · refine ifT (decide_eq_true (by rw [hz])) ?_
        refine ⟨_, rfl, _, rfl, _, rfl, _, rfl, _, rfl, _, _, rfl, rfl, _, s, c, ops, kn, .bool, _, _, _, d - 1, rfl, by omega, ⟨w, ao, oko, ak, okk, aw, by omega, by  omega, by  omega⟩, fun Q4 J4 e2 ve2 m w ae2 te2 => ?_⟩
        have mm := mm.tr m
        have ao := ao.up m.up
        have ak := ak.up m.up
        have aw := aw.up m.up
        have ai := ai.up m.up
        have ae1 := ae1.up m.up
        have hk := m.up _ _ hk
        have hw := m.up _ _ hw
        refine ⟨by show 2 ≤ sizeLine; decide, fun p5 n5 => ?_⟩
        obtain ⟨Q5, m5, ar⟩ := lit2 w.sub (l := [.str "not", e2.d false]) ⟨_, _, rfl, at_str, _, _, rfl, ae2, rfl⟩ n5
        have w := w.up0 m5
        have mm := mm.tr0 m5
        have ao := ao.up m5.up
        have ak := ak.up m5.up
        have aw := aw.up m5.up
        have ai := ai.up m5.up
        have ae1 := ae1.up m5.up
        have ae2 := ae2.up m5.up
        have hk := m5.up _ _ hk
        have hw := m5.up _ _ hw
        exact q _ _ (.nt e2) _ mm w ar ((Tr.nt te2).up (by show 7 + 5 * n + 1 ≤ _; omega) (by omega))
      · refine ifF (decide_eq_false fun h => hz (V.int.inj h)) ?_
        refine ⟨by show 2 ≤ sizeLine; decide, fun p4 n4 => ?_⟩
        obtain ⟨Q4, m4, al⟩ := lit3 w.sub (l := opl2.map D.str) ⟨_, _, rfl, at_str, _, _, rfl, at_str, rfl⟩ n4
        have w := w.up0 m4
        have mm := mm.tr0 m4
        have ao := ao.up m4.up
        have ak := ak.up m4.up
        have aw := aw.up m4.up
        have ai := ai.up m4.up
        have ae1 := ae1.up m4.up
        have hk := m4.up _ _ hk
        have hw := m4.up _ _ hw
        refine ⟨_, rfl, _, s, c, 2, rfl, by decide, by decide, w.sub, w.rs, w.rc, w.st, fun J5 z5 st5 c5 z50 z51 => ?_⟩
        have w := w.took c5 st5
        have mm := mm.tr c5
        obtain ⟨jj6, rfl⟩ : ∃ j : Nat, z5 = (j : Int) := ⟨z5.toNat, by omega⟩
        obtain ⟨x, hx6, hlx⟩ := opl2_get (z := jj6) (by omega)
        obtain ⟨pX6, vX6, eX6, hX6, tX6⟩ := id al
        cases eX6
        obtain ⟨xv6, hxv6, rfl⟩ := tX6.get (d := D.str x) (i := jj6) (by rw [List.getElem?_map, hx6]; rfl)
        refine ⟨_, _, _, _, rfl, rfl, SqL.of (w.sub _ _ hX6), atI_nat hxv6, _, rfl, _, rfl, _, rfl, by show 1 ≤ sizeLine; decide, fun p7 n7 => ?_⟩
        obtain ⟨Q7, m7, ai2⟩ := lit2 w.sub (l := [.str "int"]) ⟨_, _, rfl, at_str, rfl⟩ n7
        have w := w.up0 m7
        have mm := mm.tr0 m7
        have ao := ao.up m7.up
        have ak := ak.up m7.up
        have aw := aw.up m7.up
        have ai := ai.up m7.up
        have ae1 := ae1.up m7.up
        have al := al.up m7.up
        have hk := m7.up _ _ hk
        have hw := m7.up _ _ hw
        refine ⟨_, s, c, kn, .int, _, _, rfl, w, ak, ai2, okk, by  omega, by  omega, fun Q8 J8 e2 ve2 m w ae2 te2 => ?_⟩
        have mm := mm.tr m
        have ao := ao.up m.up
        have ak := ak.up m.up
        have aw := aw.up m.up
        have ai := ai.up m.up
        have ae1 := ae1.up m.up
        have al := al.up m.up
        have ai2 := ai2.up m.up
        have hk := m.up _ _ hk
        have hw := m.up _ _ hw
        refine ⟨by show 4 ≤ sizeLine; decide, fun p9 n9 => ?_⟩
        obtain ⟨Q9, m9, ar⟩ := lit2 w.sub (l := [.str "op", .str x, e1.d false, e2.d false]) ⟨_, _, rfl, at_str, _, _, rfl, at_str, _, _, rfl, ae1, _, _, rfl, ae2, rfl⟩ n9
        have w := w.up0 m9
        have mm := mm.tr0 m9
        have ao := ao.up m9.up
        have ak := ak.up m9.up
        have aw := aw.up m9.up
        have ai := ai.up m9.up
        have ae1 := ae1.up m9.up
        have al := al.up m9.up
        have ai2 := ai2.up m9.up
        have ae2 := ae2.up m9.up
        have hk := m9.up _ _ hk
        have hw := m9.up _ _ hw
        exact q _ _ (.op x e1 e2) _ mm w ar ((Tr.op hlx te1 (te2.fit (by show 0 + 1 ≤ 7 + 5 * n; omega) (Nat.le_refl _))).up (by show 7 + 5 * n + 1 ≤ _; omega) (by show _ + 1 + 1 ≤ _; omega))
    | unit =>
      have aw0 := aw
      obtain ⟨pw, _, rfl, hw, v0, _, rfl, e0, rfl⟩ := aw0
      obtain rfl : v0 = _ := e0
      have kd : 0 + (n + 1) ≤ 6 := kd
      have z0 : Kd.unit.dp = 0 := rfl
      have zi : Kd.int.dp = 0 := rfl
      refine ⟨_, rfl, pw, _, 0, _, rfl, rfl, SqT.of (w.sub _ _ hw), atI_nat (j := 0) rfl, rfl, _, rfl, ?_⟩
      refine isF (by decide +kernel) ?_
      refine ⟨_, rfl, pw, _, 0, _, rfl, rfl, SqT.of (w.sub _ _ hw), atI_nat (j := 0) rfl, rfl, _, rfl, ?_⟩
      refine isF (by decide +kernel) ?_
      refine ⟨_, rfl, pw, _, 0, _, rfl, rfl, SqT.of (w.sub _ _ hw), atI_nat (j := 0) rfl, rfl, _, rfl, ?_⟩
      refine isF (by decide +kernel) ?_
      refine ⟨_, rfl, pw, _, 0, _, rfl, rfl, SqT.of (w.sub _ _ hw), atI_nat (j := 0) rfl, rfl, _, rfl, ?_⟩
      refine isF (by decide +kernel) ?_
      refine ⟨_, rfl, _, s, c, 1, rfl, w, by decide, fun Q1 J1 ko vko m w ako dko => ?_⟩
      have mm := mm.tr m
      have ao := ao.up m.up
      have ak := ak.up m.up
      have aw := aw.up m.up
      have hk := m.up _ _ hk
      have hw := m.up _ _ hw
      show gName 7 _ _ _ _
      refine ⟨_, rfl, _, rfl, _, rfl, _, rfl, _, rfl, _, _, rfl, rfl, _, s, c, ops, kn, ko, _, _, _, d - 1, rfl, by omega, ⟨w, ao, oko, ak, okk, ako, by omega, by  omega, by  omega⟩, fun Q2 J2 e1 ve1 m w ae1 te1 => ?_⟩
      have mm := mm.tr m
      have ao := ao.up m.up
      have ak := ak.up m.up
      have aw := aw.up m.up
      have ako := ako.up m.up
      have hk := m.up _ _ hk
      have hw := m.up _ _ hw
      show gName 6 _ _ _ _
      refine ⟨_, rfl, _, rfl, _, rfl, _, rfl, _, rfl, _, rfl, by show 2 ≤ sizeLine; decide, fun p4 n4 => ?_⟩
      obtain ⟨Q4, m4, at3⟩ := lit2 w.sub (l := [.str (nmN "x" kn.length), ko.d]) ⟨_, _, rfl, at_str, _, _, rfl, ako, rfl⟩ n4
      have w := w.up0 m4
      have mm := mm.tr0 m4
      have ao := ao.up m4.up
      have ak := ak.up m4.up
      have aw := aw.up m4.up
      have ako := ako.up m4.up
      have ae1 := ae1.up m4.up
      have hk := m4.up _ _ hk
      have hw := m4.up _ _ hw
      refine ⟨by show 1 ≤ sizeLine; decide, fun p5 n5 => ?_⟩
      obtain ⟨Q5, m5, al3⟩ := lit3 w.sub (l := [knD ((nmN "x" kn.length), ko)]) ⟨_, _, rfl, at3, rfl⟩ n5
      have w := w.up0 m5
      have mm := mm.tr0 m5
      have ao := ao.up m5.up
      have ak := ak.up m5.up
      have aw := aw.up m5.up
      have ako := ako.up m5.up
      have ae1 := ae1.up m5.up
      have at3 := at3.up m5.up
      have hk := m5.up _ _ hk
      have hw := m5.up _ _ hw
      obtain ⟨pa3, va3, ea3, ha3, ta3⟩ := id ak
      obtain ⟨pb3, vb3, eb3, hb3, tb3⟩ := id al3
      cases ea3; cases eb3
      have len6 := ta3.length
      rw [List.length_map] at len6
      have lem6 : vb3.length = 1 := tb3.length
      refine ⟨_, _, _, _, rfl, rfl, w.sub _ _ ha3, w.sub _ _ hb3, big3 (by omega), fun p6 n6 => ?_⟩
      obtain ⟨Q6, m6, ak2⟩ := lit3 w.sub (l := (kn ++ [((nmN "x" kn.length), ko)]).map knD) (by rw [List.map_append]; exact ta3.append tb3) n6
      have w := w.up0 m6
      have mm := mm.tr0 m6
      have ao := ao.up m6.up
      have ak := ak.up m6.up
      have aw := aw.up m6.up
      have ako := ako.up m6.up
      have ae1 := ae1.up m6.up
      have at3 := at3.up m6.up
      have al3 := al3.up m6.up
      have hk := m6.up _ _ hk
      have hw := m6.up _ _ hw
      refine ⟨_, rfl, _, s, c, (kn ++ [((nmN "x" kn.length), ko)]), .unit, _, _, rfl, w, ak2, aw, (okk.snoc (okNm_x (Nat.lt_succ_of_lt hnl)) (by omega)), by (try rw [List.length_append]); (try show kn.length + 1 + 0 ≤ 15); omega, by (try rw [List.length_append]); (try show kn.length + 1 + 0 ≤ 15); omega, fun Q7 J7 e2 ve2 m w ae2 te2 => ?_⟩
      have mm := mm.tr m
      have ao := ao.up m.up
      have ak := ak.up m.up
      have aw := aw.up m.up
      have ako := ako.up m.up
      have ae1 := ae1.up m.up
      have at3 := at3.up m.up
      have al3 := al3.up m.up
      have ak2 := ak2.up m.up
      have hk := m.up _ _ hk
      have hw := m.up _ _ hw
      refine ⟨by show 4 ≤ sizeLine; decide, fun p8 n8 => ?_⟩
      obtain ⟨Q8, m8, ar⟩ := lit2 w.sub (l := [.str "let", .str (nmN "x" kn.length), e1.d false, e2.d false]) ⟨_, _, rfl, at_str, _, _, rfl, at_str, _, _, rfl, ae1, _, _, rfl, ae2, rfl⟩ n8
      have w := w.up0 m8
      have mm := mm.tr0 m8
      have ao := ao.up m8.up
      have ak := ak.up m8.up
      have aw := aw.up m8.up
      have ako := ako.up m8.up
      have ae1 := ae1.up m8.up
      have at3 := at3.up m8.up
      have al3 := al3.up m8.up
      have ak2 := ak2.up m8.up
      have ae2 := ae2.up m8.up
      have hk := m8.up _ _ hk
      have hw := m8.up _ _ hw
      exact q _ _ (.lt (nmN "x" kn.length) e1 e2) _ mm w ar ((Tr.lt (okNm_x (Nat.lt_succ_of_lt hnl)) te1 (te2.fit (by show 0 + 1 ≤ 7 + 5 * n; omega) (Nat.le_refl _))).up (by show 7 + 5 * n + 1 ≤ _; omega) (by show _ + 1 + 1 ≤ _; omega))
    | fn ka kb =>
      have aw0 := aw
      obtain ⟨pw, _, rfl, hw, v0, _, rfl, e0, v1, _, rfl, a1, v2, _, rfl, a2, rfl⟩ := aw0
      obtain rfl : v0 = _ := e0
      have kd : Nat.max ka.dp kb.dp + 1 + (n + 1) ≤ 6 := kd
      have hma : ka.dp ≤ Nat.max ka.dp kb.dp := Nat.le_max_left _ _
      have hmb : kb.dp ≤ Nat.max ka.dp kb.dp := Nat.le_max_right _ _
      refine ⟨_, rfl, pw, _, 0, _, rfl, rfl, SqT.of (w.sub _ _ hw), atI_nat (j := 0) rfl, rfl, _, rfl, ?_⟩
      refine isF (by decide +kernel) ?_
      refine ⟨_, rfl, pw, _, 0, _, rfl, rfl, SqT.of (w.sub _ _ hw), atI_nat (j := 0) rfl, rfl, _, rfl, ?_⟩
      refine isF (by decide +kernel) ?_
      refine ⟨_, rfl, pw, _, 0, _, rfl, rfl, SqT.of (w.sub _ _ hw), atI_nat (j := 0) rfl, rfl, _, rfl, ?_⟩
      refine ifT (decide_eq_true rfl) ?_
      refine ⟨_, rfl, _, rfl, _, rfl, _, rfl, _, rfl, _, rfl, pw, _, 1, _, rfl, rfl, SqT.of (w.sub _ _ hw), rfl, by show 2 ≤ sizeLine; decide, fun p2 n2 => ?_⟩
      obtain ⟨Q2, m2, at1⟩ := lit2 w.sub (l := [.str (nmN "x" kn.length), ka.d]) ⟨_, _, rfl, at_str, _, _, rfl, a1, rfl⟩ n2
      have w := w.up0 m2
      have mm := mm.tr0 m2
      have ao := ao.up m2.up
      have ak := ak.up m2.up
      have aw := aw.up m2.up
      have a1 := a1.up m2.up
      have a2 := a2.up m2.up
      have hk := m2.up _ _ hk
      have hw := m2.up _ _ hw
      refine ⟨by show 1 ≤ sizeLine; decide, fun p3 n3 => ?_⟩
      obtain ⟨Q3, m3, al1⟩ := lit3 w.sub (l := [knD ((nmN "x" kn.length), ka)]) ⟨_, _, rfl, at1, rfl⟩ n3
      have w := w.up0 m3
      have mm := mm.tr0 m3
      have ao := ao.up m3.up
      have ak := ak.up m3.up
      have aw := aw.up m3.up
      have a1 := a1.up m3.up
      have a2 := a2.up m3.up
      have at1 := at1.up m3.up
      have hk := m3.up _ _ hk
      have hw := m3.up _ _ hw
      obtain ⟨pa1, va1, ea1, ha1, ta1⟩ := id ak
      obtain ⟨pb1, vb1, eb1, hb1, tb1⟩ := id al1
      cases ea1; cases eb1
      have len4 := ta1.length
      rw [List.length_map] at len4
      have lem4 : vb1.length = 1 := tb1.length
      refine ⟨_, _, _, _, rfl, rfl, w.sub _ _ ha1, w.sub _ _ hb1, big3 (by omega), fun p4 n4 => ?_⟩
      obtain ⟨Q4, m4, ak2⟩ := lit3 w.sub (l := (kn ++ [((nmN "x" kn.length), ka)]).map knD) (by rw [List.map_append]; exact ta1.append tb1) n4
      have w := w.up0 m4
      have mm := mm.tr0 m4
      have ao := ao.up m4.up
      have ak := ak.up m4.up
      have aw := aw.up m4.up
      have a1 := a1.up m4.up
      have a2 := a2.up m4.up
      have at1 := at1.up m4.up
      have al1 := al1.up m4.up
      have hk := m4.up _ _ hk
      have hw := m4.up _ _ hw
      refine ⟨_, rfl, pw, _, 2, _, rfl, rfl, SqT.of (w.sub _ _ hw), rfl, _, rfl, _, _, rfl, rfl, _, s, c, ops, (kn ++ [((nmN "x" kn.length), ka)]), kb, _, _, _, d - 1, rfl, by omega, ⟨w, ao, oko, ak2, (okk.snoc (okNm_x (Nat.lt_succ_of_lt hnl)) (by omega)), a2, by omega, by (try rw [List.length_append]); (try show kn.length + 1 + 2 * n ≤ 8); omega, by (try rw [List.length_append]); (try show kn.length + 1 + 2 * n ≤ 8); omega⟩, fun Q5 J5 e1 ve1 m w ae1 te1 => ?_⟩
      have mm := mm.tr m
      have ao := ao.up m.up
      have ak := ak.up m.up
      have aw := aw.up m.up
      have a1 := a1.up m.up
      have a2 := a2.up m.up
      have at1 := at1.up m.up
      have al1 := al1.up m.up
      have ak2 := ak2.up m.up
      have hk := m.up _ _ hk
      have hw := m.up _ _ hw
      refine ⟨by show 3 ≤ sizeLine; decide, fun p6 n6 => ?_⟩
      obtain ⟨Q6, m6, ar⟩ := lit2 w.sub (l := [.str "fun", .str (nmN "x" kn.length), e1.d false]) ⟨_, _, rfl, at_str, _, _, rfl, at_str, _, _, rfl, ae1, rfl⟩ n6
      have w := w.up0 m6
      have mm := mm.tr0 m6
      have ao := ao.up m6.up
      have ak := ak.up m6.up
      have aw := aw.up m6.up
      have a1 := a1.up m6.up
      have a2 := a2.up m6.up
      have at1 := at1.up m6.up
      have al1 := al1.up m6.up
      have ak2 := ak2.up m6.up
      have ae1 := ae1.up m6.up
      have hk := m6.up _ _ hk
      have hw := m6.up _ _ hw
      exact q _ _ (.fn (nmN "x" kn.length) e1) _ mm w ar ((Tr.fn (okNm_x (Nat.lt_succ_of_lt hnl)) te1).up (by show 7 + 5 * n + 1 ≤ _; omega) (by omega))
    | pair ka kb =>
      have aw0 := aw
      obtain ⟨pw, _, rfl, hw, v0, _, rfl, e0, v1, _, rfl, a1, v2, _, rfl, a2, rfl⟩ := aw0
      obtain rfl : v0 = _ := e0
      have kd : Nat.max ka.dp kb.dp + 1 + (n + 1) ≤ 6 := kd
      have hma : ka.dp ≤ Nat.max ka.dp kb.dp := Nat.le_max_left _ _
      have hmb : kb.dp ≤ Nat.max ka.dp kb.dp := Nat.le_max_right _ _
      refine ⟨_, rfl, pw, _, 0, _, rfl, rfl, SqT.of (w.sub _ _ hw), atI_nat (j := 0) rfl, rfl, _, rfl, ?_⟩
      refine isF (by decide +kernel) ?_
      refine ⟨_, rfl, pw, _, 0, _, rfl, rfl, SqT.of (w.sub _ _ hw), atI_nat (j := 0) rfl, rfl, _, rfl, ?_⟩
      refine isF (by decide +kernel) ?_
      refine ⟨_, rfl, pw, _, 0, _, rfl, rfl, SqT.of (w.sub _ _ hw), atI_nat (j := 0) rfl, rfl, _, rfl, ?_⟩
      refine isF (by decide +kernel) ?_
      refine ⟨_, rfl, pw, _, 0, _, rfl, rfl, SqT.of (w.sub _ _ hw), atI_nat (j := 0) rfl, rfl, _, rfl, ?_⟩
      refine ifT (decide_eq_true rfl) ?_
      refine ⟨_, rfl, _, rfl, _, rfl, _, rfl, pw, _, 1, _, rfl, rfl, SqT.of (w.sub _ _ hw), rfl, _, rfl, _, _, rfl, rfl, _, s, c, ops, kn, ka, _, _, _, d - 1, rfl, by omega, ⟨w, ao, oko, ak, okk, a1, by omega, by  omega, by  omega⟩, fun Q1 J1 e1 ve1 m w ae1 te1 => ?_⟩
      have mm := mm.tr m
      have ao := ao.up m.up
      have ak := ak.up m.up
      have aw := aw.up m.up
      have a1 := a1.up m.up
      have a2 := a2.up m.up
      have hk := m.up _ _ hk
      have hw := m.up _ _ hw
      show gName 6 _ _ _ _
      refine ⟨_, rfl, _, rfl, _, rfl, _, rfl, _, rfl, pw, _, 2, _, rfl, rfl, SqT.of (w.sub _ _ hw), rfl, _, rfl, _, _, rfl, rfl, _, s, c, ops, kn, kb, _, _, _, d - 1, rfl, by omega, ⟨w, ao, oko, ak, okk, a2, by omega, by  omega, by  omega⟩, fun Q2 J2 e2 ve2 m w ae2 te2 => ?_⟩
      have mm := mm.tr m
      have ao := ao.up m.up
      have ak := ak.up m.up
      have aw := aw.up m.up
      have a1 := a1.up m.up
      have a2 := a2.up m.up
      have ae1 := ae1.up m.up
      have hk := m.up _ _ hk
      have hw := m.up _ _ hw
      refine ⟨by show 3 ≤ sizeLine; decide, fun p3 n3 => ?_⟩
      obtain ⟨Q3, m3, ar⟩ := lit2 w.sub (l := [.str "pair", e1.d false, e2.d false]) ⟨_, _, rfl, at_str, _, _, rfl, ae1, _, _, rfl, ae2, rfl⟩ n3
      have w := w.up0 m3
      have mm := mm.tr0 m3
      have ao := ao.up m3.up
      have ak := ak.up m3.up
      have aw := aw.up m3.up
      have a1 := a1.up m3.up
      have a2 := a2.up m3.up
      have ae1 := ae1.up m3.up
      have ae2 := ae2.up m3.up
      have hk := m3.up _ _ hk
      have hw := m3.up _ _ hw
      exact q _ _ (.pair e1 e2) _ mm w ar ((Tr.pair te1 te2).up (by show 7 + 5 * n + 1 ≤ _; omega) (by omega))
end
end Bz


set_option Elab.async false
set_option linter.all false
set_option maxRecDepth 100000
set_option maxHeartbeats 4000000
namespace Bz
open PySem PySem.Spec L2 PyProof.Rows
section
variable {P : Program} {w : World} {K : PySem.W.Frag} {mg : Str → Option Value} {base : Heap}
abbrev g__law_asking : Stmt := topS 19
abbrev n__law_asking : List Str := ["state", "ops", "known", "wanted", "depth", "operation", "asked", "name"]
abbrev p__law_asking : List Str := ["state", "ops", "known", "wanted", "depth"]
theorem sc__law_asking : FnScope n__law_asking p__law_asking (defScope g__law_asking) := ⟨rfl, rfl, rfl, by decide +kernel, rfl, by decide +kernel, by decide +kernel⟩
theorem ok_asking {n : Nat} {f fT fL fK fV : Addr} {fd fdT fdL fdK fdV : FuncData} (F : Fun K "_law_asking" "_law_asking" g__law_asking f fd) (ml : mg "len" = none) (ms : mg "str" = none) (GT : Fn P w K mg base CX0 1 "_law_take" p__law_take spTake fT fdT) (GL : Fn P w K mg base CX0 9 "_law_leaf" p__law_leaf (spLeaf 7) fL fdL)
    (GK : Fn P w K mg base CX0 4 "_law_kind" p__law_kind (spKind 2) fK fdK) (GV : Fn P w K mg base CX0 (10 + 3 * n) "_law_tree" ["state", "ops", "known", "wanted", "depth"] (spTree n) fV fdV) : FnOk P w K mg base CX0 (10 + 3 * n + 1) f fd p__law_asking (spTree (n + 1)) := by
  refine F.ok (k := 10 + 3 * n) sc__law_asking (fun vs H Q E h => ?_) (fun cdv A outer st H vs Q E hr h => ?_)
  · obtain ⟨R, s, c, ops, kn, κ, vo, vk, vw, d, rfl, _⟩ := h
    rfl
  · obtain ⟨R, s, c, ops, kn, κ, vo, vk, vw, d, rfl, hd, ⟨w, ao, oko, ak, okk, aw, n4, kl, kd⟩, q⟩ := h
    refine ⟨_, (pss_cons (ps_set (i := 5) sc__law_asking.nd rfl (Or.inl rfl) (pe_ix ix_list (pv 1) (pe_call GT.ok (hr.mono (by omega)) (by rfl) GT.g GT.kp GT.b .nil pass0 (pa_cons (pv 0) (pa_cons (pe_callB call_len_seq (by rfl) ml PySem.boot_len (pa_cons (pv 1) pa_nil)) pa_nil))) (fun _ _ => rfl)))
      (pss_cons (ps_set (i := 6) sc__law_asking.nd rfl (Or.inl rfl) (pe_tup (pa_cons (pe_str) (pa_cons (pe_ix ix_tup (pv 5) (pe_int) (fun _ _ => rfl)) (pa_cons (pe_call GV.ok hr (by rfl) GV.g GV.kp GV.b .nil pass0 (pa_cons (pv 0) (pa_cons (pv 1) (pa_cons (pv 2) (pa_cons (pe_ix ix_tup (pv 5) (pe_int) (fun _ _ => rfl)) (pa_cons (pe_op op_sub (pv 4) (pe_int)) pa_nil)))))) pa_nil)))))
      (pss_cons (ps_if (pt_cmpR (op_eqD hr.units) (pe_ix ix_tup (pv 5) (pe_int) (fun _ _ => rfl)) (pv 3) (nomark _)) (pss_one (ps_ret (pv 6))) pss_nil)
      (pss_cons (ps_set (i := 7) sc__law_asking.nd rfl (Or.inl rfl) (pe_op op_add_str (pe_str) (pe_callTy call_str_int (by rfl) ms (by decide +kernel) (pa_cons (pe_callB call_len_seq (by rfl) ml PySem.boot_len (pa_cons (pv 2) pa_nil)) pa_nil))))
      (pss_one (ps_ret (pe_tup (pa_cons (pe_str) (pa_cons (pv 7) (pa_cons (pv 6) (pa_cons (pe_call GV.ok hr (by rfl) GV.g GV.kp GV.b .nil pass0 (pa_cons (pv 0) (pa_cons (pv 1) (pa_cons (pe_op op_cat (pv 2) (pe_lst (pa_cons (pe_tup (pa_cons (pv 7) (pa_cons (pe_ix ix_tup (pv 5) (pe_int) (fun _ _ => rfl)) pa_nil))) pa_nil))) (pa_cons (pv 3) (pa_cons (pe_op op_sub (pv 4) (pe_int)) pa_nil)))))) pa_nil))))))))))), ?_⟩
    have hB := trB_ge n
    have hnl : kn.length < 15 := by omega
    have nsz := nm_small (n := kn.length) (by omega)
    obtain ⟨pk, kvs, rfl, hk, ats⟩ := ak
    have lk := ats.length
    rw [List.length_map] at lk
    have ak : At R (.lst (kn.map knD)) (.ref pk) := ⟨pk, kvs, rfl, hk, ats⟩
    have mm : Mv (Fst s c) R H R H := .refl w.sub
    obtain ⟨po, ovs, rfl, ho, oats⟩ := ao
    have lo := oats.length
    rw [List.length_map] at lo
    have lo1 := oko.1
    have lo4 := oko.2.1
    have ao : At R (.lst (ops.map opD)) (.ref po) := ⟨po, ovs, rfl, ho, oats⟩
    refine ⟨_, rfl, _, rfl, _, rfl, po, _, rfl, .inl (SqL.of (w.sub _ _ ho)), _, s, c, _, rfl, by omega, by omega, w.sub, w.rs, w.rc, w.st, fun J1 z1 st1 c1 z10 z11 => ?_⟩
    have w := w.took c1 st1
    have mm := mm.tr c1
    obtain ⟨j, rfl⟩ : ∃ j : Nat, z1 = (j : Int) := ⟨z1.toNat, by omega⟩
    have hj : j < ops.length := by omega
    obtain ⟨ov, hov, aop⟩ := oats.get (d := opD ops[j]) (i := j) (by rw [List.getElem?_map, List.getElem?_eq_getElem hj]; rfl)
    have okop : okOp ops[j] := oko.2.2 _ (List.getElem_mem hj)
    generalize ops[j] = op at aop okop
    refine ⟨po, _, _, _, rfl, rfl, SqL.of (w.sub _ _ ho), atI_nat hov, ?_⟩
    show gName 5 _ _ _ _
    obtain ⟨pop, _, rfl, hop, v0, _, rfl, e0, v1, _, rfl, b1, v2, _, rfl, b2, rfl⟩ := aop
    obtain rfl : v0 = .str op.1 := e0
    have hopl : (PyData.str op.1).canLay0 = true := by
      have : (opNames.all fun x => (PyData.str x).canLay0) = true := by decide +kernel
      exact List.all_eq_true.mp this _ okop.1
    have d1 := okop.2.1
    have d2 := okop.2.2
    refine ⟨_, rfl, pop, _, 0, _, rfl, rfl, SqT.of (w.sub _ _ hop), rfl, _, rfl, _, rfl, _, rfl, _, rfl, pop, _, 1, _, rfl, rfl, SqT.of (w.sub _ _ hop), rfl, _, rfl, _, _, rfl, rfl, _, s, c, ops, kn, op.2.1, _, _, _, d - 1, rfl, by omega, ⟨w, ao, oko, ak, okk, b1, by omega, by  omega, by  omega⟩, fun Q2 J2 e1 ve1 m w ae1 te1 => ?_⟩
    have mm := mm.tr m
    have ao := ao.up m.up
    have ak := ak.up m.up
    have aw := aw.up m.up
    have b1 := b1.up m.up
    have b2 := b2.up m.up
    have hk := m.up _ _ hk
    have ho := m.up _ _ ho
    have hop := m.up _ _ hop
    refine ⟨by show 3 ≤ sizeLine; decide, fun p3 n3 => ?_⟩
    obtain ⟨Q3, m3, aa⟩ := lit2 w.sub (l := [.str "ask", .str op.1, e1.d false]) ⟨_, _, rfl, at_str, _, _, rfl, at_str, _, _, rfl, ae1, rfl⟩ n3
    have w := w.up0 m3
    have mm := mm.tr0 m3
    have ao := ao.up m3.up
    have ak := ak.up m3.up
    have aw := aw.up m3.up
    have b1 := b1.up m3.up
    have b2 := b2.up m3.up
    have ae1 := ae1.up m3.up
    have hk := m3.up _ _ hk
    have ho := m3.up _ _ ho
    have hop := m3.up _ _ hop
    show gName 6 _ _ _ _
    refine ⟨_, rfl, pop, _, 2, _, rfl, rfl, SqT.of (w.sub _ _ hop), rfl, _, rfl, _, _, At.dp w.sub (kd_flat op.2.2) b2, At.dp w.sub (kd_flat κ) aw, kd_sh (by omega), kd_sh (by omega), _, rfl, ?_⟩
    by_cases he : PyData.eqv op.2.2.d.py κ.d.py = true
    · refine ifT he ?_
      refine ⟨_, rfl, ?_⟩
      exact q _ _ (.ask op.1 e1) _ mm w aa ((Tr.ask hopl te1).up (by show 7 + 5 * n + 1 ≤ _; omega) (by omega))
    refine ifF (Bool.eq_false_iff.mpr he) ?_
    refine ⟨_, rfl, pk, _, rfl, .inl (SqL.of (w.sub _ _ hk)), _, rfl, by rw [lk]; exact nsz.1, _, _, rfl, rfl, by rw [lk]; exact nsz.2.1, ?_⟩
    rw [lk]
    show gName 7 (.str (nmN "x" kn.length)) _ _ _
    refine ⟨_, rfl, _, rfl, _, rfl, _, rfl, _, rfl, _, rfl, _, rfl, pop, _, 2, _, rfl, rfl, SqT.of (w.sub _ _ hop), rfl, by show 2 ≤ sizeLine; decide, fun p5 n5 => ?_⟩
    obtain ⟨Q5, m5, at4⟩ := lit2 w.sub (l := [.str (nmN "x" kn.length), op.2.2.d]) ⟨_, _, rfl, at_str, _, _, rfl, b2, rfl⟩ n5
    have w := w.up0 m5
    have mm := mm.tr0 m5
    have ao := ao.up m5.up
    have ak := ak.up m5.up
    have aw := aw.up m5.up
    have b1 := b1.up m5.up
    have b2 := b2.up m5.up
    have ae1 := ae1.up m5.up
    have aa := aa.up m5.up
    have hk := m5.up _ _ hk
    have ho := m5.up _ _ ho
    have hop := m5.up _ _ hop
    refine ⟨by show 1 ≤ sizeLine; decide, fun p6 n6 => ?_⟩
    obtain ⟨Q6, m6, al4⟩ := lit3 w.sub (l := [knD ((nmN "x" kn.length), op.2.2)]) ⟨_, _, rfl, at4, rfl⟩ n6
    have w := w.up0 m6
    have mm := mm.tr0 m6
    have ao := ao.up m6.up
    have ak := ak.up m6.up
    have aw := aw.up m6.up
    have b1 := b1.up m6.up
    have b2 := b2.up m6.up
    have ae1 := ae1.up m6.up
    have aa := aa.up m6.up
    have at4 := at4.up m6.up
    have hk := m6.up _ _ hk
    have ho := m6.up _ _ ho
    have hop := m6.up _ _ hop
    obtain ⟨pa4, va4, ea4, ha4, ta4⟩ := id ak
    obtain ⟨pb4, vb4, eb4, hb4, tb4⟩ := id al4
    cases ea4; cases eb4
    have len7 := ta4.length
    rw [List.length_map] at len7
    have lem7 : vb4.length = 1 := tb4.length
    refine ⟨_, _, _, _, rfl, rfl, w.sub _ _ ha4, w.sub _ _ hb4, big3 (by omega), fun p7 n7 => ?_⟩
    obtain ⟨Q7, m7, ak2⟩ := lit3 w.sub (l := (kn ++ [((nmN "x" kn.length), op.2.2)]).map knD) (by rw [List.map_append]; exact ta4.append tb4) n7
    have w := w.up0 m7
    have mm := mm.tr0 m7
    have ao := ao.up m7.up
    have ak := ak.up m7.up
    have aw := aw.up m7.up
    have b1 := b1.up m7.up
    have b2 := b2.up m7.up
    have ae1 := ae1.up m7.up
    have aa := aa.up m7.up
    have at4 := at4.up m7.up
    have al4 := al4.up m7.up
    have hk := m7.up _ _ hk
    have ho := m7.up _ _ ho
    have hop := m7.up _ _ hop
    refine ⟨_, rfl, _, rfl, _, _, rfl, rfl, _, s, c, ops, (kn ++ [((nmN "x" kn.length), op.2.2)]), κ, _, _, _, d - 1, rfl, by omega, ⟨w, ao, oko, ak2, (okk.snoc (okNm_x (Nat.lt_succ_of_lt hnl)) (by omega)), aw, by omega, by (try rw [List.length_append]); (try show kn.length + 1 + 2 * n ≤ 8); omega, by (try rw [List.length_append]); (try show kn.length + 1 + 2 * n ≤ 8); omega⟩, fun Q8 J8 e2 ve2 m w ae2 te2 => ?_⟩
    have mm := mm.tr m
    have ao := ao.up m.up
    have ak := ak.up m.up
    have aw := aw.up m.up
    have b1 := b1.up m.up
    have b2 := b2.up m.up
    have ae1 := ae1.up m.up
    have aa := aa.up m.up
    have at4 := at4.up m.up
    have al4 := al4.up m.up
    have ak2 := ak2.up m.up
    have hk := m.up _ _ hk
    have ho := m.up _ _ ho
    have hop := m.up _ _ hop
    refine ⟨by show 4 ≤ sizeLine; decide, fun p9 n9 => ?_⟩
    obtain ⟨Q9, m9, ar⟩ := lit2 w.sub (l := [.str "let", .str (nmN "x" kn.length), .tup [.str "ask", .str op.1, e1.d false], e2.d false]) ⟨_, _, rfl, at_str, _, _, rfl, at_str, _, _, rfl, aa, _, _, rfl, ae2, rfl⟩ n9
    have w := w.up0 m9
    have mm := mm.tr0 m9
    have ao := ao.up m9.up
    have ak := ak.up m9.up
    have aw := aw.up m9.up
    have b1 := b1.up m9.up
    have b2 := b2.up m9.up
    have ae1 := ae1.up m9.up
    have aa := aa.up m9.up
    have at4 := at4.up m9.up
    have al4 := al4.up m9.up
    have ak2 := ak2.up m9.up
    have ae2 := ae2.up m9.up
    have hk := m9.up _ _ hk
    have ho := m9.up _ _ ho
    have hop := m9.up _ _ hop
    exact q _ _ (.lt (nmN "x" kn.length) (.ask op.1 e1) e2) _ mm w ar ((Tr.lt (okNm_x (Nat.lt_succ_of_lt hnl)) (Tr.ask hopl te1) (te2.fit (Nat.le_succ _) (Nat.le_refl _))).up (by show 7 + 5 * n + 1 + 1 ≤ _; omega) (by omega))
end
end Bz


set_option Elab.async false
set_option linter.all false
set_option maxRecDepth 100000
set_option maxHeartbeats 4000000
namespace Bz
open PySem PySem.Spec L2 PyProof.Rows
def spClause (n : Nat) : Sp := fun vs H Q _ => ∃ (R : Hp) (s c : Addr) (ops : List (Str × Kd × Kd)) (kn : List (Str × Kd)) (κ : Kd) (vo vk vw : V) (d : Int) (op : Str × Kd × Kd) (vp : V), vs = [.ref s, vo, vk, vw, .int d, vp] ∧ d ≤ ((n + 1 : Nat) : Int) ∧ Gin R H s c ops kn κ vo vk vw (n + 1) ∧ At R (opD op) vp ∧ okOp op ∧
  ∀ (R' H' : Hp) (x k : Str) (g : Ex) (v : V), Mv (Fst s c) R H R' H' → Wd R' H' s c → At R' (.tup [.str op.1, .str x, .str k, g.d false]) v → okNm x = true → okNm k = true → Tr g (trA n + 1) (trB n + 2) → Q v H'
theorem kd_tag (κ : Kd) : ∃ r, κ.d = .tup (.str (match κ with | .int => "int" | .bool => "bool" | .unit => "unit" | .fn _ _ => "fun" | .pair _ _ => "pair") :: r) := by cases κ <;> exact ⟨_, rfl⟩
theorem iteB {b : Bool} {A B : Prop} (h : b = true → A) (z : b = false → B) : if b = true then A else B := by
  cases b with
  | true => exact h rfl
  | false => exact iteF (z rfl)
section
variable {P : Program} {w : World} {K : PySem.W.Frag} {mg : Str → Option Value} {base : Heap}
abbrev g__law_clause : Stmt := topS 20
abbrev n__law_clause : List Str := ["state", "ops", "known", "wanted", "depth", "operation", "given", "kept", "inner", "kind", "outer", "body", "one", "shown"]
abbrev p__law_clause : List Str := ["state", "ops", "known", "wanted", "depth", "operation"]
theorem sc__law_clause : FnScope n__law_clause p__law_clause (defScope g__law_clause) := ⟨rfl, rfl, rfl, by decide +kernel, rfl, by decide +kernel, by decide +kernel⟩
theorem ok_clause {n : Nat} {f fT fL fK fV : Addr} {fd fdT fdL fdK fdV : FuncData} (F : Fun K "_law_clause" "_law_clause" g__law_clause f fd) (ml : mg "len" = none) (ms : mg "str" = none) (GT : Fn P w K mg base CX0 1 "_law_take" p__law_take spTake fT fdT) (GL : Fn P w K mg base CX0 9 "_law_leaf" p__law_leaf (spLeaf 7) fL fdL)
    (GK : Fn P w K mg base CX0 4 "_law_kind" p__law_kind (spKind 2) fK fdK) (GV : Fn P w K mg base CX0 (10 + 3 * n) "_law_tree" ["state", "ops", "known", "wanted", "depth"] (spTree n) fV fdV) : FnOk P w K mg base CX0 (10 + 3 * n + 1) f fd p__law_clause (spClause n) := by
  refine F.ok (k := 10 + 3 * n) sc__law_clause (fun vs H Q E h => ?_) (fun cdv A outer st H vs Q E hr h => ?_)
  · obtain ⟨R, s, c, ops, kn, κ, vo, vk, vw, d, op, vp, rfl, _⟩ := h
    rfl
  · obtain ⟨R, s, c, ops, kn, κ, vo, vk, vw, d, op, vp, rfl, hd, ⟨w, ao, oko, ak, okk, aw, n4, kl, kd⟩, aop, okop, q⟩ := h
    refine ⟨_, (pss_cons (ps_par (i := 6) (j := 7) (by rfl) sc__law_clause.nd rfl rfl (by decide) rfl rfl (pa_cons (pe_op op_add_str (pe_str) (pe_callTy call_str_int (by rfl) ms (by decide +kernel) (pa_cons (pe_callB call_len_seq (by rfl) ml PySem.boot_len (pa_cons (pv 2) pa_nil)) pa_nil))) (pa_cons (pe_op op_add_str (pe_str) (pe_callTy call_str_int (by rfl) ms (by decide +kernel) (pa_cons (pe_op op_add (pe_callB call_len_seq (by rfl) ml PySem.boot_len (pa_cons (pv 2) pa_nil)) (pe_int)) pa_nil))) pa_nil)) (by rfl))
      (pss_cons (ps_set (i := 8) sc__law_clause.nd rfl (Or.inl rfl) (pe_op op_cat (pv 2) (pe_lst (pa_cons (pe_tup (pa_cons (pv 6) (pa_cons (pe_ix ix_tup (pv 5) (pe_int) (fun _ _ => rfl)) pa_nil))) (pa_cons (pe_tup (pa_cons (pv 7) (pa_cons (pe_tup (pa_cons (pe_str) (pa_cons (pe_ix ix_tup (pv 5) (pe_int) (fun _ _ => rfl)) (pa_cons (pv 3) pa_nil)))) pa_nil))) pa_nil)))))
      (pss_cons (ps_set (i := 9) sc__law_clause.nd rfl (Or.inl rfl) (pe_call GT.ok (hr.mono (by omega)) (by rfl) GT.g GT.kp GT.b .nil pass0 (pa_cons (pv 0) (pa_cons (pe_int) pa_nil))))
      (pss_cons (ps_set (i := 10) sc__law_clause.nd rfl (Or.inl rfl) (pe_op op_cat (pv 2) (pe_lst (pa_cons (pe_tup (pa_cons (pv 6) (pa_cons (pe_ix ix_tup (pv 5) (pe_int) (fun _ _ => rfl)) pa_nil))) pa_nil))))
      (C8.pss_cut (ps_if (pt_cmpR op_lt (pv 9) (pe_int) (nomark _)) (pss_one (ps_set (i := 11) sc__law_clause.nd rfl (Or.inl rfl) (pe_tup (pa_cons (pe_str) (pa_cons (pe_tup (pa_cons (pe_str) (pa_cons (pv 7) pa_nil))) (pa_cons (pe_call GV.ok hr (by rfl) GV.g GV.kp GV.b .nil pass0 (pa_cons (pv 0) (pa_cons (pv 1) (pa_cons (pv 10) (pa_cons (pe_ix ix_tup (pv 5) (pe_int) (fun _ _ => rfl)) (pa_cons (pe_op op_sub (pv 4) (pe_int)) pa_nil)))))) pa_nil)))))) (pss_one (ps_if (pt_cmpR op_eq (pv 9) (pe_int) (nomark _)) (pss_one (ps_set (i := 11) sc__law_clause.nd rfl (Or.inl rfl) (pe_tup (pa_cons (pe_str) (pa_cons (pe_tup (pa_cons (pe_str) (pa_cons (pv 7) pa_nil))) (pa_cons (pe_call GV.ok hr (by rfl) GV.g GV.kp GV.b .nil pass0 (pa_cons (pv 0) (pa_cons (pv 1) (pa_cons (pv 8) (pa_cons (pe_ix ix_tup (pv 5) (pe_int) (fun _ _ => rfl)) (pa_cons (pe_op op_sub (pv 4) (pe_int)) pa_nil)))))) pa_nil)))))) (pss_one (ps_if (PW.pt (pw_and (pt_cmpR op_eq (pv 9) (pe_int) (nomark _)) (pw_and1 (pt_cmpR op_eq (pe_ix ix_tup (pv 3) (pe_int) (fun _ _ => rfl)) (pe_str) (nomark _))))) (pss_cons (ps_set (i := 12) sc__law_clause.nd rfl (Or.inl rfl) (pe_tup (pa_cons (pe_str) (pa_cons (pe_tup (pa_cons (pe_str) (pa_cons (pv 7) pa_nil))) (pa_cons (pe_call GL.ok (hr.mono (by omega)) (by rfl) GL.g GL.kp GL.b .nil pass0 (pa_cons (pv 0) (pa_cons (pv 10) (pa_cons (pe_ix ix_tup (pv 5) (pe_int) (fun _ _ => rfl)) pa_nil)))) pa_nil)))))
      (pss_one (ps_set (i := 11) sc__law_clause.nd rfl (Or.inl rfl) (pe_tup (pa_cons (pe_str) (pa_cons (pe_str) (pa_cons (pv 12) (pa_cons (pe_tup (pa_cons (pe_str) (pa_cons (pe_tup (pa_cons (pe_str) (pa_cons (pv 7) pa_nil))) (pa_cons (pe_call GL.ok (hr.mono (by omega)) (by rfl) GL.g GL.kp GL.b .nil pass0 (pa_cons (pv 0) (pa_cons (pv 10) (pa_cons (pe_ix ix_tup (pv 5) (pe_int) (fun _ _ => rfl)) pa_nil)))) pa_nil)))) pa_nil)))))))) (pss_one (ps_if (pt_cmpR op_eq (pv 9) (pe_int) (nomark _)) (pss_cons (ps_set (i := 13) sc__law_clause.nd rfl (Or.inl rfl) (pe_call GL.ok (hr.mono (by omega)) (by rfl) GL.g GL.kp GL.b .nil pass0 (pa_cons (pv 0) (pa_cons (pv 10) (pa_cons (pe_tup (pa_cons (pe_str) pa_nil)) pa_nil)))))
      (pss_one (ps_set (i := 11) sc__law_clause.nd rfl (Or.inl rfl) (pe_tup (pa_cons (pe_str) (pa_cons (pv 13) (pa_cons (pe_tup (pa_cons (pe_str) (pa_cons (pe_tup (pa_cons (pe_str) (pa_cons (pv 7) pa_nil))) (pa_cons (pe_call GL.ok (hr.mono (by omega)) (by rfl) GL.g GL.kp GL.b .nil pass0 (pa_cons (pv 0) (pa_cons (pv 10) (pa_cons (pe_ix ix_tup (pv 5) (pe_int) (fun _ _ => rfl)) pa_nil)))) pa_nil)))) pa_nil))))))) (pss_one (ps_set (i := 11) sc__law_clause.nd rfl (Or.inl rfl) (pe_call GV.ok hr (by rfl) GV.g GV.kp GV.b .nil pass0 (pa_cons (pv 0) (pa_cons (pv 1) (pa_cons (pv 8) (pa_cons (pv 3) (pa_cons (pe_op op_sub (pv 4) (pe_int)) pa_nil)))))))))))))))
      (pss_one (ps_ret (pe_tup (pa_cons (pe_ix ix_tup (pv 5) (pe_int) (fun _ _ => rfl)) (pa_cons (pv 6) (pa_cons (pv 7) (pa_cons (pv 11) pa_nil)))))))))))), ?_⟩
    have hB := trB_ge n
    have hnl : kn.length < 15 := by omega
    have nsz := nm_small (n := kn.length) (by omega)
    obtain ⟨pk, kvs, rfl, hk, ats⟩ := ak
    have lk := ats.length
    rw [List.length_map] at lk
    have ak : At R (.lst (kn.map knD)) (.ref pk) := ⟨pk, kvs, rfl, hk, ats⟩
    have mm : Mv (Fst s c) R H R H := .refl w.sub
    obtain ⟨rk, ek⟩ := kd_tag κ
    have aw9 := aw
    rw [ek] at aw9
    obtain ⟨pw, _, rfl, hw, v9, rw9, rfl, e9, _⟩ := aw9
    obtain rfl : v9 = _ := e9
    have zi : Kd.int.dp = 0 := rfl
    have nsk := nm_small (n := kn.length + 1) (by omega)
    have aop0 := aop
    obtain ⟨pop, _, rfl, hop, v0, _, rfl, e0, v1, _, rfl, b1, v2, _, rfl, b2, rfl⟩ := aop0
    obtain rfl : v0 = .str op.1 := e0
    have d1 := okop.2.1
    have d2 := okop.2.2
    refine ⟨_, rfl, pk, _, rfl, .inl (SqL.of (w.sub _ _ hk)), _, rfl, by rw [lk]; exact nsz.1, _, _, rfl, rfl, by rw [lk]; exact nsz.2.1, ?_⟩
    refine ⟨_, rfl, pk, _, rfl, .inl (SqL.of (w.sub _ _ hk)), _, _, rfl, rfl, _, rfl, by rw [lk]; exact nsk.1, _, _, rfl, rfl, by rw [lk]; exact nsk.2.2.1, ?_⟩
    rw [lk]
    refine ⟨.str (nmN "x" kn.length), .str (nmN "k" (kn.length + 1)), rfl, ?_⟩
    refine ⟨_, rfl, _, rfl, _, rfl, pop, _, 1, _, rfl, rfl, SqT.of (w.sub _ _ hop), rfl, by show 2 ≤ sizeLine; decide, fun p1 n1 => ?_⟩
    obtain ⟨Q1, m1, t1⟩ := lit2 w.sub (l := [.str (nmN "x" kn.length), op.2.1.d]) ⟨_, _, rfl, at_str, _, _, rfl, b1, rfl⟩ n1
    have w := w.up0 m1
    have mm := mm.tr0 m1
    have ao := ao.up m1.up
    have ak := ak.up m1.up
    have aw := aw.up m1.up
    have b1 := b1.up m1.up
    have b2 := b2.up m1.up
    have hk := m1.up _ _ hk
    have hop := m1.up _ _ hop
    have hw := m1.up _ _ hw
    refine ⟨_, rfl, _, rfl, pop, _, 2, _, rfl, rfl, SqT.of (w.sub _ _ hop), rfl, _, rfl, by show 3 ≤ sizeLine; decide, fun p2 n2 => ?_⟩
    obtain ⟨Q2, m2, t2⟩ := lit2 w.sub (l := [.str "fun", op.2.2.d, κ.d]) ⟨_, _, rfl, at_str, _, _, rfl, b2, _, _, rfl, aw, rfl⟩ n2
    have w := w.up0 m2
    have mm := mm.tr0 m2
    have ao := ao.up m2.up
    have ak := ak.up m2.up
    have aw := aw.up m2.up
    have b1 := b1.up m2.up
    have b2 := b2.up m2.up
    have t1 := t1.up m2.up
    have hk := m2.up _ _ hk
    have hop := m2.up _ _ hop
    have hw := m2.up _ _ hw
    refine ⟨by show 2 ≤ sizeLine; decide, fun p3 n3 => ?_⟩
    obtain ⟨Q3, m3, t3⟩ := lit2 w.sub (l := [.str (nmN "k" (kn.length + 1)), (Kd.fn op.2.2 κ).d]) ⟨_, _, rfl, at_str, _, _, rfl, t2, rfl⟩ n3
    have w := w.up0 m3
    have mm := mm.tr0 m3
    have ao := ao.up m3.up
    have ak := ak.up m3.up
    have aw := aw.up m3.up
    have b1 := b1.up m3.up
    have b2 := b2.up m3.up
    have t1 := t1.up m3.up
    have t2 := t2.up m3.up
    have hk := m3.up _ _ hk
    have hop := m3.up _ _ hop
    have hw := m3.up _ _ hw
    refine ⟨by show 2 ≤ sizeLine; decide, fun p4 n4 => ?_⟩
    obtain ⟨Q4, m4, al⟩ := lit3 w.sub (l := [knD ((nmN "x" kn.length), op.2.1), knD ((nmN "k" (kn.length + 1)), .fn op.2.2 κ)]) ⟨_, _, rfl, t1, _, _, rfl, t3, rfl⟩ n4
    have w := w.up0 m4
    have mm := mm.tr0 m4
    have ao := ao.up m4.up
    have ak := ak.up m4.up
    have aw := aw.up m4.up
    have b1 := b1.up m4.up
    have b2 := b2.up m4.up
    have t1 := t1.up m4.up
    have t2 := t2.up m4.up
    have t3 := t3.up m4.up
    have hk := m4.up _ _ hk
    have hop := m4.up _ _ hop
    have hw := m4.up _ _ hw
    obtain ⟨pa, va, ea, ha, ta⟩ := id ak
    obtain ⟨pb, vb, eb, hb, tb⟩ := id al
    cases ea; cases eb
    have len1 := ta.length
    rw [List.length_map] at len1
    have len2 : vb.length = 2 := tb.length
    refine ⟨_, _, _, _, rfl, rfl, w.sub _ _ ha, w.sub _ _ hb, big3 (by omega), fun pI nI => ?_⟩
    obtain ⟨QI, mI, aki⟩ := lit3 w.sub (l := (kn ++ [((nmN "x" kn.length), op.2.1), ((nmN "k" (kn.length + 1)), Kd.fn op.2.2 κ)]).map knD) (by rw [List.map_append]; exact ta.append tb) nI
    have w := w.up0 mI
    have mm := mm.tr0 mI
    have ao := ao.up mI.up
    have ak := ak.up mI.up
    have aw := aw.up mI.up
    have b1 := b1.up mI.up
    have b2 := b2.up mI.up
    have t1 := t1.up mI.up
    have t2 := t2.up mI.up
    have t3 := t3.up mI.up
    have al := al.up mI.up
    have hk := mI.up _ _ hk
    have hop := mI.up _ _ hop
    have hw := mI.up _ _ hw
    show gName 8 _ _ _ _
    refine ⟨_, rfl, _, s, c, 6, rfl, by decide, by decide, w.sub, w.rs, w.rc, w.st, fun J5 z5 st5 c5 z50 z51 => ?_⟩
    have w := w.took c5 st5
    have mm := mm.tr c5
    show gName 9 _ _ _ _
    refine ⟨_, rfl, _, rfl, _, rfl, pop, _, 1, _, rfl, rfl, SqT.of (w.sub _ _ hop), rfl, by show 2 ≤ sizeLine; decide, fun p7 n7 => ?_⟩
    obtain ⟨Q7, m7, at6⟩ := lit2 w.sub (l := [.str (nmN "x" kn.length), op.2.1.d]) ⟨_, _, rfl, at_str, _, _, rfl, b1, rfl⟩ n7
    have w := w.up0 m7
    have mm := mm.tr0 m7
    have ao := ao.up m7.up
    have ak := ak.up m7.up
    have aw := aw.up m7.up
    have b1 := b1.up m7.up
    have b2 := b2.up m7.up
    have aki := aki.up m7.up
    have hk := m7.up _ _ hk
    have hop := m7.up _ _ hop
    have hw := m7.up _ _ hw
    refine ⟨by show 1 ≤ sizeLine; decide, fun p8 n8 => ?_⟩
    obtain ⟨Q8, m8, al6⟩ := lit3 w.sub (l := [knD ((nmN "x" kn.length), op.2.1)]) ⟨_, _, rfl, at6, rfl⟩ n8
    have w := w.up0 m8
    have mm := mm.tr0 m8
    have ao := ao.up m8.up
    have ak := ak.up m8.up
    have aw := aw.up m8.up
    have b1 := b1.up m8.up
    have b2 := b2.up m8.up
    have aki := aki.up m8.up
    have at6 := at6.up m8.up
    have hk := m8.up _ _ hk
    have hop := m8.up _ _ hop
    have hw := m8.up _ _ hw
    obtain ⟨pa6, va6, ea6, ha6, ta6⟩ := id ak
    obtain ⟨pb6, vb6, eb6, hb6, tb6⟩ := id al6
    cases ea6; cases eb6
    have len9 := ta6.length
    rw [List.length_map] at len9
    have lem9 : vb6.length = 1 := tb6.length
    refine ⟨_, _, _, _, rfl, rfl, w.sub _ _ ha6, w.sub _ _ hb6, big3 (by omega), fun p9 n9 => ?_⟩
    obtain ⟨Q9, m9, ako⟩ := lit3 w.sub (l := (kn ++ [((nmN "x" kn.length), op.2.1)]).map knD) (by rw [List.map_append]; exact ta6.append tb6) n9
    have w := w.up0 m9
    have mm := mm.tr0 m9
    have ao := ao.up m9.up
    have ak := ak.up m9.up
    have aw := aw.up m9.up
    have b1 := b1.up m9.up
    have b2 := b2.up m9.up
    have aki := aki.up m9.up
    have at6 := at6.up m9.up
    have al6 := al6.up m9.up
    have hk := m9.up _ _ hk
    have hop := m9.up _ _ hop
    have hw := m9.up _ _ hw
    show gName 10 _ _ _ _
    have okI : okKn (kn ++ [((nmN "x" kn.length), op.2.1), ((nmN "k" (kn.length + 1)), Kd.fn op.2.2 κ)]) := fun p hp => by
      rcases List.mem_append.mp hp with z | z
      · exact okk p z
      rcases List.mem_cons.mp z with z | z
      · rw [z]; exact ⟨(okNm_x (Nat.lt_succ_of_lt hnl)), by show op.2.1.dp ≤ 20; omega⟩
      · rw [List.mem_singleton.mp z]
        refine ⟨(okNm_k (by omega)), ?_⟩
        show Nat.max op.2.2.dp κ.dp + 1 ≤ 20
        have : Nat.max op.2.2.dp κ.dp ≤ 19 := Nat.max_le.mpr ⟨by omega, by omega⟩
        omega
    have okO : okKn (kn ++ [((nmN "x" kn.length), op.2.1)]) := okk.snoc (okNm_x (Nat.lt_succ_of_lt hnl)) (by show op.2.1.dp ≤ 20; omega)
    have lI : (kn ++ [((nmN "x" kn.length), op.2.1), ((nmN "k" (kn.length + 1)), Kd.fn op.2.2 κ)]).length = kn.length + 2 := by rw [List.length_append]; rfl
    have lO : (kn ++ [((nmN "x" kn.length), op.2.1)]).length = kn.length + 1 := by rw [List.length_append]; rfl
    have opl : (PyData.str ("+" : Str)).canLay0 = true := by decide +kernel
    have lf := lf1 d2
    obtain ⟨xI, hxI⟩ : ∃ x, x = V.ref pI := ⟨_, rfl⟩
    refine ⟨fun σ' H' => ∃ (R' : Hp) (g : Ex) (vb : V) (y z : Option V), σ' = [some (.ref s), some vo, some (.ref pk), some (.ref pw), some (.int d), some (.ref pop), some (.str (nmN "x" kn.length)), some (.str (nmN "k" (kn.length + 1))), some (.ref pI), some (.int z5), some (.ref p9), some vb, y, z] ∧ Mv (Fst s c) R H R' H' ∧ Wd R' H' s c ∧ R' pop = some (.tup [.str op.1, v1, v2]) ∧ At R' (g.d false) vb ∧ Tr g (trA n + 1) (trB n + 2), ?_, ?_⟩
    · refine ⟨_, rfl, _, _, rfl, rfl, _, rfl, ?_⟩
      by_cases h1 : z5 < 2
      · refine ifT (decide_eq_true h1) ?_
        refine ⟨_, rfl, by show 2 ≤ sizeLine; decide, fun p10 n10 => ?_⟩
        obtain ⟨Q10, m10, an⟩ := lit2 w.sub (l := [.str "name", .str (nmN "k" (kn.length + 1))]) ⟨_, _, rfl, at_str, _, _, rfl, at_str, rfl⟩ n10
        have w := w.up0 m10
        have mm := mm.tr0 m10
        have ao := ao.up m10.up
        have ak := ak.up m10.up
        have aw := aw.up m10.up
        have b1 := b1.up m10.up
        have b2 := b2.up m10.up
        have aki := aki.up m10.up
        have ako := ako.up m10.up
        have hk := m10.up _ _ hk
        have hop := m10.up _ _ hop
        have hw := m10.up _ _ hw
        refine ⟨_, rfl, _, rfl, _, rfl, _, rfl, pop, _, 2, _, rfl, rfl, SqT.of (w.sub _ _ hop), rfl, _, rfl, _, _, rfl, rfl, _, s, c, ops, (kn ++ [((nmN "x" kn.length), op.2.1)]), op.2.2, _, _, _, d - 1, rfl, by omega, ⟨w, ao, oko, ako, okO, b2, by omega, by (try rw [lO]); omega, by (try rw [lO]); omega⟩, fun Q11 J11 e1 ve1 m w ae1 te1 => ?_⟩
        have mm := mm.tr m
        have ao := ao.up m.up
        have ak := ak.up m.up
        have aw := aw.up m.up
        have b1 := b1.up m.up
        have b2 := b2.up m.up
        have aki := aki.up m.up
        have ako := ako.up m.up
        have an := an.up m.up
        have hk := m.up _ _ hk
        have hop := m.up _ _ hop
        have hw := m.up _ _ hw
        refine ⟨by show 3 ≤ sizeLine; decide, fun p12 n12 => ?_⟩
        obtain ⟨Q12, m12, ar⟩ := lit2 w.sub (l := [.str "call", .tup [.str "name", .str (nmN "k" (kn.length + 1))], e1.d false]) ⟨_, _, rfl, at_str, _, _, rfl, an, _, _, rfl, ae1, rfl⟩ n12
        have w := w.up0 m12
        have mm := mm.tr0 m12
        have ao := ao.up m12.up
        have ak := ak.up m12.up
        have aw := aw.up m12.up
        have b1 := b1.up m12.up
        have b2 := b2.up m12.up
        have aki := aki.up m12.up
        have ako := ako.up m12.up
        have an := an.up m12.up
        have ae1 := ae1.up m12.up
        have hk := m12.up _ _ hk
        have hop := m12.up _ _ hop
        have hw := m12.up _ _ hw
        exact ⟨_, .call (.name (nmN "k" (kn.length + 1))) e1, _, _, _, rfl, mm, w, hop, ar, ((Tr.call ((Tr.name (okNm_k (by omega))).fit (by show 1 ≤ 7 + 5 * n; omega) (Nat.le_refl _)) te1).fit (Nat.le_refl _) (by omega))⟩
      refine ifF (decide_eq_false h1) ?_
      refine ⟨_, rfl, rfl, _, rfl, ?_⟩
      by_cases h2 : z5 = 2
      · refine ifT (decide_eq_true (by rw [h2])) ?_
        refine ⟨_, rfl, by show 2 ≤ sizeLine; decide, fun p10 n10 => ?_⟩
        obtain ⟨Q10, m10, an⟩ := lit2 w.sub (l := [.str "name", .str (nmN "k" (kn.length + 1))]) ⟨_, _, rfl, at_str, _, _, rfl, at_str, rfl⟩ n10
        have w := w.up0 m10
        have mm := mm.tr0 m10
        have ao := ao.up m10.up
        have ak := ak.up m10.up
        have aw := aw.up m10.up
        have b1 := b1.up m10.up
        have b2 := b2.up m10.up
        have aki := aki.up m10.up
        have ako := ako.up m10.up
        have hk := m10.up _ _ hk
        have hop := m10.up _ _ hop
        have hw := m10.up _ _ hw
        refine ⟨_, rfl, _, rfl, _, rfl, _, rfl, pop, _, 2, _, rfl, rfl, SqT.of (w.sub _ _ hop), rfl, _, rfl, _, _, rfl, rfl, _, s, c, ops, (kn ++ [((nmN "x" kn.length), op.2.1), ((nmN "k" (kn.length + 1)), Kd.fn op.2.2 κ)]), op.2.2, _, _, _, d - 1, rfl, by omega, ⟨w, ao, oko, aki, okI, b2, by omega, by (try rw [lI]); omega, by (try rw [lI]); omega⟩, fun Q11 J11 e1 ve1 m w ae1 te1 => ?_⟩
        have mm := mm.tr m
        have ao := ao.up m.up
        have ak := ak.up m.up
        have aw := aw.up m.up
        have b1 := b1.up m.up
        have b2 := b2.up m.up
        have aki := aki.up m.up
        have ako := ako.up m.up
        have an := an.up m.up
        have hk := m.up _ _ hk
        have hop := m.up _ _ hop
        have hw := m.up _ _ hw
        refine ⟨by show 3 ≤ sizeLine; decide, fun p12 n12 => ?_⟩
        obtain ⟨Q12, m12, ar⟩ := lit2 w.sub (l := [.str "call", .tup [.str "name", .str (nmN "k" (kn.length + 1))], e1.d false]) ⟨_, _, rfl, at_str, _, _, rfl, an, _, _, rfl, ae1, rfl⟩ n12
        have w := w.up0 m12
        have mm := mm.tr0 m12
        have ao := ao.up m12.up
        have ak := ak.up m12.up
        have aw := aw.up m12.up
        have b1 := b1.up m12.up
        have b2 := b2.up m12.up
        have aki := aki.up m12.up
        have ako := ako.up m12.up
        have an := an.up m12.up
        have ae1 := ae1.up m12.up
        have hk := m12.up _ _ hk
        have hop := m12.up _ _ hop
        have hw := m12.up _ _ hw
        exact ⟨_, .call (.name (nmN "k" (kn.length + 1))) e1, _, _, _, rfl, mm, w, hop, ar, ((Tr.call ((Tr.name (okNm_k (by omega))).fit (by show 1 ≤ 7 + 5 * n; omega) (Nat.le_refl _)) te1).fit (Nat.le_refl _) (by omega))⟩
      refine ifF (decide_eq_false fun h => h2 (V.int.inj h)) ?_
      refine ⟨_, rfl, rfl, _, rfl, ?_⟩
      by_cases h3 : z5 = 3
      · refine ifT (decide_eq_true (by rw [h3])) ?_
        refine ⟨_, rfl, pw, _, 0, _, rfl, rfl, SqT.of (w.sub _ _ hw), atI_nat (j := 0) rfl, ?_⟩
        refine ⟨rfl, _, rfl, ?_⟩
        refine iteB (fun _ => ?_) (fun _ => ?_)
        · refine ⟨_, rfl, by show 2 ≤ sizeLine; decide, fun p10 n10 => ?_⟩
          obtain ⟨Q10, m10, anac⟩ := lit2 w.sub (l := [.str "name", .str (nmN "k" (kn.length + 1))]) ⟨_, _, rfl, at_str, _, _, rfl, at_str, rfl⟩ n10
          have w := w.up0 m10
          have mm := mm.tr0 m10
          have ao := ao.up m10.up
          have ak := ak.up m10.up
          have aw := aw.up m10.up
          have b1 := b1.up m10.up
          have b2 := b2.up m10.up
          have aki := aki.up m10.up
          have ako := ako.up m10.up
          have hk := m10.up _ _ hk
          have hop := m10.up _ _ hop
          have hw := m10.up _ _ hw
          refine ⟨_, rfl, _, rfl, _, rfl, pop, _, 2, _, rfl, rfl, SqT.of (w.sub _ _ hop), rfl, _, s, c, (kn ++ [((nmN "x" kn.length), op.2.1)]), op.2.2, _, _, rfl, w, ako, b2, okO, by (try rw [lO]); omega, by (try rw [lO]); omega, fun Q11 J11 e1 ve1 m w ae1 te1 => ?_⟩
          have mm := mm.tr m
          have ao := ao.up m.up
          have ak := ak.up m.up
          have aw := aw.up m.up
          have b1 := b1.up m.up
          have b2 := b2.up m.up
          have aki := aki.up m.up
          have ako := ako.up m.up
          have anac := anac.up m.up
          have hk := m.up _ _ hk
          have hop := m.up _ _ hop
          have hw := m.up _ _ hw
          refine ⟨by show 3 ≤ sizeLine; decide, fun p12 n12 => ?_⟩
          obtain ⟨Q12, m12, ac⟩ := lit2 w.sub (l := [.str "call", .tup [.str "name", .str (nmN "k" (kn.length + 1))], e1.d false]) ⟨_, _, rfl, at_str, _, _, rfl, anac, _, _, rfl, ae1, rfl⟩ n12
          have w := w.up0 m12
          have mm := mm.tr0 m12
          have ao := ao.up m12.up
          have ak := ak.up m12.up
          have aw := aw.up m12.up
          have b1 := b1.up m12.up
          have b2 := b2.up m12.up
          have aki := aki.up m12.up
          have ako := ako.up m12.up
          have anac := anac.up m12.up
          have ae1 := ae1.up m12.up
          have hk := m12.up _ _ hk
          have hop := m12.up _ _ hop
          have hw := m12.up _ _ hw
          show gName 12 _ _ _ _
          refine ⟨_, rfl, _, rfl, by show 2 ≤ sizeLine; decide, fun p13 n13 => ?_⟩
          obtain ⟨Q13, m13, anad⟩ := lit2 w.sub (l := [.str "name", .str (nmN "k" (kn.length + 1))]) ⟨_, _, rfl, at_str, _, _, rfl, at_str, rfl⟩ n13
          have w := w.up0 m13
          have mm := mm.tr0 m13
          have ao := ao.up m13.up
          have ak := ak.up m13.up
          have aw := aw.up m13.up
          have b1 := b1.up m13.up
          have b2 := b2.up m13.up
          have aki := aki.up m13.up
          have ako := ako.up m13.up
          have anac := anac.up m13.up
          have ae1 := ae1.up m13.up
          have ac := ac.up m13.up
          have hk := m13.up _ _ hk
          have hop := m13.up _ _ hop
          have hw := m13.up _ _ hw
          refine ⟨_, rfl, _, rfl, _, rfl, pop, _, 2, _, rfl, rfl, SqT.of (w.sub _ _ hop), rfl, _, s, c, (kn ++ [((nmN "x" kn.length), op.2.1)]), op.2.2, _, _, rfl, w, ako, b2, okO, by (try rw [lO]); omega, by (try rw [lO]); omega, fun Q14 J14 e2 ve2 m w ae2 te2 => ?_⟩
          have mm := mm.tr m
          have ao := ao.up m.up
          have ak := ak.up m.up
          have aw := aw.up m.up
          have b1 := b1.up m.up
          have b2 := b2.up m.up
          have aki := aki.up m.up
          have ako := ako.up m.up
          have anac := anac.up m.up
          have ae1 := ae1.up m.up
          have ac := ac.up m.up
          have anad := anad.up m.up
          have hk := m.up _ _ hk
          have hop := m.up _ _ hop
          have hw := m.up _ _ hw
          refine ⟨by show 3 ≤ sizeLine; decide, fun p15 n15 => ?_⟩
          obtain ⟨Q15, m15, ad⟩ := lit2 w.sub (l := [.str "call", .tup [.str "name", .str (nmN "k" (kn.length + 1))], e2.d false]) ⟨_, _, rfl, at_str, _, _, rfl, anad, _, _, rfl, ae2, rfl⟩ n15
          have w := w.up0 m15
          have mm := mm.tr0 m15
          have ao := ao.up m15.up
          have ak := ak.up m15.up
          have aw := aw.up m15.up
          have b1 := b1.up m15.up
          have b2 := b2.up m15.up
          have aki := aki.up m15.up
          have ako := ako.up m15.up
          have anac := anac.up m15.up
          have ae1 := ae1.up m15.up
          have ac := ac.up m15.up
          have anad := anad.up m15.up
          have ae2 := ae2.up m15.up
          have hk := m15.up _ _ hk
          have hop := m15.up _ _ hop
          have hw := m15.up _ _ hw
          refine ⟨by show 4 ≤ sizeLine; decide, fun p16 n16 => ?_⟩
          obtain ⟨Q16, m16, ar⟩ := lit2 w.sub (l := [.str "op", .str "+", .tup [.str "call", .tup [.str "name", .str (nmN "k" (kn.length + 1))], e1.d false], .tup [.str "call", .tup [.str "name", .str (nmN "k" (kn.length + 1))], e2.d false]]) ⟨_, _, rfl, at_str, _, _, rfl, at_str, _, _, rfl, ac, _, _, rfl, ad, rfl⟩ n16
          have w := w.up0 m16
          have mm := mm.tr0 m16
          have ao := ao.up m16.up
          have ak := ak.up m16.up
          have aw := aw.up m16.up
          have b1 := b1.up m16.up
          have b2 := b2.up m16.up
          have aki := aki.up m16.up
          have ako := ako.up m16.up
          have anac := anac.up m16.up
          have ae1 := ae1.up m16.up
          have ac := ac.up m16.up
          have anad := anad.up m16.up
          have ae2 := ae2.up m16.up
          have ad := ad.up m16.up
          have hk := m16.up _ _ hk
          have hop := m16.up _ _ hop
          have hw := m16.up _ _ hw
          exact ⟨_, .op "+" (.call (.name (nmN "k" (kn.length + 1))) e1) (.call (.name (nmN "k" (kn.length + 1))) e2), _, _, _, rfl, mm, w, hop, ar, ((Tr.op opl (Tr.call ((Tr.name (okNm_k (by omega))).fit (by omega : 1 ≤ 2) (Nat.le_refl 1)) (te1.fit (by omega : _ ≤ 2) lf)) (Tr.call ((Tr.name (okNm_k (by omega))).fit (by omega : 1 ≤ 2) (Nat.le_refl 1)) (te2.fit (by omega : _ ≤ 2) lf))).fit (by show 4 ≤ 7 + 5 * n + 1; omega) (by omega))⟩
        · refine ⟨_, rfl, rfl, _, rfl, ?_⟩
          by_cases h4 : z5 = 4
          · refine ifT (decide_eq_true (by rw [h4])) ?_
            refine ⟨_, rfl, _, rfl, by show 1 ≤ sizeLine; decide, fun p10 n10 => ?_⟩
            obtain ⟨Q10, m10, ai⟩ := lit2 w.sub (l := [.str "int"]) ⟨_, _, rfl, at_str, rfl⟩ n10
            have w := w.up0 m10
            have mm := mm.tr0 m10
            have ao := ao.up m10.up
            have ak := ak.up m10.up
            have aw := aw.up m10.up
            have b1 := b1.up m10.up
            have b2 := b2.up m10.up
            have aki := aki.up m10.up
            have ako := ako.up m10.up
            have hk := m10.up _ _ hk
            have hop := m10.up _ _ hop
            have hw := m10.up _ _ hw
            refine ⟨_, s, c, (kn ++ [((nmN "x" kn.length), op.2.1)]), .int, _, _, rfl, w, ako, ai, okO, by (try rw [lO]); omega, by (try rw [lO]); omega, fun Q11 J11 e1 ve1 m w ae1 te1 => ?_⟩
            have mm := mm.tr m
            have ao := ao.up m.up
            have ak := ak.up m.up
            have aw := aw.up m.up
            have b1 := b1.up m.up
            have b2 := b2.up m.up
            have aki := aki.up m.up
            have ako := ako.up m.up
            have ai := ai.up m.up
            have hk := m.up _ _ hk
            have hop := m.up _ _ hop
            have hw := m.up _ _ hw
            show gName 13 _ _ _ _
            refine ⟨_, rfl, _, rfl, by show 2 ≤ sizeLine; decide, fun p12 n12 => ?_⟩
            obtain ⟨Q12, m12, anac⟩ := lit2 w.sub (l := [.str "name", .str (nmN "k" (kn.length + 1))]) ⟨_, _, rfl, at_str, _, _, rfl, at_str, rfl⟩ n12
            have w := w.up0 m12
            have mm := mm.tr0 m12
            have ao := ao.up m12.up
            have ak := ak.up m12.up
            have aw := aw.up m12.up
            have b1 := b1.up m12.up
            have b2 := b2.up m12.up
            have aki := aki.up m12.up
            have ako := ako.up m12.up
            have ai := ai.up m12.up
            have ae1 := ae1.up m12.up
            have hk := m12.up _ _ hk
            have hop := m12.up _ _ hop
            have hw := m12.up _ _ hw
            refine ⟨_, rfl, _, rfl, _, rfl, pop, _, 2, _, rfl, rfl, SqT.of (w.sub _ _ hop), rfl, _, s, c, (kn ++ [((nmN "x" kn.length), op.2.1)]), op.2.2, _, _, rfl, w, ako, b2, okO, by (try rw [lO]); omega, by (try rw [lO]); omega, fun Q13 J13 e2 ve2 m w ae2 te2 => ?_⟩
            have mm := mm.tr m
            have ao := ao.up m.up
            have ak := ak.up m.up
            have aw := aw.up m.up
            have b1 := b1.up m.up
            have b2 := b2.up m.up
            have aki := aki.up m.up
            have ako := ako.up m.up
            have ai := ai.up m.up
            have ae1 := ae1.up m.up
            have anac := anac.up m.up
            have hk := m.up _ _ hk
            have hop := m.up _ _ hop
            have hw := m.up _ _ hw
            refine ⟨by show 3 ≤ sizeLine; decide, fun p14 n14 => ?_⟩
            obtain ⟨Q14, m14, ac⟩ := lit2 w.sub (l := [.str "call", .tup [.str "name", .str (nmN "k" (kn.length + 1))], e2.d false]) ⟨_, _, rfl, at_str, _, _, rfl, anac, _, _, rfl, ae2, rfl⟩ n14
            have w := w.up0 m14
            have mm := mm.tr0 m14
            have ao := ao.up m14.up
            have ak := ak.up m14.up
            have aw := aw.up m14.up
            have b1 := b1.up m14.up
            have b2 := b2.up m14.up
            have aki := aki.up m14.up
            have ako := ako.up m14.up
            have ai := ai.up m14.up
            have ae1 := ae1.up m14.up
            have anac := anac.up m14.up
            have ae2 := ae2.up m14.up
            have hk := m14.up _ _ hk
            have hop := m14.up _ _ hop
            have hw := m14.up _ _ hw
            refine ⟨by show 3 ≤ sizeLine; decide, fun p15 n15 => ?_⟩
            obtain ⟨Q15, m15, ar⟩ := lit2 w.sub (l := [.str "print", e1.d false, .tup [.str "call", .tup [.str "name", .str (nmN "k" (kn.length + 1))], e2.d false]]) ⟨_, _, rfl, at_str, _, _, rfl, ae1, _, _, rfl, ac, rfl⟩ n15
            have w := w.up0 m15
            have mm := mm.tr0 m15
            have ao := ao.up m15.up
            have ak := ak.up m15.up
            have aw := aw.up m15.up
            have b1 := b1.up m15.up
            have b2 := b2.up m15.up
            have aki := aki.up m15.up
            have ako := ako.up m15.up
            have ai := ai.up m15.up
            have ae1 := ae1.up m15.up
            have anac := anac.up m15.up
            have ae2 := ae2.up m15.up
            have ac := ac.up m15.up
            have hk := m15.up _ _ hk
            have hop := m15.up _ _ hop
            have hw := m15.up _ _ hw
            exact ⟨_, .pr e1 (.call (.name (nmN "k" (kn.length + 1))) e2), _, _, _, rfl, mm, w, hop, ar, ((Tr.pr (te1.fit (by show 0 + 1 ≤ 3; omega) (Nat.le_refl _)) (Tr.call ((Tr.name (okNm_k (by omega))).fit (by omega : 1 ≤ 2) (Nat.le_refl 1)) (te2.fit (by omega : _ ≤ 2) lf))).fit (by show 4 ≤ 7 + 5 * n + 1; omega) (by show 1 + _ + 1 ≤ _; omega))⟩
          refine ifF (decide_eq_false fun h => h4 (V.int.inj h)) ?_
          refine ⟨_, rfl, _, rfl, _, rfl, _, rfl, _, rfl, _, _, rfl, rfl, _, s, c, ops, (kn ++ [((nmN "x" kn.length), op.2.1), ((nmN "k" (kn.length + 1)), Kd.fn op.2.2 κ)]), κ, _, _, _, d - 1, rfl, by omega, ⟨w, ao, oko, aki, okI, aw, by omega, by (try rw [lI]); omega, by (try rw [lI]); omega⟩, fun Q10 J10 e1 ve1 m w ae1 te1 => ?_⟩
          have mm := mm.tr m
          have ao := ao.up m.up
          have ak := ak.up m.up
          have aw := aw.up m.up
          have b1 := b1.up m.up
          have b2 := b2.up m.up
          have aki := aki.up m.up
          have ako := ako.up m.up
          have hk := m.up _ _ hk
          have hop := m.up _ _ hop
          have hw := m.up _ _ hw
          exact ⟨_, e1, _, _, _, rfl, mm, w, hop, ae1, (te1.fit (Nat.le_succ _) (by omega))⟩
      refine ifF (decide_eq_false fun h => h3 (V.int.inj h)) ?_
      refine ⟨_, rfl, rfl, _, rfl, ?_⟩
      by_cases h4 : z5 = 4
      · refine ifT (decide_eq_true (by rw [h4])) ?_
        refine ⟨_, rfl, _, rfl, by show 1 ≤ sizeLine; decide, fun p10 n10 => ?_⟩
        obtain ⟨Q10, m10, ai⟩ := lit2 w.sub (l := [.str "int"]) ⟨_, _, rfl, at_str, rfl⟩ n10
        have w := w.up0 m10
        have mm := mm.tr0 m10
        have ao := ao.up m10.up
        have ak := ak.up m10.up
        have aw := aw.up m10.up
        have b1 := b1.up m10.up
        have b2 := b2.up m10.up
        have aki := aki.up m10.up
        have ako := ako.up m10.up
        have hk := m10.up _ _ hk
        have hop := m10.up _ _ hop
        have hw := m10.up _ _ hw
        refine ⟨_, s, c, (kn ++ [((nmN "x" kn.length), op.2.1)]), .int, _, _, rfl, w, ako, ai, okO, by (try rw [lO]); omega, by (try rw [lO]); omega, fun Q11 J11 e1 ve1 m w ae1 te1 => ?_⟩
        have mm := mm.tr m
        have ao := ao.up m.up
        have ak := ak.up m.up
        have aw := aw.up m.up
        have b1 := b1.up m.up
        have b2 := b2.up m.up
        have aki := aki.up m.up
        have ako := ako.up m.up
        have ai := ai.up m.up
        have hk := m.up _ _ hk
        have hop := m.up _ _ hop
        have hw := m.up _ _ hw
        show gName 13 _ _ _ _
        refine ⟨_, rfl, _, rfl, by show 2 ≤ sizeLine; decide, fun p12 n12 => ?_⟩
        obtain ⟨Q12, m12, anac⟩ := lit2 w.sub (l := [.str "name", .str (nmN "k" (kn.length + 1))]) ⟨_, _, rfl, at_str, _, _, rfl, at_str, rfl⟩ n12
        have w := w.up0 m12
        have mm := mm.tr0 m12
        have ao := ao.up m12.up
        have ak := ak.up m12.up
        have aw := aw.up m12.up
        have b1 := b1.up m12.up
        have b2 := b2.up m12.up
        have aki := aki.up m12.up
        have ako := ako.up m12.up
        have ai := ai.up m12.up
        have ae1 := ae1.up m12.up
        have hk := m12.up _ _ hk
        have hop := m12.up _ _ hop
        have hw := m12.up _ _ hw
        refine ⟨_, rfl, _, rfl, _, rfl, pop, _, 2, _, rfl, rfl, SqT.of (w.sub _ _ hop), rfl, _, s, c, (kn ++ [((nmN "x" kn.length), op.2.1)]), op.2.2, _, _, rfl, w, ako, b2, okO, by (try rw [lO]); omega, by (try rw [lO]); omega, fun Q13 J13 e2 ve2 m w ae2 te2 => ?_⟩
        have mm := mm.tr m
        have ao := ao.up m.up
        have ak := ak.up m.up
        have aw := aw.up m.up
        have b1 := b1.up m.up
        have b2 := b2.up m.up
        have aki := aki.up m.up
        have ako := ako.up m.up
        have ai := ai.up m.up
        have ae1 := ae1.up m.up
        have anac := anac.up m.up
        have hk := m.up _ _ hk
        have hop := m.up _ _ hop
        have hw := m.up _ _ hw
        refine ⟨by show 3 ≤ sizeLine; decide, fun p14 n14 => ?_⟩
        obtain ⟨Q14, m14, ac⟩ := lit2 w.sub (l := [.str "call", .tup [.str "name", .str (nmN "k" (kn.length + 1))], e2.d false]) ⟨_, _, rfl, at_str, _, _, rfl, anac, _, _, rfl, ae2, rfl⟩ n14
        have w := w.up0 m14
        have mm := mm.tr0 m14
        have ao := ao.up m14.up
        have ak := ak.up m14.up
        have aw := aw.up m14.up
        have b1 := b1.up m14.up
        have b2 := b2.up m14.up
        have aki := aki.up m14.up
        have ako := ako.up m14.up
        have ai := ai.up m14.up
        have ae1 := ae1.up m14.up
        have anac := anac.up m14.up
        have ae2 := ae2.up m14.up
        have hk := m14.up _ _ hk
        have hop := m14.up _ _ hop
        have hw := m14.up _ _ hw
        refine ⟨by show 3 ≤ sizeLine; decide, fun p15 n15 => ?_⟩
        obtain ⟨Q15, m15, ar⟩ := lit2 w.sub (l := [.str "print", e1.d false, .tup [.str "call", .tup [.str "name", .str (nmN "k" (kn.length + 1))], e2.d false]]) ⟨_, _, rfl, at_str, _, _, rfl, ae1, _, _, rfl, ac, rfl⟩ n15
        have w := w.up0 m15
        have mm := mm.tr0 m15
        have ao := ao.up m15.up
        have ak := ak.up m15.up
        have aw := aw.up m15.up
        have b1 := b1.up m15.up
        have b2 := b2.up m15.up
        have aki := aki.up m15.up
        have ako := ako.up m15.up
        have ai := ai.up m15.up
        have ae1 := ae1.up m15.up
        have anac := anac.up m15.up
        have ae2 := ae2.up m15.up
        have ac := ac.up m15.up
        have hk := m15.up _ _ hk
        have hop := m15.up _ _ hop
        have hw := m15.up _ _ hw
        exact ⟨_, .pr e1 (.call (.name (nmN "k" (kn.length + 1))) e2), _, _, _, rfl, mm, w, hop, ar, ((Tr.pr (te1.fit (by show 0 + 1 ≤ 3; omega) (Nat.le_refl _)) (Tr.call ((Tr.name (okNm_k (by omega))).fit (by omega : 1 ≤ 2) (Nat.le_refl 1)) (te2.fit (by omega : _ ≤ 2) lf))).fit (by show 4 ≤ 7 + 5 * n + 1; omega) (by show 1 + _ + 1 ≤ _; omega))⟩
      refine ifF (decide_eq_false fun h => h4 (V.int.inj h)) ?_
      refine ⟨_, rfl, _, rfl, _, rfl, _, rfl, _, rfl, _, _, rfl, rfl, _, s, c, ops, (kn ++ [((nmN "x" kn.length), op.2.1), ((nmN "k" (kn.length + 1)), Kd.fn op.2.2 κ)]), κ, _, _, _, d - 1, rfl, by omega, ⟨w, ao, oko, aki, okI, aw, by omega, by (try rw [lI]); omega, by (try rw [lI]); omega⟩, fun Q10 J10 e1 ve1 m w ae1 te1 => ?_⟩
      have mm := mm.tr m
      have ao := ao.up m.up
      have ak := ak.up m.up
      have aw := aw.up m.up
      have b1 := b1.up m.up
      have b2 := b2.up m.up
      have aki := aki.up m.up
      have ako := ako.up m.up
      have hk := m.up _ _ hk
      have hop := m.up _ _ hop
      have hw := m.up _ _ hw
      exact ⟨_, e1, _, _, _, rfl, mm, w, hop, ae1, (te1.fit (Nat.le_succ _) (by omega))⟩
    rintro σ' H' ⟨R1, g, vg, y1, y2, rfl, mm, w, hop, ag, tg⟩
    refine ⟨_, rfl, pop, _, 0, _, rfl, rfl, SqT.of (w.sub _ _ hop), rfl, _, rfl, _, rfl, _, rfl, by show 4 ≤ sizeLine; decide, fun p10 n10 => ?_⟩
    obtain ⟨Q10, m10, ar⟩ := lit2 w.sub (l := [.str op.1, .str (nmN "x" kn.length), .str (nmN "k" (kn.length + 1)), g.d false]) ⟨_, _, rfl, at_str, _, _, rfl, at_str, _, _, rfl, at_str, _, _, rfl, ag, rfl⟩ n10
    have w := w.up0 m10
    have mm := mm.tr0 m10
    have ag := ag.up m10.up
    have hop := m10.up _ _ hop
    exact q _ _ _ _ g _ mm w ar (okNm_x (Nat.lt_succ_of_lt hnl)) (okNm_k (by omega)) tg
end
end Bz


set_option Elab.async false
set_option linter.all false
set_option maxRecDepth 100000
set_option maxHeartbeats 4000000
namespace Bz
open PySem PySem.Spec L2 PyProof.Rows
theorem cl_len : ∀ c : Clz, (c.d false).length = c.len
  | .nil => rfl
  | .cons _ _ _ _ r => congrArg (· + 1) (cl_len r)
section
variable {P : Program} {w : World} {K : PySem.W.Frag} {mg : Str → Option Value} {base : Heap}
abbrev g__law_handling : Stmt := topS 21
abbrev n__law_handling : List Str := ["state", "ops", "known", "wanted", "depth", "other", "handled", "name", "last", "clauses", "operation"]
abbrev p__law_handling : List Str := ["state", "ops", "known", "wanted", "depth"]
theorem sc__law_handling : FnScope n__law_handling p__law_handling (defScope g__law_handling) := ⟨rfl, rfl, rfl, by decide +kernel, rfl, by decide +kernel, by decide +kernel⟩
theorem ok_handling {n : Nat} {f fT fL fK fV : Addr} {fd fdT fdL fdK fdV : FuncData} (F : Fun K "_law_handling" "_law_handling" g__law_handling f fd) (ml : mg "len" = none) (ms : mg "str" = none) (GT : Fn P w K mg base CX0 1 "_law_take" p__law_take spTake fT fdT) (GL : Fn P w K mg base CX0 9 "_law_leaf" p__law_leaf (spLeaf 7) fL fdL)
    (GK : Fn P w K mg base CX0 4 "_law_kind" p__law_kind (spKind 2) fK fdK) (GV : Fn P w K mg base CX0 (10 + 3 * n) "_law_tree" ["state", "ops", "known", "wanted", "depth"] (spTree n) fV fdV) (mtu : mg "tuple" = none) {fC : Addr} {fdC : FuncData} (GC : Fn P w K mg base CX0 (10 + 3 * n + 1) "_law_clause" p__law_clause (spClause n) fC fdC) : FnOk P w K mg base CX0 (10 + 3 * n + 1 + 1) f fd p__law_handling (spTree (n + 1)) := by
  refine F.ok (k := 10 + 3 * n + 1) sc__law_handling (fun vs H Q E h => ?_) (fun cdv A outer st H vs Q E hr h => ?_)
  · obtain ⟨R, s, c, ops, kn, κ, vo, vk, vw, d, rfl, _⟩ := h
    rfl
  · obtain ⟨R, s, c, ops, kn, κ, vo, vk, vw, d, rfl, hd, ⟨w, ao, oko, ak, okk, aw, nq4, kl, kd⟩, q⟩ := h
    refine ⟨_, (pss_cons (ps_set (i := 5) sc__law_handling.nd rfl (Or.inl rfl) (pv 3))
      (C8.pss_cut (ps_if (pt_cmpR op_eq (pe_call GT.ok (hr.mono (by omega)) (by rfl) GT.g GT.kp GT.b .nil pass0 (pa_cons (pv 0) (pa_cons (pe_int) pa_nil))) (pe_int) (nomark _)) (pss_one (ps_set (i := 5) sc__law_handling.nd rfl (Or.inl rfl) (pe_call GK.ok (hr.mono (by omega)) (by rfl) GK.g GK.kp GK.b .nil pass0 (pa_cons (pv 0) (pa_cons (pe_int) pa_nil))))) pss_nil)
      (pss_cons (ps_set (i := 6) sc__law_handling.nd rfl (Or.inl rfl) (pe_call GV.ok (hr.mono (by omega)) (by rfl) GV.g GV.kp GV.b .nil pass0 (pa_cons (pv 0) (pa_cons (pv 1) (pa_cons (pv 2) (pa_cons (pv 5) (pa_cons (pe_op op_sub (pv 4) (pe_int)) pa_nil)))))))
      (pss_cons (ps_set (i := 7) sc__law_handling.nd rfl (Or.inl rfl) (pe_op op_add_str (pe_str) (pe_callTy call_str_int (by rfl) ms (by decide +kernel) (pa_cons (pe_callB call_len_seq (by rfl) ml PySem.boot_len (pa_cons (pv 2) pa_nil)) pa_nil))))
      (pss_cons (ps_set (i := 8) sc__law_handling.nd rfl (Or.inl rfl) (pe_call GV.ok (hr.mono (by omega)) (by rfl) GV.g GV.kp GV.b .nil pass0 (pa_cons (pv 0) (pa_cons (pv 1) (pa_cons (pe_op op_cat (pv 2) (pe_lst (pa_cons (pe_tup (pa_cons (pv 7) (pa_cons (pv 5) pa_nil))) pa_nil))) (pa_cons (pv 3) (pa_cons (pe_op op_sub (pv 4) (pe_int)) pa_nil)))))))
      (pss_cons (ps_set (i := 9) sc__law_handling.nd rfl (Or.inl rfl) (pe_lst pa_nil))
      (pss_cons (ps_for PassesOwn.never rfl (pi_list (pv 1)) (pg_name (i := 10) sc__law_handling.nd rfl (Or.inl rfl)) (pss_one (ps_if (pt_cmpR op_gt (pe_call GT.ok (hr.mono (by omega)) (by rfl) GT.g GT.kp GT.b .nil pass0 (pa_cons (pv 0) (pa_cons (pe_int) pa_nil))) (pe_int) (nomark _)) (pss_one (ps_expr (pe_bm PySem.F.plainAttrs_list PySem.F.slot_list_append PySem.F.type_list_append mt_append (pv 9) (pa_cons (pe_call GC.ok hr (by rfl) GC.g GC.kp GC.b .nil pass0 (pa_cons (pv 0) (pa_cons (pv 1) (pa_cons (pv 2) (pa_cons (pv 3) (pa_cons (pv 4) (pa_cons (pv 10) pa_nil))))))) pa_nil)))) pss_nil)))
      (pss_one (ps_ret (pe_tup (pa_cons (pe_str) (pa_cons (pv 6) (pa_cons (pe_tup (pa_cons (pv 7) (pa_cons (pv 8) pa_nil))) (pa_cons (pe_callTy call_tuple_of (by rfl) mtu (by decide +kernel) (pa_cons (pv 9) pa_nil)) pa_nil)))))))))))))), ?_⟩
    have hB := trB_ge n
    have hnl : kn.length < 15 := by omega
    have nsz := nm_small (n := kn.length) (by omega)
    obtain ⟨pk, kvs, rfl, hk, ats⟩ := ak
    have lk := ats.length
    rw [List.length_map] at lk
    have ak : At R (.lst (kn.map knD)) (.ref pk) := ⟨pk, kvs, rfl, hk, ats⟩
    have mm : Mv (Fst s c) R H R H := .refl w.sub
    obtain ⟨po, ovs, rfl, ho, oats⟩ := ao
    have lo := oats.length
    rw [List.length_map] at lo
    have lo4 := oko.2.1
    have ao : At R (.lst (ops.map opD)) (.ref po) := ⟨po, ovs, rfl, ho, oats⟩
    refine ⟨_, rfl, ?_⟩
    show gName 5 vw _ _ _
    refine ⟨fun σ' H' => ∃ (R' : Hp) (vo : V) (ko : Kd), σ' = [some (.ref s), some (.ref po), some (.ref pk), some vw, some (.int d), some vo, none, none, none, none, none] ∧ Mv (Fst s c) R H R' H' ∧ Wd R' H' s c ∧ At R' ko.d vo ∧ ko.dp + n ≤ 6 ∧ ko.dp ≤ 20, ?_, ?_⟩
    · refine ⟨_, rfl, _, s, c, 3, rfl, by decide, by decide, w.sub, w.rs, w.rc, w.st, fun J1 z1 st1 c1 z10 z11 => ?_⟩
      have w := w.took c1 st1
      have mm := mm.tr c1
      refine ⟨rfl, _, rfl, ?_⟩
      by_cases h1 : z1 = 0
      · refine ifT (decide_eq_true (by rw [h1])) ?_
        refine ⟨_, rfl, _, s, c, 1, rfl, w, by decide, fun Q2 J2 ko vko m w ako dko => ?_⟩
        have mm := mm.tr m
        have ao := ao.up m.up
        have ak := ak.up m.up
        have aw := aw.up m.up
        have hk := m.up _ _ hk
        exact ⟨_, _, ko, rfl, mm, w, ako, by omega, by omega⟩
      · exact ifF (decide_eq_false fun h => h1 (V.int.inj h)) ⟨R, vw, κ, rfl, mm, w, aw, by omega, by omega⟩
    rintro σ' H' ⟨R1, vo, ko, rfl, mm, w, ako, dko, dko2⟩
    have ao := ao.up mm.up
    have ak := ak.up mm.up
    have aw := aw.up mm.up
    have hk := mm.up _ _ hk
    have ho := mm.up _ _ ho
    have oats := oats.up mm.up
    refine ⟨_, rfl, _, rfl, _, rfl, _, rfl, _, rfl, _, _, rfl, rfl, _, s, c, ops, kn, ko, _, _, _, d - 1, rfl, by omega, ⟨w, ao, oko, ak, okk, ako, by omega, by  omega, by  omega⟩, fun Q1 J1 e1 ve1 m w ae1 te1 => ?_⟩
    have mm := mm.tr m
    have ao := ao.up m.up
    have ak := ak.up m.up
    have aw := aw.up m.up
    have ako := ako.up m.up
    have oats := oats.up m.up
    have hk := m.up _ _ hk
    have ho := m.up _ _ ho
    show gName 6 _ _ _ _
    refine ⟨_, rfl, pk, _, rfl, .inl (SqL.of (w.sub _ _ hk)), _, rfl, by rw [lk]; exact nsz.1, _, _, rfl, rfl, by rw [lk]; exact nsz.2.1, ?_⟩
    rw [lk]
    show gName 7 (.str (nmN "x" kn.length)) _ _ _
    refine ⟨_, rfl, _, rfl, _, rfl, _, rfl, _, rfl, by show 2 ≤ sizeLine; decide, fun p3 n3 => ?_⟩
    obtain ⟨Q3, m3, at2⟩ := lit2 w.sub (l := [.str (nmN "x" kn.length), ko.d]) ⟨_, _, rfl, at_str, _, _, rfl, ako, rfl⟩ n3
    have w := w.up0 m3
    have mm := mm.tr0 m3
    have ao := ao.up m3.up
    have ak := ak.up m3.up
    have aw := aw.up m3.up
    have ako := ako.up m3.up
    have oats := oats.up m3.up
    have ae1 := ae1.up m3.up
    have hk := m3.up _ _ hk
    have ho := m3.up _ _ ho
    refine ⟨by show 1 ≤ sizeLine; decide, fun p4 n4 => ?_⟩
    obtain ⟨Q4, m4, al2⟩ := lit3 w.sub (l := [knD ((nmN "x" kn.length), ko)]) ⟨_, _, rfl, at2, rfl⟩ n4
    have w := w.up0 m4
    have mm := mm.tr0 m4
    have ao := ao.up m4.up
    have ak := ak.up m4.up
    have aw := aw.up m4.up
    have ako := ako.up m4.up
    have oats := oats.up m4.up
    have ae1 := ae1.up m4.up
    have at2 := at2.up m4.up
    have hk := m4.up _ _ hk
    have ho := m4.up _ _ ho
    obtain ⟨pa2, va2, ea2, ha2, ta2⟩ := id ak
    obtain ⟨pb2, vb2, eb2, hb2, tb2⟩ := id al2
    cases ea2; cases eb2
    have len5 := ta2.length
    rw [List.length_map] at len5
    have lem5 : vb2.length = 1 := tb2.length
    refine ⟨_, _, _, _, rfl, rfl, w.sub _ _ ha2, w.sub _ _ hb2, big3 (by omega), fun p5 n5 => ?_⟩
    obtain ⟨Q5, m5, ak2⟩ := lit3 w.sub (l := (kn ++ [((nmN "x" kn.length), ko)]).map knD) (by rw [List.map_append]; exact ta2.append tb2) n5
    have w := w.up0 m5
    have mm := mm.tr0 m5
    have ao := ao.up m5.up
    have ak := ak.up m5.up
    have aw := aw.up m5.up
    have ako := ako.up m5.up
    have oats := oats.up m5.up
    have ae1 := ae1.up m5.up
    have at2 := at2.up m5.up
    have al2 := al2.up m5.up
    have hk := m5.up _ _ hk
    have ho := m5.up _ _ ho
    refine ⟨_, rfl, _, rfl, _, _, rfl, rfl, _, s, c, ops, (kn ++ [((nmN "x" kn.length), ko)]), κ, _, _, _, d - 2, rfl, by omega, ⟨w, ao, oko, ak2, (okk.snoc (okNm_x (Nat.lt_succ_of_lt hnl)) dko2), aw, by omega, by (try rw [List.length_append]); (try show kn.length + 1 + 2 * n ≤ 8); omega, by (try rw [List.length_append]); (try show kn.length + 1 + 2 * n ≤ 8); omega⟩, fun Q6 J6 e2 ve2 m w ae2 te2 => ?_⟩
    have mm := mm.tr m
    have ao := ao.up m.up
    have ak := ak.up m.up
    have aw := aw.up m.up
    have ako := ako.up m.up
    have oats := oats.up m.up
    have ae1 := ae1.up m.up
    have at2 := at2.up m.up
    have al2 := al2.up m.up
    have ak2 := ak2.up m.up
    have hk := m.up _ _ hk
    have ho := m.up _ _ ho
    show gName 8 _ _ _ _
    refine ⟨Nat.zero_le _, fun L nL => ?_⟩
    have rL := w.sub.free nL
    have nH : H L = none := mm.free nL
    have nF : ¬ Fst s c L := w.nf nL
    have mL : Mv F0 _ _ _ _ := mv_mut (F := F0) (o := .lst []) w.sub nL
    have w := w.up0 mL
    have mm := mm.tr0 mL
    show gName 9 _ _ _ _
    refine ⟨_, rfl, po, rfl, ⟨_, SqL.of (w.sub _ _ ho)⟩, ?_⟩
    refine for_list (K := K) (a := po) (xs := ovs) (fun i σ H' => ∃ (R' : Hp) (cs : Clz) (acc : List V) (z : Option V), σ = [some (.ref s), some (.ref po), some (.ref pk), some vw, some (.int d), some vo, some ve1, some (.str (nmN "x" kn.length)), some ve2, some (.ref L), z] ∧ Mv (Fst s c) R H R' H' ∧ Same Q6 R' ∧ Wd R' H' s c ∧ R' L = none ∧ H' L = some (.lst acc) ∧ Ats R' (cs.d false) acc ∧ cs.len ≤ i ∧ TrC cs (trA n + 1 + 1) (i * (trB n + 2))) ?_ ?_ ?_ ?_
    · exact ⟨_, .nil, [], none, rfl, mm, .refl _, w, rL, upd_same, rfl, Nat.le_refl _, TrC.nil.mono (Nat.zero_le _) (Nat.zero_le _)⟩
    · rintro i σ H' _ ⟨R', cs, acc, z, rfl, mm, sm, w, _⟩
      exact SqL.of (w.sub _ _ (sm _ _ ho))
    · rintro i y σ H' hy ⟨R', cs, acc, z, rfl, mm, sm, w, rL, hL, ac, lc, tc⟩
      have ao := ao.up sm
      have ak := ak.up sm
      have aw := aw.up sm
      have oats := oats.up sm
      have li : i < ovs.length := (List.getElem?_eq_some_iff.mp hy).1
      obtain ⟨dd, hdd, aop⟩ := oats.mem hy
      have hj : i < ops.length := by omega
      obtain rfl : opD ops[i] = dd := by
        rw [List.getElem?_map, List.getElem?_eq_getElem hj] at hdd
        exact Option.some.inj hdd
      have okop : okOp ops[i] := oko.2.2 _ (List.getElem_mem hj)
      generalize ops[i] = op at aop okop
      have lac := ac.length
      have lcd : (cs.d false).length = cs.len := cl_len cs
      have hopl : (PyData.str op.1).canLay0 = true := by
        have : (opNames.all fun x => (PyData.str x).canLay0) = true := by decide +kernel
        exact List.all_eq_true.mp this _ okop.1
      show gName 10 _ _ _ _
      refine ⟨_, rfl, _, s, c, 3, rfl, by decide, by decide, w.sub, w.rs, w.rc, w.st, fun J7 z7 st7 c7 z70 z71 => ?_⟩
      have w := w.took c7 st7
      have mm := mm.tr c7
      have hL := c7.keep _ _ hL nF
      refine ⟨_, _, rfl, rfl, _, rfl, ?_⟩
      by_cases h1 : 0 < z7
      · refine ifT (decide_eq_true h1) ?_
        refine ⟨_, rfl, .inl ⟨rfl, _, SqL.of hL⟩, _, rfl, _, rfl, _, rfl, _, rfl, _, rfl, _, rfl, _, s, c, ops, kn, κ, _, _, _, d, op, _, rfl, hd, ⟨w, ao, oko, ak, okk, aw, nq4, kl, kd⟩, aop, okop, fun Q8 J8 x k g vg m w ag ox ok2 tg => ?_⟩
        have mm := mm.tr m
        have ac := ac.up m.up
        have ao := ao.up m.up
        have ak := ak.up m.up
        have aw := aw.up m.up
        have aop := aop.up m.up
        have rL' := m.out rL hL
        have hL := m.keep _ _ hL nF
        have sm := sm.trans m.up
        refine ⟨L, _, _, rfl, rfl, hL, Nat.lt_of_le_of_lt (by omega : acc.length ≤ 1000) (by decide), ?_⟩
        have m4 : Mv (fun a => a = L) _ _ _ _ := mv_at (o := .lst (acc ++ [vg])) w.sub rL' hL rfl
        refine ⟨_, cs.snoc op.1 x k g, acc ++ [vg], _, rfl, mm.trans m4 (fun _ f => f) (fun y f => .inr (by rw [f]; exact nH)), sm, ⟨m4.sub, w.rs, w.rc, w.st.stay m4 (fun e => nF (.inl e.symm)) (fun e => nF (.inr e.symm))⟩, rL', upd_same, ?_, ?_, ?_⟩
        · rw [snoc_d]
          exact ac.append (Ats.one ag)
        · rw [snoc_len]; exact Nat.succ_le_succ lc
        · refine (tc.snoc hopl ox ok2 tg).mono (Nat.le_refl _) ?_
          rw [Nat.succ_mul]; exact Nat.le_refl _
      · refine ifF (decide_eq_false h1) ?_
        exact ⟨R', cs, acc, _, rfl, mm, sm, w, rL, hL, ac, Nat.le_succ_of_le lc, tc.mono (Nat.le_refl _) (by rw [Nat.succ_mul]; omega)⟩
    rintro σ' H' ⟨R', cs, acc, z, rfl, mm, sm, w, rL, hL, ac, lc, tc⟩
    have mm := mm.freeze rL hL nH
    have w := w.freeze rL hL nF
    have ae1 := (ae1.up sm).up (same_new (o := .lst acc) rL)
    have ae2 := (ae2.up sm).up (same_new (o := .lst acc) rL)
    have ac := ac.up (same_new (o := .lst acc) rL)
    have lac := ac.length
    have lcd : (cs.d false).length = cs.len := cl_len cs
    refine ⟨_, rfl, _, rfl, _, rfl, by show 2 ≤ sizeLine; decide, fun p7 n7 => ?_⟩
    obtain ⟨Q7, m7, a3⟩ := lit2 w.sub (l := [.str (nmN "x" kn.length), e2.d false]) ⟨_, _, rfl, at_str, _, _, rfl, ae2, rfl⟩ n7
    have w := w.up0 m7
    have mm := mm.tr0 m7
    have ae1 := ae1.up m7.up
    have ae2 := ae2.up m7.up
    have ac := ac.up m7.up
    refine ⟨_, rfl, L, _, rfl, .inl ⟨SqL.of (m7.keep _ _ hL id), fun pt nt => ?_⟩⟩
    obtain ⟨RT, mT, aT⟩ := lit2 w.sub ac nt
    have w := w.up0 mT
    have mm := mm.tr0 mT
    have ae1 := ae1.up mT.up
    have ae2 := ae2.up mT.up
    have ac := ac.up mT.up
    have a3 := a3.up mT.up
    refine ⟨by show 4 ≤ sizeLine; decide, fun p9 n9 => ?_⟩
    obtain ⟨Q9, m9, ar⟩ := lit2 w.sub (l := [.str "handle", e1.d false, .tup [.str (nmN "x" kn.length), e2.d false], .tup (cs.d false)]) ⟨_, _, rfl, at_str, _, _, rfl, ae1, _, _, rfl, a3, _, _, rfl, aT, rfl⟩ n9
    have w := w.up0 m9
    have mm := mm.tr0 m9
    have ae1 := ae1.up m9.up
    have ae2 := ae2.up m9.up
    have ac := ac.up m9.up
    have a3 := a3.up m9.up
    have aT := aT.up m9.up
    refine q _ _ (.hd e1 (nmN "x" kn.length) e2 cs) _ mm w ar ((Tr.hd (a := trA n + 1 + 1) (okNm_x (Nat.lt_succ_of_lt hnl)) (by omega) (te1.fit (by omega) (Nat.le_refl _)) (te2.fit (by omega) (Nat.le_refl _)) (tc.mono (Nat.le_refl _) (Nat.mul_le_mul_right _ (by omega : ovs.length ≤ 4)))).up (by show 7 + 5 * n + 1 + 1 + 2 ≤ _; omega) (by omega))
end
end Bz


set_option Elab.async false
set_option linter.all false
set_option maxRecDepth 100000
set_option maxHeartbeats 4000000
namespace Bz
open PySem PySem.Spec L2 PyProof.Rows
section
variable {P : Program} {w : World} {K : PySem.W.Frag} {mg : Str → Option Value} {base : Heap}
abbrev g__law_loop : Stmt := topS 22
abbrev n__law_loop : List Str := ["state", "ops", "known", "wanted", "depth", "own", "step", "inner", "again", "last", "body"]
abbrev p__law_loop : List Str := ["state", "ops", "known", "wanted", "depth"]
theorem sc__law_loop : FnScope n__law_loop p__law_loop (defScope g__law_loop) := ⟨rfl, rfl, rfl, by decide +kernel, rfl, by decide +kernel, by decide +kernel⟩
theorem ok_loop {n : Nat} {f fT fL fK fV : Addr} {fd fdT fdL fdK fdV : FuncData} (F : Fun K "_law_loop" "_law_loop" g__law_loop f fd) (ml : mg "len" = none) (ms : mg "str" = none) (GT : Fn P w K mg base CX0 1 "_law_take" p__law_take spTake fT fdT) (GL : Fn P w K mg base CX0 9 "_law_leaf" p__law_leaf (spLeaf 7) fL fdL)
    (GK : Fn P w K mg base CX0 4 "_law_kind" p__law_kind (spKind 2) fK fdK) (GV : Fn P w K mg base CX0 (10 + 3 * n) "_law_tree" ["state", "ops", "known", "wanted", "depth"] (spTree n) fV fdV) : FnOk P w K mg base CX0 (10 + 3 * n + 1) f fd p__law_loop (spTree (n + 1)) := by
  refine F.ok (k := 10 + 3 * n) sc__law_loop (fun vs H Q E h => ?_) (fun cdv A outer st H vs Q E hr h => ?_)
  · obtain ⟨R, s, c, ops, kn, κ, vo, vk, vw, d, rfl, _⟩ := h
    rfl
  · obtain ⟨R, s, c, ops, kn, κ, vo, vk, vw, d, rfl, hd, ⟨w, ao, oko, ak, okk, aw, nq4, kl, kd⟩, q⟩ := h
    refine ⟨_, (pss_cons (ps_par (i := 5) (j := 6) (by rfl) sc__law_loop.nd rfl rfl (by decide) rfl rfl (pa_cons (pe_op op_add_str (pe_str) (pe_callTy call_str_int (by rfl) ms (by decide +kernel) (pa_cons (pe_callB call_len_seq (by rfl) ml PySem.boot_len (pa_cons (pv 2) pa_nil)) pa_nil))) (pa_cons (pe_op op_add_str (pe_str) (pe_callTy call_str_int (by rfl) ms (by decide +kernel) (pa_cons (pe_op op_add (pe_callB call_len_seq (by rfl) ml PySem.boot_len (pa_cons (pv 2) pa_nil)) (pe_int)) pa_nil))) pa_nil)) (by rfl))
      (pss_cons (ps_set (i := 7) sc__law_loop.nd rfl (Or.inl rfl) (pe_op op_cat (pv 2) (pe_lst (pa_cons (pe_tup (pa_cons (pv 5) (pa_cons (pe_tup (pa_cons (pe_str) (pa_cons (pe_tup (pa_cons (pe_str) pa_nil)) (pa_cons (pv 3) pa_nil)))) pa_nil))) (pa_cons (pe_tup (pa_cons (pv 6) (pa_cons (pe_tup (pa_cons (pe_str) pa_nil)) pa_nil))) pa_nil)))))
      (pss_cons (ps_set (i := 8) sc__law_loop.nd rfl (Or.inl rfl) (pe_tup (pa_cons (pe_str) (pa_cons (pe_tup (pa_cons (pe_str) (pa_cons (pv 5) pa_nil))) (pa_cons (pe_tup (pa_cons (pe_str) (pa_cons (pe_str) (pa_cons (pe_tup (pa_cons (pe_str) (pa_cons (pv 6) pa_nil))) (pa_cons (pe_tup (pa_cons (pe_str) (pa_cons (pe_int) pa_nil))) pa_nil))))) pa_nil)))))
      (C8.pss_cut (ps_if (pt_cmpR op_eq (pe_call GT.ok (hr.mono (by omega)) (by rfl) GT.g GT.kp GT.b .nil pass0 (pa_cons (pv 0) (pa_cons (pe_int) pa_nil))) (pe_int) (nomark _)) (pss_one (ps_set (i := 8) sc__law_loop.nd rfl (Or.inl rfl) (pe_tup (pa_cons (pe_str) (pa_cons (pe_tup (pa_cons (pe_str) (pa_cons (pv 6) pa_nil))) (pa_cons (pv 8) pa_nil)))))) pss_nil)
      (pss_cons (ps_set (i := 9) sc__law_loop.nd rfl (Or.inl rfl) (pe_call GV.ok hr (by rfl) GV.g GV.kp GV.b .nil pass0 (pa_cons (pv 0) (pa_cons (pv 1) (pa_cons (pv 7) (pa_cons (pv 3) (pa_cons (pe_op op_sub (pv 4) (pe_int)) pa_nil)))))))
      (pss_cons (ps_set (i := 10) sc__law_loop.nd rfl (Or.inl rfl) (pe_tup (pa_cons (pe_str) (pa_cons (pe_tup (pa_cons (pe_str) (pa_cons (pe_str) (pa_cons (pe_tup (pa_cons (pe_str) (pa_cons (pv 6) pa_nil))) (pa_cons (pe_tup (pa_cons (pe_str) (pa_cons (pe_int) pa_nil))) pa_nil))))) (pa_cons (pv 9) (pa_cons (pv 8) pa_nil))))))
      (C8.pss_cut (ps_if (PW.pt (pw_and (pt_cmpR op_eq (pe_call GT.ok (hr.mono (by omega)) (by rfl) GT.g GT.kp GT.b .nil pass0 (pa_cons (pv 0) (pa_cons (pe_int) pa_nil))) (pe_int) (nomark _)) (pw_and1 (pt_cmpR (op_eqD hr.units) (pv 3) (pe_tup (pa_cons (pe_str) pa_nil)) (nomark _))))) (pss_one (ps_set (i := 10) sc__law_loop.nd rfl (Or.inl rfl) (pe_tup (pa_cons (pe_str) (pa_cons (pe_str) (pa_cons (pe_tup (pa_cons (pe_str) (pa_cons (pv 6) pa_nil))) (pa_cons (pv 10) pa_nil))))))) pss_nil)
      (pss_one (ps_ret (pe_tup (pa_cons (pe_str) (pa_cons (pe_tup (pa_cons (pe_str) (pa_cons (pv 5) (pa_cons (pv 6) (pa_cons (pv 10) pa_nil))))) (pa_cons (pe_tup (pa_cons (pe_str) (pa_cons (pe_call GT.ok (hr.mono (by omega)) (by rfl) GT.g GT.kp GT.b .nil pass0 (pa_cons (pv 0) (pa_cons (pe_int) pa_nil))) pa_nil))) pa_nil))))))))))))), ?_⟩
    have hB := trB_ge n
    have hnl : kn.length < 15 := by omega
    have nsz := nm_small (n := kn.length) (by omega)
    obtain ⟨pk, kvs, rfl, hk, ats⟩ := ak
    have lk := ats.length
    rw [List.length_map] at lk
    have ak : At R (.lst (kn.map knD)) (.ref pk) := ⟨pk, kvs, rfl, hk, ats⟩
    have mm : Mv (Fst s c) R H R H := .refl w.sub
    have zi : Kd.int.dp = 0 := rfl
    have nsk := nm_small (n := kn.length + 1) (by omega)
    refine ⟨_, rfl, pk, _, rfl, .inl (SqL.of (w.sub _ _ hk)), _, rfl, by rw [lk]; exact nsz.1, _, _, rfl, rfl, by rw [lk]; exact nsz.2.2.2, ?_⟩
    refine ⟨_, rfl, pk, _, rfl, .inl (SqL.of (w.sub _ _ hk)), _, _, rfl, rfl, _, rfl, by rw [lk]; exact nsk.1, _, _, rfl, rfl, by rw [lk]; exact nsk.2.1, ?_⟩
    rw [lk]
    refine ⟨.str (nmN "h" kn.length), .str (nmN "x" (kn.length + 1)), rfl, ?_⟩
    refine ⟨_, rfl, _, rfl, by show 1 ≤ sizeLine; decide, fun p1 n1 => ?_⟩
    obtain ⟨Q1, m1, t0⟩ := lit2 w.sub (l := [.str "int"]) ⟨_, _, rfl, at_str, rfl⟩ n1
    have w := w.up0 m1
    have mm := mm.tr0 m1
    have ao := ao.up m1.up
    have ak := ak.up m1.up
    have aw := aw.up m1.up
    have hk := m1.up _ _ hk
    refine ⟨_, rfl, by show 3 ≤ sizeLine; decide, fun p2 n2 => ?_⟩
    obtain ⟨Q2, m2, t1⟩ := lit2 w.sub (l := [.str "fun", .tup [.str "int"], κ.d]) ⟨_, _, rfl, at_str, _, _, rfl, t0, _, _, rfl, aw, rfl⟩ n2
    have w := w.up0 m2
    have mm := mm.tr0 m2
    have ao := ao.up m2.up
    have ak := ak.up m2.up
    have aw := aw.up m2.up
    have t0 := t0.up m2.up
    have hk := m2.up _ _ hk
    refine ⟨by show 2 ≤ sizeLine; decide, fun p3 n3 => ?_⟩
    obtain ⟨Q3, m3, t2⟩ := lit2 w.sub (l := [.str (nmN "h" kn.length), (Kd.fn .int κ).d]) ⟨_, _, rfl, at_str, _, _, rfl, t1, rfl⟩ n3
    have w := w.up0 m3
    have mm := mm.tr0 m3
    have ao := ao.up m3.up
    have ak := ak.up m3.up
    have aw := aw.up m3.up
    have t0 := t0.up m3.up
    have t1 := t1.up m3.up
    have hk := m3.up _ _ hk
    refine ⟨_, rfl, by show 1 ≤ sizeLine; decide, fun p4 n4 => ?_⟩
    obtain ⟨Q4, m4, t3⟩ := lit2 w.sub (l := [.str "int"]) ⟨_, _, rfl, at_str, rfl⟩ n4
    have w := w.up0 m4
    have mm := mm.tr0 m4
    have ao := ao.up m4.up
    have ak := ak.up m4.up
    have aw := aw.up m4.up
    have t0 := t0.up m4.up
    have t1 := t1.up m4.up
    have t2 := t2.up m4.up
    have hk := m4.up _ _ hk
    refine ⟨by show 2 ≤ sizeLine; decide, fun p5 n5 => ?_⟩
    obtain ⟨Q5, m5, t4⟩ := lit2 w.sub (l := [.str (nmN "x" (kn.length + 1)), Kd.int.d]) ⟨_, _, rfl, at_str, _, _, rfl, t3, rfl⟩ n5
    have w := w.up0 m5
    have mm := mm.tr0 m5
    have ao := ao.up m5.up
    have ak := ak.up m5.up
    have aw := aw.up m5.up
    have t0 := t0.up m5.up
    have t1 := t1.up m5.up
    have t2 := t2.up m5.up
    have t3 := t3.up m5.up
    have hk := m5.up _ _ hk
    refine ⟨by show 2 ≤ sizeLine; decide, fun p6 n6 => ?_⟩
    obtain ⟨Q6, m6, al⟩ := lit3 w.sub (l := [knD ((nmN "h" kn.length), .fn .int κ), knD ((nmN "x" (kn.length + 1)), .int)]) ⟨_, _, rfl, t2, _, _, rfl, t4, rfl⟩ n6
    have w := w.up0 m6
    have mm := mm.tr0 m6
    have ao := ao.up m6.up
    have ak := ak.up m6.up
    have aw := aw.up m6.up
    have t0 := t0.up m6.up
    have t1 := t1.up m6.up
    have t2 := t2.up m6.up
    have t3 := t3.up m6.up
    have t4 := t4.up m6.up
    have hk := m6.up _ _ hk
    obtain ⟨pa, va, ea, ha, ta⟩ := id ak
    obtain ⟨pb, vb, eb, hb, tb⟩ := id al
    cases ea; cases eb
    have len1 := ta.length
    rw [List.length_map] at len1
    have len2 : vb.length = 2 := tb.length
    refine ⟨_, _, _, _, rfl, rfl, w.sub _ _ ha, w.sub _ _ hb, big3 (by omega), fun pI nI => ?_⟩
    obtain ⟨QI, mI, aki⟩ := lit3 w.sub (l := (kn ++ [((nmN "h" kn.length), Kd.fn .int κ), ((nmN "x" (kn.length + 1)), Kd.int)]).map knD) (by rw [List.map_append]; exact ta.append tb) nI
    have w := w.up0 mI
    have mm := mm.tr0 mI
    have ao := ao.up mI.up
    have ak := ak.up mI.up
    have aw := aw.up mI.up
    have t0 := t0.up mI.up
    have t1 := t1.up mI.up
    have t2 := t2.up mI.up
    have t3 := t3.up mI.up
    have t4 := t4.up mI.up
    have al := al.up mI.up
    have hk := mI.up _ _ hk
    show gName 7 _ _ _ _
    have okI : okKn (kn ++ [((nmN "h" kn.length), Kd.fn .int κ), ((nmN "x" (kn.length + 1)), Kd.int)]) := fun p hp => by
      rcases List.mem_append.mp hp with z | z
      · exact okk p z
      rcases List.mem_cons.mp z with z | z
      · rw [z]
        refine ⟨(okNm_h (Nat.lt_succ_of_lt hnl)), ?_⟩
        show Nat.max 0 κ.dp + 1 ≤ 20
        have : Nat.max 0 κ.dp ≤ 19 := Nat.max_le.mpr ⟨by omega, by omega⟩
        omega
      · rw [List.mem_singleton.mp z]
        exact ⟨(okNm_x (by omega)), by show 0 ≤ 20; omega⟩
    have lI : (kn ++ [((nmN "h" kn.length), Kd.fn .int κ), ((nmN "x" (kn.length + 1)), Kd.int)]).length = kn.length + 2 := by rw [List.length_append]; rfl
    have oplm : (PyData.str ("-" : Str)).canLay0 = true := by decide +kernel
    have oplp : (PyData.str ("+" : Str)).canLay0 = true := by decide +kernel
    have opll : (PyData.str ("<" : Str)).canLay0 = true := by decide +kernel
    refine ⟨_, rfl, by show 2 ≤ sizeLine; decide, fun p7 n7 => ?_⟩
    obtain ⟨Q7, m7, u1⟩ := lit2 w.sub (l := [.str "name", .str (nmN "h" kn.length)]) ⟨_, _, rfl, at_str, _, _, rfl, at_str, rfl⟩ n7
    have w := w.up0 m7
    have mm := mm.tr0 m7
    have ao := ao.up m7.up
    have ak := ak.up m7.up
    have aw := aw.up m7.up
    have aki := aki.up m7.up
    have hk := m7.up _ _ hk
    refine ⟨_, rfl, by show 2 ≤ sizeLine; decide, fun p8 n8 => ?_⟩
    obtain ⟨Q8, m8, u2⟩ := lit2 w.sub (l := [.str "name", .str (nmN "x" (kn.length + 1))]) ⟨_, _, rfl, at_str, _, _, rfl, at_str, rfl⟩ n8
    have w := w.up0 m8
    have mm := mm.tr0 m8
    have ao := ao.up m8.up
    have ak := ak.up m8.up
    have aw := aw.up m8.up
    have aki := aki.up m8.up
    have u1 := u1.up m8.up
    have hk := m8.up _ _ hk
    refine ⟨by show 2 ≤ sizeLine; decide, fun p9 n9 => ?_⟩
    obtain ⟨Q9, m9, u3⟩ := lit2 w.sub (l := [.str "num", .int 1]) ⟨_, _, rfl, at_str, _, _, rfl, at_int, rfl⟩ n9
    have w := w.up0 m9
    have mm := mm.tr0 m9
    have ao := ao.up m9.up
    have ak := ak.up m9.up
    have aw := aw.up m9.up
    have aki := aki.up m9.up
    have u1 := u1.up m9.up
    have u2 := u2.up m9.up
    have hk := m9.up _ _ hk
    refine ⟨by show 4 ≤ sizeLine; decide, fun p10 n10 => ?_⟩
    obtain ⟨Q10, m10, u4⟩ := lit2 w.sub (l := [.str "op", .str "-", (Ex.name (nmN "x" (kn.length + 1))).d false, (Ex.num 1).d false]) ⟨_, _, rfl, at_str, _, _, rfl, at_str, _, _, rfl, u2, _, _, rfl, u3, rfl⟩ n10
    have w := w.up0 m10
    have mm := mm.tr0 m10
    have ao := ao.up m10.up
    have ak := ak.up m10.up
    have aw := aw.up m10.up
    have aki := aki.up m10.up
    have u1 := u1.up m10.up
    have u2 := u2.up m10.up
    have u3 := u3.up m10.up
    have hk := m10.up _ _ hk
    refine ⟨by show 3 ≤ sizeLine; decide, fun p11 n11 => ?_⟩
    obtain ⟨Q11, m11, u5⟩ := lit2 w.sub (l := [.str "call", (Ex.name (nmN "h" kn.length)).d false, (Ex.op "-" (.name (nmN "x" (kn.length + 1))) (.num 1)).d false]) ⟨_, _, rfl, at_str, _, _, rfl, u1, _, _, rfl, u4, rfl⟩ n11
    have w := w.up0 m11
    have mm := mm.tr0 m11
    have ao := ao.up m11.up
    have ak := ak.up m11.up
    have aw := aw.up m11.up
    have aki := aki.up m11.up
    have u1 := u1.up m11.up
    have u2 := u2.up m11.up
    have u3 := u3.up m11.up
    have u4 := u4.up m11.up
    have hk := m11.up _ _ hk
    show gName 8 _ _ _ _
    have ag : At Q11 ((Ex.call (.name (nmN "h" kn.length)) (.op "-" (.name (nmN "x" (kn.length + 1))) (.num 1))).d false) (.ref p11) := u5
    have tg : Tr (Ex.call (.name (nmN "h" kn.length)) (.op "-" (.name (nmN "x" (kn.length + 1))) (.num 1))) 4 7 := (Tr.call ((Tr.name (okNm_h (Nat.lt_succ_of_lt hnl))).fit (by omega : 1 ≤ 2) (Nat.le_refl 1)) (Tr.op oplm (Tr.name (okNm_x (by omega))) (Tr.num (n := 1)))).fit (by omega) (by omega)
    refine ⟨fun σ' H' => ∃ (R' : Hp) (g : Ex) (vg : V), σ' = [some (.ref s), some vo, some (.ref pk), some vw, some (.int d), some (.str (nmN "h" kn.length)), some (.str (nmN "x" (kn.length + 1))), some (.ref pI), some vg, none, none] ∧ Mv (Fst s c) R H R' H' ∧ Same Q11 R' ∧ Wd R' H' s c ∧ At R' (g.d false) vg ∧ Tr g 4 7, ?_, ?_⟩
    · refine ⟨_, rfl, _, s, c, 2, rfl, by decide, by decide, w.sub, w.rs, w.rc, w.st, fun J12 z12 st12 c12 z120 z121 => ?_⟩
      have w := w.took c12 st12
      have mm := mm.tr c12
      refine ⟨rfl, _, rfl, ?_⟩
      by_cases h1 : z12 = 0
      · refine ifT (decide_eq_true (by rw [h1])) ?_
        refine ⟨_, rfl, by show 2 ≤ sizeLine; decide, fun p13 n13 => ?_⟩
        obtain ⟨Q13, m13, u6⟩ := lit2 w.sub (l := [.str "name", .str (nmN "x" (kn.length + 1))]) ⟨_, _, rfl, at_str, _, _, rfl, at_str, rfl⟩ n13
        have w := w.up0 m13
        have mm := mm.tr0 m13
        have ao := ao.up m13.up
        have ak := ak.up m13.up
        have aw := aw.up m13.up
        have aki := aki.up m13.up
        have ag := ag.up m13.up
        have hk := m13.up _ _ hk
        refine ⟨_, rfl, by show 3 ≤ sizeLine; decide, fun p14 n14 => ?_⟩
        obtain ⟨Q14, m14, u7⟩ := lit2 w.sub (l := [.str "print", (Ex.name (nmN "x" (kn.length + 1))).d false, (Ex.call (.name (nmN "h" kn.length)) (.op "-" (.name (nmN "x" (kn.length + 1))) (.num 1))).d false]) ⟨_, _, rfl, at_str, _, _, rfl, u6, _, _, rfl, ag, rfl⟩ n14
        have w := w.up0 m14
        have mm := mm.tr0 m14
        have ao := ao.up m14.up
        have ak := ak.up m14.up
        have aw := aw.up m14.up
        have aki := aki.up m14.up
        have ag := ag.up m14.up
        have u6 := u6.up m14.up
        have hk := m14.up _ _ hk
        exact ⟨_, .pr (.name (nmN "x" (kn.length + 1))) (Ex.call (.name (nmN "h" kn.length)) (.op "-" (.name (nmN "x" (kn.length + 1))) (.num 1))), _, rfl, mm, (m13.tr m14).up, w, u7, (Tr.pr ((Tr.name (okNm_x (by omega))).fit (by omega : 1 ≤ 3) (Nat.le_refl 1)) ((Tr.call ((Tr.name (okNm_h (Nat.lt_succ_of_lt hnl))).fit (by omega : 1 ≤ 2) (Nat.le_refl 1)) (Tr.op oplm (Tr.name (okNm_x (by omega))) (Tr.num (n := 1)))))).fit (by omega) (by omega)⟩
      · exact ifF (decide_eq_false fun h => h1 (V.int.inj h)) ⟨_, _, _, rfl, mm, .refl _, w, ag, tg⟩
    rintro σ' H' ⟨R1, g, vg, rfl, mm, sm, w, ag, tg⟩
    have ao := ao.up sm
    have ak := ak.up sm
    have aw := aw.up sm
    have aki := aki.up sm
    refine ⟨_, rfl, _, rfl, _, rfl, _, rfl, _, rfl, _, _, rfl, rfl, _, s, c, ops, (kn ++ [((nmN "h" kn.length), Kd.fn .int κ), ((nmN "x" (kn.length + 1)), Kd.int)]), κ, _, _, _, d - 1, rfl, by omega, ⟨w, ao, oko, aki, okI, aw, by omega, by (try rw [lI]); omega, by (try rw [lI]); omega⟩, fun Q12 J12 e1 ve1 m w ae1 te1 => ?_⟩
    have mm := mm.tr m
    have ao := ao.up m.up
    have ak := ak.up m.up
    have aw := aw.up m.up
    have aki := aki.up m.up
    have ag := ag.up m.up
    show gName 9 _ _ _ _
    refine ⟨_, rfl, by show 2 ≤ sizeLine; decide, fun p13 n13 => ?_⟩
    obtain ⟨Q13, m13, u1⟩ := lit2 w.sub (l := [.str "name", .str (nmN "x" (kn.length + 1))]) ⟨_, _, rfl, at_str, _, _, rfl, at_str, rfl⟩ n13
    have w := w.up0 m13
    have mm := mm.tr0 m13
    have aw := aw.up m13.up
    have ag := ag.up m13.up
    have ae1 := ae1.up m13.up
    refine ⟨by show 2 ≤ sizeLine; decide, fun p14 n14 => ?_⟩
    obtain ⟨Q14, m14, u2⟩ := lit2 w.sub (l := [.str "num", .int 1]) ⟨_, _, rfl, at_str, _, _, rfl, at_int, rfl⟩ n14
    have w := w.up0 m14
    have mm := mm.tr0 m14
    have aw := aw.up m14.up
    have ag := ag.up m14.up
    have ae1 := ae1.up m14.up
    have u1 := u1.up m14.up
    refine ⟨by show 4 ≤ sizeLine; decide, fun p15 n15 => ?_⟩
    obtain ⟨Q15, m15, u3⟩ := lit2 w.sub (l := [.str "op", .str "<", (Ex.name (nmN "x" (kn.length + 1))).d false, (Ex.num 1).d false]) ⟨_, _, rfl, at_str, _, _, rfl, at_str, _, _, rfl, u1, _, _, rfl, u2, rfl⟩ n15
    have w := w.up0 m15
    have mm := mm.tr0 m15
    have aw := aw.up m15.up
    have ag := ag.up m15.up
    have ae1 := ae1.up m15.up
    have u1 := u1.up m15.up
    have u2 := u2.up m15.up
    refine ⟨_, rfl, _, rfl, by show 4 ≤ sizeLine; decide, fun p16 n16 => ?_⟩
    obtain ⟨Q16, m16, u4⟩ := lit2 w.sub (l := [.str "if", (Ex.op "<" (.name (nmN "x" (kn.length + 1))) (.num 1)).d false, e1.d false, g.d false]) ⟨_, _, rfl, at_str, _, _, rfl, u3, _, _, rfl, ae1, _, _, rfl, ag, rfl⟩ n16
    have w := w.up0 m16
    have mm := mm.tr0 m16
    have aw := aw.up m16.up
    have ag := ag.up m16.up
    have ae1 := ae1.up m16.up
    have u1 := u1.up m16.up
    have u2 := u2.up m16.up
    have u3 := u3.up m16.up
    show gName 10 _ _ _ _
    have ai : At Q16 ((Ex.ite (.op "<" (.name (nmN "x" (kn.length + 1))) (.num 1)) e1 g).d false) (.ref p16) := u4
    have ti : Tr (Ex.ite (.op "<" (.name (nmN "x" (kn.length + 1))) (.num 1)) e1 g) (trA n + 1) (trB n + 11) := (Tr.ite (a := trA n) ((Tr.op opll (Tr.name (okNm_x (by omega))) (Tr.num (n := 1))).fit (by show 2 ≤ 7 + 5 * n; omega) (Nat.le_refl _)) te1 (tg.fit (by show 4 ≤ 7 + 5 * n; omega) (Nat.le_refl _))).fit (Nat.le_refl _) (by omega)
    refine ⟨fun σ' H' => ∃ (R' : Hp) (g2 : Ex) (vg2 : V), σ' = [some (.ref s), some vo, some (.ref pk), some vw, some (.int d), some (.str (nmN "h" kn.length)), some (.str (nmN "x" (kn.length + 1))), some (.ref pI), some vg, some ve1, some vg2] ∧ Mv (Fst s c) R H R' H' ∧ Wd R' H' s c ∧ At R' (g2.d false) vg2 ∧ Tr g2 (trA n + 2) (trB n + 13), ?_, ?_⟩
    · refine ⟨_, rfl, _, s, c, 2, rfl, by decide, by decide, w.sub, w.rs, w.rc, w.st, fun J17 z17 st17 c17 z170 z171 => ?_⟩
      have w := w.took c17 st17
      have mm := mm.tr c17
      refine ⟨rfl, _, rfl, ?_⟩
      by_cases h1 : z17 = 0
      · refine ifT (decide_eq_true (by rw [h1])) ?_
        refine ⟨_, rfl, by show 1 ≤ sizeLine; decide, fun p18 n18 => ?_⟩
        obtain ⟨Q18, m18, ac⟩ := lit2 w.sub (l := [.str "int"]) ⟨_, _, rfl, at_str, rfl⟩ n18
        have w := w.up0 m18
        have mm := mm.tr0 m18
        have aw := aw.up m18.up
        have ai := ai.up m18.up
        refine ⟨_, _, At.dp w.sub (kd_flat κ) aw, At.dp w.sub (kd_flat .int) ac, kd_sh (by omega), kd_sh (by omega), _, rfl, ?_⟩
        refine iteB (fun _ => ?_) (fun _ => ?_)
        · refine ⟨_, rfl, by show 2 ≤ sizeLine; decide, fun p19 n19 => ?_⟩
          obtain ⟨Q19, m19, u1⟩ := lit2 w.sub (l := [.str "name", .str (nmN "x" (kn.length + 1))]) ⟨_, _, rfl, at_str, _, _, rfl, at_str, rfl⟩ n19
          have w := w.up0 m19
          have mm := mm.tr0 m19
          have aw := aw.up m19.up
          have ai := ai.up m19.up
          have ac := ac.up m19.up
          refine ⟨_, rfl, by show 4 ≤ sizeLine; decide, fun p20 n20 => ?_⟩
          obtain ⟨Q20, m20, u2⟩ := lit2 w.sub (l := [.str "op", .str "+", (Ex.name (nmN "x" (kn.length + 1))).d false, (Ex.ite (.op "<" (.name (nmN "x" (kn.length + 1))) (.num 1)) e1 g).d false]) ⟨_, _, rfl, at_str, _, _, rfl, at_str, _, _, rfl, u1, _, _, rfl, ai, rfl⟩ n20
          have w := w.up0 m20
          have mm := mm.tr0 m20
          have aw := aw.up m20.up
          have ai := ai.up m20.up
          have ac := ac.up m20.up
          have u1 := u1.up m20.up
          exact ⟨_, .op "+" (.name (nmN "x" (kn.length + 1))) (Ex.ite (.op "<" (.name (nmN "x" (kn.length + 1))) (.num 1)) e1 g), _, rfl, mm, w, u2, (Tr.op oplp ((Tr.name (okNm_x (by omega))).fit (by show 1 ≤ 7 + 5 * n + 1; omega) (Nat.le_refl _)) ti).fit (Nat.le_refl _) (by omega)⟩
        · exact ⟨_, _, _, rfl, mm, w, ai, ti.fit (Nat.le_succ _) (by omega)⟩
      · exact ifF (decide_eq_false fun h => h1 (V.int.inj h)) ⟨_, _, _, rfl, mm, w, ai, ti.fit (Nat.le_succ _) (by omega)⟩
    rintro σ' H' ⟨R2, g2, vg2, rfl, mm, w, ag2, tg2⟩
    refine ⟨_, rfl, _, rfl, _, rfl, by show 4 ≤ sizeLine; decide, fun p17 n17 => ?_⟩
    obtain ⟨Q17, m17, u1⟩ := lit2 w.sub (l := [.str "rec", .str (nmN "h" kn.length), .str (nmN "x" (kn.length + 1)), g2.d false]) ⟨_, _, rfl, at_str, _, _, rfl, at_str, _, _, rfl, at_str, _, _, rfl, ag2, rfl⟩ n17
    have w := w.up0 m17
    have mm := mm.tr0 m17
    have ag2 := ag2.up m17.up
    refine ⟨_, rfl, _, s, c, 5, rfl, by decide, by decide, w.sub, w.rs, w.rc, w.st, fun J18 z18 st18 c18 z180 z181 => ?_⟩
    have w := w.took c18 st18
    have mm := mm.tr c18
    refine ⟨by show 2 ≤ sizeLine; decide, fun p19 n19 => ?_⟩
    obtain ⟨Q19, m19, u2⟩ := lit2 w.sub (l := [.str "num", .int z18]) ⟨_, _, rfl, at_str, _, _, rfl, at_int, rfl⟩ n19
    have w := w.up0 m19
    have mm := mm.tr0 m19
    have ag2 := ag2.up m19.up
    have u1 := u1.up m19.up
    refine ⟨by show 3 ≤ sizeLine; decide, fun p20 n20 => ?_⟩
    obtain ⟨Q20, m20, ar⟩ := lit2 w.sub (l := [.str "call", (Ex.rc (nmN "h" kn.length) (nmN "x" (kn.length + 1)) g2).d false, (Ex.num z18).d false]) ⟨_, _, rfl, at_str, _, _, rfl, u1, _, _, rfl, u2, rfl⟩ n20
    have w := w.up0 m20
    have mm := mm.tr0 m20
    have ag2 := ag2.up m20.up
    have u1 := u1.up m20.up
    have u2 := u2.up m20.up
    exact q _ _ (.call (.rc (nmN "h" kn.length) (nmN "x" (kn.length + 1)) g2) (.num z18)) _ mm w ar ((Tr.call (Tr.rc (okNm_h (Nat.lt_succ_of_lt hnl)) (okNm_x (by omega)) tg2) ((Tr.num (n := z18)).fit (by omega) (Nat.le_refl _))).up (by show 7 + 5 * n + 2 + 1 + 1 ≤ _; omega) (by omega))
end
end Bz


set_option Elab.async false
set_option linter.all false
set_option maxRecDepth 100000
set_option maxHeartbeats 4000000
namespace Bz
open PySem PySem.Spec L2 PyProof.Rows
section
variable {P : Program} {w : World} {K : PySem.W.Frag} {mg : Str → Option Value} {base : Heap}
abbrev g__law_tree : Stmt := topS 23
abbrev n__law_tree : List Str := ["state", "ops", "known", "wanted", "depth", "kind", "name", "one", "other", "test"]
abbrev p__law_tree : List Str := ["state", "ops", "known", "wanted", "depth"]
theorem sc__law_tree : FnScope n__law_tree p__law_tree (defScope g__law_tree) := ⟨rfl, rfl, rfl, by decide +kernel, rfl, by decide +kernel, by decide +kernel⟩
theorem ok_tree0 {f fT fL : Addr} {fd fdT fdL : FuncData} (F : Fun K "_law_tree" "_law_tree" g__law_tree f fd) (ml : mg "len" = none) (ms : mg "str" = none) (GT : Fn P w K mg base CX0 1 "_law_take" p__law_take spTake fT fdT) (GL : Fn P w K mg base CX0 9 "_law_leaf" p__law_leaf (spLeaf 7) fL fdL) : FnOk P w K mg base CX0 (9 + 1) f fd p__law_tree (spTree 0) := by
  refine F.ok (k := 9) sc__law_tree (fun vs H Q E h => ?_) (fun cdv A outer st H vs Q E hr h => ?_)
  · obtain ⟨R, s, c, ops, kn, κ, vo, vk, vw, d, rfl, _⟩ := h
    rfl
  · obtain ⟨R, s, c, ops, kn, κ, vo, vk, vw, d, rfl, hd, ⟨w, ao, oko, ak, okk, aw, nq4, kl, kd⟩, q⟩ := h
    refine ⟨_, (pss_cons (ps_set (i := 5) sc__law_tree.nd rfl (Or.inl rfl) (pe_call GT.ok (hr.mono (by omega)) (by rfl) GT.g GT.kp GT.b .nil pass0 (pa_cons (pv 0) (pa_cons (pe_int) pa_nil))))
      (pss_cons (ps_set (i := 6) sc__law_tree.nd rfl (Or.inl rfl) (pe_op op_add_str (pe_str) (pe_callTy call_str_int (by rfl) ms (by decide +kernel) (pa_cons (pe_callB call_len_seq (by rfl) ml PySem.boot_len (pa_cons (pv 2) pa_nil)) pa_nil))))
      (pss_cons (ps_if (PW.pt (pw_or (pt_cmpR op_lt (pv 4) (pe_int) (nomark _)) (pw_or1 (pt_cmpR op_eq (pv 5) (pe_int) (nomark _))))) (pss_one (ps_ret (pe_call GL.ok (hr.mono (by omega)) (by rfl) GL.g GL.kp GL.b .nil pass0 (pa_cons (pv 0) (pa_cons (pv 2) (pa_cons (pv 3) pa_nil)))))) pss_nil) pss_never))), ?_⟩
    have hnl : kn.length < 15 := by omega
    have nsz := nm_small (n := kn.length) (by omega)
    obtain ⟨pk, kvs, rfl, hk, ats⟩ := ak
    have lk := ats.length
    rw [List.length_map] at lk
    have ak : At R (.lst (kn.map knD)) (.ref pk) := ⟨pk, kvs, rfl, hk, ats⟩
    have mm : Mv (Fst s c) R H R H := .refl w.sub
    refine ⟨_, rfl, _, s, c, 14, rfl, by decide, by decide, w.sub, w.rs, w.rc, w.st, fun J1 z1 st1 c1 z10 z11 => ?_⟩
    have w := w.took c1 st1
    have mm := mm.tr c1
    show gName 5 _ _ _ _
    refine ⟨_, rfl, pk, _, rfl, .inl (SqL.of (w.sub _ _ hk)), _, rfl, by rw [lk]; exact nsz.1, _, _, rfl, rfl, by rw [lk]; exact nsz.2.1, ?_⟩
    rw [lk]
    show gName 6 (.str (nmN "x" kn.length)) _ _ _
    refine ⟨_, rfl, _, _, rfl, rfl, _, rfl, ?_⟩
    refine ifT (decide_eq_true (by omega)) ?_
    refine ⟨_, rfl, _, rfl, _, rfl, _, s, c, kn, κ, _, _, rfl, w, ak, aw, okk, by  omega, by  omega, fun Q2 J2 e1 ve1 m w ae1 te1 => ?_⟩
    have mm := mm.tr m
    have ao := ao.up m.up
    have ak := ak.up m.up
    have aw := aw.up m.up
    have hk := m.up _ _ hk
    exact q _ _ e1 _ mm w ae1 (te1.fit (by show κ.dp + 1 ≤ 7 + 5 * 0; omega) (by have := lf6 (a := κ.dp) (by omega); show lfN κ.dp ≤ 150; omega))
theorem ok_tree {n : Nat} {f fT fL fK fV : Addr} {fd fdT fdL fdK fdV : FuncData} (F : Fun K "_law_tree" "_law_tree" g__law_tree f fd) (ml : mg "len" = none) (ms : mg "str" = none) (GT : Fn P w K mg base CX0 1 "_law_take" p__law_take spTake fT fdT) (GL : Fn P w K mg base CX0 9 "_law_leaf" p__law_leaf (spLeaf 7) fL fdL)
    (GK : Fn P w K mg base CX0 4 "_law_kind" p__law_kind (spKind 2) fK fdK) (GV : Fn P w K mg base CX0 (10 + 3 * n) "_law_tree" ["state", "ops", "known", "wanted", "depth"] (spTree n) fV fdV) {fS fA fH fO : Addr} {fdS fdA fdH fdO : FuncData} (GS : Fn P w K mg base CX0 (10 + 3 * n + 1) "_law_special" p__law_special (spTree (n + 1)) fS fdS) (GA : Fn P w K mg base CX0 (10 + 3 * n + 1) "_law_asking" p__law_asking (spTree (n + 1)) fA fdA)
    (GH : Fn P w K mg base CX0 (10 + 3 * n + 2) "_law_handling" p__law_handling (spTree (n + 1)) fH fdH) (GO : Fn P w K mg base CX0 (10 + 3 * n + 1) "_law_loop" p__law_loop (spTree (n + 1)) fO fdO) : FnOk P w K mg base CX0 (10 + 3 * n + 2 + 1) f fd p__law_tree (spTree (n + 1)) := by
  refine F.ok (k := 10 + 3 * n + 2) sc__law_tree (fun vs H Q E h => ?_) (fun cdv A outer st H vs Q E hr h => ?_)
  · obtain ⟨R, s, c, ops, kn, κ, vo, vk, vw, d, rfl, _⟩ := h
    rfl
  · obtain ⟨R, s, c, ops, kn, κ, vo, vk, vw, d, rfl, hd, ⟨w, ao, oko, ak, okk, aw, nq4, kl, kd⟩, q⟩ := h
    refine ⟨_, (pss_cons (ps_set (i := 5) sc__law_tree.nd rfl (Or.inl rfl) (pe_call GT.ok (hr.mono (by omega)) (by rfl) GT.g GT.kp GT.b .nil pass0 (pa_cons (pv 0) (pa_cons (pe_int) pa_nil))))
      (pss_cons (ps_set (i := 6) sc__law_tree.nd rfl (Or.inl rfl) (pe_op op_add_str (pe_str) (pe_callTy call_str_int (by rfl) ms (by decide +kernel) (pa_cons (pe_callB call_len_seq (by rfl) ml PySem.boot_len (pa_cons (pv 2) pa_nil)) pa_nil))))
      (pss_cons (ps_if (PW.pt (pw_or (pt_cmpR op_lt (pv 4) (pe_int) (nomark _)) (pw_or1 (pt_cmpR op_eq (pv 5) (pe_int) (nomark _))))) (pss_one (ps_ret (pe_call GL.ok (hr.mono (by omega)) (by rfl) GL.g GL.kp GL.b .nil pass0 (pa_cons (pv 0) (pa_cons (pv 2) (pa_cons (pv 3) pa_nil)))))) pss_nil)
      (pss_cons (ps_if (pt_cmpR op_lt (pv 5) (pe_int) (nomark _)) (pss_one (ps_ret (pe_call GS.ok (hr.mono (by omega)) (by rfl) GS.g GS.kp GS.b .nil pass0 (pa_cons (pv 0) (pa_cons (pv 1) (pa_cons (pv 2) (pa_cons (pv 3) (pa_cons (pv 4) pa_nil)))))))) pss_nil)
      (pss_cons (ps_if (pt_cmpR op_lt (pv 5) (pe_int) (nomark _)) (pss_one (ps_ret (pe_call GA.ok (hr.mono (by omega)) (by rfl) GA.g GA.kp GA.b .nil pass0 (pa_cons (pv 0) (pa_cons (pv 1) (pa_cons (pv 2) (pa_cons (pv 3) (pa_cons (pv 4) pa_nil)))))))) pss_nil)
      (pss_cons (ps_if (pt_cmpR op_lt (pv 5) (pe_int) (nomark _)) (pss_one (ps_ret (pe_call GH.ok hr (by rfl) GH.g GH.kp GH.b .nil pass0 (pa_cons (pv 0) (pa_cons (pv 1) (pa_cons (pv 2) (pa_cons (pv 3) (pa_cons (pv 4) pa_nil)))))))) pss_nil)
      (pss_cons (ps_if (pt_cmpR op_eq (pv 5) (pe_int) (nomark _)) (pss_one (ps_ret (pe_call GO.ok (hr.mono (by omega)) (by rfl) GO.g GO.kp GO.b .nil pass0 (pa_cons (pv 0) (pa_cons (pv 1) (pa_cons (pv 2) (pa_cons (pv 3) (pa_cons (pv 4) pa_nil)))))))) pss_nil)
      (pss_cons (ps_if (pt_cmpR op_eq (pv 5) (pe_int) (nomark _)) (pss_cons (ps_set (i := 7) sc__law_tree.nd rfl (Or.inl rfl) (pe_call GV.ok (hr.mono (by omega)) (by rfl) GV.g GV.kp GV.b .nil pass0 (pa_cons (pv 0) (pa_cons (pv 1) (pa_cons (pv 2) (pa_cons (pe_tup (pa_cons (pe_str) pa_nil)) (pa_cons (pe_op op_sub (pv 4) (pe_int)) pa_nil)))))))
      (pss_one (ps_ret (pe_tup (pa_cons (pe_str) (pa_cons (pv 7) (pa_cons (pe_call GV.ok (hr.mono (by omega)) (by rfl) GV.g GV.kp GV.b .nil pass0 (pa_cons (pv 0) (pa_cons (pv 1) (pa_cons (pv 2) (pa_cons (pv 3) (pa_cons (pe_op op_sub (pv 4) (pe_int)) pa_nil)))))) pa_nil))))))) pss_nil)
      (pss_cons (ps_set (i := 8) sc__law_tree.nd rfl (Or.inl rfl) (pe_call GK.ok (hr.mono (by omega)) (by rfl) GK.g GK.kp GK.b .nil pass0 (pa_cons (pv 0) (pa_cons (pe_int) pa_nil))))
      (pss_cons (ps_if (pt_cmpR op_eq (pv 5) (pe_int) (nomark _)) (pss_cons (ps_set (i := 7) sc__law_tree.nd rfl (Or.inl rfl) (pe_call GV.ok (hr.mono (by omega)) (by rfl) GV.g GV.kp GV.b .nil pass0 (pa_cons (pv 0) (pa_cons (pv 1) (pa_cons (pv 2) (pa_cons (pe_tup (pa_cons (pe_str) (pa_cons (pv 8) (pa_cons (pv 3) pa_nil)))) (pa_cons (pe_op op_sub (pv 4) (pe_int)) pa_nil)))))))
      (pss_one (ps_ret (pe_tup (pa_cons (pe_str) (pa_cons (pv 7) (pa_cons (pe_call GV.ok (hr.mono (by omega)) (by rfl) GV.g GV.kp GV.b .nil pass0 (pa_cons (pv 0) (pa_cons (pv 1) (pa_cons (pv 2) (pa_cons (pv 8) (pa_cons (pe_op op_sub (pv 4) (pe_int)) pa_nil)))))) pa_nil))))))) pss_nil)
      (pss_cons (ps_if (pt_cmpR op_eq (pv 5) (pe_int) (nomark _)) (pss_cons (ps_set (i := 9) sc__law_tree.nd rfl (Or.inl rfl) (pe_call GV.ok (hr.mono (by omega)) (by rfl) GV.g GV.kp GV.b .nil pass0 (pa_cons (pv 0) (pa_cons (pv 1) (pa_cons (pv 2) (pa_cons (pe_tup (pa_cons (pe_str) pa_nil)) (pa_cons (pe_op op_sub (pv 4) (pe_int)) pa_nil)))))))
      (pss_cons (ps_set (i := 7) sc__law_tree.nd rfl (Or.inl rfl) (pe_call GV.ok (hr.mono (by omega)) (by rfl) GV.g GV.kp GV.b .nil pass0 (pa_cons (pv 0) (pa_cons (pv 1) (pa_cons (pv 2) (pa_cons (pv 3) (pa_cons (pe_op op_sub (pv 4) (pe_int)) pa_nil)))))))
      (pss_one (ps_ret (pe_tup (pa_cons (pe_str) (pa_cons (pv 9) (pa_cons (pv 7) (pa_cons (pe_call GV.ok (hr.mono (by omega)) (by rfl) GV.g GV.kp GV.b .nil pass0 (pa_cons (pv 0) (pa_cons (pv 1) (pa_cons (pv 2) (pa_cons (pv 3) (pa_cons (pe_op op_sub (pv 4) (pe_int)) pa_nil)))))) pa_nil))))))))) pss_nil)
      (pss_cons (ps_if (pt_cmpR op_eq (pe_call GT.ok (hr.mono (by omega)) (by rfl) GT.g GT.kp GT.b .nil pass0 (pa_cons (pv 0) (pa_cons (pe_int) pa_nil))) (pe_int) (nomark _)) (pss_one (ps_ret (pe_tup (pa_cons (pe_str) (pa_cons (pe_call GV.ok (hr.mono (by omega)) (by rfl) GV.g GV.kp GV.b .nil pass0 (pa_cons (pv 0) (pa_cons (pv 1) (pa_cons (pv 2) (pa_cons (pe_tup (pa_cons (pe_str) (pa_cons (pv 8) (pa_cons (pv 3) pa_nil)))) (pa_cons (pe_op op_sub (pv 4) (pe_int)) pa_nil)))))) pa_nil))))) pss_nil)
      (pss_cons (ps_set (i := 7) sc__law_tree.nd rfl (Or.inl rfl) (pe_call GV.ok (hr.mono (by omega)) (by rfl) GV.g GV.kp GV.b .nil pass0 (pa_cons (pv 0) (pa_cons (pv 1) (pa_cons (pv 2) (pa_cons (pv 8) (pa_cons (pe_op op_sub (pv 4) (pe_int)) pa_nil)))))))
      (pss_one (ps_ret (pe_tup (pa_cons (pe_str) (pa_cons (pv 6) (pa_cons (pv 7) (pa_cons (pe_call GV.ok (hr.mono (by omega)) (by rfl) GV.g GV.kp GV.b .nil pass0 (pa_cons (pv 0) (pa_cons (pv 1) (pa_cons (pe_op op_cat (pv 2) (pe_lst (pa_cons (pe_tup (pa_cons (pv 6) (pa_cons (pv 8) pa_nil))) pa_nil))) (pa_cons (pv 3) (pa_cons (pe_op op_sub (pv 4) (pe_int)) pa_nil)))))) pa_nil)))))))))))))))))))), ?_⟩
    have hB := trB_ge n
    have hnl : kn.length < 15 := by omega
    have nsz := nm_small (n := kn.length) (by omega)
    obtain ⟨pk, kvs, rfl, hk, ats⟩ := ak
    have lk := ats.length
    rw [List.length_map] at lk
    have ak : At R (.lst (kn.map knD)) (.ref pk) := ⟨pk, kvs, rfl, hk, ats⟩
    have mm : Mv (Fst s c) R H R H := .refl w.sub
    have zi : Kd.int.dp = 0 := rfl
    have zb : Kd.bool.dp = 0 := rfl
    refine ⟨_, rfl, _, s, c, 14, rfl, by decide, by decide, w.sub, w.rs, w.rc, w.st, fun J1 z1 st1 c1 z10 z11 => ?_⟩
    have w := w.took c1 st1
    have mm := mm.tr c1
    show gName 5 _ _ _ _
    refine ⟨_, rfl, pk, _, rfl, .inl (SqL.of (w.sub _ _ hk)), _, rfl, by rw [lk]; exact nsz.1, _, _, rfl, rfl, by rw [lk]; exact nsz.2.1, ?_⟩
    rw [lk]
    show gName 6 (.str (nmN "x" kn.length)) _ _ _
    refine ⟨_, rfl, _, _, rfl, rfl, _, rfl, ?_⟩
    by_cases h0 : d < 1
    · refine ifT (decide_eq_true h0) ?_
      refine ⟨_, rfl, _, rfl, _, rfl, _, s, c, kn, κ, _, _, rfl, w, ak, aw, okk, by  omega, by  omega, fun Q2 J2 e1 ve1 m w ae1 te1 => ?_⟩
      have mm := mm.tr m
      have ao := ao.up m.up
      have ak := ak.up m.up
      have aw := aw.up m.up
      have hk := m.up _ _ hk
      exact q _ _ e1 _ mm w ae1 (te1.fit (by show κ.dp + 1 ≤ 7 + 5 * (n + 1); omega) (by have := lf6 (a := κ.dp) (by omega); show lfN κ.dp ≤ 8 * trB n; omega))
    refine ifF (decide_eq_false h0) ?_
    refine ⟨_, rfl, rfl, _, rfl, ?_⟩
    by_cases h1 : z1 = 0
    · refine ifT (decide_eq_true (by rw [h1])) ?_
      refine ⟨_, rfl, _, rfl, _, rfl, _, s, c, kn, κ, _, _, rfl, w, ak, aw, okk, by  omega, by  omega, fun Q2 J2 e1 ve1 m w ae1 te1 => ?_⟩
      have mm := mm.tr m
      have ao := ao.up m.up
      have ak := ak.up m.up
      have aw := aw.up m.up
      have hk := m.up _ _ hk
      exact q _ _ e1 _ mm w ae1 (te1.fit (by show κ.dp + 1 ≤ 7 + 5 * (n + 1); omega) (by have := lf6 (a := κ.dp) (by omega); show lfN κ.dp ≤ 8 * trB n; omega))
    refine ifF (decide_eq_false fun h => h1 (V.int.inj h)) ?_
    refine ⟨_, rfl, _, _, rfl, rfl, _, rfl, ?_⟩
    by_cases g3 : z1 < 3
    · refine ifT (decide_eq_true g3) ?_
      refine ⟨_, rfl, _, rfl, _, rfl, _, rfl, _, rfl, _, s, c, ops, kn, κ, _, _, _, d, rfl, hd, ⟨w, ao, oko, ak, okk, aw, nq4, kl, kd⟩, fun Q2 J2 e1 ve1 m w ae1 te1 => ?_⟩
      have mm := mm.tr m
      have ao := ao.up m.up
      have ak := ak.up m.up
      have aw := aw.up m.up
      have hk := m.up _ _ hk
      exact q _ _ e1 _ mm w ae1 te1
    refine ifF (decide_eq_false g3) ?_
    refine ⟨_, rfl, _, _, rfl, rfl, _, rfl, ?_⟩
    by_cases g6 : z1 < 6
    · refine ifT (decide_eq_true g6) ?_
      refine ⟨_, rfl, _, rfl, _, rfl, _, rfl, _, rfl, _, s, c, ops, kn, κ, _, _, _, d, rfl, hd, ⟨w, ao, oko, ak, okk, aw, nq4, kl, kd⟩, fun Q2 J2 e1 ve1 m w ae1 te1 => ?_⟩
      have mm := mm.tr m
      have ao := ao.up m.up
      have ak := ak.up m.up
      have aw := aw.up m.up
      have hk := m.up _ _ hk
      exact q _ _ e1 _ mm w ae1 te1
    refine ifF (decide_eq_false g6) ?_
    refine ⟨_, rfl, _, _, rfl, rfl, _, rfl, ?_⟩
    by_cases g9 : z1 < 9
    · refine ifT (decide_eq_true g9) ?_
      refine ⟨_, rfl, _, rfl, _, rfl, _, rfl, _, rfl, _, s, c, ops, kn, κ, _, _, _, d, rfl, hd, ⟨w, ao, oko, ak, okk, aw, nq4, kl, kd⟩, fun Q2 J2 e1 ve1 m w ae1 te1 => ?_⟩
      have mm := mm.tr m
      have ao := ao.up m.up
      have ak := ak.up m.up
      have aw := aw.up m.up
      have hk := m.up _ _ hk
      exact q _ _ e1 _ mm w ae1 te1
    refine ifF (decide_eq_false g9) ?_
    refine ⟨_, rfl, rfl, _, rfl, ?_⟩
    by_cases q9 : z1 = 9
    · refine ifT (decide_eq_true (by rw [q9])) ?_
      refine ⟨_, rfl, _, rfl, _, rfl, _, rfl, _, rfl, _, s, c, ops, kn, κ, _, _, _, d, rfl, hd, ⟨w, ao, oko, ak, okk, aw, nq4, kl, kd⟩, fun Q2 J2 e1 ve1 m w ae1 te1 => ?_⟩
      have mm := mm.tr m
      have ao := ao.up m.up
      have ak := ak.up m.up
      have aw := aw.up m.up
      have hk := m.up _ _ hk
      exact q _ _ e1 _ mm w ae1 te1
    refine ifF (decide_eq_false fun h => q9 (V.int.inj h)) ?_
    refine ⟨_, rfl, rfl, _, rfl, ?_⟩
    by_cases q10 : z1 = 10
    · refine ifT (decide_eq_true (by rw [q10])) ?_
      refine ⟨_, rfl, _, rfl, _, rfl, by show 1 ≤ sizeLine; decide, fun p2 n2 => ?_⟩
      obtain ⟨Q2, m2, ai⟩ := lit2 w.sub (l := [.str "int"]) ⟨_, _, rfl, at_str, rfl⟩ n2
      have w := w.up0 m2
      have mm := mm.tr0 m2
      have ao := ao.up m2.up
      have ak := ak.up m2.up
      have aw := aw.up m2.up
      have hk := m2.up _ _ hk
      refine ⟨_, rfl, _, _, rfl, rfl, _, s, c, ops, kn, .int, _, _, _, d - 1, rfl, by omega, ⟨w, ao, oko, ak, okk, ai, by omega, by  omega, by  omega⟩, fun Q3 J3 e1 ve1 m w ae1 te1 => ?_⟩
      have mm := mm.tr m
      have ao := ao.up m.up
      have ak := ak.up m.up
      have aw := aw.up m.up
      have ai := ai.up m.up
      have hk := m.up _ _ hk
      show gName 7 _ _ _ _
      refine ⟨_, rfl, _, rfl, _, rfl, _, rfl, _, rfl, _, rfl, _, _, rfl, rfl, _, s, c, ops, kn, κ, _, _, _, d - 1, rfl, by omega, ⟨w, ao, oko, ak, okk, aw, by omega, by  omega, by  omega⟩, fun Q4 J4 e2 ve2 m w ae2 te2 => ?_⟩
      have mm := mm.tr m
      have ao := ao.up m.up
      have ak := ak.up m.up
      have aw := aw.up m.up
      have ai := ai.up m.up
      have ae1 := ae1.up m.up
      have hk := m.up _ _ hk
      refine ⟨by show 3 ≤ sizeLine; decide, fun p5 n5 => ?_⟩
      obtain ⟨Q5, m5, ar⟩ := lit2 w.sub (l := [.str "print", e1.d false, e2.d false]) ⟨_, _, rfl, at_str, _, _, rfl, ae1, _, _, rfl, ae2, rfl⟩ n5
      have w := w.up0 m5
      have mm := mm.tr0 m5
      have ao := ao.up m5.up
      have ak := ak.up m5.up
      have aw := aw.up m5.up
      have ai := ai.up m5.up
      have ae1 := ae1.up m5.up
      have ae2 := ae2.up m5.up
      have hk := m5.up _ _ hk
      exact q _ _ (.pr e1 e2) _ mm w ar ((Tr.pr te1 te2).up (by show 7 + 5 * n + 1 ≤ _; omega) (by omega))
    refine ifF (decide_eq_false fun h => q10 (V.int.inj h)) ?_
    refine ⟨_, rfl, _, s, c, 1, rfl, w, by decide, fun Q2 J2 ko vko m w ako dko => ?_⟩
    have mm := mm.tr m
    have ao := ao.up m.up
    have ak := ak.up m.up
    have aw := aw.up m.up
    have hk := m.up _ _ hk
    show gName 8 _ _ _ _
    have km : ∀ {a b n : Nat}, a ≤ n → b ≤ n → Nat.max a b + 1 ≤ n + 1 := fun x y => Nat.succ_le_succ (Nat.max_le.mpr ⟨x, y⟩)
    have fd1 : (Kd.fn ko κ).dp + n ≤ 6 := by
      have := km (a := ko.dp) (b := κ.dp) (n := 5 - n) (by omega) (by omega)
      show Nat.max ko.dp κ.dp + 1 + n ≤ 6
      omega
    have pd1 : (Kd.pair ko κ).dp + n ≤ 6 := fd1
    refine ⟨_, rfl, rfl, _, rfl, ?_⟩
    by_cases q11 : z1 = 11
    · refine ifT (decide_eq_true (by rw [q11])) ?_
      refine ⟨_, rfl, _, rfl, _, rfl, _, rfl, _, rfl, by show 3 ≤ sizeLine; decide, fun p3 n3 => ?_⟩
      obtain ⟨Q3, m3, ai⟩ := lit2 w.sub (l := [.str "fun", ko.d, κ.d]) ⟨_, _, rfl, at_str, _, _, rfl, ako, _, _, rfl, aw, rfl⟩ n3
      have w := w.up0 m3
      have mm := mm.tr0 m3
      have ao := ao.up m3.up
      have ak := ak.up m3.up
      have aw := aw.up m3.up
      have ako := ako.up m3.up
      have hk := m3.up _ _ hk
      refine ⟨_, rfl, _, _, rfl, rfl, _, s, c, ops, kn, (.fn ko κ), _, _, _, d - 1, rfl, by omega, ⟨w, ao, oko, ak, okk, ai, by omega, by  omega, by  omega⟩, fun Q4 J4 e1 ve1 m w ae1 te1 => ?_⟩
      have mm := mm.tr m
      have ao := ao.up m.up
      have ak := ak.up m.up
      have aw := aw.up m.up
      have ako := ako.up m.up
      have ai := ai.up m.up
      have hk := m.up _ _ hk
      show gName 7 _ _ _ _
      refine ⟨_, rfl, _, rfl, _, rfl, _, rfl, _, rfl, _, rfl, _, _, rfl, rfl, _, s, c, ops, kn, ko, _, _, _, d - 1, rfl, by omega, ⟨w, ao, oko, ak, okk, ako, by omega, by  omega, by  omega⟩, fun Q5 J5 e2 ve2 m w ae2 te2 => ?_⟩
      have mm := mm.tr m
      have ao := ao.up m.up
      have ak := ak.up m.up
      have aw := aw.up m.up
      have ako := ako.up m.up
      have ai := ai.up m.up
      have ae1 := ae1.up m.up
      have hk := m.up _ _ hk
      refine ⟨by show 3 ≤ sizeLine; decide, fun p6 n6 => ?_⟩
      obtain ⟨Q6, m6, ar⟩ := lit2 w.sub (l := [.str "call", e1.d false, e2.d false]) ⟨_, _, rfl, at_str, _, _, rfl, ae1, _, _, rfl, ae2, rfl⟩ n6
      have w := w.up0 m6
      have mm := mm.tr0 m6
      have ao := ao.up m6.up
      have ak := ak.up m6.up
      have aw := aw.up m6.up
      have ako := ako.up m6.up
      have ai := ai.up m6.up
      have ae1 := ae1.up m6.up
      have ae2 := ae2.up m6.up
      have hk := m6.up _ _ hk
      exact q _ _ (.call e1 e2) _ mm w ar ((Tr.call te1 te2).up (by show 7 + 5 * n + 1 ≤ _; omega) (by omega))
    refine ifF (decide_eq_false fun h => q11 (V.int.inj h)) ?_
    refine ⟨_, rfl, rfl, _, rfl, ?_⟩
    by_cases q12 : z1 = 12
    · refine ifT (decide_eq_true (by rw [q12])) ?_
      refine ⟨_, rfl, _, rfl, _, rfl, by show 1 ≤ sizeLine; decide, fun p3 n3 => ?_⟩
      obtain ⟨Q3, m3, ai⟩ := lit2 w.sub (l := [.str "bool"]) ⟨_, _, rfl, at_str, rfl⟩ n3
      have w := w.up0 m3
      have mm := mm.tr0 m3
      have ao := ao.up m3.up
      have ak := ak.up m3.up
      have aw := aw.up m3.up
      have ako := ako.up m3.up
      have hk := m3.up _ _ hk
      refine ⟨_, rfl, _, _, rfl, rfl, _, s, c, ops, kn, .bool, _, _, _, d - 1, rfl, by omega, ⟨w, ao, oko, ak, okk, ai, by omega, by  omega, by  omega⟩, fun Q4 J4 e1 ve1 m w ae1 te1 => ?_⟩
      have mm := mm.tr m
      have ao := ao.up m.up
      have ak := ak.up m.up
      have aw := aw.up m.up
      have ako := ako.up m.up
      have ai := ai.up m.up
      have hk := m.up _ _ hk
      show gName 9 _ _ _ _
      refine ⟨_, rfl, _, rfl, _, rfl, _, rfl, _, rfl, _, _, rfl, rfl, _, s, c, ops, kn, κ, _, _, _, d - 1, rfl, by omega, ⟨w, ao, oko, ak, okk, aw, by omega, by  omega, by  omega⟩, fun Q5 J5 e2 ve2 m w ae2 te2 => ?_⟩
      have mm := mm.tr m
      have ao := ao.up m.up
      have ak := ak.up m.up
      have aw := aw.up m.up
      have ako := ako.up m.up
      have ai := ai.up m.up
      have ae1 := ae1.up m.up
      have hk := m.up _ _ hk
      show gName 7 _ _ _ _
      refine ⟨_, rfl, _, rfl, _, rfl, _, rfl, _, rfl, _, rfl, _, rfl, _, _, rfl, rfl, _, s, c, ops, kn, κ, _, _, _, d - 1, rfl, by omega, ⟨w, ao, oko, ak, okk, aw, by omega, by  omega, by  omega⟩, fun Q6 J6 e3 ve3 m w ae3 te3 => ?_⟩
      have mm := mm.tr m
      have ao := ao.up m.up
      have ak := ak.up m.up
      have aw := aw.up m.up
      have ako := ako.up m.up
      have ai := ai.up m.up
      have ae1 := ae1.up m.up
      have ae2 := ae2.up m.up
      have hk := m.up _ _ hk
      refine ⟨by show 4 ≤ sizeLine; decide, fun p7 n7 => ?_⟩
      obtain ⟨Q7, m7, ar⟩ := lit2 w.sub (l := [.str "if", e1.d false, e2.d false, e3.d false]) ⟨_, _, rfl, at_str, _, _, rfl, ae1, _, _, rfl, ae2, _, _, rfl, ae3, rfl⟩ n7
      have w := w.up0 m7
      have mm := mm.tr0 m7
      have ao := ao.up m7.up
      have ak := ak.up m7.up
      have aw := aw.up m7.up
      have ako := ako.up m7.up
      have ai := ai.up m7.up
      have ae1 := ae1.up m7.up
      have ae2 := ae2.up m7.up
      have ae3 := ae3.up m7.up
      have hk := m7.up _ _ hk
      exact q _ _ (.ite e1 e2 e3) _ mm w ar ((Tr.ite te1 te2 te3).up (by show 7 + 5 * n + 1 ≤ _; omega) (by omega))
    refine ifF (decide_eq_false fun h => q12 (V.int.inj h)) ?_
    refine ⟨_, rfl, _, s, c, 3, rfl, by decide, by decide, w.sub, w.rs, w.rc, w.st, fun J3 z3 st3 c3 z30 z31 => ?_⟩
    have w := w.took c3 st3
    have mm := mm.tr c3
    refine ⟨rfl, _, rfl, ?_⟩
    by_cases h5 : z3 = 0
    · refine ifT (decide_eq_true (by rw [h5])) ?_
      refine ⟨_, rfl, _, rfl, _, rfl, _, rfl, _, rfl, by show 3 ≤ sizeLine; decide, fun p4 n4 => ?_⟩
      obtain ⟨Q4, m4, ai⟩ := lit2 w.sub (l := [.str "pair", ko.d, κ.d]) ⟨_, _, rfl, at_str, _, _, rfl, ako, _, _, rfl, aw, rfl⟩ n4
      have w := w.up0 m4
      have mm := mm.tr0 m4
      have ao := ao.up m4.up
      have ak := ak.up m4.up
      have aw := aw.up m4.up
      have ako := ako.up m4.up
      have hk := m4.up _ _ hk
      refine ⟨_, rfl, _, _, rfl, rfl, _, s, c, ops, kn, (.pair ko κ), _, _, _, d - 1, rfl, by omega, ⟨w, ao, oko, ak, okk, ai, by omega, by  omega, by  omega⟩, fun Q5 J5 e1 ve1 m w ae1 te1 => ?_⟩
      have mm := mm.tr m
      have ao := ao.up m.up
      have ak := ak.up m.up
      have aw := aw.up m.up
      have ako := ako.up m.up
      have ai := ai.up m.up
      have hk := m.up _ _ hk
      refine ⟨by show 2 ≤ sizeLine; decide, fun p6 n6 => ?_⟩
      obtain ⟨Q6, m6, ar⟩ := lit2 w.sub (l := [.str "snd", e1.d false]) ⟨_, _, rfl, at_str, _, _, rfl, ae1, rfl⟩ n6
      have w := w.up0 m6
      have mm := mm.tr0 m6
      have ao := ao.up m6.up
      have ak := ak.up m6.up
      have aw := aw.up m6.up
      have ako := ako.up m6.up
      have ai := ai.up m6.up
      have ae1 := ae1.up m6.up
      have hk := m6.up _ _ hk
      exact q _ _ (.snd e1) _ mm w ar ((Tr.snd te1).up (by show 7 + 5 * n + 1 ≤ _; omega) (by omega))
    refine ifF (decide_eq_false fun h => h5 (V.int.inj h)) ?_
    refine ⟨_, rfl, _, rfl, _, rfl, _, rfl, _, rfl, _, _, rfl, rfl, _, s, c, ops, kn, ko, _, _, _, d - 1, rfl, by omega, ⟨w, ao, oko, ak, okk, ako, by omega, by  omega, by  omega⟩, fun Q4 J4 e1 ve1 m w ae1 te1 => ?_⟩
    have mm := mm.tr m
    have ao := ao.up m.up
    have ak := ak.up m.up
    have aw := aw.up m.up
    have ako := ako.up m.up
    have hk := m.up _ _ hk
    show gName 7 _ _ _ _
    refine ⟨_, rfl, _, rfl, _, rfl, _, rfl, _, rfl, _, rfl, _, rfl, by show 2 ≤ sizeLine; decide, fun p6 n6 => ?_⟩
    obtain ⟨Q6, m6, at5⟩ := lit2 w.sub (l := [.str (nmN "x" kn.length), ko.d]) ⟨_, _, rfl, at_str, _, _, rfl, ako, rfl⟩ n6
    have w := w.up0 m6
    have mm := mm.tr0 m6
    have ao := ao.up m6.up
    have ak := ak.up m6.up
    have aw := aw.up m6.up
    have ako := ako.up m6.up
    have ae1 := ae1.up m6.up
    have hk := m6.up _ _ hk
    refine ⟨by show 1 ≤ sizeLine; decide, fun p7 n7 => ?_⟩
    obtain ⟨Q7, m7, al5⟩ := lit3 w.sub (l := [knD ((nmN "x" kn.length), ko)]) ⟨_, _, rfl, at5, rfl⟩ n7
    have w := w.up0 m7
    have mm := mm.tr0 m7
    have ao := ao.up m7.up
    have ak := ak.up m7.up
    have aw := aw.up m7.up
    have ako := ako.up m7.up
    have ae1 := ae1.up m7.up
    have at5 := at5.up m7.up
    have hk := m7.up _ _ hk
    obtain ⟨pa5, va5, ea5, ha5, ta5⟩ := id ak
    obtain ⟨pb5, vb5, eb5, hb5, tb5⟩ := id al5
    cases ea5; cases eb5
    have len8 := ta5.length
    rw [List.length_map] at len8
    have lem8 : vb5.length = 1 := tb5.length
    refine ⟨_, _, _, _, rfl, rfl, w.sub _ _ ha5, w.sub _ _ hb5, big3 (by omega), fun p8 n8 => ?_⟩
    obtain ⟨Q8, m8, ak2⟩ := lit3 w.sub (l := (kn ++ [((nmN "x" kn.length), ko)]).map knD) (by rw [List.map_append]; exact ta5.append tb5) n8
    have w := w.up0 m8
    have mm := mm.tr0 m8
    have ao := ao.up m8.up
    have ak := ak.up m8.up
    have aw := aw.up m8.up
    have ako := ako.up m8.up
    have ae1 := ae1.up m8.up
    have at5 := at5.up m8.up
    have al5 := al5.up m8.up
    have hk := m8.up _ _ hk
    refine ⟨_, rfl, _, rfl, _, _, rfl, rfl, _, s, c, ops, (kn ++ [((nmN "x" kn.length), ko)]), κ, _, _, _, d - 1, rfl, by omega, ⟨w, ao, oko, ak2, (okk.snoc (okNm_x (Nat.lt_succ_of_lt hnl)) (by omega)), aw, by omega, by (try rw [List.length_append]); (try show kn.length + 1 + 2 * n ≤ 8); omega, by (try rw [List.length_append]); (try show kn.length + 1 + 2 * n ≤ 8); omega⟩, fun Q9 J9 e2 ve2 m w ae2 te2 => ?_⟩
    have mm := mm.tr m
    have ao := ao.up m.up
    have ak := ak.up m.up
    have aw := aw.up m.up
    have ako := ako.up m.up
    have ae1 := ae1.up m.up
    have at5 := at5.up m.up
    have al5 := al5.up m.up
    have ak2 := ak2.up m.up
    have hk := m.up _ _ hk
    refine ⟨by show 4 ≤ sizeLine; decide, fun p10 n10 => ?_⟩
    obtain ⟨Q10, m10, ar⟩ := lit2 w.sub (l := [.str "let", .str (nmN "x" kn.length), e1.d false, e2.d false]) ⟨_, _, rfl, at_str, _, _, rfl, at_str, _, _, rfl, ae1, _, _, rfl, ae2, rfl⟩ n10
    have w := w.up0 m10
    have mm := mm.tr0 m10
    have ao := ao.up m10.up
    have ak := ak.up m10.up
    have aw := aw.up m10.up
    have ako := ako.up m10.up
    have ae1 := ae1.up m10.up
    have at5 := at5.up m10.up
    have al5 := al5.up m10.up
    have ak2 := ak2.up m10.up
    have ae2 := ae2.up m10.up
    have hk := m10.up _ _ hk
    exact q _ _ (.lt (nmN "x" kn.length) e1 e2) _ mm w ar ((Tr.lt (okNm_x (Nat.lt_succ_of_lt hnl)) te1 te2).up (by show 7 + 5 * n + 1 ≤ _; omega) (by omega))
end
end Bz


set_option Elab.async false
set_option linter.all false
set_option maxRecDepth 100000
set_option maxHeartbeats 4000000
namespace Bz
open PySem PySem.Spec L2 PyProof.Rows
/-- without handlers -/
def noH (e : Ex) : Prop := (pre e).flatMap hdB = []
/-- small expressions of clauses -/
def simpleL : List Ex := [.num 1, .name "x", .name "k", .fn "k" (.name "k"), .call (.name "k") (.num 2), .fn "y" (.name "k"), .flag true, .lt "k" (.num 3) (.name "k")]
theorem simple_get {z : Nat} (h : z < 8) : ∃ e, simpleL[z]? = some e ∧ Tr e 3 3 ∧ noH e := by
  have ky : okNm "k" = true := by decide +kernel
  have kx : okNm "x" = true := by decide +kernel
  have yy : okNm "y" = true := by decide +kernel
  rcases (by omega : z = 0 ∨ z = 1 ∨ z = 2 ∨ z = 3 ∨ z = 4 ∨ z = 5 ∨ z = 6 ∨ z = 7) with rfl | rfl | rfl | rfl | rfl | rfl | rfl | rfl
  · exact ⟨_, rfl, Tr.num.fit (by omega) (by omega), rfl⟩
  · exact ⟨_, rfl, (Tr.name kx).fit (by omega) (by omega), rfl⟩
  · exact ⟨_, rfl, (Tr.name ky).fit (by omega) (by omega), rfl⟩
  · exact ⟨_, rfl, (Tr.fn ky (Tr.name ky)).fit (by omega) (by omega), rfl⟩
  · exact ⟨_, rfl, (Tr.call (Tr.name ky) Tr.num).fit (by omega) (by omega), rfl⟩
  · exact ⟨_, rfl, (Tr.fn yy (Tr.name ky)).fit (by omega) (by omega), rfl⟩
  · exact ⟨_, rfl, Tr.flag.fit (by omega) (by omega), rfl⟩
  · exact ⟨_, rfl, (Tr.lt ky Tr.num (Tr.name ky)).fit (by omega) (by omega), rfl⟩
theorem pick8 {z z2 : Nat} (h : z < 8) (h2 : z2 < 8) : ∃ m : Nat, m < 8 ∧ ([.int 0, .int 1, .int 0, .int 1, .int 3, .int 6, .int 7, .int (z : Int)] : List V)[z2]? = some (.int (m : Int)) := by
  rcases (by omega : z2 = 0 ∨ z2 = 1 ∨ z2 = 2 ∨ z2 = 3 ∨ z2 = 4 ∨ z2 = 5 ∨ z2 = 6 ∨ z2 = 7) with rfl | rfl | rfl | rfl | rfl | rfl | rfl | rfl
  · exact ⟨0, by omega, rfl⟩
  · exact ⟨1, by omega, rfl⟩
  · exact ⟨0, by omega, rfl⟩
  · exact ⟨1, by omega, rfl⟩
  · exact ⟨3, by omega, rfl⟩
  · exact ⟨6, by omega, rfl⟩
  · exact ⟨7, by omega, rfl⟩
  · exact ⟨z, h, rfl⟩
theorem simple_d {z : Nat} {e : Ex} (h : simpleL[z]? = some e) : (simpleL.map (Ex.d false))[z]? = some (e.d false) := by rw [List.getElem?_map, h]; rfl
section
variable {P : Program} {w : World} {K : PySem.W.Frag} {mg : Str → Option Value} {base : Heap}
abbrev g__law_simple : Stmt := topS 30
abbrev n__law_simple : List Str := ["state", "rows"]
abbrev p__law_simple : List Str := ["state"]
theorem sc__law_simple : FnScope n__law_simple p__law_simple (defScope g__law_simple) := ⟨rfl, rfl, rfl, by decide +kernel, rfl, by decide +kernel, by decide +kernel⟩
def spSimple : Sp := fun vs H Q _ => ∃ (R : Hp) (s c : Addr), vs = [.ref s] ∧ Wd R H s c ∧ ∀ (R' H' : Hp) (e : Ex) (v : V), Mv (Fst s c) R H R' H' → Wd R' H' s c → At R' (e.d false) v → Tr e 3 3 → noH e → Q v H'
theorem ok_simple {f fT : Addr} {fd fdT : FuncData} (F : Fun K "_law_simple" "_law_simple" g__law_simple f fd) (GT : Fn P w K mg base CX0 1 "_law_take" p__law_take spTake fT fdT) : FnOk P w K mg base CX0 2 f fd p__law_simple spSimple := by
  refine F.ok (k := 1) sc__law_simple (fun vs H Q E h => ?_) (fun cdv A outer st H vs Q E hr h => ?_)
  · obtain ⟨R, s, c, rfl, _⟩ := h
    rfl
  · obtain ⟨R, s, c, rfl, w, q⟩ := h
    refine ⟨_, (pss_cons (ps_set (i := 1) sc__law_simple.nd rfl (Or.inl rfl) (pe_lst (pa_cons (pe_tup (pa_cons (pe_str) (pa_cons (pe_int) pa_nil))) (pa_cons (pe_tup (pa_cons (pe_str) (pa_cons (pe_str) pa_nil))) (pa_cons (pe_tup (pa_cons (pe_str) (pa_cons (pe_str) pa_nil))) (pa_cons (pe_tup (pa_cons (pe_str) (pa_cons (pe_str) (pa_cons (pe_tup (pa_cons (pe_str) (pa_cons (pe_str) pa_nil))) pa_nil)))) (pa_cons (pe_tup (pa_cons (pe_str) (pa_cons (pe_tup (pa_cons (pe_str) (pa_cons (pe_str) pa_nil))) (pa_cons (pe_tup (pa_cons (pe_str) (pa_cons (pe_int) pa_nil))) pa_nil)))) pa_nil)))))))
      (pss_cons (ps_set (i := 1) sc__law_simple.nd rfl (Or.inl rfl) (pe_op op_cat (pv 1) (pe_lst (pa_cons (pe_tup (pa_cons (pe_str) (pa_cons (pe_str) (pa_cons (pe_tup (pa_cons (pe_str) (pa_cons (pe_str) pa_nil))) pa_nil)))) (pa_cons (pe_tup (pa_cons (pe_str) (pa_cons (pe_bl) pa_nil))) (pa_cons (pe_tup (pa_cons (pe_str) (pa_cons (pe_str) (pa_cons (pe_tup (pa_cons (pe_str) (pa_cons (pe_int) pa_nil))) (pa_cons (pe_tup (pa_cons (pe_str) (pa_cons (pe_str) pa_nil))) pa_nil))))) pa_nil))))))
      (pss_one (ps_ret (pe_ix ix_list (pv 1) (pe_ix ix_list (pe_lst (pa_cons (pe_int) (pa_cons (pe_int) (pa_cons (pe_int) (pa_cons (pe_int) (pa_cons (pe_int) (pa_cons (pe_int) (pa_cons (pe_int) (pa_cons (pe_call GT.ok (hr.mono (by omega)) (by rfl) GT.g GT.kp GT.b .nil pass0 (pa_cons (pv 0) (pa_cons (pe_int) pa_nil))) pa_nil))))))))) (pe_call GT.ok (hr.mono (by omega)) (by rfl) GT.g GT.kp GT.b .nil pass0 (pa_cons (pv 0) (pa_cons (pe_int) pa_nil))) (fun _ _ => rfl)) (fun _ _ => rfl)))))), ?_⟩
    have mm : Mv (Fst s c) R H R H := .refl w.sub
    refine ⟨by show 2 ≤ sizeLine; decide, fun p1 n1 => ?_⟩
    obtain ⟨Q1, m1, s0⟩ := lit2 w.sub (l := [.str "num", .int 1]) ⟨_, _, rfl, at_str, _, _, rfl, at_int, rfl⟩ n1
    have w := w.up0 m1
    have mm := mm.tr0 m1
    refine ⟨by show 2 ≤ sizeLine; decide, fun p2 n2 => ?_⟩
    obtain ⟨Q2, m2, s1⟩ := lit2 w.sub (l := [.str "name", .str "x"]) ⟨_, _, rfl, at_str, _, _, rfl, at_str, rfl⟩ n2
    have w := w.up0 m2
    have mm := mm.tr0 m2
    have s0 := s0.up m2.up
    refine ⟨by show 2 ≤ sizeLine; decide, fun p3 n3 => ?_⟩
    obtain ⟨Q3, m3, s2⟩ := lit2 w.sub (l := [.str "name", .str "k"]) ⟨_, _, rfl, at_str, _, _, rfl, at_str, rfl⟩ n3
    have w := w.up0 m3
    have mm := mm.tr0 m3
    have s0 := s0.up m3.up
    have s1 := s1.up m3.up
    refine ⟨by show 2 ≤ sizeLine; decide, fun p4 n4 => ?_⟩
    obtain ⟨Q4, m4, s3a⟩ := lit2 w.sub (l := [.str "name", .str "k"]) ⟨_, _, rfl, at_str, _, _, rfl, at_str, rfl⟩ n4
    have w := w.up0 m4
    have mm := mm.tr0 m4
    have s0 := s0.up m4.up
    have s1 := s1.up m4.up
    have s2 := s2.up m4.up
    refine ⟨by show 3 ≤ sizeLine; decide, fun p5 n5 => ?_⟩
    obtain ⟨Q5, m5, s3⟩ := lit2 w.sub (l := [.str "fun", .str "k", (Ex.name "k").d false]) ⟨_, _, rfl, at_str, _, _, rfl, at_str, _, _, rfl, s3a, rfl⟩ n5
    have w := w.up0 m5
    have mm := mm.tr0 m5
    have s0 := s0.up m5.up
    have s1 := s1.up m5.up
    have s2 := s2.up m5.up
    have s3a := s3a.up m5.up
    refine ⟨by show 2 ≤ sizeLine; decide, fun p6 n6 => ?_⟩
    obtain ⟨Q6, m6, s4a⟩ := lit2 w.sub (l := [.str "name", .str "k"]) ⟨_, _, rfl, at_str, _, _, rfl, at_str, rfl⟩ n6
    have w := w.up0 m6
    have mm := mm.tr0 m6
    have s0 := s0.up m6.up
    have s1 := s1.up m6.up
    have s2 := s2.up m6.up
    have s3a := s3a.up m6.up
    have s3 := s3.up m6.up
    refine ⟨by show 2 ≤ sizeLine; decide, fun p7 n7 => ?_⟩
    obtain ⟨Q7, m7, s4b⟩ := lit2 w.sub (l := [.str "num", .int 2]) ⟨_, _, rfl, at_str, _, _, rfl, at_int, rfl⟩ n7
    have w := w.up0 m7
    have mm := mm.tr0 m7
    have s0 := s0.up m7.up
    have s1 := s1.up m7.up
    have s2 := s2.up m7.up
    have s3a := s3a.up m7.up
    have s3 := s3.up m7.up
    have s4a := s4a.up m7.up
    refine ⟨by show 3 ≤ sizeLine; decide, fun p8 n8 => ?_⟩
    obtain ⟨Q8, m8, s4⟩ := lit2 w.sub (l := [.str "call", (Ex.name "k").d false, (Ex.num 2).d false]) ⟨_, _, rfl, at_str, _, _, rfl, s4a, _, _, rfl, s4b, rfl⟩ n8
    have w := w.up0 m8
    have mm := mm.tr0 m8
    have s0 := s0.up m8.up
    have s1 := s1.up m8.up
    have s2 := s2.up m8.up
    have s3a := s3a.up m8.up
    have s3 := s3.up m8.up
    have s4a := s4a.up m8.up
    have s4b := s4b.up m8.up
    refine ⟨by show 5 ≤ sizeLine; decide, fun p9 n9 => ?_⟩
    obtain ⟨Q9, m9, l1⟩ := lit3 w.sub (l := [(Ex.num 1).d false, (Ex.name "x").d false, (Ex.name "k").d false, (Ex.fn "k" (Ex.name "k")).d false, (Ex.call (Ex.name "k") (Ex.num 2)).d false]) ⟨_, _, rfl, s0, _, _, rfl, s1, _, _, rfl, s2, _, _, rfl, s3, _, _, rfl, s4, rfl⟩ n9
    have w := w.up0 m9
    have mm := mm.tr0 m9
    have s0 := s0.up m9.up
    have s1 := s1.up m9.up
    have s2 := s2.up m9.up
    have s3a := s3a.up m9.up
    have s3 := s3.up m9.up
    have s4a := s4a.up m9.up
    have s4b := s4b.up m9.up
    have s4 := s4.up m9.up
    show gName 1 _ _ _ _
    refine ⟨_, rfl, by show 2 ≤ sizeLine; decide, fun p10 n10 => ?_⟩
    obtain ⟨Q10, m10, t0a⟩ := lit2 w.sub (l := [.str "name", .str "k"]) ⟨_, _, rfl, at_str, _, _, rfl, at_str, rfl⟩ n10
    have w := w.up0 m10
    have mm := mm.tr0 m10
    have l1 := l1.up m10.up
    refine ⟨by show 3 ≤ sizeLine; decide, fun p11 n11 => ?_⟩
    obtain ⟨Q11, m11, t0⟩ := lit2 w.sub (l := [.str "fun", .str "y", (Ex.name "k").d false]) ⟨_, _, rfl, at_str, _, _, rfl, at_str, _, _, rfl, t0a, rfl⟩ n11
    have w := w.up0 m11
    have mm := mm.tr0 m11
    have l1 := l1.up m11.up
    have t0a := t0a.up m11.up
    refine ⟨by show 2 ≤ sizeLine; decide, fun p12 n12 => ?_⟩
    obtain ⟨Q12, m12, t1⟩ := lit2 w.sub (l := [.str "flag", .bl true]) ⟨_, _, rfl, at_str, _, _, rfl, at_bl, rfl⟩ n12
    have w := w.up0 m12
    have mm := mm.tr0 m12
    have l1 := l1.up m12.up
    have t0a := t0a.up m12.up
    have t0 := t0.up m12.up
    refine ⟨by show 2 ≤ sizeLine; decide, fun p13 n13 => ?_⟩
    obtain ⟨Q13, m13, t2a⟩ := lit2 w.sub (l := [.str "num", .int 3]) ⟨_, _, rfl, at_str, _, _, rfl, at_int, rfl⟩ n13
    have w := w.up0 m13
    have mm := mm.tr0 m13
    have l1 := l1.up m13.up
    have t0a := t0a.up m13.up
    have t0 := t0.up m13.up
    have t1 := t1.up m13.up
    refine ⟨by show 2 ≤ sizeLine; decide, fun p14 n14 => ?_⟩
    obtain ⟨Q14, m14, t2b⟩ := lit2 w.sub (l := [.str "name", .str "k"]) ⟨_, _, rfl, at_str, _, _, rfl, at_str, rfl⟩ n14
    have w := w.up0 m14
    have mm := mm.tr0 m14
    have l1 := l1.up m14.up
    have t0a := t0a.up m14.up
    have t0 := t0.up m14.up
    have t1 := t1.up m14.up
    have t2a := t2a.up m14.up
    refine ⟨by show 4 ≤ sizeLine; decide, fun p15 n15 => ?_⟩
    obtain ⟨Q15, m15, t2⟩ := lit2 w.sub (l := [.str "let", .str "k", (Ex.num 3).d false, (Ex.name "k").d false]) ⟨_, _, rfl, at_str, _, _, rfl, at_str, _, _, rfl, t2a, _, _, rfl, t2b, rfl⟩ n15
    have w := w.up0 m15
    have mm := mm.tr0 m15
    have l1 := l1.up m15.up
    have t0a := t0a.up m15.up
    have t0 := t0.up m15.up
    have t1 := t1.up m15.up
    have t2a := t2a.up m15.up
    have t2b := t2b.up m15.up
    refine ⟨by show 3 ≤ sizeLine; decide, fun p16 n16 => ?_⟩
    obtain ⟨Q16, m16, l2⟩ := lit3 w.sub (l := [(Ex.fn "y" (Ex.name "k")).d false, (Ex.flag true).d false, (Ex.lt "k" (Ex.num 3) (Ex.name "k")).d false]) ⟨_, _, rfl, t0, _, _, rfl, t1, _, _, rfl, t2, rfl⟩ n16
    have w := w.up0 m16
    have mm := mm.tr0 m16
    have l1 := l1.up m16.up
    have t0a := t0a.up m16.up
    have t0 := t0.up m16.up
    have t1 := t1.up m16.up
    have t2a := t2a.up m16.up
    have t2b := t2b.up m16.up
    have t2 := t2.up m16.up
    obtain ⟨pa, va, ea, ha, ta⟩ := id l1
    obtain ⟨pb, vb, eb, hb, tb⟩ := id l2
    cases ea; cases eb
    have len1 : va.length = 5 := ta.length
    have len2 : vb.length = 3 := tb.length
    refine ⟨_, _, _, _, rfl, rfl, w.sub _ _ ha, w.sub _ _ hb, big3 (by omega), fun pI nI => ?_⟩
    obtain ⟨QI, mI, lL⟩ := lit3 w.sub (l := simpleL.map (Ex.d false)) (ta.append tb) nI
    have w := w.up0 mI
    have mm := mm.tr0 mI
    have l1 := l1.up mI.up
    have t0a := t0a.up mI.up
    have t0 := t0.up mI.up
    have t1 := t1.up mI.up
    have t2a := t2a.up mI.up
    have t2b := t2b.up mI.up
    have t2 := t2.up mI.up
    have l2 := l2.up mI.up
    show gName 1 _ _ _ _
    refine ⟨_, rfl, _, rfl, _, s, c, 8, rfl, by decide, by decide, w.sub, w.rs, w.rc, w.st, fun J17 z17 st17 c17 z170 z171 => ?_⟩
    have w := w.took c17 st17
    have mm := mm.tr c17
    obtain ⟨jz, rfl⟩ : ∃ j : Nat, z17 = (j : Int) := ⟨z17.toNat, by omega⟩
    refine ⟨by show 8 ≤ sizeLine; decide, fun pM nM => ?_⟩
    have mM : Mv F0 _ _ _ _ := mv_mut (F := F0) (o := .lst [.int 0, .int 1, .int 0, .int 1, .int 3, .int 6, .int 7, .int (jz : Int)]) w.sub nM
    have nF : ¬ Fst s c pM := w.nf nM
    have w := w.up0 mM
    have mm := mm.tr0 mM
    refine ⟨_, rfl, _, s, c, 8, rfl, by decide, by decide, w.sub, w.rs, w.rc, w.st, fun J18 z18 st18 c18 z180 z181 => ?_⟩
    have w := w.took c18 st18
    have mm := mm.tr c18
    obtain ⟨j2, rfl⟩ : ∃ j : Nat, z18 = (j : Int) := ⟨z18.toNat, by omega⟩
    obtain ⟨m, hm, em⟩ := pick8 (z := jz) (z2 := j2) (by omega) (by omega)
    obtain ⟨e, he, te, ne⟩ := simple_get hm
    obtain ⟨pL, vL, eL, hL, tL⟩ := id lL
    cases eL
    obtain ⟨v, hv, av⟩ := tL.get (simple_d he)
    refine ⟨_, _, _, _, rfl, rfl, SqL.of (c18.keep _ _ upd_same nF), atI_nat em, ?_⟩
    refine ⟨_, _, _, _, rfl, rfl, SqL.of (w.sub _ _ hL), atI_nat hv, ?_⟩
    exact q _ _ e _ mm w av te ne
abbrev g__law_body : Stmt := topS 31
abbrev n__law_body : List Str := ["state", "depth", "kind", "name"]
abbrev p__law_body : List Str := ["state", "depth"]
theorem sc__law_body : FnScope n__law_body p__law_body (defScope g__law_body) := ⟨rfl, rfl, rfl, by decide +kernel, rfl, by decide +kernel, by decide +kernel⟩
def bdN : Nat → Nat
  | 0 => 5
  | n + 1 => 2 * bdN n + 4
theorem bdN_ge : ∀ n, 5 ≤ bdN n
  | 0 => Nat.le_refl _
  | n + 1 => by have := bdN_ge n; show 5 ≤ 2 * bdN n + 4; omega
def nmk4 : List Str := ["k", "k", "k", "x"]
def nmy4 : List Str := ["y", "x", "y", "k"]
theorem nmk4_get {z : Nat} (h : z < 4) : ∃ x, nmk4[z]? = some x ∧ okNm x = true := by
  rcases (by omega : z = 0 ∨ z = 1 ∨ z = 2 ∨ z = 3) with rfl | rfl | rfl | rfl <;> exact ⟨_, rfl, by decide +kernel⟩
theorem nmy4_get {z : Nat} (h : z < 4) : ∃ x, nmy4[z]? = some x ∧ okNm x = true := by
  rcases (by omega : z = 0 ∨ z = 1 ∨ z = 2 ∨ z = 3) with rfl | rfl | rfl | rfl <;> exact ⟨_, rfl, by decide +kernel⟩
theorem noH2 {a b : List (Bool)} (h : a = []) (k : b = []) : a ++ b = [] := by rw [h, k]; rfl
theorem noH_call {f e : Ex} (h : noH f) (k : noH e) : noH (.call f e) := by unfold noH; show (pre f ++ pre e).flatMap hdB = []; rw [List.flatMap_append]; exact noH2 h k
theorem noH_pr {f e : Ex} (h : noH f) (k : noH e) : noH (.pr f e) := by unfold noH; show (pre f ++ pre e).flatMap hdB = []; rw [List.flatMap_append]; exact noH2 h k
theorem noH_lt {x : Str} {f e : Ex} (h : noH f) (k : noH e) : noH (.lt x f e) := by unfold noH; show (pre f ++ pre e).flatMap hdB = []; rw [List.flatMap_append]; exact noH2 h k
theorem noH_ite {f e g : Ex} (h : noH f) (k : noH e) (l : noH g) : noH (.ite f e g) := by unfold noH; show (pre f ++ (pre e ++ pre g)).flatMap hdB = []; rw [List.flatMap_append, List.flatMap_append]; exact noH2 h (noH2 k l)
def spBody (n : Nat) : Sp := fun vs H Q _ => ∃ (R : Hp) (s c : Addr) (d : Nat), vs = [.ref s, .int (d : Int)] ∧ Wd R H s c ∧ d < n ∧ ∀ (R' H' : Hp) (e : Ex) (v : V), Mv (Fst s c) R H R' H' → Wd R' H' s c → At R' (e.d false) v → Tr e (4 + d) (bdN d) → noH e → Q v H'
theorem ok_body0 {f : Addr} {fd : FuncData} (F : Fun K "_law_body" "_law_body" g__law_body f fd) : FnOk P w K mg base CX0 3 f fd p__law_body (spBody 0) := by
  refine F.ok (k := 2) sc__law_body (fun vs H Q E h => ?_) (fun cdv A outer st H vs Q E hr h => ?_)
  · obtain ⟨R, s, c, d, rfl, _⟩ := h
    rfl
  · obtain ⟨R, s, c, d, rfl, _, h, _⟩ := h
    exact absurd h (Nat.not_lt_zero _)
theorem ok_body {n : Nat} {f fT fI : Addr} {fd fdT fdI : FuncData} (F : Fun K "_law_body" "_law_body" g__law_body f fd) (GT : Fn P w K mg base CX0 1 "_law_take" p__law_take spTake fT fdT) (GI : Fn P w K mg base CX0 2 "_law_simple" p__law_simple spSimple fI fdI)
    (GR : Fn P w K mg base CX0 (n + 3) "_law_body" p__law_body (spBody n) f fd) : FnOk P w K mg base CX0 (n + 4) f fd p__law_body (spBody (n + 1)) := by
  refine F.ok (k := n + 3) sc__law_body (fun vs H Q E h => ?_) (fun cdv A outer st H vs Q E hr h => ?_)
  · obtain ⟨R, s, c, d, rfl, _⟩ := h
    rfl
  · obtain ⟨R, s, c, d, rfl, w, hd, q⟩ := h
    refine ⟨_, (pss_cons (ps_set (i := 2) sc__law_body.nd rfl (Or.inl rfl) (pe_call GT.ok (hr.mono (by omega)) (by rfl) GT.g GT.kp GT.b .nil pass0 (pa_cons (pv 0) (pa_cons (pe_int) pa_nil))))
      (C8.pss_cut (ps_if (PW.pt (pw_or (pt_cmpR op_eq (pv 1) (pe_int) (nomark _)) (pw_or1 (pt_cmpR op_lt (pv 2) (pe_int) (nomark _))))) (pss_cons (ps_if (pt_cmpR op_eq (pe_call GT.ok (hr.mono (by omega)) (by rfl) GT.g GT.kp GT.b .nil pass0 (pa_cons (pv 0) (pa_cons (pe_int) pa_nil))) (pe_int) (nomark _)) (pss_one (ps_ret (pe_call GI.ok (hr.mono (by omega)) (by rfl) GI.g GI.kp GI.b .nil pass0 (pa_cons (pv 0) pa_nil)))) pss_nil)
      (pss_one (ps_ret (pe_tup (pa_cons (pe_str) (pa_cons (pe_tup (pa_cons (pe_str) (pa_cons (pe_ix ix_list (pe_lst (pa_cons (pe_str) (pa_cons (pe_str) (pa_cons (pe_str) (pa_cons (pe_str) pa_nil))))) (pe_call GT.ok (hr.mono (by omega)) (by rfl) GT.g GT.kp GT.b .nil pass0 (pa_cons (pv 0) (pa_cons (pe_int) pa_nil))) (fun _ _ => rfl)) pa_nil))) (pa_cons (pe_call GI.ok (hr.mono (by omega)) (by rfl) GI.g GI.kp GI.b .nil pass0 (pa_cons (pv 0) pa_nil)) pa_nil))))))) pss_nil)
      (pss_cons (ps_if (pt_cmpR op_lt (pv 2) (pe_int) (nomark _)) (pss_cons (ps_set (i := 3) sc__law_body.nd rfl (Or.inl rfl) (pe_ix ix_list (pe_lst (pa_cons (pe_str) (pa_cons (pe_str) (pa_cons (pe_str) (pa_cons (pe_str) pa_nil))))) (pe_call GT.ok (hr.mono (by omega)) (by rfl) GT.g GT.kp GT.b .nil pass0 (pa_cons (pv 0) (pa_cons (pe_int) pa_nil))) (fun _ _ => rfl)))
      (pss_one (ps_ret (pe_tup (pa_cons (pe_str) (pa_cons (pv 3) (pa_cons (pe_call GI.ok (hr.mono (by omega)) (by rfl) GI.g GI.kp GI.b .nil pass0 (pa_cons (pv 0) pa_nil)) (pa_cons (pe_call GR.ok hr (by rfl) GR.g GR.kp GR.b .nil pass0 (pa_cons (pv 0) (pa_cons (pe_op op_sub (pv 1) (pe_int)) pa_nil))) pa_nil)))))))) pss_nil)
      (pss_cons (ps_if (pt_cmpR op_eq (pv 2) (pe_int) (nomark _)) (pss_one (ps_ret (pe_tup (pa_cons (pe_str) (pa_cons (pe_call GI.ok (hr.mono (by omega)) (by rfl) GI.g GI.kp GI.b .nil pass0 (pa_cons (pv 0) pa_nil)) (pa_cons (pe_call GR.ok hr (by rfl) GR.g GR.kp GR.b .nil pass0 (pa_cons (pv 0) (pa_cons (pe_op op_sub (pv 1) (pe_int)) pa_nil))) pa_nil)))))) pss_nil)
      (pss_one (ps_ret (pe_tup (pa_cons (pe_str) (pa_cons (pe_call GI.ok (hr.mono (by omega)) (by rfl) GI.g GI.kp GI.b .nil pass0 (pa_cons (pv 0) pa_nil)) (pa_cons (pe_call GR.ok hr (by rfl) GR.g GR.kp GR.b .nil pass0 (pa_cons (pv 0) (pa_cons (pe_op op_sub (pv 1) (pe_int)) pa_nil))) (pa_cons (pe_call GR.ok hr (by rfl) GR.g GR.kp GR.b .nil pass0 (pa_cons (pv 0) (pa_cons (pe_op op_sub (pv 1) (pe_int)) pa_nil))) pa_nil))))))))))), ?_⟩
    have hB := bdN_ge d
    have mm : Mv (Fst s c) R H R H := .refl w.sub
    refine ⟨_, rfl, _, s, c, 7, rfl, by decide, by decide, w.sub, w.rs, w.rc, w.st, fun J1 z1 st1 c1 z10 z11 => ?_⟩
    have w := w.took c1 st1
    have mm := mm.tr c1
    show gName 2 _ _ _ _
    refine ⟨fun σ' H' => σ' = [some (.ref s), some (.int (d : Int)), some (.int z1), none] ∧ Wd R H' s c ∧ Mv (Fst s c) R H R H' ∧ 0 < d, ?_, ?_⟩
    · refine ⟨_, rfl, rfl, _, rfl, ?_⟩
      by_cases h0 : d = 0
      · refine ifT (decide_eq_true (by rw [h0]; rfl)) ?_
        refine ⟨_, rfl, _, s, c, 5, rfl, by decide, by decide, w.sub, w.rs, w.rc, w.st, fun J2 z2 st2 c2 z20 z21 => ?_⟩
        have w := w.took c2 st2
        have mm := mm.tr c2
        refine ⟨rfl, _, rfl, ?_⟩
        by_cases h5 : z2 = 0
        · refine ifT (decide_eq_true (by rw [h5])) ?_
          refine ⟨_, rfl, _, s, c, rfl, w, fun Q3 J3 e1 ve1 m w ae1 te1 ne1 => ?_⟩
          have mm := mm.tr m
          exact q _ _ e1 _ mm w ae1 (te1.fit (by omega) (by omega)) ne1
        refine ifF (decide_eq_false fun h => h5 (V.int.inj h)) ?_
        refine ⟨by show 4 ≤ sizeLine; decide, fun p3 n3 => ?_⟩
        obtain ⟨Q3, m3, al⟩ := lit3 w.sub (l := nmk4.map D.str) ⟨_, _, rfl, at_str, _, _, rfl, at_str, _, _, rfl, at_str, _, _, rfl, at_str, rfl⟩ n3
        have w := w.up0 m3
        have mm := mm.tr0 m3
        refine ⟨_, rfl, _, s, c, 4, rfl, by decide, by decide, w.sub, w.rs, w.rc, w.st, fun J4 z4 st4 c4 z40 z41 => ?_⟩
        have w := w.took c4 st4
        have mm := mm.tr c4
        obtain ⟨jj5, rfl⟩ : ∃ j : Nat, z4 = (j : Int) := ⟨z4.toNat, by omega⟩
        obtain ⟨x, hx5, hlx⟩ := nmk4_get (z := jj5) (by omega)
        obtain ⟨pX5, vX5, eX5, hX5, tX5⟩ := id al
        cases eX5
        obtain ⟨xv5, hxv5, rfl⟩ := tX5.get (d := D.str x) (i := jj5) (by rw [List.getElem?_map, hx5]; rfl)
        refine ⟨_, _, _, _, rfl, rfl, SqL.of (w.sub _ _ hX5), atI_nat hxv5, by show 2 ≤ sizeLine; decide, fun p6 n6 => ?_⟩
        obtain ⟨Q6, m6, an⟩ := lit2 w.sub (l := [.str "name", .str x]) ⟨_, _, rfl, at_str, _, _, rfl, at_str, rfl⟩ n6
        have w := w.up0 m6
        have mm := mm.tr0 m6
        have al := al.up m6.up
        refine ⟨_, rfl, _, s, c, rfl, w, fun Q7 J7 e1 ve1 m w ae1 te1 ne1 => ?_⟩
        have mm := mm.tr m
        have al := al.up m.up
        have an := an.up m.up
        refine ⟨by show 3 ≤ sizeLine; decide, fun p8 n8 => ?_⟩
        obtain ⟨Q8, m8, ar⟩ := lit2 w.sub (l := [.str "call", (Ex.name x).d false, e1.d false]) ⟨_, _, rfl, at_str, _, _, rfl, an, _, _, rfl, ae1, rfl⟩ n8
        have w := w.up0 m8
        have mm := mm.tr0 m8
        have al := al.up m8.up
        have an := an.up m8.up
        have ae1 := ae1.up m8.up
        exact q _ _ (.call (.name x) e1) _ mm w ar ((Tr.call ((Tr.name hlx).fit (by omega : 1 ≤ 3) (Nat.le_refl 1)) te1).fit (by omega) (by omega)) (noH_call rfl ne1)
      refine ifF (decide_eq_false fun h => h0 (Int.ofNat.inj (V.int.inj h))) ?_
      refine ⟨_, rfl, _, _, rfl, rfl, _, rfl, ?_⟩
      by_cases h1 : z1 < 2
      · refine ifT (decide_eq_true h1) ?_
        refine ⟨_, rfl, _, s, c, 5, rfl, by decide, by decide, w.sub, w.rs, w.rc, w.st, fun J2 z2 st2 c2 z20 z21 => ?_⟩
        have w := w.took c2 st2
        have mm := mm.tr c2
        refine ⟨rfl, _, rfl, ?_⟩
        by_cases h5 : z2 = 0
        · refine ifT (decide_eq_true (by rw [h5])) ?_
          refine ⟨_, rfl, _, s, c, rfl, w, fun Q3 J3 e1 ve1 m w ae1 te1 ne1 => ?_⟩
          have mm := mm.tr m
          exact q _ _ e1 _ mm w ae1 (te1.fit (by omega) (by omega)) ne1
        refine ifF (decide_eq_false fun h => h5 (V.int.inj h)) ?_
        refine ⟨by show 4 ≤ sizeLine; decide, fun p3 n3 => ?_⟩
        obtain ⟨Q3, m3, al⟩ := lit3 w.sub (l := nmk4.map D.str) ⟨_, _, rfl, at_str, _, _, rfl, at_str, _, _, rfl, at_str, _, _, rfl, at_str, rfl⟩ n3
        have w := w.up0 m3
        have mm := mm.tr0 m3
        refine ⟨_, rfl, _, s, c, 4, rfl, by decide, by decide, w.sub, w.rs, w.rc, w.st, fun J4 z4 st4 c4 z40 z41 => ?_⟩
        have w := w.took c4 st4
        have mm := mm.tr c4
        obtain ⟨jj5, rfl⟩ : ∃ j : Nat, z4 = (j : Int) := ⟨z4.toNat, by omega⟩
        obtain ⟨x, hx5, hlx⟩ := nmk4_get (z := jj5) (by omega)
        obtain ⟨pX5, vX5, eX5, hX5, tX5⟩ := id al
        cases eX5
        obtain ⟨xv5, hxv5, rfl⟩ := tX5.get (d := D.str x) (i := jj5) (by rw [List.getElem?_map, hx5]; rfl)
        refine ⟨_, _, _, _, rfl, rfl, SqL.of (w.sub _ _ hX5), atI_nat hxv5, by show 2 ≤ sizeLine; decide, fun p6 n6 => ?_⟩
        obtain ⟨Q6, m6, an⟩ := lit2 w.sub (l := [.str "name", .str x]) ⟨_, _, rfl, at_str, _, _, rfl, at_str, rfl⟩ n6
        have w := w.up0 m6
        have mm := mm.tr0 m6
        have al := al.up m6.up
        refine ⟨_, rfl, _, s, c, rfl, w, fun Q7 J7 e1 ve1 m w ae1 te1 ne1 => ?_⟩
        have mm := mm.tr m
        have al := al.up m.up
        have an := an.up m.up
        refine ⟨by show 3 ≤ sizeLine; decide, fun p8 n8 => ?_⟩
        obtain ⟨Q8, m8, ar⟩ := lit2 w.sub (l := [.str "call", (Ex.name x).d false, e1.d false]) ⟨_, _, rfl, at_str, _, _, rfl, an, _, _, rfl, ae1, rfl⟩ n8
        have w := w.up0 m8
        have mm := mm.tr0 m8
        have al := al.up m8.up
        have an := an.up m8.up
        have ae1 := ae1.up m8.up
        exact q _ _ (.call (.name x) e1) _ mm w ar ((Tr.call ((Tr.name hlx).fit (by omega : 1 ≤ 3) (Nat.le_refl 1)) te1).fit (by omega) (by omega)) (noH_call rfl ne1)
      exact ifF (decide_eq_false h1) ⟨rfl, w, mm, by omega⟩
    rintro σ' H' ⟨rfl, w, mm, hd0⟩
    have ee : [V.ref s, V.int ((d : Int) - 1)] = [V.ref s, V.int ((d - 1 : Nat) : Int)] := by rw [show ((d : Int) - 1) = ((d - 1 : Nat) : Int) by omega]
    have hbd : bdN d = 2 * bdN (d - 1) + 4 := by
      obtain ⟨k, rfl⟩ : ∃ k, d = k + 1 := ⟨d - 1, by omega⟩
      rfl
    have hb1 := bdN_ge (d - 1)
    refine ⟨_, rfl, _, _, rfl, rfl, _, rfl, ?_⟩
    by_cases h4 : z1 < 4
    · refine ifT (decide_eq_true h4) ?_
      refine ⟨by show 4 ≤ sizeLine; decide, fun p2 n2 => ?_⟩
      obtain ⟨Q2, m2, al⟩ := lit3 w.sub (l := nmy4.map D.str) ⟨_, _, rfl, at_str, _, _, rfl, at_str, _, _, rfl, at_str, _, _, rfl, at_str, rfl⟩ n2
      have w := w.up0 m2
      have mm := mm.tr0 m2
      refine ⟨_, rfl, _, s, c, 4, rfl, by decide, by decide, w.sub, w.rs, w.rc, w.st, fun J3 z3 st3 c3 z30 z31 => ?_⟩
      have w := w.took c3 st3
      have mm := mm.tr c3
      obtain ⟨jj4, rfl⟩ : ∃ j : Nat, z3 = (j : Int) := ⟨z3.toNat, by omega⟩
      obtain ⟨x, hx4, hlx⟩ := nmy4_get (z := jj4) (by omega)
      obtain ⟨pX4, vX4, eX4, hX4, tX4⟩ := id al
      cases eX4
      obtain ⟨xv4, hxv4, rfl⟩ := tX4.get (d := D.str x) (i := jj4) (by rw [List.getElem?_map, hx4]; rfl)
      refine ⟨_, _, _, _, rfl, rfl, SqL.of (w.sub _ _ hX4), atI_nat hxv4, ?_⟩
      show gName 3 _ _ _ _
      refine ⟨_, rfl, _, rfl, _, s, c, rfl, w, fun Q5 J5 e1 ve1 m w ae1 te1 ne1 => ?_⟩
      have mm := mm.tr m
      have al := al.up m.up
      refine ⟨_, rfl, _, rfl, _, _, rfl, rfl, _, s, c, d - 1, ee, w, by omega, fun Q6 J6 e2 ve2 m w ae2 te2 ne2 => ?_⟩
      have mm := mm.tr m
      have al := al.up m.up
      have ae1 := ae1.up m.up
      refine ⟨by show 4 ≤ sizeLine; decide, fun p7 n7 => ?_⟩
      obtain ⟨Q7, m7, ar⟩ := lit2 w.sub (l := [.str "let", .str x, e1.d false, e2.d false]) ⟨_, _, rfl, at_str, _, _, rfl, at_str, _, _, rfl, ae1, _, _, rfl, ae2, rfl⟩ n7
      have w := w.up0 m7
      have mm := mm.tr0 m7
      have al := al.up m7.up
      have ae1 := ae1.up m7.up
      have ae2 := ae2.up m7.up
      exact q _ _ (.lt x e1 e2) _ mm w ar ((Tr.lt hlx (te1.fit (by omega) (Nat.le_refl _)) te2).fit (by omega) (by omega)) (noH_lt ne1 ne2)
    refine ifF (decide_eq_false h4) ?_
    refine ⟨_, rfl, rfl, _, rfl, ?_⟩
    by_cases h5 : z1 = 4
    · refine ifT (decide_eq_true (by rw [h5])) ?_
      refine ⟨_, rfl, _, s, c, rfl, w, fun Q2 J2 e1 ve1 m w ae1 te1 ne1 => ?_⟩
      have mm := mm.tr m
      refine ⟨_, rfl, _, rfl, _, _, rfl, rfl, _, s, c, d - 1, ee, w, by omega, fun Q3 J3 e2 ve2 m w ae2 te2 ne2 => ?_⟩
      have mm := mm.tr m
      have ae1 := ae1.up m.up
      refine ⟨by show 3 ≤ sizeLine; decide, fun p4 n4 => ?_⟩
      obtain ⟨Q4, m4, ar⟩ := lit2 w.sub (l := [.str "print", e1.d false, e2.d false]) ⟨_, _, rfl, at_str, _, _, rfl, ae1, _, _, rfl, ae2, rfl⟩ n4
      have w := w.up0 m4
      have mm := mm.tr0 m4
      have ae1 := ae1.up m4.up
      have ae2 := ae2.up m4.up
      exact q _ _ (.pr e1 e2) _ mm w ar ((Tr.pr (te1.fit (by omega) (Nat.le_refl _)) te2).fit (by omega) (by omega)) (noH_pr ne1 ne2)
    refine ifF (decide_eq_false fun h => h5 (V.int.inj h)) ?_
    refine ⟨_, rfl, _, s, c, rfl, w, fun Q2 J2 e1 ve1 m w ae1 te1 ne1 => ?_⟩
    have mm := mm.tr m
    refine ⟨_, rfl, _, rfl, _, _, rfl, rfl, _, s, c, d - 1, ee, w, by omega, fun Q3 J3 e2 ve2 m w ae2 te2 ne2 => ?_⟩
    have mm := mm.tr m
    have ae1 := ae1.up m.up
    refine ⟨_, rfl, _, rfl, _, _, rfl, rfl, _, s, c, d - 1, ee, w, by omega, fun Q4 J4 e3 ve3 m w ae3 te3 ne3 => ?_⟩
    have mm := mm.tr m
    have ae1 := ae1.up m.up
    have ae2 := ae2.up m.up
    refine ⟨by show 4 ≤ sizeLine; decide, fun p5 n5 => ?_⟩
    obtain ⟨Q5, m5, ar⟩ := lit2 w.sub (l := [.str "if", e1.d false, e2.d false, e3.d false]) ⟨_, _, rfl, at_str, _, _, rfl, ae1, _, _, rfl, ae2, _, _, rfl, ae3, rfl⟩ n5
    have w := w.up0 m5
    have mm := mm.tr0 m5
    have ae1 := ae1.up m5.up
    have ae2 := ae2.up m5.up
    have ae3 := ae3.up m5.up
    exact q _ _ (.ite e1 e2 e3) _ mm w ar ((Tr.ite (te1.fit (by omega) (Nat.le_refl _)) te2 te3).fit (by omega) (by omega)) (noH_ite ne1 ne2 ne3)
end
end Bz


set_option Elab.async false
set_option linter.all false
set_option maxRecDepth 100000
set_option maxHeartbeats 4000000
namespace Bz
open PySem PySem.Spec L2 PyProof.Rows
section
variable {P : Program} {w : World} {K : PySem.W.Frag} {mg : Str → Option Value} {base : Heap}
abbrev g__law_program : Stmt := topS 24
abbrev n__law_program : List Str := ["state", "ops", "wanted", "tree", "clauses", "operation"]
abbrev p__law_program : List Str := ["state"]
theorem sc__law_program : FnScope n__law_program p__law_program (defScope g__law_program) := ⟨rfl, rfl, rfl, by decide +kernel, rfl, by decide +kernel, by decide +kernel⟩
def spProg : Sp := fun vs H Q _ => ∃ (R : Hp) (s c : Addr), vs = [.ref s] ∧ Wd R H s c ∧ ∀ (R' H' : Hp) (ops : List (Str × Kd × Kd)) (κ : Kd) (e : Ex) (v : V), Mv (Fst s c) R H R' H' → Wd R' H' s c → At R' (.tup [.tup [.str "program", .tup (ops.map opD), e.d false], κ.d]) v → okOps ops → κ.dp ≤ 2 → Tr e 60 1000000 → Q v H'
theorem ok_program {f fT fP fK fV fC : Addr} {fd fdT fdP fdK fdV fdC : FuncData} (F : Fun K "_law_program" "_law_program" g__law_program f fd) (mtu : mg "tuple" = none) (mi : mg "int" = none) (GT : Fn P w K mg base CX0 1 "_law_take" p__law_take spTake fT fdT) (GP : Fn P w K mg base CX0 2 "_law_operations" p__law_operations spOps fP fdP)
    (GK : Fn P w K mg base CX0 5 "_law_kind" p__law_kind (spKind 3) fK fdK) (GV : Fn P w K mg base CX0 22 "_law_tree" p__law_tree (spTree 4) fV fdV) (GC : Fn P w K mg base CX0 11 "_law_clause" p__law_clause (spClause 0) fC fdC) : FnOk P w K mg base CX0 23 f fd p__law_program spProg := by
  refine F.ok (k := 22) sc__law_program (fun vs H Q E h => ?_) (fun cdv A outer st H vs Q E hr h => ?_)
  · obtain ⟨R, s, c, rfl, _⟩ := h
    rfl
  · obtain ⟨R, s, c, rfl, w, q⟩ := h
    refine ⟨_, (pss_cons (ps_set (i := 1) sc__law_program.nd rfl (Or.inl rfl) (pe_call GP.ok (hr.mono (by omega)) (by rfl) GP.g GP.kp GP.b .nil pass0 (pa_cons (pv 0) pa_nil)))
      (pss_cons (ps_set (i := 2) sc__law_program.nd rfl (Or.inl rfl) (pe_call GK.ok (hr.mono (by omega)) (by rfl) GK.g GK.kp GK.b .nil pass0 (pa_cons (pv 0) (pa_cons (pe_int) pa_nil))))
      (pss_cons (ps_set (i := 3) sc__law_program.nd rfl (Or.inl rfl) (pe_call GV.ok hr (by rfl) GV.g GV.kp GV.b .nil pass0 (pa_cons (pv 0) (pa_cons (pv 1) (pa_cons (pe_lst pa_nil) (pa_cons (pv 2) (pa_cons (pe_op op_add (pe_op op_add (pe_int) (pe_call GT.ok (hr.mono (by omega)) (by rfl) GT.g GT.kp GT.b .nil pass0 (pa_cons (pv 0) (pa_cons (pe_int) pa_nil)))) (pe_callTy call_int1 (by rfl) mi (by decide +kernel) (pa_cons (pe_cmpR op_eq (pe_call GT.ok (hr.mono (by omega)) (by rfl) GT.g GT.kp GT.b .nil pass0 (pa_cons (pv 0) (pa_cons (pe_int) pa_nil))) (pe_int) (nomark _)) pa_nil))) pa_nil)))))))
      (C8.pss_cut (ps_if (pt_cmpR op_eq (pe_call GT.ok (hr.mono (by omega)) (by rfl) GT.g GT.kp GT.b .nil pass0 (pa_cons (pv 0) (pa_cons (pe_int) pa_nil))) (pe_int) (nomark _)) (pss_cons (ps_set (i := 4) sc__law_program.nd rfl (Or.inl rfl) (pe_lst pa_nil))
      (pss_cons (ps_for PassesOwn.never rfl (pi_list (pv 1)) (pg_name (i := 5) sc__law_program.nd rfl (Or.inl rfl)) (pss_one (ps_expr (pe_bm PySem.F.plainAttrs_list PySem.F.slot_list_append PySem.F.type_list_append mt_append (pv 4) (pa_cons (pe_call GC.ok (hr.mono (by omega)) (by rfl) GC.g GC.kp GC.b .nil pass0 (pa_cons (pv 0) (pa_cons (pe_lst (pa_cons (pv 5) pa_nil)) (pa_cons (pe_lst pa_nil) (pa_cons (pv 2) (pa_cons (pe_int) (pa_cons (pv 5) pa_nil))))))) pa_nil)))))
      (pss_one (ps_set (i := 3) sc__law_program.nd rfl (Or.inl rfl) (pe_tup (pa_cons (pe_str) (pa_cons (pv 3) (pa_cons (pe_tup (pa_cons (pe_str) (pa_cons (pe_tup (pa_cons (pe_str) (pa_cons (pe_str) pa_nil))) pa_nil))) (pa_cons (pe_callTy call_tuple_of (by rfl) mtu (by decide +kernel) (pa_cons (pv 4) pa_nil)) pa_nil))))))))) pss_nil)
      (pss_one (ps_ret (pe_tup (pa_cons (pe_tup (pa_cons (pe_str) (pa_cons (pe_callTy call_tuple_of (by rfl) mtu (by decide +kernel) (pa_cons (pv 1) pa_nil)) (pa_cons (pv 3) pa_nil)))) (pa_cons (pv 2) pa_nil))))))))), ?_⟩
    have tA0 : trA 0 = 7 := rfl
    have tB0 : trB 0 = 150 := rfl
    have tA4 : trA 4 = 27 := rfl
    have tB4 : trB 4 = 614400 := rfl
    have mm : Mv (Fst s c) R H R H := .refl w.sub
    refine ⟨_, rfl, _, s, c, rfl, w, fun Q1 J1 ops vo m w ao oko => ?_⟩
    have mm := mm.tr m
    show gName 1 _ _ _ _
    refine ⟨_, rfl, _, s, c, 2, rfl, w, by decide, fun Q2 J2 κ vw m w aw dk => ?_⟩
    have mm := mm.tr m
    have ao := ao.up m.up
    show gName 2 _ _ _ _
    refine ⟨_, rfl, _, rfl, by show 0 ≤ sizeLine; decide, fun p3 n3 => ?_⟩
    obtain ⟨Q3, m3, ak⟩ := lit3 w.sub (l := ([] : List (Str × Kd)).map knD) rfl n3
    have w := w.up0 m3
    have mm := mm.tr0 m3
    have ao := ao.up m3.up
    have aw := aw.up m3.up
    refine ⟨_, rfl, _, rfl, _, s, c, 3, rfl, by decide, by decide, w.sub, w.rs, w.rc, w.st, fun J4 z4 st4 c4 z40 z41 => ?_⟩
    have w := w.took c4 st4
    have mm := mm.tr c4
    refine ⟨_, _, rfl, rfl, _, rfl, _, s, c, 8, rfl, by decide, by decide, w.sub, w.rs, w.rc, w.st, fun J5 z5 st5 c5 z50 z51 => ?_⟩
    have w := w.took c5 st5
    have mm := mm.tr c5
    obtain ⟨b, hb⟩ : ∃ b : Bool, b = decide (V.int z5 = V.int 0) := ⟨_, rfl⟩
    have hb1 : (if b then 1 else 0 : Int) ≤ 1 := by cases b <;> decide
    refine ⟨rfl, .inr ⟨_, rfl, _, _, rfl, rfl, _, s, c, ops, [], κ, _, _, _, _, rfl, ?_, ⟨w, ao, oko, ak, (fun p h => by cases h), aw, Nat.le_refl _, Nat.le_refl _, by omega⟩, fun Q6 J6 e1 ve1 m w ae1 te1 => ?_⟩⟩
    · rw [← hb]
      omega
    have mm := mm.tr m
    have ao := ao.up m.up
    have aw := aw.up m.up
    have ak := ak.up m.up
    show gName 3 _ _ _ _
    obtain ⟨po, ovs, rfl, ho, oats⟩ := ao
    have lo := oats.length
    rw [List.length_map] at lo
    have lo4 := oko.2.1
    have ao : At Q6 (.lst (ops.map opD)) (.ref po) := ⟨po, ovs, rfl, ho, oats⟩
    refine ⟨fun σ' H' => ∃ (R' : Hp) (e : Ex) (v : V) (x y : Option V), σ' = [some (.ref s), some (.ref po), some vw, some v, x, y] ∧ Mv (Fst s c) R H R' H' ∧ Same Q6 R' ∧ Wd R' H' s c ∧ At R' (e.d false) v ∧ Tr e 60 1000000, ?_, ?_⟩
    · have sm : Same Q6 Q6 := .refl _
      refine ⟨_, rfl, _, s, c, 2, rfl, by decide, by decide, w.sub, w.rs, w.rc, w.st, fun J7 z7 st7 c7 z70 z71 => ?_⟩
      have w := w.took c7 st7
      have mm := mm.tr c7
      refine ⟨rfl, _, rfl, ?_⟩
      by_cases h1 : z7 = 0
      · refine ifT (decide_eq_true (by rw [h1])) ?_
        refine ⟨Nat.zero_le _, fun L nL => ?_⟩
        have rL := w.sub.free nL
        have nH : H L = none := mm.free nL
        have nF : ¬ Fst s c L := w.nf nL
        have mL : Mv F0 _ _ _ _ := mv_mut (F := F0) (o := .lst []) w.sub nL
        have w := w.up0 mL
        have mm := mm.tr0 mL
        show gName 4 _ _ _ _
        refine ⟨_, rfl, po, rfl, ⟨_, SqL.of (w.sub _ _ ho)⟩, ?_⟩
        refine for_list (K := K) (a := po) (xs := ovs) (fun i σ H' => ∃ (R' : Hp) (cs : Clz) (acc : List V) (z : Option V), σ = [some (.ref s), some (.ref po), some vw, some ve1, some (.ref L), z] ∧ Mv (Fst s c) R H R' H' ∧ Same Q6 R' ∧ Wd R' H' s c ∧ R' L = none ∧ H' L = some (.lst acc) ∧ Ats R' (cs.d false) acc ∧ cs.len ≤ i ∧ TrC cs (8 + 1) (i * 152)) ?_ ?_ ?_ ?_
        · exact ⟨_, .nil, [], none, rfl, mm, .refl _, w, rL, upd_same, rfl, Nat.le_refl _, TrC.nil.mono (Nat.zero_le _) (Nat.zero_le _)⟩
        · rintro i σ H' _ ⟨R', cs, acc, z, rfl, mm, sm, w, _⟩
          exact SqL.of (w.sub _ _ (sm _ _ ho))
        · rintro i y σ H' hy ⟨R', cs, acc, z, rfl, mm, sm, w, rL, hL, ac, lc, tc⟩
          have aw := aw.up sm
          have oats := oats.up sm
          have li : i < ovs.length := (List.getElem?_eq_some_iff.mp hy).1
          obtain ⟨dd, hdd, aop⟩ := oats.mem hy
          have hj : i < ops.length := by omega
          obtain rfl : opD ops[i] = dd := by
            rw [List.getElem?_map, List.getElem?_eq_getElem hj] at hdd
            exact Option.some.inj hdd
          have okop : okOp ops[i] := oko.2.2 _ (List.getElem_mem hj)
          generalize ops[i] = op at aop okop
          have lac := ac.length
          have lcd : (cs.d false).length = cs.len := cl_len cs
          have hopl : (PyData.str op.1).canLay0 = true := by
            have : (opNames.all fun x => (PyData.str x).canLay0) = true := by decide +kernel
            exact List.all_eq_true.mp this _ okop.1
          show gName 5 _ _ _ _
          refine ⟨_, rfl, .inl ⟨rfl, _, SqL.of hL⟩, _, rfl, _, rfl, by show 1 ≤ sizeLine; decide, fun p8 n8 => ?_⟩
          obtain ⟨Q8, m8, a1⟩ := lit3 w.sub (l := [opD op]) ⟨_, _, rfl, aop, rfl⟩ n8
          have w := w.up0 m8
          have mm := mm.tr0 m8
          have ac := ac.up m8.up
          have aw := aw.up m8.up
          have aop := aop.up m8.up
          have rL2 := m8.out rL hL
          have hL := m8.keep _ _ hL id
          refine ⟨by show 0 ≤ sizeLine; decide, fun p9 n9 => ?_⟩
          obtain ⟨Q9, m9, a0⟩ := lit3 w.sub (l := ([] : List (Str × Kd)).map knD) rfl n9
          have w := w.up0 m9
          have mm := mm.tr0 m9
          have ac := ac.up m9.up
          have aw := aw.up m9.up
          have aop := aop.up m9.up
          have a1 := a1.up m9.up
          have rL3 := m9.out rL2 hL
          have hL := m9.keep _ _ hL id
          have oko1 : okOps [op] := ⟨Nat.le_refl _, by show 1 ≤ 4; decide, fun r h => by rw [List.mem_singleton.mp h]; exact okop⟩
          refine ⟨_, rfl, _, rfl, _, s, c, [op], [], κ, _, _, _, 1, op, _, rfl, by decide, ⟨w, a1, oko1, a0, (fun p h => by cases h), aw, by decide, by decide, by omega⟩, aop, okop, fun Q10 J10 x k g vg m w ag ox ok2 tg => ?_⟩
          have mm := mm.tr m
          have ac := ac.up m.up
          have aw := aw.up m.up
          have aop := aop.up m.up
          have a1 := a1.up m.up
          have a0 := a0.up m.up
          have rL' := m.out rL3 hL
          have hL := m.keep _ _ hL nF
          have sm := ((sm.trans m8.up).trans m9.up).trans m.up
          refine ⟨L, _, _, rfl, rfl, hL, Nat.lt_of_le_of_lt (by omega : acc.length ≤ 1000) (by decide), ?_⟩
          have m4 : Mv (fun a => a = L) _ _ _ _ := mv_at (o := .lst (acc ++ [vg])) w.sub rL' hL rfl
          refine ⟨_, cs.snoc op.1 x k g, acc ++ [vg], _, rfl, mm.trans m4 (fun _ f => f) (fun y f => .inr (by rw [f]; exact nH)), sm, ⟨m4.sub, w.rs, w.rc, w.st.stay m4 (fun e => nF (.inl e.symm)) (fun e => nF (.inr e.symm))⟩, rL', upd_same, ?_, ?_, ?_⟩
          · rw [snoc_d]
            exact ac.append (Ats.one ag)
          · rw [snoc_len]; exact Nat.succ_le_succ lc
          · refine (tc.snoc hopl ox ok2 tg).mono (Nat.le_refl _) ?_
            rw [Nat.succ_mul]; exact Nat.le_refl _
        rintro σ' H' ⟨R', cs, acc, z, rfl, mm, sm, w, rL, hL, ac, lc, tc⟩
        have mm := mm.freeze rL hL nH
        have w := w.freeze rL hL nF
        have ae1 := (ae1.up sm).up (same_new (o := .lst acc) rL)
        have sm := sm.trans (same_new (o := .lst acc) rL)
        have ac := ac.up (same_new (o := .lst acc) rL)
        have lac := ac.length
        have lcd : (cs.d false).length = cs.len := cl_len cs
        refine ⟨_, rfl, by show 2 ≤ sizeLine; decide, fun p8 n8 => ?_⟩
        obtain ⟨Q8, m8, an⟩ := lit2 w.sub (l := [.str "name", .str "r"]) ⟨_, _, rfl, at_str, _, _, rfl, at_str, rfl⟩ n8
        have w := w.up0 m8
        have mm := mm.tr0 m8
        have ae1 := ae1.up m8.up
        have ac := ac.up m8.up
        refine ⟨by show 2 ≤ sizeLine; decide, fun p9 n9 => ?_⟩
        obtain ⟨Q9, m9, a3⟩ := lit2 w.sub (l := [.str "r", (Ex.name "r").d false]) ⟨_, _, rfl, at_str, _, _, rfl, an, rfl⟩ n9
        have w := w.up0 m9
        have mm := mm.tr0 m9
        have ae1 := ae1.up m9.up
        have ac := ac.up m9.up
        have an := an.up m9.up
        refine ⟨_, rfl, L, _, rfl, .inl ⟨SqL.of ((m8.tr m9).keep _ _ hL id), fun pt nt => ?_⟩⟩
        obtain ⟨RT, mT, aT⟩ := lit2 w.sub ac nt
        have w := w.up0 mT
        have mm := mm.tr0 mT
        have ae1 := ae1.up mT.up
        have ac := ac.up mT.up
        have an := an.up mT.up
        have a3 := a3.up mT.up
        refine ⟨by show 4 ≤ sizeLine; decide, fun p10 n10 => ?_⟩
        obtain ⟨Q10, m10, ar⟩ := lit2 w.sub (l := [.str "handle", e1.d false, .tup [.str "r", (Ex.name "r").d false], .tup (cs.d false)]) ⟨_, _, rfl, at_str, _, _, rfl, ae1, _, _, rfl, a3, _, _, rfl, aT, rfl⟩ n10
        have w := w.up0 m10
        have mm := mm.tr0 m10
        have ae1 := ae1.up m10.up
        have ac := ac.up m10.up
        have an := an.up m10.up
        have a3 := a3.up m10.up
        have aT := aT.up m10.up
        have okr : okNm "r" = true := by decide +kernel
        exact ⟨_, .hd e1 "r" (.name "r") cs, _, _, _, rfl, mm, sm.trans (((m8.tr m9).tr mT).tr m10).up, w, ar, (Tr.hd (a := 40) okr (by omega) (te1.fit (by omega) (Nat.le_refl _)) ((Tr.name okr).fit (by omega) (Nat.le_refl 1)) (tc.mono (by omega) (Nat.mul_le_mul_right _ (by omega : ovs.length ≤ 4)))).fit (by omega) (by omega)⟩
      · exact ifF (decide_eq_false fun h => h1 (V.int.inj h)) ⟨_, _, _, _, _, rfl, mm, sm, w, ae1, te1.fit (by omega) (by omega)⟩
    rintro σ' H' ⟨R1, e, v, x, y, rfl, mm, sm, w, ae, te⟩
    have aw := aw.up sm
    have ho := sm _ _ ho
    have oats := oats.up sm
    refine ⟨_, rfl, po, _, rfl, .inl ⟨SqL.of (w.sub _ _ ho), fun pt nt => ?_⟩⟩
    obtain ⟨RT, mT, aT⟩ := lit2 w.sub oats nt
    have w := w.up0 mT
    have mm := mm.tr0 mT
    have aw := aw.up mT.up
    have ae := ae.up mT.up
    have oats := oats.up mT.up
    have ho := mT.up _ _ ho
    refine ⟨_, rfl, by show 3 ≤ sizeLine; decide, fun p8 n8 => ?_⟩
    obtain ⟨Q8, m8, ap⟩ := lit2 w.sub (l := [.str "program", .tup (ops.map opD), e.d false]) ⟨_, _, rfl, at_str, _, _, rfl, aT, _, _, rfl, ae, rfl⟩ n8
    have w := w.up0 m8
    have mm := mm.tr0 m8
    have aw := aw.up m8.up
    have ae := ae.up m8.up
    have oats := oats.up m8.up
    have aT := aT.up m8.up
    have ho := m8.up _ _ ho
    refine ⟨_, rfl, by show 2 ≤ sizeLine; decide, fun p9 n9 => ?_⟩
    obtain ⟨Q9, m9, ar⟩ := lit2 w.sub (l := [.tup [.str "program", .tup (ops.map opD), e.d false], κ.d]) ⟨_, _, rfl, ap, _, _, rfl, aw, rfl⟩ n9
    have w := w.up0 m9
    have mm := mm.tr0 m9
    have aw := aw.up m9.up
    have ae := ae.up m9.up
    have oats := oats.up m9.up
    have aT := aT.up m9.up
    have ap := ap.up m9.up
    have ho := m9.up _ _ ho
    exact q _ _ ops κ e _ mm w ar oko dk te
end
end Bz


set_option Elab.async false
set_option linter.all false
set_option maxRecDepth 100000
set_option maxHeartbeats 4000000
namespace Bz
open PySem PySem.Spec L2 PyProof.Rows
/-- all resumptions are called k -/
def kN : Clz → Bool
  | .nil => true
  | .cons _ _ k _ r => decide (k = "k") && kN r
theorem kN_snoc : ∀ {c : Clz} {o x : Str} {g : Ex}, kN c = true → kN (c.snoc o x "k" g) = true
  | .nil, _, _, _, _ => by show (decide (("k" : Str) = "k") && true) = true; rw [decide_eq_true rfl]; rfl
  | .cons _ _ k _ r, o, x, g, h => and2i (and2 h).1 (kN_snoc (and2 h).2)
theorem cls_getK : ∀ {c : Clz} {j : Nat} {d : D}, kN c = true → (c.d false)[j]? = some d → ∃ o x g, d = D.tup [.str o, .str x, .str "k", g.d false] ∧ g ∈ c.gs ∧ (clsB c)[j]? = some (clM g "k")
  | .nil, j, d, _, h => by cases j <;> cases h
  | .cons o x k g r, 0, d, hk, h => by
    have := of_decide_eq_true (and2 hk).1
    subst this
    cases (show D.tup [.str o, .str x, .str "k", g.d false] = d from Option.some.inj h)
    exact ⟨o, x, g, rfl, List.mem_cons_self, rfl⟩
  | .cons o x k g r, j + 1, d, hk, h => by
    obtain ⟨o', x', g', e, m, q⟩ := cls_getK (c := r) (j := j) (and2 hk).2 (by simpa [Clz.d] using h)
    exact ⟨o', x', g', e, List.mem_cons_of_mem _ m, q⟩
theorem TrC.of : ∀ {c : Clz} {a b : Nat} {g : Ex}, TrC c a b → g ∈ c.gs → Tr g a b
  | .nil, _, _, _, _, h => by cases h
  | .cons o x k g' r, a, b, g, t, h => by
    have hd : max (ddE g' + 1) (ddC r) ≤ a := t.d
    have hn : exN g' + clN r ≤ b := t.n
    have h2 := (and2 (and2 (and2 (and2 t.g).2).2).2)
    rcases List.mem_cons.mp h with e | h
    · rw [e]; exact ⟨by omega, by omega, h2.1⟩
    · exact TrC.of (c := r) ⟨by omega, by omega, h2.2⟩ h
theorem preC_snoc (o x k : Str) (g : Ex) : ∀ c : Clz, preC (c.snoc o x k g) = preC c ++ pre g
  | .nil => by show pre g ++ [] = [] ++ pre g; rw [List.append_nil]; rfl
  | .cons o' x' k' g' r => by
    show pre g' ++ preC (r.snoc o x k g) = pre g' ++ preC r ++ pre g
    rw [preC_snoc o x k g r, List.append_assoc]
theorem keeps_pair {cs : Clz} (h : (preC cs).flatMap hdB = []) : keepsM (.pair (.num 1) (.hd .unit "r" (.name "r") cs)) = (clsB cs).all id := by
  show ((clsB cs ++ (preC cs).flatMap hdB).all id) = _
  rw [h, List.append_nil]
theorem keeps_fn {cs : Clz} (h : (preC cs).flatMap hdB = []) : keepsM (.fn "z" (.pair (.num 1) (.hd .unit "r" (.name "r") cs))) = (clsB cs).all id := by
  show ((clsB cs ++ (preC cs).flatMap hdB).all id) = _
  rw [h, List.append_nil]
theorem oS6 {k : Nat} (h : k < 6) : ((k : Int)).natAbs.log2 < 1920 ∧ ("o" : Str).length + (Str.ofString (toString (k : Int))).length ≤ sizeLine ∧ (PyData.str (nmN "o" k)).canLay0 = true := by
  rcases (by omega : k = 0 ∨ k = 1 ∨ k = 2 ∨ k = 3 ∨ k = 4 ∨ k = 5) with rfl | rfl | rfl | rfl | rfl | rfl <;> decide +kernel
def nmx3 : List Str := ["x", "x", "k"]
theorem nmx3_get {z : Nat} (h : z < 3) : ∃ x, nmx3[z]? = some x ∧ okNm x = true := by
  rcases (by omega : z = 0 ∨ z = 1 ∨ z = 2) with rfl | rfl | rfl <;> exact ⟨_, rfl, by decide +kernel⟩
theorem bdN4 {d : Nat} (h : d < 5) : bdN d ≤ 140 := by
  rcases (by omega : d = 0 ∨ d = 1 ∨ d = 2 ∨ d = 3 ∨ d = 4) with rfl | rfl | rfl | rfl | rfl <;> decide
def bD (l : List Bool) : D := .lst (l.map D.bl)
theorem ats_bl {R : Hp} : ∀ (bs : List Bool), Ats R (bs.map D.bl) (bs.map V.bl)
  | [] => rfl
  | b :: bs => ⟨_, _, rfl, rfl, ats_bl bs⟩
theorem bl_flat : ∀ bs : List Bool, flats (bs.map D.bl) = true
  | [] => rfl
  | b :: bs => bl_flat bs
theorem bl_lay : ∀ bs : List Bool, PyData.canLayAll0 (pys (bs.map D.bl)) = true
  | [] => by rw [List.map_nil, lya_nil]
  | b :: bs => by rw [List.map_cons, lya_cons, ly_bl, bl_lay bs]; rfl
theorem bl_dep : ∀ bs : List Bool, PyData.depthAll (pys (bs.map D.bl)) = 0
  | [] => by rw [List.map_nil, dpa_nil]
  | b :: bs => by rw [List.map_cons, dpa_cons, dp_bl, bl_dep bs]; rfl
theorem bl_sh (bs : List Bool) : SeqAt.shaped (bD bs).py = true := by
  refine and2i ?_ (decide_eq_true ?_)
  · show (PyData.list _).canLay0 = true
    rw [PyData.canLay0]; exact bl_lay bs
  · show (PyData.list _).depth ≤ 64
    rw [PyData.depth]
    show PyData.depthAll (pys (bs.map D.bl)) + 1 ≤ 64
    rw [bl_dep]; decide
theorem eqv_self {d : PyData} (h : SeqAt.shaped d = true) : PyData.eqv d d = true := SeqAt.eqv_refl d (SeqAt.canLay_of_shaped h)
theorem bl_dp {K : PySem.W.Frag} {H : Hp} {a : Addr} {bs : List Bool} (h : H a = some (.lst (bs.map V.bl))) : Dp K H (.ref a) (bD bs).py :=
  At.dp (R := H) (.refl _) (d := bD bs) (bl_flat bs) ⟨a, _, rfl, h, ats_bl bs⟩
theorem Wd.put {R H : Hp} {s c D : Addr} {o u : HO} (w : Wd R H s c) (rD : R D = none) (hD : H D = some u) (nF : ¬ Fst s c D) : Wd R (upd H D o) s c := by
  have m : Mv (fun a => a = D) R H R (upd H D o) := mv_at w.sub rD hD rfl
  exact ⟨m.sub, w.rs, w.rc, w.st.stay m (fun e => nF (.inl e.symm)) (fun e => nF (.inr e.symm))⟩
section
variable {P : Program} {w : World} {K : PySem.W.Frag} {mg : Str → Option Value} {base : Heap}
abbrev g_law : Stmt := topS 32
abbrev n_law : List Str := ["script", "state", "clauses", "k", "due", "clause", "told", "one", "tree", "whole", "good", "part"]
abbrev p_law : List Str := ["script"]
theorem sc_law : FnScope n_law p_law (defScope g_law) := ⟨rfl, rfl, rfl, by decide +kernel, rfl, by decide +kernel, by decide +kernel⟩
def spLaw (K : PySem.W.Frag) : Sp := fun vs H Q _ => ∃ (a : Addr) (ns : List Int), vs = [.ref a] ∧ SqL K H a (ns.map V.int) ∧ ns.length ≤ 63 ∧ ∀ H', Q (.bl true) H'
theorem ok_law {f fS fT fB fG fL fKN fA fAN : Addr} {fd fdS fdT fdB fdG fdL fdKN fdA fdAN : FuncData} (F : Fun K "law" "law" g_law f fd) (mr : mg "range" = none) (ms : mg "str" = none) (mtu : mg "tuple" = none) (mis : mg "isinstance" = none) (mbo : mg "bool" = none) (mal : mg "all" = none)
    (GS : Fn P w K mg base CX0 1 "_law_state" p__law_state (spState K) fS fdS) (GT : Fn P w K mg base CX0 1 "_law_take" p__law_take spTake fT fdT) (GB : Fn P w K mg base CX0 8 "_law_body" p__law_body (spBody 5) fB fdB) (GG : Fn P w K mg base CX0 23 "_law_program" p__law_program spProg fG fdG)
    (GL : Fn P w K mg base CX0 62 "_law_all" p__law_all (spAll 60) fL fdL) (GKN : Fn P w K mg base CX0 128 "keeps_nothing" p_keeps_nothing (spKp 60) fKN fdKN) (GA : Fn P w K mg base CX0 126 "_law_at_once" p__law_at_once (spAo 60 60) fA fdA)
    (GAN : Fn P w K mg base CX0 127 "answers_at_once" p_answers_at_once (spAn 60) fAN fdAN) : FnOk P w K mg base CX0 129 f fd p_law (spLaw K) := by
  refine F.ok (k := 128) sc_law (fun vs H Q E h => ?_) (fun cdv A outer st H vs Q E hr h => ?_)
  · obtain ⟨a, ns, rfl, _⟩ := h
    rfl
  · obtain ⟨a, ns, rfl, hS, hlen, kq⟩ := h
    refine ⟨_, (pss_cons (ps_set (i := 1) sc_law.nd rfl (Or.inl rfl) (pe_call GS.ok (hr.mono (by omega)) (by rfl) GS.g GS.kp GS.b .nil pass0 (pa_cons (pv 0) pa_nil)))
      (pss_cons (ps_set (i := 2) sc_law.nd rfl (Or.inl rfl) (pe_lst pa_nil))
      (pss_cons (ps_for PassesOwn.never rfl (pi_range1 rfl mr (pa_cons (pe_op op_add (pe_int) (pe_call GT.ok (hr.mono (by omega)) (by rfl) GT.g GT.kp GT.b .nil pass0 (pa_cons (pv 1) (pa_cons (pe_int) pa_nil)))) pa_nil)) (pg_name (i := 3) sc_law.nd rfl (Or.inl rfl)) (pss_one (ps_expr (pe_bm PySem.F.plainAttrs_list PySem.F.slot_list_append PySem.F.type_list_append mt_append (pv 2) (pa_cons (pe_tup (pa_cons (pe_op op_add_str (pe_str) (pe_callTy call_str_int (by rfl) ms (by decide +kernel) (pa_cons (pv 3) pa_nil))) (pa_cons (pe_ix ix_list (pe_lst (pa_cons (pe_str) (pa_cons (pe_str) (pa_cons (pe_str) pa_nil)))) (pe_call GT.ok (hr.mono (by omega)) (by rfl) GT.g GT.kp GT.b .nil pass0 (pa_cons (pv 1) (pa_cons (pe_int) pa_nil))) (fun _ _ => rfl)) (pa_cons (pe_str) (pa_cons (pe_call GB.ok (hr.mono (by omega)) (by rfl) GB.g GB.kp GB.b .nil pass0 (pa_cons (pv 1) (pa_cons (pe_call GT.ok (hr.mono (by omega)) (by rfl) GT.g GT.kp GT.b .nil pass0 (pa_cons (pv 1) (pa_cons (pe_int) pa_nil))) pa_nil))) pa_nil))))) pa_nil)))))
      (pss_cons (ps_setLc (i := 4) (own := [("clause", 5)]) (g := gName 5) (tt := tYes) (te := tCall (spAo 60 60) [] E0 (tCons (tOp (rIxT K) (tVar 5) (tC (.int 3))) (tCons (tC (.str "k")) tNil))) rfl sc_law.nd rfl rfl (sw_true rfl rfl rfl (by decide +kernel)) (pi_list (pv 2)) (blkOk_by (N := n_law) (sc := defScope g_law) (by decide +kernel)) (fun _ _ _ _ _ => pg_name (i := 5) sc_law.nd rfl (Or.inl rfl)) (fun _ _ _ _ _ => pts_nil) (fun _ _ _ _ _ => pe_call GA.ok (hr.mono (by omega)) (by rfl) GA.g GA.kp GA.b .nil pass0 (pa_cons (pe_ix ix_tup (pv 5) pe_int (fun _ _ => rfl)) (pa_cons pe_str pa_nil))))
      (pss_cons (ps_setLc (i := 6) (own := [("clause", 5)]) (g := gName 5) (tt := tYes) (te := tCall (spAn 60) [] E0 (tCons (tVar 5) tNil)) rfl sc_law.nd rfl rfl (sw_true rfl rfl rfl (by decide +kernel)) (pi_list (pv 2)) (blkOk_by (N := n_law) (sc := defScope g_law) (by decide +kernel)) (fun _ _ _ _ _ => pg_name (i := 5) sc_law.nd rfl (Or.inl rfl)) (fun _ _ _ _ _ => pts_nil) (fun _ _ _ _ _ => pe_call GAN.ok (hr.mono (by omega)) (by rfl) GAN.g GAN.kp GAN.b .nil pass0 (pa_cons (pv 5) pa_nil)))
      (pss_cons (ps_if (PW.pt (pw_or (pt_cmpR (op_neD hr.units) (pv 6) (pv 4) (nomark _)) (pw_or1 (pt_not (pt_val (pe_callB (cr_all rfl) (by rfl) mal (by decide +kernel) (pa_cons (pe_lc (own := [("one", 7)]) (g := gName 7) (tt := tYes) (te := tCB (rIsi K) (tCons (tVar 7) (tCons (tC (.ty "bool")) tNil))) rfl sc_law.nd (pi_list (pv 6)) (blkOk_by (N := n_law) (sc := defScope g_law) (by decide +kernel)) (fun _ _ _ _ _ => pg_name (i := 7) sc_law.nd rfl (Or.inl rfl)) (fun _ _ _ _ _ => pts_nil) (fun _ _ _ _ _ => pe_callB call_isi (by rfl) mis (by decide +kernel) (pa_cons (pv 7) (pa_cons (pe_bltn (by rfl) mbo (by decide +kernel) (v := .ty "bool") (u := .type "bool") rfl) pa_nil)))) pa_nil))))))) (pss_one (ps_ret (pe_bl))) pss_nil)
      (pss_cons (ps_set (i := 8) sc_law.nd rfl (Or.inl rfl) (pe_tup (pa_cons (pe_str) (pa_cons (pe_tup (pa_cons (pe_str) (pa_cons (pe_int) pa_nil))) (pa_cons (pe_tup (pa_cons (pe_str) (pa_cons (pe_tup (pa_cons (pe_str) pa_nil)) (pa_cons (pe_tup (pa_cons (pe_str) (pa_cons (pe_tup (pa_cons (pe_str) (pa_cons (pe_str) pa_nil))) pa_nil))) (pa_cons (pe_callTy call_tuple_of (by rfl) mtu (by decide +kernel) (pa_cons (pv 2) pa_nil)) pa_nil))))) pa_nil)))))
      (pss_cons (ps_if (PW.pt (pw_or (pt_cmpR op_ne (pe_call GKN.ok hr (by rfl) GKN.g GKN.kp GKN.b .nil pass0 (pa_cons (pv 8) pa_nil)) (pe_callB (cr_all rfl) (by rfl) mal (by decide +kernel) (pa_cons (pv 4) pa_nil)) (nomark _)) (pw_or1 (pt_cmpR op_ne (pe_call GKN.ok hr (by rfl) GKN.g GKN.kp GKN.b .nil pass0 (pa_cons (pe_tup (pa_cons (pe_str) (pa_cons (pe_str) (pa_cons (pv 8) pa_nil)))) pa_nil)) (pe_callB (cr_all rfl) (by rfl) mal (by decide +kernel) (pa_cons (pv 4) pa_nil)) (nomark _))))) (pss_one (ps_ret (pe_bl))) pss_nil)
      (pss_cons (ps_set (i := 9) sc_law.nd rfl (Or.inl rfl) (pe_ix ix_tup (pe_ix ix_tup (pe_call GG.ok (hr.mono (by omega)) (by rfl) GG.g GG.kp GG.b .nil pass0 (pa_cons (pv 1) pa_nil)) (pe_int) (fun _ _ => rfl)) (pe_int) (fun _ _ => rfl)))
      (pss_cons (ps_set (i := 10) sc_law.nd rfl (Or.inl rfl) (pe_bl))
      (pss_cons (ps_for PassesOwn.never rfl (pi_list (pe_call GL.ok (hr.mono (by omega)) (by rfl) GL.g GL.kp GL.b .nil pass0 (pa_cons (pv 9) pa_nil))) (pg_name (i := 11) sc_law.nd rfl (Or.inl rfl)) (pss_one (ps_if (pt_cmpR op_eq (pe_ix ix_tup (pv 11) (pe_int) (fun _ _ => rfl)) (pe_str) (nomark _)) (pss_one (ps_set (i := 10) sc_law.nd rfl (Or.inl rfl) (pe_and (pv 10) (pe_one (pe_callB (cr_all rfl) (by rfl) mal (by decide +kernel) (pa_cons (pe_lc (own := [("clause", 5)]) (g := gName 5) (tt := tYes) (te := tCall (spAo 60 60) [] E0 (tCons (tOp (rIxT K) (tVar 5) (tC (.int 3))) (tCons (tOp (rIxT K) (tVar 5) (tC (.int 2))) tNil))) rfl sc_law.nd (pi_tup (pe_ix ix_tup (pv 11) pe_int (fun _ _ => rfl))) (blkOk_by (N := n_law) (sc := defScope g_law) (by decide +kernel)) (fun _ _ _ _ _ => pg_name (i := 5) sc_law.nd rfl (Or.inl rfl)) (fun _ _ _ _ _ => pts_nil) (fun _ _ _ _ _ => pe_call GA.ok (hr.mono (by omega)) (by rfl) GA.g GA.kp GA.b .nil pass0 (pa_cons (pe_ix ix_tup (pv 5) pe_int (fun _ _ => rfl)) (pa_cons (pe_ix ix_tup (pv 5) pe_int (fun _ _ => rfl)) pa_nil)))) pa_nil)))))) pss_nil)))
      (pss_one (ps_ret (pe_and (pe_cmpR op_eq (pe_call GKN.ok hr (by rfl) GKN.g GKN.kp GKN.b .nil pass0 (pa_cons (pv 9) pa_nil)) (pv 10) (nomark _)) (pe_one (pe_callB call_isi (by rfl) mis (by decide +kernel) (pa_cons (pe_call GKN.ok hr (by rfl) GKN.g GKN.kp GKN.b .nil pass0 (pa_cons (pv 9) pa_nil)) (pa_cons (pe_bltn (by rfl) mbo (by decide +kernel) (v := .ty "bool") (u := .type "bool") rfl) pa_nil)))))))))))))))))), ?_⟩
    refine ⟨_, rfl, a, ns, rfl, hS, hlen, fun H1 s c st1 s1 hs0 hc0 => ?_⟩
    have w : Wd H H1 s c := ⟨s1, hs0, hc0, st1⟩
    show gName 1 _ _ _ _
    refine ⟨Nat.zero_le _, fun L nL => ?_⟩
    have rL := w.sub.free nL
    have nF : ¬ Fst s c L := w.nf nL
    have mL : Mv F0 _ _ _ _ := mv_mut (F := F0) (o := .lst []) w.sub nL
    have w := w.up0 mL
    have mm : Mv (Fst s c) _ _ _ _ := .refl w.sub
    have hL : (upd H1 L (.lst [])) L = some (.lst []) := upd_same
    show gName 2 _ _ _ _
    refine ⟨_, rfl, _, s, c, 3, rfl, by decide, by decide, w.sub, w.rs, w.rc, w.st, fun J1 z1 st1 c1 z10 z11 => ?_⟩
    have w := w.took c1 st1
    have mm := mm.tr c1
    have hL := c1.keep _ _ hL nF
    obtain ⟨j, rfl⟩ : ∃ j : Nat, z1 = (j : Int) := ⟨z1.toNat, by omega⟩
    refine ⟨_, _, rfl, rfl, ((1 + j : Nat) : Int), rfl, by omega, by omega, ?_⟩
    refine for_range (lo := 0) (n := 1 + j) (fun i σ H' => ∃ (R' : Hp) (cs : Clz) (acc : List V) (z : Option V), σ = [some (.ref a), some (.ref s), some (.ref L), z, none, none, none, none, none, none, none, none] ∧ Wd R' H' s c ∧ R' L = none ∧ H' L = some (.lst acc) ∧ Ats R' (cs.d false) acc ∧ cs.len = i ∧ TrC cs (8 + 1) (i * 140) ∧ kN cs = true ∧ (preC cs).flatMap hdB = []) ?_ ?_ ?_
    · exact ⟨_, .nil, [], none, rfl, w, rL, hL, rfl, rfl, TrC.nil.mono (Nat.zero_le _) (Nat.zero_le _), rfl, rfl⟩
    · rintro i σ H' hi ⟨R', cs, acc, zz, rfl, w, rL, hL, ac, lc, tc, kn, nh⟩
      have mm : Mv (Fst s c) _ _ _ _ := .refl w.sub
      have oz := oS6 (k := i) (by omega)
      show gName 3 _ _ _ _
      rw [Int.zero_add]
      refine ⟨_, rfl, .inl ⟨rfl, _, SqL.of hL⟩, _, rfl, _, rfl, oz.1, _, _, rfl, rfl, oz.2.1, by show 3 ≤ sizeLine; decide, fun p2 n2 => ?_⟩
      obtain ⟨Q2, m2, al⟩ := lit3 w.sub (l := nmx3.map D.str) ⟨_, _, rfl, at_str, _, _, rfl, at_str, _, _, rfl, at_str, rfl⟩ n2
      have w := w.up0 m2
      have mm := mm.tr0 m2
      have rL := m2.out rL hL
      have hL := m2.keep _ _ hL id
      have ac := ac.up m2.up
      refine ⟨_, rfl, _, s, c, 3, rfl, by decide, by decide, w.sub, w.rs, w.rc, w.st, fun J3 z3 st3 c3 z30 z31 => ?_⟩
      have w := w.took c3 st3
      have mm := mm.tr c3
      have hL := c3.keep _ _ hL nF
      obtain ⟨jj4, rfl⟩ : ∃ j : Nat, z3 = (j : Int) := ⟨z3.toNat, by omega⟩
      obtain ⟨x, hx4, hlx⟩ := nmx3_get (z := jj4) (by omega)
      obtain ⟨pX4, vX4, eX4, hX4, tX4⟩ := id al
      cases eX4
      obtain ⟨xv4, hxv4, rfl⟩ := tX4.get (d := D.str x) (i := jj4) (by rw [List.getElem?_map, hx4]; rfl)
      refine ⟨_, _, _, _, rfl, rfl, SqL.of (w.sub _ _ hX4), atI_nat hxv4, _, rfl, _, rfl, _, s, c, 5, rfl, by decide, by decide, w.sub, w.rs, w.rc, w.st, fun J5 z5 st5 c5 z50 z51 => ?_⟩
      have w := w.took c5 st5
      have mm := mm.tr c5
      have hL := c5.keep _ _ hL nF
      obtain ⟨jd, rfl⟩ : ∃ j : Nat, z5 = (j : Int) := ⟨z5.toNat, by omega⟩
      refine ⟨_, s, c, jd, rfl, w, by omega, fun Q6 J6 e1 ve1 m w ae1 te1 ne1 => ?_⟩
      have mm := mm.tr m
      have rL := m.out rL hL
      have hL := m.keep _ _ hL nF
      have ac := ac.up m.up
      have al := al.up m.up
      refine ⟨by show 4 ≤ sizeLine; decide, fun p7 n7 => ?_⟩
      obtain ⟨Q7, m7, ar⟩ := lit2 w.sub (l := [.str (nmN "o" i), .str x, .str "k", e1.d false]) ⟨_, _, rfl, at_str, _, _, rfl, at_str, _, _, rfl, at_str, _, _, rfl, ae1, rfl⟩ n7
      have w := w.up0 m7
      have mm := mm.tr0 m7
      have rL := m7.out rL hL
      have hL := m7.keep _ _ hL id
      have ac := ac.up m7.up
      have al := al.up m7.up
      have ae1 := ae1.up m7.up
      have lac := ac.length
      have lcd : (cs.d false).length = cs.len := cl_len cs
      refine ⟨L, _, _, rfl, rfl, hL, Nat.lt_of_le_of_lt (by omega : acc.length ≤ 1000) (by decide), ?_⟩
      have w := w.put (o := .lst (acc ++ [.ref p7])) rL hL nF
      refine ⟨_, cs.snoc (nmN "o" i) x "k" e1, acc ++ [.ref p7], _, rfl, w, rL, upd_same, ?_, ?_, ?_, kN_snoc kn, ?_⟩
      · rw [snoc_d]
        exact ac.append (Ats.one ar)
      · rw [snoc_len, lc]
      · refine (tc.snoc oz.2.2 hlx (by decide +kernel) (te1.fit (by omega) (bdN4 (by omega)))).mono (Nat.le_refl _) ?_
        rw [Nat.succ_mul]; exact Nat.le_refl _
      · rw [preC_snoc, List.flatMap_append]
        exact noH2 nh ne1
    rintro σ' H' ⟨R1, cs, acc, zz, rfl, w, rL, hL, ac, lc, tc, kn, nh⟩
    have w := w.freeze rL hL nF
    have hcl : (upd R1 L (.lst acc)) L = some (.lst acc) := upd_same
    have ac := ac.up (same_new (o := .lst acc) rL)
    generalize upd R1 L (.lst acc) = R1 at w ac hcl
    have lac := ac.length
    have lcd : (cs.d false).length = cs.len := cl_len cs
    have lcb := clsB_len cs
    have tc : TrC cs 9 420 := tc.mono (Nat.le_refl _) (by have : (1 + j) * 140 ≤ 3 * 140 := Nat.mul_le_mul_right _ (by omega); omega)
    have okc : ∀ g ∈ cs.gs, okS 60 g := fun g hg => ((tc.of hg).ok (by omega) (by omega)).1
    have kl : (PyData.str ("k" : Str)).canLay0 = true := by decide +kernel
    refine ⟨_, rfl, L, rfl, ⟨_, SqL.of (w.sub _ _ hcl)⟩, fun D1 nD1 => ?_⟩
    have rD1 := w.sub.free nD1
    have nF1 : ¬ Fst s c D1 := w.nf nD1
    have mD : Mv F0 _ _ _ _ := mv_mut (F := F0) (o := .lst []) w.sub nD1
    have w := w.up0 mD
    refine lc_list (K := K) (a := L) (xs := acc) (fun i H2 => ∃ R', Wd R' H2 s c ∧ Same R1 R' ∧ R' D1 = none ∧ H2 D1 = some (.lst (((clsB cs).take i).map V.bl))) ⟨R1, w, .refl _, rD1, upd_same⟩ (fun i H2 _ q => by obtain ⟨R', w, sm, _⟩ := q; exact SqL.of (w.sub _ _ (sm _ _ hcl))) ?_ ?_
    · rintro i y H3 hy ⟨R3, w, sm, rD, hD⟩
      obtain ⟨dd, hdd, ad⟩ := (ac.up sm).mem hy
      obtain ⟨o, x, g, rfl, hg, hb⟩ := cls_getK kn hdd
      obtain ⟨py, _, rfl, hpy, v1, _, rfl, a1, v2, _, rfl, a2, v3, _, rfl, a3, v4, _, rfl, a4, rfl⟩ := ad
      refine ⟨rfl, _, rfl, py, _, 3, _, rfl, rfl, SqT.of (w.sub _ _ hpy), rfl, R3, g, "k", v4, rfl, w.sub, a4, okc g hg, kl, (okc g hg).dp, fun R4 H4 m4 => ?_⟩
      have li : i < cs.len := by have := (List.getElem?_eq_some_iff.mp hb).1; omega
      have rD4 := m4.out rD hD
      have hD4 := m4.keep _ _ hD id
      have w := w.up0 m4
      refine ⟨_, hD4, ?_, R4, w.put rD4 hD4 nF1, sm.trans m4.up, rD4, ?_⟩
      · rw [List.length_map, List.length_take]; exact Nat.lt_of_le_of_lt (by omega : _ ≤ 1000) (by decide)
      · rw [upd_same, List.take_add_one, hb, List.map_append]; rfl
    rintro H2 ⟨R2, w, sm, rD1, hD1⟩
    rw [show acc.length = (clsB cs).length by omega, List.take_length] at hD1
    have ac := ac.up sm
    have hcl := sm _ _ hcl
    show gName 4 _ _ _ _
    refine ⟨_, rfl, L, rfl, ⟨_, SqL.of (w.sub _ _ hcl)⟩, fun D2 nD2 => ?_⟩
    have nD12 : D1 ≠ D2 := ne_of_none hD1 nD2
    have rD2 := w.sub.free nD2
    have nF2 : ¬ Fst s c D2 := w.nf nD2
    have mD : Mv F0 _ _ _ _ := mv_mut (F := F0) (o := .lst []) w.sub nD2
    have rD1 := mD.out rD1 hD1
    have hD1 := mD.keep _ _ hD1 id
    have w := w.up0 mD
    refine lc_list (K := K) (a := L) (xs := acc) (fun i H2 => ∃ R', Wd R' H2 s c ∧ Same R2 R' ∧ R' D1 = none ∧ H2 D1 = some (.lst ((clsB cs).map V.bl)) ∧ R' D2 = none ∧ H2 D2 = some (.lst (((clsB cs).take i).map V.bl))) ⟨R2, w, .refl _, rD1, hD1, rD2, upd_same⟩ (fun i H2 _ q => by obtain ⟨R', w, sm, _⟩ := q; exact SqL.of (w.sub _ _ (sm _ _ hcl))) ?_ ?_
    · rintro i y H3 hy ⟨R3, w, sm, rD1, hD1, rD, hD⟩
      obtain ⟨dd, hdd, ad⟩ := (ac.up sm).mem hy
      obtain ⟨o, x, g, rfl, hg, hb⟩ := cls_getK kn hdd
      refine ⟨rfl, _, rfl, R3, o, x, "k", g, y, rfl, w.sub, ad, okc g hg, kl, fun R4 H4 m4 => ?_⟩
      have li : i < cs.len := by have := (List.getElem?_eq_some_iff.mp hb).1; omega
      have rD4 := m4.out rD hD
      have hD4 := m4.keep _ _ hD id
      have rD14 := m4.out rD1 hD1
      have hD14 := m4.keep _ _ hD1 id
      have w := w.up0 m4
      refine ⟨_, hD4, ?_, R4, w.put rD4 hD4 nF2, sm.trans m4.up, rD14, ?_, rD4, ?_⟩
      · rw [List.length_map, List.length_take]; exact Nat.lt_of_le_of_lt (by omega : _ ≤ 1000) (by decide)
      · rw [upd_ne nD12]; exact hD14
      · rw [upd_same, List.take_add_one, hb, List.map_append]; rfl
    rintro H3 ⟨R3, w, sm, rD1, hD1, rD2, hD2⟩
    rw [show acc.length = (clsB cs).length by omega, List.take_length] at hD2
    have ac := ac.up sm
    have hcl := sm _ _ hcl
    show gName 6 _ _ _ _
    -- told != due
    refine ⟨_, rfl, _, rfl, _, _, bl_dp hD2, bl_dp hD1, bl_sh _, bl_sh _, _, rfl, ?_⟩
    rw [eqv_self (bl_sh (clsB cs))]
    refine ifF rfl ?_
    refine ⟨_, rfl, D2, rfl, ⟨_, SqL.of hD2⟩, fun D3 nD3 => ?_⟩
    have nF3 : ¬ Fst s c D3 := w.nf nD3
    have rD3 := w.sub.free nD3
    have n31 : D1 ≠ D3 := ne_of_none hD1 nD3
    have n32 : D2 ≠ D3 := ne_of_none hD2 nD3
    refine lc_list (K := K) (a := D2) (xs := (clsB cs).map V.bl) (fun i H4 => ∃ bs : List Bool, bs.length = i ∧ bs.all id = true ∧ H4 = upd H3 D3 (.lst (bs.map V.bl))) ⟨[], rfl, rfl, rfl⟩ (fun i H4 _ q => by obtain ⟨bs, _, _, rfl⟩ := q; exact SqL.of (by rw [upd_ne n32]; exact hD2)) ?_ ?_
    · rintro i y H4 hy ⟨bs, lb, ab, rfl⟩
      have li := (List.getElem?_eq_some_iff.mp hy).1
      rw [List.length_map] at li
      rw [List.getElem?_map, List.getElem?_eq_getElem li] at hy
      obtain rfl : V.bl _ = y := Option.some.inj hy
      refine ⟨rfl, _, rfl, _, _, _, _, true, rfl, .ty _, .base (.bl _), kit_ty (by decide +kernel), _, upd_same, ?_, bs ++ [true], ?_, ?_, ?_⟩
      · rw [List.length_map]; exact Nat.lt_of_le_of_lt (by omega : _ ≤ 1000) (by decide)
      · rw [List.length_append, lb]; rfl
      · rw [List.all_append, ab]; rfl
      · rw [upd_twice, List.map_append]; rfl
    rintro H4 ⟨bs, lb, ab, rfl⟩
    refine ⟨D3, bs, rfl, SqL.of upd_same, _, rfl, ?_⟩
    rw [ab]
    refine ifF rfl ?_
    have m3 : Mv F0 R3 H3 R3 _ := mv_mut (F := F0) (o := .lst (bs.map V.bl)) w.sub nD3
    have w := w.up0 m3
    have rD1 := m3.out rD1 hD1
    have hD1 := m3.keep _ _ hD1 id
    have mm : Mv (Fst s c) _ _ _ _ := .refl w.sub
    refine ⟨by show 2 ≤ sizeLine; decide, fun p2 n2 => ?_⟩
    obtain ⟨Q2, m2, q1⟩ := lit2 w.sub (l := [.str "num", .int 1]) ⟨_, _, rfl, at_str, _, _, rfl, at_int, rfl⟩ n2
    have w := w.up0 m2
    have mm := mm.tr0 m2
    have rD1 := m2.out rD1 hD1
    have hD1 := m2.keep _ _ hD1 id
    have ac := ac.up m2.up
    have hcl := m2.up _ _ hcl
    refine ⟨by show 1 ≤ sizeLine; decide, fun p3 n3 => ?_⟩
    obtain ⟨Q3, m3, q2⟩ := lit2 w.sub (l := [.str "unit"]) ⟨_, _, rfl, at_str, rfl⟩ n3
    have w := w.up0 m3
    have mm := mm.tr0 m3
    have rD1 := m3.out rD1 hD1
    have hD1 := m3.keep _ _ hD1 id
    have ac := ac.up m3.up
    have q1 := q1.up m3.up
    have hcl := m3.up _ _ hcl
    refine ⟨by show 2 ≤ sizeLine; decide, fun p4 n4 => ?_⟩
    obtain ⟨Q4, m4, q3⟩ := lit2 w.sub (l := [.str "name", .str "r"]) ⟨_, _, rfl, at_str, _, _, rfl, at_str, rfl⟩ n4
    have w := w.up0 m4
    have mm := mm.tr0 m4
    have rD1 := m4.out rD1 hD1
    have hD1 := m4.keep _ _ hD1 id
    have ac := ac.up m4.up
    have q1 := q1.up m4.up
    have q2 := q2.up m4.up
    have hcl := m4.up _ _ hcl
    refine ⟨by show 2 ≤ sizeLine; decide, fun p5 n5 => ?_⟩
    obtain ⟨Q5, m5, q4⟩ := lit2 w.sub (l := [.str "r", (Ex.name "r").d false]) ⟨_, _, rfl, at_str, _, _, rfl, q3, rfl⟩ n5
    have w := w.up0 m5
    have mm := mm.tr0 m5
    have rD1 := m5.out rD1 hD1
    have hD1 := m5.keep _ _ hD1 id
    have ac := ac.up m5.up
    have q1 := q1.up m5.up
    have q2 := q2.up m5.up
    have q3 := q3.up m5.up
    have hcl := m5.up _ _ hcl
    refine ⟨_, rfl, L, _, rfl, .inl ⟨SqL.of (w.sub _ _ hcl), fun pt nt => ?_⟩⟩
    obtain ⟨RT, mT, aT⟩ := lit2 w.sub ac nt
    have w := w.up0 mT
    have mm := mm.tr0 mT
    have rD1 := mT.out rD1 hD1
    have hD1 := mT.keep _ _ hD1 id
    have ac := ac.up mT.up
    have q1 := q1.up mT.up
    have q2 := q2.up mT.up
    have q3 := q3.up mT.up
    have q4 := q4.up mT.up
    have hcl := mT.up _ _ hcl
    refine ⟨by show 4 ≤ sizeLine; decide, fun p6 n6 => ?_⟩
    obtain ⟨Q6, m6, q5⟩ := lit2 w.sub (l := [.str "handle", Ex.unit.d false, .tup [.str "r", (Ex.name "r").d false], .tup (cs.d false)]) ⟨_, _, rfl, at_str, _, _, rfl, q2, _, _, rfl, q4, _, _, rfl, aT, rfl⟩ n6
    have w := w.up0 m6
    have mm := mm.tr0 m6
    have rD1 := m6.out rD1 hD1
    have hD1 := m6.keep _ _ hD1 id
    have ac := ac.up m6.up
    have q1 := q1.up m6.up
    have q2 := q2.up m6.up
    have q3 := q3.up m6.up
    have q4 := q4.up m6.up
    have aT := aT.up m6.up
    have hcl := m6.up _ _ hcl
    refine ⟨by show 3 ≤ sizeLine; decide, fun p7 n7 => ?_⟩
    obtain ⟨Q7, m7, at0⟩ := lit2 w.sub (l := [.str "pair", (Ex.num 1).d false, (Ex.hd .unit "r" (.name "r") cs).d false]) ⟨_, _, rfl, at_str, _, _, rfl, q1, _, _, rfl, q5, rfl⟩ n7
    have w := w.up0 m7
    have mm := mm.tr0 m7
    have rD1 := m7.out rD1 hD1
    have hD1 := m7.keep _ _ hD1 id
    have ac := ac.up m7.up
    have q1 := q1.up m7.up
    have q2 := q2.up m7.up
    have q3 := q3.up m7.up
    have q4 := q4.up m7.up
    have aT := aT.up m7.up
    have q5 := q5.up m7.up
    have hcl := m7.up _ _ hcl
    show gName 8 _ _ _ _
    have okr : okNm "r" = true := by decide +kernel
    have okz : okNm "z" = true := by decide +kernel
    have u1 : Tr Ex.unit (9 + 1) 1 := Tr.unit.fit (by omega) (by omega)
    have u2 : Tr (Ex.name "r") 9 1 := (Tr.name okr).fit (by omega) (by omega)
    have u3 : Tr (Ex.num 1) (9 + 2) 1 := Tr.num.fit (by omega) (by omega)
    have hdl : cs.len ≤ 900 := by omega
    have u4 : Tr (Ex.hd .unit "r" (.name "r") cs) (9 + 2) (1 + (1 + 420) + 1) := Tr.hd okr hdl u1 u2 tc
    have tt : Tr (Ex.pair (.num 1) (.hd .unit "r" (.name "r") cs)) (9 + 2 + 1) (1 + (1 + (1 + 420) + 1) + 1) := Tr.pair u3 u4
    have t1 := tt.ok (by omega) (by omega)
    have t2 := (Tr.fn okz tt).ok (by omega) (by omega)
    have e1 := keeps_pair nh
    have e2 := keeps_fn nh
    refine ⟨_, rfl, _, (Ex.pair (.num 1) (.hd .unit "r" (.name "r") cs)), _, rfl, w.sub, at0, t1.1, t1.2, fun Q8 J8 m => ?_⟩
    have mm := mm.tr0 m
    have rD1 := m.out rD1 hD1
    have hD1 := m.keep _ _ hD1 id
    have at0 := at0.up m.up
    have hcl := m.up _ _ hcl
    have w := w.up0 m
    refine ⟨_, rfl, D1, _, rfl, SqL.of hD1, rfl, _, rfl, ?_⟩
    rw [e1]
    refine ifF (by rw [decide_eq_true rfl]; rfl) ?_
    refine ⟨_, rfl, by show 3 ≤ sizeLine; decide, fun p9 n9 => ?_⟩
    obtain ⟨Q9, m9, at2⟩ := lit2 w.sub (l := [.str "fun", .str "z", (Ex.pair (.num 1) (.hd .unit "r" (.name "r") cs)).d false]) ⟨_, _, rfl, at_str, _, _, rfl, at_str, _, _, rfl, at0, rfl⟩ n9
    have w := w.up0 m9
    have mm := mm.tr0 m9
    have rD1 := m9.out rD1 hD1
    have hD1 := m9.keep _ _ hD1 id
    have at0 := at0.up m9.up
    have hcl := m9.up _ _ hcl
    refine ⟨_, .fn "z" (Ex.pair (.num 1) (.hd .unit "r" (.name "r") cs)), _, rfl, w.sub, at2, t2.1, t2.2, fun Q10 J10 m => ?_⟩
    have mm := mm.tr0 m
    have rD1 := m.out rD1 hD1
    have hD1 := m.keep _ _ hD1 id
    have at0 := at0.up m.up
    have at2 := at2.up m.up
    have hcl := m.up _ _ hcl
    have w := w.up0 m
    refine ⟨_, rfl, D1, _, rfl, SqL.of hD1, rfl, _, rfl, ?_⟩
    rw [e2]
    refine ifF (by rw [decide_eq_true rfl]; rfl) ?_
    refine ⟨_, rfl, _, s, c, rfl, w, fun Q11 J11 ops κ e v m w ap oko dk te => ?_⟩
    have mm := mm.tr m
    obtain ⟨pp, _, rfl, hpp, _, _, rfl, ⟨pq, _, rfl, hpq, _, _, rfl, _, _, _, rfl, _, ve, _, rfl, ae, rfl⟩, _, _, rfl, _, rfl⟩ := ap
    refine ⟨pp, _, 0, _, rfl, rfl, SqT.of (w.sub _ _ hpp), rfl, pq, _, 2, _, rfl, rfl, SqT.of (w.sub _ _ hpq), rfl, ?_⟩
    show gName 9 _ _ _ _
    obtain ⟨ok, nm⟩ := te.ok (Nat.le_refl _) (Nat.le_refl _)
    refine ⟨_, rfl, _, e, _, rfl, w.sub, ae, ok.dp, ok.sm, ok.big, fun Q12 J12 u m au => ?_⟩
    have mm := mm.tr0 m
    have ae := ae.up m.up
    have w := w.up0 m
    obtain ⟨pl, pvs, rfl, hpl, apl⟩ := au
    have lpl := apl.length
    rw [List.length_map] at lpl
    refine ⟨pl, rfl, ⟨_, SqL.of (w.sub _ _ hpl)⟩, ?_⟩
    refine for_list (K := K) (a := pl) (xs := pvs) (fun i σ H' => ∃ (R' : Hp) (b : Bool) (z : Option V), σ = [some (.ref a), some (.ref s), some (.ref L), zz, some (.ref D1), none, some (.ref D2), none, some (.ref p7), some ve, some (.bl b), z] ∧ Wd R' H' s c ∧ Same Q12 R' ∧ b = (((pre e).take i).flatMap hdB).all id) ⟨_, true, none, rfl, w, .refl _, rfl⟩ (fun i σ H' _ q => by obtain ⟨R', b, z, rfl, w, sm, _⟩ := q; exact SqL.of (w.sub _ _ (sm _ _ hpl))) ?_ ?_
    · rintro i y σ H' hy ⟨R', b, z, rfl, w, sm, hb⟩
      obtain ⟨dd, hdd, ad⟩ := (apl.up sm).mem hy
      rw [List.getElem?_map] at hdd
      cases eg : (pre e)[i]? with
      | none => rw [eg] at hdd; cases hdd
      | some g =>
        rw [eg] at hdd
        obtain rfl : g.d false = dd := Option.some.inj hdd
        have hg := List.mem_of_getElem? eg
        have okg := okS_pre 60 ok.dp ok hg
        have ng := nm g hg
        have htk : (((pre e).take (i + 1)).flatMap hdB).all id = (b && (hdB g).all id) := by
          rw [List.take_add_one, eg, List.flatMap_append, List.all_append, ← hb]
          show (b && (hdB g ++ []).all id) = _
          rw [List.append_nil]
        show gName 11 _ _ _ _
        by_cases hh : isHdE g = true
        · cases g with
          | hd e1 x f c2 =>
            obtain ⟨pe, _, rfl, hpe, _, _, rfl, rfl, v1, _, rfl, a1, vr, _, rfl, ar, vc, _, rfl, ⟨pc, cvs, rfl, hc, acs⟩, rfl⟩ := ad
            refine ⟨_, rfl, pe, _, 0, _, rfl, rfl, SqT.of (w.sub _ _ hpe), rfl, rfl, _, rfl, ?_⟩
            refine ifT (decide_eq_true rfl) ?_
            refine ⟨_, rfl, b, rfl, ?_⟩
            refine iteB (fun hb1 => ?_) (fun hb0 => ?_)
            · have lac := acs.length
              have lcd : (c2.d false).length = c2.len := cl_len c2
              have lcb := clsB_len c2
              have l9 : c2.len ≤ 900 := of_decide_eq_true (and2 okg.sm).1
              refine ⟨_, rfl, pe, _, 3, _, rfl, rfl, SqT.of (w.sub _ _ hpe), rfl, pc, rfl, ⟨_, SqT.of (w.sub _ _ hc)⟩, fun D nD => ?_⟩
              have rD := w.sub.free nD
              have nFD : ¬ Fst s c D := w.nf nD
              have mD : Mv F0 _ _ _ _ := mv_mut (F := F0) (o := .lst []) w.sub nD
              have w := w.up0 mD
              refine lc_tup (K := K) (a := pc) (xs := cvs) (fun i H2 => ∃ R2, Wd R2 H2 s c ∧ Same R' R2 ∧ R2 D = none ∧ H2 D = some (.lst (((clsB c2).take i).map V.bl))) ⟨R', w, .refl _, rD, upd_same⟩ (fun i H2 _ q => by obtain ⟨R2, w, sm, _⟩ := q; exact SqT.of (w.sub _ _ (sm _ _ hc))) ?_ ?_
              · rintro i y H3 hy ⟨R3, w, sm, rD, hD⟩
                obtain ⟨dd, hdd, ad⟩ := (acs.up sm).mem hy
                obtain ⟨o, x, k, g, rfl, hg, hb, hk⟩ := cls_get hdd
                obtain ⟨py, _, rfl, hpy, v1, _, rfl, a1, v2, _, rfl, a2, v3, _, rfl, a3, v4, _, rfl, a4, rfl⟩ := ad
                obtain rfl : v3 = .str k := a3
                have og := okg.part (g := g) (List.mem_cons_of_mem _ (List.mem_cons_of_mem _ hg))
                refine ⟨rfl, _, rfl, py, _, 3, _, rfl, rfl, SqT.of (w.sub _ _ hpy), rfl, _, rfl, py, _, 2, _, rfl, rfl, SqT.of (w.sub _ _ hpy), rfl, R3, g, k, v4, rfl, w.sub, a4, og, hk ng, og.dp, fun R4 H4 m4 => ?_⟩
                have li : i < c2.len := by have := (List.getElem?_eq_some_iff.mp hb).1; omega
                have rD4 := m4.out rD hD
                have hD4 := m4.keep _ _ hD id
                have w := w.up0 m4
                refine ⟨_, hD4, ?_, R4, w.put rD4 hD4 nFD, sm.trans m4.up, rD4, ?_⟩
                · rw [List.length_map, List.length_take]; exact Nat.lt_of_le_of_lt (by omega : _ ≤ 1000) (by decide)
                · rw [upd_same, List.take_add_one, hb, List.map_append]; rfl
              rintro H3 ⟨R3, w, sm2, rD, hD⟩
              rw [show cvs.length = (clsB c2).length by omega, List.take_length] at hD
              refine ⟨D, _, rfl, SqL.of hD, ?_⟩
              refine ⟨R3, (clsB c2).all id, _, rfl, w, sm.trans sm2, ?_⟩
              rw [htk, hb1]
              rfl
            · refine ⟨R', false, _, rfl, w, sm, ?_⟩
              rw [htk, hb0]
              rfl
          | _ => exact Bool.noConfusion (show false = true from hh)
        · obtain ⟨pe, rr, rfl, hpe⟩ := ex_head ad
          refine ⟨_, rfl, pe, _, 0, _, rfl, rfl, SqT.of (w.sub _ _ hpe), atI_nat (j := 0) rfl, rfl, _, rfl, ?_⟩
          have htag : tagE g = "handle" → False := by
            cases g with
            | hd e1 x f c2 => exact absurd rfl hh
            | _ => intro q; simp only [tagE] at q; revert q; decide +kernel
          refine isF htag ?_
          refine ⟨R', b, _, rfl, w, sm, ?_⟩
          have h0 : hdB g = [] := by
            cases g with
            | hd e1 x f c2 => exact absurd rfl hh
            | _ => rfl
          rw [htk, h0]
          cases b <;> rfl
    rintro σ' H' ⟨R', b, z, rfl, w, sm, hb⟩
    rw [lpl, List.take_length] at hb
    have ae := ae.up sm
    refine ⟨_, rfl, R', e, _, rfl, w.sub, ae, ok, nm, fun R2 H2 m2 => ⟨_, rfl, rfl, _, rfl, ?_⟩⟩
    refine ifT (decide_eq_true (by rw [hb]; rfl)) ?_
    refine ⟨_, rfl, R2, e, _, rfl, m2.sub, ae.up m2.up, ok, nm, fun R3 H3 m3 => ?_⟩
    exact ⟨_, _, _, _, true, rfl, .ty _, .base (.bl _), kit_ty (by decide +kernel), kq _⟩
end
end Bz


set_option Elab.async false
set_option linter.all false
set_option maxRecDepth 100000
set_option maxHeartbeats 4000000
namespace Bz
open PySem PySem.Spec L2 PyProof.Rows
section
variable {P : Program} {w : World} {K : PySem.W.Frag} {mg : Str → Option Value} {base : Heap}
theorem cl_up {N : Nat} {fW : Addr} {fdW : FuncData} {f : Addr} {fd : FuncData} (F : Fun K "calls_last" "calls_last" g_calls_last f fd) (GW : Fn P w K mg base CX0 (N + 5) "without" p_without (spWo N) fW fdW) (g : mg "calls_last" = some (.ref f)) (kp : PySem.W.keepIn K (.ref f) = true) (b : Binds K fd p_calls_last []) : ∀ n, Fn P w K mg base CX0 (N + 6 + n) "calls_last" p_calls_last (spCl N n) f fd
  | 0 => ⟨ok_cl0 (k := N + 5) F, g, kp, b⟩
  | n + 1 => ⟨ok_cl F GW (cl_up F GW g kp b n), g, kp, b⟩
theorem ao_up {N : Nat} {fW : Addr} {fdW : FuncData} {f : Addr} {fd : FuncData} (F : Fun K "_law_at_once" "_law_at_once" g__law_at_once f fd) (GW : Fn P w K mg base CX0 (N + 2) "_law_occurs" p__law_occurs (spOc N) fW fdW) (g : mg "_law_at_once" = some (.ref f)) (kp : PySem.W.keepIn K (.ref f) = true) (b : Binds K fd p__law_at_once []) : ∀ n, Fn P w K mg base CX0 (N + 6 + n) "_law_at_once" p__law_at_once (spAo N n) f fd
  | 0 => ⟨ok_ao0 (k := N + 5) F, g, kp, b⟩
  | n + 1 => ⟨ok_ao F GW (ao_up F GW g kp b n), g, kp, b⟩
theorem all_up {fP : Addr} {fdP : FuncData} {f : Addr} {fd : FuncData} (F : Fun K "_law_all" "_law_all" g__law_all f fd) (GP : Fn P w K mg base CX0 1 "_law_parts" p__law_parts spLP fP fdP) (g : mg "_law_all" = some (.ref f)) (kp : PySem.W.keepIn K (.ref f) = true) (b : Binds K fd p__law_all []) : ∀ n, Fn P w K mg base CX0 (n + 2) "_law_all" p__law_all (spAll n) f fd
  | 0 => ⟨ok_all0 F, g, kp, b⟩
  | n + 1 => ⟨ok_all F GP (all_up F GP g kp b n), g, kp, b⟩
theorem oc_up {fP fB : Addr} {fdP fdB : FuncData} {f : Addr} {fd : FuncData} (F : Fun K "_law_occurs" "_law_occurs" g__law_occurs f fd) (ml : mg "len" = none) (mr : mg "range" = none) (GP : Fn P w K mg base CX0 1 "_law_parts" p__law_parts spLP fP fdP) (GB : Fn P w K mg base CX0 1 "_law_binds" p__law_binds spBd fB fdB) (g : mg "_law_occurs" = some (.ref f)) (kp : PySem.W.keepIn K (.ref f) = true) (b : Binds K fd p__law_occurs []) : ∀ n, Fn P w K mg base CX0 (n + 2) "_law_occurs" p__law_occurs (spOc n) f fd
  | 0 => ⟨ok_oc0 F, g, kp, b⟩
  | n + 1 => ⟨ok_oc F ml mr GP GB (oc_up F ml mr GP GB g kp b n), g, kp, b⟩
theorem kind_up {fT : Addr} {fdT : FuncData} {f : Addr} {fd : FuncData} (F : Fun K "_law_kind" "_law_kind" g__law_kind f fd) (GT : Fn P w K mg base CX0 1 "_law_take" p__law_take spTake fT fdT) (g : mg "_law_kind" = some (.ref f)) (kp : PySem.W.keepIn K (.ref f) = true) (b : Binds K fd p__law_kind []) : ∀ n, Fn P w K mg base CX0 (n + 2) "_law_kind" p__law_kind (spKind n) f fd
  | 0 => ⟨ok_kind0 F, g, kp, b⟩
  | n + 1 => ⟨ok_kind F GT (kind_up F GT g kp b n), g, kp, b⟩
theorem leaf_up {fT : Addr} {fdT : FuncData} {f : Addr} {fd : FuncData} (F : Fun K "_law_leaf" "_law_leaf" g__law_leaf f fd) (ml : mg "len" = none) (ms : mg "str" = none) (GT : Fn P w K mg base CX0 1 "_law_take" p__law_take spTake fT fdT) (g : mg "_law_leaf" = some (.ref f)) (kp : PySem.W.keepIn K (.ref f) = true) (b : Binds K fd p__law_leaf []) : ∀ n, Fn P w K mg base CX0 (n + 2) "_law_leaf" p__law_leaf (spLeaf n) f fd
  | 0 => ⟨ok_leaf0 F, g, kp, b⟩
  | n + 1 => ⟨ok_leaf F ml ms GT (leaf_up F ml ms GT g kp b n), g, kp, b⟩
theorem body_up {fT fI : Addr} {fdT fdI : FuncData} {f : Addr} {fd : FuncData} (F : Fun K "_law_body" "_law_body" g__law_body f fd) (GT : Fn P w K mg base CX0 1 "_law_take" p__law_take spTake fT fdT) (GI : Fn P w K mg base CX0 2 "_law_simple" p__law_simple spSimple fI fdI) (g : mg "_law_body" = some (.ref f)) (kp : PySem.W.keepIn K (.ref f) = true) (b : Binds K fd p__law_body []) : ∀ n, Fn P w K mg base CX0 (n + 3) "_law_body" p__law_body (spBody n) f fd
  | 0 => ⟨ok_body0 F, g, kp, b⟩
  | n + 1 => ⟨ok_body F GT GI (body_up F GT GI g kp b n), g, kp, b⟩
theorem note_up {fP fB : Addr} {fdP fdB : FuncData} {f : Addr} {fd : FuncData} (F : Fun K "note_free_names" "note_free_names" g_note_free_names f fd) (mz : mg "zip" = none) (GP : Fn P w K mg base CX0 1 "parts" p_parts spParts fP fdP) (GB : Fn P w K mg base CX0 2 "bound_in_parts" p_bound_in_parts spBnd fB fdB) (g : mg "note_free_names" = some (.ref f)) (kp : PySem.W.keepIn K (.ref f) = true) (b : Binds K fd p_note_free_names []) : ∀ n, Fn P w K mg base CX0 (n + 3) "note_free_names" p_note_free_names (spNote n) f fd
  | 0 => ⟨ok_note0 F, g, kp, b⟩
  | n + 1 => ⟨ok_note F mz GP GB (note_up F mz GP GB g kp b n), g, kp, b⟩
theorem tree_up {fT fL fK fV fS fA fC fH fO : Addr} {fdT fdL fdK fdV fdS fdA fdC fdH fdO : FuncData} (ml : mg "len" = none) (ms : mg "str" = none) (mtu : mg "tuple" = none) (GT : Fn P w K mg base CX0 1 "_law_take" p__law_take spTake fT fdT) (GL : Fn P w K mg base CX0 9 "_law_leaf" p__law_leaf (spLeaf 7) fL fdL) (GK : Fn P w K mg base CX0 4 "_law_kind" p__law_kind (spKind 2) fK fdK)
    (FV : Fun K "_law_tree" "_law_tree" g__law_tree fV fdV) (gV : mg "_law_tree" = some (.ref fV)) (kV : PySem.W.keepIn K (.ref fV) = true) (bV : Binds K fdV p__law_tree [])
    (FS : Fun K "_law_special" "_law_special" g__law_special fS fdS) (gS : mg "_law_special" = some (.ref fS)) (kS : PySem.W.keepIn K (.ref fS) = true) (bS : Binds K fdS p__law_special [])
    (FA : Fun K "_law_asking" "_law_asking" g__law_asking fA fdA) (gA : mg "_law_asking" = some (.ref fA)) (kA : PySem.W.keepIn K (.ref fA) = true) (bA : Binds K fdA p__law_asking [])
    (FC : Fun K "_law_clause" "_law_clause" g__law_clause fC fdC) (gC : mg "_law_clause" = some (.ref fC)) (kC : PySem.W.keepIn K (.ref fC) = true) (bC : Binds K fdC p__law_clause [])
    (FH : Fun K "_law_handling" "_law_handling" g__law_handling fH fdH) (gH : mg "_law_handling" = some (.ref fH)) (kH : PySem.W.keepIn K (.ref fH) = true) (bH : Binds K fdH p__law_handling [])
    (FO : Fun K "_law_loop" "_law_loop" g__law_loop fO fdO) (gO : mg "_law_loop" = some (.ref fO)) (kO : PySem.W.keepIn K (.ref fO) = true) (bO : Binds K fdO p__law_loop [])
    : ∀ n, Fn P w K mg base CX0 (10 + 3 * n) "_law_tree" p__law_tree (spTree n) fV fdV
  | 0 => ⟨ok_tree0 FV ml ms GT GL, gV, kV, bV⟩
  | n + 1 => by
    have GV := tree_up ml ms mtu GT GL GK FV gV kV bV FS gS kS bS FA gA kA bA FC gC kC bC FH gH kH bH FO gO kO bO n
    have GS : Fn P w K mg base CX0 (10 + 3 * n + 1) "_law_special" p__law_special (spTree (n + 1)) fS fdS := ⟨ok_special FS ml ms GT GL GK GV, gS, kS, bS⟩
    have GA : Fn P w K mg base CX0 (10 + 3 * n + 1) "_law_asking" p__law_asking (spTree (n + 1)) fA fdA := ⟨ok_asking FA ml ms GT GL GK GV, gA, kA, bA⟩
    have GC : Fn P w K mg base CX0 (10 + 3 * n + 1) "_law_clause" p__law_clause (spClause n) fC fdC := ⟨ok_clause FC ml ms GT GL GK GV, gC, kC, bC⟩
    have GH : Fn P w K mg base CX0 (10 + 3 * n + 2) "_law_handling" p__law_handling (spTree (n + 1)) fH fdH := ⟨ok_handling FH ml ms GT GL GK GV mtu GC, gH, kH, bH⟩
    have GO : Fn P w K mg base CX0 (10 + 3 * n + 1) "_law_loop" p__law_loop (spTree (n + 1)) fO fdO := ⟨ok_loop FO ml ms GT GL GK GV, gO, kO, bO⟩
    exact ⟨ok_tree FV ml ms GT GL GK GV GS GA GH GO, gV, kV, bV⟩
end
theorem all_mk {l : PySem.W.OpenLaw} {w : World} {K : PySem.W.Frag} {h : Heap} {mg : Str → Option Value} {fa f_parts f_numbered f_bound_in_parts f_free_names f_note_free_names f_answers_at_once f_keeps_nothing f_calls_last f_without f_L_law_state f_L_law_take f_L_law_kind f_L_law_operations f_L_law_leaf f_L_law_special f_L_law_asking f_L_law_clause f_L_law_handling f_L_law_loop f_L_law_tree f_L_law_program f_L_law_parts f_L_law_all f_L_law_occurs f_L_law_binds f_L_law_at_once f_L_law_simple f_L_law_body f_law : Addr} (X : K.In h) (G : h.Ns mainGlobals mg) (hfa : mg "law" = some (.ref fa))
    {od_parts an_parts : Option Addr} {sl_parts : Array (Option Value)} {oc_parts kV_parts dc_parts pm_parts cd_parts ct_parts : Value}
    {od_numbered an_numbered : Option Addr} {sl_numbered : Array (Option Value)} {oc_numbered kV_numbered dc_numbered pm_numbered cd_numbered ct_numbered : Value}
    {od_bound_in_parts an_bound_in_parts : Option Addr} {sl_bound_in_parts : Array (Option Value)} {oc_bound_in_parts kV_bound_in_parts dc_bound_in_parts pm_bound_in_parts cd_bound_in_parts ct_bound_in_parts : Value}
    {od_free_names an_free_names : Option Addr} {sl_free_names : Array (Option Value)} {oc_free_names kV_free_names dc_free_names pm_free_names cd_free_names ct_free_names : Value}
    {od_note_free_names an_note_free_names : Option Addr} {sl_note_free_names : Array (Option Value)} {oc_note_free_names kV_note_free_names dc_note_free_names pm_note_free_names cd_note_free_names ct_note_free_names : Value}
    {od_answers_at_once an_answers_at_once : Option Addr} {sl_answers_at_once : Array (Option Value)} {oc_answers_at_once kV_answers_at_once dc_answers_at_once pm_answers_at_once cd_answers_at_once ct_answers_at_once : Value}
    {od_keeps_nothing an_keeps_nothing : Option Addr} {sl_keeps_nothing : Array (Option Value)} {oc_keeps_nothing kV_keeps_nothing dc_keeps_nothing pm_keeps_nothing cd_keeps_nothing ct_keeps_nothing : Value}
    {od_calls_last an_calls_last : Option Addr} {sl_calls_last : Array (Option Value)} {oc_calls_last kV_calls_last dc_calls_last pm_calls_last cd_calls_last ct_calls_last : Value}
    {od_without an_without : Option Addr} {sl_without : Array (Option Value)} {oc_without kV_without dc_without pm_without cd_without ct_without : Value}
    {od_L_law_state an_L_law_state : Option Addr} {sl_L_law_state : Array (Option Value)} {oc_L_law_state kV_L_law_state dc_L_law_state pm_L_law_state cd_L_law_state ct_L_law_state : Value}
    {od_L_law_take an_L_law_take : Option Addr} {sl_L_law_take : Array (Option Value)} {oc_L_law_take kV_L_law_take dc_L_law_take pm_L_law_take cd_L_law_take ct_L_law_take : Value}
    {od_L_law_kind an_L_law_kind : Option Addr} {sl_L_law_kind : Array (Option Value)} {oc_L_law_kind kV_L_law_kind dc_L_law_kind pm_L_law_kind cd_L_law_kind ct_L_law_kind : Value}
    {od_L_law_operations an_L_law_operations : Option Addr} {sl_L_law_operations : Array (Option Value)} {oc_L_law_operations kV_L_law_operations dc_L_law_operations pm_L_law_operations cd_L_law_operations ct_L_law_operations : Value}
    {od_L_law_leaf an_L_law_leaf : Option Addr} {sl_L_law_leaf : Array (Option Value)} {oc_L_law_leaf kV_L_law_leaf dc_L_law_leaf pm_L_law_leaf cd_L_law_leaf ct_L_law_leaf : Value}
    {od_L_law_special an_L_law_special : Option Addr} {sl_L_law_special : Array (Option Value)} {oc_L_law_special kV_L_law_special dc_L_law_special pm_L_law_special cd_L_law_special ct_L_law_special : Value}
    {od_L_law_asking an_L_law_asking : Option Addr} {sl_L_law_asking : Array (Option Value)} {oc_L_law_asking kV_L_law_asking dc_L_law_asking pm_L_law_asking cd_L_law_asking ct_L_law_asking : Value}
    {od_L_law_clause an_L_law_clause : Option Addr} {sl_L_law_clause : Array (Option Value)} {oc_L_law_clause kV_L_law_clause dc_L_law_clause pm_L_law_clause cd_L_law_clause ct_L_law_clause : Value}
    {od_L_law_handling an_L_law_handling : Option Addr} {sl_L_law_handling : Array (Option Value)} {oc_L_law_handling kV_L_law_handling dc_L_law_handling pm_L_law_handling cd_L_law_handling ct_L_law_handling : Value}
    {od_L_law_loop an_L_law_loop : Option Addr} {sl_L_law_loop : Array (Option Value)} {oc_L_law_loop kV_L_law_loop dc_L_law_loop pm_L_law_loop cd_L_law_loop ct_L_law_loop : Value}
    {od_L_law_tree an_L_law_tree : Option Addr} {sl_L_law_tree : Array (Option Value)} {oc_L_law_tree kV_L_law_tree dc_L_law_tree pm_L_law_tree cd_L_law_tree ct_L_law_tree : Value}
    {od_L_law_program an_L_law_program : Option Addr} {sl_L_law_program : Array (Option Value)} {oc_L_law_program kV_L_law_program dc_L_law_program pm_L_law_program cd_L_law_program ct_L_law_program : Value}
    {od_L_law_parts an_L_law_parts : Option Addr} {sl_L_law_parts : Array (Option Value)} {oc_L_law_parts kV_L_law_parts dc_L_law_parts pm_L_law_parts cd_L_law_parts ct_L_law_parts : Value}
    {od_L_law_all an_L_law_all : Option Addr} {sl_L_law_all : Array (Option Value)} {oc_L_law_all kV_L_law_all dc_L_law_all pm_L_law_all cd_L_law_all ct_L_law_all : Value}
    {od_L_law_occurs an_L_law_occurs : Option Addr} {sl_L_law_occurs : Array (Option Value)} {oc_L_law_occurs kV_L_law_occurs dc_L_law_occurs pm_L_law_occurs cd_L_law_occurs ct_L_law_occurs : Value}
    {od_L_law_binds an_L_law_binds : Option Addr} {sl_L_law_binds : Array (Option Value)} {oc_L_law_binds kV_L_law_binds dc_L_law_binds pm_L_law_binds cd_L_law_binds ct_L_law_binds : Value}
    {od_L_law_at_once an_L_law_at_once : Option Addr} {sl_L_law_at_once : Array (Option Value)} {oc_L_law_at_once kV_L_law_at_once dc_L_law_at_once pm_L_law_at_once cd_L_law_at_once ct_L_law_at_once : Value}
    {od_L_law_simple an_L_law_simple : Option Addr} {sl_L_law_simple : Array (Option Value)} {oc_L_law_simple kV_L_law_simple dc_L_law_simple pm_L_law_simple cd_L_law_simple ct_L_law_simple : Value}
    {od_L_law_body an_L_law_body : Option Addr} {sl_L_law_body : Array (Option Value)} {oc_L_law_body kV_L_law_body dc_L_law_body pm_L_law_body cd_L_law_body ct_L_law_body : Value}
    {od_law an_law : Option Addr} {sl_law : Array (Option Value)} {oc_law kV_law dc_law pm_law cd_law ct_law : Value}
    {pF : Addr} {esF : Array DictEntry} {nF : Nat}
    {tdF_num : Tok}
    {tdF_flag : Tok}
    {tdF_unit : Tok}
    {tdF_name : Tok}
    {tdF_call : Tok}
    {tdF_fun : Tok}
    {tdF_rec : Tok}
    {tdF_let : Tok}
    {tdF_if : Tok}
    {tdF_pair : Tok}
    {tdF_fst : Tok}
    {tdF_snd : Tok}
    {tdF_op : Tok}
    {tdF_not : Tok}
    {tdF_print : Tok}
    {tdF_ask : Tok}
    {tdF_kept : Tok}
    {tdF_known : Tok}
    (a_parts : PySem.W.nsIn K mainGlobals "parts" = some (some (.ref f_parts)))
    (l_parts : K.lookup f_parts = some ⟨oc_parts, od_parts, .func (PySem.W.fnOf "parts" "parts" (defArgs g_parts) (defBody g_parts) (defScope g_parts) .none kV_parts dc_parts pm_parts an_parts cd_parts ct_parts), sl_parts⟩)
    (c_parts : PySem.W.codeIn K cd_parts "parts" = true)
    (k_parts : PySem.W.keepIn K (.ref f_parts) = true)
    (a_numbered : PySem.W.nsIn K mainGlobals "numbered" = some (some (.ref f_numbered)))
    (l_numbered : K.lookup f_numbered = some ⟨oc_numbered, od_numbered, .func (PySem.W.fnOf "numbered" "numbered" (defArgs g_numbered) (defBody g_numbered) (defScope g_numbered) .none kV_numbered dc_numbered pm_numbered an_numbered cd_numbered ct_numbered), sl_numbered⟩)
    (c_numbered : PySem.W.codeIn K cd_numbered "numbered" = true)
    (k_numbered : PySem.W.keepIn K (.ref f_numbered) = true)
    (a_bound_in_parts : PySem.W.nsIn K mainGlobals "bound_in_parts" = some (some (.ref f_bound_in_parts)))
    (l_bound_in_parts : K.lookup f_bound_in_parts = some ⟨oc_bound_in_parts, od_bound_in_parts, .func (PySem.W.fnOf "bound_in_parts" "bound_in_parts" (defArgs g_bound_in_parts) (defBody g_bound_in_parts) (defScope g_bound_in_parts) .none kV_bound_in_parts dc_bound_in_parts pm_bound_in_parts an_bound_in_parts cd_bound_in_parts ct_bound_in_parts), sl_bound_in_parts⟩)
    (c_bound_in_parts : PySem.W.codeIn K cd_bound_in_parts "bound_in_parts" = true)
    (k_bound_in_parts : PySem.W.keepIn K (.ref f_bound_in_parts) = true)
    (a_free_names : PySem.W.nsIn K mainGlobals "free_names" = some (some (.ref f_free_names)))
    (l_free_names : K.lookup f_free_names = some ⟨oc_free_names, od_free_names, .func (PySem.W.fnOf "free_names" "free_names" (defArgs g_free_names) (defBody g_free_names) (defScope g_free_names) .none kV_free_names dc_free_names pm_free_names an_free_names cd_free_names ct_free_names), sl_free_names⟩)
    (c_free_names : PySem.W.codeIn K cd_free_names "free_names" = true)
    (k_free_names : PySem.W.keepIn K (.ref f_free_names) = true)
    (a_note_free_names : PySem.W.nsIn K mainGlobals "note_free_names" = some (some (.ref f_note_free_names)))
    (l_note_free_names : K.lookup f_note_free_names = some ⟨oc_note_free_names, od_note_free_names, .func (PySem.W.fnOf "note_free_names" "note_free_names" (defArgs g_note_free_names) (defBody g_note_free_names) (defScope g_note_free_names) .none kV_note_free_names dc_note_free_names pm_note_free_names an_note_free_names cd_note_free_names ct_note_free_names), sl_note_free_names⟩)
    (c_note_free_names : PySem.W.codeIn K cd_note_free_names "note_free_names" = true)
    (k_note_free_names : PySem.W.keepIn K (.ref f_note_free_names) = true)
    (a_answers_at_once : PySem.W.nsIn K mainGlobals "answers_at_once" = some (some (.ref f_answers_at_once)))
    (l_answers_at_once : K.lookup f_answers_at_once = some ⟨oc_answers_at_once, od_answers_at_once, .func (PySem.W.fnOf "answers_at_once" "answers_at_once" (defArgs g_answers_at_once) (defBody g_answers_at_once) (defScope g_answers_at_once) .none kV_answers_at_once dc_answers_at_once pm_answers_at_once an_answers_at_once cd_answers_at_once ct_answers_at_once), sl_answers_at_once⟩)
    (c_answers_at_once : PySem.W.codeIn K cd_answers_at_once "answers_at_once" = true)
    (k_answers_at_once : PySem.W.keepIn K (.ref f_answers_at_once) = true)
    (a_keeps_nothing : PySem.W.nsIn K mainGlobals "keeps_nothing" = some (some (.ref f_keeps_nothing)))
    (l_keeps_nothing : K.lookup f_keeps_nothing = some ⟨oc_keeps_nothing, od_keeps_nothing, .func (PySem.W.fnOf "keeps_nothing" "keeps_nothing" (defArgs g_keeps_nothing) (defBody g_keeps_nothing) (defScope g_keeps_nothing) .none kV_keeps_nothing dc_keeps_nothing pm_keeps_nothing an_keeps_nothing cd_keeps_nothing ct_keeps_nothing), sl_keeps_nothing⟩)
    (c_keeps_nothing : PySem.W.codeIn K cd_keeps_nothing "keeps_nothing" = true)
    (k_keeps_nothing : PySem.W.keepIn K (.ref f_keeps_nothing) = true)
    (a_calls_last : PySem.W.nsIn K mainGlobals "calls_last" = some (some (.ref f_calls_last)))
    (l_calls_last : K.lookup f_calls_last = some ⟨oc_calls_last, od_calls_last, .func (PySem.W.fnOf "calls_last" "calls_last" (defArgs g_calls_last) (defBody g_calls_last) (defScope g_calls_last) .none kV_calls_last dc_calls_last pm_calls_last an_calls_last cd_calls_last ct_calls_last), sl_calls_last⟩)
    (c_calls_last : PySem.W.codeIn K cd_calls_last "calls_last" = true)
    (k_calls_last : PySem.W.keepIn K (.ref f_calls_last) = true)
    (a_without : PySem.W.nsIn K mainGlobals "without" = some (some (.ref f_without)))
    (l_without : K.lookup f_without = some ⟨oc_without, od_without, .func (PySem.W.fnOf "without" "without" (defArgs g_without) (defBody g_without) (defScope g_without) .none kV_without dc_without pm_without an_without cd_without ct_without), sl_without⟩)
    (c_without : PySem.W.codeIn K cd_without "without" = true)
    (k_without : PySem.W.keepIn K (.ref f_without) = true)
    (a_L_law_state : PySem.W.nsIn K mainGlobals "_law_state" = some (some (.ref f_L_law_state)))
    (l_L_law_state : K.lookup f_L_law_state = some ⟨oc_L_law_state, od_L_law_state, .func (PySem.W.fnOf "_law_state" "_law_state" (defArgs g__law_state) (defBody g__law_state) (defScope g__law_state) .none kV_L_law_state dc_L_law_state pm_L_law_state an_L_law_state cd_L_law_state ct_L_law_state), sl_L_law_state⟩)
    (c_L_law_state : PySem.W.codeIn K cd_L_law_state "_law_state" = true)
    (k_L_law_state : PySem.W.keepIn K (.ref f_L_law_state) = true)
    (a_L_law_take : PySem.W.nsIn K mainGlobals "_law_take" = some (some (.ref f_L_law_take)))
    (l_L_law_take : K.lookup f_L_law_take = some ⟨oc_L_law_take, od_L_law_take, .func (PySem.W.fnOf "_law_take" "_law_take" (defArgs g__law_take) (defBody g__law_take) (defScope g__law_take) .none kV_L_law_take dc_L_law_take pm_L_law_take an_L_law_take cd_L_law_take ct_L_law_take), sl_L_law_take⟩)
    (c_L_law_take : PySem.W.codeIn K cd_L_law_take "_law_take" = true)
    (k_L_law_take : PySem.W.keepIn K (.ref f_L_law_take) = true)
    (a_L_law_kind : PySem.W.nsIn K mainGlobals "_law_kind" = some (some (.ref f_L_law_kind)))
    (l_L_law_kind : K.lookup f_L_law_kind = some ⟨oc_L_law_kind, od_L_law_kind, .func (PySem.W.fnOf "_law_kind" "_law_kind" (defArgs g__law_kind) (defBody g__law_kind) (defScope g__law_kind) .none kV_L_law_kind dc_L_law_kind pm_L_law_kind an_L_law_kind cd_L_law_kind ct_L_law_kind), sl_L_law_kind⟩)
    (c_L_law_kind : PySem.W.codeIn K cd_L_law_kind "_law_kind" = true)
    (k_L_law_kind : PySem.W.keepIn K (.ref f_L_law_kind) = true)
    (a_L_law_operations : PySem.W.nsIn K mainGlobals "_law_operations" = some (some (.ref f_L_law_operations)))
    (l_L_law_operations : K.lookup f_L_law_operations = some ⟨oc_L_law_operations, od_L_law_operations, .func (PySem.W.fnOf "_law_operations" "_law_operations" (defArgs g__law_operations) (defBody g__law_operations) (defScope g__law_operations) .none kV_L_law_operations dc_L_law_operations pm_L_law_operations an_L_law_operations cd_L_law_operations ct_L_law_operations), sl_L_law_operations⟩)
    (c_L_law_operations : PySem.W.codeIn K cd_L_law_operations "_law_operations" = true)
    (k_L_law_operations : PySem.W.keepIn K (.ref f_L_law_operations) = true)
    (a_L_law_leaf : PySem.W.nsIn K mainGlobals "_law_leaf" = some (some (.ref f_L_law_leaf)))
    (l_L_law_leaf : K.lookup f_L_law_leaf = some ⟨oc_L_law_leaf, od_L_law_leaf, .func (PySem.W.fnOf "_law_leaf" "_law_leaf" (defArgs g__law_leaf) (defBody g__law_leaf) (defScope g__law_leaf) .none kV_L_law_leaf dc_L_law_leaf pm_L_law_leaf an_L_law_leaf cd_L_law_leaf ct_L_law_leaf), sl_L_law_leaf⟩)
    (c_L_law_leaf : PySem.W.codeIn K cd_L_law_leaf "_law_leaf" = true)
    (k_L_law_leaf : PySem.W.keepIn K (.ref f_L_law_leaf) = true)
    (a_L_law_special : PySem.W.nsIn K mainGlobals "_law_special" = some (some (.ref f_L_law_special)))
    (l_L_law_special : K.lookup f_L_law_special = some ⟨oc_L_law_special, od_L_law_special, .func (PySem.W.fnOf "_law_special" "_law_special" (defArgs g__law_special) (defBody g__law_special) (defScope g__law_special) .none kV_L_law_special dc_L_law_special pm_L_law_special an_L_law_special cd_L_law_special ct_L_law_special), sl_L_law_special⟩)
    (c_L_law_special : PySem.W.codeIn K cd_L_law_special "_law_special" = true)
    (k_L_law_special : PySem.W.keepIn K (.ref f_L_law_special) = true)
    (a_L_law_asking : PySem.W.nsIn K mainGlobals "_law_asking" = some (some (.ref f_L_law_asking)))
    (l_L_law_asking : K.lookup f_L_law_asking = some ⟨oc_L_law_asking, od_L_law_asking, .func (PySem.W.fnOf "_law_asking" "_law_asking" (defArgs g__law_asking) (defBody g__law_asking) (defScope g__law_asking) .none kV_L_law_asking dc_L_law_asking pm_L_law_asking an_L_law_asking cd_L_law_asking ct_L_law_asking), sl_L_law_asking⟩)
    (c_L_law_asking : PySem.W.codeIn K cd_L_law_asking "_law_asking" = true)
    (k_L_law_asking : PySem.W.keepIn K (.ref f_L_law_asking) = true)
    (a_L_law_clause : PySem.W.nsIn K mainGlobals "_law_clause" = some (some (.ref f_L_law_clause)))
    (l_L_law_clause : K.lookup f_L_law_clause = some ⟨oc_L_law_clause, od_L_law_clause, .func (PySem.W.fnOf "_law_clause" "_law_clause" (defArgs g__law_clause) (defBody g__law_clause) (defScope g__law_clause) .none kV_L_law_clause dc_L_law_clause pm_L_law_clause an_L_law_clause cd_L_law_clause ct_L_law_clause), sl_L_law_clause⟩)
    (c_L_law_clause : PySem.W.codeIn K cd_L_law_clause "_law_clause" = true)
    (k_L_law_clause : PySem.W.keepIn K (.ref f_L_law_clause) = true)
    (a_L_law_handling : PySem.W.nsIn K mainGlobals "_law_handling" = some (some (.ref f_L_law_handling)))
    (l_L_law_handling : K.lookup f_L_law_handling = some ⟨oc_L_law_handling, od_L_law_handling, .func (PySem.W.fnOf "_law_handling" "_law_handling" (defArgs g__law_handling) (defBody g__law_handling) (defScope g__law_handling) .none kV_L_law_handling dc_L_law_handling pm_L_law_handling an_L_law_handling cd_L_law_handling ct_L_law_handling), sl_L_law_handling⟩)
    (c_L_law_handling : PySem.W.codeIn K cd_L_law_handling "_law_handling" = true)
    (k_L_law_handling : PySem.W.keepIn K (.ref f_L_law_handling) = true)
    (a_L_law_loop : PySem.W.nsIn K mainGlobals "_law_loop" = some (some (.ref f_L_law_loop)))
    (l_L_law_loop : K.lookup f_L_law_loop = some ⟨oc_L_law_loop, od_L_law_loop, .func (PySem.W.fnOf "_law_loop" "_law_loop" (defArgs g__law_loop) (defBody g__law_loop) (defScope g__law_loop) .none kV_L_law_loop dc_L_law_loop pm_L_law_loop an_L_law_loop cd_L_law_loop ct_L_law_loop), sl_L_law_loop⟩)
    (c_L_law_loop : PySem.W.codeIn K cd_L_law_loop "_law_loop" = true)
    (k_L_law_loop : PySem.W.keepIn K (.ref f_L_law_loop) = true)
    (a_L_law_tree : PySem.W.nsIn K mainGlobals "_law_tree" = some (some (.ref f_L_law_tree)))
    (l_L_law_tree : K.lookup f_L_law_tree = some ⟨oc_L_law_tree, od_L_law_tree, .func (PySem.W.fnOf "_law_tree" "_law_tree" (defArgs g__law_tree) (defBody g__law_tree) (defScope g__law_tree) .none kV_L_law_tree dc_L_law_tree pm_L_law_tree an_L_law_tree cd_L_law_tree ct_L_law_tree), sl_L_law_tree⟩)
    (c_L_law_tree : PySem.W.codeIn K cd_L_law_tree "_law_tree" = true)
    (k_L_law_tree : PySem.W.keepIn K (.ref f_L_law_tree) = true)
    (a_L_law_program : PySem.W.nsIn K mainGlobals "_law_program" = some (some (.ref f_L_law_program)))
    (l_L_law_program : K.lookup f_L_law_program = some ⟨oc_L_law_program, od_L_law_program, .func (PySem.W.fnOf "_law_program" "_law_program" (defArgs g__law_program) (defBody g__law_program) (defScope g__law_program) .none kV_L_law_program dc_L_law_program pm_L_law_program an_L_law_program cd_L_law_program ct_L_law_program), sl_L_law_program⟩)
    (c_L_law_program : PySem.W.codeIn K cd_L_law_program "_law_program" = true)
    (k_L_law_program : PySem.W.keepIn K (.ref f_L_law_program) = true)
    (a_L_law_parts : PySem.W.nsIn K mainGlobals "_law_parts" = some (some (.ref f_L_law_parts)))
    (l_L_law_parts : K.lookup f_L_law_parts = some ⟨oc_L_law_parts, od_L_law_parts, .func (PySem.W.fnOf "_law_parts" "_law_parts" (defArgs g__law_parts) (defBody g__law_parts) (defScope g__law_parts) .none kV_L_law_parts dc_L_law_parts pm_L_law_parts an_L_law_parts cd_L_law_parts ct_L_law_parts), sl_L_law_parts⟩)
    (c_L_law_parts : PySem.W.codeIn K cd_L_law_parts "_law_parts" = true)
    (k_L_law_parts : PySem.W.keepIn K (.ref f_L_law_parts) = true)
    (a_L_law_all : PySem.W.nsIn K mainGlobals "_law_all" = some (some (.ref f_L_law_all)))
    (l_L_law_all : K.lookup f_L_law_all = some ⟨oc_L_law_all, od_L_law_all, .func (PySem.W.fnOf "_law_all" "_law_all" (defArgs g__law_all) (defBody g__law_all) (defScope g__law_all) .none kV_L_law_all dc_L_law_all pm_L_law_all an_L_law_all cd_L_law_all ct_L_law_all), sl_L_law_all⟩)
    (c_L_law_all : PySem.W.codeIn K cd_L_law_all "_law_all" = true)
    (k_L_law_all : PySem.W.keepIn K (.ref f_L_law_all) = true)
    (a_L_law_occurs : PySem.W.nsIn K mainGlobals "_law_occurs" = some (some (.ref f_L_law_occurs)))
    (l_L_law_occurs : K.lookup f_L_law_occurs = some ⟨oc_L_law_occurs, od_L_law_occurs, .func (PySem.W.fnOf "_law_occurs" "_law_occurs" (defArgs g__law_occurs) (defBody g__law_occurs) (defScope g__law_occurs) .none kV_L_law_occurs dc_L_law_occurs pm_L_law_occurs an_L_law_occurs cd_L_law_occurs ct_L_law_occurs), sl_L_law_occurs⟩)
    (c_L_law_occurs : PySem.W.codeIn K cd_L_law_occurs "_law_occurs" = true)
    (k_L_law_occurs : PySem.W.keepIn K (.ref f_L_law_occurs) = true)
    (a_L_law_binds : PySem.W.nsIn K mainGlobals "_law_binds" = some (some (.ref f_L_law_binds)))
    (l_L_law_binds : K.lookup f_L_law_binds = some ⟨oc_L_law_binds, od_L_law_binds, .func (PySem.W.fnOf "_law_binds" "_law_binds" (defArgs g__law_binds) (defBody g__law_binds) (defScope g__law_binds) .none kV_L_law_binds dc_L_law_binds pm_L_law_binds an_L_law_binds cd_L_law_binds ct_L_law_binds), sl_L_law_binds⟩)
    (c_L_law_binds : PySem.W.codeIn K cd_L_law_binds "_law_binds" = true)
    (k_L_law_binds : PySem.W.keepIn K (.ref f_L_law_binds) = true)
    (a_L_law_at_once : PySem.W.nsIn K mainGlobals "_law_at_once" = some (some (.ref f_L_law_at_once)))
    (l_L_law_at_once : K.lookup f_L_law_at_once = some ⟨oc_L_law_at_once, od_L_law_at_once, .func (PySem.W.fnOf "_law_at_once" "_law_at_once" (defArgs g__law_at_once) (defBody g__law_at_once) (defScope g__law_at_once) .none kV_L_law_at_once dc_L_law_at_once pm_L_law_at_once an_L_law_at_once cd_L_law_at_once ct_L_law_at_once), sl_L_law_at_once⟩)
    (c_L_law_at_once : PySem.W.codeIn K cd_L_law_at_once "_law_at_once" = true)
    (k_L_law_at_once : PySem.W.keepIn K (.ref f_L_law_at_once) = true)
    (a_L_law_simple : PySem.W.nsIn K mainGlobals "_law_simple" = some (some (.ref f_L_law_simple)))
    (l_L_law_simple : K.lookup f_L_law_simple = some ⟨oc_L_law_simple, od_L_law_simple, .func (PySem.W.fnOf "_law_simple" "_law_simple" (defArgs g__law_simple) (defBody g__law_simple) (defScope g__law_simple) .none kV_L_law_simple dc_L_law_simple pm_L_law_simple an_L_law_simple cd_L_law_simple ct_L_law_simple), sl_L_law_simple⟩)
    (c_L_law_simple : PySem.W.codeIn K cd_L_law_simple "_law_simple" = true)
    (k_L_law_simple : PySem.W.keepIn K (.ref f_L_law_simple) = true)
    (a_L_law_body : PySem.W.nsIn K mainGlobals "_law_body" = some (some (.ref f_L_law_body)))
    (l_L_law_body : K.lookup f_L_law_body = some ⟨oc_L_law_body, od_L_law_body, .func (PySem.W.fnOf "_law_body" "_law_body" (defArgs g__law_body) (defBody g__law_body) (defScope g__law_body) .none kV_L_law_body dc_L_law_body pm_L_law_body an_L_law_body cd_L_law_body ct_L_law_body), sl_L_law_body⟩)
    (c_L_law_body : PySem.W.codeIn K cd_L_law_body "_law_body" = true)
    (k_L_law_body : PySem.W.keepIn K (.ref f_L_law_body) = true)
    (a_law : PySem.W.nsIn K mainGlobals "law" = some (some (.ref f_law)))
    (l_law : K.lookup f_law = some ⟨oc_law, od_law, .func (PySem.W.fnOf "law" "law" (defArgs g_law) (defBody g_law) (defScope g_law) .none kV_law dc_law pm_law an_law cd_law ct_law), sl_law⟩)
    (c_law : PySem.W.codeIn K cd_law "law" = true)
    (k_law : PySem.W.keepIn K (.ref f_law) = true)
    (z_len : PySem.W.nsIn K mainGlobals "len" = some (none))
    (z_range : PySem.W.nsIn K mainGlobals "range" = some (none))
    (z_list : PySem.W.nsIn K mainGlobals "list" = some (none))
    (z_tuple : PySem.W.nsIn K mainGlobals "tuple" = some (none))
    (z_zip : PySem.W.nsIn K mainGlobals "zip" = some (none))
    (z_sorted : PySem.W.nsIn K mainGlobals "sorted" = some (none))
    (z_str : PySem.W.nsIn K mainGlobals "str" = some (none))
    (z_abs : PySem.W.nsIn K mainGlobals "abs" = some (none))
    (z_int : PySem.W.nsIn K mainGlobals "int" = some (none))
    (z_isinstance : PySem.W.nsIn K mainGlobals "isinstance" = some (none))
    (z_bool : PySem.W.nsIn K mainGlobals "bool" = some (none))
    (z_all : PySem.W.nsIn K mainGlobals "all" = some (none))
    (gF : PySem.W.nsIn K mainGlobals "FIRST_PART" = some (some (.ref pF)))
    (DF : K.lookup pF = some ⟨.type "dict", none, .dict esF nF, #[]⟩)
    (KF : PySem.W.KeysLit w.params esF.toList)
    (dF_num : PySem.W.nsIn K pF "num" = some (some (.int 2 tdF_num)))
    (dF_flag : PySem.W.nsIn K pF "flag" = some (some (.int 2 tdF_flag)))
    (dF_unit : PySem.W.nsIn K pF "unit" = some (some (.int 1 tdF_unit)))
    (dF_name : PySem.W.nsIn K pF "name" = some (some (.int 2 tdF_name)))
    (dF_call : PySem.W.nsIn K pF "call" = some (some (.int 1 tdF_call)))
    (dF_fun : PySem.W.nsIn K pF "fun" = some (some (.int 2 tdF_fun)))
    (dF_rec : PySem.W.nsIn K pF "rec" = some (some (.int 3 tdF_rec)))
    (dF_let : PySem.W.nsIn K pF "let" = some (some (.int 2 tdF_let)))
    (dF_if : PySem.W.nsIn K pF "if" = some (some (.int 1 tdF_if)))
    (dF_pair : PySem.W.nsIn K pF "pair" = some (some (.int 1 tdF_pair)))
    (dF_fst : PySem.W.nsIn K pF "fst" = some (some (.int 1 tdF_fst)))
    (dF_snd : PySem.W.nsIn K pF "snd" = some (some (.int 1 tdF_snd)))
    (dF_op : PySem.W.nsIn K pF "op" = some (some (.int 2 tdF_op)))
    (dF_not : PySem.W.nsIn K pF "not" = some (some (.int 1 tdF_not)))
    (dF_print : PySem.W.nsIn K pF "print" = some (some (.int 1 tdF_print)))
    (dF_ask : PySem.W.nsIn K pF "ask" = some (some (.int 2 tdF_ask)))
    (dF_kept : PySem.W.nsIn K pF "kept" = some (some (.int 2 tdF_kept)))
    (dF_known : PySem.W.nsIn K pF "known" = some (some (.int 2 tdF_known))) :
    ∃ fd : FuncData, (∀ (s : Shared) (v : Value), BindsTo s fd ⟨[v], []⟩ [("script", v)]) ∧ ∀ base : Heap, K.In base → base.Ns mainGlobals mg → FnOk l.prog w K mg base CX0 129 fa fd ["script"] (spLaw K) := by
  have e := hfa.symm.trans (PySem.W.mg_of X G a_law)
  cases e
  have F_parts := fun_mk (st := g_parts) l_parts c_parts k_parts
  have b_parts := F_parts.binds (ps := ["expression"]) fun _ _ _ _ _ _ us hl => match us, hl with | [_], _ => rfl
  have F_numbered := fun_mk (st := g_numbered) l_numbered c_numbered k_numbered
  have b_numbered := F_numbered.binds (ps := ["expression"]) fun _ _ _ _ _ _ us hl => match us, hl with | [_], _ => rfl
  have F_bound_in_parts := fun_mk (st := g_bound_in_parts) l_bound_in_parts c_bound_in_parts k_bound_in_parts
  have b_bound_in_parts := F_bound_in_parts.binds (ps := ["expression"]) fun _ _ _ _ _ _ us hl => match us, hl with | [_], _ => rfl
  have F_free_names := fun_mk (st := g_free_names) l_free_names c_free_names k_free_names
  have b_free_names := F_free_names.binds (ps := ["expression"]) fun _ _ _ _ _ _ us hl => match us, hl with | [_], _ => rfl
  have F_note_free_names := fun_mk (st := g_note_free_names) l_note_free_names c_note_free_names k_note_free_names
  have b_note_free_names := F_note_free_names.binds (ps := ["expression", "bound", "found"]) fun _ _ _ _ _ _ us hl => match us, hl with | [_, _, _], _ => rfl
  have F_answers_at_once := fun_mk (st := g_answers_at_once) l_answers_at_once c_answers_at_once k_answers_at_once
  have b_answers_at_once := F_answers_at_once.binds (ps := ["clause"]) fun _ _ _ _ _ _ us hl => match us, hl with | [_], _ => rfl
  have F_keeps_nothing := fun_mk (st := g_keeps_nothing) l_keeps_nothing c_keeps_nothing k_keeps_nothing
  have b_keeps_nothing := F_keeps_nothing.binds (ps := ["expression"]) fun _ _ _ _ _ _ us hl => match us, hl with | [_], _ => rfl
  have F_calls_last := fun_mk (st := g_calls_last) l_calls_last c_calls_last k_calls_last
  have b_calls_last := F_calls_last.binds (ps := ["expression", "name"]) fun _ _ _ _ _ _ us hl => match us, hl with | [_, _], _ => rfl
  have F_without := fun_mk (st := g_without) l_without c_without k_without
  have b_without := F_without.binds (ps := ["expression", "name"]) fun _ _ _ _ _ _ us hl => match us, hl with | [_, _], _ => rfl
  have F_L_law_state := fun_mk (st := g__law_state) l_L_law_state c_L_law_state k_L_law_state
  have b_L_law_state := F_L_law_state.binds (ps := ["script"]) fun _ _ _ _ _ _ us hl => match us, hl with | [_], _ => rfl
  have F_L_law_take := fun_mk (st := g__law_take) l_L_law_take c_L_law_take k_L_law_take
  have b_L_law_take := F_L_law_take.binds (ps := ["state", "most"]) fun _ _ _ _ _ _ us hl => match us, hl with | [_, _], _ => rfl
  have F_L_law_kind := fun_mk (st := g__law_kind) l_L_law_kind c_L_law_kind k_L_law_kind
  have b_L_law_kind := F_L_law_kind.binds (ps := ["state", "depth"]) fun _ _ _ _ _ _ us hl => match us, hl with | [_, _], _ => rfl
  have F_L_law_operations := fun_mk (st := g__law_operations) l_L_law_operations c_L_law_operations k_L_law_operations
  have b_L_law_operations := F_L_law_operations.binds (ps := ["state"]) fun _ _ _ _ _ _ us hl => match us, hl with | [_], _ => rfl
  have F_L_law_leaf := fun_mk (st := g__law_leaf) l_L_law_leaf c_L_law_leaf k_L_law_leaf
  have b_L_law_leaf := F_L_law_leaf.binds (ps := ["state", "known", "wanted"]) fun _ _ _ _ _ _ us hl => match us, hl with | [_, _, _], _ => rfl
  have F_L_law_special := fun_mk (st := g__law_special) l_L_law_special c_L_law_special k_L_law_special
  have b_L_law_special := F_L_law_special.binds (ps := ["state", "ops", "known", "wanted", "depth"]) fun _ _ _ _ _ _ us hl => match us, hl with | [_, _, _, _, _], _ => rfl
  have F_L_law_asking := fun_mk (st := g__law_asking) l_L_law_asking c_L_law_asking k_L_law_asking
  have b_L_law_asking := F_L_law_asking.binds (ps := ["state", "ops", "known", "wanted", "depth"]) fun _ _ _ _ _ _ us hl => match us, hl with | [_, _, _, _, _], _ => rfl
  have F_L_law_clause := fun_mk (st := g__law_clause) l_L_law_clause c_L_law_clause k_L_law_clause
  have b_L_law_clause := F_L_law_clause.binds (ps := ["state", "ops", "known", "wanted", "depth", "operation"]) fun _ _ _ _ _ _ us hl => match us, hl with | [_, _, _, _, _, _], _ => rfl
  have F_L_law_handling := fun_mk (st := g__law_handling) l_L_law_handling c_L_law_handling k_L_law_handling
  have b_L_law_handling := F_L_law_handling.binds (ps := ["state", "ops", "known", "wanted", "depth"]) fun _ _ _ _ _ _ us hl => match us, hl with | [_, _, _, _, _], _ => rfl
  have F_L_law_loop := fun_mk (st := g__law_loop) l_L_law_loop c_L_law_loop k_L_law_loop
  have b_L_law_loop := F_L_law_loop.binds (ps := ["state", "ops", "known", "wanted", "depth"]) fun _ _ _ _ _ _ us hl => match us, hl with | [_, _, _, _, _], _ => rfl
  have F_L_law_tree := fun_mk (st := g__law_tree) l_L_law_tree c_L_law_tree k_L_law_tree
  have b_L_law_tree := F_L_law_tree.binds (ps := ["state", "ops", "known", "wanted", "depth"]) fun _ _ _ _ _ _ us hl => match us, hl with | [_, _, _, _, _], _ => rfl
  have F_L_law_program := fun_mk (st := g__law_program) l_L_law_program c_L_law_program k_L_law_program
  have b_L_law_program := F_L_law_program.binds (ps := ["state"]) fun _ _ _ _ _ _ us hl => match us, hl with | [_], _ => rfl
  have F_L_law_parts := fun_mk (st := g__law_parts) l_L_law_parts c_L_law_parts k_L_law_parts
  have b_L_law_parts := F_L_law_parts.binds (ps := ["tree"]) fun _ _ _ _ _ _ us hl => match us, hl with | [_], _ => rfl
  have F_L_law_all := fun_mk (st := g__law_all) l_L_law_all c_L_law_all k_L_law_all
  have b_L_law_all := F_L_law_all.binds (ps := ["tree"]) fun _ _ _ _ _ _ us hl => match us, hl with | [_], _ => rfl
  have F_L_law_occurs := fun_mk (st := g__law_occurs) l_L_law_occurs c_L_law_occurs k_L_law_occurs
  have b_L_law_occurs := F_L_law_occurs.binds (ps := ["tree", "name"]) fun _ _ _ _ _ _ us hl => match us, hl with | [_, _], _ => rfl
  have F_L_law_binds := fun_mk (st := g__law_binds) l_L_law_binds c_L_law_binds k_L_law_binds
  have b_L_law_binds := F_L_law_binds.binds (ps := ["tree", "k"]) fun _ _ _ _ _ _ us hl => match us, hl with | [_, _], _ => rfl
  have F_L_law_at_once := fun_mk (st := g__law_at_once) l_L_law_at_once c_L_law_at_once k_L_law_at_once
  have b_L_law_at_once := F_L_law_at_once.binds (ps := ["tree", "kept"]) fun _ _ _ _ _ _ us hl => match us, hl with | [_, _], _ => rfl
  have F_L_law_simple := fun_mk (st := g__law_simple) l_L_law_simple c_L_law_simple k_L_law_simple
  have b_L_law_simple := F_L_law_simple.binds (ps := ["state"]) fun _ _ _ _ _ _ us hl => match us, hl with | [_], _ => rfl
  have F_L_law_body := fun_mk (st := g__law_body) l_L_law_body c_L_law_body k_L_law_body
  have b_L_law_body := F_L_law_body.binds (ps := ["state", "depth"]) fun _ _ _ _ _ _ us hl => match us, hl with | [_, _], _ => rfl
  have F_law := fun_mk (st := g_law) l_law c_law k_law
  have b_law := F_law.binds (ps := ["script"]) fun _ _ _ _ _ _ us hl => match us, hl with | [_], _ => rfl
  have TF : FpTxt K w mg pF := ⟨(PySem.W.mg_of X G gF), fun x k hk => by
    have key : ∀ (y : Str) (i : Nat) (tk : Tok), PySem.W.nsIn K pF y = some (some (.int (i : Nat) tk)) → KDct K w pF y (.int (i : Nat)) := fun y i tk hn => ⟨esF, nF, _, DF, KF, hn, ⟨tk, rfl⟩⟩
    unfold fpTab at hk
    rw [List.lookup_cons] at hk
    by_cases e_num : x = "num"
    · rw [e_num] at hk ⊢
      cases (show some 2 = some k from hk)
      exact key _ _ _ dF_num
    rw [show (x == (Str.ofString "num")) = false from beq_false_of_ne e_num] at hk
    simp only [] at hk
    rw [List.lookup_cons] at hk
    by_cases e_flag : x = "flag"
    · rw [e_flag] at hk ⊢
      cases (show some 2 = some k from hk)
      exact key _ _ _ dF_flag
    rw [show (x == (Str.ofString "flag")) = false from beq_false_of_ne e_flag] at hk
    simp only [] at hk
    rw [List.lookup_cons] at hk
    by_cases e_unit : x = "unit"
    · rw [e_unit] at hk ⊢
      cases (show some 1 = some k from hk)
      exact key _ _ _ dF_unit
    rw [show (x == (Str.ofString "unit")) = false from beq_false_of_ne e_unit] at hk
    simp only [] at hk
    rw [List.lookup_cons] at hk
    by_cases e_name : x = "name"
    · rw [e_name] at hk ⊢
      cases (show some 2 = some k from hk)
      exact key _ _ _ dF_name
    rw [show (x == (Str.ofString "name")) = false from beq_false_of_ne e_name] at hk
    simp only [] at hk
    rw [List.lookup_cons] at hk
    by_cases e_call : x = "call"
    · rw [e_call] at hk ⊢
      cases (show some 1 = some k from hk)
      exact key _ _ _ dF_call
    rw [show (x == (Str.ofString "call")) = false from beq_false_of_ne e_call] at hk
    simp only [] at hk
    rw [List.lookup_cons] at hk
    by_cases e_fun : x = "fun"
    · rw [e_fun] at hk ⊢
      cases (show some 2 = some k from hk)
      exact key _ _ _ dF_fun
    rw [show (x == (Str.ofString "fun")) = false from beq_false_of_ne e_fun] at hk
    simp only [] at hk
    rw [List.lookup_cons] at hk
    by_cases e_rec : x = "rec"
    · rw [e_rec] at hk ⊢
      cases (show some 3 = some k from hk)
      exact key _ _ _ dF_rec
    rw [show (x == (Str.ofString "rec")) = false from beq_false_of_ne e_rec] at hk
    simp only [] at hk
    rw [List.lookup_cons] at hk
    by_cases e_let : x = "let"
    · rw [e_let] at hk ⊢
      cases (show some 2 = some k from hk)
      exact key _ _ _ dF_let
    rw [show (x == (Str.ofString "let")) = false from beq_false_of_ne e_let] at hk
    simp only [] at hk
    rw [List.lookup_cons] at hk
    by_cases e_if : x = "if"
    · rw [e_if] at hk ⊢
      cases (show some 1 = some k from hk)
      exact key _ _ _ dF_if
    rw [show (x == (Str.ofString "if")) = false from beq_false_of_ne e_if] at hk
    simp only [] at hk
    rw [List.lookup_cons] at hk
    by_cases e_pair : x = "pair"
    · rw [e_pair] at hk ⊢
      cases (show some 1 = some k from hk)
      exact key _ _ _ dF_pair
    rw [show (x == (Str.ofString "pair")) = false from beq_false_of_ne e_pair] at hk
    simp only [] at hk
    rw [List.lookup_cons] at hk
    by_cases e_fst : x = "fst"
    · rw [e_fst] at hk ⊢
      cases (show some 1 = some k from hk)
      exact key _ _ _ dF_fst
    rw [show (x == (Str.ofString "fst")) = false from beq_false_of_ne e_fst] at hk
    simp only [] at hk
    rw [List.lookup_cons] at hk
    by_cases e_snd : x = "snd"
    · rw [e_snd] at hk ⊢
      cases (show some 1 = some k from hk)
      exact key _ _ _ dF_snd
    rw [show (x == (Str.ofString "snd")) = false from beq_false_of_ne e_snd] at hk
    simp only [] at hk
    rw [List.lookup_cons] at hk
    by_cases e_op : x = "op"
    · rw [e_op] at hk ⊢
      cases (show some 2 = some k from hk)
      exact key _ _ _ dF_op
    rw [show (x == (Str.ofString "op")) = false from beq_false_of_ne e_op] at hk
    simp only [] at hk
    rw [List.lookup_cons] at hk
    by_cases e_not : x = "not"
    · rw [e_not] at hk ⊢
      cases (show some 1 = some k from hk)
      exact key _ _ _ dF_not
    rw [show (x == (Str.ofString "not")) = false from beq_false_of_ne e_not] at hk
    simp only [] at hk
    rw [List.lookup_cons] at hk
    by_cases e_print : x = "print"
    · rw [e_print] at hk ⊢
      cases (show some 1 = some k from hk)
      exact key _ _ _ dF_print
    rw [show (x == (Str.ofString "print")) = false from beq_false_of_ne e_print] at hk
    simp only [] at hk
    rw [List.lookup_cons] at hk
    by_cases e_ask : x = "ask"
    · rw [e_ask] at hk ⊢
      cases (show some 2 = some k from hk)
      exact key _ _ _ dF_ask
    rw [show (x == (Str.ofString "ask")) = false from beq_false_of_ne e_ask] at hk
    simp only [] at hk
    rw [List.lookup_cons] at hk
    by_cases e_kept : x = "kept"
    · rw [e_kept] at hk ⊢
      cases (show some 2 = some k from hk)
      exact key _ _ _ dF_kept
    rw [show (x == (Str.ofString "kept")) = false from beq_false_of_ne e_kept] at hk
    simp only [] at hk
    rw [List.lookup_cons] at hk
    by_cases e_known : x = "known"
    · rw [e_known] at hk ⊢
      cases (show some 2 = some k from hk)
      exact key _ _ _ dF_known
    rw [show (x == (Str.ofString "known")) = false from beq_false_of_ne e_known] at hk
    simp only [] at hk
    cases hk⟩
  refine ⟨PySem.W.fnOf "law" "law" (defArgs g_law) (defBody g_law) (defScope g_law) .none kV_law dc_law pm_law an_law cd_law ct_law, fun s v => .of_eq rfl, fun base _ _ => ?_⟩
  have G_parts : Fn l.prog w K mg base CX0 1 "parts" p_parts spParts f_parts _ := ⟨ok_parts F_parts TF (PySem.W.mg_none_of X G z_list), (PySem.W.mg_of X G a_parts), k_parts, b_parts⟩
  have G_numbered : Fn l.prog w K mg base CX0 2 "numbered" p_numbered spNumb f_numbered _ := ⟨ok_numb F_numbered G_parts, (PySem.W.mg_of X G a_numbered), k_numbered, b_numbered⟩
  have G_bound_in_parts : Fn l.prog w K mg base CX0 2 "bound_in_parts" p_bound_in_parts spBnd f_bound_in_parts _ := ⟨ok_bnd F_bound_in_parts G_parts, (PySem.W.mg_of X G a_bound_in_parts), k_bound_in_parts, b_bound_in_parts⟩
  have G_note_free_names : Fn l.prog w K mg base CX0 63 "note_free_names" p_note_free_names (spNote 60) f_note_free_names _ := note_up (P := l.prog) (base := base) F_note_free_names (PySem.W.mg_none_of X G z_zip) G_parts G_bound_in_parts (PySem.W.mg_of X G a_note_free_names) k_note_free_names b_note_free_names 60
  have G_free_names : Fn l.prog w K mg base CX0 (60 + 4) "free_names" p_free_names (spFree 60) f_free_names _ := ⟨ok_free (n := 60) F_free_names (PySem.W.mg_none_of X G z_sorted) G_note_free_names, (PySem.W.mg_of X G a_free_names), k_free_names, b_free_names⟩
  have G_without : Fn l.prog w K mg base CX0 (60 + 5) "without" p_without (spWo 60) f_without _ := ⟨ok_wo (N := 60) F_without (by decide) G_free_names, (PySem.W.mg_of X G a_without), k_without, b_without⟩
  have G_calls_last : Fn l.prog w K mg base CX0 (60 + 6 + 60) "calls_last" p_calls_last (spCl 60 60) f_calls_last _ := cl_up (N := 60) (P := l.prog) (base := base) F_calls_last G_without (PySem.W.mg_of X G a_calls_last) k_calls_last b_calls_last 60
  have G_answers_at_once : Fn l.prog w K mg base CX0 (60 + 6 + 60 + 1) "answers_at_once" p_answers_at_once (spAn 60) f_answers_at_once _ := ⟨ok_an (N := 60) F_answers_at_once G_calls_last, (PySem.W.mg_of X G a_answers_at_once), k_answers_at_once, b_answers_at_once⟩
  have G_keeps_nothing : Fn l.prog w K mg base CX0 (60 + 6 + 60 + 2) "keeps_nothing" p_keeps_nothing (spKp 60) f_keeps_nothing _ := ⟨ok_kp (N := 60) F_keeps_nothing (PySem.W.mg_none_of X G z_all) G_numbered G_answers_at_once, (PySem.W.mg_of X G a_keeps_nothing), k_keeps_nothing, b_keeps_nothing⟩
  have G_L_law_state : Fn l.prog w K mg base CX0 1 "_law_state" p__law_state (spState K) f_L_law_state _ := ⟨ok_state F_L_law_state (PySem.W.mg_none_of X G z_len) (PySem.W.mg_none_of X G z_abs), (PySem.W.mg_of X G a_L_law_state), k_L_law_state, b_L_law_state⟩
  have G_L_law_take : Fn l.prog w K mg base CX0 1 "_law_take" p__law_take spTake f_L_law_take _ := ⟨ok_take F_L_law_take (PySem.W.mg_none_of X G z_len) (PySem.W.mg_none_of X G z_int), (PySem.W.mg_of X G a_L_law_take), k_L_law_take, b_L_law_take⟩
  have G_L_law_operations : Fn l.prog w K mg base CX0 2 "_law_operations" p__law_operations spOps f_L_law_operations _ := ⟨ok_ops F_L_law_operations (PySem.W.mg_none_of X G z_range) G_L_law_take, (PySem.W.mg_of X G a_L_law_operations), k_L_law_operations, b_L_law_operations⟩
  have GKn := kind_up (P := l.prog) (base := base) F_L_law_kind G_L_law_take (PySem.W.mg_of X G a_L_law_kind) k_L_law_kind b_L_law_kind
  have G_L_law_leaf : Fn l.prog w K mg base CX0 9 "_law_leaf" p__law_leaf (spLeaf 7) f_L_law_leaf _ := leaf_up (P := l.prog) (base := base) F_L_law_leaf (PySem.W.mg_none_of X G z_len) (PySem.W.mg_none_of X G z_str) G_L_law_take (PySem.W.mg_of X G a_L_law_leaf) k_L_law_leaf b_L_law_leaf 7
  have GVn := tree_up (P := l.prog) (base := base) (PySem.W.mg_none_of X G z_len) (PySem.W.mg_none_of X G z_str) (PySem.W.mg_none_of X G z_tuple) G_L_law_take G_L_law_leaf (GKn 2) F_L_law_tree (PySem.W.mg_of X G a_L_law_tree) k_L_law_tree b_L_law_tree F_L_law_special (PySem.W.mg_of X G a_L_law_special) k_L_law_special b_L_law_special F_L_law_asking (PySem.W.mg_of X G a_L_law_asking) k_L_law_asking b_L_law_asking F_L_law_clause (PySem.W.mg_of X G a_L_law_clause) k_L_law_clause b_L_law_clause F_L_law_handling (PySem.W.mg_of X G a_L_law_handling) k_L_law_handling b_L_law_handling F_L_law_loop (PySem.W.mg_of X G a_L_law_loop) k_L_law_loop b_L_law_loop
  have G_L_law_clause : Fn l.prog w K mg base CX0 11 "_law_clause" p__law_clause (spClause 0) f_L_law_clause _ := ⟨ok_clause (n := 0) F_L_law_clause (PySem.W.mg_none_of X G z_len) (PySem.W.mg_none_of X G z_str) G_L_law_take G_L_law_leaf (GKn 2) (GVn 0), (PySem.W.mg_of X G a_L_law_clause), k_L_law_clause, b_L_law_clause⟩
  have G_L_law_program : Fn l.prog w K mg base CX0 23 "_law_program" p__law_program spProg f_L_law_program _ := ⟨ok_program F_L_law_program (PySem.W.mg_none_of X G z_tuple) (PySem.W.mg_none_of X G z_int) G_L_law_take G_L_law_operations (GKn 3) (GVn 4) G_L_law_clause, (PySem.W.mg_of X G a_L_law_program), k_L_law_program, b_L_law_program⟩
  have G_L_law_parts : Fn l.prog w K mg base CX0 1 "_law_parts" p__law_parts spLP f_L_law_parts _ := ⟨ok_lp F_L_law_parts (PySem.W.mg_none_of X G z_len) (PySem.W.mg_none_of X G z_list), (PySem.W.mg_of X G a_L_law_parts), k_L_law_parts, b_L_law_parts⟩
  have G_L_law_all : Fn l.prog w K mg base CX0 62 "_law_all" p__law_all (spAll 60) f_L_law_all _ := all_up (P := l.prog) (base := base) F_L_law_all G_L_law_parts (PySem.W.mg_of X G a_L_law_all) k_L_law_all b_L_law_all 60
  have G_L_law_binds : Fn l.prog w K mg base CX0 1 "_law_binds" p__law_binds spBd f_L_law_binds _ := ⟨ok_bd F_L_law_binds (PySem.W.mg_none_of X G z_len) (PySem.W.mg_none_of X G z_list), (PySem.W.mg_of X G a_L_law_binds), k_L_law_binds, b_L_law_binds⟩
  have G_L_law_occurs : Fn l.prog w K mg base CX0 62 "_law_occurs" p__law_occurs (spOc 60) f_L_law_occurs _ := oc_up (P := l.prog) (base := base) F_L_law_occurs (PySem.W.mg_none_of X G z_len) (PySem.W.mg_none_of X G z_range) G_L_law_parts G_L_law_binds (PySem.W.mg_of X G a_L_law_occurs) k_L_law_occurs b_L_law_occurs 60
  have G_L_law_at_once : Fn l.prog w K mg base CX0 (60 + 6 + 60) "_law_at_once" p__law_at_once (spAo 60 60) f_L_law_at_once _ := ao_up (N := 60) (P := l.prog) (base := base) F_L_law_at_once G_L_law_occurs (PySem.W.mg_of X G a_L_law_at_once) k_L_law_at_once b_L_law_at_once 60
  have G_L_law_simple : Fn l.prog w K mg base CX0 2 "_law_simple" p__law_simple spSimple f_L_law_simple _ := ⟨ok_simple F_L_law_simple G_L_law_take, (PySem.W.mg_of X G a_L_law_simple), k_L_law_simple, b_L_law_simple⟩
  have G_L_law_body : Fn l.prog w K mg base CX0 8 "_law_body" p__law_body (spBody 5) f_L_law_body _ := body_up (P := l.prog) (base := base) F_L_law_body G_L_law_take G_L_law_simple (PySem.W.mg_of X G a_L_law_body) k_L_law_body b_L_law_body 5
  exact ok_law F_law (PySem.W.mg_none_of X G z_range) (PySem.W.mg_none_of X G z_str) (PySem.W.mg_none_of X G z_tuple) (PySem.W.mg_none_of X G z_isinstance) (PySem.W.mg_none_of X G z_bool) (PySem.W.mg_none_of X G z_all) G_L_law_state G_L_law_take G_L_law_body G_L_law_program G_L_law_all G_keeps_nothing G_L_law_at_once G_answers_at_once
theorem walk {l : PySem.W.OpenLaw} {q : Program} {loose : List Str} {XP : (Str → Option Value) → Heap → Prop} {YP : World → Heap → Prop} {d : DefRec} {K : Params → PySem.W.Frag} (hn : l.most = some 63) (hdf : d.params.defaults = [])
    (hY : ∀ (w : World) (h : Heap), YP w h → (K w.params).In h)
    (F : ∀ (w : World) (mg : Str → Option Value) (fa : Addr) (h : Heap), (K w.params).In h → h.Ns mainGlobals mg → mg d.name = some (.ref fa) →
      ∃ fd : FuncData, (∀ (s : Shared) (u : Value), BindsTo s fd ⟨[u], []⟩ [("script", u)]) ∧ ∀ base : Heap, (K w.params).In base → base.Ns mainGlobals mg → FnOk l.prog w (K w.params) mg base CX0 129 fa fd ["script"] (spLaw (K w.params))) :
    PySem.W.WalkO q loose XP YP l.row.toRowW d [] (fun f vs => PySem.call f vs) :=
  L2.walk_of (n := 63) (k := 129) (x := "script") (CX := fun _ => CX0) (sp := fun w => spLaw (K w.params)) hn (by decide) hdf ⟨rfl, by decide, by decide⟩ hY F (fun _ _ a ns hl _ hS => ⟨a, ns, rfl, hS, hl, fun _ => rfl⟩) fun _ _ _ _ _ z => z
end Bz


set_option Elab.async false
set_option linter.all false
set_option maxRecDepth 100000
open PySem PySem.W PyProof.Rows in
set_option maxRecDepth 100000 in
set_option maxHeartbeats 0 in
theorem PySem.Challenge.cw_askedfor_k25_answers_at_once_holds : PySem.Challenge.rw_askedfor_k25_answers_at_once.Holds := by
  w_on; o_law; k_head; (case hw => w_witness2)
  k_fill
  refine Bz.walk (l := PySem.Challenge.rw_askedfor_k25_answers_at_once) rfl rfl (fun w h Y => PySem.W.kIn_of Y) ?F
  case F =>
    intro w mg fa h KX G hmg
    refine' Bz.all_mk KX G hmg ?a_parts ?l_parts ?c_parts ?k_parts ?a_numbered ?l_numbered ?c_numbered ?k_numbered ?a_bound_in_parts ?l_bound_in_parts ?c_bound_in_parts ?k_bound_in_parts ?a_free_names ?l_free_names ?c_free_names ?k_free_names ?a_note_free_names ?l_note_free_names ?c_note_free_names ?k_note_free_names ?a_answers_at_once ?l_answers_at_once ?c_answers_at_once ?k_answers_at_once ?a_keeps_nothing ?l_keeps_nothing ?c_keeps_nothing ?k_keeps_nothing ?a_calls_last ?l_calls_last ?c_calls_last ?k_calls_last ?a_without ?l_without ?c_without ?k_without ?a_L_law_state ?l_L_law_state ?c_L_law_state ?k_L_law_state ?a_L_law_take ?l_L_law_take ?c_L_law_take ?k_L_law_take ?a_L_law_kind ?l_L_law_kind ?c_L_law_kind ?k_L_law_kind ?a_L_law_operations ?l_L_law_operations ?c_L_law_operations ?k_L_law_operations ?a_L_law_leaf ?l_L_law_leaf ?c_L_law_leaf ?k_L_law_leaf ?a_L_law_special ?l_L_law_special ?c_L_law_special ?k_L_law_special ?a_L_law_asking ?l_L_law_asking ?c_L_law_asking ?k_L_law_asking ?a_L_law_clause ?l_L_law_clause ?c_L_law_clause ?k_L_law_clause ?a_L_law_handling ?l_L_law_handling ?c_L_law_handling ?k_L_law_handling ?a_L_law_loop ?l_L_law_loop ?c_L_law_loop ?k_L_law_loop ?a_L_law_tree ?l_L_law_tree ?c_L_law_tree ?k_L_law_tree ?a_L_law_program ?l_L_law_program ?c_L_law_program ?k_L_law_program ?a_L_law_parts ?l_L_law_parts ?c_L_law_parts ?k_L_law_parts ?a_L_law_all ?l_L_law_all ?c_L_law_all ?k_L_law_all ?a_L_law_occurs ?l_L_law_occurs ?c_L_law_occurs ?k_L_law_occurs ?a_L_law_binds ?l_L_law_binds ?c_L_law_binds ?k_L_law_binds ?a_L_law_at_once ?l_L_law_at_once ?c_L_law_at_once ?k_L_law_at_once ?a_L_law_simple ?l_L_law_simple ?c_L_law_simple ?k_L_law_simple ?a_L_law_body ?l_L_law_body ?c_L_law_body ?k_L_law_body ?a_law ?l_law ?c_law ?k_law ?z_len ?z_range ?z_list ?z_tuple ?z_zip ?z_sorted ?z_str ?z_abs ?z_int ?z_isinstance ?z_bool ?z_all ?gF ?DF ?KF ?dF_num ?dF_flag ?dF_unit ?dF_name ?dF_call ?dF_fun ?dF_rec ?dF_let ?dF_if ?dF_pair ?dF_fst ?dF_snd ?dF_op ?dF_not ?dF_print ?dF_ask ?dF_kept ?dF_known
    (case a_parts => k_is)
    (case l_parts => k_is)
    (case c_parts => k_is)
    (case k_parts => k_is)
    (case a_numbered => k_is)
    (case l_numbered => k_is)
    (case c_numbered => k_is)
    (case k_numbered => k_is)
    (case a_bound_in_parts => k_is)
    (case l_bound_in_parts => k_is)
    (case c_bound_in_parts => k_is)
    (case k_bound_in_parts => k_is)
    (case a_free_names => k_is)
    (case l_free_names => k_is)
    (case c_free_names => k_is)
    (case k_free_names => k_is)
    (case a_note_free_names => k_is)
    (case l_note_free_names => k_is)
    (case c_note_free_names => k_is)
    (case k_note_free_names => k_is)
    (case a_answers_at_once => k_is)
    (case l_answers_at_once => k_is)
    (case c_answers_at_once => k_is)
    (case k_answers_at_once => k_is)
    (case a_keeps_nothing => k_is)
    (case l_keeps_nothing => k_is)
    (case c_keeps_nothing => k_is)
    (case k_keeps_nothing => k_is)
    (case a_calls_last => k_is)
    (case l_calls_last => k_is)
    (case c_calls_last => k_is)
    (case k_calls_last => k_is)
    (case a_without => k_is)
    (case l_without => k_is)
    (case c_without => k_is)
    (case k_without => k_is)
    (case a_L_law_state => k_is)
    (case l_L_law_state => k_is)
    (case c_L_law_state => k_is)
    (case k_L_law_state => k_is)
    (case a_L_law_take => k_is)
    (case l_L_law_take => k_is)
    (case c_L_law_take => k_is)
    (case k_L_law_take => k_is)
    (case a_L_law_kind => k_is)
    (case l_L_law_kind => k_is)
    (case c_L_law_kind => k_is)
    (case k_L_law_kind => k_is)
    (case a_L_law_operations => k_is)
    (case l_L_law_operations => k_is)
    (case c_L_law_operations => k_is)
    (case k_L_law_operations => k_is)
    (case a_L_law_leaf => k_is)
    (case l_L_law_leaf => k_is)
    (case c_L_law_leaf => k_is)
    (case k_L_law_leaf => k_is)
    (case a_L_law_special => k_is)
    (case l_L_law_special => k_is)
    (case c_L_law_special => k_is)
    (case k_L_law_special => k_is)
    (case a_L_law_asking => k_is)
    (case l_L_law_asking => k_is)
    (case c_L_law_asking => k_is)
    (case k_L_law_asking => k_is)
    (case a_L_law_clause => k_is)
    (case l_L_law_clause => k_is)
    (case c_L_law_clause => k_is)
    (case k_L_law_clause => k_is)
    (case a_L_law_handling => k_is)
    (case l_L_law_handling => k_is)
    (case c_L_law_handling => k_is)
    (case k_L_law_handling => k_is)
    (case a_L_law_loop => k_is)
    (case l_L_law_loop => k_is)
    (case c_L_law_loop => k_is)
    (case k_L_law_loop => k_is)
    (case a_L_law_tree => k_is)
    (case l_L_law_tree => k_is)
    (case c_L_law_tree => k_is)
    (case k_L_law_tree => k_is)
    (case a_L_law_program => k_is)
    (case l_L_law_program => k_is)
    (case c_L_law_program => k_is)
    (case k_L_law_program => k_is)
    (case a_L_law_parts => k_is)
    (case l_L_law_parts => k_is)
    (case c_L_law_parts => k_is)
    (case k_L_law_parts => k_is)
    (case a_L_law_all => k_is)
    (case l_L_law_all => k_is)
    (case c_L_law_all => k_is)
    (case k_L_law_all => k_is)
    (case a_L_law_occurs => k_is)
    (case l_L_law_occurs => k_is)
    (case c_L_law_occurs => k_is)
    (case k_L_law_occurs => k_is)
    (case a_L_law_binds => k_is)
    (case l_L_law_binds => k_is)
    (case c_L_law_binds => k_is)
    (case k_L_law_binds => k_is)
    (case a_L_law_at_once => k_is)
    (case l_L_law_at_once => k_is)
    (case c_L_law_at_once => k_is)
    (case k_L_law_at_once => k_is)
    (case a_L_law_simple => k_is)
    (case l_L_law_simple => k_is)
    (case c_L_law_simple => k_is)
    (case k_L_law_simple => k_is)
    (case a_L_law_body => k_is)
    (case l_L_law_body => k_is)
    (case c_L_law_body => k_is)
    (case k_L_law_body => k_is)
    (case a_law => k_is)
    (case l_law => k_is)
    (case c_law => k_is)
    (case k_law => k_is)
    (case z_len => k_is)
    (case z_range => k_is)
    (case z_list => k_is)
    (case z_tuple => k_is)
    (case z_zip => k_is)
    (case z_sorted => k_is)
    (case z_str => k_is)
    (case z_abs => k_is)
    (case z_int => k_is)
    (case z_isinstance => k_is)
    (case z_bool => k_is)
    (case z_all => k_is)
    (case gF => k_is)
    (case DF => k_is)
    (case KF => (repeat' first | exact True.intro | refine ⟨⟨_, _, rfl, rfl⟩, ?_⟩))
    (case dF_num => k_is)
    (case dF_flag => k_is)
    (case dF_unit => k_is)
    (case dF_name => k_is)
    (case dF_call => k_is)
    (case dF_fun => k_is)
    (case dF_rec => k_is)
    (case dF_let => k_is)
    (case dF_if => k_is)
    (case dF_pair => k_is)
    (case dF_fst => k_is)
    (case dF_snd => k_is)
    (case dF_op => k_is)
    (case dF_not => k_is)
    (case dF_print => k_is)
    (case dF_ask => k_is)
    (case dF_kept => k_is)
    (case dF_known => k_is)

