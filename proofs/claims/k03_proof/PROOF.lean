import PyProof.Rows.All
import Wide.All
import OpenK.AllK
import Wide.FinOn
import HandS.ForMost
import HandS.SetKeys
import HandS.More
import HandS.Conv
import HandS.Wide
import HandS.EndBits
import HandS.IsInst
import HandS.Flow
import HandS.NoneIn
import HandS.Star
import HandS.ClsMeth
import HandS.DictComp
import HandS.CallLocal
import HandS.Zip
import HandS.Codes
import KE.KUnpackStar
import KE.GoesMore
import HandS.Walk
import PyProof.DictUpdate
import PyProof.Tail
import PySem.Challenge.RW_askedfor_k03_parts_and_names
import HandS.TupAny
import HandS.Style
import HandS.Ends
import PyProof.ReprRoads
import PyProof.ReprLen
set_option Elab.async false
set_option linter.all false
set_option maxRecDepth 100000
set_option maxHeartbeats 4000000
namespace Bz
open PySem PySem.Spec L2 PyProof.Rows
/-! ### made data: what is never changed once it stands -/
inductive D where
  | non
  | bl (b : Bool)
  | int (n : Int)
  | str (s : Str)
  | tup (l : List D)
  | lst (l : List D)
  | dct (ks : List Str) (l : List D)
/-- the pairs of a dict with text keys -/
def kz (ks : List Str) (vs : List V) : List (Key × V) := (ks.zip vs).map fun p => ((Sum.inr p.1 : Key), p.2)
mutual
def At (R : Hp) : D → V → Prop
  | .non, v => v = .non
  | .bl b, v => v = .bl b
  | .int n, v => v = .int n
  | .str s, v => v = .str s
  | .tup l, v => ∃ p vs, v = .ref p ∧ R p = some (.tup vs) ∧ Ats R l vs
  | .lst l, v => ∃ p vs, v = .ref p ∧ R p = some (.lst vs) ∧ Ats R l vs
  | .dct ks l, v => ∃ p vs, v = .ref p ∧ R p = some (.dK (kz ks vs)) ∧ Ats R l vs ∧ ks.length = l.length ∧ ks.Nodup
def Ats (R : Hp) : List D → List V → Prop
  | [], vs => vs = []
  | d :: l, vs => ∃ v r, vs = v :: r ∧ At R d v ∧ Ats R l r
end
mutual
theorem At.up {R R' : Hp} (s : Same R R') : ∀ {d : D} {v : V}, At R d v → At R' d v
  | .non, _, h => h
  | .bl _, _, h => h
  | .int _, _, h => h
  | .str _, _, h => h
  | .tup l, _, ⟨p, vs, e, h, a⟩ => ⟨p, vs, e, s _ _ h, Ats.up s (l := l) a⟩
  | .lst l, _, ⟨p, vs, e, h, a⟩ => ⟨p, vs, e, s _ _ h, Ats.up s (l := l) a⟩
  | .dct _ l, _, ⟨p, vs, e, h, a, k⟩ => ⟨p, vs, e, s _ _ h, Ats.up s (l := l) a, k⟩
theorem Ats.up {R R' : Hp} (s : Same R R') : ∀ {l : List D} {vs : List V}, Ats R l vs → Ats R' l vs
  | [], _, h => h
  | d :: l, _, ⟨v, r, e, h, a⟩ => ⟨v, r, e, At.up s (d := d) h, Ats.up s (l := l) a⟩
end
theorem Ats.length {R : Hp} : ∀ {l : List D} {vs : List V}, Ats R l vs → vs.length = l.length
  | [], _, h => by rw [show _ = ([] : List V) from h]; rfl
  | _ :: l, _, ⟨v, r, e, _, a⟩ => by rw [e, List.length_cons, List.length_cons, Ats.length (l := l) a]
theorem Ats.get {R : Hp} : ∀ {l : List D} {vs : List V} {i : Nat} {d : D}, Ats R l vs → l[i]? = some d → ∃ v, vs[i]? = some v ∧ At R d v
  | [], _, _, _, _, h => by simp at h
  | e :: l, _, 0, d, ⟨v, r, q, h, _⟩, hi => by
    cases (show e = d from Option.some.inj hi)
    exact ⟨v, by rw [q]; rfl, h⟩
  | _ :: l, _, i + 1, d, ⟨v, r, q, _, a⟩, hi => by
    obtain ⟨w, hw, h⟩ := Ats.get (l := l) (i := i) (d := d) a (by simpa using hi)
    exact ⟨w, by rw [q]; simpa using hw, h⟩
theorem Ats.append {R : Hp} : ∀ {l m : List D} {vs ws : List V}, Ats R l vs → Ats R m ws → Ats R (l ++ m) (vs ++ ws)
  | [], _, _, _, h, k => by rw [show _ = ([] : List V) from h]; exact k
  | d :: l, m, _, ws, ⟨v, r, e, h, a⟩, k => ⟨v, r ++ ws, by rw [e]; rfl, h, Ats.append (l := l) a k⟩
theorem Ats.one {R : Hp} {d : D} {v : V} (h : At R d v) : Ats R [d] [v] := ⟨v, [], rfl, h, rfl⟩
theorem Ats.drop {R : Hp} : ∀ (n : Nat) {l : List D} {vs : List V}, Ats R l vs → Ats R (l.drop n) (vs.drop n)
  | 0, _, _, h => h
  | n + 1, [], _, h => by rw [show _ = ([] : List V) from h]; exact rfl
  | n + 1, d :: l, _, ⟨v, r, e, _, a⟩ => by rw [e]; exact Ats.drop n (l := l) a
theorem Ats.take {R : Hp} : ∀ (n : Nat) {l : List D} {vs : List V}, Ats R l vs → Ats R (l.take n) (vs.take n)
  | 0, _, _, h => rfl
  | n + 1, [], _, h => by rw [show _ = ([] : List V) from h]; exact rfl
  | n + 1, d :: l, _, ⟨v, r, e, h, a⟩ => by rw [e]; exact ⟨v, r.take n, rfl, h, Ats.take n (l := l) a⟩
theorem Ats.split {R : Hp} : ∀ {l m : List D} {vs : List V}, Ats R (l ++ m) vs → ∃ a b, vs = a ++ b ∧ Ats R l a ∧ Ats R m b
  | [], _, vs, h => ⟨[], vs, rfl, rfl, h⟩
  | d :: l, m, _, ⟨v, r, e, h, a⟩ => by
    obtain ⟨x, y, e2, h1, h2⟩ := Ats.split (l := l) (m := m) a
    exact ⟨v :: x, y, by rw [e, e2]; rfl, ⟨v, x, rfl, h, h1⟩, h2⟩
/-! ### how a heap and its still part grow -/
structure Mv (F : Addr → Prop) (R H R' H' : Hp) : Prop where
  keep : ∀ a o, H a = some o → ¬ F a → H' a = some o
  dom : ∀ a o, H a = some o → ∃ o', H' a = some o'
  up : Same R R'
  sub : Same R' H'
  new : ∀ a o, R' a = some o → R a = some o ∨ H a = none
abbrev F0 : Addr → Prop := fun _ => False
theorem Mv.refl {F : Addr → Prop} {R H : Hp} (s : Same R H) : Mv F R H R H := ⟨fun _ _ h _ => h, fun _ o h => ⟨o, h⟩, .refl _, s, fun _ _ h => .inl h⟩
theorem Mv.free {F : Addr → Prop} {R H R' H' : Hp} (m : Mv F R H R' H') {x : Addr} (h : H' x = none) : H x = none := by
  cases e : H x with
  | none => rfl
  | some o =>
    obtain ⟨o', h'⟩ := m.dom x o e
    rw [h'] at h
    cases h
theorem Mv.trans {F F1 F2 : Addr → Prop} {R H R1 H1 R2 H2 : Hp} (a : Mv F R H R1 H1) (b : Mv F1 R1 H1 R2 H2) (h0 : ∀ x, F x → F2 x) (h1 : ∀ x, F1 x → F2 x ∨ H x = none) : Mv F2 R H R2 H2 where
  keep := fun x o h n => b.keep x o (a.keep x o h fun f => n (h0 x f)) fun f => (h1 x f).elim n fun e => by rw [h] at e; cases e
  dom := fun x o h => let ⟨o', h'⟩ := a.dom x o h; b.dom x o' h'
  up := a.up.trans b.up
  sub := b.sub
  new := fun x o h => (b.new x o h).elim (fun h => a.new x o h) fun h => .inr (a.free h)
theorem Mv.tr {F : Addr → Prop} {R H R1 H1 R2 H2 : Hp} (a : Mv F R H R1 H1) (b : Mv F R1 H1 R2 H2) : Mv F R H R2 H2 := a.trans b (fun _ f => f) fun _ f => .inl f
theorem Mv.tr0 {F : Addr → Prop} {R H R1 H1 R2 H2 : Hp} (a : Mv F R H R1 H1) (b : Mv F0 R1 H1 R2 H2) : Mv F R H R2 H2 := a.trans b (fun _ f => f) fun _ f => f.elim
theorem Mv.mono {F F1 : Addr → Prop} {R H R1 H1 : Hp} (a : Mv F R H R1 H1) (h : ∀ x, F x → F1 x) : Mv F1 R H R1 H1 := ⟨fun x o e n => a.keep x o e fun f => n (h x f), a.dom, a.up, a.sub, a.new⟩
theorem Mv.same {R H R1 H1 : Hp} (a : Mv F0 R H R1 H1) : Same H H1 := fun x o h => a.keep x o h fun f => f
/-- outside of the still part: it stays so -/
theorem Mv.out {F : Addr → Prop} {R H R' H' : Hp} (m : Mv F R H R' H') {a : Addr} {o : HO} (h : R a = none) (e : H a = some o) : R' a = none := by
  cases q : R' a with
  | none => rfl
  | some u => rcases m.new a u q with z | z
              · rw [h] at z; cases z
              · rw [e] at z; cases z
theorem same_new {H : Hp} {p : Addr} {o : HO} (h : H p = none) : Same H (upd H p o) := fun b x e => by
  rw [upd_ne (ne_of_none e h)]
  exact e
/-- a new thing that will stand still -/
theorem mv_new {F : Addr → Prop} {R H : Hp} {p : Addr} {o : HO} (s : Same R H) (h : H p = none) : Mv F R H (upd R p o) (upd H p o) where
  keep := fun b x e _ => same_new h b x e
  dom := fun b x e => ⟨x, same_new h b x e⟩
  up := same_new (s.free h)
  sub := fun b x e => by
    by_cases q : b = p
    · subst q
      rw [upd_same] at e ⊢
      exact e
    · rw [upd_ne q] at e ⊢
      exact s b x e
  new := fun b x e => by
    by_cases q : b = p
    · subst q; exact .inr h
    · rw [upd_ne q] at e; exact .inl e
/-- a new thing that may change -/
theorem mv_mut {F : Addr → Prop} {R H : Hp} {p : Addr} {o : HO} (s : Same R H) (h : H p = none) : Mv F R H R (upd H p o) where
  keep := fun b x e _ => same_new h b x e
  dom := fun b x e => ⟨x, same_new h b x e⟩
  up := .refl _
  sub := fun b x e => same_new h b x (s b x e)
  new := fun b x e => .inl e
/-- a change of what is not still -/
theorem mv_at {F : Addr → Prop} {R H : Hp} {p : Addr} {o u : HO} (s : Same R H) (n : R p = none) (h : H p = some u) (hF : F p) : Mv F R H R (upd H p o) where
  keep := fun b x e f => by
    rw [upd_ne fun q => f (by rw [q]; exact hF)]
    exact e
  dom := fun b x e => by
    by_cases q : b = p
    · exact ⟨o, by rw [q, upd_same]⟩
    · exact ⟨x, by rw [upd_ne q]; exact e⟩
  up := .refl _
  sub := fun b x e => by
    rw [upd_ne (ne_of_none e n)]
    exact s b x e
  new := fun b x e => .inl e
theorem At.tup {R : Hp} {p : Addr} {vs : List V} {l : List D} (h : R p = some (.tup vs)) (a : Ats R l vs) : At R (.tup l) (.ref p) := ⟨p, vs, rfl, h, a⟩
theorem At.lst {R : Hp} {p : Addr} {vs : List V} {l : List D} (h : R p = some (.lst vs)) (a : Ats R l vs) : At R (.lst l) (.ref p) := ⟨p, vs, rfl, h, a⟩
/-- a new tuple of still things -/
theorem At.ntup {R H : Hp} {p : Addr} {vs : List V} {l : List D} (s : Same R H) (h : H p = none) (a : Ats R l vs) : At (upd R p (.tup vs)) (.tup l) (.ref p) := ⟨p, vs, rfl, upd_same, a.up (same_new (s.free h))⟩
theorem At.nlst {R H : Hp} {p : Addr} {vs : List V} {l : List D} (s : Same R H) (h : H p = none) (a : Ats R l vs) : At (upd R p (.lst vs)) (.lst l) (.ref p) := ⟨p, vs, rfl, upd_same, a.up (same_new (s.free h))⟩
/-! ### as data that is compared -/
mutual
def D.py : D → PyData
  | .non => .none
  | .bl b => .bool b
  | .int n => .int n
  | .str s => .str s
  | .tup l => .tuple (pys l)
  | .lst l => .list (pys l)
  | .dct _ _ => .none
def pys : List D → List PyData
  | [] => []
  | d :: l => d.py :: pys l
end
mutual
def D.flat : D → Bool
  | .dct _ _ => false
  | .tup l => flats l
  | .lst l => flats l
  | _ => true
def flats : List D → Bool
  | [] => true
  | d :: l => d.flat && flats l
end
mutual
theorem At.dp {K : PySem.W.Frag} {R H : Hp} (s : Same R H) : ∀ {d : D} {v : V}, d.flat = true → At R d v → Dp K H v d.py
  | .non, _, _, h => by rw [show _ = V.non from h]; exact .non
  | .bl b, _, _, h => by rw [show _ = V.bl b from h]; exact .bl b
  | .int n, _, _, h => by rw [show _ = V.int n from h]; exact .int n
  | .str x, _, _, h => by rw [show _ = V.str x from h]; exact .str x
  | .tup l, _, f, ⟨p, vs, e, h, a⟩ => by rw [e]; exact .tup (SqT.of (s _ _ h)) (Ats.dp s (l := l) f a)
  | .lst l, _, f, ⟨p, vs, e, h, a⟩ => by rw [e]; exact .lst (SqL.of (s _ _ h)) (Ats.dp s (l := l) f a)
  | .dct _ _, _, f, _ => by cases f
theorem Ats.dp {K : PySem.W.Frag} {R H : Hp} (s : Same R H) : ∀ {l : List D} {vs : List V}, flats l = true → Ats R l vs → DpAll K H vs (pys l)
  | [], _, _, h => by rw [show _ = ([] : List V) from h]; exact .nil
  | d :: l, _, f, ⟨v, r, e, h, a⟩ => by
    have f2 : (d.flat && flats l) = true := f
    rw [Bool.and_eq_true] at f2
    rw [e]
    exact .cons (At.dp s (d := d) f2.1 h) (Ats.dp s (l := l) f2.2 a)
end
end Bz


set_option Elab.async false
set_option linter.all false
set_option maxRecDepth 100000
set_option maxHeartbeats 4000000
namespace Bz
open PySem PySem.Spec L2 PyProof.Rows
/-! ### del xs[a:] -/
theorem kept_eq {α : Type} (a : Nat) : ∀ (l : List α) (k n : Nat), n = k + l.length → (l.zipIdx k).filterMap (fun p => if (decide ((a : Int) ≤ (p.2 : Int)) && decide ((p.2 : Int) < (n : Int)) && (((p.2 : Int) - a) % 1 == 0)) = true then none else some p.1) = l.take (a - k)
  | [], k, n, _ => by simp
  | x :: r, k, n, h => by
    have ih := kept_eq a r (k + 1) n (by rw [h, List.length_cons]; omega)
    rw [List.zipIdx_cons, List.filterMap_cons]
    have hk : k < n := by rw [h, List.length_cons]; omega
    have h1 : ((((k : Nat) : Int) - a) % 1 == 0) = true := by
      rw [Int.emod_one]; rfl
    dsimp only
    rw [h1, Bool.and_true]
    by_cases c : a ≤ k
    · rw [if_pos (by simp; omega), ih, show a - (k + 1) = 0 by omega, show a - k = 0 by omega]
      rfl
    · rw [if_neg (by simp; omega), ih, show a - k = (a - (k + 1)) + 1 by omega]
      rfl
theorem bounds_from {a n : Nat} (h : a ≤ n) : sliceBounds (some (a : Int)) none none n = ((a : Int), (n : Int), 1) := by
  simp only [sliceBounds, Option.getD_none]
  have h1 : ¬ ((a : Int) < 0) := by omega
  simp only [h1, if_false, show (1 : Int) > 0 by decide, if_true]
  congr 1
  omega
section
variable {prog : Program} {w : World} {A : Around} {E : Value → Shared → Prop} {s : Shared}
set_option maxRecDepth 100000 in
theorem delItem_from {l sl : Addr} {items : Array Value} {n : Nat} {vl : Value} {a : Nat} {Q : Unit → Shared → Prop}
    (e : s.heap.get? l = some { cls := .type "list", data := .seq items n }) (hs : s.heap.IsSliceOf sl vl .none .none) (pl : IsPart vl (some (a : Int))) (ha : a ≤ items.size)
    (hsz : items.size ≤ sizeLine) (h : ∀ f : Array Value → Array Value, f items = (items.toList.take a).toArray → Q () { s with heap := s.heap.update l (Obj.mapSeq f) }) :
    wpAny (model prog w) A (delItem (.ref l) (.ref sl)) Q E s := by
  have hl : s.heap.IsList l items := PySem.IsL.isList e
  obtain ⟨os, hos, hcs, hds⟩ := id hs
  have hTs : s.TypeIs (.ref sl) "slice" := ⟨os, hos, hcs⟩
  have hstep : ¬ ((rawPart none == rawInt 0) = true) := Bool.false_ne_true
  have hz' : ((fun xs : Array Value => (xs.toList.take a).toArray) items).size ≤ sizeLine + 1 := by
    simp only [List.size_toArray, List.length_take, Array.length_toList]
    omega
  unfold delItem
  try with_reducible refine wpAny_holding ?_
  refine wpAny_bind (wpAny_sequenceKey hl.typeIs (by decide) ?_)
  refine wpAny_bind (wpAny_callSpecial?_slot (name := Str.ofString "__delitem__") hl.typeIs PySem.F.slot_list_delitem
    (wpAny_call_entry PySem.F.slot_list_delitem hl.typeIs PySem.F.entry_list_delitem ?_ (PySem.F.args_list_delitem_2 _ _)))
  show wpAny _ _ (Builtin.List.listSubscript? (.ref sl) >>= _) _ _ s
  refine wpAny_bind ?_
  unfold Builtin.List.listSubscript?
  refine wpAny_bind (wpAny_specialOf hTs slice_no_index ?_)
  simp only [Option.isNone_none, if_true]
  refine wpAny_pure ?_
  show wpAny _ _ (typeOf (.ref sl) >>= _) _ _ s
  refine wpAny_bind (wpAny_typeOf hTs ?_)
  first
    | rw [if_neg (by decide)]
    | refine PySem.W.KFB.if_not (by decide) ?_
  rw [listSliceParts_eq]
  refine wpAny_bind (wpAny_bind (wpAny_field hos hds (x := .none) rfl (wpAny_bind (wpAny_listPart .none ?_))))
  rw [if_neg hstep]
  refine wpAny_bind (wpAny_field hos hds (x := vl) rfl (wpAny_bind (wpAny_listPart pl ?_)))
  refine wpAny_bind (wpAny_field hos hds (x := .none) rfl (wpAny_bind (wpAny_listPart .none (wpAny_pure ?_))))
  unfold Builtin.List.listItems
  refine wpAny_bind (wpAny_bind (wpAny_seqItems e rfl (wpAny_pure ?_)))
  refine wpAny_bind (wpAny_of_eq ((sliceIndices_raw (some (a : Int)) none none items.size (by simp)).trans (congrArg (pure : Int × Int × Int → Sem (Int × Int × Int)) (bounds_from ha))) ?_)
  refine wpAny_bind (wpAny_rule ?_)
  have ef : (fun xs : Array Value => (xs.toList.zipIdx.filterMap fun (p : Value × Nat) => if (decide ((a : Int) ≤ (p.2 : Int)) && decide ((p.2 : Int) < (items.size : Int)) && (((p.2 : Int) - a) % 1 == 0)) = true then none else some p.1).toArray) items = (items.toList.take a).toArray := by
    show (List.filterMap _ (items.toList.zipIdx 0)).toArray = _
    rw [kept_eq a items.toList 0 items.size (by simp)]
    rfl
  show wpAny _ _ (updateSeq l (fun xs : Array Value => (xs.toList.zipIdx.filterMap fun (p : Value × Nat) => if (decide ((a : Int) ≤ (p.2 : Int)) && decide ((p.2 : Int) < (items.size : Int)) && (((p.2 : Int) - a) % 1 == 0)) = true then none else some p.1).toArray) >>= _) _ _ s
  refine wpAny_bind (wpAny_updateSeq (hz := hsz) (_hz' := by rw [show (List.filterMap _ items.toList.zipIdx).toArray = (items.toList.take a).toArray from ef]; exact hz') e rfl ?_)
  refine wpAny_bind (wpAny_letGo ?_)
  first
    | exact wpAny_bind (wpAny_pure (wpAny_pure ⟨.none, rfl, wpAny_pure (h _ ef)⟩))
    | exact wpAny_pure ⟨.none, rfl, wpAny_pure (h _ ef)⟩
end
section
variable {X : Cx}
/-- del o[a:] -/
def sDelFrom (to : TE) (ti : TO) : TS := fun D σ H => to σ H fun x H1 => ti σ H1 fun y H2 => ∃ (l : Addr) (xs : List V) (a : Nat), x = .ref l ∧ y = some (a : Int) ∧ H2 l = some (.lst xs) ∧ a ≤ xs.length ∧ D.nx σ (upd H2 l (.lst (xs.take a)))
theorem ps_delFrom {o : Expr} {i : Option Expr} {to : TE} {ti : TO} {tpos p2 pos : Pos} (ho : PE X o to) (hi : PO X i ti) : PS X (.Delete [.Subscript o (.Slice i none none p2) tpos] pos) (sDelFrom to ti) := by
  refine ⟨fun pins s σ H D I h => ?_⟩
  refine wpAny_Delete (wpAny_deleteEach_cons (wpAny_delete_Subscript (thn (ho.run pins s σ H _ I h) fun u s1 ⟨x, H1, I1, rx, q1⟩ => ?_)))
  refine wpAny_Slice (thn (hi.run pins s1 σ H1 _ I1 q1) fun vl s2 ⟨y, H2, I2, pl, q2⟩ => ?_)
  rw [evalPart_none]
  refine wpAny_pure ?_
  refine wpAny_pure ?_
  have I3 : Inv X pins σ H2 { s2 with heap := s2.heap.push { cls := .type "slice", data := .fields #[vl, .none, .none] } } := I2.kept (t' := s2.toks) fun b ob q => Heap.get?_push_of_some _ q
  obtain ⟨l, xs, a, ex, ey, hH, ha, q2⟩ := q2
  subst ex
  subst ey
  cases (show u = Value.ref l from rx)
  obtain ⟨z, its, n, r, hl, e⟩ := I3.lstM hH
  refine delItem_from (a := a) e (Heap.IsSliceOf.new ..) pl (by rw [List.size_toArray]; omega) (by rw [List.size_toArray]; omega) fun f hf => ?_
  exact wpAny_deleteEach_nil ⟨σ, _, I3.lset (its' := its.take a) (t' := s2.toks) hH e hf (r.take a) (by rw [List.length_take]; omega), q2⟩
end
end Bz


set_option Elab.async false
set_option linter.all false
set_option maxRecDepth 100000
set_option maxHeartbeats 4000000
namespace Bz
open PySem PySem.Spec L2 PyProof.Rows
/-! ### a, b, *c = a list -/
section
variable {prog : Program} {w : World} {A : Around} {E : Value → Shared → Prop} {s : Shared}
theorem star_items {l : Addr} {items : Array Value} {i : Nat} {Q : List Value → Shared → Prop} (hl : s.heap.IsList l items) (hh : A.handled = none) (hi : i ≤ items.size) (hz : items.size ≤ 16384)
    (h : ∀ h' tk, Heap.ExtBut s.heap.objs.size s.heap h' → Q (items.toList.take i ++ [.ref h'.objs.size]) { s with heap := h'.push { cls := .type "list", data := .seq (items.toList.drop i).toArray }, toks := tk }) : wpAny (model prog w) A (unpackItems (.ref l) (i + 1) (some i)) Q E s := by
  have hlt : l ≠ s.heap.objs.size := by obtain ⟨o, ho, _⟩ := hl; exact Nat.ne_of_lt (Heap.lt_size ho)
  unfold unpackItems
  refine wpAny_bind ?_
  unfold notIterableAtAll
  refine wpAny_bind (wpAny_specialOf hl.typeIs slot_list_iter.lookup ?_)
  refine wpAny_pure ?_
  simp only [Bool.false_eq_true, if_false]
  refine wpAny_bind (wpAny_holding (wpAny_pyIter_list hl ?_))
  refine wpAny_bind (wpAny_holding (PySem.W.kun_draw hlt i 0 _ _ ⟨_, Heap.get?_push_size _ rfl, rfl, rfl⟩ (hl.push _) (by omega) fun h₁ hit₁ hs₁ => ?_))
  have hl₁ : h₁.IsList l items := (hl.push _).extBut hs₁.extBut hlt
  rw [Nat.zero_add] at hit₁
  have hit₁' := hit₁
  obtain ⟨oi, hoi, _⟩ := hit₁'
  have hl₁' := hl₁
  obtain ⟨ol, hol, _⟩ := hl₁'
  rw [List.drop_zero]
  have hfl : (items.toList.take i).length = i := by rw [List.length_take, Array.length_toList]; omega
  rw [if_neg (show ¬ ((items.toList.take i).length < i) by rw [hfl]; omega)]
  refine wpAny_bind (wpAny_holding (PySem.W.kun_collect (s := { s with heap := h₁ }) (T := "list_iterator") (.inr (.inr (.inl rfl))) (Walks.list (A := A.in1) hh s.heap.objs.size l hlt items) (fun j u st => st.1.typeIs) (k := i) (by omega) ⟨hit₁, hl₁⟩ (Heap.lt_size hoi) (Heap.lt_size hol) (fun h₂ tk hk => ?_) (by rw [sizeLine_eq]; omega)))
  have hrl : (items.toList.drop i).length = items.size - i := by rw [List.length_drop, Array.length_toList]
  have hmid : (items.toList.drop i).length - (i + 1 - 1 - i) = (items.toList.drop i).length := by omega
  show wpAny _ _ (if (items.toList.drop i).length < i + 1 - 1 - i then _ else _) _ _ _
  rw [if_neg (by rw [hrl]; omega)]
  show wpAny _ _ (newList ((items.toList.drop i).take ((items.toList.drop i).length - (i + 1 - 1 - i))) >>= fun d => pure (items.toList.take i ++ [d] ++ (items.toList.drop i).drop ((items.toList.drop i).length - (i + 1 - 1 - i)))) _ _ _
  rw [hmid, List.take_length, List.drop_length]
  have he : Heap.ExtBut s.heap.objs.size s.heap h₂ := fun b o hb e => hk b o hb (hs₁.extBut b o hb (Heap.get?_push_of_some _ e))
  refine wpAny_bind (wpAny_newList (s := { s with heap := h₂, toks := tk }) (wpAny_pure ?_) (by rw [hrl, sizeLine_eq]; omega))
  rw [List.append_nil]
  exact h h₂ tk he
end
section
variable {X : Cx} {pos : Pos}
def gUnlS (K : PySem.W.Frag) (n : Nat) (t : TGs) : TG := fun v σ H Q => ∃ a xs, v = .ref a ∧ SqL K H a xs ∧ n ≤ xs.length ∧ xs.length ≤ 16384 ∧ ∀ p, H p = none → t (xs.take n ++ [.ref p]) σ (upd H p (.lst (xs.drop n))) Q
theorem pgs_star {e : Expr} {es : List Expr} {t : TG} {u : TGs} {p : Pos} (h1 : PG X e t) (h2 : PGs X es u)
    (hs : (assignEach (.Starred e p :: es) X.env).map (·.2) = assign e X.env :: (assignEach es X.env).map (·.2) := by rfl) : PGs X (.Starred e p :: es) (gCons t u) := by
  refine ⟨fun pins s σ H vs us Q I r h => ?_⟩
  obtain ⟨v, vr, e1, h⟩ := h
  subst e1
  cases r with
  | cons r rr =>
    rw [hs]
    refine assignInOrder_cons (thn (h1.run pins s σ H _ _ _ I r h) fun _ s1 ⟨σ1, H1, I1, q1⟩ => ?_)
    exact h2.run pins s1 σ1 H1 _ _ Q I1 rr q1
theorem pg_unlS {es : List Expr} {k : Nat} {t : TGs} {n : Nat} (hc : X.calm = true) (h : PGs X es t)
    (hn : (assignEach es X.env).length = n + 1 := by rfl) (hst : (assignEach es X.env).findIdx? (·.1) = some n := by rfl) : PG X (.Tuple es k pos) (gUnlS X.K n t) := by
  refine ⟨fun pins s σ H v u Q I r hw => ?_⟩
  obtain ⟨a, xs, e1, hq, hl, hz, hw⟩ := hw
  subst e1
  cases r
  obtain ⟨its, rv, pl, _⟩ := I.list hq
  have hl' : s.heap.IsList a its.toArray := by
    obtain ⟨o, m, e, c, d, q⟩ := pl
    exact ⟨o, e, c, m, q⟩
  rw [PyProof.Rows.assign_Tuple]
  refine wpAny_bind (wpAny_standAt ?_)
  unfold unpack
  rw [hn, hst]
  refine wpAny_bind (wpAny_holding (star_items (hl' ) (I.ok.hd hc) (by rw [List.size_toArray, ← rv.length]; exact hl) (by rw [List.size_toArray, ← rv.length]; exact hz) fun h' tk hx => ?_))
  have I1 : Inv X pins σ H { s with heap := h', toks := tk } := I.kept (t' := tk) fun b o e => hx b o (Nat.ne_of_lt (Heap.lt_size e)) e
  have I2 := I1.lnew (t' := tk) (rv.drop n) (by rw [List.length_drop]; have : sizeLine = 16777216 := by decide
                                                omega)
  refine h.run pins _ σ _ (xs.take n ++ [.ref h'.objs.size]) _ Q I2 ?_ (hw _ I1.fresh)
  rw [show its.toArray.toList = its from rfl]
  exact (rv.take n).append (.cons rfl .nil)
/-! ### C.m(e, ..), m a def of the class at C -/
def tCallC (K : PySem.W.Frag) (f : Addr) (m : Str) (ta : TE) (sp : Sp) (E : XK) (t : TA) : TE := fun σ H Q => ta σ H fun x H1 => ∃ C mc, x = .ref C ∧ ClX.CRead K C mc ∧ ClX.CVal K C mc m (.ref f) (.ref f) ∧ t σ H1 fun vs H2 => sp vs H2 Q E
variable {CX : CXT} {k : Nat} {f : Addr} {fd : FuncData} {ps : List Str} {sp : Sp} {E : XK} {o e : Expr} {es : List Expr} {m : Str} {apos : Pos} {ta : TE} {t : TA} {pl : Sem Bool}
theorem pe_callC (he : PE X o ta) (F : FnOk X.prog X.w X.K X.mg X.base CX k f fd ps sp) (hr : Room k X.A) (hk : PySem.W.keepIn X.K (.ref f) = true) (hb : Binds X.K fd ps []) (hx : Passes CX X E) (ha : PA X (e :: es) t)
    (hst : starEach (e :: es) X.env = (false, eval e X.env) :: starEach es X.env := by rfl) (hpl : (backTo pos (starEach es X.env)).any (·.1) = false := by rfl)
    (ht : eval (.Call (.Attribute o m apos) (e :: es) [] pos) X.env = (do
      let ov ← eval o X.env
      standAt apos.atName
      let (f, first) ← holding [ov] (getMethod ov m pl)
      callWith pos f first (backTo pos (starEach (e :: es) X.env)) (backToKw pos (keywordEach [] X.env))) := by rfl) :
    PE X (.Call (.Attribute o m apos) (e :: es) [] pos) (tCallC X.K f m ta sp E t) := by
  refine ⟨fun pins s σ H Q I h => ?_⟩
  refine PySem.W.methodCall_KW (pl := pl) (thn (he.run pins s σ H _ I h) fun u s1 ⟨x, H1, I1, rx, C, mc, ex, r, cv, q⟩ => ?_) ht
  subst ex
  obtain rfl : u = Value.ref C := rx
  refine PySem.W.method_cls I1.kIn r.ga (ClX.getcval_ok I1 r cv fun s2 I2 => ?_)
  refine PySem.W.callWith_K (first := []) (h₀ := X.base) I2.ok.mod.kin hk (thn (ha.run pos pins s2 σ H1 _ I2 q) fun us s3 ⟨vs, H3, I3, r3, q3⟩ => ⟨I3.kIn, ?_⟩) hst hpl
  exact run_fn F hr hb .nil hx I3 r3 (by rw [List.append_nil]; exact q3)
end
end Bz


set_option Elab.async false
set_option linter.all false
set_option maxRecDepth 100000
set_option maxHeartbeats 4000000
namespace Bz
open PySem PySem.Spec L2 PyProof.Rows
/-! ### zip(a tuple, a list) -/
def ItzM (K : PySem.W.Frag) (a b : Addr) : It :=
  ⟨fun i H => ∃ (xs ys : List V) (x y : V), SqT K H a xs ∧ SqL K H b ys ∧ xs[i]? = some x ∧ ys[i]? = some y,
    fun i H v H' => ∃ T x y, v = .ref T ∧ H T = none ∧ H' = upd H T (.tup [x, y]) ∧ (∀ xs, SqT K H a xs → xs[i]? = some x) ∧ ∀ ys, SqL K H b ys → ys[i]? = some y,
    fun i H => ∃ xs ys : List V, SqT K H a xs ∧ SqL K H b ys ∧ xs.length = i ∧ ys.length = i⟩
def tnM (a b z T O j k : Addr) (i : Nat) (h : Heap) : Prop := IsZip h z T O .none ∧ IsTupOf2 h T (.ref j) (.ref k) ∧ (∃ x y, IsTupOf2 h O x y) ∧ h.IsTupleIter j a i ∧ h.IsListIter k b i
theorem sep_of {a b z T O j k : Addr} (D : ZipApart z T O j k a b) : ZipSep2 z T O j k [j, a] [k, b] where
  TIz := D.TIz
  TOz := D.TOz
  TITO := D.TITO
  TIi1 := D.TIi1
  mem1 := List.mem_cons_self ..
  zf1 := by
    intro m
    rcases List.mem_cons.mp m with e | e
    · exact D.i1z e.symm
    · exact D.l1z (List.mem_singleton.mp e).symm
  Tf1 := by
    intro m
    rcases List.mem_cons.mp m with e | e
    · exact D.TOi1 e
    · exact D.l1TO (List.mem_singleton.mp e).symm
  TIi2 := D.TIi2
  mem2 := List.mem_cons_self ..
  zf2 := by
    intro m
    rcases List.mem_cons.mp m with e | e
    · exact D.i2z e.symm
    · exact D.l2z (List.mem_singleton.mp e).symm
  Tf2 := by
    intro m
    rcases List.mem_cons.mp m with e | e
    · exact D.TOi2 e
    · exact D.l2TO (List.mem_singleton.mp e).symm
  sep1_2 := by
    intro m
    rcases List.mem_cons.mp m with e | e
    · exact D.i12 e
    · exact D.l2i1 (List.mem_singleton.mp e).symm
  sep2_1 := by
    intro m
    rcases List.mem_cons.mp m with e | e
    · exact D.i12 e.symm
    · exact D.l1i2 (List.mem_singleton.mp e).symm
theorem five {z T O j k c : Addr} (h : c ∈ [z, T, O, j, k]) : c = z ∨ c = T ∨ c = O ∨ c = j ∨ c = k := by simpa using h
theorem turn_zipM {P : Program} {w : World} {K : PySem.W.Frag} {elts : List Expr} {kk : Nat} {tpos : Pos} {a b z T O j k : Addr} (D : ZipApart z T O j k a b) :
    Turn P w K (.Tuple elts kk tpos) (ItzM K a b) [z, T, O, j, k] z (tnM a b z T O j k) where
  mem := List.mem_cons_self ..
  obj := fun i h st c m => by
    obtain ⟨gz, gT, ⟨_, _, gO⟩, ⟨u1, e1, _, d1⟩, ⟨u2, e2, _, d2⟩⟩ := st
    rcases five m with rfl | rfl | rfl | rfl | rfl
    · exact ⟨_, gz, fun _ q => nomatch q⟩
    · exact ⟨_, gT, fun _ q => nomatch q⟩
    · exact ⟨_, gO, fun _ q => nomatch q⟩
    · exact ⟨u1, e1, fun _ q => by rw [d1] at q; cases q⟩
    · exact ⟨u2, e2, fun _ q => by rw [d2] at q; cases q⟩
  keep := fun i h h' st kp => by
    obtain ⟨gz, gT, ⟨x, y, gO⟩, g1, g2⟩ := st
    have m : ∀ c, (c = z ∨ c = T ∨ c = O ∨ c = j ∨ c = k) → c ∈ [z, T, O, j, k] := fun c q => by simpa using q
    exact ⟨kp z (m _ (.inl rfl)) _ gz, kp T (m _ (.inr (.inl rfl))) _ gT, ⟨x, y, kp O (m _ (.inr (.inr (.inl rfl)))) _ gO⟩, g1.at fun o q => kp j (m _ (.inr (.inr (.inr (.inl rfl))))) o q, g2.at fun o q => kp k (m _ (.inr (.inr (.inr (.inr rfl))))) o q⟩
  item := by
    intro X eP ew eK hc i pins s σ H E I free st go
    subst eP ew eK
    obtain ⟨gz, gT, ⟨x0, y0, gO⟩, g1, g2⟩ := st
    obtain ⟨xs, ys, x, y, qx, qy, hx, hy⟩ := go
    obtain ⟨us, r1, p1, _⟩ := I.tuple qx
    obtain ⟨vs, r2, p2, _⟩ := I.list qy
    obtain ⟨u, hu, ru⟩ := r1.get hx
    obtain ⟨v, hv, rv⟩ := r2.get hy
    have lu : i < us.toArray.size := by rw [List.size_toArray]; exact (List.getElem?_eq_some_iff.mp hu).1
    have lv : i < vs.toArray.size := by rw [List.size_toArray]; exact (List.getElem?_eq_some_iff.mp hv).1
    have lz : z < s.heap.objs.size := Heap.lt_size gz
    refine wpAny_pyNext_zipD2_item (sep_of D) (Draws.tuple (A := X.A.in1) (I.ok.hd hc) j a D.l1i1 us.toArray) (Draws.list (A := X.A.in1) (I.ok.hd hc) k b D.l2i2 vs.toArray) gz gT gO ⟨g1, p1⟩ ⟨g2, p2.isList⟩ lu lv fun u' v' h1 tk eu ev nz nO n1 n2 nT sz kp => ?_
    obtain rfl : u = u' := by
      have q : us.toArray[i]? = some u' := eu
      rw [List.getElem?_toArray, hu] at q
      exact Option.some.inj q
    obtain rfl : v = v' := by
      have q : vs.toArray[i]? = some v' := ev
      rw [List.getElem?_toArray, hv] at q
      exact Option.some.inj q
    refine ⟨_, rfl, wpAny_letOwnedTupleGo_zip (s := { s with heap := h1, toks := tk }) nz fun h2 nz2 sb => ?_⟩
    have nT2 : h2.get? s.heap.objs.size = some { cls := .type "tuple", data := .seq #[u, v] } := (sb.2 _ (Nat.ne_of_gt lz)).trans nT
    have ok : ObjOk X.prog X.w (upd H s.heap.objs.size (.tup [x, y])) h2 s.heap.objs.size (.tup [x, y]) := ⟨by show 2 ≤ sizeLine; decide, [u, v], .cons ru (.cons rv .nil), ⟨_, nT2, rfl, _, rfl⟩⟩
    have I1 : Inv X pins σ (upd H s.heap.objs.size (.tup [x, y])) { s with heap := h2, toks := tk } := by
      refine I.turnedNew (t' := tk) (ch := [z, T, O, j, k]) (fun c o n q => ?_) free (Nat.le_refl _) ok
      have nn : ∀ d, (d = z ∨ d = T ∨ d = O ∨ d = j ∨ d = k) → c ≠ d := fun d q e => n (by rw [e]; simpa using q)
      exact (sb.2 c (nn z (.inl rfl))).trans (kp c o (nn z (.inl rfl)) (nn O (.inr (.inr (.inl rfl)))) (nn j (.inr (.inr (.inr (.inl rfl))))) (nn k (.inr (.inr (.inr (.inr rfl))))) q)
    refine ⟨.ref s.heap.objs.size, _, I1, rfl, ⟨_, x, y, rfl, I.hok.fresh (Nat.le_refl _), rfl, fun l hl => by rw [I.tuple_inj hl qx]; exact hx, fun l hl => by rw [I.list_inj hl qy]; exact hy⟩,
      ⟨nz2, (sb.2 _ D.TIz).trans (kp _ _ D.TIz D.TITO D.TIi1 D.TIi2 gT), ⟨u, v, (sb.2 _ D.TOz).trans nO⟩, n1.1.at fun o q => (sb.2 _ D.i1z).trans q, n2.1.at fun o q => (sb.2 _ D.i2z).trans q⟩, fun c m => ?_⟩
    have lt : c < s.heap.objs.size := by
      rcases five m with rfl | rfl | rfl | rfl | rfl
      · exact lz
      · exact Heap.lt_size gT
      · exact Heap.lt_size gO
      · obtain ⟨_, e, _⟩ := g1; exact Heap.lt_size e
      · obtain ⟨_, e, _⟩ := g2; exact Heap.lt_size e
    rw [upd_ne (Nat.ne_of_lt lt)]
    exact (free c m).1
  done := by
    intro X eP ew eK hc i pins s σ H E I free st stop
    subst eP ew eK
    obtain ⟨gz, gT, ⟨x0, y0, gO⟩, g1, g2⟩ := st
    obtain ⟨xs, ys, qx, qy, lx, ly⟩ := stop
    obtain ⟨us, r1, p1, _⟩ := I.tuple qx
    obtain ⟨vs, r2, p2, _⟩ := I.list qy
    have lu : i = us.toArray.size := by rw [List.size_toArray, ← r1.length, lx]
    have lv : i = vs.toArray.size := by rw [List.size_toArray, ← r2.length, ly]
    refine wpAny_pyNext_zipD2_end (sep_of D) (Draws.tuple (A := X.A.in1) (I.ok.hd hc) j a D.l1i1 us.toArray) (Draws.list (A := X.A.in1) (I.ok.hd hc) k b D.l2i2 vs.toArray) gz gT gO (i := i) ⟨g1, p1⟩ ⟨g2, p2.isList⟩ (Nat.le_of_eq lu) (Nat.le_of_eq lv) (.inl lu) fun h1 tk kp => ⟨rfl, ?_⟩
    refine I.turnedL (t' := tk) (ch := [z, T, O, j, k]) (fun c o n q => ?_) free
    have nn : ∀ d, (d = z ∨ d = T ∨ d = O ∨ d = j ∨ d = k) → c ≠ d := fun d q e => n (by rw [e]; simpa using q)
    exact kp c o (nn z (.inl rfl)) (nn O (.inr (.inr (.inl rfl)))) (nn j (.inr (.inr (.inr (.inl rfl))))) (nn k (.inr (.inr (.inr (.inr rfl))))) q
  self := fun A i s Q E st h => wpAny_pyIter_zip st.1 h
def iZipM (K : PySem.W.Frag) (ta : TA) : TI := fun σ H R => ta σ H fun vs H1 => ∃ a b xs ys, vs = [.ref a, .ref b] ∧ SqT K H1 a xs ∧ SqL K H1 b ys ∧ R (ItzM K a b) H1
theorem pi_zipM {X : Cx} {e e2 : Expr} {ta : TA} {p pos tpos : Pos} {elts : List Expr} {kk : Nat} (hg : Gl X "zip") (hm : X.mg "zip" = none) (ha : PA X [e, e2] ta)
    (hs : starEach [e, e2] X.env = (false, eval e X.env) :: starEach [e2] X.env := by rfl) (hpl : (backTo pos (starEach [e2] X.env)).any (·.1) = false := by rfl) :
    PI X (.Tuple elts kk tpos) (.Call (.Name "zip" p) [e, e2] [] pos) (iZipM X.K ta) := by
  refine ⟨fun pins s σ H R I h => ?_⟩
  refine Call_ (ld_blt I hg hm PyProof.Rows.boot_zip (PyProof.Rows.callWith_type1 (thn (ha.run pos pins s σ H _ I h) fun us s1 ⟨vs, H1, I1, r1, a, b, xs, ys, ex, qx, qy, q⟩ => ?_) hs hpl))
  subst ex
  cases r1 with
  | cons ra rr =>
  cases rr with
  | cons rb rr =>
  cases rr
  cases ra
  cases rb
  obtain ⟨us, v1, p1, _⟩ := I1.tuple qx
  obtain ⟨vs, v2, p2, _⟩ := I1.list qy
  obtain ⟨o1, e1, _⟩ := id p1
  refine zip_begins2 (begins_tuple a us.toArray) (begins_list b vs.toArray) (show s1.heap.IsTuple a us.toArray from p1) p2.isList fun h1 nz nT nO n1 n2 sz kp => wpAny_pyIter_zip nz ?_
  have I2 : Inv X pins σ H1 { s1 with heap := h1 } := I1.kept (t' := s1.toks) kp
  refine ⟨s1.heap.objs.size + 4, [s1.heap.objs.size + 4, s1.heap.objs.size + 2, s1.heap.objs.size + 3, s1.heap.objs.size, s1.heap.objs.size + 1], _, _, H1, rfl, I2, turn_zipM (PySem.W.ktu_apart s1.heap.objs.size a b (Heap.lt_size e1) p2.lt), ⟨nz, nT, ⟨_, _, nO⟩, ⟨_, n1, rfl, rfl⟩, ⟨_, n2, rfl, rfl⟩⟩, fun c m => ?_, q⟩
  have le : s1.heap.objs.size ≤ c := by
    rcases five m with rfl | rfl | rfl | rfl | rfl <;> omega
  exact I1.fpOk le (I1.hok.fresh le)
theorem walk_zipM {K : PySem.W.Frag} {a b : Addr} {xs ys : List V} (hl : xs.length = ys.length) : Walk (ItzM K a b) xs.length (fun H => SqT K H a xs ∧ SqL K H b ys) (YPair (fun i => xs[i]?) (fun i => ys[i]?)) where
  goes := fun i H hi q => ⟨xs, ys, xs[i], ys[i], q.1, q.2, by simp [hi], by simp [show i < ys.length by omega]⟩
  stops := fun H q => ⟨xs, ys, q.1, q.2, rfl, hl.symm⟩
  yields := fun i H v H' hi q y => by
    obtain ⟨T, x, y, e, n, eH, f, g⟩ := y
    exact ⟨T, x, y, e, n, eH, f xs q.1, g ys q.2⟩
end Bz


set_option Elab.async false
set_option linter.all false
set_option maxRecDepth 100000
set_option maxHeartbeats 4000000
namespace Bz
open PySem PySem.Spec L2 PyProof.Rows
theorem at_int {R : Hp} {n : Int} : At R (.int n) (.int n) := rfl
theorem at_bl {R : Hp} {b : Bool} : At R (.bl b) (.bl b) := rfl
theorem at_str {R : Hp} {s : Str} : At R (.str s) (.str s) := rfl
theorem at_non {R : Hp} : At R .non .non := rfl
/-! ### expressions -/
mutual
inductive Ex where
  | num (n : Int) | flag (b : Bool) | unit | name (x : Str)
  | call (f e : Ex) | fn (x : Str) (e : Ex) | rc (h x : Str) (e : Ex) | lt (x : Str) (e f : Ex) | ite (e f g : Ex)
  | pair (e f : Ex) | fst (e : Ex) | snd (e : Ex) | op (s : Str) (e f : Ex) | nt (e : Ex) | pr (e f : Ex) | ask (o : Str) (e : Ex)
  | hd (e : Ex) (x : Str) (f : Ex) (cs : Clz)
inductive Clz where
  | nil
  | cons (o x k : Str) (g : Ex) (r : Clz)
end
/-- the names that occur free, each once, in the order of their first places -/
def addN (x : Str) (ks : List Str) : List Str := if x ∈ ks then ks else ks ++ [x]
mutual
def noted : Ex → List Str → List Str → List Str
  | .num _, _, ks => ks
  | .flag _, _, ks => ks
  | .unit, _, ks => ks
  | .name x, bs, ks => if x ∈ bs then ks else addN x ks
  | .call f e, bs, ks => noted e bs (noted f bs ks)
  | .fn x e, bs, ks => noted e (bs ++ [x]) ks
  | .rc h x e, bs, ks => noted e (bs ++ [h, x]) ks
  | .lt x e f, bs, ks => noted f (bs ++ [x]) (noted e bs ks)
  | .ite e f g, bs, ks => noted g bs (noted f bs (noted e bs ks))
  | .pair e f, bs, ks => noted f bs (noted e bs ks)
  | .fst e, bs, ks => noted e bs ks
  | .snd e, bs, ks => noted e bs ks
  | .op _ e f, bs, ks => noted f bs (noted e bs ks)
  | .nt e, bs, ks => noted e bs ks
  | .pr e f, bs, ks => noted f bs (noted e bs ks)
  | .ask _ e, bs, ks => noted e bs ks
  | .hd e x f cs, bs, ks => notedC cs bs (noted f (bs ++ [x]) (noted e bs ks))
def notedC : Clz → List Str → List Str → List Str
  | .nil, _, ks => ks
  | .cons _ x k g r, bs, ks => notedC r bs (noted g (bs ++ [x, k]) ks)
end
def insS (x : Str) : List Str → List Str
  | [] => [x]
  | y :: r => if ltCps y.cps.toList x.cps.toList then y :: insS x r else x :: y :: r
def sortS : List Str → List Str
  | [] => []
  | x :: r => insS x (sortS r)
/-- the free names of an expression, in order -/
def fv (e : Ex) : List Str := sortS (noted e [] [])
/-! ### expressions as made data; p: prepared for the machine -/
mutual
def Ex.d (p : Bool) : Ex → D
  | .num n => .tup [.str "num", .int n]
  | .flag b => .tup [.str "flag", .bl b]
  | .unit => .tup [.str "unit"]
  | .name x => .tup [.str "name", .str x]
  | .call f e => .tup [.str "call", f.d p, e.d p]
  | .fn x e => .tup (.str "fun" :: .str x :: e.d p :: if p then [.lst ((fv (.fn x e)).map D.str)] else [])
  | .rc h x e => .tup (.str "rec" :: .str h :: .str x :: e.d p :: if p then [.lst ((fv (.rc h x e)).map D.str)] else [])
  | .lt x e f => .tup [.str "let", .str x, e.d p, f.d p]
  | .ite e f g => .tup [.str "if", e.d p, f.d p, g.d p]
  | .pair e f => .tup [.str "pair", e.d p, f.d p]
  | .fst e => .tup [.str "fst", e.d p]
  | .snd e => .tup [.str "snd", e.d p]
  | .op s e f => .tup [.str "op", .str s, e.d p, f.d p]
  | .nt e => .tup [.str "not", e.d p]
  | .pr e f => .tup [.str "print", e.d p, f.d p]
  | .ask o e => .tup [.str "ask", .str o, e.d p]
  | .hd e x f cs => .tup [.str "handle", e.d p, .tup [.str x, f.d p], .tup (cs.d p)]
def Clz.d (p : Bool) : Clz → List D
  | .nil => []
  | .cons o x k g r => .tup [.str o, .str x, .str k, g.d p] :: r.d p
end
/-! ### what the machine has -/
mutual
inductive Val where
  | num (n : Int) | flag (b : Bool) | unit | pair (v w : Val) | clo (e : Ex) (env : Env) | kept (ps : Pcs)
inductive Env where
  | nil
  | cons (x : Str) (v : Val) (r : Env)
inductive Vls where
  | nil
  | cons (v : Val) (r : Vls)
inductive Frs where
  | nil
  | cons (e : Ex) (env : Env) (vs : Vls) (r : Frs)
/-- pieces, the uppermost first -/
inductive Pcs where
  | nil
  | cons (e : Ex) (env : Env) (fs : Frs) (r : Pcs)
end
def Env.keys : Env → List Str
  | .nil => []
  | .cons x _ r => x :: r.keys
mutual
def Val.d : Val → D
  | .num n => .tup [.str "num", .int n]
  | .flag b => .tup [.str "flag", .bl b]
  | .unit => .tup [.str "unit"]
  | .pair v w => .tup [.str "pair", v.d, w.d]
  | .clo e env => .tup [.str "closure", e.d true, .dct env.keys env.ds]
  | .kept ps => .tup [.str "kept", .tup [.lst ps.hd.reverse, .lst ps.fd.reverse]]
def Env.ds : Env → List D
  | .nil => []
  | .cons _ v r => v.d :: r.ds
def Vls.ds : Vls → List D
  | .nil => []
  | .cons v r => v.d :: r.ds
def Frs.d : Frs → D
  | .nil => .non
  | .cons e env vs r => .tup [.tup [e.d true, .dct env.keys env.ds, .tup vs.ds], r.d]
def Pcs.hd : Pcs → List D
  | .nil => []
  | .cons e env _ r => .tup [e.d true, .dct env.keys env.ds] :: r.hd
def Pcs.fd : Pcs → List D
  | .nil => []
  | .cons _ _ fs r => fs.d :: r.fd
end
abbrev Env.d (e : Env) : D := .dct e.keys e.ds
def Env.get : Env → Str → Option Val
  | .nil, _ => none
  | .cons y v r, x => if y = x then some v else r.get x
def Env.put : Env → Str → Val → Env
  | .nil, x, v => .cons x v .nil
  | .cons y w r, x, v => if y = x then .cons y v r else .cons y w (r.put x v)
def Env.len : Env → Nat
  | .nil => 0
  | .cons _ _ r => r.len + 1
def Pcs.len : Pcs → Nat
  | .nil => 0
  | .cons _ _ _ r => r.len + 1
def Pcs.app : Pcs → Pcs → Pcs
  | .nil, q => q
  | .cons e env fs r, q => .cons e env fs (r.app q)
theorem Pcs.app_hd : ∀ (p q : Pcs), (p.app q).hd = p.hd ++ q.hd
  | .nil, q => rfl
  | .cons e env fs r, q => by
    show D.tup [e.d true, env.d] :: (r.app q).hd = _
    rw [Pcs.app_hd r q]
    rfl
theorem Pcs.app_fd : ∀ (p q : Pcs), (p.app q).fd = p.fd ++ q.fd
  | .nil, q => rfl
  | .cons e env fs r, q => by
    show fs.d :: (r.app q).fd = _
    rw [Pcs.app_fd r q]
    rfl
theorem Pcs.len_hd : ∀ p : Pcs, p.hd.length = p.len
  | .nil => rfl
  | .cons _ _ _ r => by
    show r.hd.length + 1 = r.len + 1
    rw [Pcs.len_hd r]
theorem Pcs.len_fd : ∀ p : Pcs, p.fd.length = p.len
  | .nil => rfl
  | .cons _ _ _ r => by
    show r.fd.length + 1 = r.len + 1
    rw [Pcs.len_fd r]
theorem Env.len_keys : ∀ e : Env, e.keys.length = e.len
  | .nil => rfl
  | .cons _ _ r => by
    show r.keys.length + 1 = r.len + 1
    rw [Env.len_keys r]
theorem Env.len_ds : ∀ e : Env, e.ds.length = e.len
  | .nil => rfl
  | .cons _ _ r => by
    show r.ds.length + 1 = r.len + 1
    rw [Env.len_ds r]
/-! ### a run -/
inductive Shp where
  | int (n : Int) | bool (b : Bool) | unit | pair (a b : Shp) | fn
def Shp.d : Shp → D
  | .int n => .tup [.str "int", .int n]
  | .bool b => .tup [.str "bool", .bl b]
  | .unit => .tup [.str "unit"]
  | .pair a b => .tup [.str "pair", a.d, b.d]
  | .fn => .tup [.str "fun"]
def Val.shp : Val → Shp
  | .num n => .int n
  | .flag b => .bool b
  | .unit => .unit
  | .pair v w => .pair v.shp w.shp
  | .clo _ _ => .fn
  | .kept _ => .fn
inductive Fin where
  | steps | unh (o : Str) | val (s : Shp)
def Fin.d : Fin → D
  | .steps => .tup [.str "steps"]
  | .unh o => .tup [.str "unhandled", .str o]
  | .val s => .tup [.str "value", s.d]
def finD : Option Fin → D
  | none => .non
  | some f => f.d
structure Ms where
  left : Nat
  prints : List Int
  fin : Option Fin
  pcs : Pcs
  bot : Frs
  kept : Nat
  most : Nat
inductive Tree where
  | ex (e : Ex)
  | known (v : Val)
def Tree.d : Tree → D
  | .ex e => e.d true
  | .known v => .tup [.str "known", v.d]
def wrap (n : Int) : Int := (n + 2147483648) % 4294967296 - 2147483648
def oper (s : Str) (a b : Int) : Val :=
  if s = "+" then .num (wrap (a + b)) else if s = "-" then .num (wrap (a - b)) else if s = "*" then .num (wrap (a * b)) else if s = "<" then .flag (decide (a < b)) else .flag (decide (a = b))
def Ms.wait (m : Ms) (e : Ex) (env : Env) (vs : Vls) : Ms := match m.pcs with
  | .nil => { m with bot := .cons e env vs m.bot }
  | .cons h he fs r => { m with pcs := .cons h he (.cons e env vs fs) r }
def Ms.top (m : Ms) : Frs := match m.pcs with
  | .nil => m.bot
  | .cons _ _ fs _ => fs
def Ms.setTop (m : Ms) (fs : Frs) : Ms := match m.pcs with
  | .nil => { m with bot := fs }
  | .cons h he _ r => { m with pcs := .cons h he fs r }
def Ms.back (m : Ms) (ps : Pcs) : Ms := { m with pcs := ps.app m.pcs, most := Nat.max m.most ((ps.app m.pcs).len + 1) }
/-- the clause of a handler for an operation -/
def Clz.find : Clz → Str → Option (Str × Str × Ex)
  | .nil, _ => none
  | .cons o x k g r, p => if o = p then some (x, k, g) else r.find p
def clsOf : Ex → Clz
  | .hd _ _ _ cs => cs
  | _ => .nil
/-- the pieces down to the one that answers, what is below, its bindings and its clause -/
def Pcs.answer : Pcs → Str → Option (Pcs × Pcs × Env × Str × Str × Ex)
  | .nil, _ => none
  | .cons e env fs r, o => match (clsOf e).find o with
    | some (x, k, g) => some (.cons e env fs .nil, r, env, x, k, g)
    | none => match r.answer o with
      | none => none
      | some (p, q, t) => some (.cons e env fs p, q, t)
end Bz


set_option Elab.async false
set_option linter.all false
set_option maxRecDepth 100000
set_option maxHeartbeats 4000000
namespace Bz
open PySem PySem.Spec L2 PyProof.Rows
/-! ### order of texts -/
theorem lt_tr : ∀ {a b c : List Nat}, ltCps b a = false → ltCps c b = false → ltCps c a = false
  | [], [], [], _, _ => rfl
  | [], [], _ :: _, _, h => by simp [ltCps] at h ⊢
  | [], _ :: _, [], _, h => by simp [ltCps] at h
  | [], _ :: _, _ :: _, _, _ => by simp [ltCps]
  | _ :: _, [], [], h, _ => by simp [ltCps] at h
  | _ :: _, [], _ :: _, h, _ => by simp [ltCps] at h
  | _ :: _, _ :: _, [], _, h => by simp [ltCps] at h
  | x :: xs, y :: ys, z :: zs, h, h' => by
    simp only [ltCps, Bool.or_eq_false_iff, Bool.and_eq_false_iff, decide_eq_false_iff_not, beq_eq_false_iff_ne] at h h' ⊢
    obtain ⟨h1, h2⟩ := h
    obtain ⟨h3, h4⟩ := h'
    refine ⟨by omega, ?_⟩
    by_cases e : z = x
    · right
      have e1 : y = x := by omega
      have e2 : z = y := by omega
      exact lt_tr (h2.resolve_left fun q => q e1) (h4.resolve_left fun q => q e2)
    · exact .inl e
theorem lt_anti : ∀ {a b : List Nat}, ltCps a b = false → ltCps b a = false → a = b
  | [], [], _, _ => rfl
  | [], _ :: _, h, _ => by simp [ltCps] at h
  | _ :: _, [], _, h => by simp [ltCps] at h
  | x :: xs, y :: ys, h, h' => by
    simp only [ltCps, Bool.or_eq_false_iff, Bool.and_eq_false_iff, decide_eq_false_iff_not, beq_eq_false_iff_ne] at h h'
    obtain ⟨h1, h2⟩ := h
    obtain ⟨h3, h4⟩ := h'
    have e : x = y := by omega
    rw [e, lt_anti (h2.resolve_left fun q => q e) (h4.resolve_left fun q => q e.symm)]
def leS (a b : Str) : Prop := ltCps b.cps.toList a.cps.toList = false
theorem leS_tr {a b c : Str} (h : leS a b) (h' : leS b c) : leS a c := lt_tr h h'
theorem leS_anti {a b : Str} (h : leS a b) (h' : leS b a) : a = b := by
  have e : a.cps.toList = b.cps.toList := lt_anti h' h
  cases a
  cases b
  have e2 := congrArg List.toArray e
  simpa using e2
theorem rising_pw : ∀ {l : List Str} {p : Str}, risingS p l = true → (p :: l).Pairwise leS
  | [], p, _ => by simp
  | x :: r, p, h => by
    unfold risingS at h
    rw [Bool.and_eq_true] at h
    have h1 : leS p x := by
      unfold leS
      simpa using h.1
    have ih := rising_pw h.2
    refine List.Pairwise.cons (fun y hy => ?_) ih
    rcases List.mem_cons.mp hy with e | e
    · rw [e]; exact h1
    · exact leS_tr h1 ((List.pairwise_cons.mp ih).1 y e)
theorem sorted_pw {l : List Str} (h : sortedS l = true) : l.Pairwise leS := by
  cases l with
  | nil => exact List.Pairwise.nil
  | cons x r => exact rising_pw h
theorem pw_uniq : ∀ {l m : List Str}, l.Pairwise leS → m.Pairwise leS → l.Nodup → m.Nodup → (∀ s, s ∈ l ↔ s ∈ m) → l = m
  | [], [], _, _, _, _, _ => rfl
  | [], y :: m, _, _, _, _, h => by have := (h y).mpr (List.mem_cons_self ..); cases this
  | x :: l, [], _, _, _, _, h => by have := (h x).mp (List.mem_cons_self ..); cases this
  | x :: l, y :: m, h1, h2, n1, n2, h => by
    have p1 := List.pairwise_cons.mp h1
    have p2 := List.pairwise_cons.mp h2
    have q1 := List.nodup_cons.mp n1
    have q2 := List.nodup_cons.mp n2
    have e : x = y := by
      rcases List.mem_cons.mp ((h x).mp (List.mem_cons_self ..)) with e | e
      · exact e
      · rcases List.mem_cons.mp ((h y).mpr (List.mem_cons_self ..)) with e' | e'
        · exact e'.symm
        · exact leS_anti (p1.1 y e') (p2.1 x e)
    subst e
    rw [pw_uniq p1.2 p2.2 q1.2 q2.2 fun s => ?_]
    constructor
    · intro hs
      rcases List.mem_cons.mp ((h s).mp (List.mem_cons_of_mem _ hs)) with e | e
      · subst e; exact absurd hs q1.1
      · exact e
    · intro hs
      rcases List.mem_cons.mp ((h s).mpr (List.mem_cons_of_mem _ hs)) with e | e
      · subst e; exact absurd hs q2.1
      · exact e
theorem inV_str (s : Str) : ∀ w : List Str, inV (.str s) (w.map V.str) = decide (s ∈ w)
  | [] => rfl
  | x :: r => by
    show (eqV (.str x) (.str s) || inV (.str s) (r.map V.str)) = _
    rw [inV_str s r]
    show ((x == s) || decide (s ∈ r)) = _
    by_cases e : x = s
    · subst e
      simp
    · have e1 : (x == s) = false := by simpa using e
      rw [e1, Bool.false_or]
      apply decide_eq_decide.mpr
      rw [List.mem_cons]
      constructor
      · exact .inr
      · rintro (q | q)
        · exact absurd q.symm e
        · exact q
theorem flat_str (w : List Str) : (w.map V.str).all flatV = true := by
  rw [List.all_eq_true]
  intro x hx
  obtain ⟨y, _, rfl⟩ := List.mem_map.mp hx
  rfl

theorem lt_asy : ∀ {a b : List Nat}, ltCps a b = true → ltCps b a = false
  | [], [], h => by simp [ltCps] at h
  | [], _ :: _, _ => by simp [ltCps]
  | _ :: _, [], h => by simp [ltCps] at h
  | x :: xs, y :: ys, h => by
    simp only [ltCps, Bool.or_eq_true, Bool.and_eq_true, decide_eq_true_eq, beq_iff_eq] at h
    simp only [ltCps, Bool.or_eq_false_iff, Bool.and_eq_false_iff, decide_eq_false_iff_not, beq_eq_false_iff_ne]
    rcases h with h | ⟨e, h⟩
    · exact ⟨by omega, .inl (by omega)⟩
    · exact ⟨by omega, .inr (lt_asy h)⟩
theorem insS_mem (x s : Str) : ∀ l : List Str, s ∈ insS x l ↔ s = x ∨ s ∈ l
  | [] => by simp [insS]
  | y :: r => by
    have ih := insS_mem x s r
    unfold insS
    split
    · rw [List.mem_cons, ih, List.mem_cons]
      constructor
      · rintro (h | h | h)
        · exact .inr (.inl h)
        · exact .inl h
        · exact .inr (.inr h)
      · rintro (h | h | h)
        · exact .inr (.inl h)
        · exact .inl h
        · exact .inr (.inr h)
    · rw [List.mem_cons]
theorem insS_pw (x : Str) : ∀ {l : List Str}, l.Pairwise leS → (insS x l).Pairwise leS
  | [], _ => by simp [insS]
  | y :: r, h => by
    obtain ⟨h1, h2⟩ := List.pairwise_cons.mp h
    unfold insS
    split
    · rename_i c
      refine List.pairwise_cons.mpr ⟨fun z hz => ?_, insS_pw x h2⟩
      rcases (insS_mem x z r).mp hz with e | e
      · rw [e]; exact lt_asy c
      · exact h1 z e
    · rename_i c
      have c : leS x y := by unfold leS; simpa using c
      refine List.pairwise_cons.mpr ⟨fun z hz => ?_, h⟩
      rcases List.mem_cons.mp hz with e | e
      · rw [e]; exact c
      · exact leS_tr c (h1 z e)
theorem insS_nd {x : Str} : ∀ {l : List Str}, x ∉ l → l.Nodup → (insS x l).Nodup
  | [], _, _ => by simp [insS]
  | y :: r, n, h => by
    obtain ⟨h1, h2⟩ := List.nodup_cons.mp h
    unfold insS
    split
    · refine List.nodup_cons.mpr ⟨fun m => ?_, insS_nd (fun m => n (List.mem_cons_of_mem _ m)) h2⟩
      rcases (insS_mem x y r).mp m with e | e
      · exact n (by rw [e]; exact List.mem_cons_self ..)
      · exact h1 e
    · exact List.nodup_cons.mpr ⟨n, h⟩
theorem sortS_mem (s : Str) : ∀ l : List Str, s ∈ sortS l ↔ s ∈ l
  | [] => Iff.rfl
  | x :: r => by
    show s ∈ insS x (sortS r) ↔ _
    rw [insS_mem, sortS_mem s r, List.mem_cons]
theorem sortS_pw : ∀ l : List Str, (sortS l).Pairwise leS
  | [] => List.Pairwise.nil
  | x :: r => insS_pw x (sortS_pw r)
theorem sortS_nd : ∀ {l : List Str}, l.Nodup → (sortS l).Nodup
  | [], _ => List.nodup_nil
  | x :: r, h => by
    obtain ⟨h1, h2⟩ := List.nodup_cons.mp h
    exact insS_nd (fun m => h1 ((sortS_mem x r).mp m)) (sortS_nd h2)
theorem sort_uniq {ys ks : List Str} (p : ys.Perm ks) (s : sortedS ys = true) (n : ks.Nodup) : ys = sortS ks :=
  pw_uniq (sorted_pw s) (sortS_pw ks) (p.nodup_iff.mpr n) (sortS_nd n) fun x => by rw [sortS_mem, p.mem_iff]
theorem ats_str {R : Hp} : ∀ {bs : List Str} {vs : List V}, Ats R (bs.map D.str) vs → vs = bs.map V.str
  | [], _, h => h
  | b :: bs, _, ⟨v, r, e, h, a⟩ => by rw [e, ats_str (bs := bs) a, show v = V.str b from h]; rfl
theorem str_ats {R : Hp} : ∀ (bs : List Str), Ats R (bs.map D.str) (bs.map V.str)
  | [] => rfl
  | b :: bs => ⟨_, _, rfl, rfl, str_ats bs⟩
/-- a dict whose keys are names and whose values are True -/
def nkK (ks : List Str) : List (Key × V) := ks.map fun x => ((Sum.inr x : Key), V.bl true)
theorem nkK_put (x : Str) (ks : List Str) : putK (nkK ks) (Sum.inr x : Key) (V.bl true) = nkK (addN x ks) := by
  have ea : ((nkK ks).any fun kv => decide (kv.1 = (Sum.inr x : Key))) = decide (x ∈ ks) := by
    unfold nkK
    rw [List.any_map]
    induction ks with
    | nil => rfl
    | cons y r ih =>
      rw [List.any_cons, ih]
      show (decide ((Sum.inr y : Key) = Sum.inr x) || decide (x ∈ r)) = _
      rw [← Bool.decide_or]
      apply decide_eq_decide.mpr
      rw [List.mem_cons]
      exact ⟨fun q => q.imp (fun e => (Sum.inr.inj e).symm) id, fun q => q.imp (fun e => by rw [e]) id⟩
  unfold putK addN
  rw [ea]
  by_cases c : x ∈ ks
  · rw [if_pos (decide_eq_true c), if_pos c]
    have : ∀ l : List Str, (nkK l).map (fun kv => if kv.1 = (Sum.inr x : Key) then (kv.1, V.bl true) else kv) = nkK l := fun l => by
      unfold nkK
      rw [List.map_map]
      refine List.map_congr_left fun y _ => ?_
      show (if (Sum.inr y : Key) = Sum.inr x then ((Sum.inr y : Key), V.bl true) else _) = _
      split <;> rfl
    exact this ks
  · rw [if_neg (by rw [decide_eq_false c]; exact Bool.false_ne_true), if_neg c]
    unfold nkK
    rw [List.map_append]
    rfl
end Bz


set_option Elab.async false
set_option linter.all false
set_option maxRecDepth 100000
set_option maxHeartbeats 4000000
namespace Rd
open PySem PySem.Spec L2 PyProof.Rows
section
variable {prog : Program} {w : World} {κ : Type} [DecidableEq κ] {kn : KeyKind prog w κ} {A : Around} {E : Value → Shared → Prop} {s : Shared}
/-- what is stored at a key of a table told by its pairs -/
theorem put_of {d : Addr} {ps : List (κ × Value)} {k : κ} {kv v : Value} {Q : Unit → Shared → Prop} (ik : kn.is k kv = true) (T : s.heap.DictOf kn d ps) (z : ps.length ≤ sizeLine)
    (q : ∀ h2, h2.DictOf kn d (stored ps k v) → Heap.SameBut d s.heap h2 → Q () { s with heap := h2 }) : wpAny (model prog w) A (dictPut d (kn.hash k) kv v) Q E s := by
  obtain ⟨o, ent, ep, t1, t2, t3, t4, t5, t6⟩ := T
  have ez : ent.size ≤ sizeLine := by
    have a1 := t5.length
    simp at a1
    omega
  have ei : ent.findIdx? (fun x => kn.is k x.key) = ps.findIdx? fun p => decide (p.1 = k) := by
    rw [← t5.findIdx k]
    obtain ⟨l⟩ := ent
    simp
  unfold dictPut
  refine wpAny_bind (wpAny_dictFind_of ik t1 t3 t4 ?_)
  cases e : ent.findIdx? fun x => kn.is k x.key with
  | some i =>
    have yes : (ps.any fun p => decide (p.1 = k)) = true := any_of_findIdx_some (ei ▸ e)
    refine wpAny_updateDict t1 t3 (q _ ⟨_, _, ep, Heap.get?_update_self _ t1 (Obj.isFreed_of_dict (Obj.data_mapDict t3 _)), t2.mapDict _, Obj.data_mapDict t3 _, t4.modify _ _, ?_, ?_⟩ (Heap.SameBut.update ..))
    · have el : ent.toList.findIdx? (fun x => kn.is k x.key) = some i := by
        rw [← e]
        obtain ⟨l⟩ := ent
        simp
      have m := t5.modify t6 el v
      rw [stored, if_pos yes]
      obtain ⟨l⟩ := ent
      simpa using m
    · rw [stored, if_pos yes, keys_map_store]
      exact t6
  | none =>
    have nk : k ∉ ps.map (·.1) := not_mem_of_findIdx_none (ei ▸ e)
    have no : ¬ (ps.any fun p => decide (p.1 = k)) = true := fun a => by
      obtain ⟨p, hp, hk⟩ := List.any_eq_true.mp a
      exact nk (List.mem_map.mpr ⟨p, hp, of_decide_eq_true hk⟩)
    refine wpAny_updateDictKeys (hz := ez) t1 t3 (q _ ⟨_, _, ep + 1, Heap.get?_update_self _ t1 (Obj.isFreed_of_dict (Obj.data_mapDictKeys t3 _)), t2.mapDictKeys _, Obj.data_mapDictKeys t3 _, t4.push ik _, ?_, ?_⟩ (Heap.SameBut.update ..))
    · have m := t5.append ik (kn.hash k) v
      rw [stored, if_neg no]
      obtain ⟨l⟩ := ent
      simpa using m
    · rw [stored, if_neg no, List.map_append]
      refine List.nodup_append.mpr ⟨t6, by simp, fun a ha b hb eab => nk ?_⟩
      rw [List.mem_singleton.mp hb] at eab
      rw [← show a = k from eab]
      exact ha
end
end Rd


set_option Elab.async false
set_option linter.all false
set_option maxRecDepth 100000
set_option maxHeartbeats 4000000
namespace Rd
open PySem PySem.Spec L2 PyProof.Rows
section
variable {prog : Program} {w : World} {A : Around} {E : Value → Shared → Prop} {s : Shared}
theorem noref {k : Key} {v : Value} (h : (mixKind prog w).is k v = true) : ∀ a, v ≠ .ref a := by
  intro a e
  subst e
  rcases keyIs_shape h with ⟨_, _, _, e⟩ | ⟨_, _, _, e⟩ <;> cases e
/-- a plain table is merged into another one -/
theorem merge_of {d o : Addr} {ps qs : List (Key × Value)} {Q : Unit → Shared → Prop} (ne : d ≠ o) (ns : (o == sysModules) = false) (Td : s.heap.DictOf (mixKind prog w) d ps) (To : s.heap.DictOf (mixKind prog w) o qs) (z : ps.length + qs.length ≤ sizeLine)
    (q : ∀ h2, h2.DictOf (mixKind prog w) d (merged ps qs) → Heap.SameBut d s.heap h2 → Q () { s with heap := h2 }) : wpAny (model prog w) A (mergeMapping d (.ref o) false) Q E s := by
  obtain ⟨od, ed, pd, d1, d2, d3, d4, d5, d6⟩ := id Td
  obtain ⟨oo, eo, po, o1, o2, o3, o4, o5, o6⟩ := id To
  have lo : qs.length = eo.size := by rw [← o5.length]; simp
  unfold mergeMapping
  refine wpAny_bind (wpAny_isInstance To.typeIs isSubtype_dict_dict ?_)
  simp only [if_true]
  refine wpAny_bind (wpAny_specialOf To.typeIs PySem.F.slot_dict_iter.lookup ?_)
  simp only [beq_self_eq_true, pure_bind, ns, Bool.false_eq_true, if_false]
  refine wpAny_bind (wpAny_dictEntries d1 d3 ?_)
  have rest : wpAny (model prog w) A (do
      let l ← dictEntries o
      let ep ← dictEpoch o
      forIn (List.range l.size) PUnit.unit fun i (_ : PUnit) => (do
        let l2 ← dictEntries o
        match l2[i]? with
        | some x => do
          holding [x.key, x.val] (dictPut d x.hash x.key x.val)
          let ep2 ← dictEpoch o
          if (ep2 != ep) = true then do
            (unsupported "dict.changed-during-merge" : Sem PUnit)
            pure (ForInStep.yield PUnit.unit)
          else pure (ForInStep.yield PUnit.unit)
        | _ => do
          (unsupported "dict.changed-during-merge" : Sem PUnit)
          pure (ForInStep.yield PUnit.unit) : Sem (ForInStep PUnit))
      pure ()) Q E s := by
    refine wpAny_bind (wpAny_dictEntries o1 o3 (wpAny_bind (wpAny_dictEpoch o1 o3 (wpAny_bind ?_))))
    refine wpAny_forIn_list _ (fun l _ s2 => ∃ h2 i, s2 = { s with heap := h2 } ∧ l = (List.range eo.size).drop i ∧ i ≤ eo.size ∧ h2.DictOf (mixKind prog w) d (merged ps (qs.take i)) ∧ h2.get? o = some oo ∧ Heap.SameBut d s.heap h2) _ ?_ ?_ _ _
      ⟨s.heap, 0, rfl, rfl, Nat.zero_le _, Td, o1, Heap.SameBut.refl _ _⟩
    · rintro x l b s2 ⟨h2, i, rfl, el, hi, T2, O2, S2⟩
      have hlt : i < eo.size := by
        rcases Nat.lt_or_ge i eo.size with a | a
        · exact a
        · rw [List.drop_eq_nil_of_le (by rw [List.length_range]; exact a)] at el
          cases el
      rw [List.drop_eq_getElem_cons (by rw [List.length_range]; exact hlt)] at el
      injection el with e1 e2
      rw [List.getElem_range] at e1
      subst e1
      refine wpAny_bind (wpAny_dictEntries O2 o3 ?_)
      rw [Array.getElem?_eq_getElem hlt]
      have hq : qs[x]? = some (qs[x]'(by rw [lo]; exact hlt)) := List.getElem?_eq_getElem _
      generalize qs[x]'(by rw [lo]; exact hlt) = kv at hq
      obtain ⟨ky, vl⟩ := kv
      obtain ⟨ik, iv⟩ := o5.get? (e := eo[x]) (by simp [hlt]) hq
      obtain ⟨k2, ik2, hh⟩ := o4 eo[x] (Array.getElem_mem hlt)
      have ek : k2 = ky := (mixKind prog w).inj _ _ _ ik2 ik
      subst ek
      show wpAny _ _ (holding [eo[x].key, eo[x].val] (dictPut d eo[x].hash eo[x].key eo[x].val) >>= _) _ _ _
      rw [hh, iv]
      refine wpAny_bind (wpAny_holding (put_of ik T2 (by
        have a1 := merged_length_le ps (qs.take x)
        have a2 : (qs.take x).length ≤ qs.length := by rw [List.length_take]; omega
        omega) fun h3 T3 S3 => ?_))
      have O3 : h3.get? o = some oo := (S3.2 o (Ne.symm ne)).trans O2
      refine wpAny_bind (wpAny_dictEpoch O3 o3 ?_)
      rw [if_neg (by simp)]
      exact wpAny_pure ⟨h3, x + 1, rfl, e2, hlt, by rw [merged_take_succ ps qs x (k2, vl) hq]; exact T3, O3, S2.trans S3⟩
    · rintro b s2 ⟨h2, i, rfl, el, hi, T2, O2, S2⟩
      have hin : i = eo.size := by
        rcases Nat.lt_or_ge i eo.size with a | a
        · rw [List.drop_eq_getElem_cons (by rw [List.length_range]; exact a)] at el
          cases el
        · omega
      rw [hin, ← lo, List.take_length] at T2
      exact wpAny_pure (q h2 T2 S2)
  by_cases he : ed.isEmpty = true
  · rw [if_pos he]
    refine wpAny_bind (wpAny_dictEntries o1 o3 (wpAny_bind ?_))
    refine wpAny_forIn_array' _ (fun l _ s2 => s2 = s ∧ ∀ x ∈ l, x ∈ eo) _ ?_ ?_ _ _ ⟨rfl, fun x hx => Array.mem_toList_iff.mp hx⟩
    · rintro x l b s2 ⟨es, hl⟩
      subst es
      obtain ⟨ky, ik, _⟩ := o4 x (hl x (List.mem_cons_self ..))
      have nr := noref ik
      cases ex : x.key with
      | ref a => exact absurd ex (nr a)
      | _ => exact wpAny_pure ⟨rfl, fun y hy => hl y (List.mem_cons_of_mem _ hy)⟩
    · rintro b s2 ⟨es, _⟩
      subst es
      exact rest
  · rw [if_neg he]
    exact rest
end
end Rd


set_option Elab.async false
set_option linter.all false
set_option maxRecDepth 100000
set_option maxHeartbeats 4000000
namespace Rd
open PySem PySem.Spec L2 PyProof.Rows
section
variable {prog : Program} {w : World} {A : Around} {E : Value → Shared → Prop} {s : Shared}
theorem gather {d : Addr} (f : (Option (Sem Value) × Sem Value) → (Option Addr × List (Sem Value × Sem Value)) → Sem (ForInStep (Option Addr × List (Sem Value × Sem Value))))
    (hf : ∀ (p : Sem Value × Sem Value) (r : List (Sem Value × Sem Value)), r.length + 1 < 17 → f (some p.1, p.2) (some d, r) = pure (.yield (some d, r ++ [p]))) :
    ∀ (l r : List (Sem Value × Sem Value)), r.length + l.length < 17 → forIn (l.map fun p => (some p.1, p.2)) (some d, r) f = pure (some d, r ++ l)
  | [], r, _ => by simp
  | p :: l, r, h => by
    rw [List.length_cons] at h
    rw [List.map_cons, List.forIn_cons, hf p r (by omega), pure_bind]
    show forIn (l.map fun p => (some p.1, p.2)) (some d, r ++ [p]) f = _
    rw [gather f hf l (r ++ [p]) (by rw [List.length_append]; simp; omega), List.append_assoc]
    rfl
theorem disp_walk {v0 : Sem Value} {ps : List (Sem Value × Sem Value)} {Q : Value → Shared → Prop} (h0 : ps ≠ []) (hl : ps.length < 17)
    (h : wpAny (model prog w) A v0 (fun m s1 => wpAny (model prog w) A (mergeMapping s.heap.objs.size m false) (fun _ s2 => wpAny (model prog w) A (subDict ps) (fun e s3 => wpAny (model prog w) A (mergeMapping s.heap.objs.size (.ref e) false) (fun _ s4 => Q (.ref s.heap.objs.size) s4) (fun _ _ => False) s3) E s2) (fun _ _ => False) s1) E
      { s with heap := s.heap.push { cls := .type "dict", data := .dict #[] } }) :
    wpAny (model prog w) A (dictDisplay ((none, v0) :: ps.map fun p => (some p.1, p.2))) Q E s := by
  unfold dictDisplay
  dsimp only
  rw [List.forIn_cons]
  simp only [List.isEmpty_nil, if_true, pure_bind, bind_assoc]
  refine wpAny_bind (wpAny_alloc ?_)
  refine wpAny_bind (wpAny_holding (wpAny_mono h (fun m s1 h1 => ?_) fun _ _ e => e))
  refine wpAny_bind (wpAny_onRaise (wpAny_tryCatch (wpAny_onRaise (wpAny_holding (wpAny_mono h1 (fun _ s2 h2 => ?_) fun _ _ f => f.elim)))))
  rw [gather _ (fun p r hr => by
    have e : ((r ++ [(p.1, p.2)]).length == 17) = false := by
      rw [List.length_append]
      simp
      omega
    simp only [e, Bool.false_eq_true, if_false]) ps [] (by simpa using hl)]
  have e1 : ps.isEmpty = false := by
    cases ps with
    | nil => exact absurd rfl h0
    | cons a b => rfl
  simp only [List.nil_append, e1, pure_bind, Bool.false_eq_true, if_false, bind_assoc]
  refine wpAny_bind (wpAny_holding (wpAny_mono h2 (fun e s3 h3 => ?_) fun _ _ f => f))
  exact wpAny_bind (wpAny_onRaise (wpAny_holding (wpAny_mono h3 (fun _ s4 h4 => wpAny_pure h4) fun _ _ f => f.elim)))
end
/-! ### {**x, k: v, ..} over the layer -/
def tDStar (tx : TE) (trs : List (TE × TE)) : TE := fun σ H Q => ∀ d, H d = none → tx σ (upd H d (.dK [])) fun x H1 => ∃ a kvs, x = .ref a ∧ H1 a = some (.dK kvs) ∧ a ≠ d ∧ H1 d = some (.dK []) ∧ kvs.length ≤ 1000 ∧
  ∀ e, (upd H1 d (.dK kvs)) e = none → tPairs trs σ (upd (upd H1 d (.dK kvs)) e (.dK [])) fun ps H2 => H2 e = some (.dK []) ∧ H2 d = some (.dK kvs) ∧ ∃ more : List (Key × V), ps = more.map (fun kv => (kV kv.1, kv.2)) ∧ more.length ≤ 15 ∧
    Q (.ref d) (upd (upd H2 e (.dK (mergeK [] more))) d (.dK (mergeK kvs (mergeK [] more))))
theorem merge_nodup {kvs : List (Key × V)} {vs : List (Key × Value)} (r : KV kvs vs) (n : (vs.map (·.1)).Nodup) : mergeK [] kvs = kvs := by
  have hk : kvs.map (·.1) = vs.map (·.1) := by
    unfold KV at r
    induction r with
    | nil => rfl
    | @cons a b _ _ h _ ih =>
      rw [List.map_cons, List.map_cons, h.1, ih (List.nodup_cons.mp (by simpa using n)).2]
  have key : ∀ (l acc : List (Key × V)), ((acc ++ l).map (·.1)).Nodup → mergeK acc l = acc ++ l := fun l => by
    induction l with
    | nil => intro acc _; show acc = acc ++ []; rw [List.append_nil]
    | cons p l ih =>
      intro acc hn
      have hnew : valV acc p.1 = none := by
        cases e : valV acc p.1 with
        | none => rfl
        | some v =>
          have hm : p.1 ∈ acc.map (·.1) := valV_in e
          rw [List.map_append, List.map_cons] at hn
          exact absurd rfl ((List.nodup_append.mp hn).2.2 _ hm _ (List.mem_cons_self ..))
      show mergeK (putK acc p.1 p.2) l = _
      rw [putK_new _ hnew, ih _ (by rw [List.append_assoc]; exact hn), List.append_assoc]
      rfl
  have := key kvs [] (by rw [List.nil_append, hk]; exact n)
  rw [this, List.nil_append]
theorem pe_dstar {X : Cx} {pos : Pos} {xe : Expr} {tx : TE} {keys : List (Option Expr)} {values : List Expr} {trs : List (TE × TE)} (hx : PE X xe tx) (hp : PPs X pos keys values trs) (hall : keys.all (·.isSome) = true) (hl : keys.length = values.length) (h0 : keys ≠ []) (h15 : keys.length ≤ 15) :
    PE X (.Dict (none :: keys) (xe :: values) pos) (tDStar tx trs) := by
  refine ⟨fun pins s σ H Q I q => ?_⟩
  have hn := I.hok.fresh (Nat.le_refl s.heap.objs.size)
  have I1 := I.laid (a := s.heap.objs.size) (o := .dK []) (h' := s.heap.push { cls := .type "dict", data := .dict #[] }) (t' := s.toks) (fun _ _ z => Heap.get?_push_of_some _ z) (Nat.le_refl _) (dk_empty s.heap I.big)
  have elen := pairTrees_length keys values X.env pos hall hl
  rw [PySem.arm_eval_Dict]
  have esh : (evalEachOpt (none :: keys) X.env).zip ((evalEach (xe :: values) X.env).map fun v => do let x ← v; standAt pos; pure x) =
      (none, do let x ← eval xe X.env; standAt pos; pure x) :: (pairTrees keys values X.env pos).map fun p => (some p.1, p.2) := by
    rw [← zip_pairTrees keys values X.env pos hall hl]
    rfl
  rw [esh]
  refine wpAny_bind (wpAny_standAt (disp_walk (by
    intro e
    rw [e] at elen
    exact h0 (List.length_eq_zero_iff.mp elen.symm)) (by omega) ?_))
  refine wpAny_bind (thn (hx.run pins _ σ _ _ I1 (q _ hn)) fun u s1 ⟨x, H1, I2, rx, a, kvs, ex, ha, hne, hd, hk, q1⟩ => ?_)
  subst ex
  obtain rfl : u = Value.ref a := rx
  refine wpAny_bind (wpAny_standAt (wpAny_pure ?_))
  obtain ⟨_, zd, vd, rd, Td⟩ := dk_of I2.hok hd
  cases rd
  obtain ⟨_, za, va, ra, Ta⟩ := dk_of I2.hok ha
  have la : va.length = kvs.length := (Paired.length ra).symm
  refine merge_of (Ne.symm hne) za Td Ta (by rw [la]; exact Nat.le_of_lt (small1000 (by rw [List.length_nil]; omega))) fun h2 T2 S2 => ?_
  have nva : (va.map (·.1)).Nodup := by
    obtain ⟨_, _, _, _, _, _, _, _, n⟩ := Ta
    exact n
  have em : mergeK [] kvs = kvs := merge_nodup ra nva
  have r2 : KV (mergeK [] kvs) (merged [] va) := ra.merge .nil
  rw [em] at r2
  have I3 := d_write (t' := s1.toks) I2 (by rw [hd]; exact True.intro) S2 (let ⟨o, _, _, e, _⟩ := T2; ⟨o, e⟩) (dk_new (Nat.le_of_lt (small1000 hk)) zd r2 T2)
  have he := I3.hok.fresh (Nat.le_refl h2.objs.size)
  have I4 := I3.laid (a := h2.objs.size) (o := .dK []) (h' := h2.push { cls := .type "dict", data := .dict #[] }) (t' := s1.toks) (fun _ _ z => Heap.get?_push_of_some _ z) (Nat.le_refl _) (dk_empty h2 I3.big)
  refine wpAny_subDict (knd := mixKind X.prog X.w) (by omega) (thn (hp.run pins _ σ _ _ I4 (q1 _ he)) fun ws s5 ⟨ps, H5, I5, rel, e5, d5, more, ep, lk, q5⟩ => ?_)
  subst ep
  obtain ⟨rs, c, rk⟩ := carries_of (P := X.prog) (w := X.w) rel
  obtain ⟨_, ze, ve, re, Te⟩ := dk_of I5.hok e5
  cases re
  refine ⟨rs, c, Te, fun h6 T6 S6 => ?_⟩
  have lm : (mergeK [] more).length ≤ more.length := by
    have := length_mergeK more []
    rw [List.length_nil, Nat.zero_add] at this
    exact this
  have I6 := d_write (t' := s5.toks + ws.length) I5 (by rw [e5]; exact True.intro) S6 (let ⟨o, _, _, e, _⟩ := T6; ⟨o, e⟩) (dk_new (Nat.le_of_lt (small1000 (by omega))) ze (rk.merge .nil) T6)
  have hde : s.heap.objs.size ≠ h2.objs.size := fun e => by
    rw [← e] at he
    rw [upd_same] at he
    cases he
  have d6 : (upd H5 h2.objs.size (.dK (mergeK [] more))) s.heap.objs.size = some (.dK kvs) := by rw [upd_ne hde]; exact d5
  have e6 : (upd H5 h2.objs.size (.dK (mergeK [] more))) h2.objs.size = some (.dK (mergeK [] more)) := upd_same
  obtain ⟨_, zd6, vd6, rd6, Td6⟩ := dk_of I6.hok d6
  obtain ⟨_, ze6, ve6, re6, Te6⟩ := dk_of I6.hok e6
  have l1 : vd6.length = kvs.length := (Paired.length rd6).symm
  have l2 : ve6.length = (mergeK [] more).length := (Paired.length re6).symm
  have l3 : kvs.length + (mergeK [] more).length ≤ sizeLine := by
    have : sizeLine = 16777216 := by decide
    omega
  refine merge_of hde ze6 Td6 Te6 (by rw [l1, l2]; exact l3) fun h7 T7 S7 => ?_
  refine ⟨.ref s.heap.objs.size, _, ?_, rfl, q5⟩
  exact d_write (t' := s5.toks + ws.length) I6 (by rw [d6]; exact True.intro) S7 (let ⟨o, _, _, e, _⟩ := T7; ⟨o, e⟩) (dk_new (by
    have := length_mergeK (mergeK [] more) kvs
    omega) zd6 (re6.merge rd6) T7)
end Rd


set_option Elab.async false
set_option linter.all false
set_option maxRecDepth 100000
set_option maxHeartbeats 4000000
namespace Bz
open PySem PySem.Spec L2 PyProof.Rows
theorem mv_freeze {F : Addr → Prop} {R H R' H' : Hp} {d : Addr} {o : HO} (m : Mv F R H R' H') (h : H' d = some o) (r : R' d = none) (n : H d = none) : Mv F R H (upd R' d o) H' :=
  ⟨m.keep, m.dom, m.up.trans (same_new r), fun b z e => by
    by_cases eb : b = d
    · subst eb
      rw [upd_same] at e
      rw [h]
      exact e
    · rw [upd_ne eb] at e
      exact m.sub b z e, fun b z e => by
    by_cases eb : b = d
    · subst eb
      exact .inr n
    · rw [upd_ne eb] at e
      exact m.new b z e⟩
/-! ### dicts with text keys -/
theorem kz_cons (x : Str) (ks : List Str) (v : V) (vs : List V) : kz (x :: ks) (v :: vs) = ((Sum.inr x : Key), v) :: kz ks vs := rfl
theorem putK_neg {κ : Type} [DecidableEq κ] {p : κ × V} {r : List (κ × V)} {k : κ} {v : V} (h : p.1 ≠ k) : putK (p :: r) k v = p :: putK r k v := by
  unfold putK
  rw [List.any_cons, decide_eq_false h, Bool.false_or]
  split
  · rw [List.map_cons, if_neg h]
  · rfl
theorem putK_pos {κ : Type} [DecidableEq κ] {p : κ × V} {r : List (κ × V)} {k : κ} {v : V} (h : p.1 = k) (n : ∀ q ∈ r, q.1 ≠ k) : putK (p :: r) k v = (p.1, v) :: r := by
  unfold putK
  rw [List.any_cons, decide_eq_true h, Bool.true_or, if_pos rfl, List.map_cons, if_pos h]
  congr 1
  have : r.map (fun kv => if kv.1 = k then (kv.1, v) else kv) = r.map id := List.map_congr_left fun q hq => if_neg (n q hq)
  rw [this, List.map_id]
theorem kz_mem {ks : List Str} {vs : List V} {q : Key × V} (h : q ∈ kz ks vs) : ∃ x, x ∈ ks ∧ q.1 = Sum.inr x := by
  unfold kz at h
  obtain ⟨p, hp, e⟩ := List.mem_map.mp h
  exact ⟨p.1, (List.of_mem_zip hp).1, by rw [← e]⟩
theorem kz_len {ks : List Str} {vs : List V} (h : ks.length = vs.length) : (kz ks vs).length = ks.length := by
  unfold kz
  rw [List.length_map, List.length_zip, h]
  exact Nat.min_self _
theorem Env.put_keys (x : Str) (v : Val) : ∀ e : Env, (e.put x v).keys = if x ∈ e.keys then e.keys else e.keys ++ [x]
  | .nil => by simp [Env.put, Env.keys]
  | .cons y w r => by
    have ih := Env.put_keys x v r
    unfold Env.put
    by_cases c : y = x
    · rw [if_pos c]
      subst c
      show y :: r.keys = if y ∈ y :: r.keys then y :: r.keys else _
      rw [if_pos (List.mem_cons_self ..)]
    · rw [if_neg c]
      show y :: (r.put x v).keys = if x ∈ y :: r.keys then y :: r.keys else y :: r.keys ++ [x]
      rw [ih]
      by_cases m : x ∈ r.keys
      · rw [if_pos m, if_pos (List.mem_cons_of_mem _ m)]
      · rw [if_neg m, if_neg fun h => (List.mem_cons.mp h).elim (fun e => c e.symm) m]
        rfl
theorem Env.put_nd {x : Str} {v : Val} {e : Env} (h : e.keys.Nodup) : (e.put x v).keys.Nodup := by
  rw [Env.put_keys]
  split
  · exact h
  · rename_i n; exact nd_snoc h n
theorem Env.put_len (x : Str) (v : Val) (e : Env) : (e.put x v).len ≤ e.len + 1 := by
  rw [← Env.len_keys, Env.put_keys, ← Env.len_keys]
  split
  · omega
  · rw [List.length_append]; exact Nat.le_refl _
theorem env_put {R : Hp} {x : Str} {u : Val} {v : V} (a : At R u.d v) : ∀ {e : Env} {vs : List V}, e.keys.Nodup → Ats R e.ds vs → ∃ ws, putK (kz e.keys vs) (Sum.inr x : Key) v = kz (e.put x u).keys ws ∧ Ats R (e.put x u).ds ws
  | .nil, vs, _, h => by
    rw [show vs = [] from h]
    exact ⟨[v], rfl, v, [], rfl, a, rfl⟩
  | .cons y w r, vs, n, h => by
    obtain ⟨z, rs, rfl, hz, hr⟩ := h
    obtain ⟨n1, n2⟩ := List.nodup_cons.mp n
    show ∃ ws, putK (((Sum.inr y : Key), z) :: kz r.keys rs) (Sum.inr x : Key) v = _ ∧ _
    unfold Env.put
    by_cases c : y = x
    · rw [if_pos c]
      subst c
      refine ⟨v :: rs, ?_, v, rs, rfl, a, hr⟩
      rw [putK_pos rfl fun q hq => by
        obtain ⟨x, hx, e⟩ := kz_mem hq
        rw [e]
        exact fun e => n1 (by rw [← Sum.inr.inj e]; exact hx)]
      rfl
    · rw [if_neg c]
      obtain ⟨ws, e1, e2⟩ := env_put a (e := r) n2 hr
      refine ⟨z :: ws, ?_, z, ws, rfl, hz, e2⟩
      rw [putK_neg fun e => c (Sum.inr.inj e), e1]
      rfl
theorem env_get {R : Hp} {x : Str} {u : Val} : ∀ {e : Env} {vs : List V}, e.get x = some u → Ats R e.ds vs → ∃ v, valV (kz e.keys vs) (Sum.inr x : Key) = some v ∧ At R u.d v
  | .nil, _, h, _ => by cases h
  | .cons y w r, vs, h, a => by
    obtain ⟨z, rs, rfl, hz, hr⟩ := a
    unfold Env.get at h
    show ∃ v, valV (((Sum.inr y : Key), z) :: kz r.keys rs) (Sum.inr x : Key) = some v ∧ _
    by_cases c : y = x
    · rw [if_pos c] at h
      cases h
      exact ⟨z, valV_pos (p := ((Sum.inr y : Key), z)) (by rw [c]), hz⟩
    · rw [if_neg c] at h
      obtain ⟨v, e1, e2⟩ := env_get (e := r) h hr
      exact ⟨v, by rw [valV_neg (p := ((Sum.inr y : Key), z)) fun e => c (Sum.inr.inj e)]; exact e1, e2⟩
theorem merge1 {kvs : List (Key × V)} {k : Key} {v : V} : mergeK kvs (mergeK [] [(k, v)]) = putK kvs k v := rfl
theorem putK_twice {kvs : List (Key × V)} {k : Key} {v u : V} : putK (putK kvs k v) k u = putK kvs k u := by
  have hm : ∀ l : List (Key × V), (l.map fun kv => if kv.1 = k then (kv.1, v) else kv).map (fun kv => if kv.1 = k then (kv.1, u) else kv) = l.map fun kv => if kv.1 = k then (kv.1, u) else kv := fun l => by
    rw [List.map_map]
    refine List.map_congr_left fun q _ => ?_
    show (if (if q.1 = k then (q.1, v) else q).1 = k then ((if q.1 = k then (q.1, v) else q).1, u) else (if q.1 = k then (q.1, v) else q)) = _
    by_cases c : q.1 = k
    · rw [if_pos c, if_pos c, if_pos c]
    · simp only [if_neg c]
  by_cases c : (kvs.any fun kv => decide (kv.1 = k)) = true
  · have e1 : putK kvs k v = kvs.map fun kv => if kv.1 = k then (kv.1, v) else kv := if_pos c
    have c2 : ((putK kvs k v).any fun kv => decide (kv.1 = k)) = true := by
      rw [e1, List.any_map]
      obtain ⟨q, hq, hk⟩ := List.any_eq_true.mp c
      refine List.any_eq_true.mpr ⟨q, hq, ?_⟩
      have hk := of_decide_eq_true hk
      show decide ((if q.1 = k then (q.1, v) else q).1 = k) = true
      rw [if_pos hk]
      exact decide_eq_true hk
    show (if ((putK kvs k v).any fun kv => decide (kv.1 = k)) = true then _ else _) = if (kvs.any fun kv => decide (kv.1 = k)) = true then _ else _
    rw [if_pos c2, if_pos c, e1, hm]
  · have e1 : putK kvs k v = kvs ++ [(k, v)] := if_neg c
    have c2 : ((putK kvs k v).any fun kv => decide (kv.1 = k)) = true := by
      rw [e1, List.any_append]
      simp
    have c3 : ∀ q ∈ kvs, q.1 ≠ k := fun q hq e => c (List.any_eq_true.mpr ⟨q, hq, decide_eq_true e⟩)
    show (if ((putK kvs k v).any fun kv => decide (kv.1 = k)) = true then _ else _) = if (kvs.any fun kv => decide (kv.1 = k)) = true then _ else _
    rw [if_pos c2, if_neg c, e1, List.map_append]
    congr 1
    · have : kvs.map (fun kv => if kv.1 = k then (kv.1, u) else kv) = kvs.map id := List.map_congr_left fun q hq => if_neg (c3 q hq)
      rw [this, List.map_id]
    · show [if k = k then (k, u) else (k, v)] = [(k, u)]
      rw [if_pos rfl]
theorem merge2 {kvs : List (Key × V)} {k j : Key} {v u : V} : mergeK kvs (mergeK [] [(k, v), (j, u)]) = putK (putK kvs k v) j u := by
  show mergeK kvs (putK (putK [] k v) j u) = _
  by_cases c : k = j
  · subst c
    rw [putK_twice, putK_twice]
    rfl
  · show mergeK kvs (putK [(k, v)] j u) = _
    rw [putK_neg (show ((k, v) : Key × V).1 ≠ j from c)]
    rfl
/-- a dict comprehension over anything that walks -/
theorem dc_it {J : It} {n : Nat} {G : Hp → Prop} {Y : Nat → Hp → V → Hp → Prop} (w : Walk J n G Y) {g : TG} {tt : TT} {tk tv : TE} {vs : List Nat} {σ : L2.St} {H1 : Hp} {D : Addr} {Qd : Hp → Prop} (Pv : Nat → Hp → Prop) (h0 : Pv 0 (upd H1 D (.dK []))) (hG : ∀ i H, i ≤ n → Pv i H → G H)
    (hs : ∀ i x H H', i < n → Pv i H → Y i H x H' → g x (wipe σ vs) H' fun σ2 H2 => wipe σ2 vs = wipe σ vs ∧ tt σ2 H2 fun b H3 =>
      if b = true then tk σ2 H3 fun y H4 => tv σ2 H4 fun z H5 => ∃ kvs k, y = kV k ∧ H5 D = some (.dK kvs) ∧ kvs.length < sizeLine ∧ Pv (i + 1) (upd H5 D (.dK (putK kvs k z))) else Pv (i + 1) H3) (hd : ∀ H, Pv n H → Qd H) :
    ∃ W : Nat → Nat → Hp → Prop, (∃ m, W 0 m (upd H1 D (.dK []))) ∧ ∀ i m H, W i m H →
      (J.stop i H ∧ Qd H) ∨ (J.go i H ∧ ∃ Nx : Hp → Prop, (∀ H', Nx H' → ∃ m', m' < m ∧ W (i + 1) m' H') ∧ ∀ x H', J.yld i H x H' → g x (wipe σ vs) H' fun σ2 H2 => wipe σ2 vs = wipe σ vs ∧ tt σ2 H2 fun b H3 =>
        if b = true then tk σ2 H3 fun y H4 => tv σ2 H4 fun z H5 => ∃ kvs k, y = kV k ∧ H5 D = some (.dK kvs) ∧ kvs.length < sizeLine ∧ Nx (upd H5 D (.dK (putK kvs k z))) else Nx H3) := by
  refine ⟨fun i m H => m + i = n ∧ Pv i H, ⟨n, rfl, h0⟩, fun i m H ⟨hm, p⟩ => ?_⟩
  cases m with
  | zero =>
    obtain rfl : i = n := by omega
    exact .inl ⟨w.stops H (hG _ H (Nat.le_refl _) p), hd H p⟩
  | succ m =>
    have lt : i < n := by omega
    have gg := hG i H (Nat.le_of_lt lt) p
    exact .inr ⟨w.goes i H lt gg, Pv (i + 1), fun H' p' => ⟨m, Nat.lt_succ_self _, by omega, p'⟩, fun x H' y => hs i x H H' lt p (w.yields i H x H' lt gg y)⟩
/-- the bindings of some names -/
def Env.pick (e : Env) : List Str → Option Env
  | [] => some .nil
  | x :: r => match e.get x, e.pick r with
    | some v, some t => some (.cons x v t)
    | _, _ => none
end Bz


set_option Elab.async false
set_option linter.all false
set_option maxRecDepth 100000
set_option maxHeartbeats 4000000
namespace Bz
open PySem PySem.Spec L2 PyProof.Rows
def topS (i : Nat) : Stmt := PySem.Challenge.pw_askedfor_k03_parts_and_names.main.body.getD i (.Pass ⟨0, 0, 0, 0⟩)
/-- a def that is called by its name -/
structure Fn (P : Program) (w : World) (K : PySem.W.Frag) (mg : Str → Option Value) (base : Heap) (X : CXT) (k : Nat) (x : Str) (ps : List Str) (sp : Sp) (f : Addr) (fd : FuncData) : Prop where
  ok : FnOk P w K mg base X k f fd ps sp
  g : mg x = some (.ref f)
  kp : PySem.W.keepIn K (.ref f) = true
  b : Binds K fd ps []
theorem Fn.up {P : Program} {w : World} {K : PySem.W.Frag} {mg : Str → Option Value} {base : Heap} {X : CXT} {j k : Nat} {x : Str} {ps : List Str} {sp : Sp} {f : Addr} {fd : FuncData} (h : Fn P w K mg base X j x ps sp f fd) (l : j ≤ k) : Fn P w K mg base X k x ps sp f fd := ⟨h.ok.mono l, h.g, h.kp, h.b⟩
theorem ifT {b : Bool} {A B : Prop} (h : b = true) (z : A) : if b = true then A else B := by
  rw [if_pos h]
  exact z
theorem ifF {b : Bool} {A B : Prop} (h : b = false) (z : B) : if b = true then A else B := by
  rw [h]
  exact iteF z
theorem isF {a b : Str} (h : a = b → False) {A B : Prop} (z : B) : if decide (V.str a = V.str b) = true then A else B := by
  rw [if_neg fun e => h (V.str.inj (of_decide_eq_true e))]
  exact z
/-- what is known of a heap under a still part, when a mutable thing is looked at -/
theorem put_get {α : Type} {l : List α} {x : α} (h : l ≠ []) : ∃ p y, l = p ++ [y] := ⟨l.dropLast, l.getLast h, (List.dropLast_concat_getLast h).symm⟩
theorem atI_lastA {α : Type} {l : List α} {x : α} : atI (l ++ [x]) (-1) = some x := atI_last l x
theorem ixN_last {n : Nat} (h : 0 < n) : ixN n (-1) = some (n - 1) := by
  unfold ixN
  rw [if_neg (by decide), if_pos (by omega)]
  congr 1
  omega
theorem Ats.last {R : Hp} {l : List D} {d : D} {vs : List V} (h : Ats R (l ++ [d]) vs) : ∃ p v, vs = p ++ [v] ∧ Ats R l p ∧ At R d v := by
  obtain ⟨a, b, e, h1, v, r, e2, h2, e3⟩ := h.split
  exact ⟨a, v, by rw [e, e2, e3], h1, h2⟩
theorem cut_from {xs : List V} {i : Nat} (h : i ≤ xs.length) : cutV xs (some (i : Int)) none = xs.drop i := by
  unfold cutV
  rw [show HT.sIx xs.length 0 (some (i : Int)) = min i xs.length from HT.sIx_nat xs.length _ i, Nat.min_eq_left h, HT.sIx_none]
  rw [List.take_of_length_le (by rw [List.length_drop]; exact Nat.le_refl _)]
theorem Ats.mem {R : Hp} {l : List D} {vs : List V} {j : Nat} {v : V} (h : Ats R l vs) (hj : vs[j]? = some v) : ∃ d, l[j]? = some d ∧ At R d v := by
  have hl := h.length
  have lt : j < l.length := by rw [← hl]; exact (List.getElem?_eq_some_iff.mp hj).1
  obtain ⟨v', e, a⟩ := h.get (List.getElem?_eq_getElem lt)
  rw [hj] at e
  cases e
  exact ⟨_, List.getElem?_eq_getElem lt, a⟩
theorem Ats.snoc {R : Hp} {l : List D} {d : D} {p : List V} {v : V} (h : Ats R l p) (h2 : At R d v) : Ats R (l ++ [d]) (p ++ [v]) := h.append (.one h2)
/-! ### what a run's stack has, as made data -/
theorem upd_twice {H : Hp} {a : Addr} {o u : HO} : upd (upd H a o) a u = upd H a u := by
  funext x
  by_cases e : x = a
  · subst e
    rw [upd_same, upd_same]
  · rw [upd_ne e, upd_ne e, upd_ne e]
end Bz


set_option Elab.async false
set_option linter.all false
set_option maxRecDepth 100000
set_option maxHeartbeats 4000000
namespace Bz
open PySem PySem.Spec L2 PyProof.Rows
/-! ### parts -/
def fpTab : List (Str × Nat) := [("num", 2), ("flag", 2), ("unit", 1), ("name", 2), ("call", 1), ("fun", 2), ("rec", 3), ("let", 2), ("if", 1), ("pair", 1), ("fst", 1), ("snd", 1), ("op", 2), ("not", 1), ("print", 1), ("ask", 2), ("kept", 2), ("known", 2)]
structure FpTxt (K : PySem.W.Frag) (w : World) (mg : Str → Option Value) (p : Addr) : Prop where
  g : mg "FIRST_PART" = some (.ref p)
  d : ∀ x k, fpTab.lookup x = some k → KDct K w p x (.int (k : Nat))
abbrev Cl4 := D × D × D × D
def cls4 (cs : List Cl4) : List D := cs.map fun c => .tup [c.1, c.2.1, c.2.2.1, c.2.2.2]
def gs4 (cs : List Cl4) : List D := cs.map fun c => c.2.2.2
inductive PartsOf : D → List D → Prop where
  | a {tag : Str} {lead ps : List D} : tag ≠ "handle" → fpTab.lookup tag = some (lead.length + 1) → lead.length + ps.length ≤ 1000 → PartsOf (.tup (.str tag :: (lead ++ ps))) ps
  | h {e x f : D} {cs : List Cl4} : cs.length ≤ 1000 → PartsOf (.tup [.str "handle", e, .tup [x, f], .tup (cls4 cs)]) (e :: f :: gs4 cs)
def setG : List Cl4 → List D → List Cl4
  | [], _ => []
  | c :: r, [] => c :: setG r []
  | c :: r, g :: s => (c.1, c.2.1, c.2.2.1, g) :: setG r s
inductive WithP : D → List D → D → Prop where
  | a {tag : Str} {lead ps is : List D} : tag ≠ "handle" → fpTab.lookup tag = some (lead.length + 1) → lead.length + ps.length ≤ 1000 → is.length ≤ 1000 → WithP (.tup (.str tag :: (lead ++ ps))) is (.tup (.str tag :: (lead ++ is)))
  | h {e x f e' f' : D} {cs : List Cl4} {gs : List D} : cs.length ≤ 1000 → gs.length = cs.length → WithP (.tup [.str "handle", e, .tup [x, f], .tup (cls4 cs)]) (e' :: f' :: gs) (.tup [.str "handle", e', .tup [x, f'], .tup (cls4 (setG cs gs))])
theorem cut_to {xs : List V} {i : Nat} (h : i ≤ xs.length) : cutV xs none (some (i : Int)) = xs.take i := by
  unfold cutV
  rw [HT.sIx_none, show HT.sIx xs.length xs.length (some (i : Int)) = min i xs.length from HT.sIx_nat xs.length _ i, Nat.min_eq_left h]
  rfl
theorem sIx0 {n i : Nat} (h : i ≤ n) : HT.sIx n 0 (some (i : Int)) = i := by
  rw [show HT.sIx n 0 (some (i : Int)) = min i n from HT.sIx_nat n _ i, Nat.min_eq_left h]
theorem sIxn {n i : Nat} (h : i ≤ n) : HT.sIx n n (some (i : Int)) = i := by
  rw [show HT.sIx n n (some (i : Int)) = min i n from HT.sIx_nat n _ i, Nat.min_eq_left h]
theorem drop_lead {α : Type} {x : α} {l m : List α} : (x :: (l ++ m)).drop (l.length + 1) = m := by simp
theorem take_lead {α : Type} {x : α} {l m : List α} : (x :: (l ++ m)).take (l.length + 1) = x :: l := by simp
theorem big3 {n : Nat} (h : n ≤ 5000) : n ≤ sizeLine := Nat.le_trans h (by decide)
theorem cls4_get {cs : List Cl4} {i : Nat} {d : D} (h : (cls4 cs)[i]? = some d) : ∃ c, cs[i]? = some c ∧ d = .tup [c.1, c.2.1, c.2.2.1, c.2.2.2] := by
  unfold cls4 at h
  rw [List.getElem?_map] at h
  cases e : cs[i]? with
  | none => rw [e] at h; cases h
  | some c => rw [e] at h; exact ⟨c, rfl, (Option.some.inj h).symm⟩
theorem setG_len : ∀ (cs : List Cl4) (gs : List D), (setG cs gs).length = cs.length
  | [], _ => rfl
  | c :: r, [] => congrArg (· + 1) (setG_len r [])
  | c :: r, g :: s => congrArg (· + 1) (setG_len r s)
theorem setG_get : ∀ {cs : List Cl4} {gs : List D} {i : Nat} {c : Cl4} {g : D}, cs[i]? = some c → gs[i]? = some g → (setG cs gs)[i]? = some (c.1, c.2.1, c.2.2.1, g)
  | c :: r, g :: s, 0, c', g', h, k => by
    cases (show c = c' from Option.some.inj h)
    cases (show g = g' from Option.some.inj k)
    rfl
  | c :: r, g :: s, i + 1, c', g', h, k => setG_get (cs := r) (gs := s) (i := i) (by simpa using h) (by simpa using k)
  | [], _, _, _, _, h, _ => by simp at h
  | _ :: _, [], _, _, _, _, k => by simp at k
section
variable {P : Program} {w : World} {K : PySem.W.Frag} {mg : Str → Option Value} {base : Heap}
abbrev g_parts : Stmt := topS 2
abbrev n_parts : List Str := ["expression", "_", "inner", "returned", "clauses", "clause"]
abbrev p_parts : List Str := ["expression"]
theorem sc_parts : FnScope n_parts p_parts (defScope g_parts) := ⟨rfl, rfl, rfl, by decide +kernel, rfl, by decide +kernel, by decide +kernel⟩
def spParts : Sp := fun vs H Q _ => ∃ (R : Hp) (d : D) (ps : List D) (v : V), vs = [v] ∧ Same R H ∧ At R d v ∧ PartsOf d ps ∧ ∀ (R' H' : Hp) (u : V), Mv F0 R H R' H' → At R' (.lst ps) u → Q u H'
theorem ok_parts {f pF : Addr} {fd : FuncData} (F : Fun K "parts" "parts" g_parts f fd) (TF : FpTxt K w mg pF) (mli : mg "list" = none) : FnOk P w K mg base CX0 1 f fd p_parts spParts := by
  refine F.ok sc_parts (fun vs H Q E h => ?_) (fun cdv A outer st H vs Q E hr h => ?_)
  · obtain ⟨R, d, ps, v, rfl, _⟩ := h
    rfl
  · obtain ⟨R, d, ps, v, rfl, sub, hd, hp, q⟩ := h
    refine ⟨_, (pss_cons (ps_if (pt_cmpR op_eq (pe_ix ix_tup (pv 0) (pe_int) (fun _ _ => rfl)) (pe_str) (nomark _)) (pss_cons (ps_asg (pv 0) (pg_tup rfl (pgs_cons (pg_name (i := 1) sc_parts.nd rfl (Or.inl rfl)) (pgs_cons (pg_name (i := 2) sc_parts.nd rfl (Or.inl rfl)) (pgs_cons (pg_name (i := 3) sc_parts.nd rfl (Or.inl rfl)) (pgs_cons (pg_name (i := 4) sc_parts.nd rfl (Or.inl rfl)) pgs_nil))))))
      (pss_one (ps_ret (pe_lst (pa_cons (pv 2) (pa_cons (pe_ix ix_tup (pv 3) (pe_int) (fun _ _ => rfl)) (StX.pa_star (pe_lc (own := [("clause", 5)]) (g := gName 5) (tt := tYes) (te := tOp (rIxT K) (tVar 5) (tC (.int 3))) rfl sc_parts.nd (pi_tup (pv 4)) (blkOk_by (N := n_parts) (sc := defScope g_parts) (by decide +kernel)) (fun _ _ _ _ _ => pg_name (i := 5) sc_parts.nd rfl (Or.inl rfl)) (fun _ _ _ _ _ => pts_nil) (fun _ _ _ _ _ => pe_ix ix_tup (pv 5) pe_int (fun _ _ => rfl))) pa_nil))))))) pss_nil)
      (pss_one (ps_ret (pe_callTy call_list_of (by rfl) mli (by decide +kernel) (pa_cons (pe_slice sl_tup (pv 0) (po_some (pe_ix ix_kdict (pe_glob (v := .ref pF) rfl TF.g rfl) (pe_ix ix_tup (pv 0) (pe_int) (fun _ _ => rfl)) (fun _ _ => rfl))) po_none) pa_nil))))), ?_⟩
    cases hp with
    | @a tag lead _ hn hk big =>
      obtain ⟨pe, _, rfl, he, _, rr, rfl, rfl, hr2⟩ := hd
      have he := sub _ _ he
      have hl := hr2.length
      rw [List.length_append] at hl
      refine ⟨_, rfl, pe, _, 0, _, rfl, rfl, SqT.of he, atI_nat (j := 0) rfl, rfl, _, rfl, ?_⟩
      refine isF hn ?_
      refine ⟨_, rfl, _, rfl, pe, _, 0, _, rfl, rfl, SqT.of he, atI_nat (j := 0) rfl, pF, _, _, rfl, rfl, TF.d _ _ hk, ((lead.length + 1 : Nat) : Int), rfl, pe, _, rfl, SqT.of he, ?_, fun p n => ?_⟩
      · rw [sIx0 (by rw [List.length_cons]; omega)]
        exact fun e => Nat.succ_ne_zero _ e.1
      rw [cut_from (by rw [List.length_cons]; omega)]
      have ed : (V.str tag :: rr).drop (lead.length + 1) = rr.drop lead.length := rfl
      rw [ed]
      have m1 : Mv F0 R H R _ := mv_mut (o := .tup (rr.drop lead.length)) sub n
      refine ⟨p, _, rfl, .inr (SqT.of upd_same), fun l nl => ?_⟩
      have a2 := hr2.drop lead.length
      rw [List.drop_left] at a2
      exact q _ _ _ (m1.tr (mv_new m1.sub nl)) (.nlst m1.sub nl a2)
    | @h e x f cs big =>
      obtain ⟨pe, _, rfl, he, _, _, rfl, rfl, ve, _, rfl, ae, vr, _, rfl, ⟨pr, _, rfl, hpr, vx, _, rfl, ax, vf, _, rfl, af, rfl⟩, vc, _, rfl, ⟨pc, cvs, rfl, hc, acs⟩, rfl⟩ := hd
      have he := sub _ _ he
      have hpr := sub _ _ hpr
      have hc := sub _ _ hc
      have lc := acs.length
      rw [show (cls4 cs).length = cs.length by unfold cls4; rw [List.length_map]] at lc
      refine ⟨_, rfl, pe, _, 0, _, rfl, rfl, SqT.of he, rfl, rfl, _, rfl, ?_⟩
      refine ifT (decide_eq_true rfl) ?_
      refine ⟨_, rfl, pe, _, rfl, SqT.of he, rfl, _, _, rfl, _, _, rfl, _, _, rfl, _, _, rfl, rfl, ?_⟩
      refine ⟨_, rfl, _, rfl, pr, _, 1, _, rfl, rfl, SqT.of hpr, rfl, _, rfl, pc, rfl, ⟨_, SqT.of hc⟩, fun L nL => ?_⟩
      refine lc_tup (K := K) (a := pc) (xs := cvs) (fun i H2 => ∃ ws, Same H H2 ∧ H2 L = some (.lst ws) ∧ H2 = upd H L (.lst ws) ∧ Ats R (gs4 (cs.take i)) ws) ⟨[], same_new nL, upd_same, rfl, rfl⟩ (fun i H2 _ q => by obtain ⟨_, s, _⟩ := q; exact SqT.of (s _ _ hc)) ?_ ?_
      · rintro i y H2 hy ⟨ws, s2, hL, rfl, aw⟩
        obtain ⟨dd, hdd, ad⟩ := acs.mem hy
        obtain ⟨c, hcs, rfl⟩ := cls4_get hdd
        obtain ⟨py, _, rfl, hpy, v1, _, rfl, a1, v2, _, rfl, a2, v3, _, rfl, a3, v4, _, rfl, a4, rfl⟩ := ad
        have li : i < cs.length := (List.getElem?_eq_some_iff.mp hcs).1
        have lw := aw.length
        rw [show (gs4 (cs.take i)).length = i by unfold gs4; rw [List.length_map, List.length_take]; omega] at lw
        refine ⟨rfl, _, rfl, py, _, 3, _, rfl, rfl, SqT.of (s2 _ _ (sub _ _ hpy)), rfl, ws, hL, Nat.lt_of_le_of_lt (by omega : ws.length ≤ 1000) (by decide), ws ++ [v4], ?_, upd_same, ?_, ?_⟩
        · rw [upd_twice]; exact same_new nL
        · rw [upd_twice]
        · rw [List.take_add_one, hcs]
          unfold gs4
          rw [List.map_append]
          exact aw.snoc a4
      · rintro H2 ⟨ws, s2, hL, rfl, aw⟩
        rw [lc, List.take_length] at aw
        have lw := aw.length
        rw [show (gs4 cs).length = cs.length by unfold gs4; rw [List.length_map]] at lw
        have m1 : Mv F0 R H _ _ := mv_new (o := .lst ws) sub nL
        refine ⟨L, ws, rfl, .inr (SqL.of hL), ?_, fun l nl => ?_⟩
        · rw [List.append_nil]
          show ws.length + 1 + 1 ≤ sizeLine
          exact big3 (by omega)
        · rw [List.append_nil]
          exact q _ _ _ (m1.tr (mv_new m1.sub nl)) (.nlst m1.sub nl ⟨_, _, rfl, ae.up m1.up, _, _, rfl, af.up m1.up, aw.up m1.up⟩)
abbrev g_with_parts : Stmt := topS 3
abbrev n_with_parts : List Str := ["expression", "inner", "handled", "body", "answers", "name", "clauses", "answering", "clause", "answer"]
abbrev p_with_parts : List Str := ["expression", "inner"]
theorem sc_with_parts : FnScope n_with_parts p_with_parts (defScope g_with_parts) := ⟨rfl, rfl, rfl, by decide +kernel, rfl, by decide +kernel, by decide +kernel⟩
def spWithP : Sp := fun vs H Q _ => ∃ (R : Hp) (d d' : D) (is : List D) (v u : V), vs = [v, u] ∧ Same R H ∧ At R d v ∧ At R (.lst is) u ∧ WithP d is d' ∧ ∀ (R' H' : Hp) (z : V), Mv F0 R H R' H' → At R' d' z → Q z H'
theorem ok_withp {f pF : Addr} {fd : FuncData} (F : Fun K "with_parts" "with_parts" g_with_parts f fd) (TF : FpTxt K w mg pF) (mtu : mg "tuple" = none) (mz : mg "zip" = none) : FnOk P w K mg base CX0 1 f fd p_with_parts spWithP := by
  refine F.ok sc_with_parts (fun vs H Q E h => ?_) (fun cdv A outer st H vs Q E hr h => ?_)
  · obtain ⟨R, d, d', is, v, u, rfl, _⟩ := h
    rfl
  · obtain ⟨R, d, d', is, v, u, rfl, sub, hd, hi, hp, q⟩ := h
    refine ⟨_, (pss_cons (ps_if (pt_cmpR op_eq (pe_ix ix_tup (pv 0) (pe_int) (fun _ _ => rfl)) (pe_str) (nomark _)) (pss_cons (ps_asg (pv 1) (pg_unlS rfl (pgs_cons (pg_name (i := 2) sc_with_parts.nd rfl (Or.inl rfl)) (pgs_cons (pg_name (i := 3) sc_with_parts.nd rfl (Or.inl rfl)) (pgs_star (pg_name (i := 4) sc_with_parts.nd rfl (Or.inl rfl)) pgs_nil)))))
      (pss_cons (ps_par (i := 5) (j := 6) (by rfl) sc_with_parts.nd rfl rfl (by decide) rfl rfl (pa_cons (pe_ix ix_tup (pe_ix ix_tup (pv 0) (pe_int) (fun _ _ => rfl)) (pe_int) (fun _ _ => rfl)) (pa_cons (pe_ix ix_tup (pv 0) (pe_int) (fun _ _ => rfl)) pa_nil)) (by rfl))
      (pss_cons (ps_setLc (i := 7) (own := [("clause", 8), ("answer", 9)]) (g := gTup K 2 (gCons (gName 8) (gCons (gName 9) gNil))) (tt := tYes) (te := tTup (StX.tStar K (tSl (rSlT K) (tVar 8) tNoPart (tPart (tC (.int 3)))) (tCons (tVar 9) tNil))) rfl sc_with_parts.nd rfl rfl (sw_true rfl rfl rfl (by decide +kernel)) (pi_zipM (by rfl) mz (pa_cons (pv 6) (pa_cons (pv 4) pa_nil))) (blkOk_by (N := n_with_parts) (sc := defScope g_with_parts) (by decide +kernel)) (fun _ _ _ _ _ => pg_tup rfl (pgs_cons (pg_name (i := 8) sc_with_parts.nd rfl (Or.inl rfl)) (pgs_cons (pg_name (i := 9) sc_with_parts.nd rfl (Or.inl rfl)) pgs_nil))) (fun _ _ _ _ _ => pts_nil) (fun _ _ _ _ _ => pe_tup (StX.pa_star (pe_slice sl_tup (pv 8) po_none (po_some pe_int)) (pa_cons (pv 9) pa_nil))))
      (pss_one (ps_ret (pe_tup (pa_cons (pe_str) (pa_cons (pv 2) (pa_cons (pe_tup (pa_cons (pv 5) (pa_cons (pv 3) pa_nil))) (pa_cons (pe_callTy call_tuple_of (by rfl) mtu (by decide +kernel) (pa_cons (pv 7) pa_nil)) pa_nil)))))))))) pss_nil)
      (pss_one (ps_ret (pe_tup (StX.pa_star (pe_slice sl_tupA (pv 0) po_none (po_some (pe_ix ix_kdict (pe_glob (v := .ref pF) rfl TF.g rfl) (pe_ix ix_tup (pv 0) pe_int (fun _ _ => rfl)) (fun _ _ => rfl)))) (StX.pa_star (pv 1) pa_nil)))))), ?_⟩
    obtain ⟨pi_, ivs, rfl, hpi, ai⟩ := hi
    have hpi := sub _ _ hpi
    cases hp with
    | @a tag lead ps _ hn hk big big2 =>
      obtain ⟨pe, _, rfl, he, _, rr, rfl, rfl, hr2⟩ := hd
      have he := sub _ _ he
      have hl := hr2.length
      have li := ai.length
      rw [List.length_append] at hl
      refine ⟨_, rfl, pe, _, 0, _, rfl, rfl, SqT.of he, atI_nat (j := 0) rfl, rfl, _, rfl, ?_⟩
      refine isF hn ?_
      have ec : (V.str tag :: rr).take (lead.length + 1) = V.str tag :: rr.take lead.length := rfl
      have a2 := hr2.take lead.length
      rw [List.take_left] at a2
      refine ⟨_, rfl, _, rfl, pe, _, 0, _, rfl, rfl, SqT.of he, atI_nat (j := 0) rfl, pF, _, _, rfl, rfl, TF.d _ _ hk, ((lead.length + 1 : Nat) : Int), rfl, ?_⟩
      have hl2 : lead.length + 1 ≤ (V.str tag :: rr).length := by rw [List.length_cons]; omega
      refine ⟨pe, _, rfl, SqT.of he, fun wh => ?_, fun nw p n => ?_⟩
      · rw [sIxn hl2] at wh
        have e2 : rr.take lead.length = rr := List.take_of_length_le (by have := wh.2; rw [List.length_cons] at this; omega)
        have m1 : Mv F0 R H R H := .refl sub
        have he2 : H pe = some (.tup (V.str tag :: rr.take lead.length)) := by rw [e2]; exact he
        refine ⟨pe, _, rfl, .inl (SqT.of he2), _, rfl, pi_, ivs, rfl, .inr (SqL.of hpi), ?_, fun t nt => ?_⟩
        · rw [List.append_nil, List.length_append, List.length_cons, List.length_take]
          exact big3 (by omega)
        rw [List.append_nil]
        exact q _ _ _ (m1.tr (mv_new m1.sub nt)) (.ntup m1.sub nt ⟨_, _, rfl, rfl, (a2).append (ai)⟩)
      · rw [cut_to hl2, ec]
        have m1 : Mv F0 R H R _ := mv_mut (o := .tup (V.str tag :: rr.take lead.length)) sub n
        refine ⟨p, _, rfl, .inl (SqT.of upd_same), _, rfl, pi_, ivs, rfl, .inr (SqL.of (m1.same _ _ hpi)), ?_, fun t nt => ?_⟩
        · rw [List.append_nil, List.length_append, List.length_cons, List.length_take]
          exact big3 (by omega)
        rw [List.append_nil]
        exact q _ _ _ (m1.tr (mv_new m1.sub nt)) (.ntup m1.sub nt ⟨_, _, rfl, rfl, (a2).append (ai)⟩)
    | @h e x f e' f' cs gs big lg =>
      obtain ⟨pe, _, rfl, he, _, _, rfl, rfl, ve, _, rfl, ae, vr, _, rfl, ⟨pr, _, rfl, hpr, vx, _, rfl, ax, vf, _, rfl, af, rfl⟩, vc, _, rfl, ⟨pc, cvs, rfl, hc, acs⟩, rfl⟩ := hd
      obtain ⟨ve', _, rfl, ae', vf', gvs, rfl, af', ags⟩ := ai
      have he := sub _ _ he
      have hpr := sub _ _ hpr
      have hc := sub _ _ hc
      have lc := acs.length
      have lgv := ags.length
      rw [show (cls4 cs).length = cs.length by unfold cls4; rw [List.length_map]] at lc
      refine ⟨_, rfl, pe, _, 0, _, rfl, rfl, SqT.of he, rfl, rfl, _, rfl, ?_⟩
      refine ifT (decide_eq_true rfl) ?_
      refine ⟨_, rfl, pi_, _, rfl, SqL.of hpi, by show 2 ≤ gvs.length + 2; omega, by show gvs.length + 2 ≤ 16384; omega, fun L nL => ?_⟩
      have m1 : Mv F0 R H _ _ := mv_new (o := .lst gvs) sub nL
      have hL : (upd H L (.lst gvs)) L = some (.lst gvs) := upd_same
      have he1 := m1.same _ _ he
      have hpr1 := m1.same _ _ hpr
      have hc1 := m1.same _ _ hc
      refine ⟨_, _, rfl, _, _, rfl, _, _, rfl, rfl, ?_⟩
      refine ⟨_, rfl, pe, _, 2, _, rfl, rfl, SqT.of he1, rfl, pr, _, 0, _, rfl, rfl, SqT.of hpr1, rfl, _, rfl, pe, _, 3, _, rfl, rfl, SqT.of he1, rfl, _, _, rfl, ?_⟩
      refine ⟨_, rfl, _, rfl, pc, L, _, _, rfl, SqT.of hc1, SqL.of hL, fun D nD => ?_⟩
      have lcg : cvs.length = gvs.length := by omega
      refine lc_it (walk_zipM lcg) (fun i H2 => ∃ (R2 : Hp) (ws : List V), Mv F0 R H R2 H2 ∧ Mv F0 (upd R L (.lst gvs)) (upd H L (.lst gvs)) R2 H2 ∧ R2 D = none ∧ H2 D = some (.lst ws) ∧ Ats R2 (cls4 ((setG cs gs).take i)) ws) ?_ ?_ ?_ ?_
      · have mD : Mv F0 _ _ _ _ := mv_mut (o := .lst []) m1.sub nD
        exact ⟨_, [], m1.tr mD, mD, m1.sub.free nD, upd_same, rfl⟩
      · rintro i H2 _ ⟨R2, ws, _, m2, _⟩
        exact ⟨SqT.of (m2.same _ _ hc1), SqL.of (m2.same _ _ hL)⟩
      · rintro i y H2 H3 hi ⟨R2, ws, mv2, m2, rD, hD, aw⟩ ⟨T, x1, x2, rfl, nT, rfl, hx1, hx2⟩
        obtain ⟨dd, hdd, ad⟩ := acs.mem hx1
        obtain ⟨c, hcs, rfl⟩ := cls4_get hdd
        obtain ⟨g, hg, ag⟩ := ags.mem hx2
        obtain ⟨py, _, rfl, hpy, v1, _, rfl, a1, v2, _, rfl, a2, v3, _, rfl, a3, v4, _, rfl, a4, rfl⟩ := ad
        have mT : Mv F0 R2 H2 R2 _ := mv_mut (o := .tup [.ref py, x2]) mv2.sub nT
        have hpy3 := mT.sub _ _ (mv2.up _ _ hpy)
        refine ⟨T, _, rfl, SqT.of upd_same, rfl, _, _, rfl, _, _, rfl, rfl, rfl, ?_⟩
        refine ⟨_, rfl, 3, rfl, py, _, rfl, SqT.of hpy3, (fun e => by have := e.2; exact absurd this (by show ¬ (3 = 4); decide)), fun S nS => ?_⟩
        have mS := mT.tr (mv_mut (o := .tup [v1, v2, v3]) mT.sub nS)
        refine ⟨S, [v1, v2, v3], rfl, .inl (SqT.of upd_same), _, rfl, by show 4 ≤ sizeLine; decide, fun U nU => ?_⟩
        have mU := mS.tr (mv_new (o := .tup [v1, v2, v3, x2]) mS.sub nU)
        have hDU := mU.same _ _ hD
        have rDU := mU.out rD hD
        have lw := aw.length
        have li : i < cs.length := (List.getElem?_eq_some_iff.mp hcs).1
        rw [show (cls4 ((setG cs gs).take i)).length = i by unfold cls4; rw [List.length_map, List.length_take, setG_len]; omega] at lw
        refine ⟨ws, hDU, Nat.lt_of_le_of_lt (by omega : ws.length ≤ 1000) (by decide), ?_⟩
        have mset : Mv (fun x => x = D) _ _ _ _ := mv_at (o := .lst (ws ++ [.ref U])) mU.sub rDU hDU rfl
        have nD0 : H D = none := m1.free nD
        refine ⟨_, ws ++ [.ref U], (mv2.tr mU).trans mset (fun _ f => f) (fun x f => .inr (by rw [f]; exact nD0)), (m2.tr mU).trans mset (fun _ f => f) (fun x f => .inr (by rw [f]; exact nD)), rDU, upd_same, ?_⟩
        rw [List.take_add_one, setG_get hcs hg]
        unfold cls4
        rw [List.map_append]
        refine Ats.snoc (Ats.up mU.up aw) (At.ntup (l := [c.1, c.2.1, c.2.2.1, g]) mS.sub nU ?_)
        have u1 := mv2.up
        exact ⟨_, _, rfl, a1.up u1, _, _, rfl, a2.up u1, _, _, rfl, a3.up u1, _, _, rfl, ag.up u1, rfl⟩
      · rintro H2 ⟨R2, ws, mv2, m2, rD, hD, aw⟩
        rw [lc, ← setG_len cs gs, List.take_length] at aw
        refine ⟨_, rfl, _, rfl, _, rfl, by show 2 ≤ sizeLine; decide, fun pr2 n1 => ?_⟩
        have ma := mv2.tr (mv_new (o := .tup [vx, vf']) mv2.sub n1)
        have a1 : At (upd R2 pr2 (.tup [vx, vf'])) (.tup [x, f']) (.ref pr2) := .ntup mv2.sub n1 ⟨_, _, rfl, ax.up mv2.up, _, _, rfl, af'.up mv2.up, rfl⟩
        refine ⟨_, rfl, D, ws, rfl, .inl ⟨SqL.of (by rw [upd_ne (ne_of_none hD n1)]; exact hD), fun pt n2 => ?_⟩⟩
        have mb := ma.tr (mv_new (o := .tup ws) ma.sub n2)
        have s12 : Same R2 (upd R2 pr2 (.tup [vx, vf'])) := same_new (mv2.sub.free n1)
        have a2 : At _ (.tup (cls4 (setG cs gs))) (.ref pt) := .ntup (vs := ws) ma.sub n2 (aw.up s12)
        have sb : Same (upd R2 pr2 (.tup [vx, vf'])) (upd (upd R2 pr2 (.tup [vx, vf'])) pt (.tup ws)) := same_new (ma.sub.free n2)
        refine ⟨by show 4 ≤ sizeLine; decide, fun pq n3 => ?_⟩
        exact q _ _ _ (mb.tr (mv_new mb.sub n3)) (.ntup mb.sub n3 ⟨_, _, rfl, rfl, _, _, rfl, ae'.up mb.up, _, _, rfl, a1.up sb, _, _, rfl, a2, rfl⟩)
end
end Bz


set_option Elab.async false
set_option linter.all false
set_option maxRecDepth 100000
set_option maxHeartbeats 4000000
namespace Bz
open PySem PySem.Spec L2 PyProof.Rows
/-! ### the names that are bound in parts -/
abbrev Cs4 := Str × Str × Str × D
def up4 (cs : List Cs4) : List Cl4 := cs.map fun c => (.str c.1, .str c.2.1, .str c.2.2.1, c.2.2.2)
inductive BndOf : D → List (List Str) → Prop where
  | fn {x : Str} {r : List D} : BndOf (.tup (.str "fun" :: .str x :: r)) [[x]]
  | rc {h x : Str} {r : List D} : BndOf (.tup (.str "rec" :: .str h :: .str x :: r)) [[h, x]]
  | lt {x : Str} {r : List D} : BndOf (.tup (.str "let" :: .str x :: r)) [[], [x]]
  | hd {e f : D} {x : Str} {cs : List Cs4} : cs.length ≤ 1000 → BndOf (.tup [.str "handle", e, .tup [.str x, f], .tup (cls4 (up4 cs))]) ([] :: [x] :: cs.map fun c => [c.2.1, c.2.2.1])
  | no {tag : Str} {r ps : List D} : tag ≠ "fun" → tag ≠ "rec" → tag ≠ "let" → tag ≠ "handle" → PartsOf (.tup (.str tag :: r)) ps → ps.length ≤ 1000 → BndOf (.tup (.str tag :: r)) (ps.map fun _ => [])
def bndD (bs : List (List Str)) : List D := bs.map fun b => .tup (b.map D.str)
section
variable {P : Program} {w : World} {K : PySem.W.Frag} {mg : Str → Option Value} {base : Heap}
abbrev g_bound_in_parts : Stmt := topS 5
abbrev n_bound_in_parts : List Str := ["expression", "form", "returned", "clauses", "clause", "_"]
abbrev p_bound_in_parts : List Str := ["expression"]
theorem sc_bound_in_parts : FnScope n_bound_in_parts p_bound_in_parts (defScope g_bound_in_parts) := ⟨rfl, rfl, rfl, by decide +kernel, rfl, by decide +kernel, by decide +kernel⟩
def spBnd : Sp := fun vs H Q _ => ∃ (R : Hp) (d : D) (bs : List (List Str)) (v : V), vs = [v] ∧ Same R H ∧ At R d v ∧ BndOf d bs ∧ ∀ (R' H' : Hp) (u : V), Mv F0 R H R' H' → At R' (.lst (bndD bs)) u → Q u H'
theorem ok_bnd {f fP : Addr} {fd fdP : FuncData} (F : Fun K "bound_in_parts" "bound_in_parts" g_bound_in_parts f fd) (GP : Fn P w K mg base CX0 1 "parts" p_parts spParts fP fdP) : FnOk P w K mg base CX0 2 f fd p_bound_in_parts spBnd := by
  refine F.ok sc_bound_in_parts (fun vs H Q E h => ?_) (fun cdv A outer st H vs Q E hr h => ?_)
  · obtain ⟨R, d, bs, v, rfl, _⟩ := h
    rfl
  · obtain ⟨R, d, bs, v, rfl, sub, hd, hb, q⟩ := h
    refine ⟨_, (pss_cons (ps_set (i := 1) sc_bound_in_parts.nd rfl (Or.inl rfl) (pe_ix ix_tup (pv 0) (pe_int) (fun _ _ => rfl)))
      (pss_cons (ps_if (pt_cmpR op_eq (pv 1) (pe_str) (nomark _)) (pss_one (ps_ret (pe_lst (pa_cons (pe_tup (pa_cons (pe_ix ix_tup (pv 0) (pe_int) (fun _ _ => rfl)) pa_nil)) pa_nil)))) pss_nil)
      (pss_cons (ps_if (pt_cmpR op_eq (pv 1) (pe_str) (nomark _)) (pss_one (ps_ret (pe_lst (pa_cons (pe_tup (pa_cons (pe_ix ix_tup (pv 0) (pe_int) (fun _ _ => rfl)) (pa_cons (pe_ix ix_tup (pv 0) (pe_int) (fun _ _ => rfl)) pa_nil))) pa_nil)))) pss_nil)
      (pss_cons (ps_if (pt_cmpR op_eq (pv 1) (pe_str) (nomark _)) (pss_one (ps_ret (pe_lst (pa_cons (pe_tup pa_nil) (pa_cons (pe_tup (pa_cons (pe_ix ix_tup (pv 0) (pe_int) (fun _ _ => rfl)) pa_nil)) pa_nil))))) pss_nil)
      (pss_cons (ps_if (pt_cmpR op_eq (pv 1) (pe_str) (nomark _)) (pss_cons (ps_asg (pe_slice sl_tup (pv 0) (po_some (pe_int)) po_none) (pg_tup rfl (pgs_cons (pg_name (i := 2) sc_bound_in_parts.nd rfl (Or.inl rfl)) (pgs_cons (pg_name (i := 3) sc_bound_in_parts.nd rfl (Or.inl rfl)) pgs_nil))))
      (pss_one (ps_ret (pe_lst (pa_cons (pe_tup pa_nil) (pa_cons (pe_slice sl_tup (pv 2) po_none (po_some (pe_int))) (StX.pa_star (pe_lc (own := [("clause", 4)]) (g := gName 4) (tt := tYes) (te := tSl (rSlT K) (tVar 4) (tPart (tC (.int 1))) (tPart (tC (.int 3)))) rfl sc_bound_in_parts.nd (pi_tup (pv 3)) (blkOk_by (N := n_bound_in_parts) (sc := defScope g_bound_in_parts) (by decide +kernel)) (fun _ _ _ _ _ => pg_name (i := 4) sc_bound_in_parts.nd rfl (Or.inl rfl)) (fun _ _ _ _ _ => pts_nil) (fun _ _ _ _ _ => pe_slice sl_tup (pv 4) (po_some pe_int) (po_some pe_int))) pa_nil))))))) pss_nil)
      (pss_one (ps_ret (pe_lc (own := [("_", 5)]) (g := gName 5) (tt := tYes) (te := tTup tNil) rfl sc_bound_in_parts.nd (pi_list (pe_call GP.ok hr (by rfl) GP.g GP.kp GP.b .nil pass0 (pa_cons (pv 0) pa_nil))) (blkOk_by (N := n_bound_in_parts) (sc := defScope g_bound_in_parts) (by decide +kernel)) (fun _ _ _ _ _ => pg_name (i := 5) sc_bound_in_parts.nd rfl (Or.inl rfl)) (fun _ _ _ _ _ => pts_nil) (fun _ _ _ _ _ => pe_tup pa_nil))))))))), ?_⟩
    cases hb with
    | @fn x r =>
      obtain ⟨pe, _, rfl, he, _, _, rfl, rfl, _, rr, rfl, rfl, hr2⟩ := hd
      have he := sub _ _ he
      refine ⟨_, rfl, pe, _, 0, _, rfl, rfl, SqT.of he, atI_nat (j := 0) rfl, ?_⟩
      refine ⟨_, rfl, rfl, _, rfl, ?_⟩
      refine ifT (decide_eq_true rfl) ?_
      refine ⟨_, rfl, pe, _, 1, _, rfl, rfl, SqT.of he, atI_nat (j := 1) rfl, by show 1 ≤ sizeLine; decide, fun p n => ?_⟩
      have m1 : Mv F0 R H _ _ := mv_new (o := .tup [.str x]) sub n
      refine ⟨by show 1 ≤ sizeLine; decide, fun l nl => ?_⟩
      exact q _ _ _ (m1.tr (mv_new m1.sub nl)) (.nlst m1.sub nl (.one (.ntup (l := [.str x]) sub n (.one rfl))))
    | @rc h x r =>
      obtain ⟨pe, _, rfl, he, _, _, rfl, rfl, _, _, rfl, rfl, _, rr, rfl, rfl, hr2⟩ := hd
      have he := sub _ _ he
      refine ⟨_, rfl, pe, _, 0, _, rfl, rfl, SqT.of he, atI_nat (j := 0) rfl, ?_⟩
      refine ⟨_, rfl, rfl, _, rfl, ?_⟩
      refine isF (by decide +kernel) ?_
      refine ⟨_, rfl, rfl, _, rfl, ?_⟩
      refine ifT (decide_eq_true rfl) ?_
      refine ⟨_, rfl, pe, _, 1, _, rfl, rfl, SqT.of he, atI_nat (j := 1) rfl, _, rfl, pe, _, 2, _, rfl, rfl, SqT.of he, atI_nat (j := 2) rfl, by show 2 ≤ sizeLine; decide, fun p n => ?_⟩
      have m1 : Mv F0 R H _ _ := mv_new (o := .tup [.str h, .str x]) sub n
      refine ⟨by show 1 ≤ sizeLine; decide, fun l nl => ?_⟩
      exact q _ _ _ (m1.tr (mv_new m1.sub nl)) (.nlst m1.sub nl (.one (.ntup (l := [.str h, .str x]) sub n ⟨_, _, rfl, rfl, _, _, rfl, rfl, rfl⟩)))
    | @lt x r =>
      obtain ⟨pe, _, rfl, he, _, _, rfl, rfl, _, rr, rfl, rfl, hr2⟩ := hd
      have he := sub _ _ he
      refine ⟨_, rfl, pe, _, 0, _, rfl, rfl, SqT.of he, atI_nat (j := 0) rfl, ?_⟩
      refine ⟨_, rfl, rfl, _, rfl, ?_⟩
      refine isF (by decide +kernel) ?_
      refine ⟨_, rfl, rfl, _, rfl, ?_⟩
      refine isF (by decide +kernel) ?_
      refine ⟨_, rfl, rfl, _, rfl, ?_⟩
      refine ifT (decide_eq_true rfl) ?_
      refine ⟨Nat.zero_le _, fun p0 n0 => ?_⟩
      have m0 : Mv F0 R H _ _ := mv_new (o := .tup []) sub n0
      have a0 : At (upd R p0 (.tup [])) (.tup []) (.ref p0) := .ntup (vs := []) sub n0 rfl
      refine ⟨_, rfl, pe, _, 1, _, rfl, rfl, SqT.of (m0.same _ _ he), atI_nat (j := 1) rfl, by show 1 ≤ sizeLine; decide, fun p n => ?_⟩
      have m1 := m0.tr (mv_new (o := .tup [.str x]) m0.sub n)
      have u1 : Same (upd R p0 (.tup [])) (upd (upd R p0 (.tup [])) p (.tup [.str x])) := same_new (m0.sub.free n)
      refine ⟨by show 2 ≤ sizeLine; decide, fun l nl => ?_⟩
      exact q _ _ _ (m1.tr (mv_new m1.sub nl)) (.nlst m1.sub nl ⟨_, _, rfl, a0.up u1, _, _, rfl, .ntup (l := [.str x]) m0.sub n (.one rfl), rfl⟩)
    | @hd e f x cs big =>
      obtain ⟨pe, _, rfl, he, _, _, rfl, rfl, ve, _, rfl, ae, vr, _, rfl, ⟨pr, _, rfl, hpr, vx, _, rfl, rfl, vf, _, rfl, af, rfl⟩, vc, _, rfl, ⟨pc, cvs, rfl, hc, acs⟩, rfl⟩ := hd
      have he := sub _ _ he
      have hpr := sub _ _ hpr
      have hc := sub _ _ hc
      have lc := acs.length
      rw [show (cls4 (up4 cs)).length = cs.length by unfold cls4 up4; rw [List.length_map, List.length_map]] at lc
      refine ⟨_, rfl, pe, _, 0, _, rfl, rfl, SqT.of he, atI_nat (j := 0) rfl, ?_⟩
      refine ⟨_, rfl, rfl, _, rfl, ?_⟩
      refine isF (by decide +kernel) ?_
      refine ⟨_, rfl, rfl, _, rfl, ?_⟩
      refine isF (by decide +kernel) ?_
      refine ⟨_, rfl, rfl, _, rfl, ?_⟩
      refine isF (by decide +kernel) ?_
      refine ⟨_, rfl, rfl, _, rfl, ?_⟩
      refine ifT (decide_eq_true rfl) ?_
      refine ⟨_, rfl, 2, rfl, pe, _, rfl, SqT.of he, (fun e => by have := e.1; exact absurd this (by show ¬ (2 = 0); decide)), fun s0 ns => ?_⟩
      rw [show cutV [V.str "handle", ve, V.ref pr, V.ref pc] (some 2) none = [.ref pr, .ref pc] from rfl]
      have m0 : Mv F0 R H R _ := mv_mut (o := .tup [.ref pr, .ref pc]) sub ns
      refine ⟨s0, [.ref pr, .ref pc], rfl, SqT.of upd_same, rfl, _, _, rfl, _, _, rfl, rfl, ?_⟩
      refine ⟨Nat.zero_le _, fun p0 n0 => ?_⟩
      have m1 := m0.tr (mv_new (o := .tup []) m0.sub n0)
      have a0 : At (upd R p0 (.tup [])) (.tup []) (.ref p0) := .ntup (vs := []) m0.sub n0 rfl
      refine ⟨_, rfl, 1, rfl, pr, _, rfl, SqT.of (m1.same _ _ hpr), (fun e => by have := e.2; exact absurd this (by show ¬ (1 = 2); decide)), fun p1 n1 => ?_⟩
      rw [show cutV [V.str x, vf] none (some 1) = [.str x] from rfl]
      have m2 := m1.tr (mv_new (o := .tup [.str x]) m1.sub n1)
      have a1 : At (upd (upd R p0 (.tup [])) p1 (.tup [.str x])) (.tup [.str x]) (.ref p1) := .ntup (vs := [.str x]) m1.sub n1 (.one rfl)
      have a0 := a0.up (same_new (o := .tup [.str x]) (m1.sub.free n1))
      have hc2 := m2.same _ _ hc
      generalize upd (upd (upd H s0 (.tup [.ref pr, .ref pc])) p0 (.tup [])) p1 (.tup [.str x]) = H2 at m2 hc2
      generalize upd (upd R p0 (.tup [])) p1 (.tup [.str x]) = R2 at m2 a0 a1
      refine ⟨_, rfl, pc, rfl, ⟨_, SqT.of hc2⟩, fun L nL => ?_⟩
      refine lc_tup (K := K) (a := pc) (xs := cvs) (fun i H3 => ∃ (R3 : Hp) (ws : List V), Mv F0 R H R3 H3 ∧ Mv F0 R2 H2 R3 H3 ∧ R3 L = none ∧ H3 L = some (.lst ws) ∧ Ats R3 (bndD ((cs.take i).map fun c => [c.2.1, c.2.2.1])) ws) ?_ ?_ ?_ ?_
      · have mD : Mv F0 R2 H2 R2 _ := mv_mut (o := .lst []) m2.sub nL
        exact ⟨_, [], m2.tr mD, mD, m2.sub.free nL, upd_same, rfl⟩
      · rintro i H3 _ ⟨R3, ws, _, m3, _⟩
        exact SqT.of (m3.same _ _ hc2)
      · rintro i y H3 hy ⟨R3, ws, mv3, m3, rD, hD, aw⟩
        obtain ⟨dd, hdd, ad⟩ := acs.mem hy
        obtain ⟨c4, hcs, rfl⟩ := cls4_get hdd
        obtain ⟨c, hcc, rfl⟩ : ∃ c, cs[i]? = some c ∧ c4 = (.str c.1, .str c.2.1, .str c.2.2.1, c.2.2.2) := by
          unfold up4 at hcs
          rw [List.getElem?_map] at hcs
          cases ec : cs[i]? with
          | none => rw [ec] at hcs; cases hcs
          | some c => rw [ec] at hcs; exact ⟨c, rfl, (Option.some.inj hcs).symm⟩
        obtain ⟨py, _, rfl, hpy, v1, _, rfl, rfl, v2, _, rfl, rfl, v3, _, rfl, rfl, v4, _, rfl, a4, rfl⟩ := ad
        have hpy3 := mv3.sub _ _ (mv3.up _ _ hpy)
        refine ⟨rfl, _, rfl, 1, rfl, 3, rfl, py, _, rfl, SqT.of hpy3, (fun e => by have := e.1; exact absurd this (by show ¬ (1 = 0); decide)), fun S nS => ?_⟩
        have mU := mv3.tr (mv_new (o := .tup [.str c.2.1, .str c.2.2.1]) mv3.sub nS)
        have mU3 := m3.tr (mv_new (o := .tup [.str c.2.1, .str c.2.2.1]) mv3.sub nS)
        have hDU := (mv_new (F := F0) (o := .tup [.str c.2.1, .str c.2.2.1]) mv3.sub nS).same _ _ hD
        have rDU := (mv_new (F := F0) (o := .tup [.str c.2.1, .str c.2.2.1]) mv3.sub nS).out rD hD
        have lw := aw.length
        have li : i < cs.length := (List.getElem?_eq_some_iff.mp hcc).1
        rw [show (bndD ((cs.take i).map fun c => [c.2.1, c.2.2.1])).length = i by unfold bndD; rw [List.length_map, List.length_map, List.length_take]; omega] at lw
        refine ⟨ws, hDU, Nat.lt_of_le_of_lt (by omega : ws.length ≤ 1000) (by decide), ?_⟩
        have mset : Mv (fun x => x = L) _ _ _ _ := mv_at (o := .lst (ws ++ [.ref S])) mU.sub rDU hDU rfl
        have nL0 : H L = none := m2.free nL
        refine ⟨_, ws ++ [.ref S], mU.trans mset (fun _ f => f) (fun x f => .inr (by rw [f]; exact nL0)), mU3.trans mset (fun _ f => f) (fun x f => .inr (by rw [f]; exact nL)), rDU, upd_same, ?_⟩
        rw [List.take_add_one, hcc, List.map_append]
        unfold bndD
        rw [List.map_append]
        exact Ats.snoc (Ats.up (same_new (mv3.sub.free nS)) aw) (At.ntup (l := [.str c.2.1, .str c.2.2.1]) mv3.sub nS ⟨_, _, rfl, rfl, _, _, rfl, rfl, rfl⟩)
      · rintro H3 ⟨R3, ws, mv3, m3, rD, hD, aw⟩
        rw [lc, List.take_length] at aw
        have lw := aw.length
        rw [show (bndD (cs.map fun c => [c.2.1, c.2.2.1])).length = cs.length by unfold bndD; rw [List.length_map, List.length_map]] at lw
        refine ⟨L, ws, rfl, .inr (SqL.of hD), ?_, fun l nl => ?_⟩
        · rw [List.append_nil]
          show ws.length + 1 + 1 ≤ sizeLine
          exact big3 (by omega)
        · rw [List.append_nil]
          exact q _ _ _ (mv3.tr (mv_new mv3.sub nl)) (.nlst mv3.sub nl ⟨_, _, rfl, a0.up m3.up, _, _, rfl, a1.up m3.up, aw⟩)
    | @no tag r ps n1 n2 n3 n4 hps big =>
      have hd' := hd
      obtain ⟨pe, _, rfl, he, _, rr, rfl, rfl, hr2⟩ := hd
      have he := sub _ _ he
      refine ⟨_, rfl, pe, _, 0, _, rfl, rfl, SqT.of he, atI_nat (j := 0) rfl, ?_⟩
      refine ⟨_, rfl, rfl, _, rfl, ?_⟩
      refine isF n1 ?_
      refine ⟨_, rfl, rfl, _, rfl, ?_⟩
      refine isF n2 ?_
      refine ⟨_, rfl, rfl, _, rfl, ?_⟩
      refine isF n3 ?_
      refine ⟨_, rfl, rfl, _, rfl, ?_⟩
      refine isF n4 ?_
      refine ⟨_, rfl, R, _, ps, _, rfl, sub, hd', hps, fun R1 H1 u m1 au => ?_⟩
      obtain ⟨pl, pvs, rfl, hpl, apl⟩ := au
      have lp := apl.length
      have hpl := m1.sub _ _ hpl
      refine ⟨pl, rfl, ⟨_, SqL.of hpl⟩, fun L nL => ?_⟩
      refine lc_list (K := K) (a := pl) (xs := pvs) (fun i H3 => ∃ (R3 : Hp) (ws : List V), Mv F0 R H R3 H3 ∧ Mv F0 R1 H1 R3 H3 ∧ R3 L = none ∧ H3 L = some (.lst ws) ∧ Ats R3 (bndD ((ps.take i).map fun _ => [])) ws) ?_ ?_ ?_ ?_
      · have mD : Mv F0 R1 H1 R1 _ := mv_mut (o := .lst []) m1.sub nL
        exact ⟨_, [], m1.tr mD, mD, m1.sub.free nL, upd_same, rfl⟩
      · rintro i H3 _ ⟨R3, ws, _, m3, _⟩
        exact SqL.of (m3.same _ _ hpl)
      · rintro i y H3 hy ⟨R3, ws, mv3, m3, rD, hD, aw⟩
        obtain ⟨dd, hdd, ad⟩ := apl.mem hy
        refine ⟨rfl, Nat.zero_le _, fun S nS => ?_⟩
        have m1' : Mv F0 R3 H3 _ _ := mv_new (o := .tup []) mv3.sub nS
        have mU := mv3.tr m1'
        have mU3 := m3.tr m1'
        have hDU := m1'.same _ _ hD
        have rDU := m1'.out rD hD
        have lw := aw.length
        have li : i < ps.length := (List.getElem?_eq_some_iff.mp hdd).1
        rw [show (bndD ((ps.take i).map fun _ => [])).length = i by unfold bndD; rw [List.length_map, List.length_map, List.length_take]; omega] at lw
        refine ⟨ws, hDU, Nat.lt_of_le_of_lt (by omega : ws.length ≤ 1000) (by decide), ?_⟩
        have mset : Mv (fun x => x = L) _ _ _ _ := mv_at (o := .lst (ws ++ [.ref S])) mU.sub rDU hDU rfl
        have nL0 : H L = none := m1.free nL
        refine ⟨_, ws ++ [.ref S], mU.trans mset (fun _ f => f) (fun x f => .inr (by rw [f]; exact nL0)), mU3.trans mset (fun _ f => f) (fun x f => .inr (by rw [f]; exact nL)), rDU, upd_same, ?_⟩
        rw [List.take_add_one, hdd, List.map_append]
        unfold bndD
        rw [List.map_append]
        exact Ats.snoc (Ats.up m1'.up aw) (At.ntup (l := []) (vs := []) mv3.sub nS rfl)
      · rintro H3 ⟨R3, ws, mv3, m3, rD, hD, aw⟩
        rw [lp, List.take_length] at aw
        have a9 : At (upd R3 L (.lst ws)) (.lst (bndD (ps.map fun _ => []))) (.ref L) := ⟨L, ws, rfl, upd_same, aw.up (same_new rD)⟩
        have nL0 : H L = none := m1.free nL
        have eH : H3 = upd H3 L (.lst ws) := by
          funext x
          by_cases e : x = L
          · subst e
            rw [upd_same, hD]
          · rw [upd_ne e]
        refine q (upd R3 L (.lst ws)) H3 _ ⟨mv3.keep, mv3.dom, mv3.up.trans (same_new rD), fun b z e => ?_, fun b z e => ?_⟩ a9
        · by_cases eb : b = L
          · subst eb
            rw [upd_same] at e
            rw [hD]
            exact e
          · rw [upd_ne eb] at e
            exact mv3.sub b z e
        · by_cases eb : b = L
          · subst eb
            exact .inr nL0
          · rw [upd_ne eb] at e
            exact mv3.new b z e
end
end Bz


set_option Elab.async false
set_option linter.all false
set_option maxRecDepth 100000
set_option maxHeartbeats 4000000
namespace Bz
open PySem PySem.Spec L2 PyProof.Rows
/-! ### expressions by their parts -/
def Clz.gs : Clz → List Ex
  | .nil => []
  | .cons _ _ _ g r => g :: r.gs
def Clz.c4 (p : Bool) : Clz → List Cs4
  | .nil => []
  | .cons o x k g r => (o, x, k, g.d p) :: r.c4 p
def Clz.nb : Clz → List (List Str)
  | .nil => []
  | .cons _ x k _ r => [x, k] :: r.nb
def Clz.len : Clz → Nat
  | .nil => 0
  | .cons _ _ _ _ r => r.len + 1
theorem Clz.d4 (p : Bool) : ∀ c : Clz, c.d p = cls4 (up4 (c.c4 p))
  | .nil => rfl
  | .cons o x k g r => by
    show D.tup [.str o, .str x, .str k, g.d p] :: r.d p = _
    rw [Clz.d4 p r]
    rfl
theorem Clz.g4 (p : Bool) : ∀ c : Clz, gs4 (up4 (c.c4 p)) = c.gs.map (Ex.d p)
  | .nil => rfl
  | .cons o x k g r => by
    show g.d p :: gs4 (up4 (r.c4 p)) = _
    rw [Clz.g4 p r]
    rfl
theorem Clz.n4 (p : Bool) : ∀ c : Clz, (c.c4 p).map (fun c => [c.2.1, c.2.2.1]) = c.nb
  | .nil => rfl
  | .cons o x k g r => by
    show [x, k] :: (r.c4 p).map _ = _
    rw [Clz.n4 p r]
    rfl
theorem Clz.l4 (p : Bool) : ∀ c : Clz, (c.c4 p).length = c.len
  | .nil => rfl
  | .cons o x k g r => congrArg (· + 1) (Clz.l4 p r)
theorem Clz.s4 : ∀ c : Clz, cls4 (setG (up4 (c.c4 false)) (c.gs.map (Ex.d true))) = c.d true
  | .nil => rfl
  | .cons o x k g r => by
    show D.tup [.str o, .str x, .str k, g.d true] :: cls4 (setG (up4 (r.c4 false)) (r.gs.map (Ex.d true))) = _
    rw [Clz.s4 r]
    rfl
theorem Clz.lg : ∀ c : Clz, c.gs.length = c.len
  | .nil => rfl
  | .cons o x k g r => congrArg (· + 1) (Clz.lg r)
def exParts : Ex → List Ex
  | .num _ => [] | .flag _ => [] | .unit => [] | .name _ => []
  | .call f e => [f, e] | .fn _ e => [e] | .rc _ _ e => [e] | .lt _ e f => [e, f] | .ite e f g => [e, f, g]
  | .pair e f => [e, f] | .fst e => [e] | .snd e => [e] | .op _ e f => [e, f] | .nt e => [e] | .pr e f => [e, f] | .ask _ e => [e]
  | .hd e _ f cs => e :: f :: cs.gs
def bnds : Ex → List (List Str)
  | .num _ => [] | .flag _ => [] | .unit => [] | .name _ => []
  | .call _ _ => [[], []] | .fn x _ => [[x]] | .rc h x _ => [[h, x]] | .lt x _ _ => [[], [x]] | .ite _ _ _ => [[], [], []]
  | .pair _ _ => [[], []] | .fst _ => [[]] | .snd _ => [[]] | .op _ _ _ => [[], []] | .nt _ => [[]] | .pr _ _ => [[], []] | .ask _ _ => [[]]
  | .hd _ x _ cs => [] :: [x] :: cs.nb
mutual
def exD : Ex → Nat
  | .num _ => 1 | .flag _ => 1 | .unit => 1 | .name _ => 1
  | .call f e => Nat.max (exD f) (exD e) + 1 | .fn _ e => exD e + 1 | .rc _ _ e => exD e + 1 | .lt _ e f => Nat.max (exD e) (exD f) + 1 | .ite e f g => Nat.max (exD e) (Nat.max (exD f) (exD g)) + 1
  | .pair e f => Nat.max (exD e) (exD f) + 1 | .fst e => exD e + 1 | .snd e => exD e + 1 | .op _ e f => Nat.max (exD e) (exD f) + 1 | .nt e => exD e + 1 | .pr e f => Nat.max (exD e) (exD f) + 1 | .ask _ e => exD e + 1
  | .hd e _ f cs => Nat.max (exD e) (Nat.max (exD f) (clD cs)) + 1
def clD : Clz → Nat
  | .nil => 0
  | .cons _ _ _ g r => Nat.max (exD g) (clD r)
end
mutual
/-- how many expressions there are -/
def exN : Ex → Nat
  | .num _ => 1 | .flag _ => 1 | .unit => 1 | .name _ => 1
  | .call f e => exN f + exN e + 1 | .fn _ e => exN e + 1 | .rc _ _ e => exN e + 1 | .lt _ e f => exN e + exN f + 1 | .ite e f g => exN e + (exN f + exN g) + 1
  | .pair e f => exN e + exN f + 1 | .fst e => exN e + 1 | .snd e => exN e + 1 | .op _ e f => exN e + exN f + 1 | .nt e => exN e + 1 | .pr e f => exN e + exN f + 1 | .ask _ e => exN e + 1
  | .hd e _ f cs => exN e + (exN f + clN cs) + 1
def clN : Clz → Nat
  | .nil => 0
  | .cons _ _ _ g r => exN g + clN r
end
mutual
/-- few clauses everywhere -/
def smE : Ex → Bool
  | .num _ => true | .flag _ => true | .unit => true | .name _ => true
  | .call f e => smE f && smE e | .fn _ e => smE e | .rc _ _ e => smE e | .lt _ e f => smE e && smE f | .ite e f g => smE e && (smE f && smE g)
  | .pair e f => smE e && smE f | .fst e => smE e | .snd e => smE e | .op _ e f => smE e && smE f | .nt e => smE e | .pr e f => smE e && smE f | .ask _ e => smE e
  | .hd e _ f cs => decide (cs.len ≤ 900) && (smE e && (smE f && smC cs))
def smC : Clz → Bool
  | .nil => true
  | .cons _ _ _ g r => smE g && smC r
end
def clsLen : Ex → Nat
  | .hd _ _ _ cs => cs.len
  | _ => 0
theorem sm_len {e : Ex} (h : smE e = true) : clsLen e ≤ 900 := by
  cases e with
  | hd e x f cs =>
    have h : (decide (cs.len ≤ 900) && (smE e && (smE f && smC cs))) = true := h
    rw [Bool.and_eq_true, decide_eq_true_eq] at h
    exact h.1
  | _ => exact Nat.zero_le _
theorem ex_parts (e : Ex) (h : clsLen e ≤ 900) : PartsOf (e.d false) ((exParts e).map (Ex.d false)) := by
  cases e with
  | num n => exact .a (lead := [.int n]) (ps := []) (by decide +kernel) rfl (by simp)
  | flag b => exact .a (lead := [.bl b]) (ps := []) (by decide +kernel) rfl (by simp)
  | unit => exact .a (lead := []) (ps := []) (by decide +kernel) rfl (by simp)
  | name x => exact .a (lead := [.str x]) (ps := []) (by decide +kernel) rfl (by simp)
  | call f e => exact .a (lead := []) (ps := [f.d false, e.d false]) (by decide +kernel) rfl (by simp)
  | fn x e => exact .a (lead := [.str x]) (ps := [e.d false]) (by decide +kernel) rfl (by simp)
  | rc y x e => exact .a (lead := [.str y, .str x]) (ps := [e.d false]) (by decide +kernel) rfl (by simp)
  | lt x e f => exact .a (lead := [.str x]) (ps := [e.d false, f.d false]) (by decide +kernel) rfl (by simp)
  | ite e f g => exact .a (lead := []) (ps := [e.d false, f.d false, g.d false]) (by decide +kernel) rfl (by simp)
  | pair e f => exact .a (lead := []) (ps := [e.d false, f.d false]) (by decide +kernel) rfl (by simp)
  | fst e => exact .a (lead := []) (ps := [e.d false]) (by decide +kernel) rfl (by simp)
  | snd e => exact .a (lead := []) (ps := [e.d false]) (by decide +kernel) rfl (by simp)
  | op s e f => exact .a (lead := [.str s]) (ps := [e.d false, f.d false]) (by decide +kernel) rfl (by simp)
  | nt e => exact .a (lead := []) (ps := [e.d false]) (by decide +kernel) rfl (by simp)
  | pr e f => exact .a (lead := []) (ps := [e.d false, f.d false]) (by decide +kernel) rfl (by simp)
  | ask o e => exact .a (lead := [.str o]) (ps := [e.d false]) (by decide +kernel) rfl (by simp)
  | hd e x f cs =>
    have z := PartsOf.h (e := e.d false) (x := .str x) (f := f.d false) (cs := up4 (cs.c4 false)) (by unfold up4; rw [List.length_map, Clz.l4]; exact Nat.le_trans h (by decide))
    rw [Clz.g4, ← Clz.d4] at z
    exact z
theorem ex_bnd (e : Ex) (h : clsLen e ≤ 900) : BndOf (e.d false) (bnds e) := by
  have hp := ex_parts e h
  cases e with
  | fn x e => exact .fn
  | rc y x e => exact .rc
  | lt x e f => exact .lt
  | hd e x f cs =>
    have z := BndOf.hd (e := e.d false) (x := x) (f := f.d false) (cs := cs.c4 false) (by rw [Clz.l4]; exact Nat.le_trans h (by decide))
    rw [Clz.n4, ← Clz.d4] at z
    exact z
  | num n => exact .no (by decide +kernel) (by decide +kernel) (by decide +kernel) (by decide +kernel) hp (by simp [exParts])
  | flag b => exact .no (by decide +kernel) (by decide +kernel) (by decide +kernel) (by decide +kernel) hp (by simp [exParts])
  | unit => exact .no (by decide +kernel) (by decide +kernel) (by decide +kernel) (by decide +kernel) hp (by simp [exParts])
  | name x => exact .no (by decide +kernel) (by decide +kernel) (by decide +kernel) (by decide +kernel) hp (by simp [exParts])
  | call f e => exact .no (by decide +kernel) (by decide +kernel) (by decide +kernel) (by decide +kernel) hp (by show 2 ≤ 1000; decide)
  | ite e f g => exact .no (by decide +kernel) (by decide +kernel) (by decide +kernel) (by decide +kernel) hp (by show 3 ≤ 1000; decide)
  | pair e f => exact .no (by decide +kernel) (by decide +kernel) (by decide +kernel) (by decide +kernel) hp (by show 2 ≤ 1000; decide)
  | fst e => exact .no (by decide +kernel) (by decide +kernel) (by decide +kernel) (by decide +kernel) hp (by show 1 ≤ 1000; decide)
  | snd e => exact .no (by decide +kernel) (by decide +kernel) (by decide +kernel) (by decide +kernel) hp (by show 1 ≤ 1000; decide)
  | op s e f => exact .no (by decide +kernel) (by decide +kernel) (by decide +kernel) (by decide +kernel) hp (by show 2 ≤ 1000; decide)
  | nt e => exact .no (by decide +kernel) (by decide +kernel) (by decide +kernel) (by decide +kernel) hp (by show 1 ≤ 1000; decide)
  | pr e f => exact .no (by decide +kernel) (by decide +kernel) (by decide +kernel) (by decide +kernel) hp (by show 2 ≤ 1000; decide)
  | ask o e => exact .no (by decide +kernel) (by decide +kernel) (by decide +kernel) (by decide +kernel) hp (by show 1 ≤ 1000; decide)
/-- prepared but for the names of a function -/
def exPre : Ex → D
  | .fn x e => .tup [.str "fun", .str x, e.d true]
  | .rc h x e => .tup [.str "rec", .str h, .str x, e.d true]
  | e => e.d true
theorem ex_with (e : Ex) (h : clsLen e ≤ 900) : WithP (e.d false) ((exParts e).map (Ex.d true)) (exPre e) := by
  cases e with
  | num n => exact .a (lead := [.int n]) (ps := []) (is := []) (by decide +kernel) rfl (by simp) (by simp)
  | flag b => exact .a (lead := [.bl b]) (ps := []) (is := []) (by decide +kernel) rfl (by simp) (by simp)
  | unit => exact .a (lead := []) (ps := []) (is := []) (by decide +kernel) rfl (by simp) (by simp)
  | name x => exact .a (lead := [.str x]) (ps := []) (is := []) (by decide +kernel) rfl (by simp) (by simp)
  | call f e => exact .a (lead := []) (ps := [f.d false, e.d false]) (is := [f.d true, e.d true]) (by decide +kernel) rfl (by simp) (by simp)
  | fn x e => exact .a (lead := [.str x]) (ps := [e.d false]) (is := [e.d true]) (by decide +kernel) rfl (by simp) (by simp)
  | rc y x e => exact .a (lead := [.str y, .str x]) (ps := [e.d false]) (is := [e.d true]) (by decide +kernel) rfl (by simp) (by simp)
  | lt x e f => exact .a (lead := [.str x]) (ps := [e.d false, f.d false]) (is := [e.d true, f.d true]) (by decide +kernel) rfl (by simp) (by simp)
  | ite e f g => exact .a (lead := []) (ps := [e.d false, f.d false, g.d false]) (is := [e.d true, f.d true, g.d true]) (by decide +kernel) rfl (by simp) (by simp)
  | pair e f => exact .a (lead := []) (ps := [e.d false, f.d false]) (is := [e.d true, f.d true]) (by decide +kernel) rfl (by simp) (by simp)
  | fst e => exact .a (lead := []) (ps := [e.d false]) (is := [e.d true]) (by decide +kernel) rfl (by simp) (by simp)
  | snd e => exact .a (lead := []) (ps := [e.d false]) (is := [e.d true]) (by decide +kernel) rfl (by simp) (by simp)
  | op s e f => exact .a (lead := [.str s]) (ps := [e.d false, f.d false]) (is := [e.d true, f.d true]) (by decide +kernel) rfl (by simp) (by simp)
  | nt e => exact .a (lead := []) (ps := [e.d false]) (is := [e.d true]) (by decide +kernel) rfl (by simp) (by simp)
  | pr e f => exact .a (lead := []) (ps := [e.d false, f.d false]) (is := [e.d true, f.d true]) (by decide +kernel) rfl (by simp) (by simp)
  | ask o e => exact .a (lead := [.str o]) (ps := [e.d false]) (is := [e.d true]) (by decide +kernel) rfl (by simp) (by simp)
  | hd e x f cs =>
    have h : cs.len ≤ 900 := h
    have z := WithP.h (e := e.d false) (x := .str x) (f := f.d false) (cs := up4 (cs.c4 false)) (e' := e.d true) (f' := f.d true) (gs := cs.gs.map (Ex.d true)) (by unfold up4; rw [List.length_map, Clz.l4]; omega) (by unfold up4; rw [List.length_map, List.length_map, Clz.l4, Clz.lg])
    rw [Clz.s4, ← Clz.d4] at z
    exact z
theorem cl_mem {c : Clz} : ∀ {g : Ex}, g ∈ c.gs → exD g ≤ clD c ∧ (smC c = true → smE g = true) := by
  induction c using Clz.rec (motive_1 := fun _ => True) with
  | nil => intro g h; cases h
  | cons o x k g r _ ih =>
    intro g' h
    rcases List.mem_cons.mp h with e | h
    · subst e
      refine ⟨Nat.le_max_left _ _, fun q => ?_⟩
      have q : (smE g' && smC r) = true := q
      rw [Bool.and_eq_true] at q
      exact q.1
    · obtain ⟨i1, i2⟩ := ih h
      refine ⟨Nat.le_trans i1 (Nat.le_max_right _ _), fun q => ?_⟩
      have q : (smE g && smC r) = true := q
      rw [Bool.and_eq_true] at q
      exact i2 q.2
  | _ => trivial
theorem part_mem {e g : Ex} (h : g ∈ exParts e) : exD g < exD e ∧ (smE e = true → smE g = true) := by
  have two : ∀ {a b : Nat}, a < Nat.max a b + 1 ∧ b < Nat.max a b + 1 := fun {a b} => ⟨Nat.lt_succ_of_le (Nat.le_max_left a b), Nat.lt_succ_of_le (Nat.le_max_right a b)⟩
  have b2 : ∀ {a b : Bool}, (a && b) = true → a = true ∧ b = true := fun {a b} q => by rw [Bool.and_eq_true] at q; exact q
  cases e with
  | num n => cases h
  | flag b => cases h
  | unit => cases h
  | name x => cases h
  | fn x e => rw [List.mem_singleton.mp h]; exact ⟨Nat.lt_succ_self _, id⟩
  | rc y x e => rw [List.mem_singleton.mp h]; exact ⟨Nat.lt_succ_self _, id⟩
  | fst e => rw [List.mem_singleton.mp h]; exact ⟨Nat.lt_succ_self _, id⟩
  | snd e => rw [List.mem_singleton.mp h]; exact ⟨Nat.lt_succ_self _, id⟩
  | nt e => rw [List.mem_singleton.mp h]; exact ⟨Nat.lt_succ_self _, id⟩
  | ask o e => rw [List.mem_singleton.mp h]; exact ⟨Nat.lt_succ_self _, id⟩
  | call f e =>
    rcases List.mem_cons.mp h with q | h
    · rw [q]; exact ⟨two.1, fun z => (b2 z).1⟩
    · rw [List.mem_singleton.mp h]; exact ⟨two.2, fun z => (b2 z).2⟩
  | lt x e f =>
    rcases List.mem_cons.mp h with q | h
    · rw [q]; exact ⟨two.1, fun z => (b2 z).1⟩
    · rw [List.mem_singleton.mp h]; exact ⟨two.2, fun z => (b2 z).2⟩
  | pair e f =>
    rcases List.mem_cons.mp h with q | h
    · rw [q]; exact ⟨two.1, fun z => (b2 z).1⟩
    · rw [List.mem_singleton.mp h]; exact ⟨two.2, fun z => (b2 z).2⟩
  | op s e f =>
    rcases List.mem_cons.mp h with q | h
    · rw [q]; exact ⟨two.1, fun z => (b2 z).1⟩
    · rw [List.mem_singleton.mp h]; exact ⟨two.2, fun z => (b2 z).2⟩
  | pr e f =>
    rcases List.mem_cons.mp h with q | h
    · rw [q]; exact ⟨two.1, fun z => (b2 z).1⟩
    · rw [List.mem_singleton.mp h]; exact ⟨two.2, fun z => (b2 z).2⟩
  | ite e f k =>
    rcases List.mem_cons.mp h with q | h
    · rw [q]; exact ⟨two.1, fun z => (b2 z).1⟩
    rcases List.mem_cons.mp h with q | h
    · rw [q]; exact ⟨Nat.lt_of_lt_of_le two.1 (Nat.succ_le_succ (Nat.le_max_right _ _)), fun z => (b2 (b2 z).2).1⟩
    · rw [List.mem_singleton.mp h]; exact ⟨Nat.lt_of_lt_of_le two.2 (Nat.succ_le_succ (Nat.le_max_right _ _)), fun z => (b2 (b2 z).2).2⟩
  | hd e x f cs =>
    rcases List.mem_cons.mp h with q | h
    · rw [q]; exact ⟨two.1, fun z => (b2 (b2 z).2).1⟩
    rcases List.mem_cons.mp h with q | h
    · rw [q]; exact ⟨Nat.lt_of_lt_of_le two.1 (Nat.succ_le_succ (Nat.le_max_right _ _)), fun z => (b2 (b2 (b2 z).2).2).1⟩
    · obtain ⟨i1, i2⟩ := cl_mem h
      exact ⟨Nat.lt_of_le_of_lt i1 (Nat.lt_of_lt_of_le two.2 (Nat.succ_le_succ (Nat.le_max_right _ _))), fun z => i2 (b2 (b2 (b2 z).2).2).2⟩
def foldN : List (Ex × List Str) → List Str → List Str → List Str
  | [], _, ks => ks
  | (e, b) :: r, bs, ks => foldN r bs (noted e (bs ++ b) ks)
def preN : Ex → List Str → List Str → List Str
  | .name x, bs, ks => if x ∈ bs then ks else addN x ks
  | _, _, ks => ks
theorem cl_fold : ∀ (c : Clz) (bs ks : List Str), notedC c bs ks = foldN (c.gs.zip c.nb) bs ks
  | .nil, _, _ => rfl
  | .cons o x k g r, bs, ks => cl_fold r bs (noted g (bs ++ [x, k]) ks)
theorem ex_fold (e : Ex) (bs ks : List Str) : noted e bs ks = foldN ((exParts e).zip (bnds e)) bs (preN e bs ks) := by
  cases e with
  | hd e x f cs =>
    show notedC cs bs (noted f (bs ++ [x]) (noted e bs ks)) = foldN (cs.gs.zip cs.nb) bs (noted f (bs ++ [x]) (noted e (bs ++ []) ks))
    rw [List.append_nil]
    exact cl_fold _ _ _
  | num n => rfl
  | flag b => rfl
  | unit => rfl
  | name x => rfl
  | fn x e => rfl
  | rc y x e => rfl
  | call f e => show _ = noted e (bs ++ []) (noted f (bs ++ []) ks); rw [List.append_nil]; rfl
  | lt x e f => show _ = noted f (bs ++ [x]) (noted e (bs ++ []) ks); rw [List.append_nil]; rfl
  | ite e f g => show _ = noted g (bs ++ []) (noted f (bs ++ []) (noted e (bs ++ []) ks)); rw [List.append_nil]; rfl
  | pair e f => show _ = noted f (bs ++ []) (noted e (bs ++ []) ks); rw [List.append_nil]; rfl
  | fst e => show _ = noted e (bs ++ []) ks; rw [List.append_nil]; rfl
  | snd e => show _ = noted e (bs ++ []) ks; rw [List.append_nil]; rfl
  | op s e f => show _ = noted f (bs ++ []) (noted e (bs ++ []) ks); rw [List.append_nil]; rfl
  | nt e => show _ = noted e (bs ++ []) ks; rw [List.append_nil]; rfl
  | pr e f => show _ = noted f (bs ++ []) (noted e (bs ++ []) ks); rw [List.append_nil]; rfl
  | ask o e => show _ = noted e (bs ++ []) ks; rw [List.append_nil]; rfl
theorem parts_bnds (e : Ex) : (exParts e).length = (bnds e).length := by
  cases e with
  | hd e x f cs =>
    show cs.gs.length + 1 + 1 = cs.nb.length + 1 + 1
    have : ∀ c : Clz, c.gs.length = c.nb.length := fun c => by
      induction c using Clz.rec (motive_1 := fun _ => True) with
      | nil => rfl
      | cons o x k g r _ ih => exact congrArg (· + 1) ih
      | _ => trivial
    rw [this]
  | _ => rfl
theorem addN_len (x : Str) (ks : List Str) : (addN x ks).length ≤ ks.length + 1 := by
  unfold addN
  split
  · omega
  · rw [List.length_append]; exact Nat.le_refl _
theorem addN_nd {x : Str} {ks : List Str} (h : ks.Nodup) : (addN x ks).Nodup := by
  unfold addN
  split
  · exact h
  · rename_i n; exact nd_snoc h n
mutual
theorem noted_len : ∀ (e : Ex) (bs ks : List Str), (noted e bs ks).length ≤ ks.length + exN e
  | .num _, _, ks => Nat.le_succ _
  | .flag _, _, ks => Nat.le_succ _
  | .unit, _, ks => Nat.le_succ _
  | .name x, bs, ks => by
    show (if x ∈ bs then ks else addN x ks).length ≤ ks.length + 1
    split
    · omega
    · exact addN_len x ks
  | .call f e, bs, ks => by have h1 := noted_len e bs (noted f bs ks); have h2 := noted_len f bs ks; show _ ≤ ks.length + (exN f + exN e + 1); unfold noted; omega
  | .fn x e, bs, ks => by have h1 := noted_len e (bs ++ [x]) ks; show _ ≤ ks.length + (exN e + 1); unfold noted; omega
  | .rc h x e, bs, ks => by have h1 := noted_len e (bs ++ [h, x]) ks; show _ ≤ ks.length + (exN e + 1); unfold noted; omega
  | .lt x e f, bs, ks => by have h1 := noted_len f (bs ++ [x]) (noted e bs ks); have h2 := noted_len e bs ks; show _ ≤ ks.length + (exN e + exN f + 1); unfold noted; omega
  | .ite e f g, bs, ks => by have h1 := noted_len g bs (noted f bs (noted e bs ks)); have h2 := noted_len f bs (noted e bs ks); have h3 := noted_len e bs ks; show _ ≤ ks.length + (exN e + (exN f + exN g) + 1); unfold noted; omega
  | .pair e f, bs, ks => by have h1 := noted_len f bs (noted e bs ks); have h2 := noted_len e bs ks; show _ ≤ ks.length + (exN e + exN f + 1); unfold noted; omega
  | .fst e, bs, ks => by have h1 := noted_len e bs ks; show _ ≤ ks.length + (exN e + 1); unfold noted; omega
  | .snd e, bs, ks => by have h1 := noted_len e bs ks; show _ ≤ ks.length + (exN e + 1); unfold noted; omega
  | .op _ e f, bs, ks => by have h1 := noted_len f bs (noted e bs ks); have h2 := noted_len e bs ks; show _ ≤ ks.length + (exN e + exN f + 1); unfold noted; omega
  | .nt e, bs, ks => by have h1 := noted_len e bs ks; show _ ≤ ks.length + (exN e + 1); unfold noted; omega
  | .pr e f, bs, ks => by have h1 := noted_len f bs (noted e bs ks); have h2 := noted_len e bs ks; show _ ≤ ks.length + (exN e + exN f + 1); unfold noted; omega
  | .ask _ e, bs, ks => by have h1 := noted_len e bs ks; show _ ≤ ks.length + (exN e + 1); unfold noted; omega
  | .hd e x f cs, bs, ks => by have h1 := notedC_len cs bs (noted f (bs ++ [x]) (noted e bs ks)); have h2 := noted_len f (bs ++ [x]) (noted e bs ks); have h3 := noted_len e bs ks; show _ ≤ ks.length + (exN e + (exN f + clN cs) + 1); unfold noted; omega
theorem notedC_len : ∀ (c : Clz) (bs ks : List Str), (notedC c bs ks).length ≤ ks.length + clN c
  | .nil, _, _ => Nat.le_refl _
  | .cons o x k g r, bs, ks => by have h1 := notedC_len r bs (noted g (bs ++ [x, k]) ks); have h2 := noted_len g (bs ++ [x, k]) ks; show _ ≤ ks.length + (exN g + clN r); unfold notedC; omega
end
def sumN : List (Ex × List Str) → Nat
  | [] => 0
  | p :: r => exN p.1 + sumN r
theorem cl_sum : ∀ c : Clz, sumN (c.gs.zip c.nb) = clN c
  | .nil => rfl
  | .cons o x k g r => congrArg (exN g + ·) (cl_sum r)
theorem ex_sum (e : Ex) : sumN ((exParts e).zip (bnds e)) + 1 = exN e := by
  cases e with
  | hd e x f cs =>
    show exN e + (exN f + sumN (cs.gs.zip cs.nb)) + 1 = _
    rw [cl_sum]
    rfl
  | _ => rfl
end Bz


set_option Elab.async false
set_option linter.all false
set_option maxRecDepth 100000
set_option maxHeartbeats 4000000
namespace Bz
open PySem PySem.Spec L2 PyProof.Rows
mutual
theorem noted_nd : ∀ (e : Ex) (bs : List Str) {ks : List Str}, ks.Nodup → (noted e bs ks).Nodup
  | .num _, _, _, h => h
  | .flag _, _, _, h => h
  | .unit, _, _, h => h
  | .name x, bs, ks, h => by
    show (if x ∈ bs then ks else addN x ks).Nodup
    split
    · exact h
    · exact addN_nd h
  | .call f e, bs, _, h => noted_nd e bs (noted_nd f bs h)
  | .fn x e, bs, _, h => noted_nd e _ h
  | .rc y x e, bs, _, h => noted_nd e _ h
  | .lt x e f, bs, _, h => noted_nd f _ (noted_nd e bs h)
  | .ite e f g, bs, _, h => noted_nd g bs (noted_nd f bs (noted_nd e bs h))
  | .pair e f, bs, _, h => noted_nd f bs (noted_nd e bs h)
  | .fst e, bs, _, h => noted_nd e bs h
  | .snd e, bs, _, h => noted_nd e bs h
  | .op _ e f, bs, _, h => noted_nd f bs (noted_nd e bs h)
  | .nt e, bs, _, h => noted_nd e bs h
  | .pr e f, bs, _, h => noted_nd f bs (noted_nd e bs h)
  | .ask _ e, bs, _, h => noted_nd e bs h
  | .hd e x f cs, bs, _, h => notedC_nd cs bs (noted_nd f _ (noted_nd e bs h))
theorem notedC_nd : ∀ (c : Clz) (bs : List Str) {ks : List Str}, ks.Nodup → (notedC c bs ks).Nodup
  | .nil, _, _, h => h
  | .cons o x k g r, bs, _, h => notedC_nd r bs (noted_nd g _ h)
end
theorem foldN_snoc (p : Ex × List Str) : ∀ (l : List (Ex × List Str)) (bs ks : List Str), foldN (l ++ [p]) bs ks = noted p.1 (bs ++ p.2) (foldN l bs ks)
  | [], _, _ => rfl
  | q :: l, bs, ks => foldN_snoc p l bs _
theorem foldN_len : ∀ (l : List (Ex × List Str)) (bs ks : List Str), (foldN l bs ks).length ≤ ks.length + sumN l
  | [], _, _ => Nat.le_refl _
  | p :: l, bs, ks => by
    have h1 := foldN_len l bs (noted p.1 (bs ++ p.2) ks)
    have h2 := noted_len p.1 (bs ++ p.2) ks
    show (foldN l bs _).length ≤ ks.length + (exN p.1 + sumN l)
    omega
theorem sumN_take : ∀ (l : List (Ex × List Str)) (i : Nat) (p : Ex × List Str), l[i]? = some p → sumN (l.take i) + exN p.1 ≤ sumN l
  | [], _, _, h => by simp at h
  | q :: l, 0, p, h => by
    cases (show q = p from Option.some.inj h)
    exact Nat.le_trans (Nat.le_of_eq (Nat.zero_add _)) (Nat.le_add_right _ _)
  | q :: l, i + 1, p, h => by
    have ih := sumN_take l i p (by simpa using h)
    show exN q.1 + sumN (l.take i) + exN p.1 ≤ exN q.1 + sumN l
    omega
theorem big3' {n : Nat} (h : n ≤ 20000) : n ≤ sizeLine := Nat.le_trans h (by decide)
theorem bnds_two {e : Ex} {b : List Str} (h : b ∈ bnds e) : b.length ≤ 2 := by
  cases e with
  | hd e x f cs =>
    rcases List.mem_cons.mp h with q | h
    · rw [q]; exact Nat.zero_le _
    rcases List.mem_cons.mp h with q | h
    · rw [q]; exact Nat.le_succ 1
    · have : ∀ c : Clz, ∀ b ∈ c.nb, b.length ≤ 2 := fun c => by
        induction c using Clz.rec (motive_1 := fun _ => True) with
        | nil => intro b h; cases h
        | cons o x k g r _ ih =>
          intro b h
          rcases List.mem_cons.mp h with q | h
          · rw [q]; exact Nat.le_refl _
          · exact ih b h
        | _ => trivial
      exact this cs b h
  | _ =>
    simp [bnds] at h
    try (rcases h with h | h | h <;> simp [h])
    try (rcases h with h | h <;> simp [h])
    try simp [h]
section
variable {P : Program} {w : World} {K : PySem.W.Frag} {mg : Str → Option Value} {base : Heap}
abbrev g_note_free_names : Stmt := topS 7
abbrev n_note_free_names : List Str := ["expression", "bound", "found", "part", "names"]
abbrev p_note_free_names : List Str := ["expression", "bound", "found"]
theorem sc_note_free_names : FnScope n_note_free_names p_note_free_names (defScope g_note_free_names) := ⟨rfl, rfl, rfl, by decide +kernel, rfl, by decide +kernel, by decide +kernel⟩
def tagE : Ex → Str
  | .num _ => "num" | .flag _ => "flag" | .unit => "unit" | .name _ => "name"
  | .call _ _ => "call" | .fn _ _ => "fun" | .rc _ _ _ => "rec" | .lt _ _ _ => "let" | .ite _ _ _ => "if"
  | .pair _ _ => "pair" | .fst _ => "fst" | .snd _ => "snd" | .op _ _ _ => "op" | .nt _ => "not" | .pr _ _ => "print" | .ask _ _ => "ask"
  | .hd _ _ _ _ => "handle"
theorem ex_tag (p : Bool) (e : Ex) : ∃ r, e.d p = .tup (.str (tagE e) :: r) := by cases e <;> exact ⟨_, rfl⟩
theorem ex_head {R : Hp} {e : Ex} {p : Bool} {v : V} (h : At R (e.d p) v) : ∃ pe r, v = .ref pe ∧ R pe = some (.tup (.str (tagE e) :: r)) := by
  obtain ⟨r, er⟩ := ex_tag p e
  rw [er] at h
  obtain ⟨pe, _, rfl, he, _, rr, rfl, rfl, _⟩ := h
  exact ⟨pe, rr, rfl, he⟩
theorem tag_name {e : Ex} (h : ∀ x, e ≠ .name x) : tagE e ≠ "name" ∧ ∀ bs ks, preN e bs ks = ks := by
  cases e with
  | name x => exact absurd rfl (h x)
  | _ => exact ⟨fun h => by simp only [tagE] at h; revert h; decide +kernel, fun _ _ => rfl⟩
def spNote (n : Nat) : Sp := fun vs H Q _ => ∃ (R : Hp) (e : Ex) (bs ks : List Str) (v b : V) (f : Addr), vs = [v, b, .ref f] ∧ Same R H ∧ At R (e.d false) v ∧ At R (.tup (bs.map D.str)) b ∧ R f = none ∧ H f = some (.dK (nkK ks)) ∧
  exD e ≤ n ∧ smE e = true ∧ ks.length + exN e ≤ 1000000 ∧ bs.length + 2 * n ≤ 10000 ∧ ∀ (R' H' : Hp), Mv (fun x => x = f) R H R' H' → H' f = some (.dK (nkK (noted e bs ks))) → Q .non H'
theorem ex_pos (e : Ex) : 1 ≤ exD e := by cases e <;> exact Nat.le_add_left _ _
theorem ok_note0 {f : Addr} {fd : FuncData} (F : Fun K "note_free_names" "note_free_names" g_note_free_names f fd) : FnOk P w K mg base CX0 3 f fd p_note_free_names (spNote 0) := by
  refine F.ok (k := 2) sc_note_free_names (fun vs H Q E h => ?_) (fun cdv A outer st H vs Q E hr h => ?_)
  · obtain ⟨R, e, bs, ks, v, b, fa, rfl, _⟩ := h
    rfl
  · obtain ⟨R, e, bs, ks, v, b, fa, rfl, _, _, _, _, _, h, _⟩ := h
    exact absurd h (by have := ex_pos e; omega)
theorem ok_note {n : Nat} {f fP fB : Addr} {fd fdP fdB : FuncData} (F : Fun K "note_free_names" "note_free_names" g_note_free_names f fd) (mz : mg "zip" = none)
    (GP : Fn P w K mg base CX0 1 "parts" p_parts spParts fP fdP) (GB : Fn P w K mg base CX0 2 "bound_in_parts" p_bound_in_parts spBnd fB fdB)
    (GN : Fn P w K mg base CX0 (n + 3) "note_free_names" p_note_free_names (spNote n) f fd) : FnOk P w K mg base CX0 (n + 4) f fd p_note_free_names (spNote (n + 1)) := by
  refine F.ok (k := n + 3) sc_note_free_names (fun vs H Q E h => ?_) (fun cdv A outer st H vs Q E hr h => ?_)
  · obtain ⟨R, e, bs, ks, v, b, fa, rfl, _⟩ := h
    rfl
  · obtain ⟨R, e, bs, ks, v, b, fa, rfl, sub, hv, hb, rf, hf, dep, sm, sz, bl, q⟩ := h
    have hu := hu_of hr
    refine ⟨_, (C8.pss_cut (ps_if (PW.pt (pw_and (pt_cmpR op_eq (pe_ix ix_tup (pv 0) (pe_int) (fun _ _ => rfl)) (pe_str) (nomark _)) (pw_and1 (pt_cmpR op_notIn_seq (pe_ix ix_tup (pv 0) (pe_int) (fun _ _ => rfl)) (pv 1) (by rfl))))) (pss_one (ps_dput hu (pv 2) (pe_ix ix_tup (pv 0) (pe_int) (fun _ _ => rfl)) (pe_bl) rfl)) pss_nil)
      (pss_one (ps_for PassesOwn.never rfl (pi_zip (by rfl) mz (pa_cons (pe_call GP.ok (hr.mono (by omega)) (by rfl) GP.g GP.kp GP.b .nil pass0 (pa_cons (pv 0) pa_nil)) (pa_cons (pe_call GB.ok (hr.mono (by omega)) (by rfl) GB.g GB.kp GB.b .nil pass0 (pa_cons (pv 0) pa_nil)) pa_nil))) (pg_tup rfl (pgs_cons (pg_name (i := 3) sc_note_free_names.nd rfl (Or.inl rfl)) (pgs_cons (pg_name (i := 4) sc_note_free_names.nd rfl (Or.inl rfl)) pgs_nil))) (pss_one (ps_expr (pe_call GN.ok hr (by rfl) GN.g GN.kp GN.b .nil pass0 (pa_cons (pv 3) (pa_cons (pe_tup (StX.pa_star (pv 1) (StX.pa_star (pv 4) pa_nil))) (pa_cons (pv 2) pa_nil))))))))), ?_⟩
    obtain ⟨pb, bvs, rfl, hpb, hbs⟩ := hb
    have ebs := ats_str hbs
    subst ebs
    have hpb' := sub _ _ hpb
    have hcl := sm_len sm
    have hparts := ex_parts e hcl
    have hbnd := ex_bnd e hcl
    have hsum := ex_sum e
    obtain ⟨pe, er, rfl, hpe⟩ := ex_head hv
    have hpe := sub _ _ hpe
    refine ⟨fun σ H1 => σ = [some (.ref pe), some (.ref pb), some (.ref fa), none, none] ∧ Mv (fun x => x = fa) R H R H1 ∧ H1 fa = some (.dK (nkK (preN e bs ks))), ?_, ?_⟩
    · refine ⟨_, rfl, pe, _, 0, _, rfl, rfl, SqT.of hpe, atI_nat (j := 0) rfl, rfl, _, rfl, ?_⟩
      by_cases hx : ∃ x, e = .name x
      · obtain ⟨x, rfl⟩ := hx
        have hv2 := hv
        obtain ⟨pe2, _, e1, hpe2, _, _, rfl, rfl, _, _, rfl, rfl, rfl⟩ := hv2
        obtain rfl : pe = pe2 := V.ref.inj e1
        have hpe2 := sub _ _ hpe2
        refine ifT (decide_eq_true rfl) ?_
        refine ⟨_, rfl, pe, _, 1, _, rfl, rfl, SqT.of hpe2, rfl, _, rfl, pb, _, rfl, .inr (SqT.of hpb'), rfl, flat_str bs, _, rfl, ?_⟩
        show if (!inV (.str x) (bs.map V.str)) = true then _ else _
        rw [inV_str]
        by_cases c : x ∈ bs
        · refine ifF (by rw [decide_eq_true c]; rfl) ?_
          refine ⟨rfl, .refl sub, ?_⟩
          show H fa = some (.dK (nkK (if x ∈ bs then ks else addN x ks)))
          rw [if_pos c]
          exact hf
        · refine ifT (by rw [decide_eq_false c]; rfl) ?_
          have hl : (nkK ks).length < sizeLine := by
            unfold nkK
            rw [List.length_map]
            exact Nat.lt_of_lt_of_le (by have : exN (.name x) = 1 := rfl; omega : ks.length < 1000001) (by decide)
          refine ⟨_, rfl, _, rfl, pe, _, 1, _, rfl, rfl, SqT.of hpe2, rfl, fa, _, rfl, DPut.k (k := (Sum.inr x : Key)) hf hl, ?_⟩
          refine ⟨rfl, mv_at sub rf hf rfl, ?_⟩
          show (upd H fa _) fa = some (.dK (nkK (if x ∈ bs then ks else addN x ks)))
          rw [if_neg c, upd_same, nkK_put]
      · obtain ⟨hn, hp⟩ := tag_name (e := e) fun x h => hx ⟨x, h⟩
        rw [hp]
        refine isF hn ?_
        exact ⟨rfl, .refl sub, hf⟩
    · rintro σ H1 ⟨rfl, mv1, hf1⟩
      refine ⟨_, rfl, R, _, _, _, rfl, mv1.sub, hv, hparts, fun R2 H2 u2 m2 au2 => ?_⟩
      refine ⟨_, rfl, R2, _, _, _, rfl, m2.sub, hv.up m2.up, hbnd, fun R3 H3 u3 m3 au3 => ?_⟩
      have au2 := au2.up m3.up
      obtain ⟨p1, xs, rfl, hp1, a1⟩ := au2
      obtain ⟨p2, ys, rfl, hp2, a2⟩ := au3
      have l1 := a1.length
      have l2 := a2.length
      rw [List.length_map] at l1
      rw [show (bndD (bnds e)).length = (bnds e).length by unfold bndD; rw [List.length_map], ← parts_bnds] at l2
      have mv3 : Mv (fun x => x = fa) R H R3 H3 := (mv1.tr0 m2).tr0 m3
      have hf3 := (m2.tr m3).same _ _ hf1
      have rf3 := (m2.tr m3).out (show R fa = none from rf) hf1
      refine ⟨p1, p2, xs, ys, rfl, SqL.of (m3.sub _ _ hp1), SqL.of (m3.sub _ _ hp2), ?_⟩
      refine RZ.for_zipL (K := K) (a := p1) (b := p2) (xs := xs) (ys := ys) (by rw [l1, l2]) (fun i σ H' => ∃ (R' : Hp) (x y : Option V), σ = [some (.ref pe), some (.ref pb), some (.ref fa), x, y] ∧ Mv (fun x => x = fa) R H R' H' ∧ Same R3 R' ∧ R' fa = none ∧ H' fa = some (.dK (nkK (foldN (((exParts e).zip (bnds e)).take i) bs (preN e bs ks))))) ⟨R3, none, none, rfl, mv3, .refl _, rf3, hf3⟩ ?_ ?_ ?_
      · rintro i σ H' ⟨R', x, y, rfl, mv', s3, _, _⟩
        exact ⟨SqL.of (mv'.sub _ _ (s3 _ _ hp1)), SqL.of (mv'.sub _ _ (s3 _ _ hp2))⟩
      · rintro i u w T σ H' hu' hw' ⟨R', x, y, rfl, mv', s3, rf', hf'⟩ nT
        obtain ⟨dd, hdd, ad⟩ := a1.mem hu'
        obtain ⟨db, hdb, ab⟩ := a2.mem hw'
        rw [List.getElem?_map] at hdd
        unfold bndD at hdb
        rw [List.getElem?_map] at hdb
        cases eg : (exParts e)[i]? with
        | none => rw [eg] at hdd; cases hdd
        | some g =>
          cases eb : (bnds e)[i]? with
          | none => rw [eb] at hdb; cases hdb
          | some b2 =>
            rw [eg] at hdd
            rw [eb] at hdb
            obtain rfl : g.d false = dd := Option.some.inj hdd
            obtain rfl : D.tup (b2.map D.str) = db := Option.some.inj hdb
            have ez : ((exParts e).zip (bnds e))[i]? = some (g, b2) := List.getElem?_zip_eq_some.mpr ⟨eg, eb⟩
            obtain ⟨pd, ps⟩ := part_mem (List.mem_of_getElem? eg)
            have b2l := bnds_two (List.mem_of_getElem? eb)
            have ab := ab.up s3
            obtain ⟨pb2, b2vs, rfl, hpb2, hb2s⟩ := ab
            have eb2 := ats_str hb2s
            subst eb2
            have mT : Mv (fun x => x = fa) R' H' R' _ := mv_mut (o := .tup [u, .ref pb2]) mv'.sub nT
            refine ⟨T, _, rfl, SqT.of upd_same, rfl, _, _, rfl, _, _, rfl, rfl, ?_⟩
            refine ⟨_, rfl, _, rfl, pb, _, rfl, .inl (SqT.of (mT.sub _ _ (mv'.up _ _ hpb))), _, rfl, pb2, _, rfl, .inl (SqT.of (mT.sub _ _ hpb2)), ?_⟩
            have e3 : bs.map V.str ++ (b2.map V.str ++ []) = (bs ++ b2).map V.str := by rw [List.append_nil, List.map_append]
            refine ⟨by show (bs.map V.str ++ (b2.map V.str ++ [])).length ≤ sizeLine; rw [e3, List.length_map, List.length_append]; exact big3' (by omega), fun pn nn => ?_⟩
            have mN := mT.tr (mv_new (F := fun x => x = fa) (o := .tup (bs.map V.str ++ (b2.map V.str ++ []))) mT.sub nn)
            have hfN := (mv_new (F := F0) (o := .tup (bs.map V.str ++ (b2.map V.str ++ []))) mT.sub nn).same _ _ (show (upd H' T (.tup [u, .ref pb2])) fa = some _ from by rw [upd_ne (ne_of_none hf' nT)]; exact hf')
            have rfN := (mT.tr (mv_new (F := fun x => x = fa) (o := .tup (bs.map V.str ++ (b2.map V.str ++ []))) mT.sub nn)).out rf' hf'
            refine ⟨_, rfl, ?_⟩
            have fl := foldN_len (((exParts e).zip (bnds e)).take i) bs (preN e bs ks)
            have st := sumN_take _ _ _ ez
            have pl : (preN e bs ks).length ≤ ks.length + 1 := by
              by_cases hx : ∃ x, e = .name x
              · obtain ⟨x, rfl⟩ := hx
                show (if x ∈ bs then ks else addN x ks).length ≤ _
                split
                · omega
                · exact addN_len x ks
              · rw [(tag_name (e := e) fun x h => hx ⟨x, h⟩).2]; omega
            have st2 : sumN (((exParts e).zip (bnds e)).take i) + exN g ≤ sumN ((exParts e).zip (bnds e)) := st
            refine ⟨_, g, bs ++ b2, _, u, .ref pn, fa, rfl, mN.sub, (ad.up s3).up mN.up, .ntup (l := (bs ++ b2).map D.str) mT.sub nn (by rw [e3]; exact str_ats _), rfN, hfN, by omega, ps sm, by omega, by rw [List.length_append]; omega, fun R4 H4 m4 hf4 => ?_⟩
            refine ⟨R4, _, _, rfl, (mv'.tr mN).tr m4, (s3.trans mN.up).trans m4.up, m4.out rfN hfN, ?_⟩
            rw [hf4, List.take_add_one, ez]
            show _ = some (HO.dK (nkK (foldN (((exParts e).zip (bnds e)).take i ++ [(g, b2)]) bs (preN e bs ks))))
            rw [foldN_snoc]
      · rintro σ H' ⟨R', x, y, rfl, mv', s3, rf', hf'⟩
        rw [l1, List.take_of_length_le (by rw [List.length_zip]; exact Nat.min_le_left _ _), ← ex_fold] at hf'
        exact q R' H' mv' hf'
end
end Bz


set_option Elab.async false
set_option linter.all false
set_option maxRecDepth 100000
set_option maxHeartbeats 4000000
namespace Bz
open PySem PySem.Spec L2 PyProof.Rows
section
variable {P : Program} {w : World} {K : PySem.W.Frag} {mg : Str → Option Value} {base : Heap}
theorem note_all {f fP fB : Addr} {fd fdP fdB : FuncData} (F : Fun K "note_free_names" "note_free_names" g_note_free_names f fd) (mz : mg "zip" = none)
    (GP : Fn P w K mg base CX0 1 "parts" p_parts spParts fP fdP) (GB : Fn P w K mg base CX0 2 "bound_in_parts" p_bound_in_parts spBnd fB fdB) (g : mg "note_free_names" = some (.ref f)) (b : Binds K fd p_note_free_names []) :
    ∀ n, Fn P w K mg base CX0 (n + 3) "note_free_names" p_note_free_names (spNote n) f fd
  | 0 => ⟨ok_note0 F, g, F.kp, b⟩
  | n + 1 => ⟨ok_note F mz GP GB (note_all F mz GP GB g b n), g, F.kp, b⟩
abbrev g_free_names : Stmt := topS 6
abbrev n_free_names : List Str := ["expression", "found"]
abbrev p_free_names : List Str := ["expression"]
theorem sc_free_names : FnScope n_free_names p_free_names (defScope g_free_names) := ⟨rfl, rfl, rfl, by decide +kernel, rfl, by decide +kernel, by decide +kernel⟩
def spFree (n : Nat) : Sp := fun vs H Q _ => ∃ (R : Hp) (e : Ex) (v : V), vs = [v] ∧ Same R H ∧ At R (e.d false) v ∧ exD e ≤ n ∧ n ≤ 4000 ∧ smE e = true ∧ exN e ≤ 1000000 ∧ (noted e [] []).length < 64 ∧
  ∀ (R' H' : Hp) (u : V), Mv F0 R H R' H' → At R' (.lst ((fv e).map D.str)) u → Q u H'
theorem ok_free {n : Nat} {f fN : Addr} {fd fdN : FuncData} (F : Fun K "free_names" "free_names" g_free_names f fd) (mso : mg "sorted" = none)
    (GN : Fn P w K mg base CX0 (n + 3) "note_free_names" p_note_free_names (spNote n) fN fdN) : FnOk P w K mg base CX0 (n + 4) f fd p_free_names (spFree n) := by
  refine F.ok (k := n + 3) sc_free_names (fun vs H Q E h => ?_) (fun cdv A outer st H vs Q E hr h => ?_)
  · obtain ⟨R, e, v, rfl, _⟩ := h
    rfl
  · obtain ⟨R, e, v, rfl, sub, hv, dep, n4, sm, sz, few, q⟩ := h
    refine ⟨_, (pss_cons (ps_set (i := 1) sc_free_names.nd rfl (Or.inl rfl) pe_dnewK)
      (pss_cons (ps_expr (pe_call GN.ok hr (by rfl) GN.g GN.kp GN.b .nil pass0 (pa_cons (pv 0) (pa_cons (pe_tup pa_nil) (pa_cons (pv 1) pa_nil)))))
      (pss_one (ps_ret (pe_callB (call_sortedD rfl) (by rfl) mso (by decide +kernel) (pa_cons (pv 1) pa_nil)))))), ?_⟩
    intro d nd
    have m1 : Mv F0 R H R _ := mv_mut (o := .dK []) sub nd
    refine ⟨_, rfl, Nat.zero_le _, fun pt nt => ?_⟩
    have hd1 : (upd H d (.dK [])) d = some (.dK []) := upd_same
    have m2 := m1.tr (mv_new (o := .tup []) m1.sub nt)
    have hd2 := same_new (o := .tup []) nt _ _ hd1
    have rd : R d = none := sub.free nd
    have rd2 := (mv_new (F := F0) (o := .tup []) m1.sub nt).out rd hd1
    refine ⟨_, rfl, ?_⟩
    refine ⟨_, e, [], [], v, .ref pt, d, rfl, m2.sub, hv.up m2.up, .ntup (vs := []) m1.sub nt rfl, rd2, hd2, dep, sm, by show 0 + exN e ≤ _; omega, by show 0 + 2 * n ≤ _; omega, fun R3 H3 m3 hd3 => ?_⟩
    refine ⟨_, rfl, d, _, noted e [] [], rfl, .inl hd3, ?_, few, fun ys p hp hs np => ?_⟩
    · unfold nkK
      rw [List.map_map]
      exact List.map_congr_left fun _ _ => rfl
    have ey : ys = fv e := sort_uniq hp hs (noted_nd e [] List.nodup_nil)
    subst ey
    have m23 : Mv F0 R H R3 H3 := m2.trans m3 (fun _ f => f) fun x f => .inr (by rw [f]; exact nd)
    exact q _ _ _ (m23.tr (mv_new m23.sub np)) (.nlst m23.sub np (str_ats _))
/-- no function has too many free names -/
def isFnE : Ex → Bool
  | .fn _ _ => true
  | .rc _ _ _ => true
  | _ => false
def okP : Nat → Ex → Prop
  | 0, _ => True
  | n + 1, e => (isFnE e = true → (noted e [] []).length < 64 ∧ exN e ≤ 1000000) ∧ ∀ g ∈ exParts e, okP n g
end
end Bz


set_option Elab.async false
set_option linter.all false
set_option maxRecDepth 100000
set_option maxHeartbeats 4000000
namespace Bz
open PySem PySem.Spec L2 PyProof.Rows
abbrev g__law_state : Stmt := topS 11
abbrev n__law_state : List Str := ["script", "cells", "cell"]
abbrev p__law_state : List Str := ["script"]
theorem sc__law_state : FnScope n__law_state p__law_state (defScope g__law_state) := ⟨rfl, rfl, rfl, by decide +kernel, rfl, by decide +kernel, by decide +kernel⟩
abbrev g__law_take : Stmt := topS 12
abbrev n__law_take : List Str := ["state", "most", "cells", "at", "cell", "mixed"]
abbrev p__law_take : List Str := ["state", "most"]
theorem sc__law_take : FnScope n__law_take p__law_take (defScope g__law_take) := ⟨rfl, rfl, rfl, by decide +kernel, rfl, by decide +kernel, by decide +kernel⟩
section
variable {P : Program} {w : World} {K : PySem.W.Frag} {mg : Str → Option Value} {base : Heap}
/-! ### the state -/
def Bits (z : Int) : Prop := 0 ≤ z
def StAt (H : Hp) (s c : Addr) : Prop := ∃ (i : Int) (cs : List Int), H s = some (.lst [.int i, .ref c]) ∧ H c = some (.lst (cs.map V.int)) ∧ cs ≠ [] ∧ cs.length ≤ 63 ∧ ∀ z ∈ cs, Bits z
abbrev Fst (s c : Addr) : Addr → Prop := fun a => a = s ∨ a = c
theorem StAt.stay {F : Addr → Prop} {R H R' H' : Hp} {s c : Addr} (h : StAt H s c) (k : Mv F R H R' H') (hs : ¬ F s) (hc : ¬ F c) : StAt H' s c := by
  obtain ⟨i, cs, h1, h2, h3⟩ := h
  exact ⟨i, cs, k.keep _ _ h1 hs, k.keep _ _ h2 hc, h3⟩
def spTake : Sp := fun vs H Q _ => ∃ (R : Hp) (s c : Addr) (m : Int), vs = [.ref s, .int m] ∧ 0 < m ∧ m < 1073741824 ∧ Same R H ∧ R s = none ∧ R c = none ∧ StAt H s c ∧
  ∀ (H' : Hp) (v : Int), StAt H' s c → Mv (Fst s c) R H R H' → 0 ≤ v → v < m → Q (.int v) H'
theorem fdiv_bits {z m : Int} (h : Bits z) (hm : 0 < m) : Bits (z / m) := by
  exact Int.ediv_nonneg h (by omega)
theorem set_map {cs : List Int} {j : Nat} {z : Int} : (cs.map V.int).set j (.int z) = (cs.set j z).map V.int := by
  rw [List.map_set]
theorem st_ne {i : Int} {c : Addr} {cs : List Int} : HO.lst [V.int i, V.ref c] ≠ HO.lst (cs.map V.int) := by
  intro q
  have q2 := HO.lst.inj q
  cases cs with
  | nil => cases q2
  | cons x r =>
    cases r with
    | nil => simp at q2
    | cons y r => simp at q2
theorem ok_take {f : Addr} {fd : FuncData} (F : Fun K "_law_take" "_law_take" g__law_take f fd) (ml : mg "len" = none) (mi : mg "int" = none) : FnOk P w K mg base CX0 1 f fd p__law_take spTake := by
  refine F.ok sc__law_take (fun vs H Q E h => ?_) (fun cdv A outer s H vs Q E hr h => ?_)
  · obtain ⟨R, s, c, m, rfl, _⟩ := h
    rfl
  · obtain ⟨R, a, c, m, rfl, hm0, hm1, sub, rs, rc, ⟨i, cs, hs, hc, hne, hlen, hb⟩, k⟩ := h
    refine ⟨_, pss_cons (ps_set (i := 2) sc__law_take.nd rfl (Or.inl rfl) (pe_ix ix_list (pv 0) pe_int (fun _ _ => rfl)))
      (pss_cons (ps_set (i := 3) sc__law_take.nd rfl (Or.inl rfl) (pe_op op_mod (pe_ix ix_list (pv 0) pe_int (fun _ _ => rfl)) (pe_callB call_len_seq (by rfl) ml PySem.boot_len (pa_cons (pv 2) pa_nil))))
      (pss_cons (ps_set (i := 4) sc__law_take.nd rfl (Or.inl rfl) (pe_ix ix_list (pv 2) (pv 3) (fun _ _ => rfl)))
      (pss_cons (ps_if (pt_cmpR op_ge (pv 4) pe_int (nomark _))
        (pss_cons (ps_asg (pe_op op_fdivW (pv 4) (pv 1)) (pg_sub (pv 2) (pv 3) set_list))
          (pss_one (ps_ret (pe_op op_mod (pv 4) (pv 1))))) pss_nil)
      (pss_cons (ps_asg (pe_op op_add (pe_ix ix_list (pv 0) pe_int (fun _ _ => rfl)) pe_int) (pg_sub (pv 0) pe_int set_list))
      (pss_cons (ps_set (i := 5) sc__law_take.nd rfl (Or.inl rfl) (pe_op op_mod (pe_callTy call_int1 (by rfl) mi (by decide +kernel) (pa_cons (pe_op op_add (pe_op op_mul (pv 4) pe_int) (pe_op op_mul (pe_ix ix_list (pv 0) pe_int (fun _ _ => rfl)) pe_int)) pa_nil)) pe_int))
      (pss_cons (ps_set (i := 5) sc__law_take.nd rfl (Or.inl rfl) (pe_op op_mod (pe_callTy call_int1 (by rfl) mi (by decide +kernel) (pa_cons (pe_op op_add (pe_op op_mul (pv 5) pe_int) (pe_op op_mul (pe_ix ix_list (pv 0) pe_int (fun _ _ => rfl)) pe_int)) pa_nil)) pe_int))
      (pss_one (ps_ret (pe_op op_mod (pe_op op_fdivW (pv 5) pe_int) (pv 1)))))))))), ?_⟩
    have hcl : 0 < cs.length := by
      cases cs with
      | nil => exact absurd rfl hne
      | cons x r => exact Nat.succ_pos _
    -- cells = state[1]
    refine ⟨_, rfl, a, _, 1, _, rfl, rfl, SqL.of hs, atI_nat (j := 1) rfl, ?_⟩
    -- at = state[0] % len(cells)
    refine ⟨_, rfl, a, _, 0, _, rfl, rfl, SqL.of hs, atI_nat (j := 0) rfl, _, rfl, c, _, rfl, .inl (SqL.of hc), i, (cs.length : Int), rfl, (by rw [List.length_map]), (by omega), ?_⟩
    have r0 : 0 ≤ i % (cs.length : Int) := Int.emod_nonneg i (by omega)
    have r1 : i % (cs.length : Int) < (cs.length : Int) := Int.emod_lt_of_pos i (by omega)
    obtain ⟨j, hj⟩ : ∃ j : Nat, i % (cs.length : Int) = (j : Int) := ⟨(i % (cs.length : Int)).toNat, by omega⟩
    rw [hj] at r0 r1
    show gName 3 (.int (i % (cs.length : Int))) _ _ _
    rw [hj]
    have hjl : j < cs.length := by omega
    have hat : (cs.map V.int)[j]? = some (.int cs[j]) := by
      rw [List.getElem?_map, List.getElem?_eq_getElem hjl]
      rfl
    have hz : Bits cs[j] := hb _ (List.getElem_mem hjl)
    generalize cs[j] = z at hat hz
    -- cell = cells[at]
    refine ⟨_, rfl, _, rfl, c, _, _, _, rfl, rfl, SqL.of hc, atI_nat hat, ?_⟩
    -- if cell >= 10 ** 18
    refine ⟨_, rfl, _, _, rfl, rfl, _, rfl, ite2 (fun h => ?_) (fun h => ?_)⟩
    · have ac : a ≠ c := ne_of hs hc st_ne
      have hix : ixN (cs.map V.int).length (j : Int) = some j := by
        unfold ixN
        rw [List.length_map, if_pos (by omega), if_pos (by omega)]
        rfl
      refine ⟨_, rfl, _, rfl, _, _, rfl, rfl, wide_div (b := 30) hm0 (by omega) (by decide) (by decide), _, rfl, _, rfl, c, _, _, j, rfl, rfl, hc, hix, ?_⟩
      · refine ⟨_, rfl, _, rfl, _, _, rfl, rfl, by omega, ?_⟩
        refine k _ _ ⟨i, cs.set j (z / m), by rw [upd_ne ac]; exact hs, by rw [upd_same, set_map], ?_, ?_, ?_⟩ (mv_at sub rc hc (.inr rfl)) (Int.emod_nonneg _ (by omega)) (Int.emod_lt_of_pos _ hm0)
        · intro q
          have := congrArg List.length q
          rw [List.length_set] at this
          exact hne (List.length_eq_zero_iff.mp this)
        · rw [List.length_set]; exact hlen
        · intro y hy
          rcases List.mem_or_eq_of_mem_set hy with q | q
          · exact hb y q
          · rw [q]; exact fdiv_bits hz hm0
    · have hz1 : z < 1000000000000000000 := by
        have h2 : ¬ (decide ((1000000000000000000 : Int) ≤ z) = true) := h
        rw [decide_eq_true_eq] at h2
        omega
      have hz0 : 0 ≤ z := hz
      have ac : c ≠ a := (ne_of hs hc st_ne).symm
      -- state[0] = state[0] + 1
      refine ⟨_, rfl, a, _, 0, _, rfl, rfl, SqL.of hs, atI_nat (j := 0) rfl, _, _, rfl, rfl, _, rfl, a, _, _, 0, rfl, rfl, hs, rfl, ?_⟩
      have hs' : (upd H a (.lst [V.int (i + 1), V.ref c])) a = some (.lst [V.int (i + 1), V.ref c]) := upd_same
      -- mixed, twice
      refine ⟨_, rfl, _, _, rfl, rfl, .inl ⟨by omega, by omega⟩, _, rfl, a, _, 0, _, rfl, rfl, SqL.of hs', atI_nat (j := 0) rfl, _, _, rfl, rfl, .inr ⟨by decide, by decide⟩, _, _, rfl, rfl, .inl ⟨_, rfl, _, _, rfl, rfl, (by show (0 : Int) < 2147483647; decide), ?_⟩⟩
      have b1 : 0 ≤ (z * 48271 + (i + 1) * 69621) % 2147483647 := Int.emod_nonneg _ (by decide)
      have b2 : (z * 48271 + (i + 1) * 69621) % 2147483647 < 2147483647 := Int.emod_lt_of_pos _ (by decide)
      show gName 5 (.int ((z * 48271 + (i + 1) * 69621) % 2147483647)) _ _ _
      generalize (z * 48271 + (i + 1) * 69621) % 2147483647 = y at b1 b2
      refine ⟨_, rfl, _, _, rfl, rfl, .inl ⟨by omega, by omega⟩, _, rfl, a, _, 0, _, rfl, rfl, SqL.of hs', atI_nat (j := 0) rfl, _, _, rfl, rfl, .inr ⟨by decide, by decide⟩, _, _, rfl, rfl, .inl ⟨_, rfl, _, _, rfl, rfl, (by show (0 : Int) < 1000000007; decide), ?_⟩⟩
      refine ⟨_, rfl, _, _, rfl, rfl, ⟨by decide, by decide⟩, _, rfl, _, _, rfl, rfl, hm0, ?_⟩
      exact k _ _ ⟨i + 1, cs, hs', by rw [upd_ne ac]; exact hc, hne, hlen, hb⟩ (mv_at sub rs hs (.inl rfl)) (Int.emod_nonneg _ (by omega)) (Int.emod_lt_of_pos _ hm0)
theorem cut63 {xs : List V} (h : xs.length ≤ 63) : cutV xs none (some 63) = xs := by
  unfold cutV
  rw [HT.sIx_none, show HT.sIx xs.length xs.length (some 63) = min 63 xs.length from HT.sIx_nat xs.length _ 63, Nat.min_eq_right h]
  simp
theorem abs_bits {z : Int} : Bits (if z < 0 then -z else z) := by
  show 0 ≤ (if z < 0 then -z else z)
  split <;> omega
def spState (K : PySem.W.Frag) : Sp := fun vs H Q _ => ∃ (a : Addr) (ns : List Int), vs = [.ref a] ∧ SqL K H a (ns.map V.int) ∧ ns.length ≤ 63 ∧
  ∀ (H' : Hp) (s c : Addr), StAt H' s c → Same H H' → H s = none → H c = none → Q (.ref s) H'
theorem ok_state {f : Addr} {fd : FuncData} (F : Fun K "_law_state" "_law_state" g__law_state f fd) (ml : mg "len" = none) (ma : mg "abs" = none) : FnOk P w K mg base CX0 1 f fd p__law_state (spState K) := by
  refine F.ok sc__law_state (fun vs H Q E h => ?_) (fun cdv A outer s H vs Q E hr h => ?_)
  · obtain ⟨a, ns, rfl, _⟩ := h
    rfl
  · obtain ⟨a, ns, rfl, hS, hlen, k⟩ := h
    refine ⟨_, pss_cons (ps_setLc (i := 1) (own := [("cell", 2)]) (g := gName 2) (tt := tYes) rfl sc__law_state.nd rfl rfl (sw_true rfl rfl rfl (by decide +kernel)) (pi_list (pe_slice sl_list (pv 0) po_none (po_some pe_int)))
        (blkOk_by (N := n__law_state) (sc := defScope g__law_state) (by decide +kernel)) (fun _ _ _ _ _ => pg_name (i := 2) sc__law_state.nd rfl (Or.inl rfl)) (fun _ _ _ _ _ => pts_nil)
        (fun _ _ _ _ _ => pe_callB call_abs (by rfl) ma (by decide +kernel) (pa_cons (pv 2) pa_nil)))
      (pss_cons (ps_if (pt_cmpR op_eq (pe_callB call_len_seq (by rfl) ml PySem.boot_len (pa_cons (pv 1) pa_nil)) pe_int (nomark _))
        (pss_one (ps_set (i := 1) sc__law_state.nd rfl (Or.inl rfl) (pe_lst (pa_cons pe_int pa_nil)))) pss_nil)
      (pss_one (ps_ret (pe_lst (pa_cons pe_int (pa_cons (pv 1) pa_nil)))))), ?_⟩
    -- script[:63]
    refine ⟨_, rfl, 63, rfl, a, ns.map V.int, rfl, hS, fun p np => ?_⟩
    have ec : cutV (ns.map V.int) none (some 63) = ns.map V.int := cut63 (by rw [List.length_map]; exact hlen)
    have s1 : Same H (upd H p (.lst (cutV (ns.map V.int) none (some 63)))) := same_new np
    refine ⟨p, rfl, ⟨_, SqL.of upd_same⟩, fun D hD => ?_⟩
    have nDp : D ≠ p := fun q => by
      rw [q, upd_same] at hD
      cases hD
    have hD0 : H D = none := s1.free hD
    refine lc_list (K := K) (a := p) (xs := ns.map V.int) (fun i H2 => Same H H2 ∧ H2 p = some (.lst (ns.map V.int)) ∧ H2 D = some (.lst (((ns.take i).map fun z : Int => if z < 0 then -z else z).map V.int))) ⟨?_, ?_, ?_⟩ (fun i H2 _ q => SqL.of q.2.1) ?_ ?_
    · exact s1.trans (same_new hD)
    · rw [upd_ne nDp.symm, upd_same, ec]
    · rw [upd_same]
      rfl
    · rintro i x H2 hi ⟨q1, q2, q3⟩
      rw [List.getElem?_map] at hi
      cases e : ns[i]? with
      | none =>
        rw [e] at hi
        cases hi
      | some z =>
        rw [e] at hi
        obtain rfl : V.int z = x := Option.some.inj hi
        refine ⟨rfl, _, rfl, z, rfl, _, q3, ?_, ?_, ?_, ?_⟩
        · rw [List.length_map, List.length_map, List.length_take]
          exact Nat.lt_of_le_of_lt (Nat.min_le_left _ _) (small1000 (by have := (List.getElem?_eq_some_iff.mp e).1; omega))
        · exact fun b o h => by
            rw [upd_ne (ne_of_none h hD0)]
            exact q1 b o h
        · rw [upd_ne nDp.symm]
          exact q2
        · rw [upd_same, List.take_add_one, e, List.map_append, List.map_append]
          rfl
    · rintro H2 ⟨q1, q2, q3⟩
      rw [List.length_map, List.take_length] at q3
      -- if len(cells) == 0
      refine ⟨_, rfl, D, _, rfl, .inl (SqL.of q3), rfl, _, rfl, ite2 (fun e => ?_) (fun e => ?_)⟩
      · refine ⟨by decide, fun c hc => ?_⟩
        refine ⟨_, rfl, by show 2 ≤ sizeLine; decide, fun s hs => ?_⟩
        refine k _ s c ⟨0, [0], upd_same, ?_, by decide, by decide, ?_⟩ ?_ ?_ ?_
        · rw [upd_ne fun q => ?_, upd_same]
          · rfl
          · rw [q, upd_same] at hs
            cases hs
        · intro z hz
          rw [List.mem_singleton.mp hz]
          exact Int.le_refl _
        · exact (q1.trans (same_new hc)).trans (same_new hs)
        · exact (q1.trans (same_new hc)).free hs
        · exact q1.free hc
      · refine ⟨_, rfl, by show 2 ≤ sizeLine; decide, fun s hs => ?_⟩
        have e0 : ns ≠ [] := fun q => by
          subst q
          exact e (decide_eq_true rfl)
        refine k _ s D ⟨0, ns.map fun z : Int => if z < 0 then -z else z, upd_same, ?_, ?_, ?_, ?_⟩ (q1.trans (same_new hs)) (q1.free hs) hD0
        · rw [upd_ne (ne_of_none q3 hs)]
          exact q3
        · intro q
          exact e0 (List.map_eq_nil_iff.mp q)
        · rw [List.length_map]; exact hlen
        · intro y hy
          obtain ⟨z, hz, rfl⟩ := List.mem_map.mp hy
          exact abs_bits
end
end Bz


set_option Elab.async false
set_option linter.all false
set_option maxRecDepth 100000
set_option maxHeartbeats 4000000
namespace Bz
open PySem PySem.Spec L2 PyProof.Rows
mutual
/-- all the parts, each before its own -/
def pre : Ex → List Ex
  | .num n => [.num n] | .flag b => [.flag b] | .unit => [.unit] | .name x => [.name x]
  | .call f e => .call f e :: (pre f ++ pre e) | .fn x e => .fn x e :: pre e | .rc h x e => .rc h x e :: pre e | .lt x e f => .lt x e f :: (pre e ++ pre f) | .ite e f g => .ite e f g :: (pre e ++ (pre f ++ pre g))
  | .pair e f => .pair e f :: (pre e ++ pre f) | .fst e => .fst e :: pre e | .snd e => .snd e :: pre e | .op s e f => .op s e f :: (pre e ++ pre f) | .nt e => .nt e :: pre e | .pr e f => .pr e f :: (pre e ++ pre f) | .ask o e => .ask o e :: pre e
  | .hd e x f cs => .hd e x f cs :: (pre e ++ (pre f ++ preC cs))
def preC : Clz → List Ex
  | .nil => []
  | .cons _ _ _ g r => pre g ++ preC r
end
theorem preC_flat : ∀ c : Clz, preC c = c.gs.flatMap pre
  | .nil => rfl
  | .cons o x k g r => by
    show pre g ++ preC r = (g :: r.gs).flatMap pre
    rw [List.flatMap_cons, preC_flat r]
theorem pre_flat (e : Ex) : pre e = e :: (exParts e).flatMap pre := by
  cases e <;> simp [pre, exParts, preC_flat]
mutual
theorem pre_len : ∀ e : Ex, (pre e).length = exN e
  | .num _ => rfl | .flag _ => rfl | .unit => rfl | .name _ => rfl
  | .call f e => by simp only [pre, exN, List.length_cons, List.length_append, pre_len f, pre_len e]
  | .fn x e => by simp only [pre, exN, List.length_cons, pre_len e]
  | .rc h x e => by simp only [pre, exN, List.length_cons, pre_len e]
  | .lt x f e => by simp only [pre, exN, List.length_cons, List.length_append, pre_len f, pre_len e]
  | .ite e f g => by simp only [pre, exN, List.length_cons, List.length_append, pre_len e, pre_len f, pre_len g]
  | .pair f e => by simp only [pre, exN, List.length_cons, List.length_append, pre_len f, pre_len e]
  | .fst e => by simp only [pre, exN, List.length_cons, pre_len e]
  | .snd e => by simp only [pre, exN, List.length_cons, pre_len e]
  | .op s f e => by simp only [pre, exN, List.length_cons, List.length_append, pre_len f, pre_len e]
  | .nt e => by simp only [pre, exN, List.length_cons, pre_len e]
  | .pr f e => by simp only [pre, exN, List.length_cons, List.length_append, pre_len f, pre_len e]
  | .ask o e => by simp only [pre, exN, List.length_cons, pre_len e]
  | .hd e x f cs => by simp only [pre, exN, List.length_cons, List.length_append, pre_len e, pre_len f, preC_len cs]
theorem preC_len : ∀ c : Clz, (preC c).length = clN c
  | .nil => rfl
  | .cons o x k g r => by simp only [preC, clN, List.length_append, pre_len g, preC_len r]
end
theorem flat_gePre : ∀ l : List Ex, l.length ≤ (l.flatMap pre).length
  | [] => Nat.le_refl _
  | e :: r => by
    have ih := flat_gePre r
    rw [List.flatMap_cons, List.length_append, List.length_cons]
    have h : 1 ≤ (pre e).length := by rw [pre_flat e, List.length_cons]; omega
    omega
theorem Ats.rev {R : Hp} : ∀ {l : List D} {vs : List V}, Ats R l vs → Ats R l.reverse vs.reverse
  | [], _, h => by rw [show _ = ([] : List V) from h]; exact rfl
  | d :: l, _, ⟨v, r, e, h, a⟩ => by
    rw [e, List.reverse_cons, List.reverse_cons]
    exact (Ats.rev (l := l) a).append (.one h)
section
variable {P : Program} {w : World} {K : PySem.W.Frag} {mg : Str → Option Value} {base : Heap}
abbrev g_numbered : Stmt := topS 4
abbrev n_numbered : List Str := ["expression", "found", "waiting", "one"]
abbrev p_numbered : List Str := ["expression"]
theorem sc_numbered : FnScope n_numbered p_numbered (defScope g_numbered) := ⟨rfl, rfl, rfl, by decide +kernel, rfl, by decide +kernel, by decide +kernel⟩
def spNumb : Sp := fun vs H Q _ => ∃ (R : Hp) (e : Ex) (v : V), vs = [v] ∧ Same R H ∧ At R (e.d false) v ∧ smE e = true ∧ exN e ≤ 1000000 ∧ ∀ (R' H' : Hp) (u : V), Mv F0 R H R' H' → At R' (.lst ((pre e).map (Ex.d false))) u → Q u H'
def NuW (R H : Hp) (v : V) (lf lw : Addr) (e : Ex) (m : Nat) (σ : L2.St) (H' : Hp) : Prop := ∃ (R' : Hp) (x : Option V) (ks ws : List Ex) (fvs wvs : List V), σ = [some v, some (.ref lf), some (.ref lw), x] ∧ Mv F0 R H R' H' ∧ R' lf = none ∧ R' lw = none ∧ H' lf = some (.lst fvs) ∧ H' lw = some (.lst wvs) ∧
  Ats R' (ks.map (Ex.d false)) fvs ∧ Ats R' (ws.reverse.map (Ex.d false)) wvs ∧ ks ++ ws.flatMap pre = pre e ∧ (∀ g ∈ ws, smE g = true) ∧ m = (ws.flatMap pre).length + 1
theorem ok_numb {f fP : Addr} {fd fdP : FuncData} (F : Fun K "numbered" "numbered" g_numbered f fd) (GP : Fn P w K mg base CX0 1 "parts" p_parts spParts fP fdP) : FnOk P w K mg base CX0 2 f fd p_numbered spNumb := by
  refine F.ok (k := 1) sc_numbered (fun vs H Q E h => ?_) (fun cdv A outer st H vs Q E hr h => ?_)
  · obtain ⟨R, e, v, rfl, _⟩ := h
    rfl
  · obtain ⟨R, e, v, rfl, sub, he, sm, big, q⟩ := h
    refine ⟨_, (pss_cons (ps_set (i := 1) sc_numbered.nd rfl (Or.inl rfl) (pe_lst pa_nil))
      (pss_cons (ps_set (i := 2) sc_numbered.nd rfl (Or.inl rfl) (pe_lst (pa_cons (pv 0) pa_nil)))
      (pss_cons (ps_while PassesOwn.never (pt_truth (pv 2) (by intro _; rfl)) (pss_cons (ps_set (i := 3) sc_numbered.nd rfl (Or.inl rfl) (pe_bm0 PySem.F.plainAttrs_list PySem.F.slot_list_pop PySem.F.type_list_pop mt_pop (pv 2)))
      (pss_cons (ps_expr (pe_bm PySem.F.plainAttrs_list PySem.F.slot_list_append PySem.F.type_list_append mt_append (pv 1) (pa_cons (pv 3) pa_nil)))
      (pss_one (ps_expr (pe_bm PySem.F.plainAttrs_list PySem.F.slot_list_extend PySem.F.type_list_extend mt_extend (pv 2) (pa_cons (pe_revL (pe_call GP.ok (hr.mono (by omega)) (by rfl) GP.g GP.kp GP.b .nil pass0 (pa_cons (pv 3) pa_nil))) pa_nil)))))))
      (pss_one (ps_ret (pv 1)))))), ?_⟩
    refine ⟨Nat.zero_le _, fun lf nf => ?_⟩
    refine ⟨_, rfl, by show 1 ≤ sizeLine; decide, fun lw nw => ?_⟩
    have nfw : lf ≠ lw := fun e => by rw [← e, upd_same] at nw; cases nw
    have nw0 : H lw = none := by rw [upd_ne (Ne.symm nfw)] at nw; exact nw
    have m1 : Mv F0 R H R _ := mv_mut (o := .lst []) sub nf
    have m2 : Mv F0 R _ R _ := mv_mut (o := .lst [v]) m1.sub nw
    have m0 := m1.tr m2
    refine ⟨NuW R H v lf lw e, ⟨(pre e).length + 1, R, none, [], [e], [], [v], rfl, m0, sub.free nf, sub.free nw0, ?_, upd_same, rfl, .one he, by simp, fun g hg => by rw [List.mem_singleton.mp hg]; exact sm, by simp⟩, ?_⟩
    · rw [upd_ne nfw, upd_same]
    · rintro m σ H1 ⟨R1, x, ks, ws, fvs, wvs, rfl, mv1, rf, rw_, hf, hw, af, aw, eq, smw, em⟩
      refine ⟨_, rfl, !wvs.isEmpty, .inl ⟨wvs, SqL.of hw, rfl⟩, ?_⟩
      cases ws with
      | nil =>
        obtain rfl : wvs = [] := aw
        refine iteF ?_
        have ek : ks = pre e := by simpa using eq
        subst ek
        refine ⟨_, rfl, ?_⟩
        exact q _ _ _ (mv_freeze mv1 hf rf nf) (At.lst upd_same (af.up (same_new rf)))
      | cons g r =>
        rw [List.reverse_cons, List.map_append] at aw
        obtain ⟨pw, u, rfl, apw, ag⟩ := Ats.last aw
        have eemp : (!(pw ++ [u]).isEmpty) = true := by simp
        refine ifT eemp ?_
        refine ⟨fun σ' H' => ∃ m', m' < m ∧ NuW R H v lf lw e m' σ' H', fun _ _ z => z, ?_⟩
        refine ⟨_, rfl, .inl ⟨rfl, _, SqL.of hw⟩, lw, _, u, rfl, rfl, hw, (by simp), ?_⟩
        rw [List.dropLast_concat]
        have ms1 : Mv (fun x => x = lf ∨ x = lw) R1 H1 R1 _ := mv_at (o := .lst pw) mv1.sub rw_ hw (.inr rfl)
        have hf1 : (upd H1 lw (.lst pw)) lf = some (.lst fvs) := by rw [upd_ne nfw]; exact hf
        have hw1 : (upd H1 lw (.lst pw)) lw = some (.lst pw) := upd_same
        have eqL := congrArg List.length eq
        rw [pre_len, List.length_append, List.flatMap_cons, List.length_append, pre_flat g, List.length_cons] at eqL
        have g1 := flat_gePre r
        have g2 := flat_gePre (exParts g)
        have fl := af.length
        rw [List.length_map] at fl
        have pl_ := apw.length
        rw [List.length_map, List.length_reverse] at pl_
        refine ⟨_, rfl, .inl ⟨rfl, _, SqL.of hf1⟩, _, rfl, lf, fvs, _, rfl, rfl, hf1, Nat.lt_of_le_of_lt (by omega : fvs.length ≤ 1000000) (by decide), ?_⟩
        have ms2 := ms1.tr (mv_at (F := fun x => x = lf ∨ x = lw) (o := .lst (fvs ++ [u])) ms1.sub rf hf1 (.inl rfl))
        have hf2 : (upd (upd H1 lw (.lst pw)) lf (.lst (fvs ++ [u]))) lf = some (.lst (fvs ++ [u])) := upd_same
        have hw2 : (upd (upd H1 lw (.lst pw)) lf (.lst (fvs ++ [u]))) lw = some (.lst pw) := by rw [upd_ne (Ne.symm nfw)]; exact hw1
        generalize upd (upd H1 lw (.lst pw)) lf (.lst (fvs ++ [u])) = H2 at ms2 hf2 hw2
        have mv2 : Mv F0 R H R1 H2 := mv1.trans ms2 (fun _ f => f) (fun x f => .inr (f.elim (fun e => by rw [e]; exact nf) fun e => by rw [e]; exact nw0))
        refine ⟨_, rfl, .inl ⟨rfl, _, SqL.of hw2⟩, _, rfl, R1, _, _, _, rfl, mv2.sub, ag, ex_parts g (sm_len (smw g List.mem_cons_self)), fun R3 H3 u3 m3 a3 => ?_⟩
        obtain ⟨p3, xs, rfl, hp3, ax⟩ := a3
        refine ⟨p3, xs, rfl, SqL.of (m3.sub _ _ hp3), fun pl nl => ?_⟩
        have m4 : Mv F0 R3 H3 R3 _ := mv_mut (o := .lst xs.reverse) m3.sub nl
        have hw4 := m4.same _ _ (m3.same _ _ hw2)
        have hf4 := m4.same _ _ (m3.same _ _ hf2)
        have xl := ax.length
        rw [List.length_map] at xl
        refine ⟨lw, pl, pw, _, rfl, rfl, hw4, upd_same, ?_, ?_⟩
        · rw [List.length_reverse]
          exact Nat.le_trans (by omega : pw.length + xs.length ≤ 1000000) (by decide)
        have rw3 : R3 lw = none := m3.out rw_ hw2
        have rf3 : R3 lf = none := m3.out rf hf2
        have m5 : Mv (fun x => x = lw) R3 _ R3 _ := mv_at (o := .lst (pw ++ xs.reverse)) m4.sub rw3 hw4 rfl
        have hf5 : (upd (upd H3 pl (.lst xs.reverse)) lw (.lst (pw ++ xs.reverse))) lf = some (.lst (fvs ++ [u])) := by rw [upd_ne nfw]; exact hf4
        have mvE : Mv F0 R H R3 _ := ((mv2.tr m3).tr m4).trans m5 (fun _ f => f) (fun x f => .inr (by rw [f]; exact nw0))
        refine ⟨((exParts g ++ r).flatMap pre).length + 1, ?_, R3, some u, ks ++ [g], exParts g ++ r, _, _, rfl, mvE, rf3, rw3, hf5, upd_same, ?_, ?_, ?_, ?_, rfl⟩
        · rw [em, List.flatMap_append, List.length_append, List.flatMap_cons, List.length_append, pre_flat g, List.length_cons]
          omega
        · rw [List.map_append]
          exact (af.up m3.up).append (.one (ag.up m3.up))
        · rw [List.reverse_append, List.map_append, List.map_reverse]
          rw [List.map_reverse] at apw ⊢
          exact (apw.up m3.up).append ax.rev
        · rw [← eq, List.flatMap_append, List.flatMap_cons, pre_flat g]
          simp
        · intro g' hg'
          rcases List.mem_append.mp hg' with h | h
          · exact (part_mem h).2 (smw g List.mem_cons_self)
          · exact smw g' (List.mem_cons_of_mem _ h)
end
end Bz


set_option Elab.async false
set_option linter.all false
set_option maxRecDepth 100000
set_option maxHeartbeats 4000000
namespace Bz
open PySem PySem.Spec L2 PyProof.Rows
theorem cls_gs : ∀ {c : Clz} {j : Nat} {d : D}, (c.d false)[j]? = some d → ∃ o x k g, d = D.tup [.str o, .str x, .str k, g.d false] ∧ c.gs[j]? = some g
  | .nil, j, d, h => by cases j <;> cases h
  | .cons o x k g r, 0, d, h => by cases h; exact ⟨o, x, k, g, rfl, rfl⟩
  | .cons o x k g r, j + 1, d, h => cls_gs (c := r) (j := j) (d := d) h
section
variable {P : Program} {w : World} {K : PySem.W.Frag} {mg : Str → Option Value} {base : Heap}
abbrev g__law_parts : Stmt := topS 16
abbrev n__law_parts : List Str := ["tree", "head", "clause"]
abbrev p__law_parts : List Str := ["tree"]
theorem sc__law_parts : FnScope n__law_parts p__law_parts (defScope g__law_parts) := ⟨rfl, rfl, rfl, by decide +kernel, rfl, by decide +kernel, by decide +kernel⟩
def spLP : Sp := fun vs H Q _ => ∃ (R : Hp) (e : Ex) (v : V), vs = [v] ∧ Same R H ∧ At R (e.d false) v ∧ smE e = true ∧ ∀ (R' H' : Hp) (u : V), Mv F0 R H R' H' → At R' (.lst ((exParts e).map (Ex.d false))) u → Q u H'
theorem ok_lp {f : Addr} {fd : FuncData} (F : Fun K "_law_parts" "_law_parts" g__law_parts f fd) (ml : mg "len" = none) (mli : mg "list" = none) : FnOk P w K mg base CX0 1 f fd p__law_parts spLP := by
  refine F.ok sc__law_parts (fun vs H Q E h => ?_) (fun cdv A outer st H vs Q E hr h => ?_)
  · obtain ⟨R, e, v, rfl, _⟩ := h
    rfl
  · obtain ⟨R, e, v, rfl, sub, he, sm, q⟩ := h
    refine ⟨_, (pss_cons (ps_set (i := 1) sc__law_parts.nd rfl (Or.inl rfl) (pe_ix ix_tup (pv 0) (pe_int) (fun _ _ => rfl)))
      (pss_cons (ps_if (pt_cmpR op_in_seq (pv 1) (pe_lst (pa_cons (pe_str) (pa_cons (pe_str) (pa_cons (pe_str) (pa_cons (pe_str) pa_nil))))) (by rfl)) (pss_one (ps_ret (pe_lst pa_nil))) pss_nil)
      (pss_cons (ps_if (pt_cmpR op_in_seq (pv 1) (pe_lst (pa_cons (pe_str) (pa_cons (pe_str) pa_nil))) (by rfl)) (pss_one (ps_ret (pe_lst (pa_cons (pe_ix ix_tup (pv 0) (pe_op op_sub (pe_callB call_len_seq (by rfl) ml PySem.boot_len (pa_cons (pv 0) pa_nil)) (pe_int)) (fun _ _ => rfl)) pa_nil)))) pss_nil)
      (pss_cons (ps_if (pt_cmpR op_in_seq (pv 1) (pe_lst (pa_cons (pe_str) (pa_cons (pe_str) pa_nil))) (by rfl)) (pss_one (ps_ret (pe_lst (pa_cons (pe_ix ix_tup (pv 0) (pe_int) (fun _ _ => rfl)) (pa_cons (pe_ix ix_tup (pv 0) (pe_int) (fun _ _ => rfl)) pa_nil))))) pss_nil)
      (pss_cons (ps_if (pt_cmpR op_eq (pv 1) (pe_str) (nomark _)) (pss_one (ps_ret (pe_lst (pa_cons (pe_ix ix_tup (pv 0) (pe_int) (fun _ _ => rfl)) pa_nil)))) pss_nil)
      (pss_cons (ps_if (pt_cmpR op_eq (pv 1) (pe_str) (nomark _)) (pss_one (ps_ret (pe_op op_cat (pe_lst (pa_cons (pe_ix ix_tup (pv 0) (pe_int) (fun _ _ => rfl)) (pa_cons (pe_ix ix_tup (pe_ix ix_tup (pv 0) (pe_int) (fun _ _ => rfl)) (pe_int) (fun _ _ => rfl)) pa_nil))) (pe_lc (own := [("clause", 2)]) (g := gName 2) (tt := tYes) (te := tOp (rIxT K) (tVar 2) (tC (.int 3))) rfl sc__law_parts.nd (pi_tup (pe_ix ix_tup (pv 0) pe_int (fun _ _ => rfl))) (blkOk_by (N := n__law_parts) (sc := defScope g__law_parts) (by decide +kernel)) (fun _ _ _ _ _ => pg_name (i := 2) sc__law_parts.nd rfl (Or.inl rfl)) (fun _ _ _ _ _ => pts_nil) (fun _ _ _ _ _ => pe_ix ix_tup (pv 2) pe_int (fun _ _ => rfl)))))) pss_nil)
      (pss_one (ps_ret (pe_callTy call_list_of (by rfl) mli (by decide +kernel) (pa_cons (pe_slice sl_tup (pv 0) (po_some (pe_int)) po_none) pa_nil)))))))))), ?_⟩
    have m0 : Mv F0 R H R H := .refl sub
    cases e with
    | num n =>
      obtain ⟨pe, _, rfl, hpe, _, _, rfl, rfl, _, _, rfl, rfl, rfl⟩ := he
      have hpe := sub _ _ hpe
      refine ⟨_, rfl, pe, _, 0, _, rfl, rfl, SqT.of hpe, atI_nat (j := 0) rfl, ?_⟩
      refine ⟨_, rfl, by show 4 ≤ sizeLine; decide, fun p1 n1 => ?_⟩
      have m1 : Mv F0 R H R _ := m0.tr (mv_mut (o := .lst [.str "num", .str "flag", .str "unit", .str "name"]) m0.sub n1)
      refine ⟨p1, _, rfl, .inl (SqL.of upd_same), rfl, rfl, _, rfl, ?_⟩
      refine ifT (by decide +kernel) ?_
      refine ⟨Nat.zero_le _, fun p np => ?_⟩
      exact q _ _ _ (m1.tr (mv_new m1.sub np)) (.nlst m1.sub np rfl)
    | flag b =>
      obtain ⟨pe, _, rfl, hpe, _, _, rfl, rfl, _, _, rfl, rfl, rfl⟩ := he
      have hpe := sub _ _ hpe
      refine ⟨_, rfl, pe, _, 0, _, rfl, rfl, SqT.of hpe, atI_nat (j := 0) rfl, ?_⟩
      refine ⟨_, rfl, by show 4 ≤ sizeLine; decide, fun p1 n1 => ?_⟩
      have m1 : Mv F0 R H R _ := m0.tr (mv_mut (o := .lst [.str "num", .str "flag", .str "unit", .str "name"]) m0.sub n1)
      refine ⟨p1, _, rfl, .inl (SqL.of upd_same), rfl, rfl, _, rfl, ?_⟩
      refine ifT (by decide +kernel) ?_
      refine ⟨Nat.zero_le _, fun p np => ?_⟩
      exact q _ _ _ (m1.tr (mv_new m1.sub np)) (.nlst m1.sub np rfl)
    | unit =>
      obtain ⟨pe, _, rfl, hpe, _, _, rfl, rfl, rfl⟩ := he
      have hpe := sub _ _ hpe
      refine ⟨_, rfl, pe, _, 0, _, rfl, rfl, SqT.of hpe, atI_nat (j := 0) rfl, ?_⟩
      refine ⟨_, rfl, by show 4 ≤ sizeLine; decide, fun p1 n1 => ?_⟩
      have m1 : Mv F0 R H R _ := m0.tr (mv_mut (o := .lst [.str "num", .str "flag", .str "unit", .str "name"]) m0.sub n1)
      refine ⟨p1, _, rfl, .inl (SqL.of upd_same), rfl, rfl, _, rfl, ?_⟩
      refine ifT (by decide +kernel) ?_
      refine ⟨Nat.zero_le _, fun p np => ?_⟩
      exact q _ _ _ (m1.tr (mv_new m1.sub np)) (.nlst m1.sub np rfl)
    | name x =>
      obtain ⟨pe, _, rfl, hpe, _, _, rfl, rfl, _, _, rfl, rfl, rfl⟩ := he
      have hpe := sub _ _ hpe
      refine ⟨_, rfl, pe, _, 0, _, rfl, rfl, SqT.of hpe, atI_nat (j := 0) rfl, ?_⟩
      refine ⟨_, rfl, by show 4 ≤ sizeLine; decide, fun p1 n1 => ?_⟩
      have m1 : Mv F0 R H R _ := m0.tr (mv_mut (o := .lst [.str "num", .str "flag", .str "unit", .str "name"]) m0.sub n1)
      refine ⟨p1, _, rfl, .inl (SqL.of upd_same), rfl, rfl, _, rfl, ?_⟩
      refine ifT (by decide +kernel) ?_
      refine ⟨Nat.zero_le _, fun p np => ?_⟩
      exact q _ _ _ (m1.tr (mv_new m1.sub np)) (.nlst m1.sub np rfl)
    | call f e =>
      obtain ⟨pe, _, rfl, hpe, _, _, rfl, rfl, vf, _, rfl, af, ve, _, rfl, ae, rfl⟩ := he
      have hpe := sub _ _ hpe
      refine ⟨_, rfl, pe, _, 0, _, rfl, rfl, SqT.of hpe, atI_nat (j := 0) rfl, ?_⟩
      refine ⟨_, rfl, by show 4 ≤ sizeLine; decide, fun p1 n1 => ?_⟩
      have m1 : Mv F0 R H R _ := m0.tr (mv_mut (o := .lst [.str "num", .str "flag", .str "unit", .str "name"]) m0.sub n1)
      refine ⟨p1, _, rfl, .inl (SqL.of upd_same), rfl, rfl, _, rfl, ?_⟩
      refine ifF (by decide +kernel) ?_
      refine ⟨_, rfl, by show 2 ≤ sizeLine; decide, fun p2 n2 => ?_⟩
      have m2 : Mv F0 R H R _ := m1.tr (mv_mut (o := .lst [.str "fun", .str "rec"]) m1.sub n2)
      refine ⟨p2, _, rfl, .inl (SqL.of upd_same), rfl, rfl, _, rfl, ?_⟩
      refine ifF (by decide +kernel) ?_
      refine ⟨_, rfl, by show 2 ≤ sizeLine; decide, fun p3 n3 => ?_⟩
      have m3 : Mv F0 R H R _ := m2.tr (mv_mut (o := .lst [.str "let", .str "op"]) m2.sub n3)
      refine ⟨p3, _, rfl, .inl (SqL.of upd_same), rfl, rfl, _, rfl, ?_⟩
      refine ifF (by decide +kernel) ?_
      refine ⟨_, rfl, rfl, _, rfl, ?_⟩
      refine isF (by decide +kernel) ?_
      refine ⟨_, rfl, rfl, _, rfl, ?_⟩
      refine isF (by decide +kernel) ?_
      refine ⟨_, rfl, 1, rfl, pe, _, rfl, SqT.of (m3.same _ _ hpe), (fun z => absurd z.1 (by show ¬ HT.sIx 3 0 (some 1) = 0; decide)), fun ps nps => ?_⟩
      have mS : Mv F0 R H R _ := m3.tr (mv_mut (o := .tup [vf, ve]) m3.sub nps)
      refine ⟨ps, _, rfl, .inr (SqT.of upd_same), fun p np => ?_⟩
      exact q _ _ _ (mS.tr (mv_new mS.sub np)) (.nlst mS.sub np ⟨_, _, rfl, af, _, _, rfl, ae, rfl⟩)
    | fn x e =>
      obtain ⟨pe, _, rfl, hpe, _, _, rfl, rfl, _, _, rfl, rfl, ve, _, rfl, ae, rfl⟩ := he
      have hpe := sub _ _ hpe
      refine ⟨_, rfl, pe, _, 0, _, rfl, rfl, SqT.of hpe, atI_nat (j := 0) rfl, ?_⟩
      refine ⟨_, rfl, by show 4 ≤ sizeLine; decide, fun p1 n1 => ?_⟩
      have m1 : Mv F0 R H R _ := m0.tr (mv_mut (o := .lst [.str "num", .str "flag", .str "unit", .str "name"]) m0.sub n1)
      refine ⟨p1, _, rfl, .inl (SqL.of upd_same), rfl, rfl, _, rfl, ?_⟩
      refine ifF (by decide +kernel) ?_
      refine ⟨_, rfl, by show 2 ≤ sizeLine; decide, fun p2 n2 => ?_⟩
      have m2 : Mv F0 R H R _ := m1.tr (mv_mut (o := .lst [.str "fun", .str "rec"]) m1.sub n2)
      refine ⟨p2, _, rfl, .inl (SqL.of upd_same), rfl, rfl, _, rfl, ?_⟩
      refine ifT (by decide +kernel) ?_
      refine ⟨_, rfl, _, rfl, pe, _, rfl, .inr (SqT.of (m2.same _ _ hpe)), _, _, rfl, rfl, pe, _, _, _, rfl, rfl, SqT.of (m2.same _ _ hpe), atI_nat (j := 2) rfl, by show 1 ≤ sizeLine; decide, fun p np => ?_⟩
      exact q _ _ _ (m2.tr (mv_new m2.sub np)) (.nlst m2.sub np ⟨_, _, rfl, ae, rfl⟩)
    | rc h x e =>
      obtain ⟨pe, _, rfl, hpe, _, _, rfl, rfl, _, _, rfl, rfl, _, _, rfl, rfl, ve, _, rfl, ae, rfl⟩ := he
      have hpe := sub _ _ hpe
      refine ⟨_, rfl, pe, _, 0, _, rfl, rfl, SqT.of hpe, atI_nat (j := 0) rfl, ?_⟩
      refine ⟨_, rfl, by show 4 ≤ sizeLine; decide, fun p1 n1 => ?_⟩
      have m1 : Mv F0 R H R _ := m0.tr (mv_mut (o := .lst [.str "num", .str "flag", .str "unit", .str "name"]) m0.sub n1)
      refine ⟨p1, _, rfl, .inl (SqL.of upd_same), rfl, rfl, _, rfl, ?_⟩
      refine ifF (by decide +kernel) ?_
      refine ⟨_, rfl, by show 2 ≤ sizeLine; decide, fun p2 n2 => ?_⟩
      have m2 : Mv F0 R H R _ := m1.tr (mv_mut (o := .lst [.str "fun", .str "rec"]) m1.sub n2)
      refine ⟨p2, _, rfl, .inl (SqL.of upd_same), rfl, rfl, _, rfl, ?_⟩
      refine ifT (by decide +kernel) ?_
      refine ⟨_, rfl, _, rfl, pe, _, rfl, .inr (SqT.of (m2.same _ _ hpe)), _, _, rfl, rfl, pe, _, _, _, rfl, rfl, SqT.of (m2.same _ _ hpe), atI_nat (j := 3) rfl, by show 1 ≤ sizeLine; decide, fun p np => ?_⟩
      exact q _ _ _ (m2.tr (mv_new m2.sub np)) (.nlst m2.sub np ⟨_, _, rfl, ae, rfl⟩)
    | lt x f e =>
      obtain ⟨pe, _, rfl, hpe, _, _, rfl, rfl, _, _, rfl, rfl, vf, _, rfl, af, ve, _, rfl, ae, rfl⟩ := he
      have hpe := sub _ _ hpe
      refine ⟨_, rfl, pe, _, 0, _, rfl, rfl, SqT.of hpe, atI_nat (j := 0) rfl, ?_⟩
      refine ⟨_, rfl, by show 4 ≤ sizeLine; decide, fun p1 n1 => ?_⟩
      have m1 : Mv F0 R H R _ := m0.tr (mv_mut (o := .lst [.str "num", .str "flag", .str "unit", .str "name"]) m0.sub n1)
      refine ⟨p1, _, rfl, .inl (SqL.of upd_same), rfl, rfl, _, rfl, ?_⟩
      refine ifF (by decide +kernel) ?_
      refine ⟨_, rfl, by show 2 ≤ sizeLine; decide, fun p2 n2 => ?_⟩
      have m2 : Mv F0 R H R _ := m1.tr (mv_mut (o := .lst [.str "fun", .str "rec"]) m1.sub n2)
      refine ⟨p2, _, rfl, .inl (SqL.of upd_same), rfl, rfl, _, rfl, ?_⟩
      refine ifF (by decide +kernel) ?_
      refine ⟨_, rfl, by show 2 ≤ sizeLine; decide, fun p3 n3 => ?_⟩
      have m3 : Mv F0 R H R _ := m2.tr (mv_mut (o := .lst [.str "let", .str "op"]) m2.sub n3)
      refine ⟨p3, _, rfl, .inl (SqL.of upd_same), rfl, rfl, _, rfl, ?_⟩
      refine ifT (by decide +kernel) ?_
      refine ⟨_, rfl, pe, _, 2, _, rfl, rfl, SqT.of (m3.same _ _ hpe), rfl, _, rfl, pe, _, 3, _, rfl, rfl, SqT.of (m3.same _ _ hpe), rfl, by show 2 ≤ sizeLine; decide, fun p np => ?_⟩
      exact q _ _ _ (m3.tr (mv_new m3.sub np)) (.nlst m3.sub np ⟨_, _, rfl, af, _, _, rfl, ae, rfl⟩)
    | ite f e g =>
      obtain ⟨pe, _, rfl, hpe, _, _, rfl, rfl, vf, _, rfl, af, ve, _, rfl, ae, vg, _, rfl, ag, rfl⟩ := he
      have hpe := sub _ _ hpe
      refine ⟨_, rfl, pe, _, 0, _, rfl, rfl, SqT.of hpe, atI_nat (j := 0) rfl, ?_⟩
      refine ⟨_, rfl, by show 4 ≤ sizeLine; decide, fun p1 n1 => ?_⟩
      have m1 : Mv F0 R H R _ := m0.tr (mv_mut (o := .lst [.str "num", .str "flag", .str "unit", .str "name"]) m0.sub n1)
      refine ⟨p1, _, rfl, .inl (SqL.of upd_same), rfl, rfl, _, rfl, ?_⟩
      refine ifF (by decide +kernel) ?_
      refine ⟨_, rfl, by show 2 ≤ sizeLine; decide, fun p2 n2 => ?_⟩
      have m2 : Mv F0 R H R _ := m1.tr (mv_mut (o := .lst [.str "fun", .str "rec"]) m1.sub n2)
      refine ⟨p2, _, rfl, .inl (SqL.of upd_same), rfl, rfl, _, rfl, ?_⟩
      refine ifF (by decide +kernel) ?_
      refine ⟨_, rfl, by show 2 ≤ sizeLine; decide, fun p3 n3 => ?_⟩
      have m3 : Mv F0 R H R _ := m2.tr (mv_mut (o := .lst [.str "let", .str "op"]) m2.sub n3)
      refine ⟨p3, _, rfl, .inl (SqL.of upd_same), rfl, rfl, _, rfl, ?_⟩
      refine ifF (by decide +kernel) ?_
      refine ⟨_, rfl, rfl, _, rfl, ?_⟩
      refine isF (by decide +kernel) ?_
      refine ⟨_, rfl, rfl, _, rfl, ?_⟩
      refine isF (by decide +kernel) ?_
      refine ⟨_, rfl, 1, rfl, pe, _, rfl, SqT.of (m3.same _ _ hpe), (fun z => absurd z.1 (by show ¬ HT.sIx 4 0 (some 1) = 0; decide)), fun ps nps => ?_⟩
      have mS : Mv F0 R H R _ := m3.tr (mv_mut (o := .tup [vf, ve, vg]) m3.sub nps)
      refine ⟨ps, _, rfl, .inr (SqT.of upd_same), fun p np => ?_⟩
      exact q _ _ _ (mS.tr (mv_new mS.sub np)) (.nlst mS.sub np ⟨_, _, rfl, af, _, _, rfl, ae, _, _, rfl, ag, rfl⟩)
    | pair f e =>
      obtain ⟨pe, _, rfl, hpe, _, _, rfl, rfl, vf, _, rfl, af, ve, _, rfl, ae, rfl⟩ := he
      have hpe := sub _ _ hpe
      refine ⟨_, rfl, pe, _, 0, _, rfl, rfl, SqT.of hpe, atI_nat (j := 0) rfl, ?_⟩
      refine ⟨_, rfl, by show 4 ≤ sizeLine; decide, fun p1 n1 => ?_⟩
      have m1 : Mv F0 R H R _ := m0.tr (mv_mut (o := .lst [.str "num", .str "flag", .str "unit", .str "name"]) m0.sub n1)
      refine ⟨p1, _, rfl, .inl (SqL.of upd_same), rfl, rfl, _, rfl, ?_⟩
      refine ifF (by decide +kernel) ?_
      refine ⟨_, rfl, by show 2 ≤ sizeLine; decide, fun p2 n2 => ?_⟩
      have m2 : Mv F0 R H R _ := m1.tr (mv_mut (o := .lst [.str "fun", .str "rec"]) m1.sub n2)
      refine ⟨p2, _, rfl, .inl (SqL.of upd_same), rfl, rfl, _, rfl, ?_⟩
      refine ifF (by decide +kernel) ?_
      refine ⟨_, rfl, by show 2 ≤ sizeLine; decide, fun p3 n3 => ?_⟩
      have m3 : Mv F0 R H R _ := m2.tr (mv_mut (o := .lst [.str "let", .str "op"]) m2.sub n3)
      refine ⟨p3, _, rfl, .inl (SqL.of upd_same), rfl, rfl, _, rfl, ?_⟩
      refine ifF (by decide +kernel) ?_
      refine ⟨_, rfl, rfl, _, rfl, ?_⟩
      refine isF (by decide +kernel) ?_
      refine ⟨_, rfl, rfl, _, rfl, ?_⟩
      refine isF (by decide +kernel) ?_
      refine ⟨_, rfl, 1, rfl, pe, _, rfl, SqT.of (m3.same _ _ hpe), (fun z => absurd z.1 (by show ¬ HT.sIx 3 0 (some 1) = 0; decide)), fun ps nps => ?_⟩
      have mS : Mv F0 R H R _ := m3.tr (mv_mut (o := .tup [vf, ve]) m3.sub nps)
      refine ⟨ps, _, rfl, .inr (SqT.of upd_same), fun p np => ?_⟩
      exact q _ _ _ (mS.tr (mv_new mS.sub np)) (.nlst mS.sub np ⟨_, _, rfl, af, _, _, rfl, ae, rfl⟩)
    | fst e =>
      obtain ⟨pe, _, rfl, hpe, _, _, rfl, rfl, ve, _, rfl, ae, rfl⟩ := he
      have hpe := sub _ _ hpe
      refine ⟨_, rfl, pe, _, 0, _, rfl, rfl, SqT.of hpe, atI_nat (j := 0) rfl, ?_⟩
      refine ⟨_, rfl, by show 4 ≤ sizeLine; decide, fun p1 n1 => ?_⟩
      have m1 : Mv F0 R H R _ := m0.tr (mv_mut (o := .lst [.str "num", .str "flag", .str "unit", .str "name"]) m0.sub n1)
      refine ⟨p1, _, rfl, .inl (SqL.of upd_same), rfl, rfl, _, rfl, ?_⟩
      refine ifF (by decide +kernel) ?_
      refine ⟨_, rfl, by show 2 ≤ sizeLine; decide, fun p2 n2 => ?_⟩
      have m2 : Mv F0 R H R _ := m1.tr (mv_mut (o := .lst [.str "fun", .str "rec"]) m1.sub n2)
      refine ⟨p2, _, rfl, .inl (SqL.of upd_same), rfl, rfl, _, rfl, ?_⟩
      refine ifF (by decide +kernel) ?_
      refine ⟨_, rfl, by show 2 ≤ sizeLine; decide, fun p3 n3 => ?_⟩
      have m3 : Mv F0 R H R _ := m2.tr (mv_mut (o := .lst [.str "let", .str "op"]) m2.sub n3)
      refine ⟨p3, _, rfl, .inl (SqL.of upd_same), rfl, rfl, _, rfl, ?_⟩
      refine ifF (by decide +kernel) ?_
      refine ⟨_, rfl, rfl, _, rfl, ?_⟩
      refine isF (by decide +kernel) ?_
      refine ⟨_, rfl, rfl, _, rfl, ?_⟩
      refine isF (by decide +kernel) ?_
      refine ⟨_, rfl, 1, rfl, pe, _, rfl, SqT.of (m3.same _ _ hpe), (fun z => absurd z.1 (by show ¬ HT.sIx 2 0 (some 1) = 0; decide)), fun ps nps => ?_⟩
      have mS : Mv F0 R H R _ := m3.tr (mv_mut (o := .tup [ve]) m3.sub nps)
      refine ⟨ps, _, rfl, .inr (SqT.of upd_same), fun p np => ?_⟩
      exact q _ _ _ (mS.tr (mv_new mS.sub np)) (.nlst mS.sub np ⟨_, _, rfl, ae, rfl⟩)
    | snd e =>
      obtain ⟨pe, _, rfl, hpe, _, _, rfl, rfl, ve, _, rfl, ae, rfl⟩ := he
      have hpe := sub _ _ hpe
      refine ⟨_, rfl, pe, _, 0, _, rfl, rfl, SqT.of hpe, atI_nat (j := 0) rfl, ?_⟩
      refine ⟨_, rfl, by show 4 ≤ sizeLine; decide, fun p1 n1 => ?_⟩
      have m1 : Mv F0 R H R _ := m0.tr (mv_mut (o := .lst [.str "num", .str "flag", .str "unit", .str "name"]) m0.sub n1)
      refine ⟨p1, _, rfl, .inl (SqL.of upd_same), rfl, rfl, _, rfl, ?_⟩
      refine ifF (by decide +kernel) ?_
      refine ⟨_, rfl, by show 2 ≤ sizeLine; decide, fun p2 n2 => ?_⟩
      have m2 : Mv F0 R H R _ := m1.tr (mv_mut (o := .lst [.str "fun", .str "rec"]) m1.sub n2)
      refine ⟨p2, _, rfl, .inl (SqL.of upd_same), rfl, rfl, _, rfl, ?_⟩
      refine ifF (by decide +kernel) ?_
      refine ⟨_, rfl, by show 2 ≤ sizeLine; decide, fun p3 n3 => ?_⟩
      have m3 : Mv F0 R H R _ := m2.tr (mv_mut (o := .lst [.str "let", .str "op"]) m2.sub n3)
      refine ⟨p3, _, rfl, .inl (SqL.of upd_same), rfl, rfl, _, rfl, ?_⟩
      refine ifF (by decide +kernel) ?_
      refine ⟨_, rfl, rfl, _, rfl, ?_⟩
      refine isF (by decide +kernel) ?_
      refine ⟨_, rfl, rfl, _, rfl, ?_⟩
      refine isF (by decide +kernel) ?_
      refine ⟨_, rfl, 1, rfl, pe, _, rfl, SqT.of (m3.same _ _ hpe), (fun z => absurd z.1 (by show ¬ HT.sIx 2 0 (some 1) = 0; decide)), fun ps nps => ?_⟩
      have mS : Mv F0 R H R _ := m3.tr (mv_mut (o := .tup [ve]) m3.sub nps)
      refine ⟨ps, _, rfl, .inr (SqT.of upd_same), fun p np => ?_⟩
      exact q _ _ _ (mS.tr (mv_new mS.sub np)) (.nlst mS.sub np ⟨_, _, rfl, ae, rfl⟩)
    | op s f e =>
      obtain ⟨pe, _, rfl, hpe, _, _, rfl, rfl, _, _, rfl, rfl, vf, _, rfl, af, ve, _, rfl, ae, rfl⟩ := he
      have hpe := sub _ _ hpe
      refine ⟨_, rfl, pe, _, 0, _, rfl, rfl, SqT.of hpe, atI_nat (j := 0) rfl, ?_⟩
      refine ⟨_, rfl, by show 4 ≤ sizeLine; decide, fun p1 n1 => ?_⟩
      have m1 : Mv F0 R H R _ := m0.tr (mv_mut (o := .lst [.str "num", .str "flag", .str "unit", .str "name"]) m0.sub n1)
      refine ⟨p1, _, rfl, .inl (SqL.of upd_same), rfl, rfl, _, rfl, ?_⟩
      refine ifF (by decide +kernel) ?_
      refine ⟨_, rfl, by show 2 ≤ sizeLine; decide, fun p2 n2 => ?_⟩
      have m2 : Mv F0 R H R _ := m1.tr (mv_mut (o := .lst [.str "fun", .str "rec"]) m1.sub n2)
      refine ⟨p2, _, rfl, .inl (SqL.of upd_same), rfl, rfl, _, rfl, ?_⟩
      refine ifF (by decide +kernel) ?_
      refine ⟨_, rfl, by show 2 ≤ sizeLine; decide, fun p3 n3 => ?_⟩
      have m3 : Mv F0 R H R _ := m2.tr (mv_mut (o := .lst [.str "let", .str "op"]) m2.sub n3)
      refine ⟨p3, _, rfl, .inl (SqL.of upd_same), rfl, rfl, _, rfl, ?_⟩
      refine ifT (by decide +kernel) ?_
      refine ⟨_, rfl, pe, _, 2, _, rfl, rfl, SqT.of (m3.same _ _ hpe), rfl, _, rfl, pe, _, 3, _, rfl, rfl, SqT.of (m3.same _ _ hpe), rfl, by show 2 ≤ sizeLine; decide, fun p np => ?_⟩
      exact q _ _ _ (m3.tr (mv_new m3.sub np)) (.nlst m3.sub np ⟨_, _, rfl, af, _, _, rfl, ae, rfl⟩)
    | nt e =>
      obtain ⟨pe, _, rfl, hpe, _, _, rfl, rfl, ve, _, rfl, ae, rfl⟩ := he
      have hpe := sub _ _ hpe
      refine ⟨_, rfl, pe, _, 0, _, rfl, rfl, SqT.of hpe, atI_nat (j := 0) rfl, ?_⟩
      refine ⟨_, rfl, by show 4 ≤ sizeLine; decide, fun p1 n1 => ?_⟩
      have m1 : Mv F0 R H R _ := m0.tr (mv_mut (o := .lst [.str "num", .str "flag", .str "unit", .str "name"]) m0.sub n1)
      refine ⟨p1, _, rfl, .inl (SqL.of upd_same), rfl, rfl, _, rfl, ?_⟩
      refine ifF (by decide +kernel) ?_
      refine ⟨_, rfl, by show 2 ≤ sizeLine; decide, fun p2 n2 => ?_⟩
      have m2 : Mv F0 R H R _ := m1.tr (mv_mut (o := .lst [.str "fun", .str "rec"]) m1.sub n2)
      refine ⟨p2, _, rfl, .inl (SqL.of upd_same), rfl, rfl, _, rfl, ?_⟩
      refine ifF (by decide +kernel) ?_
      refine ⟨_, rfl, by show 2 ≤ sizeLine; decide, fun p3 n3 => ?_⟩
      have m3 : Mv F0 R H R _ := m2.tr (mv_mut (o := .lst [.str "let", .str "op"]) m2.sub n3)
      refine ⟨p3, _, rfl, .inl (SqL.of upd_same), rfl, rfl, _, rfl, ?_⟩
      refine ifF (by decide +kernel) ?_
      refine ⟨_, rfl, rfl, _, rfl, ?_⟩
      refine isF (by decide +kernel) ?_
      refine ⟨_, rfl, rfl, _, rfl, ?_⟩
      refine isF (by decide +kernel) ?_
      refine ⟨_, rfl, 1, rfl, pe, _, rfl, SqT.of (m3.same _ _ hpe), (fun z => absurd z.1 (by show ¬ HT.sIx 2 0 (some 1) = 0; decide)), fun ps nps => ?_⟩
      have mS : Mv F0 R H R _ := m3.tr (mv_mut (o := .tup [ve]) m3.sub nps)
      refine ⟨ps, _, rfl, .inr (SqT.of upd_same), fun p np => ?_⟩
      exact q _ _ _ (mS.tr (mv_new mS.sub np)) (.nlst mS.sub np ⟨_, _, rfl, ae, rfl⟩)
    | pr f e =>
      obtain ⟨pe, _, rfl, hpe, _, _, rfl, rfl, vf, _, rfl, af, ve, _, rfl, ae, rfl⟩ := he
      have hpe := sub _ _ hpe
      refine ⟨_, rfl, pe, _, 0, _, rfl, rfl, SqT.of hpe, atI_nat (j := 0) rfl, ?_⟩
      refine ⟨_, rfl, by show 4 ≤ sizeLine; decide, fun p1 n1 => ?_⟩
      have m1 : Mv F0 R H R _ := m0.tr (mv_mut (o := .lst [.str "num", .str "flag", .str "unit", .str "name"]) m0.sub n1)
      refine ⟨p1, _, rfl, .inl (SqL.of upd_same), rfl, rfl, _, rfl, ?_⟩
      refine ifF (by decide +kernel) ?_
      refine ⟨_, rfl, by show 2 ≤ sizeLine; decide, fun p2 n2 => ?_⟩
      have m2 : Mv F0 R H R _ := m1.tr (mv_mut (o := .lst [.str "fun", .str "rec"]) m1.sub n2)
      refine ⟨p2, _, rfl, .inl (SqL.of upd_same), rfl, rfl, _, rfl, ?_⟩
      refine ifF (by decide +kernel) ?_
      refine ⟨_, rfl, by show 2 ≤ sizeLine; decide, fun p3 n3 => ?_⟩
      have m3 : Mv F0 R H R _ := m2.tr (mv_mut (o := .lst [.str "let", .str "op"]) m2.sub n3)
      refine ⟨p3, _, rfl, .inl (SqL.of upd_same), rfl, rfl, _, rfl, ?_⟩
      refine ifF (by decide +kernel) ?_
      refine ⟨_, rfl, rfl, _, rfl, ?_⟩
      refine isF (by decide +kernel) ?_
      refine ⟨_, rfl, rfl, _, rfl, ?_⟩
      refine isF (by decide +kernel) ?_
      refine ⟨_, rfl, 1, rfl, pe, _, rfl, SqT.of (m3.same _ _ hpe), (fun z => absurd z.1 (by show ¬ HT.sIx 3 0 (some 1) = 0; decide)), fun ps nps => ?_⟩
      have mS : Mv F0 R H R _ := m3.tr (mv_mut (o := .tup [vf, ve]) m3.sub nps)
      refine ⟨ps, _, rfl, .inr (SqT.of upd_same), fun p np => ?_⟩
      exact q _ _ _ (mS.tr (mv_new mS.sub np)) (.nlst mS.sub np ⟨_, _, rfl, af, _, _, rfl, ae, rfl⟩)
    | ask s e =>
      obtain ⟨pe, _, rfl, hpe, _, _, rfl, rfl, _, _, rfl, rfl, ve, _, rfl, ae, rfl⟩ := he
      have hpe := sub _ _ hpe
      refine ⟨_, rfl, pe, _, 0, _, rfl, rfl, SqT.of hpe, atI_nat (j := 0) rfl, ?_⟩
      refine ⟨_, rfl, by show 4 ≤ sizeLine; decide, fun p1 n1 => ?_⟩
      have m1 : Mv F0 R H R _ := m0.tr (mv_mut (o := .lst [.str "num", .str "flag", .str "unit", .str "name"]) m0.sub n1)
      refine ⟨p1, _, rfl, .inl (SqL.of upd_same), rfl, rfl, _, rfl, ?_⟩
      refine ifF (by decide +kernel) ?_
      refine ⟨_, rfl, by show 2 ≤ sizeLine; decide, fun p2 n2 => ?_⟩
      have m2 : Mv F0 R H R _ := m1.tr (mv_mut (o := .lst [.str "fun", .str "rec"]) m1.sub n2)
      refine ⟨p2, _, rfl, .inl (SqL.of upd_same), rfl, rfl, _, rfl, ?_⟩
      refine ifF (by decide +kernel) ?_
      refine ⟨_, rfl, by show 2 ≤ sizeLine; decide, fun p3 n3 => ?_⟩
      have m3 : Mv F0 R H R _ := m2.tr (mv_mut (o := .lst [.str "let", .str "op"]) m2.sub n3)
      refine ⟨p3, _, rfl, .inl (SqL.of upd_same), rfl, rfl, _, rfl, ?_⟩
      refine ifF (by decide +kernel) ?_
      refine ⟨_, rfl, rfl, _, rfl, ?_⟩
      refine ifT (decide_eq_true rfl) ?_
      refine ⟨_, rfl, pe, _, 2, _, rfl, rfl, SqT.of (m3.same _ _ hpe), rfl, by show 1 ≤ sizeLine; decide, fun p np => ?_⟩
      exact q _ _ _ (m3.tr (mv_new m3.sub np)) (.nlst m3.sub np ⟨_, _, rfl, ae, rfl⟩)
    | hd e x f cs =>
      obtain ⟨pe, _, rfl, hpe, _, _, rfl, rfl, ve, _, rfl, ae, vr, _, rfl, ⟨pr, _, rfl, hpr, vx, _, rfl, ax, vf, _, rfl, af, rfl⟩, vc, _, rfl, ⟨pc, cvs, rfl, hpc, acs⟩, rfl⟩ := he
      have hpe := sub _ _ hpe
      refine ⟨_, rfl, pe, _, 0, _, rfl, rfl, SqT.of hpe, atI_nat (j := 0) rfl, ?_⟩
      refine ⟨_, rfl, by show 4 ≤ sizeLine; decide, fun p1 n1 => ?_⟩
      have m1 : Mv F0 R H R _ := m0.tr (mv_mut (o := .lst [.str "num", .str "flag", .str "unit", .str "name"]) m0.sub n1)
      refine ⟨p1, _, rfl, .inl (SqL.of upd_same), rfl, rfl, _, rfl, ?_⟩
      refine ifF (by decide +kernel) ?_
      refine ⟨_, rfl, by show 2 ≤ sizeLine; decide, fun p2 n2 => ?_⟩
      have m2 : Mv F0 R H R _ := m1.tr (mv_mut (o := .lst [.str "fun", .str "rec"]) m1.sub n2)
      refine ⟨p2, _, rfl, .inl (SqL.of upd_same), rfl, rfl, _, rfl, ?_⟩
      refine ifF (by decide +kernel) ?_
      refine ⟨_, rfl, by show 2 ≤ sizeLine; decide, fun p3 n3 => ?_⟩
      have m3 : Mv F0 R H R _ := m2.tr (mv_mut (o := .lst [.str "let", .str "op"]) m2.sub n3)
      refine ⟨p3, _, rfl, .inl (SqL.of upd_same), rfl, rfl, _, rfl, ?_⟩
      refine ifF (by decide +kernel) ?_
      refine ⟨_, rfl, rfl, _, rfl, ?_⟩
      refine isF (by decide +kernel) ?_
      refine ⟨_, rfl, rfl, _, rfl, ?_⟩
      refine ifT (decide_eq_true rfl) ?_
      have hp3 := m3.same _ _ hpe
      refine ⟨_, rfl, pe, _, 1, _, rfl, rfl, SqT.of hp3, rfl, _, rfl, pe, _, 2, _, rfl, rfl, SqT.of hp3, rfl, pr, _, 1, _, rfl, rfl, SqT.of (m3.sub _ _ hpr), rfl, by show 2 ≤ sizeLine; decide, fun p4 n4 => ?_⟩
      have m4 : Mv F0 R H R _ := m3.tr (mv_mut (o := .lst [ve, vf]) m3.sub n4)
      refine ⟨_, rfl, pe, _, 3, _, rfl, rfl, SqT.of (m4.same _ _ hpe), rfl, pc, rfl, ⟨_, SqT.of (m4.sub _ _ hpc)⟩, fun D nD => ?_⟩
      have rD : R D = none := m4.sub.free nD
      have nH : H D = none := m4.free nD
      have n4D : p4 ≠ D := fun z => by rw [← z, upd_same] at nD; cases nD
      have cl : cvs.length = cs.len := by
        rw [acs.length, Clz.d4]
        unfold cls4 up4
        rw [List.length_map, List.length_map, Clz.l4]
      have cl9 : cs.len ≤ 900 := sm_len sm
      refine lc_it (walk_tup (xs := cvs)) (fun i H' => ∃ acc, Mv F0 R H R H' ∧ H' p4 = some (.lst [ve, vf]) ∧ H' D = some (.lst acc) ∧ Ats R ((cs.gs.take i).map (Ex.d false)) acc ∧ acc.length ≤ i) ?_ ?_ ?_ ?_
      · refine ⟨[], m4.tr (mv_mut m4.sub nD), ?_, upd_same, rfl, Nat.le_refl _⟩
        rw [upd_ne n4D]
        exact upd_same
      · rintro i H' hi ⟨acc, mv, _⟩
        exact SqT.of (mv.sub _ _ hpc)
      · rintro i z H' H'' hi ⟨acc, mv, h4, hD, aa, la⟩ ⟨rfl, hz⟩
        obtain ⟨d, hd, ad⟩ := acs.mem hz
        obtain ⟨o, x', k, g, rfl, hg⟩ := cls_gs hd
        obtain ⟨pz, _, rfl, hpz, _, _, rfl, rfl, _, _, rfl, rfl, _, _, rfl, rfl, vg, _, rfl, ag, rfl⟩ := ad
        refine ⟨rfl, ?_⟩
        refine ⟨_, rfl, pz, _, 3, _, rfl, rfl, SqT.of (mv.sub _ _ hpz), rfl, acc, hD, Nat.lt_of_le_of_lt (by omega : acc.length ≤ 1000000) (by decide), acc ++ [vg], ?_, ?_, upd_same, ?_, by rw [List.length_append]; show acc.length + 1 ≤ i + 1; omega⟩
        · exact mv.trans (mv_at (F := fun x => x = D) mv.sub rD hD rfl) (fun _ f => f) (fun x f => .inr (by rw [f]; exact nH))
        · rw [upd_ne n4D]
          exact h4
        · rw [List.take_add_one, hg, List.map_append]
          exact aa.append (.one ag)
      · rintro H5 ⟨acc, mv, h4, hD, aa, la⟩
        rw [cl, ← Clz.lg, List.take_length] at aa
        refine ⟨p4, D, [ve, vf], acc, rfl, rfl, h4, hD, ?_, fun p np => ?_⟩
        · have := aa.length
          rw [List.length_map, Clz.lg] at this
          show 2 + acc.length ≤ _
          exact Nat.le_trans (by omega : 2 + acc.length ≤ 1000) (by decide)
        exact q _ _ _ (mv.tr (mv_new mv.sub np)) (.nlst mv.sub np ⟨_, _, rfl, ae, _, _, rfl, af, aa⟩)
end
end Bz


set_option Elab.async false
set_option linter.all false
set_option maxRecDepth 100000
set_option maxHeartbeats 4000000
namespace Bz
open PySem PySem.Spec L2 PyProof.Rows
theorem take_pre : ∀ {l : List Ex} {i : Nat} {g : Ex}, l[i]? = some g → ((l.take i).flatMap pre).length + (pre g).length ≤ (l.flatMap pre).length
  | [], i, g, h => by cases i <;> cases h
  | a :: r, 0, g, h => by
    cases h
    rw [List.flatMap_cons, List.length_append]
    show 0 + _ ≤ _
    omega
  | a :: r, i + 1, g, h => by
    have := take_pre (l := r) (i := i) (g := g) h
    rw [List.take_succ_cons, List.flatMap_cons, List.flatMap_cons, List.length_append, List.length_append]
    omega
section
variable {P : Program} {w : World} {K : PySem.W.Frag} {mg : Str → Option Value} {base : Heap}
abbrev g__law_all : Stmt := topS 17
abbrev n__law_all : List Str := ["tree", "found", "part"]
abbrev p__law_all : List Str := ["tree"]
theorem sc__law_all : FnScope n__law_all p__law_all (defScope g__law_all) := ⟨rfl, rfl, rfl, by decide +kernel, rfl, by decide +kernel, by decide +kernel⟩
def spAll (n : Nat) : Sp := fun vs H Q _ => ∃ (R : Hp) (e : Ex) (v : V), vs = [v] ∧ Same R H ∧ At R (e.d false) v ∧ exD e ≤ n ∧ smE e = true ∧ exN e ≤ 1000000 ∧ ∀ (R' H' : Hp) (u : V), Mv F0 R H R' H' → At R' (.lst ((pre e).map (Ex.d false))) u → Q u H'
theorem ok_all0 {f : Addr} {fd : FuncData} (F : Fun K "_law_all" "_law_all" g__law_all f fd) : FnOk P w K mg base CX0 2 f fd p__law_all (spAll 0) := by
  refine F.ok (k := 1) sc__law_all (fun vs H Q E h => ?_) (fun cdv A outer st H vs Q E hr h => ?_)
  · obtain ⟨R, e, v, rfl, _⟩ := h
    rfl
  · obtain ⟨R, e, v, rfl, _, _, h, _⟩ := h
    exact absurd h (by have := ex_pos e; omega)
theorem ok_all {n : Nat} {f fP : Addr} {fd fdP : FuncData} (F : Fun K "_law_all" "_law_all" g__law_all f fd) (GP : Fn P w K mg base CX0 1 "_law_parts" p__law_parts spLP fP fdP)
    (GR : Fn P w K mg base CX0 (n + 2) "_law_all" p__law_all (spAll n) f fd) : FnOk P w K mg base CX0 (n + 3) f fd p__law_all (spAll (n + 1)) := by
  refine F.ok (k := n + 2) sc__law_all (fun vs H Q E h => ?_) (fun cdv A outer st H vs Q E hr h => ?_)
  · obtain ⟨R, e, v, rfl, _⟩ := h
    rfl
  · obtain ⟨R, e, v, rfl, sub, he, dep, sm, big, q⟩ := h
    refine ⟨_, (pss_cons (ps_set (i := 1) sc__law_all.nd rfl (Or.inl rfl) (pe_lst (pa_cons (pv 0) pa_nil)))
      (pss_cons (ps_for PassesOwn.never rfl (pi_list (pe_call GP.ok (hr.mono (by omega)) (by rfl) GP.g GP.kp GP.b .nil pass0 (pa_cons (pv 0) pa_nil))) (pg_name (i := 2) sc__law_all.nd rfl (Or.inl rfl)) (pss_one (ps_set (i := 1) sc__law_all.nd rfl (Or.inl rfl) (pe_op op_cat (pv 1) (pe_call GR.ok hr (by rfl) GR.g GR.kp GR.b .nil pass0 (pa_cons (pv 2) pa_nil))))))
      (pss_one (ps_ret (pv 1))))), ?_⟩
    refine ⟨_, rfl, by show 1 ≤ sizeLine; decide, fun p0 n0 => ?_⟩
    have m1 : Mv F0 R H _ _ := mv_new (o := .lst [v]) sub n0
    have a1 : At _ (.lst [e.d false]) (.ref p0) := .nlst sub n0 (.one he)
    generalize upd R p0 (.lst [v]) = R1 at m1 a1
    generalize upd H p0 (.lst [v]) = H1 at m1
    refine ⟨_, rfl, R1, e, v, rfl, m1.sub, he.up m1.up, sm, fun R2 H2 u m2 a2 => ?_⟩
    obtain ⟨pl, pvs, rfl, hpl, ap⟩ := a2
    have m12 := m1.tr m2
    have pl_ := pre_len e
    rw [pre_flat e, List.length_cons] at pl_
    refine ⟨pl, rfl, ⟨_, SqL.of (m2.sub _ _ hpl)⟩, ?_⟩
    refine for_it (walk_list (xs := pvs)) (fun i σ H' => ∃ (R' : Hp) (z : Option V) (p : Addr), σ = [some v, some (.ref p), z] ∧ Mv F0 R H R' H' ∧ Same R2 R' ∧ At R' (.lst ((e :: ((exParts e).take i).flatMap pre).map (Ex.d false))) (.ref p)) ?_ ?_ ?_ ?_
    · exact ⟨R2, none, p0, rfl, m12, .refl _, a1.up m2.up⟩
    · rintro i σ H' hi ⟨R', z, p, rfl, mv, s2, ap'⟩
      exact SqL.of (mv.sub _ _ (s2 _ _ hpl))
    · rintro i x σ H' H'' hi ⟨R', z, p, rfl, mv, s2, ap'⟩ ⟨rfl, hx⟩
      obtain ⟨d, hd, ad⟩ := ap.mem hx
      rw [List.getElem?_map] at hd
      cases eg : (exParts e)[i]? with
      | none => rw [eg] at hd; cases hd
      | some g =>
        rw [eg] at hd
        obtain rfl : g.d false = d := Option.some.inj hd
        have hm := List.mem_of_getElem? eg
        have pm := part_mem hm
        have tl := take_pre eg
        have gl := pre_len g
        obtain ⟨p', fvs, e1, hp', af⟩ := ap'
        obtain rfl : p = p' := V.ref.inj e1
        refine ⟨_, rfl, _, rfl, R', g, x, rfl, mv.sub, ad.up s2, by omega, pm.2 sm, by omega, fun R4 H4 u4 m4 a4 => ?_⟩
        obtain ⟨p5, gvs, rfl, hp5, ag⟩ := a4
        have m44 := mv.tr m4
        refine ⟨p, p5, fvs, gvs, rfl, rfl, m4.same _ _ (mv.sub _ _ hp'), m4.sub _ _ hp5, ?_, fun p6 n6 => ?_⟩
        · have l1 := af.length
          have l2 := ag.length
          rw [List.length_map, List.length_cons] at l1
          rw [List.length_map] at l2
          exact Nat.le_trans (by omega : fvs.length + gvs.length ≤ 1000000) (by decide)
        refine ⟨_, some x, p6, rfl, m44.tr (mv_new m44.sub n6), (s2.trans m4.up).trans (same_new (m44.sub.free n6)), ?_⟩
        have z : Ats R4 ((e :: ((exParts e).take (i + 1)).flatMap pre).map (Ex.d false)) (fvs ++ gvs) := by
          rw [List.take_add_one, eg, List.flatMap_append]
          show Ats R4 ((e :: (((exParts e).take i).flatMap pre ++ (pre g ++ []))).map (Ex.d false)) _
          rw [List.append_nil, ← List.cons_append, List.map_append]
          exact (af.up m4.up).append ag
        exact .nlst m44.sub n6 z
    · rintro σ H' ⟨R', z, p, rfl, mv, s2, ap'⟩
      rw [show pvs.length = (exParts e).length by rw [ap.length, List.length_map], List.take_length, ← pre_flat e] at ap'
      exact ⟨_, rfl, q _ _ _ mv ap'⟩
end
end Bz


set_option Elab.async false
set_option linter.all false
set_option maxRecDepth 100000
set_option maxHeartbeats 4000000
namespace Bz
open PySem PySem.Spec L2 PyProof.Rows
theorem lit2 {R H : Hp} {vs : List V} {l : List D} (sub : Same R H) (a : Ats R l vs) {p : Addr} (np : H p = none) : ∃ R' : Hp, Mv F0 R H R' (upd H p (.tup vs)) ∧ At R' (.tup l) (.ref p) := ⟨_, mv_new sub np, .ntup sub np a⟩
mutual
theorem ex_flat : ∀ e : Ex, (e.d false).flat = true
  | .num _ => rfl | .flag _ => rfl | .unit => rfl | .name _ => rfl
  | .call f e => by show ((f.d false).flat && ((e.d false).flat && true)) = true; rw [ex_flat f, ex_flat e]; rfl
  | .fn x e => by show (true && ((e.d false).flat && true)) = true; rw [ex_flat e]; rfl
  | .rc h x e => by show (true && (true && ((e.d false).flat && true))) = true; rw [ex_flat e]; rfl
  | .lt x f e => by show (true && ((f.d false).flat && ((e.d false).flat && true))) = true; rw [ex_flat f, ex_flat e]; rfl
  | .ite e f g => by show ((e.d false).flat && ((f.d false).flat && ((g.d false).flat && true))) = true; rw [ex_flat e, ex_flat f, ex_flat g]; rfl
  | .pair f e => by show ((f.d false).flat && ((e.d false).flat && true)) = true; rw [ex_flat f, ex_flat e]; rfl
  | .fst e => by show ((e.d false).flat && true) = true; rw [ex_flat e]; rfl
  | .snd e => by show ((e.d false).flat && true) = true; rw [ex_flat e]; rfl
  | .op s f e => by show (true && ((f.d false).flat && ((e.d false).flat && true))) = true; rw [ex_flat f, ex_flat e]; rfl
  | .nt e => by show ((e.d false).flat && true) = true; rw [ex_flat e]; rfl
  | .pr f e => by show ((f.d false).flat && ((e.d false).flat && true)) = true; rw [ex_flat f, ex_flat e]; rfl
  | .ask s e => by show (true && ((e.d false).flat && true)) = true; rw [ex_flat e]; rfl
  | .hd e x f cs => by
    show ((e.d false).flat && (((f.d false).flat && true) && (flats (cs.d false) && true))) = true
    rw [ex_flat e, ex_flat f, cl_flat cs]; rfl
theorem cl_flat : ∀ c : Clz, flats (c.d false) = true
  | .nil => rfl
  | .cons o x k g r => by
    show (((g.d false).flat && true) && flats (r.d false)) = true
    rw [ex_flat g, cl_flat r]; rfl
end
theorem pre_self (e : Ex) : e ∈ pre e := by rw [pre_flat e]; exact List.mem_cons_self
theorem pre_part {e g h : Ex} (hg : g ∈ exParts e) (hh : h ∈ pre g) : h ∈ pre e := by
  rw [pre_flat e]
  exact List.mem_cons_of_mem _ (List.mem_flatMap.mpr ⟨g, hg, hh⟩)
theorem part_n : ∀ {l : List Ex} {g : Ex}, g ∈ l → (pre g).length ≤ (l.flatMap pre).length
  | a :: r, g, h => by
    rw [List.flatMap_cons, List.length_append]
    rcases List.mem_cons.mp h with e | h
    · rw [e]; omega
    · have := part_n h; omega
structure Wd (R H : Hp) (s c : Addr) : Prop where
  sub : Same R H
  rs : R s = none
  rc : R c = none
  st : StAt H s c
theorem Wd.up0 {R H R' H' : Hp} {s c : Addr} (w : Wd R H s c) (m : Mv F0 R H R' H') : Wd R' H' s c := by
  obtain ⟨i, cs, h1, h2, _⟩ := w.st
  exact ⟨m.sub, m.out w.rs h1, m.out w.rc h2, w.st.stay m id id⟩
theorem Wd.took {R H H' : Hp} {s c : Addr} (w : Wd R H s c) (m : Mv (Fst s c) R H R H') (st : StAt H' s c) : Wd R H' s c := ⟨m.sub, w.rs, w.rc, st⟩
/-! ### kinds -/
theorem Wd.nf {R H : Hp} {s c L : Addr} (w : Wd R H s c) (h : H L = none) : ¬ Fst s c L := by
  obtain ⟨i, cs, h1, h2, _⟩ := w.st
  rintro (e | e)
  · rw [e, h1] at h; cases h
  · rw [e, h2] at h; cases h
theorem lit3 {R H : Hp} {vs : List V} {l : List D} (sub : Same R H) (a : Ats R l vs) {p : Addr} (np : H p = none) : ∃ R' : Hp, Mv F0 R H R' (upd H p (.lst vs)) ∧ At R' (.lst l) (.ref p) := ⟨_, mv_new sub np, .nlst sub np a⟩
theorem str_get {l : List Str} {i : Nat} (h : i < l.length) : (l.map V.str)[i]? = some (.str l[i]) := by rw [List.getElem?_map, List.getElem?_eq_getElem h]; rfl
theorem Mv.freeze {F : Addr → Prop} {R H R1 H1 : Hp} {l : Addr} {o : HO} (m : Mv F R H R1 H1) (rR : R1 l = none) (hR : H1 l = some o) (nH : H l = none) : Mv F R H (upd R1 l o) H1 where
  keep := m.keep
  dom := m.dom
  up := m.up.trans (same_new rR)
  sub := fun b x e => by
    by_cases q : b = l
    · rw [q, upd_same] at e; rw [q, hR]; exact e
    · rw [upd_ne q] at e; exact m.sub b x e
  new := fun b x e => by
    by_cases q : b = l
    · rw [q]; exact .inr nH
    · rw [upd_ne q] at e; exact m.new b x e
theorem Wd.freeze {R1 H1 : Hp} {s c l : Addr} {o : HO} (w : Wd R1 H1 s c) (rR : R1 l = none) (hR : H1 l = some o) (nF : ¬ Fst s c l) : Wd (upd R1 l o) H1 s c where
  sub := fun b x e => by
    by_cases q : b = l
    · rw [q, upd_same] at e; rw [q, hR]; exact e
    · rw [upd_ne q] at e; exact w.sub b x e
  rs := by rw [upd_ne fun q => nF (.inl q.symm)]; exact w.rs
  rc := by rw [upd_ne fun q => nF (.inr q.symm)]; exact w.rc
  st := w.st
theorem Wd.put {R H : Hp} {s c D : Addr} {o u : HO} (w : Wd R H s c) (rD : R D = none) (hD : H D = some u) (nF : ¬ Fst s c D) : Wd R (upd H D o) s c := by
  have m : Mv (fun a => a = D) R H R (upd H D o) := mv_at w.sub rD hD rfl
  exact ⟨m.sub, w.rs, w.rc, w.st.stay m (fun e => nF (.inl e.symm)) (fun e => nF (.inr e.symm))⟩
theorem iteB {b : Bool} {A B : Prop} (h : b = true → A) (z : b = false → B) : if b = true then A else B := by
  cases b with
  | true => exact h rfl
  | false => exact iteF (z rfl)
theorem cl_len : ∀ c : Clz, (c.d false).length = c.len
  | .nil => rfl
  | .cons _ _ _ _ r => congrArg (· + 1) (cl_len r)
theorem eqv_self {d : PyData} (h : SeqAt.shaped d = true) : PyData.eqv d d = true := SeqAt.eqv_refl d (SeqAt.canLay_of_shaped h)
mutual
/-- a name occurs free -/
def occ : Ex → Str → Bool
  | .num _, _ => false | .flag _, _ => false | .unit, _ => false | .name y, x => decide (x = y)
  | .call f e, x => occ f x || occ e x
  | .fn y e, x => !decide (x = y) && occ e x
  | .rc h y e, x => !decide (x = h ∨ x = y) && occ e x
  | .lt y e f, x => occ e x || (!decide (x = y) && occ f x)
  | .ite e f g, x => occ e x || (occ f x || occ g x)
  | .pair e f, x => occ e x || occ f x
  | .fst e, x => occ e x | .snd e, x => occ e x
  | .op _ e f, x => occ e x || occ f x
  | .nt e, x => occ e x
  | .pr e f, x => occ e x || occ f x
  | .ask _ e, x => occ e x
  | .hd e y f cs, x => occ e x || ((!decide (x = y) && occ f x) || occC cs x)
def occC : Clz → Str → Bool
  | .nil, _ => false
  | .cons _ y k g r, x => (!decide (x = y ∨ x = k) && occ g x) || occC r x
end
theorem mem_addN {x y : Str} {ks : List Str} : x ∈ addN y ks ↔ x ∈ ks ∨ x = y := by
  unfold addN
  by_cases h : y ∈ ks
  · rw [if_pos h]
    exact ⟨.inl, fun z => z.elim id fun e => by rw [e]; exact h⟩
  · rw [if_neg h, List.mem_append, List.mem_singleton]
mutual
theorem mem_noted (x : Str) : ∀ (e : Ex) (bs ks : List Str), x ∈ noted e bs ks ↔ x ∈ ks ∨ (x ∉ bs ∧ occ e x = true)
  | .num _, bs, ks => by simp [noted, occ]
  | .flag _, bs, ks => by simp [noted, occ]
  | .unit, bs, ks => by simp [noted, occ]
  | .name y, bs, ks => by
    simp only [noted, occ, decide_eq_true_eq]
    by_cases h : y ∈ bs
    · rw [if_pos h]
      exact ⟨.inl, fun z => z.elim id fun ⟨a, b⟩ => absurd (by rw [b]; exact h) a⟩
    · rw [if_neg h, mem_addN]
      exact ⟨fun z => z.elim .inl fun e => .inr ⟨by rw [e]; exact h, e⟩, fun z => z.elim .inl fun a => .inr a.2⟩
  | .call f e, bs, ks => by
    simp only [noted, occ, mem_noted x f, mem_noted x e, Bool.or_eq_true]
    by_cases a : x ∈ ks <;> by_cases b : x ∈ bs <;> simp [a, b]
  | .fn y e, bs, ks => by
    simp only [noted, occ, mem_noted x e, Bool.and_eq_true, Bool.not_eq_true', decide_eq_false_iff_not, List.mem_append, List.mem_singleton]
    by_cases a : x ∈ ks <;> by_cases b : x ∈ bs <;> simp [a, b]
  | .rc h y e, bs, ks => by
    simp only [noted, occ, mem_noted x e, Bool.and_eq_true, Bool.not_eq_true', decide_eq_false_iff_not, List.mem_append, List.mem_cons, List.not_mem_nil, or_false]
    by_cases a : x ∈ ks <;> by_cases b : x ∈ bs <;> simp [a, b]
  | .lt y e f, bs, ks => by
    simp only [noted, occ, mem_noted x e, mem_noted x f, Bool.or_eq_true, Bool.and_eq_true, Bool.not_eq_true', decide_eq_false_iff_not, List.mem_append, List.mem_singleton]
    by_cases a : x ∈ ks <;> by_cases b : x ∈ bs <;> simp [a, b]
  | .ite e f g, bs, ks => by
    simp only [noted, occ, mem_noted x e, mem_noted x f, mem_noted x g, Bool.or_eq_true]
    by_cases a : x ∈ ks <;> by_cases b : x ∈ bs <;> simp [a, b, or_assoc]
  | .pair e f, bs, ks => by
    simp only [noted, occ, mem_noted x f, mem_noted x e, Bool.or_eq_true]
    by_cases a : x ∈ ks <;> by_cases b : x ∈ bs <;> simp [a, b]
  | .fst e, bs, ks => by simp only [noted, occ, mem_noted x e]
  | .snd e, bs, ks => by simp only [noted, occ, mem_noted x e]
  | .op _ e f, bs, ks => by
    simp only [noted, occ, mem_noted x f, mem_noted x e, Bool.or_eq_true]
    by_cases a : x ∈ ks <;> by_cases b : x ∈ bs <;> simp [a, b]
  | .nt e, bs, ks => by simp only [noted, occ, mem_noted x e]
  | .pr e f, bs, ks => by
    simp only [noted, occ, mem_noted x f, mem_noted x e, Bool.or_eq_true]
    by_cases a : x ∈ ks <;> by_cases b : x ∈ bs <;> simp [a, b]
  | .ask _ e, bs, ks => by simp only [noted, occ, mem_noted x e]
  | .hd e y f cs, bs, ks => by
    simp only [noted, occ, mem_noted x f, mem_noted x e, mem_notedC x cs, Bool.or_eq_true, Bool.and_eq_true, Bool.not_eq_true', decide_eq_false_iff_not, List.mem_append, List.mem_singleton]
    by_cases a : x ∈ ks <;> by_cases b : x ∈ bs <;> simp [a, b, or_assoc]
theorem mem_notedC (x : Str) : ∀ (c : Clz) (bs ks : List Str), x ∈ notedC c bs ks ↔ x ∈ ks ∨ (x ∉ bs ∧ occC c x = true)
  | .nil, bs, ks => by simp [notedC, occC]
  | .cons o y k g r, bs, ks => by
    simp only [notedC, occC, mem_noted x g, mem_notedC x r, Bool.or_eq_true, Bool.and_eq_true, Bool.not_eq_true', decide_eq_false_iff_not, List.mem_append, List.mem_cons, List.not_mem_nil, or_false]
    by_cases a : x ∈ ks <;> by_cases b : x ∈ bs <;> simp [a, b]
end
theorem mem_insS {x y : Str} : ∀ {l : List Str}, x ∈ insS y l ↔ x = y ∨ x ∈ l
  | [] => by simp [insS]
  | z :: r => by
    unfold insS
    split
    · rw [List.mem_cons, mem_insS (l := r), List.mem_cons]
      exact ⟨fun h => h.elim (fun a => .inr (.inl a)) fun h => h.elim .inl fun a => .inr (.inr a), fun h => h.elim (fun a => .inr (.inl a)) fun h => h.elim .inl fun a => .inr (.inr a)⟩
    · rw [List.mem_cons]
theorem mem_sortS {x : Str} : ∀ {l : List Str}, x ∈ sortS l ↔ x ∈ l
  | [] => Iff.rfl
  | z :: r => by
    show x ∈ insS z (sortS r) ↔ _
    rw [mem_insS, mem_sortS (l := r), List.mem_cons]
theorem occ_fv (e : Ex) (x : Str) : decide (x ∈ fv e) = occ e x := by
  have h : x ∈ fv e ↔ occ e x = true := by
    unfold fv
    rw [mem_sortS, mem_noted x e]
    simp
  by_cases c : occ e x = true
  · rw [c]; exact decide_eq_true (h.mpr c)
  · rw [Bool.not_eq_true] at c
    rw [c]
    exact decide_eq_false fun z => by rw [h, c] at z; cases z
mutual
/-- a bound of the depth of the data -/
def ddE : Ex → Nat
  | .num _ => 1 | .flag _ => 1 | .unit => 1 | .name _ => 1
  | .call f e => max (ddE f) (ddE e) + 1 | .fn _ e => ddE e + 1 | .rc _ _ e => ddE e + 1 | .lt _ e f => max (ddE e) (ddE f) + 1 | .ite e f g => max (ddE e) (max (ddE f) (ddE g)) + 1
  | .pair e f => max (ddE e) (ddE f) + 1 | .fst e => ddE e + 1 | .snd e => ddE e + 1 | .op _ e f => max (ddE e) (ddE f) + 1 | .nt e => ddE e + 1 | .pr e f => max (ddE e) (ddE f) + 1 | .ask _ e => ddE e + 1
  | .hd e _ f cs => max (ddE e) (max (ddE f + 1) (ddC cs + 1)) + 1
def ddC : Clz → Nat
  | .nil => 0
  | .cons _ _ _ g r => max (ddE g + 1) (ddC r)
end
theorem mxm {a b c d : Nat} (x : a ≤ c) (y : b ≤ d) : Nat.max a b ≤ max c d := Nat.max_le.mpr ⟨Nat.le_trans x (Nat.le_max_left _ _), Nat.le_trans y (Nat.le_max_right _ _)⟩
mutual
theorem dd_ex : ∀ e : Ex, exD e ≤ ddE e
  | .num _ => Nat.le_refl _ | .flag _ => Nat.le_refl _ | .unit => Nat.le_refl _ | .name _ => Nat.le_refl _
  | .call f e => Nat.succ_le_succ (mxm (dd_ex f) (dd_ex e))
  | .fn _ e => Nat.succ_le_succ (dd_ex e) | .rc _ _ e => Nat.succ_le_succ (dd_ex e)
  | .lt _ f e => Nat.succ_le_succ (mxm (dd_ex f) (dd_ex e))
  | .ite e f g => Nat.succ_le_succ (mxm (dd_ex e) (mxm (dd_ex f) (dd_ex g)))
  | .pair f e => Nat.succ_le_succ (mxm (dd_ex f) (dd_ex e))
  | .fst e => Nat.succ_le_succ (dd_ex e) | .snd e => Nat.succ_le_succ (dd_ex e)
  | .op _ f e => Nat.succ_le_succ (mxm (dd_ex f) (dd_ex e))
  | .nt e => Nat.succ_le_succ (dd_ex e)
  | .pr f e => Nat.succ_le_succ (mxm (dd_ex f) (dd_ex e))
  | .ask _ e => Nat.succ_le_succ (dd_ex e)
  | .hd e _ f cs => Nat.succ_le_succ (mxm (dd_ex e) (mxm (Nat.le_succ_of_le (dd_ex f)) (Nat.le_succ_of_le (dd_cl cs))))
theorem dd_cl : ∀ c : Clz, clD c ≤ ddC c
  | .nil => Nat.le_refl _
  | .cons _ _ _ g r => mxm (Nat.le_succ_of_le (dd_ex g)) (dd_cl r)
end
def dpD (d : D) : Nat := d.py.depth
theorem dp_tup {l : List D} : (D.tup l).py.depth = PyData.depthAll (pys l) + 1 := by show (PyData.tuple _).depth = _; rw [PyData.depth]
theorem dp_str {s : Str} : (D.str s).py.depth = 0 := by show (PyData.str s).depth = _; rw [PyData.depth]
theorem dp_int {s : Int} : (D.int s).py.depth = 0 := by show (PyData.int s).depth = _; rw [PyData.depth]
theorem dp_bl {s : Bool} : (D.bl s).py.depth = 0 := by show (PyData.bool s).depth = _; rw [PyData.depth]
theorem dpa_nil : PyData.depthAll (pys []) = 0 := by show PyData.depthAll [] = 0; rw [PyData.depthAll]
theorem dpa_cons {d : D} {l : List D} : PyData.depthAll (pys (d :: l)) = max d.py.depth (PyData.depthAll (pys l)) := by show PyData.depthAll (_ :: _) = _; rw [PyData.depthAll]
mutual
theorem dd_py : ∀ e : Ex, (e.d false).py.depth ≤ ddE e
  | .num _ => by simp only [Ex.d, dp_tup, dpa_cons, dpa_nil, dp_str, dp_int, ddE]; omega
  | .flag _ => by simp only [Ex.d, dp_tup, dpa_cons, dpa_nil, dp_str, dp_bl, ddE]; omega
  | .unit => by simp only [Ex.d, dp_tup, dpa_cons, dpa_nil, dp_str, ddE]; omega
  | .name _ => by simp only [Ex.d, dp_tup, dpa_cons, dpa_nil, dp_str, ddE]; omega
  | .call f e => by have := dd_py f; have := dd_py e; simp only [Ex.d, dp_tup, dpa_cons, dpa_nil, dp_str, ddE]; omega
  | .fn _ e => by have := dd_py e; simp only [Ex.d, dp_tup, dpa_cons, dpa_nil, dp_str, ddE, Bool.false_eq_true, if_false]; omega
  | .rc _ _ e => by have := dd_py e; simp only [Ex.d, dp_tup, dpa_cons, dpa_nil, dp_str, ddE, Bool.false_eq_true, if_false]; omega
  | .lt _ f e => by have := dd_py f; have := dd_py e; simp only [Ex.d, dp_tup, dpa_cons, dpa_nil, dp_str, ddE]; omega
  | .ite e f g => by have := dd_py f; have := dd_py e; have := dd_py g; simp only [Ex.d, dp_tup, dpa_cons, dpa_nil, dp_str, ddE]; omega
  | .pair f e => by have := dd_py f; have := dd_py e; simp only [Ex.d, dp_tup, dpa_cons, dpa_nil, dp_str, ddE]; omega
  | .fst e => by have := dd_py e; simp only [Ex.d, dp_tup, dpa_cons, dpa_nil, dp_str, ddE]; omega
  | .snd e => by have := dd_py e; simp only [Ex.d, dp_tup, dpa_cons, dpa_nil, dp_str, ddE]; omega
  | .op _ f e => by have := dd_py f; have := dd_py e; simp only [Ex.d, dp_tup, dpa_cons, dpa_nil, dp_str, ddE]; omega
  | .nt e => by have := dd_py e; simp only [Ex.d, dp_tup, dpa_cons, dpa_nil, dp_str, ddE]; omega
  | .pr f e => by have := dd_py f; have := dd_py e; simp only [Ex.d, dp_tup, dpa_cons, dpa_nil, dp_str, ddE]; omega
  | .ask _ e => by have := dd_py e; simp only [Ex.d, dp_tup, dpa_cons, dpa_nil, dp_str, ddE]; omega
  | .hd e _ f cs => by have := dd_py f; have := dd_py e; have := dd_pyC cs; simp only [Ex.d, dp_tup, dpa_cons, dpa_nil, dp_str, ddE]; omega
theorem dd_pyC : ∀ c : Clz, PyData.depthAll (pys (c.d false)) ≤ ddC c
  | .nil => by simp only [Clz.d, dpa_nil, ddC]; omega
  | .cons _ _ _ g r => by have := dd_py g; have := dd_pyC r; simp only [Clz.d, dp_tup, dpa_cons, dpa_nil, dp_str, ddC]; omega
end
theorem and2 {a b : Bool} (q : (a && b) = true) : a = true ∧ b = true := by rw [Bool.and_eq_true] at q; exact q
theorem and2i {a b : Bool} (x : a = true) (y : b = true) : (a && b) = true := by rw [x, y]; rfl
theorem ddC_gs : ∀ {c : Clz} {g : Ex}, g ∈ c.gs → ddE g ≤ ddC c
  | .nil, g, h => by cases h
  | .cons _ _ _ g r, g', h => by
    show ddE g' ≤ max (ddE g + 1) (ddC r)
    rcases List.mem_cons.mp h with e | h
    · rw [e]; exact Nat.le_trans (Nat.le_succ _) (Nat.le_max_left _ _)
    · exact Nat.le_trans (ddC_gs h) (Nat.le_max_right _ _)
theorem dd_part {e g : Ex} (hg : g ∈ exParts e) : ddE g ≤ ddE e := by
  cases e with
  | hd e x f cs =>
    show ddE g ≤ max (ddE e) (max (ddE f + 1) (ddC cs + 1)) + 1
    rcases List.mem_cons.mp hg with q | hg
    · rw [q]; omega
    rcases List.mem_cons.mp hg with q | hg
    · rw [q]; omega
    · have := ddC_gs hg; omega
  | ite a b c =>
    show ddE g ≤ max (ddE a) (max (ddE b) (ddE c)) + 1
    simp only [exParts, List.mem_cons, List.not_mem_nil, or_false] at hg
    rcases hg with q | q | q <;> rw [q] <;> omega
  | num _ => cases hg
  | flag _ => cases hg
  | unit => cases hg
  | name _ => cases hg
  | _ =>
    simp only [exParts, List.mem_cons, List.not_mem_nil, or_false] at hg
    first
      | (rcases hg with q | q <;> rw [q] <;> simp only [ddE, Nat.max_def] <;> split <;> omega)
      | (rw [hg]; exact Nat.le_succ _)
theorem dd_pre : ∀ (n : Nat) {e g : Ex}, exD e ≤ n → g ∈ pre e → ddE g ≤ ddE e
  | 0, e, g, h, _ => absurd h (by have := ex_pos e; omega)
  | n + 1, e, g, h, hg => by
    rw [pre_flat e] at hg
    rcases List.mem_cons.mp hg with q | hg
    · rw [q]; exact Nat.le_refl _
    · obtain ⟨p, hp, hm⟩ := List.mem_flatMap.mp hg
      exact Nat.le_trans (dd_pre n (by have := (part_mem hp).1; omega) hm) (dd_part hp)
theorem nd_len {α : Type} [DecidableEq α] : ∀ {l m : List α}, l.Nodup → (∀ x ∈ l, x ∈ m) → l.length ≤ m.length
  | [], _, _, _ => Nat.zero_le _
  | x :: l, m, h, s => by
    obtain ⟨h1, h2⟩ := List.nodup_cons.mp h
    have hx := s x List.mem_cons_self
    have ih := nd_len (l := l) (m := m.erase x) h2 fun y hy => by
      have : y ≠ x := fun e => h1 (e ▸ hy)
      exact (List.mem_erase_of_ne this).mpr (s y (List.mem_cons_of_mem _ hy))
    rw [List.length_erase_of_mem hx] at ih
    have := List.length_pos_of_mem hx
    rw [List.length_cons]
    omega
theorem ly_tup {l : List D} : (D.tup l).py.canLay0 = PyData.canLayAll0 (pys l) := by show (PyData.tuple _).canLay0 = _; rw [PyData.canLay0]
theorem lya_nil : PyData.canLayAll0 (pys []) = true := by show PyData.canLayAll0 [] = _; rw [PyData.canLayAll0]
theorem lya_cons {d : D} {l : List D} : PyData.canLayAll0 (pys (d :: l)) = (d.py.canLay0 && PyData.canLayAll0 (pys l)) := by show PyData.canLayAll0 (_ :: _) = _; rw [PyData.canLayAll0]
theorem ly_int {s : Int} : (D.int s).py.canLay0 = true := by show (PyData.int s).canLay0 = _; rw [PyData.canLay0]
theorem ly_bl {s : Bool} : (D.bl s).py.canLay0 = true := by show (PyData.bool s).canLay0 = _; rw [PyData.canLay0]
theorem ly_str {s : Str} (h : (PyData.str s).canLay0 = true) : (D.str s).py.canLay0 = true := h
theorem tg {s : Str} (h : (PyData.str s).canLay0 = true := by decide +kernel) : (D.str s).py.canLay0 = true := h
def Clz.snoc : Clz → Str → Str → Str → Ex → Clz
  | .nil, o, x, k, g => .cons o x k g .nil
  | .cons o x k g r, o', x', k', g' => .cons o x k g (r.snoc o' x' k' g')
theorem snoc_d : ∀ (c : Clz) (o x k : Str) (g : Ex), (c.snoc o x k g).d false = c.d false ++ [D.tup [.str o, .str x, .str k, g.d false]]
  | .nil, _, _, _, _ => rfl
  | .cons o x k g r, o', x', k', g' => by
    show _ :: (r.snoc o' x' k' g').d false = _
    rw [snoc_d r]
    rfl
theorem snoc_len : ∀ (c : Clz) (o x k : Str) (g : Ex), (c.snoc o x k g).len = c.len + 1
  | .nil, _, _, _, _ => rfl
  | .cons o x k g r, o', x', k', g' => congrArg (· + 1) (snoc_len r o' x' k' g')
end Bz


set_option Elab.async false
set_option linter.all false
set_option maxRecDepth 100000
set_option maxHeartbeats 4000000
namespace Bz
open PySem PySem.Spec L2 PyProof.Rows
/-! ### a def that is run where the law's caller stands -/
theorem def_at {CX : CXT} {P : Program} {w : World} {K : PySem.W.Frag} {mg : Str → Option Value} {base : Heap} {k : Nat} {f : Addr} {nm ql : Str} {pars : Arguments} {bd : List Stmt} {sc : Scope} {v1 v2 v3 v4 v5 v6 v7 : Value} {an od : Option Addr}
    {sl : Array (Option Value)} {N ps : List Str} {A : Around} {out : List PySem.Env} {t0 : Shared} {H : Hp} {ag : Args} {us : List Value} {vs : List V} {Q : VK} {E : XK} (look : K.lookup f = some ⟨v7, od, .func (PySem.W.fnOf nm ql pars bd sc v1 v2 v3 v4 an v5 v6), sl⟩) (code : PySem.W.codeIn K v5 ql = true) (S : FnScope N ps sc)
    (room : Room (k + 1) A) (en : Env0 P w K mg base A out t0 H) (bind : BindsTo t0 (PySem.W.fnOf nm ql pars bd sc v1 v2 v3 v4 an v5 v6) ag (ps.zip us)) (rel : Vals vs us) (len : vs.length = ps.length)
    (body : ∃ t, PSs (cxOf CX P w K mg base N ql sc f v5 A out t0 H E) bd t ∧ t { nx := fun _ H' => Q .non H', rt := Q } (start N vs) H) :
    codeAny (model P w) A (.call (.ref f) ag) (CR CX out P w H t0 Q E) t0 := by
  have inK : K.In t0.heap := en.mod.kin.keeps fun p u z => (en.bs p u z).1
  have kinds : ∀ z ∈ ps.zip us, sc.names.lookup z.1 = some .local ∨ (sc.names.lookup z.1 = some .cell ∧ ((cellsFrom (t0.heap.objs.size + 1) sc.names []).lookup z.1).isSome = true) := by
    rintro ⟨n, v⟩ hz
    exact (S.par n (List.of_mem_zip hz).1).elim Or.inl fun q => Or.inr ⟨q, PySem.W.cellsFrom_some _ _ _ (Or.inl q)⟩
  refine codeAny_call_function room.depth (inK _ _ look) rfl S.co S.gen rfl (PySem.W.codeRec_of inK code) (bind _ _ _ _ ?_)
  refine wpAny_newFunctionEnv_cells S.kind kinds fun ev evq t1 inc => ?_
  cases evq
  refine ⟨(en.mod.nolimit.keeps fun p u z => (en.bs p u z).1).keeps inc.toInCall.keep, codeAny_func ?_⟩
  obtain ⟨t, pt, run⟩ := body
  have I0 := inv_start (CX := CX) (E := E) (cd := v5) S room.hd en len rel inc
  refine wpAny_mono (pt.run [] t1 (start N vs) H _ I0 run) (fun fl t2 z => ?_) fun e t2 z => z
  cases fl with
  | ret u => exact let ⟨v, σ', H', J, rv, q⟩ := z; ⟨v, H', J.os, J.bare, J.base, J.hok, rv, q⟩
  | next => exact let ⟨σ', H', J, q⟩ := z; ⟨V.non, H', J.os, J.bare, J.base, J.hok, rfl, q⟩
  | brk => exact let ⟨_, _, _, q⟩ := z; False.elim q
  | cont => exact let ⟨_, _, _, q⟩ := z; False.elim q
/-- the law's call, from what its def does at the caller's own place, over a tracked script or over a written one -/
theorem caller_end {P : Program} {w : World} {K : PySem.W.Frag} {mg mb : Str → Option Value} {fa a : Addr} {t1 : Shared} {us : List Value} {ns : List Int} (inK : K.In t1.heap) (gns : t1.heap.Ns mainGlobals mg) (bns : t1.heap.Ns builtinsNs mb)
    (bbi : ∀ x : Str, x ≠ "__name__" → mb x = bootBuiltins x) (nol : t1.heap.NoLimit) (gens : t1.gens = #[]) (scr : t1.heap.get? a = some { cls := .type "list", data := .seq us.toArray }) (inz : IntsAre us ns) (small : ns.length ≤ sizeLine)
    (go : ∀ (base : Heap) (H : Hp), K.In base → base.Ns mainGlobals mg → Env0 P w K mg base callerA [] t1 H → SqL K H a (ns.map V.int) → codeAny (model P w) callerA (.call (.ref fa) ⟨[.ref a], []⟩) (CR CX0 [] P w H t1 (fun v _ => v = .bl true) (fun _ _ _ => False)) t1) :
    codeAny (model P w) callerA (.call (.ref fa) ⟨[.ref a], []⟩) (fun r t2 => r = .ok (.ret (.bool true)) ∧ OldK t1.heap t2.heap ∧ t2.os = t1.os ∧ AllBare t2.gens) t1 := by
  -- what is told once the tracked heap is chosen
  have told : ∀ H : Hp, Only H → SqL K H a (ns.map V.int) → HOk P w H t1.heap → (∀ p, H p ≠ none → p = a ∧ K.lookup a = none) →
      codeAny (model P w) callerA (.call (.ref fa) ⟨[.ref a], []⟩) (fun r t2 => r = .ok (.ret (.bool true)) ∧ OldK t1.heap t2.heap ∧ t2.os = t1.os ∧ AllBare t2.gens) t1 := by
    intro H only sq good one
    have free : ∀ {p : Addr} {u : Obj}, t1.heap.get? p = some u → (p = a → K.lookup a ≠ none ∨ u.data ≠ .seq us.toArray) → H p = none := fun {p u} e n => by
      cases z : H p with
      | none => rfl
      | some y =>
        obtain ⟨e1, e2⟩ := one p (by rw [z]; exact fun q => by cases q)
        rcases n e1 with q | q
        · exact absurd e2 q
        · rw [e1, scr] at e; cases e; exact absurd rfl q
    have space : ∀ {p : Addr} {m : Str → Option Value}, t1.heap.Ns p m → (hidT t1.heap H).Ns p m := by
      rintro p m ⟨u, es, ep, e, hd, r⟩
      refine ⟨u, es, ep, hidT_get e (free e fun _ => .inr fun q => ?_), hd, r⟩
      rw [hd] at q; cases q
    have kept : K.In (hidT t1.heap H) := fun p u e => hidT_get (inK p u e) (by
      cases z : H p with
      | none => rfl
      | some y =>
        obtain ⟨e1, e2⟩ := one p (by rw [z]; exact fun q => by cases q)
        rw [e1, e2] at e; cases e)
    obtain ⟨mc, l1, l2⟩ := nol
    have en : Env0 P w K mg (hidT t1.heap H) callerA [] t1 H := { frames := rfl, mod := ⟨kept, space gns, ⟨mb, space bns, bbi⟩, ⟨mc, space l1, l2⟩⟩, bs := fun p u e => of_hidT e, bsz := Nat.le_of_eq (hidT_size _ _), funs := trivial, frf := (fun p hp => by cases (show p ∈ ([] : List Addr) from hp)), hok := good, bare := .of_eq gens }
    refine codeAny_mono (go _ H kept (space gns) en sq) fun r t2 z => ?_
    match r, z with
    | .ok (.ret u), z =>
      obtain ⟨v, H2, osq, bare, un, good2, rv, rfl⟩ := z
      cases (show u = Value.bool true from rv)
      refine ⟨rfl, OldK.of_keep fun p u e => ?_, osq, bare⟩
      cases q : H p with
      | none => exact un.keep p u e q (fun n => by cases (show p ∈ ([] : List Addr) from n)) (fun n => by cases n)
      | some y =>
        obtain ⟨ob, xs, z⟩ := (only p).resolve_left (by rw [q]; exact fun n => by cases n)
        have h1 := (good p _ z).1
        have h2 := (good2 p _ (un.frzs p ob _ z)).1
        rw [e] at h1; cases h1
        exact h2
    | .ok .next, z => exact False.elim z
    | .ok .brk, z => exact False.elim z
    | .ok .cont, z => exact False.elim z
    | .error e, z => exact False.elim z
  have ln := inz.length
  cases lk : K.lookup a with
  | some u =>
    have e := inK a u lk
    rw [scr] at e; cases e
    refine told (fun _ => none) (fun p => Or.inl rfl) (Or.inr ⟨_, us.toArray, _, lk, rfl, rfl, rfl, ?_, ?_⟩) (fun p y z => by cases (show (none : Option HO) = some y from z)) fun p n => absurd rfl n
    · rw [List.size_toArray, ln]; exact small
    · simpa using vals_ints inz
  | none =>
    let ob : Obj := { cls := .type "list", data := .seq us.toArray }
    refine told (fun p => if p = a then some (.frz ob (.lst (ns.map V.int))) else none) (fun p => ?_) (Or.inl (Or.inr ⟨ob, if_pos rfl⟩)) (fun p y z => ?_) fun p n => ?_
    · by_cases q : p = a
      · exact Or.inr ⟨_, _, if_pos q⟩
      · exact Or.inl (if_neg q)
    · by_cases q : p = a
      · subst q
        cases (if_pos rfl).symm.trans z
        exact ⟨scr, by rw [List.length_map]; exact small, us, _, vals_ints inz, scr⟩
      · cases (if_neg q).symm.trans z
    · by_cases q : p = a
      · exact ⟨q, lk⟩
      · exact absurd (if_neg q) n
end Bz
namespace Bz
open PySem PySem.Spec L2 PyProof.Rows
/-- repr of made data, where no repr is at work -/
def rReprD (K : PySem.W.Frag) : List V → Hp → VK → Prop := fun xs H Q => ∃ (a : Addr) (d : PyData), xs = [.ref a] ∧ Dp K H (.ref a) d ∧ SeqAt.shaped d = true ∧ d.showable = true ∧ d.shown.length ≤ sizeLine ∧ Q (.str d.shown) H
theorem call_reprD {X : Cx} (hg : X.A.guards = some []) (hu : X.A.units + 70 < cLine) : CallR X (.builtin "repr") (rReprD X.K) := by
  intro pins s σ H xs us Q I r h
  obtain ⟨a, d, rfl, hd, sh, so, sz, q⟩ := h
  obtain ⟨u, rfl, r1⟩ := vals1 r
  cases r1
  obtain ⟨as, rd⟩ := Dp.reads I d _ _ hd rfl
  have dp := SeqAt.depth_of_shaped sh
  refine repr_of_reads' rd so (PyData.noDict_hsm (PyData.hasDict_of_canLay d (SeqAt.canLay_of_shaped sh))) hg (by omega) (fun _ _ e => e) (fun h' u tk hk => ?_) sz
  exact ⟨.str d.shown, H, I.kept hk, ⟨_, rfl⟩, q⟩
end Bz


set_option Elab.async false
set_option linter.all false
set_option maxRecDepth 100000
set_option maxHeartbeats 4000000
namespace Bz
open PySem PySem.Spec L2 PyProof.Rows
/-! ### the names, the numbers and the forms that are drawn -/
def allN : List Str := ("x" : Str) :: ("y" : Str) :: ("k" : Str) :: ("z" : Str) :: []
def opN : List Str := ("+" : Str) :: ("-" : Str) :: ("*" : Str) :: ("<" : Str) :: ("==" : Str) :: []
def okNm (x : Str) : Bool := decide (x ∈ allN)
def okOp (x : Str) : Bool := decide (x ∈ opN)
theorem allN_lay : (allN.all fun x => (PyData.str x).canLay0) = true := by decide +kernel
theorem opN_lay : (opN.all fun x => (PyData.str x).canLay0) = true := by decide +kernel
theorem okNm_lay {x : Str} (h : okNm x = true) : (PyData.str x).canLay0 = true := List.all_eq_true.mp allN_lay x (of_decide_eq_true h)
theorem okOp_lay {x : Str} (h : okOp x = true) : (PyData.str x).canLay0 = true := List.all_eq_true.mp opN_lay x (of_decide_eq_true h)
theorem okNm_w {x : Str} (h : okNm x = true) : x.cps.size ≤ 6 := by
  have : (allN.all fun x => decide (x.cps.size ≤ 6)) = true := by decide +kernel
  exact of_decide_eq_true (List.all_eq_true.mp this x (of_decide_eq_true h))
theorem okOp_w {x : Str} (h : okOp x = true) : x.cps.size ≤ 6 := by
  have : (opN.all fun x => decide (x.cps.size ≤ 6)) = true := by decide +kernel
  exact of_decide_eq_true (List.all_eq_true.mp this x (of_decide_eq_true h))
def okI (n : Int) : Bool := decide (0 ≤ n ∧ n < 2147483648)
mutual
def gdE : Ex → Bool
  | .num n => okI n | .flag _ => true | .unit => true | .name x => okNm x
  | .call f e => gdE f && gdE e | .fn x e => okNm x && gdE e | .rc h x e => okNm h && (okNm x && gdE e) | .lt x e f => okNm x && (gdE e && gdE f) | .ite e f g => gdE e && (gdE f && gdE g)
  | .pair e f => gdE e && gdE f | .fst e => gdE e | .snd e => gdE e | .op s e f => okOp s && (gdE e && gdE f) | .nt e => gdE e | .pr e f => gdE e && gdE f | .ask s e => okNm s && gdE e
  | .hd e x f cs => decide (cs.len ≤ 3) && (okNm x && (gdE e && (gdE f && gdC cs)))
def gdC : Clz → Bool
  | .nil => true
  | .cons o x k g r => okNm o && (okNm x && (okNm k && (gdE g && gdC r)))
end
mutual
theorem gd_sm : ∀ e : Ex, gdE e = true → smE e = true
  | .num _, _ => rfl | .flag _, _ => rfl | .unit, _ => rfl | .name _, _ => rfl
  | .call f e, h => and2i (gd_sm f (and2 h).1) (gd_sm e (and2 h).2)
  | .fn _ e, h => gd_sm e (and2 h).2 | .rc _ _ e, h => gd_sm e (and2 (and2 h).2).2
  | .lt _ f e, h => and2i (gd_sm f (and2 (and2 h).2).1) (gd_sm e (and2 (and2 h).2).2)
  | .ite e f g, h => and2i (gd_sm e (and2 h).1) (and2i (gd_sm f (and2 (and2 h).2).1) (gd_sm g (and2 (and2 h).2).2))
  | .pair f e, h => and2i (gd_sm f (and2 h).1) (gd_sm e (and2 h).2)
  | .fst e, h => gd_sm e h | .snd e, h => gd_sm e h
  | .op _ f e, h => and2i (gd_sm f (and2 (and2 h).2).1) (gd_sm e (and2 (and2 h).2).2)
  | .nt e, h => gd_sm e h
  | .pr f e, h => and2i (gd_sm f (and2 h).1) (gd_sm e (and2 h).2)
  | .ask _ e, h => gd_sm e (and2 h).2
  | .hd e _ f cs, h => and2i (decide_eq_true (Nat.le_trans (of_decide_eq_true (and2 h).1) (by decide))) (and2i (gd_sm e (and2 (and2 (and2 h).2).2).1) (and2i (gd_sm f (and2 (and2 (and2 (and2 h).2).2).2).1) (gd_smC cs (and2 (and2 (and2 (and2 h).2).2).2).2)))
theorem gd_smC : ∀ c : Clz, gdC c = true → smC c = true
  | .nil, _ => rfl
  | .cons _ _ _ g r, h => and2i (gd_sm g (and2 (and2 (and2 (and2 h).2).2).2).1) (gd_smC r (and2 (and2 (and2 (and2 h).2).2).2).2)
end
theorem gdC_gs : ∀ {c : Clz} {g : Ex}, gdC c = true → g ∈ c.gs → gdE g = true
  | .nil, g, _, h => by cases h
  | .cons _ _ _ g r, g', h, hm => by
    rcases List.mem_cons.mp hm with e | hm
    · rw [e]; exact (and2 (and2 (and2 (and2 h).2).2).2).1
    · exact gdC_gs (and2 (and2 (and2 (and2 h).2).2).2).2 hm
theorem gd_part {e g : Ex} (h : gdE e = true) (hg : g ∈ exParts e) : gdE g = true := by
  have two : ∀ {a b g : Ex}, (gdE a && gdE b) = true → g ∈ [a, b] → gdE g = true := fun {a b g} h hg => by
    rcases List.mem_cons.mp hg with q | hg
    · rw [q]; exact (and2 h).1
    · rw [List.mem_singleton.mp hg]; exact (and2 h).2
  cases e with
  | num _ => cases hg
  | flag _ => cases hg
  | unit => cases hg
  | name _ => cases hg
  | call f e => exact two h hg
  | fn x e => rw [List.mem_singleton.mp hg]; exact (and2 h).2
  | rc y x e => rw [List.mem_singleton.mp hg]; exact (and2 (and2 h).2).2
  | lt x f e => exact two (and2 h).2 hg
  | ite a b c =>
    rcases List.mem_cons.mp hg with q | hg
    · rw [q]; exact (and2 h).1
    · exact two (and2 h).2 hg
  | pair f e => exact two h hg
  | fst e => rw [List.mem_singleton.mp hg]; exact h
  | snd e => rw [List.mem_singleton.mp hg]; exact h
  | op s f e => exact two (and2 h).2 hg
  | nt e => rw [List.mem_singleton.mp hg]; exact h
  | pr f e => exact two h hg
  | ask s e => rw [List.mem_singleton.mp hg]; exact (and2 h).2
  | hd e x f cs =>
    have h := (and2 (and2 h).2).2
    rcases List.mem_cons.mp hg with q | hg
    · rw [q]; exact (and2 h).1
    rcases List.mem_cons.mp hg with q | hg
    · rw [q]; exact (and2 (and2 h).2).1
    · exact gdC_gs (and2 (and2 h).2).2 hg
theorem or2 {a b : Bool} (o : (a || b) = true) : a = true ∨ b = true := by rw [Bool.or_eq_true] at o; exact o
mutual
theorem gd_occ (x : Str) : ∀ e : Ex, gdE e = true → occ e x = true → okNm x = true
  | .num _, _, o => by cases o
  | .flag _, _, o => by cases o
  | .unit, _, o => by cases o
  | .name y, h, o => by rw [of_decide_eq_true o]; exact h
  | .call f e, h, o => (or2 o).elim (gd_occ x f (and2 h).1) (gd_occ x e (and2 h).2)
  | .fn _ e, h, o => gd_occ x e (and2 h).2 (and2 o).2
  | .rc _ _ e, h, o => gd_occ x e (and2 (and2 h).2).2 (and2 o).2
  | .lt _ f e, h, o => (or2 o).elim (gd_occ x f (and2 (and2 h).2).1) fun o => gd_occ x e (and2 (and2 h).2).2 (and2 o).2
  | .ite a b c, h, o => (or2 o).elim (gd_occ x a (and2 h).1) fun o => (or2 o).elim (gd_occ x b (and2 (and2 h).2).1) (gd_occ x c (and2 (and2 h).2).2)
  | .pair f e, h, o => (or2 o).elim (gd_occ x f (and2 h).1) (gd_occ x e (and2 h).2)
  | .fst e, h, o => gd_occ x e h o
  | .snd e, h, o => gd_occ x e h o
  | .op _ f e, h, o => (or2 o).elim (gd_occ x f (and2 (and2 h).2).1) (gd_occ x e (and2 (and2 h).2).2)
  | .nt e, h, o => gd_occ x e h o
  | .pr f e, h, o => (or2 o).elim (gd_occ x f (and2 h).1) (gd_occ x e (and2 h).2)
  | .ask _ e, h, o => gd_occ x e (and2 h).2 o
  | .hd e _ f cs, h, o => by
    have h := (and2 (and2 h).2).2
    exact (or2 o).elim (gd_occ x e (and2 h).1) fun o => (or2 o).elim (fun o => gd_occ x f (and2 (and2 h).2).1 (and2 o).2) (gd_occC x cs (and2 (and2 h).2).2)
theorem gd_occC (x : Str) : ∀ c : Clz, gdC c = true → occC c x = true → okNm x = true
  | .nil, _, o => by cases o
  | .cons _ _ _ g r, h, o => by
    have h := (and2 (and2 (and2 h).2).2).2
    exact (or2 o).elim (fun o => gd_occ x g (and2 h).1 (and2 o).2) (gd_occC x r (and2 h).2)
end
theorem gd_few {e : Ex} (h : gdE e = true) {l : List Str} (nd : l.Nodup) (m : ∀ x ∈ l, occ e x = true) : l.length ≤ 4 :=
  nd_len nd (m := allN) fun x hx => of_decide_eq_true (gd_occ x e h (m x hx))
mutual
theorem gd_lay : ∀ e : Ex, gdE e = true → (e.d false).py.canLay0 = true
  | .num _, _ => by simp only [Ex.d, ly_tup, lya_cons, lya_nil, tg (s := "num"), ly_int, Bool.and_true]
  | .flag _, _ => by simp only [Ex.d, ly_tup, lya_cons, lya_nil, tg (s := "flag"), ly_bl, Bool.and_true]
  | .unit, _ => by simp only [Ex.d, ly_tup, lya_cons, lya_nil, tg (s := "unit"), Bool.and_true]
  | .name _, h => by simp only [Ex.d, ly_tup, lya_cons, lya_nil, tg (s := "name"), ly_str (okNm_lay h), Bool.and_true]
  | .call f e, h => by simp only [Ex.d, ly_tup, lya_cons, lya_nil, tg (s := "call"), gd_lay f (and2 h).1, gd_lay e (and2 h).2, Bool.and_true]
  | .fn _ e, h => by simp only [Ex.d, ly_tup, lya_cons, lya_nil, tg (s := "fun"), ly_str (okNm_lay (and2 h).1), gd_lay e (and2 h).2, Bool.and_true, Bool.false_eq_true, if_false]
  | .rc _ _ e, h => by simp only [Ex.d, ly_tup, lya_cons, lya_nil, tg (s := "rec"), ly_str (okNm_lay (and2 h).1), ly_str (okNm_lay (and2 (and2 h).2).1), gd_lay e (and2 (and2 h).2).2, Bool.and_true, Bool.false_eq_true, if_false]
  | .lt _ f e, h => by simp only [Ex.d, ly_tup, lya_cons, lya_nil, tg (s := "let"), ly_str (okNm_lay (and2 h).1), gd_lay f (and2 (and2 h).2).1, gd_lay e (and2 (and2 h).2).2, Bool.and_true]
  | .ite a b c, h => by simp only [Ex.d, ly_tup, lya_cons, lya_nil, tg (s := "if"), gd_lay a (and2 h).1, gd_lay b (and2 (and2 h).2).1, gd_lay c (and2 (and2 h).2).2, Bool.and_true]
  | .pair f e, h => by simp only [Ex.d, ly_tup, lya_cons, lya_nil, tg (s := "pair"), gd_lay f (and2 h).1, gd_lay e (and2 h).2, Bool.and_true]
  | .fst e, h => by simp only [Ex.d, ly_tup, lya_cons, lya_nil, tg (s := "fst"), gd_lay e h, Bool.and_true]
  | .snd e, h => by simp only [Ex.d, ly_tup, lya_cons, lya_nil, tg (s := "snd"), gd_lay e h, Bool.and_true]
  | .op _ f e, h => by simp only [Ex.d, ly_tup, lya_cons, lya_nil, tg (s := "op"), ly_str (okOp_lay (and2 h).1), gd_lay f (and2 (and2 h).2).1, gd_lay e (and2 (and2 h).2).2, Bool.and_true]
  | .nt e, h => by simp only [Ex.d, ly_tup, lya_cons, lya_nil, tg (s := "not"), gd_lay e h, Bool.and_true]
  | .pr f e, h => by simp only [Ex.d, ly_tup, lya_cons, lya_nil, tg (s := "print"), gd_lay f (and2 h).1, gd_lay e (and2 h).2, Bool.and_true]
  | .ask _ e, h => by simp only [Ex.d, ly_tup, lya_cons, lya_nil, tg (s := "ask"), ly_str (okNm_lay (and2 h).1), gd_lay e (and2 h).2, Bool.and_true]
  | .hd e _ f cs, h => by
    have h := (and2 h).2
    simp only [Ex.d, ly_tup, lya_cons, lya_nil, tg (s := "handle"), ly_str (okNm_lay (and2 h).1), gd_lay e (and2 (and2 h).2).1, gd_lay f (and2 (and2 (and2 h).2).2).1, gd_layC cs (and2 (and2 (and2 h).2).2).2, Bool.and_true]
theorem gd_layC : ∀ c : Clz, gdC c = true → PyData.canLayAll0 (pys (c.d false)) = true
  | .nil, _ => by simp only [Clz.d, lya_nil]
  | .cons _ _ _ g r, h => by
    simp only [Clz.d, ly_tup, lya_cons, lya_nil, ly_str (okNm_lay (and2 h).1), ly_str (okNm_lay (and2 (and2 h).2).1), ly_str (okNm_lay (and2 (and2 (and2 h).2).2).1), gd_lay g (and2 (and2 (and2 (and2 h).2).2).2).1, gd_layC r (and2 (and2 (and2 (and2 h).2).2).2).2, Bool.and_true]
end
/-! ### other parts, and what is put in for a name -/
def Clz.setGs : Clz → List Ex → Clz
  | .nil, _ => .nil
  | .cons o x k g r, [] => .cons o x k g (r.setGs [])
  | .cons o x k _ r, h :: l => .cons o x k h (r.setGs l)
def withE : Ex → List Ex → Ex
  | .call _ _, [a, b] => .call a b
  | .fn x _, [a] => .fn x a
  | .rc h x _, [a] => .rc h x a
  | .lt x _ _, [a, b] => .lt x a b
  | .ite _ _ _, [a, b, c] => .ite a b c
  | .pair _ _, [a, b] => .pair a b
  | .fst _, [a] => .fst a
  | .snd _, [a] => .snd a
  | .op s _ _, [a, b] => .op s a b
  | .nt _, [a] => .nt a
  | .pr _ _, [a, b] => .pr a b
  | .ask o _, [a] => .ask o a
  | .hd _ x _ cs, a :: b :: gs => .hd a x b (cs.setGs gs)
  | e, _ => e
mutual
def subE (x : Str) (t : Ex) : Ex → Ex
  | .num n => .num n | .flag b => .flag b | .unit => .unit | .name y => if y = x then t else .name y
  | .call f e => .call (subE x t f) (subE x t e)
  | .fn y e => .fn y (if x ∈ [y] then e else subE x t e)
  | .rc h y e => .rc h y (if x ∈ [h, y] then e else subE x t e)
  | .lt y e f => .lt y (subE x t e) (if x ∈ [y] then f else subE x t f)
  | .ite e f g => .ite (subE x t e) (subE x t f) (subE x t g)
  | .pair e f => .pair (subE x t e) (subE x t f)
  | .fst e => .fst (subE x t e) | .snd e => .snd (subE x t e)
  | .op s e f => .op s (subE x t e) (subE x t f)
  | .nt e => .nt (subE x t e)
  | .pr e f => .pr (subE x t e) (subE x t f)
  | .ask o e => .ask o (subE x t e)
  | .hd e y f cs => .hd (subE x t e) y (if x ∈ [y] then f else subE x t f) (subC x t cs)
def subC (x : Str) (t : Ex) : Clz → Clz
  | .nil => .nil
  | .cons o y k g r => .cons o y k (if x ∈ [y, k] then g else subE x t g) (subC x t r)
end
/-- a part with its bound names, as it is changed -/
def sub1 (x : Str) (t : Ex) (p : Ex × List Str) : Ex := if x ∈ p.2 then p.1 else subE x t p.1
theorem subC_set (x : Str) (t : Ex) : ∀ c : Clz, c.setGs ((c.gs.zip c.nb).map (sub1 x t)) = subC x t c
  | .nil => rfl
  | .cons o y k g r => by
    show Clz.cons o y k (if x ∈ [y, k] then g else subE x t g) (r.setGs ((r.gs.zip r.nb).map (sub1 x t))) = _
    rw [subC_set x t r]
    rfl
theorem sub_with (x : Str) (t : Ex) {e : Ex} (h : ∀ y, e ≠ .name y) : withE e (((exParts e).zip (bnds e)).map (sub1 x t)) = subE x t e := by
  cases e with
  | name y => exact absurd rfl (h y)
  | hd e y f cs =>
    show Ex.hd (sub1 x t (e, [])) y (if x ∈ [y] then f else subE x t f) (cs.setGs ((cs.gs.zip cs.nb).map (sub1 x t))) = _
    rw [subC_set]
    rfl
  | _ => rfl
theorem len_c : ∀ c : Clz, c.gs.length = c.len ∧ c.nb.length = c.len
  | .nil => ⟨rfl, rfl⟩
  | .cons _ _ _ _ r => ⟨congrArg (· + 1) (len_c r).1, congrArg (· + 1) (len_c r).2⟩
theorem len_pb (e : Ex) : (bnds e).length = (exParts e).length := by
  cases e with
  | hd e x f cs => show cs.nb.length + 2 = cs.gs.length + 2; rw [(len_c cs).1, (len_c cs).2]
  | _ => rfl
theorem set_self : ∀ c : Clz, c.setGs c.gs = c
  | .nil => rfl
  | .cons o x k g r => by show Clz.cons o x k g (r.setGs r.gs) = _; rw [set_self r]
theorem with_self (e : Ex) : withE e (exParts e) = e := by
  cases e with
  | hd e x f cs => show Ex.hd e x f (cs.setGs cs.gs) = _; rw [set_self]
  | _ => rfl
theorem setGs_d : ∀ (c : Clz) (l : List Ex), cls4 (setG (up4 (c.c4 false)) (l.map (Ex.d false))) = (c.setGs l).d false
  | .nil, l => by cases l <;> rfl
  | .cons o x k g r, [] => by
    show D.tup [.str o, .str x, .str k, g.d false] :: cls4 (setG (up4 (r.c4 false)) []) = _
    rw [show ([] : List D) = ([] : List Ex).map (Ex.d false) from rfl, setGs_d r []]
    rfl
  | .cons o x k g r, h :: l => by
    show D.tup [.str o, .str x, .str k, h.d false] :: cls4 (setG (up4 (r.c4 false)) (l.map (Ex.d false))) = _
    rw [setGs_d r l]
    rfl
theorem setGs_len : ∀ (c : Clz) (l : List Ex), (c.setGs l).len = c.len
  | .nil, l => by cases l <;> rfl
  | .cons o x k g r, [] => congrArg (· + 1) (setGs_len r [])
  | .cons o x k g r, h :: l => congrArg (· + 1) (setGs_len r l)
theorem subC_len (x : Str) (t : Ex) (c : Clz) : (subC x t c).len = c.len := by rw [← subC_set, setGs_len]
end Bz


set_option Elab.async false
set_option linter.all false
set_option maxRecDepth 100000
set_option maxHeartbeats 4000000
namespace Bz
open PySem PySem.Spec L2 PyProof.Rows
def closedE (t : Ex) : Prop := ∀ y, occ t y = false
theorem mem1 {x y : Str} : (x ∈ [y]) ↔ x = y := List.mem_singleton
theorem mem2 {x y z : Str} : (x ∈ [y, z]) ↔ x = y ∨ x = z := by simp
mutual
theorem occ_sub {x : Str} {t : Ex} (ht : closedE t) (y : Str) : ∀ e : Ex, occ (subE x t e) y = (occ e y && !decide (y = x))
  | .num _ => rfl | .flag _ => rfl | .unit => rfl
  | .name z => by
    simp only [subE]
    by_cases h : z = x
    · rw [if_pos h, ht y, h]
      show false = (decide (y = x) && !decide (y = x))
      cases decide (y = x) <;> rfl
    · rw [if_neg h]
      show decide (y = z) = (decide (y = z) && !decide (y = x))
      by_cases e : y = z
      · rw [decide_eq_true e, decide_eq_false (fun q => h (e ▸ q))]; rfl
      · rw [decide_eq_false e]; rfl
  | .call f e => by simp only [subE, occ, occ_sub ht y f, occ_sub ht y e, Bool.and_or_distrib_right]
  | .fn z e => by
    simp only [subE, occ]
    by_cases h : x ∈ [z]
    · rw [if_pos h]
      have e1 := mem1.mp h
      subst e1
      cases decide (y = x) <;> cases occ e y <;> rfl
    · rw [if_neg h, occ_sub ht y e, Bool.and_assoc]
  | .rc h z e => by
    simp only [subE, occ]
    by_cases q : x ∈ [h, z]
    · rw [if_pos q]
      by_cases d : y = x
      · subst d
        rw [decide_eq_true (mem2.mp q)]; rfl
      · rw [decide_eq_false d]
        show _ = (_ && true)
        rw [Bool.and_true]
    · rw [if_neg q, occ_sub ht y e, Bool.and_assoc]
  | .lt z e f => by
    simp only [subE, occ, occ_sub ht y e]
    by_cases h : x ∈ [z]
    · rw [if_pos h]
      have e1 := mem1.mp h
      subst e1
      cases decide (y = x) <;> cases occ e y <;> cases occ f y <;> rfl
    · rw [if_neg h, occ_sub ht y f, Bool.and_or_distrib_right, Bool.and_assoc]
  | .ite e f g => by simp only [subE, occ, occ_sub ht y f, occ_sub ht y e, occ_sub ht y g, Bool.and_or_distrib_right]
  | .pair e f => by simp only [subE, occ, occ_sub ht y f, occ_sub ht y e, Bool.and_or_distrib_right]
  | .fst e => by simp only [subE, occ, occ_sub ht y e]
  | .snd e => by simp only [subE, occ, occ_sub ht y e]
  | .op _ e f => by simp only [subE, occ, occ_sub ht y f, occ_sub ht y e, Bool.and_or_distrib_right]
  | .nt e => by simp only [subE, occ, occ_sub ht y e]
  | .pr e f => by simp only [subE, occ, occ_sub ht y f, occ_sub ht y e, Bool.and_or_distrib_right]
  | .ask _ e => by simp only [subE, occ, occ_sub ht y e]
  | .hd e z f cs => by
    simp only [subE, occ, occ_sub ht y e, occ_subC ht y cs]
    by_cases h : x ∈ [z]
    · rw [if_pos h]
      have e1 := mem1.mp h
      subst e1
      cases decide (y = x) <;> cases occ e y <;> cases occ f y <;> cases occC cs y <;> rfl
    · rw [if_neg h, occ_sub ht y f, Bool.and_or_distrib_right, Bool.and_or_distrib_right, Bool.and_assoc]
theorem occ_subC {x : Str} {t : Ex} (ht : closedE t) (y : Str) : ∀ c : Clz, occC (subC x t c) y = (occC c y && !decide (y = x))
  | .nil => rfl
  | .cons o z k g r => by
    simp only [subC, occC, occ_subC ht y r]
    by_cases q : x ∈ [z, k]
    · rw [if_pos q]
      by_cases d : y = x
      · subst d
        rw [decide_eq_true (mem2.mp q), decide_eq_true rfl]
        cases occC r y <;> rfl
      · rw [decide_eq_false d]; simp
    · rw [if_neg q, occ_sub ht y g, Bool.and_or_distrib_right, Bool.and_assoc]
end
theorem orF {a b : Bool} (o : (a || b) = false) : a = false ∧ b = false := by rw [Bool.or_eq_false_iff] at o; exact o
mutual
theorem sub_id {x : Str} {t : Ex} : ∀ e : Ex, occ e x = false → subE x t e = e
  | .num _, _ => rfl | .flag _, _ => rfl | .unit, _ => rfl
  | .name z, h => by
    simp only [subE]
    rw [if_neg fun q => of_decide_eq_false h q.symm]
  | .call f e, h => by simp only [subE, sub_id f (orF h).1, sub_id e (orF h).2]
  | .fn z e, h => by
    simp only [subE]
    by_cases q : x ∈ [z]
    · rw [if_pos q]
    · have h : (!decide (x = z) && occ e x) = false := h
      rw [decide_eq_false (fun u => q (mem1.mpr u))] at h
      rw [if_neg q, sub_id e h]
  | .rc y z e, h => by
    simp only [subE]
    by_cases q : x ∈ [y, z]
    · rw [if_pos q]
    · have h : (!decide (x = y ∨ x = z) && occ e x) = false := h
      rw [decide_eq_false (fun u => q (mem2.mpr u))] at h
      rw [if_neg q, sub_id e h]
  | .lt z e f, h => by
    simp only [subE, sub_id e (orF h).1]
    have h := (orF h).2
    by_cases q : x ∈ [z]
    · rw [if_pos q]
    · rw [decide_eq_false (fun u => q (mem1.mpr u))] at h
      rw [if_neg q, sub_id f h]
  | .ite e f g, h => by simp only [subE, sub_id e (orF h).1, sub_id f (orF (orF h).2).1, sub_id g (orF (orF h).2).2]
  | .pair e f, h => by simp only [subE, sub_id e (orF h).1, sub_id f (orF h).2]
  | .fst e, h => by simp only [subE, sub_id e h]
  | .snd e, h => by simp only [subE, sub_id e h]
  | .op _ e f, h => by simp only [subE, sub_id e (orF h).1, sub_id f (orF h).2]
  | .nt e, h => by simp only [subE, sub_id e h]
  | .pr e f, h => by simp only [subE, sub_id e (orF h).1, sub_id f (orF h).2]
  | .ask _ e, h => by simp only [subE, sub_id e h]
  | .hd e z f cs, h => by
    simp only [subE, sub_id e (orF h).1, sub_idC cs (orF (orF h).2).2]
    have h := (orF (orF h).2).1
    by_cases q : x ∈ [z]
    · rw [if_pos q]
    · rw [decide_eq_false (fun u => q (mem1.mpr u))] at h
      rw [if_neg q, sub_id f h]
theorem sub_idC {x : Str} {t : Ex} : ∀ c : Clz, occC c x = false → subC x t c = c
  | .nil, _ => rfl
  | .cons o z k g r, h => by
    simp only [subC, sub_idC r (orF h).2]
    have h := (orF h).1
    by_cases q : x ∈ [z, k]
    · rw [if_pos q]
    · rw [decide_eq_false (fun u => q (mem2.mpr u))] at h
      rw [if_neg q, sub_id g h]
end
/-- an expression of k03: its depth and its size at most -/
structure T3 (e : Ex) (a b : Nat) : Prop where
  d : ddE e ≤ a
  n : exN e ≤ b
  g : gdE e = true
theorem T3.mono {e : Ex} {a b c d : Nat} (h : T3 e a b) (x : a ≤ c) (y : b ≤ d) : T3 e c d := ⟨Nat.le_trans h.d x, Nat.le_trans h.n y, h.g⟩
theorem if_gd {p : Prop} [Decidable p] {a b : Ex} (x : gdE a = true) (y : gdE b = true) : gdE (if p then a else b) = true := by split <;> assumption
theorem if_n {p : Prop} [Decidable p] {a b : Ex} {n : Nat} (x : exN a ≤ n) (y : exN b ≤ n) : exN (if p then a else b) ≤ n := by split <;> assumption
theorem if_d {p : Prop} [Decidable p] {a b : Ex} {n : Nat} (x : ddE a ≤ n) (y : ddE b ≤ n) : ddE (if p then a else b) ≤ n := by split <;> assumption
mutual
theorem gd_sub {x : Str} {t : Ex} (ht : gdE t = true) : ∀ e : Ex, gdE e = true → gdE (subE x t e) = true
  | .num _, h => h | .flag _, h => h | .unit, h => h
  | .name z, h => if_gd ht h
  | .call f e, h => and2i (gd_sub ht f (and2 h).1) (gd_sub ht e (and2 h).2)
  | .fn _ e, h => and2i (and2 h).1 (if_gd (and2 h).2 (gd_sub ht e (and2 h).2))
  | .rc _ _ e, h => and2i (and2 h).1 (and2i (and2 (and2 h).2).1 (if_gd (and2 (and2 h).2).2 (gd_sub ht e (and2 (and2 h).2).2)))
  | .lt _ e f, h => and2i (and2 h).1 (and2i (gd_sub ht e (and2 (and2 h).2).1) (if_gd (and2 (and2 h).2).2 (gd_sub ht f (and2 (and2 h).2).2)))
  | .ite e f g, h => and2i (gd_sub ht e (and2 h).1) (and2i (gd_sub ht f (and2 (and2 h).2).1) (gd_sub ht g (and2 (and2 h).2).2))
  | .pair f e, h => and2i (gd_sub ht f (and2 h).1) (gd_sub ht e (and2 h).2)
  | .fst e, h => gd_sub ht e h
  | .snd e, h => gd_sub ht e h
  | .op _ e f, h => and2i (and2 h).1 (and2i (gd_sub ht e (and2 (and2 h).2).1) (gd_sub ht f (and2 (and2 h).2).2))
  | .nt e, h => gd_sub ht e h
  | .pr f e, h => and2i (gd_sub ht f (and2 h).1) (gd_sub ht e (and2 h).2)
  | .ask _ e, h => and2i (and2 h).1 (gd_sub ht e (and2 h).2)
  | .hd e _ f cs, h => by
    have h2 := (and2 (and2 h).2).2
    refine and2i (decide_eq_true (by rw [subC_len]; exact of_decide_eq_true (and2 h).1)) (and2i (and2 (and2 h).2).1 (and2i (gd_sub ht e (and2 h2).1) (and2i (if_gd (and2 (and2 h2).2).1 (gd_sub ht f (and2 (and2 h2).2).1)) (gd_subC ht cs (and2 (and2 h2).2).2))))
theorem gd_subC {x : Str} {t : Ex} (ht : gdE t = true) : ∀ c : Clz, gdC c = true → gdC (subC x t c) = true
  | .nil, h => h
  | .cons _ _ _ g r, h => by
    have h2 := (and2 (and2 (and2 h).2).2).2
    exact and2i (and2 h).1 (and2i (and2 (and2 h).2).1 (and2i (and2 (and2 (and2 h).2).2).1 (and2i (if_gd (and2 h2).1 (gd_sub ht g (and2 h2).1)) (gd_subC ht r (and2 h2).2))))
end
theorem n3 {a b c d : Nat} (x : a ≤ 3 * b) (y : c ≤ 3 * d) : a + c + 1 ≤ 3 * (b + d + 1) := by omega
mutual
theorem n_sub {x : Str} {t : Ex} (ht : exN t ≤ 3) : ∀ e : Ex, exN (subE x t e) ≤ 3 * exN e
  | .num _ => by show 1 ≤ 3; decide
  | .flag _ => by show 1 ≤ 3; decide
  | .unit => by show 1 ≤ 3; decide
  | .name z => if_n ht (by show 1 ≤ 3; decide)
  | .call f e => n3 (n_sub ht f) (n_sub ht e)
  | .fn z e => by have := n_sub (x := x) ht e; have := if_n (p := x ∈ [z]) (by omega : exN e ≤ 3 * exN e) this; simp only [subE, exN]; omega
  | .rc y z e => by have := n_sub (x := x) ht e; have := if_n (p := x ∈ [y, z]) (by omega : exN e ≤ 3 * exN e) this; simp only [subE, exN]; omega
  | .lt _ e f => n3 (n_sub ht e) (if_n (by omega) (n_sub ht f))
  | .ite e f g => by have := n_sub (x := x) ht e; have := n_sub (x := x) ht f; have := n_sub (x := x) ht g; simp only [subE, exN]; omega
  | .pair f e => n3 (n_sub ht f) (n_sub ht e)
  | .fst e => by have := n_sub (x := x) ht e; simp only [subE, exN]; omega
  | .snd e => by have := n_sub (x := x) ht e; simp only [subE, exN]; omega
  | .op _ f e => n3 (n_sub ht f) (n_sub ht e)
  | .nt e => by have := n_sub (x := x) ht e; simp only [subE, exN]; omega
  | .pr f e => n3 (n_sub ht f) (n_sub ht e)
  | .ask _ e => by have := n_sub (x := x) ht e; simp only [subE, exN]; omega
  | .hd e z f cs => by have h1 := n_sub (x := x) ht e; have h2 := n_sub (x := x) ht f; have h3 := n_subC (x := x) ht cs; have := if_n (p := x ∈ [z]) (by omega : exN f ≤ 3 * exN f) h2; simp only [subE, exN]; omega
theorem n_subC {x : Str} {t : Ex} (ht : exN t ≤ 3) : ∀ c : Clz, clN (subC x t c) ≤ 3 * clN c
  | .nil => Nat.zero_le _
  | .cons _ y k g r => by have h2 := n_sub (x := x) ht g; have h3 := n_subC (x := x) ht r; have := if_n (p := x ∈ [y, k]) (by omega : exN g ≤ 3 * exN g) h2; simp only [subC, clN]; omega
end
theorem dm {a b c d : Nat} (x : a ≤ b + 1) (y : c ≤ d + 1) : max a c + 1 ≤ max b d + 1 + 1 := by omega
mutual
theorem d_sub {x : Str} {t : Ex} (ht : ddE t ≤ 2) : ∀ e : Ex, ddE (subE x t e) ≤ ddE e + 1
  | .num _ => by show 1 ≤ 2; decide
  | .flag _ => by show 1 ≤ 2; decide
  | .unit => by show 1 ≤ 2; decide
  | .name z => if_d ht (by show 1 ≤ 2; decide)
  | .call f e => dm (d_sub ht f) (d_sub ht e)
  | .fn _ e => Nat.succ_le_succ (if_d (Nat.le_succ _) (d_sub ht e))
  | .rc _ _ e => Nat.succ_le_succ (if_d (Nat.le_succ _) (d_sub ht e))
  | .lt _ e f => dm (d_sub ht e) (if_d (Nat.le_succ _) (d_sub ht f))
  | .ite e f g => by have := d_sub (x := x) ht e; have := d_sub (x := x) ht f; have := d_sub (x := x) ht g; simp only [subE, ddE]; omega
  | .pair f e => dm (d_sub ht f) (d_sub ht e)
  | .fst e => Nat.succ_le_succ (d_sub ht e)
  | .snd e => Nat.succ_le_succ (d_sub ht e)
  | .op _ f e => dm (d_sub ht f) (d_sub ht e)
  | .nt e => Nat.succ_le_succ (d_sub ht e)
  | .pr f e => dm (d_sub ht f) (d_sub ht e)
  | .ask _ e => Nat.succ_le_succ (d_sub ht e)
  | .hd e z f cs => by have h1 := d_sub (x := x) ht e; have h2 := d_sub (x := x) ht f; have h3 := d_subC (x := x) ht cs; have := if_d (p := x ∈ [z]) (by omega : ddE f ≤ ddE f + 1) h2; simp only [subE, ddE]; omega
theorem d_subC {x : Str} {t : Ex} (ht : ddE t ≤ 2) : ∀ c : Clz, ddC (subC x t c) ≤ ddC c + 1
  | .nil => Nat.zero_le _
  | .cons _ y k g r => by have h2 := d_sub (x := x) ht g; have h3 := d_subC (x := x) ht r; have := if_d (p := x ∈ [y, k]) (by omega : ddE g ≤ ddE g + 1) h2; simp only [subC, ddC]; omega
end
theorem T3.sub {e t : Ex} {x : Str} {a b : Nat} (h : T3 e a b) (ht : T3 t 2 3) : T3 (subE x t e) (a + 1) (3 * b) :=
  ⟨Nat.le_trans (d_sub ht.d e) (Nat.succ_le_succ h.d), Nat.le_trans (n_sub ht.n e) (Nat.mul_le_mul_left _ h.n), gd_sub ht.g e h.g⟩
theorem T3.sh {e : Ex} {a b : Nat} (h : T3 e a b) (ha : a ≤ 50) : SeqAt.shaped (e.d false).py = true := and2i (gd_lay e h.g) (decide_eq_true (Nat.le_trans (dd_py e) (Nat.le_trans h.d (by omega))))
/-- a list of expressions as data -/
theorem all_flat : ∀ {l : List Ex}, flats (l.map (Ex.d false)) = true
  | [] => rfl
  | e :: l => and2i (ex_flat e) all_flat
theorem all_lay : ∀ {l : List Ex}, (∀ e ∈ l, gdE e = true) → PyData.canLayAll0 (pys (l.map (Ex.d false))) = true
  | [], _ => lya_nil
  | e :: l, h => by rw [List.map_cons, lya_cons, gd_lay e (h e List.mem_cons_self), all_lay fun g hg => h g (List.mem_cons_of_mem _ hg)]; rfl
theorem all_dep {a : Nat} : ∀ {l : List Ex}, (∀ e ∈ l, ddE e ≤ a) → PyData.depthAll (pys (l.map (Ex.d false))) ≤ a
  | [], _ => by rw [List.map_nil, dpa_nil]; exact Nat.zero_le _
  | e :: l, h => by
    rw [List.map_cons, dpa_cons]
    exact Nat.max_le.mpr ⟨Nat.le_trans (dd_py e) (h e List.mem_cons_self), all_dep fun g hg => h g (List.mem_cons_of_mem _ hg)⟩
theorem lst_sh {l : List Ex} (h : ∀ e ∈ l, gdE e = true ∧ ddE e ≤ 50) : SeqAt.shaped (D.lst (l.map (Ex.d false))).py = true := by
  refine and2i ?_ (decide_eq_true ?_)
  · show (PyData.list _).canLay0 = true
    rw [PyData.canLay0]; exact all_lay fun e he => (h e he).1
  · show (PyData.list _).depth ≤ 64
    rw [PyData.depth]
    have := all_dep (a := 50) fun e he => (h e he).2
    omega
theorem gd_pre : ∀ (n : Nat) {e g : Ex}, exD e ≤ n → gdE e = true → g ∈ pre e → gdE g = true
  | 0, e, g, h, _, _ => absurd h (by have := ex_pos e; omega)
  | n + 1, e, g, h, ok, hg => by
    rw [pre_flat e] at hg
    rcases List.mem_cons.mp hg with q | hg
    · rw [q]; exact ok
    · obtain ⟨p, hp, hm⟩ := List.mem_flatMap.mp hg
      exact gd_pre n (by have := (part_mem hp).1; omega) (gd_part ok hp) hm
/-! ### free names -/
theorem fv_nd (e : Ex) : (fv e).Nodup := sortS_nd (noted_nd e [] List.nodup_nil)
theorem fv_mem {e : Ex} {x : Str} : x ∈ fv e ↔ occ e x = true := by rw [← occ_fv]; exact decide_eq_true_iff.symm
theorem fv_pw (e : Ex) : (fv e).Pairwise leS := sortS_pw _
theorem fv_sub {x : Str} {t : Ex} (ht : closedE t) (e : Ex) : fv (subE x t e) = (fv e).filter fun y => !decide (y = x) := by
  refine pw_uniq (fv_pw _) ((fv_pw e).filter _) (fv_nd _) ((fv_nd e).filter _) fun y => ?_
  rw [fv_mem, occ_sub ht, List.mem_filter, fv_mem, Bool.and_eq_true]
theorem fv_sort {e : Ex} {l : List Str} (nd : l.Nodup) (m : ∀ y, y ∈ l ↔ occ e y = true) : sortS l = fv e :=
  pw_uniq (sortS_pw l) (fv_pw e) (sortS_nd nd) (fv_nd e) fun y => by rw [sortS_mem, m, fv_mem]
end Bz


set_option Elab.async false
set_option linter.all false
set_option maxRecDepth 100000
set_option maxHeartbeats 4000000
namespace Bz
open PySem PySem.Spec L2 PyProof.Rows
/-! ### how long a text of an expression is -/
theorem wt_tup {l : List D} : (D.tup l).py.weight = PyData.weightAll (pys l) := by show (PyData.tuple _).weight = _; rw [PyData.weight]
theorem wt_str {s : Str} : (D.str s).py.weight = s.cps.size := by show (PyData.str s).weight = _; rw [PyData.weight]
theorem wt_bl {s : Bool} : (D.bl s).py.weight = 0 := by show (PyData.bool s).weight = _; rw [PyData.weight]
theorem wt_int {n : Int} (h : okI n = true) : (D.int n).py.weight ≤ 32 := by
  show (PyData.int n).weight ≤ 32
  rw [PyData.weight]
  have h2 := of_decide_eq_true h
  split
  · omega
  · rename_i e
    have n0 : n ≠ 0 := by simpa using e
    have : n.natAbs.log2 < 31 := (Nat.log2_lt (by omega)).mpr (by omega)
    omega
theorem wta_nil : PyData.weightAll (pys []) = 0 := by show PyData.weightAll [] = 0; rw [PyData.weightAll]
theorem wta_cons {d : D} {l : List D} : PyData.weightAll (pys (d :: l)) = d.py.weight + 1 + PyData.weightAll (pys l) := by show PyData.weightAll (_ :: _) = _; rw [PyData.weightAll]
theorem tw {s : Str} (h : s.cps.size ≤ 6 := by decide +kernel) : s.cps.size ≤ 6 := h
mutual
theorem w_ex : ∀ e : Ex, gdE e = true → (e.d false).py.weight + 24 ≤ 70 * exN e
  | .num _, h => by have := wt_int h; have := tw (s := "num"); simp only [Ex.d, wt_tup, wta_cons, wta_nil, wt_str, exN]; omega
  | .flag _, _ => by have := tw (s := "flag"); simp only [Ex.d, wt_tup, wta_cons, wta_nil, wt_str, wt_bl, exN]; omega
  | .unit, _ => by have := tw (s := "unit"); simp only [Ex.d, wt_tup, wta_cons, wta_nil, wt_str, exN]; omega
  | .name _, h => by have := tw (s := "name"); have := okNm_w h; simp only [Ex.d, wt_tup, wta_cons, wta_nil, wt_str, exN]; omega
  | .call f e, h => by have := tw (s := "call"); have := w_ex f (and2 h).1; have := w_ex e (and2 h).2; simp only [Ex.d, wt_tup, wta_cons, wta_nil, wt_str, exN]; omega
  | .fn _ e, h => by have := tw (s := "fun"); have := okNm_w (and2 h).1; have := w_ex e (and2 h).2; simp only [Ex.d, wt_tup, wta_cons, wta_nil, wt_str, exN, Bool.false_eq_true, if_false]; omega
  | .rc _ _ e, h => by have := tw (s := "rec"); have := okNm_w (and2 h).1; have := okNm_w (and2 (and2 h).2).1; have := w_ex e (and2 (and2 h).2).2; simp only [Ex.d, wt_tup, wta_cons, wta_nil, wt_str, exN, Bool.false_eq_true, if_false]; omega
  | .lt _ f e, h => by have := tw (s := "let"); have := okNm_w (and2 h).1; have := w_ex f (and2 (and2 h).2).1; have := w_ex e (and2 (and2 h).2).2; simp only [Ex.d, wt_tup, wta_cons, wta_nil, wt_str, exN]; omega
  | .ite a b c, h => by have := tw (s := "if"); have := w_ex a (and2 h).1; have := w_ex b (and2 (and2 h).2).1; have := w_ex c (and2 (and2 h).2).2; simp only [Ex.d, wt_tup, wta_cons, wta_nil, wt_str, exN]; omega
  | .pair f e, h => by have := tw (s := "pair"); have := w_ex f (and2 h).1; have := w_ex e (and2 h).2; simp only [Ex.d, wt_tup, wta_cons, wta_nil, wt_str, exN]; omega
  | .fst e, h => by have := tw (s := "fst"); have := w_ex e h; simp only [Ex.d, wt_tup, wta_cons, wta_nil, wt_str, exN]; omega
  | .snd e, h => by have := tw (s := "snd"); have := w_ex e h; simp only [Ex.d, wt_tup, wta_cons, wta_nil, wt_str, exN]; omega
  | .op _ f e, h => by have := tw (s := "op"); have := okOp_w (and2 h).1; have := w_ex f (and2 (and2 h).2).1; have := w_ex e (and2 (and2 h).2).2; simp only [Ex.d, wt_tup, wta_cons, wta_nil, wt_str, exN]; omega
  | .nt e, h => by have := tw (s := "not"); have := w_ex e h; simp only [Ex.d, wt_tup, wta_cons, wta_nil, wt_str, exN]; omega
  | .pr f e, h => by have := tw (s := "print"); have := w_ex f (and2 h).1; have := w_ex e (and2 h).2; simp only [Ex.d, wt_tup, wta_cons, wta_nil, wt_str, exN]; omega
  | .ask _ e, h => by have := tw (s := "ask"); have := okNm_w (and2 h).1; have := w_ex e (and2 h).2; simp only [Ex.d, wt_tup, wta_cons, wta_nil, wt_str, exN]; omega
  | .hd e _ f cs, h => by
    have h := (and2 h).2
    have := tw (s := "handle"); have := okNm_w (and2 h).1; have := w_ex e (and2 (and2 h).2).1; have := w_ex f (and2 (and2 (and2 h).2).2).1; have := w_cl cs (and2 (and2 (and2 h).2).2).2
    simp only [Ex.d, wt_tup, wta_cons, wta_nil, wt_str, exN]; omega
theorem w_cl : ∀ c : Clz, gdC c = true → PyData.weightAll (pys (c.d false)) ≤ 70 * clN c
  | .nil, _ => by simp only [Clz.d, wta_nil, clN]; omega
  | .cons _ _ _ g r, h => by
    have := okNm_w (and2 h).1; have := okNm_w (and2 (and2 h).2).1; have := okNm_w (and2 (and2 (and2 h).2).2).1; have := w_ex g (and2 (and2 (and2 (and2 h).2).2).2).1; have := w_cl r (and2 (and2 (and2 (and2 h).2).2).2).2
    simp only [Clz.d, wt_tup, wta_cons, wta_nil, wt_str, clN]; omega
end
theorem si_tup {l : List D} : (D.tup l).py.intsShort 13 = PyData.intsShortAll 13 (pys l) := by show (PyData.tuple _).intsShort 13 = _; rw [PyData.intsShort]
theorem si_str {s : Str} : (D.str s).py.intsShort 13 = true := by show (PyData.str s).intsShort 13 = _; rw [PyData.intsShort]
theorem si_bl {s : Bool} : (D.bl s).py.intsShort 13 = true := by show (PyData.bool s).intsShort 13 = _; rw [PyData.intsShort]
theorem si_int {n : Int} (h : okI n = true) : (D.int n).py.intsShort 13 = true := by
  show (PyData.int n).intsShort 13 = true
  rw [PyData.intsShort]
  have h2 := of_decide_eq_true h
  exact decide_eq_true (PyData.shown_int_le (by omega))
theorem sia_nil : PyData.intsShortAll 13 (pys []) = true := by show PyData.intsShortAll 13 [] = _; rw [PyData.intsShortAll]
theorem sia_cons {d : D} {l : List D} : PyData.intsShortAll 13 (pys (d :: l)) = (d.py.intsShort 13 && PyData.intsShortAll 13 (pys l)) := by show PyData.intsShortAll 13 (_ :: _) = _; rw [PyData.intsShortAll]
theorem so_tup {l : List D} : (D.tup l).py.showable = PyData.showableAll (pys l) := by show (PyData.tuple _).showable = _; rw [PyData.showable]
theorem so_str {s : Str} : (D.str s).py.showable = true := by show (PyData.str s).showable = _; rw [PyData.showable]
theorem so_bl {s : Bool} : (D.bl s).py.showable = true := by show (PyData.bool s).showable = _; rw [PyData.showable]
theorem so_int {n : Int} (h : okI n = true) : (D.int n).py.showable = true := by
  show (PyData.int n).showable = true
  rw [PyData.showable]
  have h2 := of_decide_eq_true h
  refine decide_eq_true ?_
  by_cases n0 : n = 0
  · rw [n0]; decide
  · exact Nat.lt_trans ((Nat.log2_lt (by omega)).mpr (by omega : n.natAbs < 2 ^ 31)) (by decide)
theorem soa_nil : PyData.showableAll (pys []) = true := by show PyData.showableAll [] = _; rw [PyData.showableAll]
theorem soa_cons {d : D} {l : List D} : PyData.showableAll (pys (d :: l)) = (d.py.showable && PyData.showableAll (pys l)) := by show PyData.showableAll (_ :: _) = _; rw [PyData.showableAll]
mutual
theorem si_ex : ∀ e : Ex, gdE e = true → PyData.intsShort 13 (e.d false).py = true
  | .num _, h => by simp only [Ex.d, si_tup, sia_cons, sia_nil, si_str, si_int h, Bool.and_true, Bool.true_and]
  | .flag _, _ => by simp only [Ex.d, si_tup, sia_cons, sia_nil, si_str, si_bl, Bool.and_true, Bool.true_and]
  | .unit, _ => by simp only [Ex.d, si_tup, sia_cons, sia_nil, si_str, Bool.and_true, Bool.true_and]
  | .name _, _ => by simp only [Ex.d, si_tup, sia_cons, sia_nil, si_str, Bool.and_true, Bool.true_and]
  | .call f e, h => by simp only [Ex.d, si_tup, sia_cons, sia_nil, si_str, si_ex f (and2 h).1, si_ex e (and2 h).2, Bool.and_true, Bool.true_and]
  | .fn _ e, h => by simp only [Ex.d, si_tup, sia_cons, sia_nil, si_str, si_ex e (and2 h).2, Bool.false_eq_true, if_false, Bool.and_true, Bool.true_and]
  | .rc _ _ e, h => by simp only [Ex.d, si_tup, sia_cons, sia_nil, si_str, si_ex e (and2 (and2 h).2).2, Bool.false_eq_true, if_false, Bool.and_true, Bool.true_and]
  | .lt _ f e, h => by simp only [Ex.d, si_tup, sia_cons, sia_nil, si_str, si_ex f (and2 (and2 h).2).1, si_ex e (and2 (and2 h).2).2, Bool.and_true, Bool.true_and]
  | .ite a b c, h => by simp only [Ex.d, si_tup, sia_cons, sia_nil, si_str, si_ex a (and2 h).1, si_ex b (and2 (and2 h).2).1, si_ex c (and2 (and2 h).2).2, Bool.and_true, Bool.true_and]
  | .pair f e, h => by simp only [Ex.d, si_tup, sia_cons, sia_nil, si_str, si_ex f (and2 h).1, si_ex e (and2 h).2, Bool.and_true, Bool.true_and]
  | .fst e, h => by simp only [Ex.d, si_tup, sia_cons, sia_nil, si_str, si_ex e h, Bool.and_true, Bool.true_and]
  | .snd e, h => by simp only [Ex.d, si_tup, sia_cons, sia_nil, si_str, si_ex e h, Bool.and_true, Bool.true_and]
  | .op _ f e, h => by simp only [Ex.d, si_tup, sia_cons, sia_nil, si_str, si_ex f (and2 (and2 h).2).1, si_ex e (and2 (and2 h).2).2, Bool.and_true, Bool.true_and]
  | .nt e, h => by simp only [Ex.d, si_tup, sia_cons, sia_nil, si_str, si_ex e h, Bool.and_true, Bool.true_and]
  | .pr f e, h => by simp only [Ex.d, si_tup, sia_cons, sia_nil, si_str, si_ex f (and2 h).1, si_ex e (and2 h).2, Bool.and_true, Bool.true_and]
  | .ask _ e, h => by simp only [Ex.d, si_tup, sia_cons, sia_nil, si_str, si_ex e (and2 h).2, Bool.and_true, Bool.true_and]
  | .hd e _ f cs, h => by
    have h := (and2 (and2 h).2).2
    simp only [Ex.d, si_tup, sia_cons, sia_nil, si_str, si_ex e (and2 h).1, si_ex f (and2 (and2 h).2).1, si_cl cs (and2 (and2 h).2).2, Bool.and_true, Bool.true_and]
theorem si_cl : ∀ c : Clz, gdC c = true → PyData.intsShortAll 13 (pys (c.d false)) = true
  | .nil, _ => by simp only [Clz.d, sia_nil]
  | .cons _ _ _ g r, h => by
    have h := (and2 (and2 (and2 h).2).2).2
    simp only [Clz.d, si_tup, sia_cons, sia_nil, si_str, si_ex g (and2 h).1, si_cl r (and2 h).2, Bool.and_true, Bool.true_and]
end
mutual
theorem so_ex : ∀ e : Ex, gdE e = true → PyData.showable (e.d false).py = true
  | .num _, h => by simp only [Ex.d, so_tup, soa_cons, soa_nil, so_str, so_int h, Bool.and_true, Bool.true_and]
  | .flag _, _ => by simp only [Ex.d, so_tup, soa_cons, soa_nil, so_str, so_bl, Bool.and_true, Bool.true_and]
  | .unit, _ => by simp only [Ex.d, so_tup, soa_cons, soa_nil, so_str, Bool.and_true, Bool.true_and]
  | .name _, _ => by simp only [Ex.d, so_tup, soa_cons, soa_nil, so_str, Bool.and_true, Bool.true_and]
  | .call f e, h => by simp only [Ex.d, so_tup, soa_cons, soa_nil, so_str, so_ex f (and2 h).1, so_ex e (and2 h).2, Bool.and_true, Bool.true_and]
  | .fn _ e, h => by simp only [Ex.d, so_tup, soa_cons, soa_nil, so_str, so_ex e (and2 h).2, Bool.false_eq_true, if_false, Bool.and_true, Bool.true_and]
  | .rc _ _ e, h => by simp only [Ex.d, so_tup, soa_cons, soa_nil, so_str, so_ex e (and2 (and2 h).2).2, Bool.false_eq_true, if_false, Bool.and_true, Bool.true_and]
  | .lt _ f e, h => by simp only [Ex.d, so_tup, soa_cons, soa_nil, so_str, so_ex f (and2 (and2 h).2).1, so_ex e (and2 (and2 h).2).2, Bool.and_true, Bool.true_and]
  | .ite a b c, h => by simp only [Ex.d, so_tup, soa_cons, soa_nil, so_str, so_ex a (and2 h).1, so_ex b (and2 (and2 h).2).1, so_ex c (and2 (and2 h).2).2, Bool.and_true, Bool.true_and]
  | .pair f e, h => by simp only [Ex.d, so_tup, soa_cons, soa_nil, so_str, so_ex f (and2 h).1, so_ex e (and2 h).2, Bool.and_true, Bool.true_and]
  | .fst e, h => by simp only [Ex.d, so_tup, soa_cons, soa_nil, so_str, so_ex e h, Bool.and_true, Bool.true_and]
  | .snd e, h => by simp only [Ex.d, so_tup, soa_cons, soa_nil, so_str, so_ex e h, Bool.and_true, Bool.true_and]
  | .op _ f e, h => by simp only [Ex.d, so_tup, soa_cons, soa_nil, so_str, so_ex f (and2 (and2 h).2).1, so_ex e (and2 (and2 h).2).2, Bool.and_true, Bool.true_and]
  | .nt e, h => by simp only [Ex.d, so_tup, soa_cons, soa_nil, so_str, so_ex e h, Bool.and_true, Bool.true_and]
  | .pr f e, h => by simp only [Ex.d, so_tup, soa_cons, soa_nil, so_str, so_ex f (and2 h).1, so_ex e (and2 h).2, Bool.and_true, Bool.true_and]
  | .ask _ e, h => by simp only [Ex.d, so_tup, soa_cons, soa_nil, so_str, so_ex e (and2 h).2, Bool.and_true, Bool.true_and]
  | .hd e _ f cs, h => by
    have h := (and2 (and2 h).2).2
    simp only [Ex.d, so_tup, soa_cons, soa_nil, so_str, so_ex e (and2 h).1, so_ex f (and2 (and2 h).2).1, so_cl cs (and2 (and2 h).2).2, Bool.and_true, Bool.true_and]
theorem so_cl : ∀ c : Clz, gdC c = true → PyData.showableAll (pys (c.d false)) = true
  | .nil, _ => by simp only [Clz.d, soa_nil]
  | .cons _ _ _ g r, h => by
    have h := (and2 (and2 (and2 h).2).2).2
    simp only [Clz.d, so_tup, soa_cons, soa_nil, so_str, so_ex g (and2 h).1, so_cl r (and2 h).2, Bool.and_true, Bool.true_and]
end
theorem T3.shown {e : Ex} {a b : Nat} (h : T3 e a b) (ha : a ≤ 50) (hb : b ≤ 10000) : (e.d false).py.shown.length ≤ sizeLine := by
  have sh := h.sh ha
  refine PyData.shown_fits_of_layable0 (B := 13) (by decide) (by decide) ?_ (si_ex e h.g)
  refine and2i sh (decide_eq_true ?_)
  have := w_ex e h.g
  have := h.n
  have e20 : (2 : Nat) ^ 20 = 1048576 := by decide
  omega
/-- other parts -/
theorem with_p (e : Ex) (l : List Ex) (hl : l.length = (exParts e).length) (h : clsLen e ≤ 900) : WithP (e.d false) (l.map (Ex.d false)) ((withE e l).d false) := by
  match e, l, hl with
  | .num n, [], _ => exact .a (lead := [.int n]) (ps := []) (by decide +kernel) rfl (by simp) (by simp)
  | .flag n, [], _ => exact .a (lead := [.bl n]) (ps := []) (by decide +kernel) rfl (by simp) (by simp)
  | .unit, [], _ => exact .a (lead := []) (ps := []) (by decide +kernel) rfl (by simp) (by simp)
  | .name n, [], _ => exact .a (lead := [.str n]) (ps := []) (by decide +kernel) rfl (by simp) (by simp)
  | .call f e, [a, b], _ => exact .a (lead := []) (ps := [f.d false, e.d false]) (is := [a.d false, b.d false]) (by decide +kernel) rfl (by simp) (by simp)
  | .fn x e, [a], _ => exact .a (lead := [.str x]) (ps := [e.d false]) (is := [a.d false]) (by decide +kernel) rfl (by simp) (by simp)
  | .rc y x e, [a], _ => exact .a (lead := [.str y, .str x]) (ps := [e.d false]) (is := [a.d false]) (by decide +kernel) rfl (by simp) (by simp)
  | .lt x f e, [a, b], _ => exact .a (lead := [.str x]) (ps := [f.d false, e.d false]) (is := [a.d false, b.d false]) (by decide +kernel) rfl (by simp) (by simp)
  | .ite f e g, [a, b, c], _ => exact .a (lead := []) (ps := [f.d false, e.d false, g.d false]) (is := [a.d false, b.d false, c.d false]) (by decide +kernel) rfl (by simp) (by simp)
  | .pair f e, [a, b], _ => exact .a (lead := []) (ps := [f.d false, e.d false]) (is := [a.d false, b.d false]) (by decide +kernel) rfl (by simp) (by simp)
  | .fst e, [a], _ => exact .a (lead := []) (ps := [e.d false]) (is := [a.d false]) (by decide +kernel) rfl (by simp) (by simp)
  | .snd e, [a], _ => exact .a (lead := []) (ps := [e.d false]) (is := [a.d false]) (by decide +kernel) rfl (by simp) (by simp)
  | .op s f e, [a, b], _ => exact .a (lead := [.str s]) (ps := [f.d false, e.d false]) (is := [a.d false, b.d false]) (by decide +kernel) rfl (by simp) (by simp)
  | .nt e, [a], _ => exact .a (lead := []) (ps := [e.d false]) (is := [a.d false]) (by decide +kernel) rfl (by simp) (by simp)
  | .pr f e, [a, b], _ => exact .a (lead := []) (ps := [f.d false, e.d false]) (is := [a.d false, b.d false]) (by decide +kernel) rfl (by simp) (by simp)
  | .ask s e, [a], _ => exact .a (lead := [.str s]) (ps := [e.d false]) (is := [a.d false]) (by decide +kernel) rfl (by simp) (by simp)
  | .hd e x f cs, a :: b :: gs, hl =>
    have hl : gs.length + 2 = cs.gs.length + 2 := hl
    have hl2 : gs.length = cs.len := by rw [Clz.lg] at hl; omega
    have z := WithP.h (e := e.d false) (x := .str x) (f := f.d false) (cs := up4 (cs.c4 false)) (e' := a.d false) (f' := b.d false) (gs := gs.map (Ex.d false)) (by unfold up4; rw [List.length_map, Clz.l4]; exact Nat.le_trans h (by decide)) (by unfold up4; rw [List.length_map, List.length_map, Clz.l4, hl2])
    rw [setGs_d] at z
    rw [← Clz.d4] at z
    exact z
end Bz


set_option Elab.async false
set_option linter.all false
set_option maxRecDepth 100000
set_option maxHeartbeats 4000000
namespace Bz
open PySem PySem.Spec L2 PyProof.Rows
theorem walkW {J : It} {n : Nat} {G : Hp → Prop} {Y : Nat → Hp → V → Hp → Prop} (w : Walk J n G Y) {H0 : Hp} {stop : Hp → Prop} {B : (Hp → Prop) → V → Hp → Prop} (Pv : Nat → Hp → Prop) (h0 : Pv 0 H0) (hG : ∀ i H, i ≤ n → Pv i H → G H)
    (hs : ∀ i x H H', i < n → Pv i H → Y i H x H' → B (Pv (i + 1)) x H') (hd : ∀ H, Pv n H → stop H) :
    ∃ W : Nat → Nat → Hp → Prop, (∃ m, W 0 m H0) ∧ ∀ i m H, W i m H → (J.stop i H ∧ stop H) ∨ (J.go i H ∧ ∃ Nx : Hp → Prop, (∀ H', Nx H' → ∃ m', m' < m ∧ W (i + 1) m' H') ∧ ∀ x H', J.yld i H x H' → B Nx x H') := by
  let Wv : Nat → Nat → Hp → Prop := fun i m H => i ≤ n ∧ m + i = n ∧ Pv i H
  have key : ∀ (i m : Nat) (H : Hp), Wv i m H → (J.stop i H ∧ stop H) ∨ (J.go i H ∧ ∃ Nx : Hp → Prop, (∀ H', Nx H' → ∃ m', m' < m ∧ Wv (i + 1) m' H') ∧ ∀ x H', J.yld i H x H' → B Nx x H') := by
    intro i m H z
    have g1 := hG i H z.1 z.2.2
    by_cases lt : i = n
    · subst lt
      exact Or.inl ⟨w.stops H g1, hd H z.2.2⟩
    · have lt2 : i < n := Nat.lt_of_le_of_ne z.1 lt
      refine Or.inr ⟨w.goes i H lt2 g1, Pv (i + 1), ?_, ?_⟩
      · intro H' z'
        refine ⟨n - (i + 1), ?_, lt2, ?_, z'⟩
        · have := z.2.1
          omega
        · omega
      · intro x H' y
        exact hs i x H H' lt2 z.2.2 (w.yields i H x H' lt2 g1 y)
  exact ⟨Wv, ⟨n, Nat.zero_le n, Nat.add_zero n, h0⟩, key⟩
theorem upd_lock {H : Hp} {d D : Addr} {u f o : HO} (h : H d = some u) (n : D ≠ d) : upd (upd (upd H d f) D o) d u = upd H D o := by
  funext z
  by_cases e : z = d
  · rw [e, upd_same, upd_ne n.symm, h]
  · rw [upd_ne e]
    by_cases e2 : z = D
    · rw [e2, upd_same, upd_same]
    · rw [upd_ne e2, upd_ne e, upd_ne e2]
theorem valV_one {x : Str} {v : V} : valV [((Sum.inr x : Key), v)] (Sum.inr x : Key) = some v := by
  unfold valV
  simp
theorem valV_no {x y : Str} {v : V} (h : ¬ y = x) : valV [((Sum.inr x : Key), v)] (Sum.inr y : Key) = none := by
  unfold valV
  have e : ¬ (x = y) := fun z => h z.symm
  simp [e]
theorem sub_name {x y : Str} {t : Ex} : subE x t (.name y) = if y = x then t else .name y := rfl
section
variable {P : Program} {w : World} {K : PySem.W.Frag} {mg : Str → Option Value} {base : Heap}
abbrev g_put_all_in : Stmt := topS 9
abbrev n_put_all_in : List Str := ["expression", "trees", "changed", "part", "names", "inner", "name"]
abbrev p_put_all_in : List Str := ["expression", "trees"]
theorem sc_put_all_in : FnScope n_put_all_in p_put_all_in (defScope g_put_all_in) := ⟨rfl, rfl, rfl, by decide +kernel, rfl, by decide +kernel, by decide +kernel⟩
def spPA (n : Nat) : Sp := fun vs H Q _ => ∃ (R : Hp) (e t : Ex) (x : Str) (v tv : V) (d : Addr), vs = [v, .ref d] ∧ Same R H ∧ At R (e.d false) v ∧ At R (t.d false) tv ∧ R d = some (.dK [((Sum.inr x : Key), tv)]) ∧ exD e ≤ n ∧ smE e = true ∧
  ∀ (R' H' : Hp) (u : V), Mv F0 R H R' H' → At R' ((subE x t e).d false) u → Q u H'
theorem ok_pa0 {f : Addr} {fd : FuncData} (F : Fun K "put_all_in" "put_all_in" g_put_all_in f fd) : FnOk P w K mg base CX0 3 f fd p_put_all_in (spPA 0) := by
  refine F.ok (k := 2) sc_put_all_in (fun vs H Q E h => ?_) (fun cdv A outer st H vs Q E hr h => ?_)
  · obtain ⟨R, e, t, x, v, tv, d, rfl, _⟩ := h
    rfl
  · obtain ⟨R, e, t, x, v, tv, d, rfl, _, _, _, _, h, _⟩ := h
    exact absurd h (by have := ex_pos e; omega)
theorem ok_pa {n : Nat} {f fP fB fW : Addr} {fd fdP fdB fdW : FuncData} (F : Fun K "put_all_in" "put_all_in" g_put_all_in f fd) (mz : mg "zip" = none)
    (GP : Fn P w K mg base CX0 1 "parts" p_parts spParts fP fdP) (GB : Fn P w K mg base CX0 2 "bound_in_parts" p_bound_in_parts spBnd fB fdB) (GW : Fn P w K mg base CX0 1 "with_parts" p_with_parts spWithP fW fdW)
    (GR : Fn P w K mg base CX0 (n + 3) "put_all_in" p_put_all_in (spPA n) f fd) : FnOk P w K mg base CX0 (n + 4) f fd p_put_all_in (spPA (n + 1)) := by
  refine F.ok (k := n + 3) sc_put_all_in (fun vs H Q E h => ?_) (fun cdv A outer st H vs Q E hr h => ?_)
  · obtain ⟨R, e, t, x, v, tv, d, rfl, _⟩ := h
    rfl
  · obtain ⟨R, e, t, x, v, tv, d, rfl, sub, hv, ht, hd, dep, sm, q⟩ := h
    have hu := hu_of hr
    refine ⟨_, (pss_cons (ps_if (pt_cmpR op_eq (pe_ix ix_tup (pv 0) (pe_int) (fun _ _ => rfl)) (pe_str) (nomark _)) (pss_one (ps_ret (pe_dget2 hu (pv 1) (pe_ix ix_tup (pv 0) (pe_int) (fun _ _ => rfl)) (pv 0) ⟨by rfl, by rfl, by rfl, by rfl⟩))) pss_nil)
      (pss_cons (ps_set (i := 2) sc_put_all_in.nd rfl (Or.inl rfl) (pe_lst pa_nil))
      (pss_cons (ps_for PassesOwn.never rfl (pi_zip (by rfl) mz (pa_cons (pe_call GP.ok (hr.mono (by omega)) (by rfl) GP.g GP.kp GP.b .nil pass0 (pa_cons (pv 0) pa_nil)) (pa_cons (pe_call GB.ok (hr.mono (by omega)) (by rfl) GB.g GB.kp GB.b .nil pass0 (pa_cons (pv 0) pa_nil)) pa_nil))) (pg_tup rfl (pgs_cons (pg_name (i := 3) sc_put_all_in.nd rfl (Or.inl rfl)) (pgs_cons (pg_name (i := 4) sc_put_all_in.nd rfl (Or.inr rfl)) pgs_nil))) (C8.pss_cut (ps_set (i := 5) sc_put_all_in.nd rfl (Or.inl rfl) (pe_ifExp (pt_truth (pv 4) (by intro _; rfl)) (pe_lock (pe_dc (own := [("name", 6)]) (g := gName 6) (tt := tTest (tOp (rIn K true) (tVar 6) (tVar 4))) (tk := tVar 6) (tv := tDGet (tVar 1) (tVar 6)) rfl sc_put_all_in.nd (pi_keys (pv 1)) (blkOk_by (N := n_put_all_in) (sc := defScope g_put_all_in) (by decide +kernel)) (fun _ _ _ _ _ => pg_name (i := 6) sc_put_all_in.nd rfl (Or.inl rfl)) (fun _ _ _ _ _ => pts_one (pt_cmpR op_notIn_seq (pv 6) (pv 4) (by rfl))) (fun _ _ _ _ _ => pv 6) (fun _ _ _ _ _ => pe_dget hu (pv 1) (pv 6) (fun _ _ => rfl)))) (pv 1))) (pss_one (ps_expr (pe_bm PySem.F.plainAttrs_list PySem.F.slot_list_append PySem.F.type_list_append mt_append (pv 2) (pa_cons (pe_ifExp (pt_truth (pv 5) (by intro _; rfl)) (pe_call GR.ok hr (by rfl) GR.g GR.kp GR.b .nil pass0 (pa_cons (pv 3) (pa_cons (pv 5) pa_nil))) (pv 3)) pa_nil))))))
      (pss_one (ps_ret (pe_call GW.ok (hr.mono (by omega)) (by rfl) GW.g GW.kp GW.b .nil pass0 (pa_cons (pv 0) (pa_cons (pv 2) pa_nil)))))))), ?_⟩
    have hcl := sm_len sm
    have hparts := ex_parts e hcl
    have hbnd := ex_bnd e hcl
    obtain ⟨pe, er, rfl, hpe⟩ := ex_head hv
    have hpe := sub _ _ hpe
    refine ⟨_, rfl, pe, _, 0, _, rfl, rfl, SqT.of hpe, atI_nat (j := 0) rfl, rfl, _, rfl, ?_⟩
    by_cases hx : ∃ y, e = .name y
    · obtain ⟨y, rfl⟩ := hx
      have hv2 := hv
      obtain ⟨pe2, _, e1, hpe2, _, _, rfl, rfl, _, _, rfl, rfl, rfl⟩ := hv2
      obtain rfl : pe = pe2 := V.ref.inj e1
      have hpe2 := sub _ _ hpe2
      refine ifT (decide_eq_true rfl) ?_
      refine ⟨_, rfl, d, rfl, .inl ⟨_, .inl (sub _ _ hd)⟩, _, rfl, pe, _, 1, _, rfl, rfl, SqT.of hpe2, rfl, _, rfl, _, DGet.k (k := (Sum.inr y : Key)) (sub _ _ hd), ?_⟩
      have := q R H
      rw [sub_name] at this
      by_cases h : y = x
      · rw [if_pos h] at this
        rw [h, valV_one]
        exact this tv (.refl sub) ht
      · rw [if_neg h] at this
        rw [valV_no h]
        exact this _ (.refl sub) hv
    have hnn : ∀ y, e ≠ .name y := fun y z => hx ⟨y, z⟩
    refine isF (tag_name hnn).1 ?_
    refine ⟨Nat.zero_le _, fun L nL => ?_⟩
    have rL : R L = none := sub.free nL
    have m0 : Mv F0 R H R _ := mv_mut (o := .lst []) sub nL
    have hL0 : (upd H L (.lst [])) L = some (.lst []) := upd_same
    refine ⟨_, rfl, R, _, _, _, rfl, m0.sub, hv, hparts, fun R2 H2 u2 m2 au2 => ?_⟩
    refine ⟨_, rfl, R2, _, _, _, rfl, m2.sub, hv.up m2.up, hbnd, fun R3 H3 u3 m3 au3 => ?_⟩
    have au2 := au2.up m3.up
    obtain ⟨p1, xs, rfl, hp1, a1⟩ := au2
    obtain ⟨p2, ys, rfl, hp2, a2⟩ := au3
    have l1 := a1.length
    have l2 := a2.length
    rw [List.length_map] at l1
    rw [show (bndD (bnds e)).length = (bnds e).length by unfold bndD; rw [List.length_map], ← parts_bnds] at l2
    have m23 := m2.tr m3
    have mv3 : Mv F0 R H R3 H3 := m0.tr m23
    have hL3 := m23.same _ _ hL0
    have rL3 := m23.out rL hL0
    have hd3 := m23.up _ _ hd
    have ht3 := ht.up m23.up
    refine ⟨p1, p2, xs, ys, rfl, SqL.of (m3.sub _ _ hp1), SqL.of (m3.sub _ _ hp2), ?_⟩
    refine RZ.for_zipL (K := K) (a := p1) (b := p2) (xs := xs) (ys := ys) (by rw [l1, l2]) (fun i σ H' => ∃ (R' : Hp) (acc : List V) (z1 z2 z3 : Option V), σ = [some (.ref pe), some (.ref d), some (.ref L), z1, z2, z3, none] ∧ Mv F0 R H R' H' ∧ Same R3 R' ∧ R' L = none ∧ H' L = some (.lst acc) ∧ Ats R' (((((exParts e).zip (bnds e)).take i).map (sub1 x t)).map (Ex.d false)) acc) ⟨R3, [], none, none, none, rfl, mv3, .refl _, rL3, hL3, rfl⟩ ?_ ?_ ?_
    · rintro i σ H' ⟨R', acc, z1, z2, z3, rfl, mv', s3, _⟩
      exact ⟨SqL.of (mv'.sub _ _ (s3 _ _ hp1)), SqL.of (mv'.sub _ _ (s3 _ _ hp2))⟩
    · rintro i u w0 T σ H' hu' hw' ⟨R', acc, z1, z2, z3, rfl, mv', s3, rL', hL', aw⟩ nT
      obtain ⟨dd, hdd, ad⟩ := a1.mem hu'
      obtain ⟨db, hdb, ab⟩ := a2.mem hw'
      rw [List.getElem?_map] at hdd
      unfold bndD at hdb
      rw [List.getElem?_map] at hdb
      cases eg : (exParts e)[i]? with
      | none => rw [eg] at hdd; cases hdd
      | some g =>
        cases eb : (bnds e)[i]? with
        | none => rw [eb] at hdb; cases hdb
        | some b2 =>
          rw [eg] at hdd
          rw [eb] at hdb
          obtain rfl : g.d false = dd := Option.some.inj hdd
          obtain rfl : D.tup (b2.map D.str) = db := Option.some.inj hdb
          have ez : ((exParts e).zip (bnds e))[i]? = some (g, b2) := List.getElem?_zip_eq_some.mpr ⟨eg, eb⟩
          obtain ⟨pd, ps⟩ := part_mem (List.mem_of_getElem? eg)
          have ad := ad.up s3
          have ab := ab.up s3
          have hd' := s3 _ _ hd3
          have ht' := ht3.up s3
          obtain ⟨pb2, b2vs, rfl, hpb2, hb2s⟩ := ab
          have eb2 := ats_str hb2s
          subst eb2
          have mT : Mv F0 R' H' R' _ := mv_mut (o := .tup [u, .ref pb2]) mv'.sub nT
          have mvT := mv'.tr mT
          have hLT := mT.same _ _ hL'
          refine ⟨T, _, rfl, SqT.of upd_same, rfl, _, _, rfl, _, _, rfl, rfl, ?_⟩
          refine ⟨fun σ H5 => ∃ (R5 : Hp) (d5 : Addr) (kvs : List (Key × V)), σ = [some (.ref pe), some (.ref d), some (.ref L), some u, some (.ref pb2), some (.ref d5), none] ∧ Mv F0 R H R5 H5 ∧ Same R' R5 ∧ R5 L = none ∧ H5 L = some (.lst acc) ∧ R5 d5 = some (.dK kvs) ∧ ((x ∈ b2 ∧ kvs = []) ∨ (x ∉ b2 ∧ kvs = [((Sum.inr x : Key), tv)])), ?_, ?_⟩
          · refine ⟨_, rfl, _, .inr (.inl ⟨_, SqT.of (mT.sub _ _ hpb2), rfl⟩), ?_⟩
            cases b2 with
            | nil =>
              refine ifF rfl ?_
              exact ⟨_, rfl, R', d, _, rfl, mvT, .refl _, rL', hLT, hd', .inr ⟨(fun h => by cases h), rfl⟩⟩
            | cons b0 br =>
              refine ifT rfl ?_
              have hdT := mT.sub _ _ hd'
              refine ⟨d, _, hdT, trivial, fun od => ?_⟩
              refine ⟨_, rfl, d, od, rfl, .inl ⟨_, upd_same, fun D nD => ?_⟩⟩
              have nDd : D ≠ d := fun z => by rw [z, upd_same] at nD; cases nD
              have nD0 : (upd H' T (.tup [u, .ref pb2])) D = none := by rw [upd_ne nDd] at nD; exact nD
              have hpbT := mT.sub _ _ hpb2
              have nbd : pb2 ≠ d := ne_of hpb2 hd' (by intro z; cases z)
              have nbD : pb2 ≠ D := ne_of_none hpbT nD0
              refine walkW walk_keys (fun i Hc => Hc = upd (upd (upd H' T (.tup [u, .ref pb2])) d (.frz od (.dK [((Sum.inr x : Key), tv)]))) D (.dK (if i = 0 ∨ x ∈ (b0 :: br) then [] else [((Sum.inr x : Key), tv)]))) (by rw [if_pos (Or.inl rfl)]) (fun i Hc _ z => by rw [z, upd_ne nDd.symm, upd_same]) ?_ ?_
              · rintro i y Hc Hc' hi rfl ⟨rfl, k, vv, hk, rfl⟩
                obtain rfl : i = 0 := by
                  have : i < 1 := hi
                  omega
                cases (show (((Sum.inr x : Key), tv) : Key × V) = (k, vv) from Option.some.inj hk)
                have e0 : (upd (upd (upd H' T (.tup [u, .ref pb2])) d (.frz od (.dK [((Sum.inr x : Key), tv)]))) D (.dK (if (0 : Nat) = 0 ∨ x ∈ (b0 :: br) then [] else [((Sum.inr x : Key), tv)]))) pb2 = some (.tup ((b0 :: br).map V.str)) := by rw [upd_ne nbD, upd_ne nbd]; exact hpbT
                refine ⟨rfl, _, rfl, _, rfl, pb2, _, rfl, .inr (SqT.of e0), rfl, flat_str _, _, rfl, ?_⟩
                show if (!inV (.str x) ((b0 :: br).map V.str)) = true then _ else _
                rw [inV_str]
                by_cases c : x ∈ (b0 :: br)
                · refine ifF (by rw [decide_eq_true c]; rfl) ?_
                  show upd _ D _ = upd _ D _
                  rw [if_pos (Or.inl rfl), if_pos (Or.inr c)]
                · refine ifT (by rw [decide_eq_false c]; rfl) ?_
                  refine ⟨_, rfl, _, rfl, _, rfl, d, tv, rfl, .inl ⟨[((Sum.inr x : Key), tv)], Sum.inr x, .inr ⟨od, by rw [upd_ne nDd.symm, upd_same]⟩, rfl, ?_⟩, [], Sum.inr x, rfl, ?_, by decide, ?_⟩
                  · exact valV_one.symm
                  · rw [upd_same, if_pos (Or.inl rfl)]
                  · show upd _ D _ = upd _ D _
                    rw [upd_twice, if_neg (fun z => z.elim (fun z => Nat.succ_ne_zero _ z) c)]
                    rfl
              · rintro Hc rfl
                refine ⟨by rw [upd_ne nDd.symm, upd_same], ?_⟩
                rw [upd_lock hdT nDd]
                have mD : Mv F0 R' (upd H' T (.tup [u, .ref pb2])) _ _ := mv_new (o := .dK (if ([((Sum.inr x : Key), tv)] : List (Key × V)).length = 0 ∨ x ∈ (b0 :: br) then [] else [((Sum.inr x : Key), tv)])) mT.sub nD0
                refine ⟨_, D, _, rfl, mvT.tr mD, mD.up, mD.out rL' hLT, mD.same _ _ hLT, upd_same, ?_⟩
                by_cases c : x ∈ (b0 :: br)
                · exact .inl ⟨c, if_pos (Or.inr c)⟩
                · exact .inr ⟨c, if_neg (fun z => z.elim (fun z => Nat.succ_ne_zero _ z) c)⟩
          · rintro σ H5 ⟨R5, d5, kvs, rfl, mv5, s5, rL5, hL5, hd5, hcase⟩
            refine ⟨_, rfl, .inl ⟨rfl, _, SqL.of hL5⟩, ?_⟩
            refine ⟨_, rfl, _, .inr (.inr ⟨kvs, mv5.sub _ _ hd5, rfl⟩), ?_⟩
            have lw := aw.length
            have li : i < (exParts e).length := (List.getElem?_eq_some_iff.mp eg).1
            rw [List.length_map, List.length_map, List.length_take] at lw
            have lq : (exParts e).length ≤ 1000 := by
              cases e with
              | hd e x f cs =>
                show cs.gs.length + 1 + 1 ≤ 1000
                rw [Clz.lg]
                have : cs.len ≤ 900 := hcl
                omega
              | _ => simp [exParts]
            have lsm : acc.length < sizeLine := Nat.lt_of_le_of_lt (by omega : acc.length ≤ 1000) (by decide)
            have tk : ((((exParts e).zip (bnds e)).take (i + 1)).map (sub1 x t)).map (Ex.d false) = ((((exParts e).zip (bnds e)).take i).map (sub1 x t)).map (Ex.d false) ++ [(sub1 x t (g, b2)).d false] := by
              rw [List.take_add_one, ez, List.map_append, List.map_append]; rfl
            have aw5 := aw.up s5
            have fin : ∀ (R6 H6 : Hp) (y : V), Mv F0 R H R6 H6 → Same R5 R6 → R6 L = none → H6 L = some (.lst acc) → At R6 ((sub1 x t (g, b2)).d false) y → ∃ (R' : Hp) (ac2 : List V) (z1 z2 z3 : Option V), ([some (.ref pe), some (.ref d), some (.ref L), some u, some (.ref pb2), some (.ref d5), none] : L2.St) = [some (.ref pe), some (.ref d), some (.ref L), z1, z2, z3, none] ∧ Mv F0 R H R' (upd H6 L (.lst (acc ++ [y]))) ∧ Same R3 R' ∧ R' L = none ∧ (upd H6 L (.lst (acc ++ [y]))) L = some (.lst ac2) ∧ Ats R' (((((exParts e).zip (bnds e)).take (i + 1)).map (sub1 x t)).map (Ex.d false)) ac2 := by
              intro R6 H6 y mv6 s6 rL6 hL6 ay
              have mset : Mv (fun z => z = L) R6 H6 R6 _ := mv_at (o := .lst (acc ++ [y])) mv6.sub rL6 hL6 rfl
              refine ⟨R6, acc ++ [y], _, _, _, rfl, mv6.trans mset (fun _ f => f) (fun z f => .inr (by rw [f]; exact nL)), (s3.trans s5).trans s6, rL6, upd_same, ?_⟩
              rw [tk]
              exact (aw5.up s6).append (Ats.one ay)
            rcases hcase with ⟨c, rfl⟩ | ⟨c, rfl⟩
            · refine ifF rfl ?_
              refine ⟨_, rfl, L, _, _, rfl, rfl, hL5, lsm, ?_⟩
              refine fin R5 H5 u mv5 (.refl _) rL5 hL5 ?_
              rw [show sub1 x t (g, b2) = g from if_pos c]
              exact ad.up s5
            · refine ifT rfl ?_
              refine ⟨_, rfl, _, rfl, R5, g, t, x, u, tv, d5, rfl, mv5.sub, ad.up s5, ht'.up s5, hd5, by omega, ps sm, fun R6 H6 y m6 ay => ?_⟩
              refine ⟨L, _, _, rfl, rfl, m6.same _ _ hL5, lsm, ?_⟩
              refine fin R6 H6 y (mv5.tr m6) m6.up (m6.out rL5 hL5) (m6.same _ _ hL5) ?_
              rw [show sub1 x t (g, b2) = subE x t g from if_neg c]
              exact ay
    · rintro σ H4 ⟨R4, acc, z1, z2, z3, rfl, mv4, s4, rL4, hL4, aw⟩
      have lz : ((exParts e).zip (bnds e)).length = (exParts e).length := by rw [List.length_zip, parts_bnds]; exact Nat.min_self _
      rw [l1, ← lz, List.take_length] at aw
      have lw := aw.length
      rw [List.length_map, List.length_map, lz] at lw
      -- the list stands still from here
      have mvL : Mv F0 R H (upd R4 L (.lst acc)) H4 := mv4.freeze rL4 hL4 nL
      refine ⟨_, rfl, _, rfl, upd R4 L (.lst acc), e.d false, _, _, _, _, rfl, mvL.sub, hv.up mvL.up, ⟨L, acc, rfl, upd_same, aw.up (same_new rL4)⟩, with_p e (((exParts e).zip (bnds e)).map (sub1 x t)) (by rw [List.length_map, lz]) hcl, fun R5 H5 z m5 az => ?_⟩
      rw [sub_with x t hnn] at az
      exact q R5 H5 z (mvL.tr m5) az
abbrev g_put_in : Stmt := topS 8
abbrev n_put_in : List Str := ["expression", "name", "tree"]
abbrev p_put_in : List Str := ["expression", "name", "tree"]
theorem sc_put_in : FnScope n_put_in p_put_in (defScope g_put_in) := ⟨rfl, rfl, rfl, by decide +kernel, rfl, by decide +kernel, by decide +kernel⟩
def spPI (n : Nat) : Sp := fun vs H Q _ => ∃ (R : Hp) (e t : Ex) (x : Str) (v tv : V), vs = [v, .str x, tv] ∧ Same R H ∧ At R (e.d false) v ∧ At R (t.d false) tv ∧ exD e ≤ n ∧ smE e = true ∧ ∀ (R' H' : Hp) (u : V), Mv F0 R H R' H' → At R' ((subE x t e).d false) u → Q u H'
theorem ok_pi {n : Nat} {f fA : Addr} {fd fdA : FuncData} (F : Fun K "put_in" "put_in" g_put_in f fd) (GA : Fn P w K mg base CX0 (n + 3) "put_all_in" p_put_all_in (spPA n) fA fdA) : FnOk P w K mg base CX0 (n + 4) f fd p_put_in (spPI n) := by
  refine F.ok (k := n + 3) sc_put_in (fun vs H Q E h => ?_) (fun cdv A outer st H vs Q E hr h => ?_)
  · obtain ⟨R, e, t, x, v, tv, rfl, _⟩ := h
    rfl
  · obtain ⟨R, e, t, x, v, tv, rfl, sub, hv, ht, dep, sm, q⟩ := h
    refine ⟨_, (pss_one (ps_ret (pe_call GA.ok hr (by rfl) GA.g GA.kp GA.b .nil pass0 (pa_cons (pv 0) (pa_cons (pe_disp (pps_cons (pv 1) (pv 2) pps_nil) (by rfl) (by rfl) (fun z => by cases z) (by decide)) pa_nil))))), ?_⟩
    refine ⟨_, rfl, fun p np => ?_⟩
    have n2 : (upd H p (.dK [])) p = some (.dK []) := upd_same
    refine ⟨_, rfl, _, rfl, n2, [((Sum.inr x : Key), tv)], rfl, (by show 1 ≤ 15; decide), ?_⟩
    rw [upd_twice]
    have m1 : Mv F0 R H _ _ := mv_new (o := .dK (mergeK [] [((Sum.inr x : Key), tv)])) sub np
    exact ⟨_, e, t, x, v, tv, p, rfl, m1.sub, hv.up m1.up, ht.up m1.up, upd_same, dep, sm, fun R2 H2 u m2 au => q R2 H2 u (m1.tr m2) au⟩
end
end Bz


set_option Elab.async false
set_option linter.all false
set_option maxRecDepth 100000
set_option maxHeartbeats 4000000
namespace Bz
open PySem PySem.Spec L2 PyProof.Rows
def trA (n : Nat) : Nat := 3 * n + 1
def trB : Nat → Nat
  | 0 => 1
  | n + 1 => 5 * trB n + 1
theorem trB_ge : ∀ n, 1 ≤ trB n
  | 0 => Nat.le_refl _
  | n + 1 => by have := trB_ge n; show 1 ≤ 5 * trB n + 1; omega
theorem T3.up {e : Ex} {a b n : Nat} (h : T3 e a b) (x : a ≤ 3 * n + 4) (y : b ≤ 5 * trB n + 1) : T3 e (trA (n + 1)) (trB (n + 1)) := h.mono (by show a ≤ 3 * (n + 1) + 1; omega) y
theorem mx3 {a b c : Nat} (x : a ≤ c) (y : b ≤ c) : max a b + 1 ≤ c + 1 := Nat.succ_le_succ (Nat.max_le.mpr ⟨x, y⟩)
theorem T3.num {n : Int} (h : okI n = true) : T3 (.num n) 1 1 := ⟨Nat.le_refl _, Nat.le_refl _, h⟩
theorem T3.flag {n : Bool} : T3 (.flag n) 1 1 := ⟨Nat.le_refl _, Nat.le_refl _, rfl⟩
theorem T3.unit : T3 .unit 1 1 := ⟨Nat.le_refl _, Nat.le_refl _, rfl⟩
theorem T3.name {x : Str} (h : okNm x = true) : T3 (.name x) 1 1 := ⟨Nat.le_refl _, Nat.le_refl _, h⟩
section
variable {e f g : Ex} {a b c d : Nat} {x y : Str}
theorem T3.call (p : T3 f a b) (q : T3 e a c) : T3 (.call f e) (a + 1) (b + c + 1) := ⟨mx3 p.d q.d, Nat.succ_le_succ (Nat.add_le_add p.n q.n), and2i p.g q.g⟩
theorem T3.pair (p : T3 f a b) (q : T3 e a c) : T3 (.pair f e) (a + 1) (b + c + 1) := ⟨mx3 p.d q.d, Nat.succ_le_succ (Nat.add_le_add p.n q.n), and2i p.g q.g⟩
theorem T3.pr (p : T3 f a b) (q : T3 e a c) : T3 (.pr f e) (a + 1) (b + c + 1) := ⟨mx3 p.d q.d, Nat.succ_le_succ (Nat.add_le_add p.n q.n), and2i p.g q.g⟩
theorem T3.op (h : okOp x = true) (p : T3 f a b) (q : T3 e a c) : T3 (.op x f e) (a + 1) (b + c + 1) := ⟨mx3 p.d q.d, Nat.succ_le_succ (Nat.add_le_add p.n q.n), and2i h (and2i p.g q.g)⟩
theorem T3.lt (h : okNm x = true) (p : T3 f a b) (q : T3 e a c) : T3 (.lt x f e) (a + 1) (b + c + 1) := ⟨mx3 p.d q.d, Nat.succ_le_succ (Nat.add_le_add p.n q.n), and2i h (and2i p.g q.g)⟩
theorem T3.ite (p : T3 e a b) (q : T3 f a c) (r : T3 g a d) : T3 (.ite e f g) (a + 1) (b + (c + d) + 1) := ⟨Nat.succ_le_succ (Nat.max_le.mpr ⟨p.d, Nat.max_le.mpr ⟨q.d, r.d⟩⟩), Nat.succ_le_succ (Nat.add_le_add p.n (Nat.add_le_add q.n r.n)), and2i p.g (and2i q.g r.g)⟩
theorem T3.fn (h : okNm x = true) (p : T3 f a b) : T3 (.fn x f) (a + 1) (b + 1) := ⟨Nat.succ_le_succ p.d, Nat.succ_le_succ p.n, and2i h p.g⟩
theorem T3.rc (h : okNm y = true) (h2 : okNm x = true) (p : T3 f a b) : T3 (.rc y x f) (a + 1) (b + 1) := ⟨Nat.succ_le_succ p.d, Nat.succ_le_succ p.n, and2i h (and2i h2 p.g)⟩
theorem T3.fst (p : T3 f a b) : T3 (.fst f) (a + 1) (b + 1) := ⟨Nat.succ_le_succ p.d, Nat.succ_le_succ p.n, p.g⟩
theorem T3.snd (p : T3 f a b) : T3 (.snd f) (a + 1) (b + 1) := ⟨Nat.succ_le_succ p.d, Nat.succ_le_succ p.n, p.g⟩
theorem T3.nt (p : T3 f a b) : T3 (.nt f) (a + 1) (b + 1) := ⟨Nat.succ_le_succ p.d, Nat.succ_le_succ p.n, p.g⟩
theorem T3.ask (h : okNm x = true) (p : T3 f a b) : T3 (.ask x f) (a + 1) (b + 1) := ⟨Nat.succ_le_succ p.d, Nat.succ_le_succ p.n, and2i h p.g⟩
end
structure T3C (cs : Clz) (a b : Nat) : Prop where
  d : ddC cs ≤ a
  n : clN cs ≤ b
  g : gdC cs = true
theorem T3C.nil {a b : Nat} : T3C .nil a b := ⟨Nat.zero_le _, Nat.zero_le _, rfl⟩
theorem T3C.mono {e : Clz} {a b c d : Nat} (h : T3C e a b) (x : a ≤ c) (y : b ≤ d) : T3C e c d := ⟨Nat.le_trans h.d x, Nat.le_trans h.n y, h.g⟩
theorem T3C.snoc : ∀ {cs : Clz} {a b c : Nat} {o x k : Str} {g : Ex}, T3C cs (a + 1) b → okNm o = true → okNm x = true → okNm k = true → T3 g a c → T3C (cs.snoc o x k g) (a + 1) (b + c)
  | .nil, a, b, c, o, x, k, g, h, ho, hx, hk, hg => ⟨Nat.max_le.mpr ⟨Nat.succ_le_succ hg.d, Nat.zero_le _⟩, by show exN g + 0 ≤ b + c; have := hg.n; omega, and2i ho (and2i hx (and2i hk (and2i hg.g rfl)))⟩
  | .cons o x k g r, a, b, c, o', x', k', g', h, ho, hx, hk, hg => by
    have h2 := (and2 (and2 (and2 (and2 h.g).2).2).2).2
    have hd := Nat.max_le.mp h.d
    have hn : exN g + clN r ≤ b := h.n
    have ih := T3C.snoc (cs := r) (b := b - exN g) ⟨hd.2, by omega, h2⟩ ho hx hk hg
    refine ⟨Nat.max_le.mpr ⟨hd.1, ih.d⟩, ?_, and2i (and2 h.g).1 (and2i (and2 (and2 h.g).2).1 (and2i (and2 (and2 (and2 h.g).2).2).1 (and2i (and2 (and2 (and2 (and2 h.g).2).2).2).1 ih.g)))⟩
    have := ih.n
    show exN g + clN (r.snoc o' x' k' g') ≤ b + c
    omega
theorem T3.hd {e f : Ex} {cs : Clz} {x : Str} {a b c d : Nat} (h : okNm x = true) (hl : cs.len ≤ 3) (p : T3 e (a + 1) b) (q : T3 f a c) (r : T3C cs a d) : T3 (.hd e x f cs) (a + 2) (b + (c + d) + 1) :=
  ⟨Nat.succ_le_succ (Nat.max_le.mpr ⟨p.d, Nat.max_le.mpr ⟨Nat.succ_le_succ q.d, Nat.succ_le_succ r.d⟩⟩), Nat.succ_le_succ (Nat.add_le_add p.n (Nat.add_le_add q.n r.n)), and2i (decide_eq_true hl) (and2i h (and2i p.g (and2i q.g r.g)))⟩
def word5 : List Str := ["x", "y", "k", "z", "x"]
theorem word5_get {z : Nat} (h : z < 5) : ∃ x, word5[z]? = some x ∧ okNm x = true := by
  rcases (by omega : z = 0 ∨ z = 1 ∨ z = 2 ∨ z = 3 ∨ z = 4) with rfl | rfl | rfl | rfl | rfl <;> exact ⟨_, rfl, by decide +kernel⟩
def sign5 : List Str := ["+", "-", "*", "<", "=="]
theorem sign5_get {z : Nat} (h : z < 5) : ∃ x, sign5[z]? = some x ∧ okOp x = true := by
  rcases (by omega : z = 0 ∨ z = 1 ∨ z = 2 ∨ z = 3 ∨ z = 4) with rfl | rfl | rfl | rfl | rfl <;> exact ⟨_, rfl, by decide +kernel⟩
section
variable {P : Program} {w : World} {K : PySem.W.Frag} {mg : Str → Option Value} {base : Heap}
abbrev g__law_word : Stmt := topS 13
abbrev n__law_word : List Str := ["state"]
abbrev p__law_word : List Str := ["state"]
theorem sc__law_word : FnScope n__law_word p__law_word (defScope g__law_word) := ⟨rfl, rfl, rfl, by decide +kernel, rfl, by decide +kernel, by decide +kernel⟩
def spWord : Sp := fun vs H Q _ => ∃ (R : Hp) (s c : Addr), vs = [.ref s] ∧ Wd R H s c ∧ ∀ (R' H' : Hp) (x : Str), Mv (Fst s c) R H R' H' → Wd R' H' s c → okNm x = true → Q (.str x) H'
theorem ok_word {f fT : Addr} {fd fdT : FuncData} (F : Fun K "_law_word" "_law_word" g__law_word f fd) (GT : Fn P w K mg base CX0 1 "_law_take" p__law_take spTake fT fdT) : FnOk P w K mg base CX0 2 f fd p__law_word spWord := by
  refine F.ok (k := 1) sc__law_word (fun vs H Q E h => ?_) (fun cdv A outer st H vs Q E hr h => ?_)
  · obtain ⟨R, s, c, rfl, _⟩ := h
    rfl
  · obtain ⟨R, s, c, rfl, w, q⟩ := h
    refine ⟨_, (pss_one (ps_ret (pe_ix ix_list (pe_lst (pa_cons (pe_str) (pa_cons (pe_str) (pa_cons (pe_str) (pa_cons (pe_str) (pa_cons (pe_str) pa_nil)))))) (pe_call GT.ok (hr.mono (by omega)) (by rfl) GT.g GT.kp GT.b .nil pass0 (pa_cons (pv 0) (pa_cons (pe_int) pa_nil))) (fun _ _ => rfl)))), ?_⟩
    have mm : Mv (Fst s c) R H R H := .refl w.sub
    refine ⟨by show 5 ≤ sizeLine; decide, fun p1 n1 => ?_⟩
    obtain ⟨Q1, m1, al⟩ := lit3 w.sub (l := word5.map D.str) ⟨_, _, rfl, at_str, _, _, rfl, at_str, _, _, rfl, at_str, _, _, rfl, at_str, _, _, rfl, at_str, rfl⟩ n1
    have w := w.up0 m1
    have mm := mm.tr0 m1
    refine ⟨_, rfl, _, s, c, 5, rfl, by decide, by decide, w.sub, w.rs, w.rc, w.st, fun J2 z2 st2 c2 z20 z21 => ?_⟩
    have w := w.took c2 st2
    have mm := mm.tr c2
    obtain ⟨jj3, rfl⟩ : ∃ j : Nat, z2 = (j : Int) := ⟨z2.toNat, by omega⟩
    obtain ⟨x, hx3, hlx⟩ := word5_get (z := jj3) (by omega)
    obtain ⟨pX3, vX3, eX3, hX3, tX3⟩ := id al
    cases eX3
    obtain ⟨xv3, hxv3, rfl⟩ := tX3.get (d := D.str x) (i := jj3) (by rw [List.getElem?_map, hx3]; rfl)
    refine ⟨_, _, _, _, rfl, rfl, SqL.of (w.sub _ _ hX3), atI_nat hxv3, ?_⟩
    exact q _ _ x mm w hlx
abbrev g__law_any : Stmt := topS 15
abbrev n__law_any : List Str := ["state", "depth", "kind", "number", "name", "sign", "one", "two"]
abbrev p__law_any : List Str := ["state", "depth"]
theorem sc__law_any : FnScope n__law_any p__law_any (defScope g__law_any) := ⟨rfl, rfl, rfl, by decide +kernel, rfl, by decide +kernel, by decide +kernel⟩
def spAny (n : Nat) : Sp := fun vs H Q _ => ∃ (R : Hp) (s c : Addr) (d : Int), vs = [.ref s, .int d] ∧ d ≤ (n : Int) ∧ Wd R H s c ∧ ∀ (R' H' : Hp) (e : Ex) (v : V), Mv (Fst s c) R H R' H' → Wd R' H' s c → At R' (e.d false) v → T3 e (trA n) (trB n) → Q v H'
theorem ok_any0 {f fT fW : Addr} {fd fdT fdW : FuncData} (F : Fun K "_law_any" "_law_any" g__law_any f fd) (mi : mg "int" = none) (GT : Fn P w K mg base CX0 1 "_law_take" p__law_take spTake fT fdT) (GW : Fn P w K mg base CX0 2 "_law_word" p__law_word spWord fW fdW) : FnOk P w K mg base CX0 (2 + 1) f fd p__law_any (spAny 0) := by
  refine F.ok (k := 2) sc__law_any (fun vs H Q E h => ?_) (fun cdv A outer st H vs Q E hr h => ?_)
  · obtain ⟨R, s, c, d, rfl, _⟩ := h
    rfl
  · obtain ⟨R, s, c, d, rfl, hd, w, q⟩ := h
    refine ⟨_, (pss_cons (ps_set (i := 2) sc__law_any.nd rfl (Or.inl rfl) (pe_call GT.ok (hr.mono (by omega)) (by rfl) GT.g GT.kp GT.b .nil pass0 (pa_cons (pv 0) (pa_cons (pe_int) pa_nil))))
      (pss_cons (ps_if (PW.pt (pw_or (pt_cmpR op_lt (pv 1) (pe_int) (nomark _)) (pw_or1 (pt_cmpR op_lt (pv 2) (pe_int) (nomark _))))) (pss_cons (ps_set (i := 3) sc__law_any.nd rfl (Or.inl rfl) (pe_ix ix_list (pe_lst (pa_cons (pe_call GT.ok (hr.mono (by omega)) (by rfl) GT.g GT.kp GT.b .nil pass0 (pa_cons (pv 0) (pa_cons (pe_int) pa_nil))) (pa_cons (pe_op op_sub (pe_int) (pe_call GT.ok (hr.mono (by omega)) (by rfl) GT.g GT.kp GT.b .nil pass0 (pa_cons (pv 0) (pa_cons (pe_int) pa_nil)))) pa_nil))) (pe_callTy call_int1 (by rfl) mi (by decide +kernel) (pa_cons (pe_cmpR op_eq (pe_call GT.ok (hr.mono (by omega)) (by rfl) GT.g GT.kp GT.b .nil pass0 (pa_cons (pv 0) (pa_cons (pe_int) pa_nil))) (pe_int) (nomark _)) pa_nil)) (fun _ _ => rfl)))
      (pss_one (ps_ret (pe_ix ix_list (pe_lst (pa_cons (pe_tup (pa_cons (pe_str) (pa_cons (pv 3) pa_nil))) (pa_cons (pe_tup (pa_cons (pe_str) (pa_cons (pe_cmpR op_eq (pv 2) (pe_int) (nomark _)) pa_nil))) (pa_cons (pe_tup (pa_cons (pe_str) pa_nil)) (pa_cons (pe_tup (pa_cons (pe_str) (pa_cons (pe_call GW.ok (hr.mono (by omega)) (by rfl) GW.g GW.kp GW.b .nil pass0 (pa_cons (pv 0) pa_nil)) pa_nil))) pa_nil))))) (pe_call GT.ok (hr.mono (by omega)) (by rfl) GT.g GT.kp GT.b .nil pass0 (pa_cons (pv 0) (pa_cons (pe_int) pa_nil))) (fun _ _ => rfl))))) pss_nil) pss_never)), ?_⟩
    have mm : Mv (Fst s c) R H R H := .refl w.sub
    refine ⟨_, rfl, _, s, c, 20, rfl, by decide, by decide, w.sub, w.rs, w.rc, w.st, fun J1 z1 st1 c1 z10 z11 => ?_⟩
    have w := w.took c1 st1
    have mm := mm.tr c1
    show gName 2 _ _ _ _
    refine ⟨_, rfl, _, _, rfl, rfl, _, rfl, ?_⟩
    refine ifT (decide_eq_true (by omega)) ?_
    refine ⟨_, rfl, _, s, c, 99, rfl, by decide, by decide, w.sub, w.rs, w.rc, w.st, fun J2 z2 st2 c2 z20 z21 => ?_⟩
    have w := w.took c2 st2
    have mm := mm.tr c2
    refine ⟨_, rfl, _, s, c, 9, rfl, by decide, by decide, w.sub, w.rs, w.rc, w.st, fun J3 z3 st3 c3 z30 z31 => ?_⟩
    have w := w.took c3 st3
    have mm := mm.tr c3
    refine ⟨_, _, rfl, rfl, by show 2 ≤ sizeLine; decide, fun pN nN => ?_⟩
    have mN : Mv F0 _ _ _ _ := mv_mut (F := F0) (o := .lst [.int z2, .int (2147483647 - z3)]) w.sub nN
    have nFN : ¬ Fst s c pN := w.nf nN
    have hN : (upd _ pN (.lst [.int z2, .int (2147483647 - z3)])) pN = some (.lst [.int z2, .int (2147483647 - z3)]) := upd_same (H := J3)
    have w := w.up0 mN
    have mm := mm.tr0 mN
    refine ⟨_, rfl, _, s, c, 6, rfl, by decide, by decide, w.sub, w.rs, w.rc, w.st, fun J5 z5 st5 c5 z50 z51 => ?_⟩
    have w := w.took c5 st5
    have mm := mm.tr c5
    have hN := c5.keep _ _ hN nFN
    obtain ⟨nn, hn, okn⟩ : ∃ nn : Int, atI ([.int z2, .int (2147483647 - z3)] : List V) (if decide (V.int z5 = V.int 0) then 1 else 0) = some (.int nn) ∧ okI nn = true := by
      by_cases h : V.int z5 = V.int 0
      · exact ⟨2147483647 - z3, by rw [decide_eq_true h]; rfl, decide_eq_true (by omega)⟩
      · exact ⟨z2, by rw [decide_eq_false h]; rfl, decide_eq_true (by omega)⟩
    refine ⟨rfl, .inr ⟨_, rfl, pN, _, _, _, rfl, rfl, SqL.of hN, hn, ?_⟩⟩
    show gName 3 _ _ _ _
    refine ⟨_, rfl, by show 2 ≤ sizeLine; decide, fun p6 n6 => ?_⟩
    obtain ⟨Q6, m6, l1⟩ := lit2 w.sub (l := [.str "num", .int nn]) ⟨_, _, rfl, at_str, _, _, rfl, at_int, rfl⟩ n6
    have w := w.up0 m6
    have mm := mm.tr0 m6
    refine ⟨_, rfl, rfl, by show 2 ≤ sizeLine; decide, fun p7 n7 => ?_⟩
    obtain ⟨Q7, m7, l2⟩ := lit2 w.sub (l := [.str "flag", .bl (decide (V.int z1 = V.int 1))]) ⟨_, _, rfl, at_str, _, _, rfl, at_bl, rfl⟩ n7
    have w := w.up0 m7
    have mm := mm.tr0 m7
    have l1 := l1.up m7.up
    refine ⟨by show 1 ≤ sizeLine; decide, fun p8 n8 => ?_⟩
    obtain ⟨Q8, m8, l3⟩ := lit2 w.sub (l := [.str "unit"]) ⟨_, _, rfl, at_str, rfl⟩ n8
    have w := w.up0 m8
    have mm := mm.tr0 m8
    have l1 := l1.up m8.up
    have l2 := l2.up m8.up
    refine ⟨_, rfl, _, s, c, rfl, w, fun Q9 J9 x m w okx => ?_⟩
    have mm := mm.tr m
    have l1 := l1.up m.up
    have l2 := l2.up m.up
    have l3 := l3.up m.up
    refine ⟨by show 2 ≤ sizeLine; decide, fun p10 n10 => ?_⟩
    obtain ⟨Q10, m10, l4⟩ := lit2 w.sub (l := [.str "name", .str x]) ⟨_, _, rfl, at_str, _, _, rfl, at_str, rfl⟩ n10
    have w := w.up0 m10
    have mm := mm.tr0 m10
    have l1 := l1.up m10.up
    have l2 := l2.up m10.up
    have l3 := l3.up m10.up
    refine ⟨by show 4 ≤ sizeLine; decide, fun p11 n11 => ?_⟩
    obtain ⟨Q11, m11, lL⟩ := lit3 w.sub (l := [Ex.num nn, Ex.flag (decide (V.int z1 = V.int 1)), Ex.unit, Ex.name x].map (Ex.d false)) ⟨_, _, rfl, l1, _, _, rfl, l2, _, _, rfl, l3, _, _, rfl, l4, rfl⟩ n11
    have w := w.up0 m11
    have mm := mm.tr0 m11
    have l1 := l1.up m11.up
    have l2 := l2.up m11.up
    have l3 := l3.up m11.up
    have l4 := l4.up m11.up
    refine ⟨_, rfl, _, s, c, 4, rfl, by decide, by decide, w.sub, w.rs, w.rc, w.st, fun J12 z12 st12 c12 z120 z121 => ?_⟩
    have w := w.took c12 st12
    have mm := mm.tr c12
    obtain ⟨jz, rfl⟩ : ∃ j : Nat, z12 = (j : Int) := ⟨z12.toNat, by omega⟩
    obtain ⟨e, he, te⟩ : ∃ e, ([Ex.num nn, Ex.flag (decide (V.int z1 = V.int 1)), Ex.unit, Ex.name x])[jz]? = some e ∧ T3 e 1 1 := by
      rcases (by omega : jz = 0 ∨ jz = 1 ∨ jz = 2 ∨ jz = 3) with rfl | rfl | rfl | rfl
      · exact ⟨_, rfl, T3.num okn⟩
      · exact ⟨_, rfl, T3.flag⟩
      · exact ⟨_, rfl, T3.unit⟩
      · exact ⟨_, rfl, T3.name okx⟩
    obtain ⟨pL, vL, eL, hL, tL⟩ := id lL
    cases eL
    obtain ⟨v, hv, av⟩ := tL.get (d := e.d false) (i := jz) (by rw [List.getElem?_map, he]; rfl)
    refine ⟨_, _, _, _, rfl, rfl, SqL.of (w.sub _ _ hL), atI_nat hv, ?_⟩
    exact q _ _ e _ mm w av te
theorem ok_any {n : Nat} {f fT fW fH : Addr} {fd fdT fdW fdH : FuncData} (F : Fun K "_law_any" "_law_any" g__law_any f fd) (mi : mg "int" = none) (GT : Fn P w K mg base CX0 1 "_law_take" p__law_take spTake fT fdT) (GW : Fn P w K mg base CX0 2 "_law_word" p__law_word spWord fW fdW) (GH : Fn P w K mg base CX0 (3 + 2 * n + 1) "_law_handle" ["state", "depth"] (spAny (n + 1)) fH fdH)
    (GV : Fn P w K mg base CX0 (3 + 2 * n) "_law_any" p__law_any (spAny n) f fd) : FnOk P w K mg base CX0 (3 + 2 * n + 2) f fd p__law_any (spAny (n + 1)) := by
  refine F.ok (k := 3 + 2 * n + 1) sc__law_any (fun vs H Q E h => ?_) (fun cdv A outer st H vs Q E hr h => ?_)
  · obtain ⟨R, s, c, d, rfl, _⟩ := h
    rfl
  · obtain ⟨R, s, c, d, rfl, hd, w, q⟩ := h
    refine ⟨_, (pss_cons (ps_set (i := 2) sc__law_any.nd rfl (Or.inl rfl) (pe_call GT.ok (hr.mono (by omega)) (by rfl) GT.g GT.kp GT.b .nil pass0 (pa_cons (pv 0) (pa_cons (pe_int) pa_nil))))
      (pss_cons (ps_if (PW.pt (pw_or (pt_cmpR op_lt (pv 1) (pe_int) (nomark _)) (pw_or1 (pt_cmpR op_lt (pv 2) (pe_int) (nomark _))))) (pss_cons (ps_set (i := 3) sc__law_any.nd rfl (Or.inl rfl) (pe_ix ix_list (pe_lst (pa_cons (pe_call GT.ok (hr.mono (by omega)) (by rfl) GT.g GT.kp GT.b .nil pass0 (pa_cons (pv 0) (pa_cons (pe_int) pa_nil))) (pa_cons (pe_op op_sub (pe_int) (pe_call GT.ok (hr.mono (by omega)) (by rfl) GT.g GT.kp GT.b .nil pass0 (pa_cons (pv 0) (pa_cons (pe_int) pa_nil)))) pa_nil))) (pe_callTy call_int1 (by rfl) mi (by decide +kernel) (pa_cons (pe_cmpR op_eq (pe_call GT.ok (hr.mono (by omega)) (by rfl) GT.g GT.kp GT.b .nil pass0 (pa_cons (pv 0) (pa_cons (pe_int) pa_nil))) (pe_int) (nomark _)) pa_nil)) (fun _ _ => rfl)))
      (pss_one (ps_ret (pe_ix ix_list (pe_lst (pa_cons (pe_tup (pa_cons (pe_str) (pa_cons (pv 3) pa_nil))) (pa_cons (pe_tup (pa_cons (pe_str) (pa_cons (pe_cmpR op_eq (pv 2) (pe_int) (nomark _)) pa_nil))) (pa_cons (pe_tup (pa_cons (pe_str) pa_nil)) (pa_cons (pe_tup (pa_cons (pe_str) (pa_cons (pe_call GW.ok (hr.mono (by omega)) (by rfl) GW.g GW.kp GW.b .nil pass0 (pa_cons (pv 0) pa_nil)) pa_nil))) pa_nil))))) (pe_call GT.ok (hr.mono (by omega)) (by rfl) GT.g GT.kp GT.b .nil pass0 (pa_cons (pv 0) (pa_cons (pe_int) pa_nil))) (fun _ _ => rfl))))) pss_nil)
      (pss_cons (ps_if (pt_cmpR op_lt (pv 2) (pe_int) (nomark _)) (pss_one (ps_ret (pe_tup (pa_cons (pe_str) (pa_cons (pe_call GW.ok (hr.mono (by omega)) (by rfl) GW.g GW.kp GW.b .nil pass0 (pa_cons (pv 0) pa_nil)) (pa_cons (pe_call GV.ok (hr.mono (by omega)) (by rfl) GV.g GV.kp GV.b .nil pass0 (pa_cons (pv 0) (pa_cons (pe_op op_sub (pv 1) (pe_int)) pa_nil))) pa_nil)))))) pss_nil)
      (pss_cons (ps_if (pt_cmpR op_lt (pv 2) (pe_int) (nomark _)) (pss_one (ps_ret (pe_tup (pa_cons (pe_str) (pa_cons (pe_call GW.ok (hr.mono (by omega)) (by rfl) GW.g GW.kp GW.b .nil pass0 (pa_cons (pv 0) pa_nil)) (pa_cons (pe_call GW.ok (hr.mono (by omega)) (by rfl) GW.g GW.kp GW.b .nil pass0 (pa_cons (pv 0) pa_nil)) (pa_cons (pe_call GV.ok (hr.mono (by omega)) (by rfl) GV.g GV.kp GV.b .nil pass0 (pa_cons (pv 0) (pa_cons (pe_op op_sub (pv 1) (pe_int)) pa_nil))) pa_nil))))))) pss_nil)
      (pss_cons (ps_if (pt_cmpR op_eq (pv 2) (pe_int) (nomark _)) (pss_cons (ps_set (i := 4) sc__law_any.nd rfl (Or.inl rfl) (pe_call GW.ok (hr.mono (by omega)) (by rfl) GW.g GW.kp GW.b .nil pass0 (pa_cons (pv 0) pa_nil)))
      (pss_one (ps_ret (pe_tup (pa_cons (pe_str) (pa_cons (pv 4) (pa_cons (pe_call GV.ok (hr.mono (by omega)) (by rfl) GV.g GV.kp GV.b .nil pass0 (pa_cons (pv 0) (pa_cons (pe_op op_sub (pv 1) (pe_int)) pa_nil))) (pa_cons (pe_call GV.ok (hr.mono (by omega)) (by rfl) GV.g GV.kp GV.b .nil pass0 (pa_cons (pv 0) (pa_cons (pe_op op_sub (pv 1) (pe_int)) pa_nil))) pa_nil)))))))) pss_nil)
      (pss_cons (ps_if (pt_cmpR op_lt (pv 2) (pe_int) (nomark _)) (pss_cons (ps_set (i := 5) sc__law_any.nd rfl (Or.inl rfl) (pe_ix ix_list (pe_lst (pa_cons (pe_str) (pa_cons (pe_str) (pa_cons (pe_str) (pa_cons (pe_str) (pa_cons (pe_str) pa_nil)))))) (pe_call GT.ok (hr.mono (by omega)) (by rfl) GT.g GT.kp GT.b .nil pass0 (pa_cons (pv 0) (pa_cons (pe_int) pa_nil))) (fun _ _ => rfl)))
      (pss_one (ps_ret (pe_tup (pa_cons (pe_str) (pa_cons (pv 5) (pa_cons (pe_call GV.ok (hr.mono (by omega)) (by rfl) GV.g GV.kp GV.b .nil pass0 (pa_cons (pv 0) (pa_cons (pe_op op_sub (pv 1) (pe_int)) pa_nil))) (pa_cons (pe_call GV.ok (hr.mono (by omega)) (by rfl) GV.g GV.kp GV.b .nil pass0 (pa_cons (pv 0) (pa_cons (pe_op op_sub (pv 1) (pe_int)) pa_nil))) pa_nil)))))))) pss_nil)
      (pss_cons (ps_if (pt_cmpR op_lt (pv 2) (pe_int) (nomark _)) (pss_one (ps_ret (pe_tup (pa_cons (pe_str) (pa_cons (pe_call GW.ok (hr.mono (by omega)) (by rfl) GW.g GW.kp GW.b .nil pass0 (pa_cons (pv 0) pa_nil)) (pa_cons (pe_call GV.ok (hr.mono (by omega)) (by rfl) GV.g GV.kp GV.b .nil pass0 (pa_cons (pv 0) (pa_cons (pe_op op_sub (pv 1) (pe_int)) pa_nil))) pa_nil)))))) pss_nil)
      (pss_cons (ps_if (pt_cmpR op_lt (pv 2) (pe_int) (nomark _)) (pss_one (ps_ret (pe_tup (pa_cons (pe_ix ix_list (pe_lst (pa_cons (pe_str) (pa_cons (pe_str) (pa_cons (pe_str) pa_nil)))) (pe_call GT.ok (hr.mono (by omega)) (by rfl) GT.g GT.kp GT.b .nil pass0 (pa_cons (pv 0) (pa_cons (pe_int) pa_nil))) (fun _ _ => rfl)) (pa_cons (pe_call GV.ok (hr.mono (by omega)) (by rfl) GV.g GV.kp GV.b .nil pass0 (pa_cons (pv 0) (pa_cons (pe_op op_sub (pv 1) (pe_int)) pa_nil))) pa_nil))))) pss_nil)
      (pss_cons (ps_if (pt_cmpR op_eq (pv 2) (pe_int) (nomark _)) (pss_cons (ps_par (i := 6) (j := 7) (by rfl) sc__law_any.nd rfl rfl (by decide) rfl rfl (pa_cons (pe_call GV.ok (hr.mono (by omega)) (by rfl) GV.g GV.kp GV.b .nil pass0 (pa_cons (pv 0) (pa_cons (pe_op op_sub (pv 1) (pe_int)) pa_nil))) (pa_cons (pe_call GV.ok (hr.mono (by omega)) (by rfl) GV.g GV.kp GV.b .nil pass0 (pa_cons (pv 0) (pa_cons (pe_op op_sub (pv 1) (pe_int)) pa_nil))) pa_nil)) (by rfl))
      (pss_one (ps_ret (pe_tup (pa_cons (pe_str) (pa_cons (pv 6) (pa_cons (pv 7) (pa_cons (pe_call GV.ok (hr.mono (by omega)) (by rfl) GV.g GV.kp GV.b .nil pass0 (pa_cons (pv 0) (pa_cons (pe_op op_sub (pv 1) (pe_int)) pa_nil))) pa_nil)))))))) pss_nil)
      (pss_cons (ps_if (pt_cmpR op_lt (pv 2) (pe_int) (nomark _)) (pss_one (ps_ret (pe_call GH.ok hr (by rfl) GH.g GH.kp GH.b .nil pass0 (pa_cons (pv 0) (pa_cons (pv 1) pa_nil))))) pss_nil)
      (pss_one (ps_ret (pe_tup (pa_cons (pe_ix ix_list (pe_lst (pa_cons (pe_str) (pa_cons (pe_str) (pa_cons (pe_str) pa_nil)))) (pe_op op_sub (pv 2) (pe_int)) (fun _ _ => rfl)) (pa_cons (pe_call GV.ok (hr.mono (by omega)) (by rfl) GV.g GV.kp GV.b .nil pass0 (pa_cons (pv 0) (pa_cons (pe_op op_sub (pv 1) (pe_int)) pa_nil))) (pa_cons (pe_call GV.ok (hr.mono (by omega)) (by rfl) GV.g GV.kp GV.b .nil pass0 (pa_cons (pv 0) (pa_cons (pe_op op_sub (pv 1) (pe_int)) pa_nil))) pa_nil)))))))))))))))), ?_⟩
    have hB := trB_ge n
    have mm : Mv (Fst s c) R H R H := .refl w.sub
    refine ⟨_, rfl, _, s, c, 20, rfl, by decide, by decide, w.sub, w.rs, w.rc, w.st, fun J1 z1 st1 c1 z10 z11 => ?_⟩
    have w := w.took c1 st1
    have mm := mm.tr c1
    show gName 2 _ _ _ _
    refine ⟨_, rfl, _, _, rfl, rfl, _, rfl, ?_⟩
    by_cases h0 : d < 1
    · refine ifT (decide_eq_true h0) ?_
      refine ⟨_, rfl, _, s, c, 99, rfl, by decide, by decide, w.sub, w.rs, w.rc, w.st, fun J2 z2 st2 c2 z20 z21 => ?_⟩
      have w := w.took c2 st2
      have mm := mm.tr c2
      refine ⟨_, rfl, _, s, c, 9, rfl, by decide, by decide, w.sub, w.rs, w.rc, w.st, fun J3 z3 st3 c3 z30 z31 => ?_⟩
      have w := w.took c3 st3
      have mm := mm.tr c3
      refine ⟨_, _, rfl, rfl, by show 2 ≤ sizeLine; decide, fun pN nN => ?_⟩
      have mN : Mv F0 _ _ _ _ := mv_mut (F := F0) (o := .lst [.int z2, .int (2147483647 - z3)]) w.sub nN
      have nFN : ¬ Fst s c pN := w.nf nN
      have hN : (upd _ pN (.lst [.int z2, .int (2147483647 - z3)])) pN = some (.lst [.int z2, .int (2147483647 - z3)]) := upd_same (H := J3)
      have w := w.up0 mN
      have mm := mm.tr0 mN
      refine ⟨_, rfl, _, s, c, 6, rfl, by decide, by decide, w.sub, w.rs, w.rc, w.st, fun J5 z5 st5 c5 z50 z51 => ?_⟩
      have w := w.took c5 st5
      have mm := mm.tr c5
      have hN := c5.keep _ _ hN nFN
      obtain ⟨nn, hn, okn⟩ : ∃ nn : Int, atI ([.int z2, .int (2147483647 - z3)] : List V) (if decide (V.int z5 = V.int 0) then 1 else 0) = some (.int nn) ∧ okI nn = true := by
        by_cases h : V.int z5 = V.int 0
        · exact ⟨2147483647 - z3, by rw [decide_eq_true h]; rfl, decide_eq_true (by omega)⟩
        · exact ⟨z2, by rw [decide_eq_false h]; rfl, decide_eq_true (by omega)⟩
      refine ⟨rfl, .inr ⟨_, rfl, pN, _, _, _, rfl, rfl, SqL.of hN, hn, ?_⟩⟩
      show gName 3 _ _ _ _
      refine ⟨_, rfl, by show 2 ≤ sizeLine; decide, fun p6 n6 => ?_⟩
      obtain ⟨Q6, m6, l1⟩ := lit2 w.sub (l := [.str "num", .int nn]) ⟨_, _, rfl, at_str, _, _, rfl, at_int, rfl⟩ n6
      have w := w.up0 m6
      have mm := mm.tr0 m6
      refine ⟨_, rfl, rfl, by show 2 ≤ sizeLine; decide, fun p7 n7 => ?_⟩
      obtain ⟨Q7, m7, l2⟩ := lit2 w.sub (l := [.str "flag", .bl (decide (V.int z1 = V.int 1))]) ⟨_, _, rfl, at_str, _, _, rfl, at_bl, rfl⟩ n7
      have w := w.up0 m7
      have mm := mm.tr0 m7
      have l1 := l1.up m7.up
      refine ⟨by show 1 ≤ sizeLine; decide, fun p8 n8 => ?_⟩
      obtain ⟨Q8, m8, l3⟩ := lit2 w.sub (l := [.str "unit"]) ⟨_, _, rfl, at_str, rfl⟩ n8
      have w := w.up0 m8
      have mm := mm.tr0 m8
      have l1 := l1.up m8.up
      have l2 := l2.up m8.up
      refine ⟨_, rfl, _, s, c, rfl, w, fun Q9 J9 x m w okx => ?_⟩
      have mm := mm.tr m
      have l1 := l1.up m.up
      have l2 := l2.up m.up
      have l3 := l3.up m.up
      refine ⟨by show 2 ≤ sizeLine; decide, fun p10 n10 => ?_⟩
      obtain ⟨Q10, m10, l4⟩ := lit2 w.sub (l := [.str "name", .str x]) ⟨_, _, rfl, at_str, _, _, rfl, at_str, rfl⟩ n10
      have w := w.up0 m10
      have mm := mm.tr0 m10
      have l1 := l1.up m10.up
      have l2 := l2.up m10.up
      have l3 := l3.up m10.up
      refine ⟨by show 4 ≤ sizeLine; decide, fun p11 n11 => ?_⟩
      obtain ⟨Q11, m11, lL⟩ := lit3 w.sub (l := [Ex.num nn, Ex.flag (decide (V.int z1 = V.int 1)), Ex.unit, Ex.name x].map (Ex.d false)) ⟨_, _, rfl, l1, _, _, rfl, l2, _, _, rfl, l3, _, _, rfl, l4, rfl⟩ n11
      have w := w.up0 m11
      have mm := mm.tr0 m11
      have l1 := l1.up m11.up
      have l2 := l2.up m11.up
      have l3 := l3.up m11.up
      have l4 := l4.up m11.up
      refine ⟨_, rfl, _, s, c, 4, rfl, by decide, by decide, w.sub, w.rs, w.rc, w.st, fun J12 z12 st12 c12 z120 z121 => ?_⟩
      have w := w.took c12 st12
      have mm := mm.tr c12
      obtain ⟨jz, rfl⟩ : ∃ j : Nat, z12 = (j : Int) := ⟨z12.toNat, by omega⟩
      obtain ⟨e, he, te⟩ : ∃ e, ([Ex.num nn, Ex.flag (decide (V.int z1 = V.int 1)), Ex.unit, Ex.name x])[jz]? = some e ∧ T3 e 1 1 := by
        rcases (by omega : jz = 0 ∨ jz = 1 ∨ jz = 2 ∨ jz = 3) with rfl | rfl | rfl | rfl
        · exact ⟨_, rfl, T3.num okn⟩
        · exact ⟨_, rfl, T3.flag⟩
        · exact ⟨_, rfl, T3.unit⟩
        · exact ⟨_, rfl, T3.name okx⟩
      obtain ⟨pL, vL, eL, hL, tL⟩ := id lL
      cases eL
      obtain ⟨v, hv, av⟩ := tL.get (d := e.d false) (i := jz) (by rw [List.getElem?_map, he]; rfl)
      refine ⟨_, _, _, _, rfl, rfl, SqL.of (w.sub _ _ hL), atI_nat hv, ?_⟩
      exact q _ _ e _ mm w av (te.up (by omega) (by omega))
    refine ifF (decide_eq_false h0) ?_
    refine ⟨_, rfl, _, _, rfl, rfl, _, rfl, ?_⟩
    by_cases h2 : z1 < 2
    · refine ifT (decide_eq_true h2) ?_
      refine ⟨_, rfl, _, s, c, 99, rfl, by decide, by decide, w.sub, w.rs, w.rc, w.st, fun J2 z2 st2 c2 z20 z21 => ?_⟩
      have w := w.took c2 st2
      have mm := mm.tr c2
      refine ⟨_, rfl, _, s, c, 9, rfl, by decide, by decide, w.sub, w.rs, w.rc, w.st, fun J3 z3 st3 c3 z30 z31 => ?_⟩
      have w := w.took c3 st3
      have mm := mm.tr c3
      refine ⟨_, _, rfl, rfl, by show 2 ≤ sizeLine; decide, fun pN nN => ?_⟩
      have mN : Mv F0 _ _ _ _ := mv_mut (F := F0) (o := .lst [.int z2, .int (2147483647 - z3)]) w.sub nN
      have nFN : ¬ Fst s c pN := w.nf nN
      have hN : (upd _ pN (.lst [.int z2, .int (2147483647 - z3)])) pN = some (.lst [.int z2, .int (2147483647 - z3)]) := upd_same (H := J3)
      have w := w.up0 mN
      have mm := mm.tr0 mN
      refine ⟨_, rfl, _, s, c, 6, rfl, by decide, by decide, w.sub, w.rs, w.rc, w.st, fun J5 z5 st5 c5 z50 z51 => ?_⟩
      have w := w.took c5 st5
      have mm := mm.tr c5
      have hN := c5.keep _ _ hN nFN
      obtain ⟨nn, hn, okn⟩ : ∃ nn : Int, atI ([.int z2, .int (2147483647 - z3)] : List V) (if decide (V.int z5 = V.int 0) then 1 else 0) = some (.int nn) ∧ okI nn = true := by
        by_cases h : V.int z5 = V.int 0
        · exact ⟨2147483647 - z3, by rw [decide_eq_true h]; rfl, decide_eq_true (by omega)⟩
        · exact ⟨z2, by rw [decide_eq_false h]; rfl, decide_eq_true (by omega)⟩
      refine ⟨rfl, .inr ⟨_, rfl, pN, _, _, _, rfl, rfl, SqL.of hN, hn, ?_⟩⟩
      show gName 3 _ _ _ _
      refine ⟨_, rfl, by show 2 ≤ sizeLine; decide, fun p6 n6 => ?_⟩
      obtain ⟨Q6, m6, l1⟩ := lit2 w.sub (l := [.str "num", .int nn]) ⟨_, _, rfl, at_str, _, _, rfl, at_int, rfl⟩ n6
      have w := w.up0 m6
      have mm := mm.tr0 m6
      refine ⟨_, rfl, rfl, by show 2 ≤ sizeLine; decide, fun p7 n7 => ?_⟩
      obtain ⟨Q7, m7, l2⟩ := lit2 w.sub (l := [.str "flag", .bl (decide (V.int z1 = V.int 1))]) ⟨_, _, rfl, at_str, _, _, rfl, at_bl, rfl⟩ n7
      have w := w.up0 m7
      have mm := mm.tr0 m7
      have l1 := l1.up m7.up
      refine ⟨by show 1 ≤ sizeLine; decide, fun p8 n8 => ?_⟩
      obtain ⟨Q8, m8, l3⟩ := lit2 w.sub (l := [.str "unit"]) ⟨_, _, rfl, at_str, rfl⟩ n8
      have w := w.up0 m8
      have mm := mm.tr0 m8
      have l1 := l1.up m8.up
      have l2 := l2.up m8.up
      refine ⟨_, rfl, _, s, c, rfl, w, fun Q9 J9 x m w okx => ?_⟩
      have mm := mm.tr m
      have l1 := l1.up m.up
      have l2 := l2.up m.up
      have l3 := l3.up m.up
      refine ⟨by show 2 ≤ sizeLine; decide, fun p10 n10 => ?_⟩
      obtain ⟨Q10, m10, l4⟩ := lit2 w.sub (l := [.str "name", .str x]) ⟨_, _, rfl, at_str, _, _, rfl, at_str, rfl⟩ n10
      have w := w.up0 m10
      have mm := mm.tr0 m10
      have l1 := l1.up m10.up
      have l2 := l2.up m10.up
      have l3 := l3.up m10.up
      refine ⟨by show 4 ≤ sizeLine; decide, fun p11 n11 => ?_⟩
      obtain ⟨Q11, m11, lL⟩ := lit3 w.sub (l := [Ex.num nn, Ex.flag (decide (V.int z1 = V.int 1)), Ex.unit, Ex.name x].map (Ex.d false)) ⟨_, _, rfl, l1, _, _, rfl, l2, _, _, rfl, l3, _, _, rfl, l4, rfl⟩ n11
      have w := w.up0 m11
      have mm := mm.tr0 m11
      have l1 := l1.up m11.up
      have l2 := l2.up m11.up
      have l3 := l3.up m11.up
      have l4 := l4.up m11.up
      refine ⟨_, rfl, _, s, c, 4, rfl, by decide, by decide, w.sub, w.rs, w.rc, w.st, fun J12 z12 st12 c12 z120 z121 => ?_⟩
      have w := w.took c12 st12
      have mm := mm.tr c12
      obtain ⟨jz, rfl⟩ : ∃ j : Nat, z12 = (j : Int) := ⟨z12.toNat, by omega⟩
      obtain ⟨e, he, te⟩ : ∃ e, ([Ex.num nn, Ex.flag (decide (V.int z1 = V.int 1)), Ex.unit, Ex.name x])[jz]? = some e ∧ T3 e 1 1 := by
        rcases (by omega : jz = 0 ∨ jz = 1 ∨ jz = 2 ∨ jz = 3) with rfl | rfl | rfl | rfl
        · exact ⟨_, rfl, T3.num okn⟩
        · exact ⟨_, rfl, T3.flag⟩
        · exact ⟨_, rfl, T3.unit⟩
        · exact ⟨_, rfl, T3.name okx⟩
      obtain ⟨pL, vL, eL, hL, tL⟩ := id lL
      cases eL
      obtain ⟨v, hv, av⟩ := tL.get (d := e.d false) (i := jz) (by rw [List.getElem?_map, he]; rfl)
      refine ⟨_, _, _, _, rfl, rfl, SqL.of (w.sub _ _ hL), atI_nat hv, ?_⟩
      exact q _ _ e _ mm w av (te.up (by omega) (by omega))
    refine ifF (decide_eq_false h2) ?_
    refine ⟨_, rfl, _, _, rfl, rfl, _, rfl, ?_⟩
    by_cases g4 : z1 < 4
    · refine ifT (decide_eq_true g4) ?_
      refine ⟨_, rfl, _, s, c, rfl, w, fun Q2 J2 x m w okx => ?_⟩
      have mm := mm.tr m
      refine ⟨_, rfl, _, rfl, _, _, rfl, rfl, _, s, c, d - 1, rfl, by omega, w, fun Q3 J3 e1 ve1 m w ae1 te1 => ?_⟩
      have mm := mm.tr m
      refine ⟨by show 3 ≤ sizeLine; decide, fun p4 n4 => ?_⟩
      obtain ⟨Q4, m4, ar⟩ := lit2 w.sub (l := [.str "fun", .str x, e1.d false]) ⟨_, _, rfl, at_str, _, _, rfl, at_str, _, _, rfl, ae1, rfl⟩ n4
      have w := w.up0 m4
      have mm := mm.tr0 m4
      have ae1 := ae1.up m4.up
      exact q _ _ (.fn x e1) _ mm w ar ((T3.fn okx te1).up (by show 3 * n + 1 + 1 ≤ _; omega) (by omega))
    refine ifF (decide_eq_false g4) ?_
    refine ⟨_, rfl, _, _, rfl, rfl, _, rfl, ?_⟩
    by_cases g6 : z1 < 6
    · refine ifT (decide_eq_true g6) ?_
      refine ⟨_, rfl, _, s, c, rfl, w, fun Q2 J2 y m w oky => ?_⟩
      have mm := mm.tr m
      refine ⟨_, rfl, _, s, c, rfl, w, fun Q3 J3 x m w okx => ?_⟩
      have mm := mm.tr m
      refine ⟨_, rfl, _, rfl, _, _, rfl, rfl, _, s, c, d - 1, rfl, by omega, w, fun Q4 J4 e1 ve1 m w ae1 te1 => ?_⟩
      have mm := mm.tr m
      refine ⟨by show 4 ≤ sizeLine; decide, fun p5 n5 => ?_⟩
      obtain ⟨Q5, m5, ar⟩ := lit2 w.sub (l := [.str "rec", .str y, .str x, e1.d false]) ⟨_, _, rfl, at_str, _, _, rfl, at_str, _, _, rfl, at_str, _, _, rfl, ae1, rfl⟩ n5
      have w := w.up0 m5
      have mm := mm.tr0 m5
      have ae1 := ae1.up m5.up
      exact q _ _ (.rc y x e1) _ mm w ar ((T3.rc oky okx te1).up (by show 3 * n + 1 + 1 ≤ _; omega) (by omega))
    refine ifF (decide_eq_false g6) ?_
    refine ⟨_, rfl, rfl, _, rfl, ?_⟩
    by_cases g6 : z1 = 6
    · refine ifT (decide_eq_true (by rw [g6])) ?_
      refine ⟨_, rfl, _, s, c, rfl, w, fun Q2 J2 x m w okx => ?_⟩
      have mm := mm.tr m
      show gName 4 _ _ _ _
      refine ⟨_, rfl, _, rfl, _, rfl, _, _, rfl, rfl, _, s, c, d - 1, rfl, by omega, w, fun Q3 J3 e1 ve1 m w ae1 te1 => ?_⟩
      have mm := mm.tr m
      refine ⟨_, rfl, _, rfl, _, _, rfl, rfl, _, s, c, d - 1, rfl, by omega, w, fun Q4 J4 e2 ve2 m w ae2 te2 => ?_⟩
      have mm := mm.tr m
      have ae1 := ae1.up m.up
      refine ⟨by show 4 ≤ sizeLine; decide, fun p5 n5 => ?_⟩
      obtain ⟨Q5, m5, ar⟩ := lit2 w.sub (l := [.str "let", .str x, e1.d false, e2.d false]) ⟨_, _, rfl, at_str, _, _, rfl, at_str, _, _, rfl, ae1, _, _, rfl, ae2, rfl⟩ n5
      have w := w.up0 m5
      have mm := mm.tr0 m5
      have ae1 := ae1.up m5.up
      have ae2 := ae2.up m5.up
      exact q _ _ (.lt x e1 e2) _ mm w ar ((T3.lt okx te1 te2).up (by show 3 * n + 1 + 1 ≤ _; omega) (by omega))
    refine ifF (decide_eq_false fun h => g6 (V.int.inj h)) ?_
    refine ⟨_, rfl, _, _, rfl, rfl, _, rfl, ?_⟩
    by_cases g10 : z1 < 10
    · refine ifT (decide_eq_true g10) ?_
      refine ⟨by show 5 ≤ sizeLine; decide, fun p2 n2 => ?_⟩
      obtain ⟨Q2, m2, al⟩ := lit3 w.sub (l := sign5.map D.str) ⟨_, _, rfl, at_str, _, _, rfl, at_str, _, _, rfl, at_str, _, _, rfl, at_str, _, _, rfl, at_str, rfl⟩ n2
      have w := w.up0 m2
      have mm := mm.tr0 m2
      refine ⟨_, rfl, _, s, c, 5, rfl, by decide, by decide, w.sub, w.rs, w.rc, w.st, fun J3 z3 st3 c3 z30 z31 => ?_⟩
      have w := w.took c3 st3
      have mm := mm.tr c3
      obtain ⟨jj4, rfl⟩ : ∃ j : Nat, z3 = (j : Int) := ⟨z3.toNat, by omega⟩
      obtain ⟨x, hx4, hlx⟩ := sign5_get (z := jj4) (by omega)
      obtain ⟨pX4, vX4, eX4, hX4, tX4⟩ := id al
      cases eX4
      obtain ⟨xv4, hxv4, rfl⟩ := tX4.get (d := D.str x) (i := jj4) (by rw [List.getElem?_map, hx4]; rfl)
      refine ⟨_, _, _, _, rfl, rfl, SqL.of (w.sub _ _ hX4), atI_nat hxv4, ?_⟩
      show gName 5 _ _ _ _
      refine ⟨_, rfl, _, rfl, _, rfl, _, _, rfl, rfl, _, s, c, d - 1, rfl, by omega, w, fun Q5 J5 e1 ve1 m w ae1 te1 => ?_⟩
      have mm := mm.tr m
      have al := al.up m.up
      refine ⟨_, rfl, _, rfl, _, _, rfl, rfl, _, s, c, d - 1, rfl, by omega, w, fun Q6 J6 e2 ve2 m w ae2 te2 => ?_⟩
      have mm := mm.tr m
      have al := al.up m.up
      have ae1 := ae1.up m.up
      refine ⟨by show 4 ≤ sizeLine; decide, fun p7 n7 => ?_⟩
      obtain ⟨Q7, m7, ar⟩ := lit2 w.sub (l := [.str "op", .str x, e1.d false, e2.d false]) ⟨_, _, rfl, at_str, _, _, rfl, at_str, _, _, rfl, ae1, _, _, rfl, ae2, rfl⟩ n7
      have w := w.up0 m7
      have mm := mm.tr0 m7
      have al := al.up m7.up
      have ae1 := ae1.up m7.up
      have ae2 := ae2.up m7.up
      exact q _ _ (.op x e1 e2) _ mm w ar ((T3.op hlx te1 te2).up (by show 3 * n + 1 + 1 ≤ _; omega) (by omega))
    refine ifF (decide_eq_false g10) ?_
    refine ⟨_, rfl, _, _, rfl, rfl, _, rfl, ?_⟩
    by_cases g12 : z1 < 12
    · refine ifT (decide_eq_true g12) ?_
      refine ⟨_, rfl, _, s, c, rfl, w, fun Q2 J2 x m w okx => ?_⟩
      have mm := mm.tr m
      refine ⟨_, rfl, _, rfl, _, _, rfl, rfl, _, s, c, d - 1, rfl, by omega, w, fun Q3 J3 e1 ve1 m w ae1 te1 => ?_⟩
      have mm := mm.tr m
      refine ⟨by show 3 ≤ sizeLine; decide, fun p4 n4 => ?_⟩
      obtain ⟨Q4, m4, ar⟩ := lit2 w.sub (l := [.str "ask", .str x, e1.d false]) ⟨_, _, rfl, at_str, _, _, rfl, at_str, _, _, rfl, ae1, rfl⟩ n4
      have w := w.up0 m4
      have mm := mm.tr0 m4
      have ae1 := ae1.up m4.up
      exact q _ _ (.ask x e1) _ mm w ar ((T3.ask okx te1).up (by show 3 * n + 1 + 1 ≤ _; omega) (by omega))
    refine ifF (decide_eq_false g12) ?_
    refine ⟨_, rfl, _, _, rfl, rfl, _, rfl, ?_⟩
    by_cases g14 : z1 < 14
    · refine ifT (decide_eq_true g14) ?_
      refine ⟨by show 3 ≤ sizeLine; decide, fun p2 n2 => ?_⟩
      obtain ⟨Q2, m2, al⟩ := lit3 w.sub (l := [D.str "fst", D.str "snd", D.str "not"]) ⟨_, _, rfl, at_str, _, _, rfl, at_str, _, _, rfl, at_str, rfl⟩ n2
      have w := w.up0 m2
      have mm := mm.tr0 m2
      refine ⟨_, rfl, _, s, c, 3, rfl, by decide, by decide, w.sub, w.rs, w.rc, w.st, fun J3 z3 st3 c3 z30 z31 => ?_⟩
      have w := w.took c3 st3
      have mm := mm.tr c3
      obtain ⟨jj, rfl⟩ : ∃ j : Nat, z3 = (j : Int) := ⟨z3.toNat, by omega⟩
      obtain ⟨pX, vX, eX, hX, tX⟩ := id al
      cases eX
      rcases (by omega : jj = 0 ∨ jj = 1 ∨ jj = 2) with rfl | rfl | rfl
      · obtain ⟨xv, hxv, rfl⟩ := tX.get (d := D.str "fst") (i := 0) rfl
        refine ⟨_, _, _, _, rfl, rfl, SqL.of (w.sub _ _ hX), atI_nat hxv, _, rfl, _, rfl, _, _, rfl, rfl, _, s, c, d - 1, rfl, by omega, w, fun Q5 J5 e1 ve1 m w ae1 te1 => ?_⟩
        have mm := mm.tr m
        have al := al.up m.up
        refine ⟨by show 2 ≤ sizeLine; decide, fun p6 n6 => ?_⟩
        obtain ⟨Q6, m6, ar⟩ := lit2 w.sub (l := [.str "fst", e1.d false]) ⟨_, _, rfl, at_str, _, _, rfl, ae1, rfl⟩ n6
        have w := w.up0 m6
        have mm := mm.tr0 m6
        have al := al.up m6.up
        have ae1 := ae1.up m6.up
        exact q _ _ (.fst e1) _ mm w ar ((T3.fst te1).up (by show 3 * n + 1 + 1 ≤ _; omega) (by omega))
      · obtain ⟨xv, hxv, rfl⟩ := tX.get (d := D.str "snd") (i := 1) rfl
        refine ⟨_, _, _, _, rfl, rfl, SqL.of (w.sub _ _ hX), atI_nat hxv, _, rfl, _, rfl, _, _, rfl, rfl, _, s, c, d - 1, rfl, by omega, w, fun Q5 J5 e1 ve1 m w ae1 te1 => ?_⟩
        have mm := mm.tr m
        have al := al.up m.up
        refine ⟨by show 2 ≤ sizeLine; decide, fun p6 n6 => ?_⟩
        obtain ⟨Q6, m6, ar⟩ := lit2 w.sub (l := [.str "snd", e1.d false]) ⟨_, _, rfl, at_str, _, _, rfl, ae1, rfl⟩ n6
        have w := w.up0 m6
        have mm := mm.tr0 m6
        have al := al.up m6.up
        have ae1 := ae1.up m6.up
        exact q _ _ (.snd e1) _ mm w ar ((T3.snd te1).up (by show 3 * n + 1 + 1 ≤ _; omega) (by omega))
      · obtain ⟨xv, hxv, rfl⟩ := tX.get (d := D.str "not") (i := 2) rfl
        refine ⟨_, _, _, _, rfl, rfl, SqL.of (w.sub _ _ hX), atI_nat hxv, _, rfl, _, rfl, _, _, rfl, rfl, _, s, c, d - 1, rfl, by omega, w, fun Q5 J5 e1 ve1 m w ae1 te1 => ?_⟩
        have mm := mm.tr m
        have al := al.up m.up
        refine ⟨by show 2 ≤ sizeLine; decide, fun p6 n6 => ?_⟩
        obtain ⟨Q6, m6, ar⟩ := lit2 w.sub (l := [.str "not", e1.d false]) ⟨_, _, rfl, at_str, _, _, rfl, ae1, rfl⟩ n6
        have w := w.up0 m6
        have mm := mm.tr0 m6
        have al := al.up m6.up
        have ae1 := ae1.up m6.up
        exact q _ _ (.nt e1) _ mm w ar ((T3.nt te1).up (by show 3 * n + 1 + 1 ≤ _; omega) (by omega))
    refine ifF (decide_eq_false g14) ?_
    refine ⟨_, rfl, rfl, _, rfl, ?_⟩
    by_cases g14 : z1 = 14
    · refine ifT (decide_eq_true (by rw [g14])) ?_
      refine ⟨_, rfl, _, rfl, _, _, rfl, rfl, _, s, c, d - 1, rfl, by omega, w, fun Q2 J2 e1 ve1 m w ae1 te1 => ?_⟩
      have mm := mm.tr m
      refine ⟨_, rfl, _, rfl, _, _, rfl, rfl, _, s, c, d - 1, rfl, by omega, w, fun Q3 J3 e2 ve2 m w ae2 te2 => ?_⟩
      have mm := mm.tr m
      have ae1 := ae1.up m.up
      refine ⟨_, _, rfl, ?_⟩
      refine ⟨_, rfl, _, rfl, _, rfl, _, rfl, _, _, rfl, rfl, _, s, c, d - 1, rfl, by omega, w, fun Q4 J4 e3 ve3 m w ae3 te3 => ?_⟩
      have mm := mm.tr m
      have ae1 := ae1.up m.up
      have ae2 := ae2.up m.up
      refine ⟨by show 4 ≤ sizeLine; decide, fun p5 n5 => ?_⟩
      obtain ⟨Q5, m5, ar⟩ := lit2 w.sub (l := [.str "if", e1.d false, e2.d false, e3.d false]) ⟨_, _, rfl, at_str, _, _, rfl, ae1, _, _, rfl, ae2, _, _, rfl, ae3, rfl⟩ n5
      have w := w.up0 m5
      have mm := mm.tr0 m5
      have ae1 := ae1.up m5.up
      have ae2 := ae2.up m5.up
      have ae3 := ae3.up m5.up
      exact q _ _ (.ite e1 e2 e3) _ mm w ar ((T3.ite te1 te2 te3).up (by show 3 * n + 1 + 1 ≤ _; omega) (by omega))
    refine ifF (decide_eq_false fun h => g14 (V.int.inj h)) ?_
    refine ⟨_, rfl, _, _, rfl, rfl, _, rfl, ?_⟩
    by_cases g17 : z1 < 17
    · refine ifT (decide_eq_true g17) ?_
      refine ⟨_, rfl, _, rfl, _, s, c, d, rfl, hd, w, fun Q2 J2 e1 ve1 m w ae1 te1 => ?_⟩
      have mm := mm.tr m
      exact q _ _ e1 _ mm w ae1 te1
    refine ifF (decide_eq_false g17) ?_
    refine ⟨by show 3 ≤ sizeLine; decide, fun p2 n2 => ?_⟩
    obtain ⟨Q2, m2, al⟩ := lit3 w.sub (l := [D.str "call", D.str "pair", D.str "print"]) ⟨_, _, rfl, at_str, _, _, rfl, at_str, _, _, rfl, at_str, rfl⟩ n2
    have w := w.up0 m2
    have mm := mm.tr0 m2
    obtain ⟨kk, hkk⟩ : ∃ kk : Int, kk = z1 - 17 := ⟨_, rfl⟩
    obtain ⟨jj, hjj⟩ : ∃ j : Nat, kk = (j : Int) := ⟨kk.toNat, by omega⟩
    obtain ⟨pX, vX, eX, hX, tX⟩ := id al
    cases eX
    rcases (by omega : jj = 0 ∨ jj = 1 ∨ jj = 2) with rfl | rfl | rfl
    · obtain ⟨xv, hxv, rfl⟩ := tX.get (d := D.str "call") (i := 0) rfl
      have hat : atI vX (z1 - 17) = some (.str "call") := by rw [← hkk, hjj]; exact atI_nat hxv
      refine ⟨_, rfl, _, _, rfl, rfl, _, _, _, _, rfl, rfl, SqL.of (w.sub _ _ hX), hat, _, rfl, _, rfl, _, _, rfl, rfl, _, s, c, d - 1, rfl, by omega, w, fun Q3 J3 e1 ve1 m w ae1 te1 => ?_⟩
      have mm := mm.tr m
      have al := al.up m.up
      refine ⟨_, rfl, _, rfl, _, _, rfl, rfl, _, s, c, d - 1, rfl, by omega, w, fun Q4 J4 e2 ve2 m w ae2 te2 => ?_⟩
      have mm := mm.tr m
      have al := al.up m.up
      have ae1 := ae1.up m.up
      refine ⟨by show 3 ≤ sizeLine; decide, fun p5 n5 => ?_⟩
      obtain ⟨Q5, m5, ar⟩ := lit2 w.sub (l := [.str "call", e1.d false, e2.d false]) ⟨_, _, rfl, at_str, _, _, rfl, ae1, _, _, rfl, ae2, rfl⟩ n5
      have w := w.up0 m5
      have mm := mm.tr0 m5
      have al := al.up m5.up
      have ae1 := ae1.up m5.up
      have ae2 := ae2.up m5.up
      exact q _ _ (.call e1 e2) _ mm w ar ((T3.call te1 te2).up (by show 3 * n + 1 + 1 ≤ _; omega) (by omega))
    · obtain ⟨xv, hxv, rfl⟩ := tX.get (d := D.str "pair") (i := 1) rfl
      have hat : atI vX (z1 - 17) = some (.str "pair") := by rw [← hkk, hjj]; exact atI_nat hxv
      refine ⟨_, rfl, _, _, rfl, rfl, _, _, _, _, rfl, rfl, SqL.of (w.sub _ _ hX), hat, _, rfl, _, rfl, _, _, rfl, rfl, _, s, c, d - 1, rfl, by omega, w, fun Q3 J3 e1 ve1 m w ae1 te1 => ?_⟩
      have mm := mm.tr m
      have al := al.up m.up
      refine ⟨_, rfl, _, rfl, _, _, rfl, rfl, _, s, c, d - 1, rfl, by omega, w, fun Q4 J4 e2 ve2 m w ae2 te2 => ?_⟩
      have mm := mm.tr m
      have al := al.up m.up
      have ae1 := ae1.up m.up
      refine ⟨by show 3 ≤ sizeLine; decide, fun p5 n5 => ?_⟩
      obtain ⟨Q5, m5, ar⟩ := lit2 w.sub (l := [.str "pair", e1.d false, e2.d false]) ⟨_, _, rfl, at_str, _, _, rfl, ae1, _, _, rfl, ae2, rfl⟩ n5
      have w := w.up0 m5
      have mm := mm.tr0 m5
      have al := al.up m5.up
      have ae1 := ae1.up m5.up
      have ae2 := ae2.up m5.up
      exact q _ _ (.pair e1 e2) _ mm w ar ((T3.pair te1 te2).up (by show 3 * n + 1 + 1 ≤ _; omega) (by omega))
    · obtain ⟨xv, hxv, rfl⟩ := tX.get (d := D.str "print") (i := 2) rfl
      have hat : atI vX (z1 - 17) = some (.str "print") := by rw [← hkk, hjj]; exact atI_nat hxv
      refine ⟨_, rfl, _, _, rfl, rfl, _, _, _, _, rfl, rfl, SqL.of (w.sub _ _ hX), hat, _, rfl, _, rfl, _, _, rfl, rfl, _, s, c, d - 1, rfl, by omega, w, fun Q3 J3 e1 ve1 m w ae1 te1 => ?_⟩
      have mm := mm.tr m
      have al := al.up m.up
      refine ⟨_, rfl, _, rfl, _, _, rfl, rfl, _, s, c, d - 1, rfl, by omega, w, fun Q4 J4 e2 ve2 m w ae2 te2 => ?_⟩
      have mm := mm.tr m
      have al := al.up m.up
      have ae1 := ae1.up m.up
      refine ⟨by show 3 ≤ sizeLine; decide, fun p5 n5 => ?_⟩
      obtain ⟨Q5, m5, ar⟩ := lit2 w.sub (l := [.str "print", e1.d false, e2.d false]) ⟨_, _, rfl, at_str, _, _, rfl, ae1, _, _, rfl, ae2, rfl⟩ n5
      have w := w.up0 m5
      have mm := mm.tr0 m5
      have al := al.up m5.up
      have ae1 := ae1.up m5.up
      have ae2 := ae2.up m5.up
      exact q _ _ (.pr e1 e2) _ mm w ar ((T3.pr te1 te2).up (by show 3 * n + 1 + 1 ≤ _; omega) (by omega))
end
end Bz


set_option Elab.async false
set_option linter.all false
set_option maxRecDepth 100000
set_option maxHeartbeats 4000000
namespace Bz
open PySem PySem.Spec L2 PyProof.Rows
section
variable {P : Program} {w : World} {K : PySem.W.Frag} {mg : Str → Option Value} {base : Heap}
abbrev g__law_handle : Stmt := topS 14
abbrev n__law_handle : List Str := ["state", "depth", "clauses", "k", "names", "last"]
abbrev p__law_handle : List Str := ["state", "depth"]
theorem sc__law_handle : FnScope n__law_handle p__law_handle (defScope g__law_handle) := ⟨rfl, rfl, rfl, by decide +kernel, rfl, by decide +kernel, by decide +kernel⟩
theorem ok_handle {n : Nat} {f fT fW fV : Addr} {fd fdT fdW fdV : FuncData} (F : Fun K "_law_handle" "_law_handle" g__law_handle f fd) (mr : mg "range" = none) (mtu : mg "tuple" = none) (GT : Fn P w K mg base CX0 1 "_law_take" p__law_take spTake fT fdT) (GW : Fn P w K mg base CX0 2 "_law_word" p__law_word spWord fW fdW)
    (GV : Fn P w K mg base CX0 (3 + 2 * n) "_law_any" p__law_any (spAny n) fV fdV) : FnOk P w K mg base CX0 (3 + 2 * n + 1) f fd p__law_handle (spAny (n + 1)) := by
  refine F.ok (k := 3 + 2 * n) sc__law_handle (fun vs H Q E h => ?_) (fun cdv A outer st H vs Q E hr h => ?_)
  · obtain ⟨R, s, c, d, rfl, _⟩ := h
    rfl
  · obtain ⟨R, s, c, d, rfl, hd, w, q⟩ := h
    refine ⟨_, (pss_cons (ps_set (i := 2) sc__law_handle.nd rfl (Or.inl rfl) (pe_lst pa_nil))
      (pss_cons (ps_for PassesOwn.never rfl (pi_range1 rfl mr (pa_cons (pe_call GT.ok (hr.mono (by omega)) (by rfl) GT.g GT.kp GT.b .nil pass0 (pa_cons (pv 0) (pa_cons (pe_int) pa_nil))) pa_nil)) (pg_name (i := 3) sc__law_handle.nd rfl (Or.inl rfl)) (pss_cons (ps_set (i := 4) sc__law_handle.nd rfl (Or.inl rfl) (pe_tup (pa_cons (pe_call GW.ok (hr.mono (by omega)) (by rfl) GW.g GW.kp GW.b .nil pass0 (pa_cons (pv 0) pa_nil)) (pa_cons (pe_call GW.ok (hr.mono (by omega)) (by rfl) GW.g GW.kp GW.b .nil pass0 (pa_cons (pv 0) pa_nil)) (pa_cons (pe_call GW.ok (hr.mono (by omega)) (by rfl) GW.g GW.kp GW.b .nil pass0 (pa_cons (pv 0) pa_nil)) pa_nil)))))
      (pss_one (ps_expr (pe_bm PySem.F.plainAttrs_list PySem.F.slot_list_append PySem.F.type_list_append mt_append (pv 2) (pa_cons (pe_op op_catT (pv 4) (pe_tup (pa_cons (pe_call GV.ok hr (by rfl) GV.g GV.kp GV.b .nil pass0 (pa_cons (pv 0) (pa_cons (pe_op op_sub (pv 1) (pe_int)) pa_nil))) pa_nil))) pa_nil))))))
      (pss_cons (ps_set (i := 5) sc__law_handle.nd rfl (Or.inl rfl) (pe_tup (pa_cons (pe_call GW.ok (hr.mono (by omega)) (by rfl) GW.g GW.kp GW.b .nil pass0 (pa_cons (pv 0) pa_nil)) (pa_cons (pe_call GV.ok hr (by rfl) GV.g GV.kp GV.b .nil pass0 (pa_cons (pv 0) (pa_cons (pe_op op_sub (pv 1) (pe_int)) pa_nil))) pa_nil))))
      (pss_one (ps_ret (pe_tup (pa_cons (pe_str) (pa_cons (pe_call GV.ok hr (by rfl) GV.g GV.kp GV.b .nil pass0 (pa_cons (pv 0) (pa_cons (pe_op op_sub (pv 1) (pe_int)) pa_nil))) (pa_cons (pv 5) (pa_cons (pe_callTy call_tuple_of (by rfl) mtu (by decide +kernel) (pa_cons (pv 2) pa_nil)) pa_nil)))))))))), ?_⟩
    have hB := trB_ge n
    have mm : Mv (Fst s c) R H R H := .refl w.sub
    refine ⟨Nat.zero_le _, fun L nL => ?_⟩
    have rL := w.sub.free nL
    have nF : ¬ Fst s c L := w.nf nL
    have mL : Mv F0 R H R _ := mv_mut (F := F0) (o := .lst []) w.sub nL
    have w := w.up0 mL
    have mm := mm.tr0 mL
    have hL : (upd H L (.lst [])) L = some (.lst []) := upd_same
    show gName 2 _ _ _ _
    refine ⟨_, rfl, _, s, c, 4, rfl, by decide, by decide, w.sub, w.rs, w.rc, w.st, fun J1 z1 st1 c1 z10 z11 => ?_⟩
    have w := w.took c1 st1
    have mm := mm.tr c1
    have hL := c1.keep _ _ hL nF
    obtain ⟨j, rfl⟩ : ∃ j : Nat, z1 = (j : Int) := ⟨z1.toNat, by omega⟩
    refine ⟨(j : Int), rfl, by omega, by omega, ?_⟩
    refine for_range (lo := 0) (n := j) (fun i σ H' => ∃ (R' : Hp) (cs : Clz) (acc : List V) (z1 z2 : Option V), σ = [some (.ref s), some (.int d), some (.ref L), z1, z2, none] ∧ Mv (Fst s c) R H R' H' ∧ Wd R' H' s c ∧ R' L = none ∧ H' L = some (.lst acc) ∧ Ats R' (cs.d false) acc ∧ cs.len = i ∧ T3C cs (trA n + 1) (i * trB n)) ?_ ?_ ?_
    · exact ⟨_, .nil, [], none, none, rfl, mm, w, rL, hL, rfl, rfl, T3C.nil⟩
    · rintro i σ H' hi ⟨R', cs, acc, z1, z2, rfl, mm, w, rL, hL, ac, lc, tc⟩
      show gName 3 _ _ _ _
      refine ⟨_, rfl, _, s, c, rfl, w, fun Q2 J2 xo m w okxo => ?_⟩
      have mm := mm.tr m
      have rL := m.out rL hL
      have hL := m.keep _ _ hL nF
      have ac := ac.up m.up
      refine ⟨_, rfl, _, s, c, rfl, w, fun Q3 J3 xx m w okxx => ?_⟩
      have mm := mm.tr m
      have rL := m.out rL hL
      have hL := m.keep _ _ hL nF
      have ac := ac.up m.up
      refine ⟨_, rfl, _, s, c, rfl, w, fun Q4 J4 xk m w okxk => ?_⟩
      have mm := mm.tr m
      have rL := m.out rL hL
      have hL := m.keep _ _ hL nF
      have ac := ac.up m.up
      refine ⟨by show 3 ≤ sizeLine; decide, fun p5 n5 => ?_⟩
      obtain ⟨Q5, m5, an⟩ := lit2 w.sub (l := [.str xo, .str xx, .str xk]) ⟨_, _, rfl, at_str, _, _, rfl, at_str, _, _, rfl, at_str, rfl⟩ n5
      have w := w.up0 m5
      have mm := mm.tr0 m5
      have rL := m5.out rL hL
      have hL := m5.keep _ _ hL id
      have ac := ac.up m5.up
      show gName 4 _ _ _ _
      refine ⟨_, rfl, .inl ⟨rfl, _, SqL.of hL⟩, _, rfl, _, rfl, _, rfl, _, _, rfl, rfl, _, s, c, d - 1, rfl, by omega, w, fun Q6 J6 e1 ve1 m w ae1 te1 => ?_⟩
      have mm := mm.tr m
      have rL := m.out rL hL
      have hL := m.keep _ _ hL nF
      have ac := ac.up m.up
      have an := an.up m.up
      refine ⟨by show 1 ≤ sizeLine; decide, fun p7 n7 => ?_⟩
      obtain ⟨Q7, m7, a1⟩ := lit2 w.sub (l := [e1.d false]) ⟨_, _, rfl, ae1, rfl⟩ n7
      have w := w.up0 m7
      have mm := mm.tr0 m7
      have rL := m7.out rL hL
      have hL := m7.keep _ _ hL id
      have ac := ac.up m7.up
      have an := an.up m7.up
      have ae1 := ae1.up m7.up
      obtain ⟨pa, va, ea, ha, ta⟩ := id an
      obtain ⟨pb, vb, eb, hb, tb⟩ := id a1
      cases ea; cases eb
      have len1 : va.length = 3 := ta.length
      have len2 : vb.length = 1 := tb.length
      refine ⟨_, _, _, _, rfl, rfl, SqT.of (w.sub _ _ ha), SqT.of (w.sub _ _ hb), (fun z => by rw [z] at len1; cases len1), Nat.le_trans (by omega : va.length + vb.length ≤ 4) (by decide), (fun z => by rw [z] at len2; cases len2), fun _ pI nI => ?_⟩
      obtain ⟨QI, mI, ar⟩ := lit2 w.sub (l := [.str xo, .str xx, .str xk] ++ [e1.d false]) (ta.append tb) nI
      have rL := mI.out rL hL
      have hL := mI.keep _ _ hL id
      have w := w.up0 mI
      have mm := mm.tr0 mI
      have ac := ac.up mI.up
      have lac := ac.length
      have lcd : (cs.d false).length = cs.len := cl_len cs
      refine ⟨L, _, _, rfl, rfl, hL, Nat.lt_of_le_of_lt (by omega : acc.length ≤ 1000) (by decide), ?_⟩
      have m4 : Mv (fun a => a = L) _ _ _ _ := mv_at (o := .lst (acc ++ [.ref pI])) w.sub rL hL rfl
      refine ⟨_, cs.snoc xo xx xk e1, acc ++ [.ref pI], _, _, rfl, mm.trans m4 (fun _ f => f) (fun y f => .inr (by rw [f]; exact nL)), w.put rL hL nF, rL, upd_same, ?_, ?_, ?_⟩
      · rw [snoc_d]
        exact ac.append (Ats.one ar)
      · rw [snoc_len, lc]
      · refine (tc.snoc okxo okxx okxk te1).mono (Nat.le_refl _) ?_
        rw [Nat.succ_mul]; exact Nat.le_refl _
    rintro σ' H' ⟨R1, cs, acc, z1, z2, rfl, mm, w, rL, hL, ac, lc, tc⟩
    have mm := mm.freeze rL hL nL
    have w := w.freeze rL hL nF
    have ac := ac.up (same_new (o := .lst acc) rL)
    have hcl : (upd R1 L (.lst acc)) L = some (.lst acc) := upd_same
    generalize upd R1 L (.lst acc) = R1 at w ac hcl mm
    have lac := ac.length
    have lcd : (cs.d false).length = cs.len := cl_len cs
    refine ⟨_, rfl, _, s, c, rfl, w, fun Q2 J2 x m w okx => ?_⟩
    have mm := mm.tr m
    have ac := ac.up m.up
    have hcl := m.up _ _ hcl
    refine ⟨_, rfl, _, rfl, _, _, rfl, rfl, _, s, c, d - 1, rfl, by omega, w, fun Q3 J3 e2 ve2 m w ae2 te2 => ?_⟩
    have mm := mm.tr m
    have ac := ac.up m.up
    have hcl := m.up _ _ hcl
    refine ⟨by show 2 ≤ sizeLine; decide, fun p4 n4 => ?_⟩
    obtain ⟨Q4, m4, a2⟩ := lit2 w.sub (l := [.str x, e2.d false]) ⟨_, _, rfl, at_str, _, _, rfl, ae2, rfl⟩ n4
    have w := w.up0 m4
    have mm := mm.tr0 m4
    have ac := ac.up m4.up
    have ae2 := ae2.up m4.up
    have hcl := m4.up _ _ hcl
    show gName 5 _ _ _ _
    refine ⟨_, rfl, _, rfl, _, _, rfl, rfl, _, s, c, d - 1, rfl, by omega, w, fun Q5 J5 e3 ve3 m w ae3 te3 => ?_⟩
    have mm := mm.tr m
    have ac := ac.up m.up
    have ae2 := ae2.up m.up
    have a2 := a2.up m.up
    have hcl := m.up _ _ hcl
    refine ⟨_, rfl, _, rfl, L, _, rfl, .inl ⟨SqL.of (w.sub _ _ hcl), fun pt nt => ?_⟩⟩
    obtain ⟨RT, mT, aT⟩ := lit2 w.sub ac nt
    have w := w.up0 mT
    have mm := mm.tr0 mT
    have ac := ac.up mT.up
    have ae2 := ae2.up mT.up
    have a2 := a2.up mT.up
    have ae3 := ae3.up mT.up
    have hcl := mT.up _ _ hcl
    refine ⟨by show 4 ≤ sizeLine; decide, fun p6 n6 => ?_⟩
    obtain ⟨Q6, m6, ar⟩ := lit2 w.sub (l := [.str "handle", e3.d false, .tup [.str x, e2.d false], .tup (cs.d false)]) ⟨_, _, rfl, at_str, _, _, rfl, ae3, _, _, rfl, a2, _, _, rfl, aT, rfl⟩ n6
    have w := w.up0 m6
    have mm := mm.tr0 m6
    have ac := ac.up m6.up
    have ae2 := ae2.up m6.up
    have a2 := a2.up m6.up
    have ae3 := ae3.up m6.up
    have aT := aT.up m6.up
    have hcl := m6.up _ _ hcl
    have t3 : T3C cs (trA n + 1) (3 * trB n) := tc.mono (Nat.le_refl _) (Nat.mul_le_mul_right _ (by omega))
    exact q _ _ (.hd e3 x e2 cs) _ mm w ar ((T3.hd (a := trA n + 1) okx (by omega) (te3.mono (by omega) (Nat.le_refl _)) (te2.mono (by omega) (Nat.le_refl _)) t3).up (by show 3 * n + 1 + 1 + 2 ≤ _; omega) (by omega))
end
end Bz


set_option Elab.async false
set_option linter.all false
set_option maxRecDepth 100000
set_option maxHeartbeats 4000000
namespace Bz
open PySem PySem.Spec L2 PyProof.Rows
def bsD (bs : List Str) : D := .lst (bs.map D.str)
def scD (e : Ex) : D := .lst ((bnds e).map bsD)
theorem bsD_at {R : Hp} {bs : List Str} {v : V} (h : At R (bsD bs) v) : ∃ p, v = .ref p ∧ R p = some (.lst (bs.map V.str)) := by
  obtain ⟨p, vs, e, h, a⟩ := h
  exact ⟨p, e, by rw [h, ats_str a]⟩
theorem plain_bnds {e : Ex} (h1 : ∀ x f, e ≠ .fn x f) (h2 : ∀ x y f, e ≠ .rc x y f) (h3 : ∀ x f g, e ≠ .lt x f g) (h4 : ∀ f x g cs, e ≠ .hd f x g cs) : bnds e = (exParts e).map fun _ => [] := by
  cases e with
  | fn x f => exact absurd rfl (h1 x f)
  | rc x y f => exact absurd rfl (h2 x y f)
  | lt x f g => exact absurd rfl (h3 x f g)
  | hd f x g cs => exact absurd rfl (h4 f x g cs)
  | _ => rfl
theorem tag_other {e : Ex} (h1 : ∀ x f, e ≠ .fn x f) (h2 : ∀ x y f, e ≠ .rc x y f) (h3 : ∀ x f g, e ≠ .lt x f g) (h4 : ∀ f x g cs, e ≠ .hd f x g cs) : tagE e ≠ "fun" ∧ tagE e ≠ "rec" ∧ tagE e ≠ "let" ∧ tagE e ≠ "handle" := by
  cases e with
  | fn x f => exact absurd rfl (h1 x f)
  | rc x y f => exact absurd rfl (h2 x y f)
  | lt x f g => exact absurd rfl (h3 x f g)
  | hd f x g cs => exact absurd rfl (h4 f x g cs)
  | _ => simp only [tagE]; refine ⟨?_, ?_, ?_, ?_⟩ <;> decide +kernel
theorem cls_nb2 : ∀ {c : Clz} {j : Nat} {d : D}, (c.d false)[j]? = some d → ∃ o x k, ∃ g : Ex, d = D.tup [.str o, .str x, .str k, g.d false] ∧ c.nb[j]? = some [x, k]
  | .nil, j, d, h => by cases j <;> cases h
  | .cons o x k g r, 0, d, h => by cases h; exact ⟨o, x, k, g, rfl, rfl⟩
  | .cons o x k g r, j + 1, d, h => cls_nb2 (c := r) (j := j) (d := d) h
section
variable {P : Program} {w : World} {K : PySem.W.Frag} {mg : Str → Option Value} {base : Heap}
abbrev g__law_scopes : Stmt := topS 18
abbrev n__law_scopes : List Str := ["tree", "head", "clause", "part"]
abbrev p__law_scopes : List Str := ["tree"]
theorem sc__law_scopes : FnScope n__law_scopes p__law_scopes (defScope g__law_scopes) := ⟨rfl, rfl, rfl, by decide +kernel, rfl, by decide +kernel, by decide +kernel⟩
def spScp : Sp := fun vs H Q _ => ∃ (R : Hp) (e : Ex) (v : V), vs = [v] ∧ Same R H ∧ At R (e.d false) v ∧ smE e = true ∧ ∀ (R' H' : Hp) (u : V), Mv F0 R H R' H' → At R' (scD e) u → Q u H'
theorem ok_scp {f fP : Addr} {fd fdP : FuncData} (F : Fun K "_law_scopes" "_law_scopes" g__law_scopes f fd) (GP : Fn P w K mg base CX0 1 "_law_parts" p__law_parts spLP fP fdP) : FnOk P w K mg base CX0 2 f fd p__law_scopes spScp := by
  refine F.ok (k := 1) sc__law_scopes (fun vs H Q E h => ?_) (fun cdv A outer st H vs Q E hr h => ?_)
  · obtain ⟨R, e, v, rfl, _⟩ := h
    rfl
  · obtain ⟨R, e, v, rfl, sub, he, sm, q⟩ := h
    refine ⟨_, (pss_cons (ps_set (i := 1) sc__law_scopes.nd rfl (Or.inl rfl) (pe_ix ix_tup (pv 0) (pe_int) (fun _ _ => rfl)))
      (pss_cons (ps_if (pt_cmpR op_eq (pv 1) (pe_str) (nomark _)) (pss_one (ps_ret (pe_lst (pa_cons (pe_lst (pa_cons (pe_ix ix_tup (pv 0) (pe_int) (fun _ _ => rfl)) pa_nil)) pa_nil)))) pss_nil)
      (pss_cons (ps_if (pt_cmpR op_eq (pv 1) (pe_str) (nomark _)) (pss_one (ps_ret (pe_lst (pa_cons (pe_lst (pa_cons (pe_ix ix_tup (pv 0) (pe_int) (fun _ _ => rfl)) (pa_cons (pe_ix ix_tup (pv 0) (pe_int) (fun _ _ => rfl)) pa_nil))) pa_nil)))) pss_nil)
      (pss_cons (ps_if (pt_cmpR op_eq (pv 1) (pe_str) (nomark _)) (pss_one (ps_ret (pe_lst (pa_cons (pe_lst pa_nil) (pa_cons (pe_lst (pa_cons (pe_ix ix_tup (pv 0) (pe_int) (fun _ _ => rfl)) pa_nil)) pa_nil))))) pss_nil)
      (pss_cons (ps_if (pt_cmpR op_eq (pv 1) (pe_str) (nomark _)) (pss_one (ps_ret (pe_op op_cat (pe_lst (pa_cons (pe_lst pa_nil) (pa_cons (pe_lst (pa_cons (pe_ix ix_tup (pe_ix ix_tup (pv 0) (pe_int) (fun _ _ => rfl)) (pe_int) (fun _ _ => rfl)) pa_nil)) pa_nil))) (pe_lc (own := [("clause", 2)]) (g := gName 2) (tt := tYes) (te := tLst (tCons (tOp (rIxT K) (tVar 2) (tC (.int 1))) (tCons (tOp (rIxT K) (tVar 2) (tC (.int 2))) tNil))) rfl sc__law_scopes.nd (pi_tup (pe_ix ix_tup (pv 0) pe_int (fun _ _ => rfl))) (blkOk_by (N := n__law_scopes) (sc := defScope g__law_scopes) (by decide +kernel)) (fun _ _ _ _ _ => pg_name (i := 2) sc__law_scopes.nd rfl (Or.inl rfl)) (fun _ _ _ _ _ => pts_nil) (fun _ _ _ _ _ => pe_lst (pa_cons (pe_ix ix_tup (pv 2) pe_int (fun _ _ => rfl)) (pa_cons (pe_ix ix_tup (pv 2) pe_int (fun _ _ => rfl)) pa_nil))))))) pss_nil)
      (pss_one (ps_ret (pe_lc (own := [("part", 3)]) (g := gName 3) (tt := tYes) (te := tLst tNil) rfl sc__law_scopes.nd (pi_list (pe_call GP.ok hr (by rfl) GP.g GP.kp GP.b .nil pass0 (pa_cons (pv 0) pa_nil))) (blkOk_by (N := n__law_scopes) (sc := defScope g__law_scopes) (by decide +kernel)) (fun _ _ _ _ _ => pg_name (i := 3) sc__law_scopes.nd rfl (Or.inl rfl)) (fun _ _ _ _ _ => pts_nil) (fun _ _ _ _ _ => pe_lst pa_nil))))))))), ?_⟩
    have mm : Mv F0 R H R H := .refl sub
    by_cases h1 : ∃ x f, e = .fn x f
    · obtain ⟨x, f, rfl⟩ := h1
      obtain ⟨pe, _, rfl, hpe, _, _, rfl, rfl, _, _, rfl, rfl, _, _, rfl, af, rfl⟩ := he
      refine ⟨_, rfl, pe, _, 0, _, rfl, rfl, SqT.of (mm.sub _ _ hpe), atI_nat (j := 0) rfl, ?_⟩
      refine ⟨_, rfl, rfl, _, rfl, ?_⟩
      refine ifT (decide_eq_true rfl) ?_
      refine ⟨_, rfl, pe, _, 1, _, rfl, rfl, SqT.of (mm.sub _ _ hpe), rfl, by show 1 ≤ sizeLine; decide, fun p1 n1 => ?_⟩
      obtain ⟨Q1, m1, l1⟩ := lit3 mm.sub (l := [D.str x]) ⟨_, _, rfl, at_str, rfl⟩ n1
      have mm := mm.tr m1
      have hpe := m1.up _ _ hpe
      refine ⟨by show 1 ≤ sizeLine; decide, fun p2 n2 => ?_⟩
      obtain ⟨Q2, m2, l2⟩ := lit3 mm.sub (l := [bsD [x]]) ⟨_, _, rfl, l1, rfl⟩ n2
      have mm := mm.tr m2
      have l1 := l1.up m2.up
      have hpe := m2.up _ _ hpe
      exact q _ _ _ mm l2
    by_cases h2 : ∃ y x f, e = .rc y x f
    · obtain ⟨y, x, f, rfl⟩ := h2
      obtain ⟨pe, _, rfl, hpe, _, _, rfl, rfl, _, _, rfl, rfl, _, _, rfl, rfl, _, _, rfl, af, rfl⟩ := he
      refine ⟨_, rfl, pe, _, 0, _, rfl, rfl, SqT.of (mm.sub _ _ hpe), atI_nat (j := 0) rfl, ?_⟩
      refine ⟨_, rfl, rfl, _, rfl, ?_⟩
      refine isF (by decide +kernel) ?_
      refine ⟨_, rfl, rfl, _, rfl, ?_⟩
      refine ifT (decide_eq_true rfl) ?_
      refine ⟨_, rfl, pe, _, 1, _, rfl, rfl, SqT.of (mm.sub _ _ hpe), rfl, _, rfl, pe, _, 2, _, rfl, rfl, SqT.of (mm.sub _ _ hpe), rfl, by show 2 ≤ sizeLine; decide, fun p1 n1 => ?_⟩
      obtain ⟨Q1, m1, l1⟩ := lit3 mm.sub (l := [D.str y, D.str x]) ⟨_, _, rfl, at_str, _, _, rfl, at_str, rfl⟩ n1
      have mm := mm.tr m1
      have hpe := m1.up _ _ hpe
      refine ⟨by show 1 ≤ sizeLine; decide, fun p2 n2 => ?_⟩
      obtain ⟨Q2, m2, l2⟩ := lit3 mm.sub (l := [bsD [y, x]]) ⟨_, _, rfl, l1, rfl⟩ n2
      have mm := mm.tr m2
      have l1 := l1.up m2.up
      have hpe := m2.up _ _ hpe
      exact q _ _ _ mm l2
    by_cases h3 : ∃ x f g, e = .lt x f g
    · obtain ⟨x, f, g, rfl⟩ := h3
      obtain ⟨pe, _, rfl, hpe, _, _, rfl, rfl, _, _, rfl, rfl, _, _, rfl, af, _, _, rfl, ag, rfl⟩ := he
      refine ⟨_, rfl, pe, _, 0, _, rfl, rfl, SqT.of (mm.sub _ _ hpe), atI_nat (j := 0) rfl, ?_⟩
      refine ⟨_, rfl, rfl, _, rfl, ?_⟩
      refine isF (by decide +kernel) ?_
      refine ⟨_, rfl, rfl, _, rfl, ?_⟩
      refine isF (by decide +kernel) ?_
      refine ⟨_, rfl, rfl, _, rfl, ?_⟩
      refine ifT (decide_eq_true rfl) ?_
      refine ⟨by show 0 ≤ sizeLine; decide, fun p1 n1 => ?_⟩
      obtain ⟨Q1, m1, l0⟩ := lit3 mm.sub (l := ([] : List Str).map D.str) rfl n1
      have mm := mm.tr m1
      have hpe := m1.up _ _ hpe
      refine ⟨_, rfl, pe, _, 1, _, rfl, rfl, SqT.of (mm.sub _ _ hpe), rfl, by show 1 ≤ sizeLine; decide, fun p2 n2 => ?_⟩
      obtain ⟨Q2, m2, l1⟩ := lit3 mm.sub (l := [D.str x]) ⟨_, _, rfl, at_str, rfl⟩ n2
      have mm := mm.tr m2
      have l0 := l0.up m2.up
      have hpe := m2.up _ _ hpe
      refine ⟨by show 2 ≤ sizeLine; decide, fun p3 n3 => ?_⟩
      obtain ⟨Q3, m3, l2⟩ := lit3 mm.sub (l := [bsD [], bsD [x]]) ⟨_, _, rfl, l0, _, _, rfl, l1, rfl⟩ n3
      have mm := mm.tr m3
      have l0 := l0.up m3.up
      have l1 := l1.up m3.up
      have hpe := m3.up _ _ hpe
      exact q _ _ _ mm l2
    by_cases h4 : ∃ f x g cs, e = .hd f x g cs
    · obtain ⟨f, x, g, cs, rfl⟩ := h4
      obtain ⟨pe, _, rfl, hpe, _, _, rfl, rfl, ve, _, rfl, ae, vr, _, rfl, ⟨pr, _, rfl, hpr, _, _, rfl, rfl, vf, _, rfl, af, rfl⟩, vc, _, rfl, ⟨pc, cvs, rfl, hpc, acs⟩, rfl⟩ := he
      refine ⟨_, rfl, pe, _, 0, _, rfl, rfl, SqT.of (mm.sub _ _ hpe), atI_nat (j := 0) rfl, ?_⟩
      refine ⟨_, rfl, rfl, _, rfl, ?_⟩
      refine isF (by decide +kernel) ?_
      refine ⟨_, rfl, rfl, _, rfl, ?_⟩
      refine isF (by decide +kernel) ?_
      refine ⟨_, rfl, rfl, _, rfl, ?_⟩
      refine isF (by decide +kernel) ?_
      refine ⟨_, rfl, rfl, _, rfl, ?_⟩
      refine ifT (decide_eq_true rfl) ?_
      refine ⟨by show 0 ≤ sizeLine; decide, fun p1 n1 => ?_⟩
      obtain ⟨Q1, m1, l0⟩ := lit3 mm.sub (l := ([] : List Str).map D.str) rfl n1
      have mm := mm.tr m1
      have acs := acs.up m1.up
      have hpe := m1.up _ _ hpe
      have hpr := m1.up _ _ hpr
      have hpc := m1.up _ _ hpc
      refine ⟨_, rfl, pe, _, 2, _, rfl, rfl, SqT.of (mm.sub _ _ hpe), rfl, pr, _, 0, _, rfl, rfl, SqT.of (mm.sub _ _ hpr), rfl, by show 1 ≤ sizeLine; decide, fun p2 n2 => ?_⟩
      obtain ⟨Q2, m2, l1⟩ := lit3 mm.sub (l := [D.str x]) ⟨_, _, rfl, at_str, rfl⟩ n2
      have mm := mm.tr m2
      have acs := acs.up m2.up
      have l0 := l0.up m2.up
      have hpe := m2.up _ _ hpe
      have hpr := m2.up _ _ hpr
      have hpc := m2.up _ _ hpc
      refine ⟨by show 2 ≤ sizeLine; decide, fun p3 n3 => ?_⟩
      obtain ⟨Q3, m3, l2⟩ := lit3 mm.sub (l := [bsD [], bsD [x]]) ⟨_, _, rfl, l0, _, _, rfl, l1, rfl⟩ n3
      have mm := mm.tr m3
      have acs := acs.up m3.up
      have l0 := l0.up m3.up
      have l1 := l1.up m3.up
      have hpe := m3.up _ _ hpe
      have hpr := m3.up _ _ hpr
      have hpc := m3.up _ _ hpc
      have cl : cvs.length = cs.len := by rw [acs.length, cl_len]
      have cl9 : cs.len ≤ 900 := sm_len sm
      refine ⟨_, rfl, pe, _, 3, _, rfl, rfl, SqT.of (mm.sub _ _ hpe), rfl, pc, rfl, ⟨_, SqT.of (mm.sub _ _ hpc)⟩, fun D nD => ?_⟩
      have rD := mm.sub.free nD
      have nH : H D = none := mm.free nD
      have mD : Mv F0 _ _ _ _ := mv_mut (F := F0) (o := .lst []) mm.sub nD
      have mm := mm.tr mD
      obtain ⟨R0, hR0⟩ : ∃ R0 : Hp, R0 = Q3 := ⟨_, rfl⟩
      rw [← hR0] at mm acs hpc l2 rD
      refine lc_tup (K := K) (a := pc) (xs := cvs) (fun i H' => ∃ (R2 : Hp) (acc : List V), Mv F0 R H R2 H' ∧ Same R0 R2 ∧ R2 D = none ∧ H' D = some (.lst acc) ∧ Ats R2 ((cs.nb.take i).map bsD) acc) ⟨R0, [], mm, .refl _, rD, upd_same, rfl⟩ (fun i H' _ z => by obtain ⟨R2, acc, mv, sm2, _⟩ := z; exact SqT.of (mv.sub _ _ (sm2 _ _ hpc))) ?_ ?_
      · rintro i y H' hy ⟨R2, acc, mv, s2, rD, hD, aa⟩
        obtain ⟨d, hd, ad⟩ := (acs.up s2).mem hy
        obtain ⟨o, x', k, g', rfl, hb⟩ := cls_nb2 hd
        obtain ⟨pz, _, rfl, hpz, _, _, rfl, rfl, _, _, rfl, rfl, _, _, rfl, rfl, vg, _, rfl, ag, rfl⟩ := ad
        refine ⟨rfl, _, rfl, pz, _, 1, _, rfl, rfl, SqT.of (mv.sub _ _ hpz), rfl, _, rfl, pz, _, 2, _, rfl, rfl, SqT.of (mv.sub _ _ hpz), rfl, by show 2 ≤ sizeLine; decide, fun pn nn => ?_⟩
        obtain ⟨R3, m3, a3⟩ := lit3 mv.sub (l := [x', k].map Bz.D.str) (str_ats [x', k]) nn
        have rD3 := m3.out rD hD
        have hD3 := m3.keep _ _ hD id
        have la := aa.length
        have li : i < cs.nb.length := (List.getElem?_eq_some_iff.mp hb).1
        rw [List.length_map, List.length_take] at la
        have ln := (len_c cs).2
        refine ⟨acc, hD3, Nat.lt_of_le_of_lt (by omega : acc.length ≤ 1000) (by decide), R3, acc ++ [.ref pn], ?_, s2.trans m3.up, rD3, upd_same, ?_⟩
        · exact (mv.tr m3).trans (mv_at (F := fun z => z = D) m3.sub rD3 hD3 rfl) (fun _ f => f) (fun z f => .inr (by rw [f]; exact nH))
        · rw [List.take_add_one, hb, List.map_append]
          exact (aa.up m3.up).append (.one a3)
      rintro H' ⟨R2, acc, mv, s2, rD, hD, aa⟩
      rw [cl, ← (len_c cs).2, List.take_length] at aa
      obtain ⟨pb, vb, eb, hb, tb⟩ := l2.up s2
      cases eb
      have len1 : vb.length = 2 := tb.length
      have len2 := aa.length
      rw [List.length_map, (len_c cs).2] at len2
      have mm := mv
      refine ⟨_, _, _, _, rfl, rfl, mm.sub _ _ hb, hD, Nat.le_trans (by omega : vb.length + acc.length ≤ 1000) (by decide), fun pI nI => ?_⟩
      obtain ⟨RI, mI, aI⟩ := lit3 mm.sub (l := (bnds (.hd f x g cs)).map bsD) (tb.append aa) nI
      exact q _ _ _ (mm.tr mI) aI
    have n1 : ∀ x f, e ≠ .fn x f := fun x f z => h1 ⟨x, f, z⟩
    have n2 : ∀ x y f, e ≠ .rc x y f := fun x y f z => h2 ⟨x, y, f, z⟩
    have n3 : ∀ x f g, e ≠ .lt x f g := fun x f g z => h3 ⟨x, f, g, z⟩
    have n4 : ∀ f x g cs, e ≠ .hd f x g cs := fun f x g cs z => h4 ⟨f, x, g, cs, z⟩
    obtain ⟨t1, t2, t3, t4⟩ := tag_other n1 n2 n3 n4
    have hv := he
    obtain ⟨pe, er, rfl, hpe⟩ := ex_head he
    refine ⟨_, rfl, pe, _, 0, _, rfl, rfl, SqT.of (mm.sub _ _ hpe), atI_nat (j := 0) rfl, ?_⟩
    refine ⟨_, rfl, rfl, _, rfl, isF t1 ?_⟩
    refine ⟨_, rfl, rfl, _, rfl, isF t2 ?_⟩
    refine ⟨_, rfl, rfl, _, rfl, isF t3 ?_⟩
    refine ⟨_, rfl, rfl, _, rfl, isF t4 ?_⟩
    refine ⟨_, rfl, _, e, _, rfl, mm.sub, hv, sm, fun R1 H1 u m1 au => ?_⟩
    obtain ⟨pl, pvs, rfl, hpl, apl⟩ := au
    have lp := apl.length
    rw [List.length_map] at lp
    have mm := mm.tr m1
    refine ⟨pl, rfl, ⟨_, SqL.of (mm.sub _ _ hpl)⟩, fun D nD => ?_⟩
    have rD := mm.sub.free nD
    have nH : H D = none := mm.free nD
    have mD : Mv F0 R1 H1 R1 _ := mv_mut (F := F0) (o := .lst []) mm.sub nD
    have lq : (exParts e).length ≤ 1000 := by
      cases e with
      | hd f x g cs => exact absurd rfl (n4 f x g cs)
      | _ => simp [exParts]
    refine lc_list (K := K) (a := pl) (xs := pvs) (fun i H' => ∃ (R2 : Hp) (acc : List V), Mv F0 R H R2 H' ∧ Same R1 R2 ∧ R2 D = none ∧ H' D = some (.lst acc) ∧ Ats R2 (((exParts e).take i).map fun _ => bsD []) acc) ⟨R1, [], mm.tr mD, .refl _, rD, upd_same, rfl⟩ (fun i H' _ z => by obtain ⟨R2, acc, mv, sm2, _⟩ := z; exact SqL.of (mv.sub _ _ (sm2 _ _ hpl))) ?_ ?_
    · rintro i y H' hy ⟨R2, acc, mv, s2, rD, hD, aa⟩
      refine ⟨rfl, Nat.zero_le _, fun pn nn => ?_⟩
      obtain ⟨R3, m3, a3⟩ := lit3 mv.sub (l := ([] : List Str).map Bz.D.str) rfl nn
      have rD3 := m3.out rD hD
      have hD3 := m3.keep _ _ hD id
      have la := aa.length
      have li : i < (exParts e).length := by have := (List.getElem?_eq_some_iff.mp hy).1; omega
      rw [List.length_map, List.length_take] at la
      refine ⟨acc, hD3, Nat.lt_of_le_of_lt (by omega : acc.length ≤ 1000) (by decide), R3, acc ++ [.ref pn], ?_, s2.trans m3.up, rD3, upd_same, ?_⟩
      · exact (mv.tr m3).trans (mv_at (F := fun z => z = D) m3.sub rD3 hD3 rfl) (fun _ f => f) (fun z f => .inr (by rw [f]; exact nH))
      · rw [List.take_add_one, List.getElem?_eq_getElem li, List.map_append]
        exact (aa.up m3.up).append (.one a3)
    rintro H' ⟨R2, acc, mv, s2, rD, hD, aa⟩
    rw [lp, List.take_length] at aa
    have mvL := mv.freeze rD hD nH
    refine q _ _ _ mvL ⟨D, acc, rfl, upd_same, ?_⟩
    have e2 : (bnds e).map bsD = (exParts e).map fun _ => bsD [] := by rw [plain_bnds n1 n2 n3 n4, List.map_map]; rfl
    rw [e2]
    exact aa.up (same_new rD)
end
end Bz


set_option Elab.async false
set_option linter.all false
set_option maxRecDepth 100000
set_option maxHeartbeats 4000000
namespace Bz
open PySem PySem.Spec L2 PyProof.Rows
def leafB : Ex → Bool
  | .num _ => true | .flag _ => true | .unit => true | .name _ => true
  | _ => false
theorem leaf_tag {e : Ex} (h : leafB e = true) : inV (.str (tagE e)) [.str "num", .str "flag", .str "unit", .str "name"] = true := by
  cases e <;> first
    | exact Bool.noConfusion (show false = true from h)
    | (simp only [tagE]; decide +kernel)
theorem leaf_tagN {e : Ex} (h : leafB e = false) : inV (.str (tagE e)) [.str "num", .str "flag", .str "unit", .str "name"] = false := by
  cases e <;> first
    | exact Bool.noConfusion (show true = false from h)
    | (simp only [tagE]; decide +kernel)
theorem leaf_with {e : Ex} {l : List Ex} (h : leafB e = true) (hl : l.length = (exParts e).length) : withE e l = e := by
  cases e with
  | num _ => cases l with | nil => rfl | cons _ _ => cases hl
  | flag _ => cases l with | nil => rfl | cons _ _ => cases hl
  | unit => cases l with | nil => rfl | cons _ _ => cases hl
  | name _ => cases l with | nil => rfl | cons _ _ => cases hl
  | _ => exact Bool.noConfusion (show false = true from h)
theorem node_tag {e : Ex} (h : ∀ f x g cs, e ≠ .hd f x g cs) : tagE e = "handle" → False := by
  cases e with
  | hd f x g cs => exact absurd rfl (h f x g cs)
  | _ => intro q; simp only [tagE] at q; revert q; decide +kernel
theorem node_parts {e : Ex} (h : leafB e = false) : 1 ≤ (exParts e).length := by
  cases e <;> first
    | exact Bool.noConfusion (show true = false from h)
    | exact Nat.succ_le_succ (Nat.zero_le _)
theorem node_form (e : Ex) (l : List Ex) (hl : l.length = (exParts e).length) (hlf : leafB e = false) (nh : ∀ f x g cs, e ≠ .hd f x g cs) : ∃ lead : List D, e.d false = .tup (.str (tagE e) :: (lead ++ (exParts e).map (Ex.d false))) ∧ (withE e l).d false = .tup (.str (tagE e) :: (lead ++ l.map (Ex.d false))) ∧ lead.length ≤ 2 ∧ (exParts e).length ≤ 3 := by
  match e, l, hl with
  | .num n, _, _ => exact Bool.noConfusion (show true = false from hlf)
  | .flag n, _, _ => exact Bool.noConfusion (show true = false from hlf)
  | .unit, _, _ => exact Bool.noConfusion (show true = false from hlf)
  | .name n, _, _ => exact Bool.noConfusion (show true = false from hlf)
  | .call f e, [a, b], _ => exact ⟨[], rfl, rfl, by simp, by simp [exParts]⟩
  | .fn x e, [a], _ => exact ⟨[.str x], rfl, rfl, by simp, by simp [exParts]⟩
  | .rc y x e, [a], _ => exact ⟨[.str y, .str x], rfl, rfl, by simp, by simp [exParts]⟩
  | .lt x f e, [a, b], _ => exact ⟨[.str x], rfl, rfl, by simp, by simp [exParts]⟩
  | .ite f e g, [a, b, c], _ => exact ⟨[], rfl, rfl, by simp, by simp [exParts]⟩
  | .pair f e, [a, b], _ => exact ⟨[], rfl, rfl, by simp, by simp [exParts]⟩
  | .fst e, [a], _ => exact ⟨[], rfl, rfl, by simp, by simp [exParts]⟩
  | .snd e, [a], _ => exact ⟨[], rfl, rfl, by simp, by simp [exParts]⟩
  | .op s f e, [a, b], _ => exact ⟨[.str s], rfl, rfl, by simp, by simp [exParts]⟩
  | .nt e, [a], _ => exact ⟨[], rfl, rfl, by simp, by simp [exParts]⟩
  | .pr f e, [a, b], _ => exact ⟨[], rfl, rfl, by simp, by simp [exParts]⟩
  | .ask s e, [a], _ => exact ⟨[.str s], rfl, rfl, by simp, by simp [exParts]⟩
  | .hd e x f cs, _, _ => exact absurd rfl (nh e x f cs)
theorem clz_take {cs : Clz} {l : List Ex} {i : Nat} {o x k : Str} {g h : Ex} (hd : (cs.d false)[i]? = some (D.tup [.str o, .str x, .str k, g.d false])) (hl : l[i]? = some h) : ((cs.setGs l).d false)[i]? = some (D.tup [.str o, .str x, .str k, h.d false]) := by
  induction cs using Clz.rec (motive_1 := fun _ => True) generalizing l i with
  | nil => cases i <;> cases hd
  | cons o' x' k' g' r _ ih =>
    cases l with
    | nil => cases i <;> cases hl
    | cons a l =>
      cases i with
      | zero =>
        cases hl
        have hd : some (D.tup [.str o', .str x', .str k', g'.d false]) = some (D.tup [.str o, .str x, .str k, g.d false]) := hd
        have e := D.tup.inj (Option.some.inj hd)
        simp only [List.cons.injEq] at e
        obtain ⟨e1, e2, e3, _⟩ := e
        show some (D.tup [.str o', .str x', .str k', h.d false]) = _
        rw [e1, e2, e3]
      | succ j => exact ih hd hl
  | _ => trivial
section
variable {P : Program} {w : World} {K : PySem.W.Frag} {mg : Str → Option Value} {base : Heap}
abbrev g__law_with : Stmt := topS 21
abbrev n__law_with : List Str := ["tree", "rows", "head", "clauses", "k"]
abbrev p__law_with : List Str := ["tree", "rows"]
theorem sc__law_with : FnScope n__law_with p__law_with (defScope g__law_with) := ⟨rfl, rfl, rfl, by decide +kernel, rfl, by decide +kernel, by decide +kernel⟩
def spWth : Sp := fun vs H Q _ => ∃ (R : Hp) (e : Ex) (l : List Ex) (v u : V), vs = [v, u] ∧ Same R H ∧ At R (e.d false) v ∧ At R (.lst (l.map (Ex.d false))) u ∧ l.length = (exParts e).length ∧ smE e = true ∧ ∀ (R' H' : Hp) (z : V), Mv F0 R H R' H' → At R' ((withE e l).d false) z → Q z H'
theorem ok_wth {f : Addr} {fd : FuncData} (F : Fun K "_law_with" "_law_with" g__law_with f fd) (ml : mg "len" = none) (mr : mg "range" = none) (mtu : mg "tuple" = none) : FnOk P w K mg base CX0 1 f fd p__law_with spWth := by
  refine F.ok (k := 0) sc__law_with (fun vs H Q E h => ?_) (fun cdv A outer st H vs Q E hr h => ?_)
  · obtain ⟨R, e, l, v, u, rfl, _⟩ := h
    rfl
  · obtain ⟨R, e, l, v, u, rfl, sub, he, hl, ll, sm, q⟩ := h
    refine ⟨_, (pss_cons (ps_set (i := 2) sc__law_with.nd rfl (Or.inl rfl) (pe_ix ix_tup (pv 0) (pe_int) (fun _ _ => rfl)))
      (pss_cons (ps_if (pt_cmpR op_in_seq (pv 2) (pe_lst (pa_cons (pe_str) (pa_cons (pe_str) (pa_cons (pe_str) (pa_cons (pe_str) pa_nil))))) (by rfl)) (pss_one (ps_ret (pv 0))) pss_nil)
      (pss_cons (ps_if (pt_cmpR op_eq (pv 2) (pe_str) (nomark _)) (pss_cons (ps_set (i := 3) sc__law_with.nd rfl (Or.inl rfl) (pe_lst pa_nil))
      (pss_cons (ps_for PassesOwn.never rfl (pi_range1 rfl mr (pa_cons (pe_callB call_len_seq (by rfl) ml PySem.boot_len (pa_cons (pe_ix ix_tup (pv 0) (pe_int) (fun _ _ => rfl)) pa_nil)) pa_nil)) (pg_name (i := 4) sc__law_with.nd rfl (Or.inl rfl)) (pss_one (ps_expr (pe_bm PySem.F.plainAttrs_list PySem.F.slot_list_append PySem.F.type_list_append mt_append (pv 3) (pa_cons (pe_op op_catT (pe_slice sl_tup (pe_ix ix_tup (pe_ix ix_tup (pv 0) (pe_int) (fun _ _ => rfl)) (pv 4) (fun _ _ => rfl)) po_none (po_some (pe_int))) (pe_tup (pa_cons (pe_ix ix_list (pv 1) (pe_op op_add (pv 4) (pe_int)) (fun _ _ => rfl)) pa_nil))) pa_nil)))))
      (pss_one (ps_ret (pe_tup (pa_cons (pe_str) (pa_cons (pe_ix ix_list (pv 1) (pe_int) (fun _ _ => rfl)) (pa_cons (pe_tup (pa_cons (pe_ix ix_tup (pe_ix ix_tup (pv 0) (pe_int) (fun _ _ => rfl)) (pe_int) (fun _ _ => rfl)) (pa_cons (pe_ix ix_list (pv 1) (pe_int) (fun _ _ => rfl)) pa_nil))) (pa_cons (pe_callTy call_tuple_of (by rfl) mtu (by decide +kernel) (pa_cons (pv 3) pa_nil)) pa_nil))))))))) pss_nil)
      (pss_one (ps_ret (pe_op op_catT (pe_slice sl_tup (pv 0) po_none (po_some (pe_op op_sub (pe_callB call_len_seq (by rfl) ml PySem.boot_len (pa_cons (pv 0) pa_nil)) (pe_callB call_len_seq (by rfl) ml PySem.boot_len (pa_cons (pv 1) pa_nil))))) (pe_callTy call_tuple_of (by rfl) mtu (by decide +kernel) (pa_cons (pv 1) pa_nil)))))))), ?_⟩
    obtain ⟨pl, lvs, rfl, hpl, al⟩ := hl
    have lal := al.length
    rw [List.length_map] at lal
    have hcl := sm_len sm
    have hv := he
    obtain ⟨pe, er, rfl, hpe⟩ := ex_head he
    have mm : Mv F0 R H R H := .refl sub
    refine ⟨_, rfl, pe, _, 0, _, rfl, rfl, SqT.of (mm.sub _ _ hpe), atI_nat (j := 0) rfl, ?_⟩
    refine ⟨_, rfl, by show 4 ≤ sizeLine; decide, fun p1 n1 => ?_⟩
    have m1 : Mv F0 R H R _ := mv_mut (o := .lst [.str "num", .str "flag", .str "unit", .str "name"]) mm.sub n1
    have mm := mm.tr m1
    refine ⟨p1, _, rfl, .inl (SqL.of upd_same), rfl, rfl, _, rfl, ?_⟩
    by_cases hlf : leafB e = true
    · refine ifT (leaf_tag hlf) ?_
      refine ⟨_, rfl, q _ _ _ mm ?_⟩
      rw [leaf_with hlf ll]
      exact hv
    have hlf : leafB e = false := by simpa using hlf
    refine ifF (leaf_tagN hlf) ?_
    refine ⟨_, rfl, rfl, _, rfl, ?_⟩
    by_cases hh : ∃ f x g cs, e = .hd f x g cs
    · obtain ⟨f, x, g, cs, rfl⟩ := hh
      obtain ⟨pe2, _, ee, hpe2, _, _, rfl, rfl, ve, _, rfl, ae, vr, _, rfl, ⟨pr, _, rfl, hpr, _, _, rfl, rfl, vf, _, rfl, af, rfl⟩, vc, _, rfl, ⟨pc, cvs, rfl, hpc, acs⟩, rfl⟩ := hv
      obtain rfl : pe = pe2 := V.ref.inj ee
      refine ifT (decide_eq_true rfl) ?_
      obtain ⟨l0, lr, rfl⟩ : ∃ a r, l = a :: r := by cases l with | nil => cases ll | cons a r => exact ⟨a, r, rfl⟩
      obtain ⟨l1, ls, rfl⟩ : ∃ a r, lr = a :: r := by cases lr with | nil => cases ll | cons a r => exact ⟨a, r, rfl⟩
      have lls : ls.length = cs.len := by
        have : ls.length + 2 = cs.gs.length + 2 := ll
        rw [Clz.lg] at this
        omega
      have cl : cvs.length = cs.len := by rw [acs.length, cl_len]
      have cl9 : cs.len ≤ 900 := hcl
      refine ⟨Nat.zero_le _, fun L nL => ?_⟩
      have rL := mm.sub.free nL
      have nH : H L = none := mm.free nL
      have mL : Mv F0 R _ R _ := mv_mut (F := F0) (o := .lst []) mm.sub nL
      have mm := mm.tr mL
      refine ⟨_, rfl, pe, _, 3, _, rfl, rfl, SqT.of (mm.sub _ _ hpe2), rfl, pc, _, rfl, .inr (SqT.of (mm.sub _ _ hpc)), (cvs.length : Int), rfl, by omega, by omega, ?_⟩
      refine for_range (lo := 0) (n := cvs.length) (fun i σ H' => ∃ (R' : Hp) (acc : List V) (z : Option V), σ = [some (.ref pe), some (.ref pl), some (.str "handle"), some (.ref L), z] ∧ Mv F0 R H R' H' ∧ R' L = none ∧ H' L = some (.lst acc) ∧ Ats R' (((cs.setGs ls).d false).take i) acc) ?_ ?_ ?_
      · exact ⟨R, [], none, rfl, mm, rL, upd_same, rfl⟩
      · rintro i σ H' hi ⟨R', acc, z, rfl, mm, rL, hL, aa⟩
        show gName 4 _ _ _ _
        rw [Int.zero_add]
        have hpe2 := mm.up _ _ hpe2
        have hpc := mm.up _ _ hpc
        have hpl := mm.up _ _ hpl
        have acs := acs.up mm.up
        have al := al.up mm.up
        obtain ⟨y, hy⟩ : ∃ y, cvs[i]? = some y := ⟨_, List.getElem?_eq_getElem hi⟩
        obtain ⟨dd, hdd, ad⟩ := acs.mem hy
        obtain ⟨o, x', k, g', rfl, hb⟩ := cls_nb2 hdd
        obtain ⟨pz, _, rfl, hpz, _, _, rfl, rfl, _, _, rfl, rfl, _, _, rfl, rfl, vg, _, rfl, ag, rfl⟩ := ad
        obtain ⟨h, hh⟩ : ∃ h, ls[i]? = some h := ⟨_, List.getElem?_eq_getElem (by omega)⟩
        obtain ⟨hv, hhv, ah⟩ := al.get (d := h.d false) (i := i + 2) (by rw [List.getElem?_map]; show Option.map _ (ls[i]?) = _; rw [hh]; rfl)
        refine ⟨_, rfl, .inl ⟨rfl, _, SqL.of hL⟩, ?_⟩
        refine ⟨_, rfl, pe, _, 3, _, rfl, rfl, SqT.of (mm.sub _ _ hpe2), rfl, _, rfl, pc, _, _, _, rfl, rfl, SqT.of (mm.sub _ _ hpc), atI_nat hy, 3, rfl, pz, _, rfl, SqT.of (mm.sub _ _ hpz), (fun z => absurd z.2 (by show ¬ HT.sIx 4 4 (some 3) = 4; decide)), fun ps nps => ?_⟩
        have mS : Mv F0 R' H' R' _ := mv_mut (o := .tup (cutV [.str o, .str x', .str k, vg] none (some 3))) mm.sub nps
        have rL2 := mS.out rL hL
        have hL2 := mS.keep _ _ hL id
        refine ⟨_, rfl, _, rfl, _, _, rfl, rfl, pl, _, _, _, rfl, rfl, SqL.of (mS.sub _ _ hpl), (by show atI lvs ((i : Int) + 2) = some hv; exact atI_nat (j := i + 2) hhv), by show 1 ≤ sizeLine; decide, fun pt nt => ?_⟩
        have mS2 := mS.tr (mv_mut (F := F0) (o := .tup [hv]) mS.sub nt)
        have rL3 := mS2.out rL hL
        have hL3 := mS2.keep _ _ hL id
        have hps : (upd (upd H' ps (.tup (cutV [.str o, .str x', .str k, vg] none (some 3)))) pt (.tup [hv])) ps = some (.tup [.str o, .str x', .str k]) := by
          rw [upd_ne (fun z => by rw [← z, upd_same] at nt; cases nt), upd_same]
          rfl
        refine ⟨ps, pt, _, _, rfl, rfl, SqT.of hps, SqT.of upd_same, (fun z => by cases z), by show 4 ≤ sizeLine; decide, (fun z => by cases z), fun _ pn nn => ?_⟩
        obtain ⟨R4, m4, a4⟩ := lit2 mS2.sub (l := [.str o, .str x', .str k, h.d false]) ⟨_, _, rfl, at_str, _, _, rfl, at_str, _, _, rfl, at_str, _, _, rfl, ah, rfl⟩ nn
        have rL4 := m4.out rL3 hL3
        have hL4 := m4.keep _ _ hL3 id
        have laa := aa.length
        rw [List.length_take, cl_len, setGs_len] at laa
        refine ⟨L, _, _, rfl, rfl, hL4, Nat.lt_of_le_of_lt (by omega : acc.length ≤ 1000) (by decide), ?_⟩
        have mset : Mv (fun z => z = L) R4 _ R4 _ := mv_at (o := .lst (acc ++ [.ref pn])) m4.sub rL4 hL4 rfl
        refine ⟨R4, acc ++ [.ref pn], _, rfl, ((mm.tr mS2).tr m4).trans mset (fun _ f => f) (fun z f => .inr (by rw [f]; exact nH)), rL4, upd_same, ?_⟩
        rw [List.take_add_one, clz_take hdd hh]
        exact (aa.up (mS2.tr m4).up).append (.one a4)
      rintro σ' H' ⟨R', acc, z, rfl, mm, rL, hL, aa⟩
      rw [List.take_of_length_le (by rw [cl_len, setGs_len]; omega)] at aa
      have mm := mm.freeze rL hL nH
      have aa := aa.up (same_new (o := .lst acc) rL)
      have hcl2 : (upd R' L (.lst acc)) L = some (.lst acc) := upd_same
      generalize upd R' L (.lst acc) = R1 at mm aa hcl2
      have hpe2 := mm.up _ _ hpe2
      have hpr := mm.up _ _ hpr
      have hpl := mm.up _ _ hpl
      have al := al.up mm.up
      obtain ⟨v0, lv1, rfl, a0, v1, lv2, rfl, a1, _⟩ := al
      have mm0 := mm
      have mm : Mv F0 R1 H' R1 H' := .refl mm0.sub
      refine ⟨_, rfl, pl, _, 0, _, rfl, rfl, SqL.of (mm.sub _ _ hpl), atI_nat (j := 0) rfl, ?_⟩
      refine ⟨_, rfl, pe, _, 2, _, rfl, rfl, SqT.of (mm.sub _ _ hpe2), rfl, pr, _, 0, _, rfl, rfl, SqT.of (mm.sub _ _ hpr), rfl, _, rfl, pl, _, 1, _, rfl, rfl, SqL.of (mm.sub _ _ hpl), atI_nat (j := 1) rfl, by show 2 ≤ sizeLine; decide, fun p2 n2 => ?_⟩
      obtain ⟨R2, m2, a2⟩ := lit2 mm.sub (l := [.str x, l1.d false]) ⟨_, _, rfl, at_str, _, _, rfl, a1, rfl⟩ n2
      have mm := mm.tr m2
      refine ⟨_, rfl, L, _, rfl, .inl ⟨SqL.of (mm.sub _ _ (m2.up _ _ hcl2)), fun p3 n3 => ?_⟩⟩
      obtain ⟨R3, m3, a3⟩ := lit2 mm.sub (aa.up m2.up) n3
      refine ⟨by show 4 ≤ sizeLine; decide, fun p4 n4 => ?_⟩
      obtain ⟨R4, m4, a4⟩ := lit2 (mm.tr m3).sub (l := [.str "handle", l0.d false, .tup [.str x, l1.d false], .tup ((cs.setGs ls).d false)]) ⟨_, _, rfl, at_str, _, _, rfl, a0.up (m2.tr m3).up, _, _, rfl, a2.up m3.up, _, _, rfl, a3, rfl⟩ n4
      exact q _ _ _ (mm0.tr ((mm.tr m3).tr m4)) a4
    have nh : ∀ f x g cs, e ≠ .hd f x g cs := fun f x g cs z => hh ⟨f, x, g, cs, z⟩
    refine isF (node_tag nh) ?_
    obtain ⟨lead, e1, e2, hlead, hp3⟩ := node_form e l ll hlf nh
    have hp1 := node_parts hlf
    rw [e1] at hv
    obtain ⟨pe2, _, ee, hpe2, _, evs, rfl, rfl, av⟩ := hv
    obtain rfl : pe = pe2 := V.ref.inj ee
    have lev := av.length
    rw [List.length_append, List.length_map] at lev
    refine ⟨_, rfl, _, rfl, pe, _, rfl, .inr (SqT.of (mm.sub _ _ hpe2)), _, rfl, pl, _, rfl, .inl (SqL.of (mm.sub _ _ hpl)), _, _, rfl, rfl, ?_⟩
    have ei : (((V.str (tagE e) :: evs).length : Int) - (lvs.length : Int)) = ((lead.length + 1 : Nat) : Int) := by rw [List.length_cons]; omega
    refine ⟨_, rfl, pe, _, rfl, SqT.of (mm.sub _ _ hpe2), ?_, fun ps nps => ?_⟩
    · rw [ei, sIxn (by rw [List.length_cons]; omega)]
      rw [List.length_cons]
      exact fun z => by have := z.2; omega
    rw [ei, cut_to (by rw [List.length_cons]; omega)]
    have mS : Mv F0 R _ R _ := mv_mut (F := F0) (o := .tup ((V.str (tagE e) :: evs).take (lead.length + 1))) mm.sub nps
    have mmS := mm.tr mS
    refine ⟨_, rfl, pl, _, rfl, .inl ⟨SqL.of (mmS.sub _ _ hpl), fun pt nt => ?_⟩⟩
    have mT : Mv F0 R _ R _ := mv_mut (F := F0) (o := .tup lvs) mmS.sub nt
    have mmT := mmS.tr mT
    have hps : (upd (upd _ ps (.tup ((V.str (tagE e) :: evs).take (lead.length + 1)))) pt (.tup lvs)) ps = some (.tup ((V.str (tagE e) :: evs).take (lead.length + 1))) := mT.keep _ _ (upd_same (H := upd H p1 _)) id
    have llt : ((V.str (tagE e) :: evs).take (lead.length + 1)).length = lead.length + 1 := by rw [List.length_take, List.length_cons]; omega
    have hln : lvs ≠ [] := fun z => by rw [z] at lal; have : (0 : Nat) = l.length := lal; omega
    refine ⟨ps, pt, _, _, rfl, rfl, SqT.of hps, SqT.of upd_same, (fun z => by rw [z] at llt; cases llt), Nat.le_trans (by omega : _ ≤ 1000) (by decide), (fun z => absurd z hln), fun _ pn nn => ?_⟩
    have at1 : Ats R ((D.str (tagE e) :: (lead ++ l.map (Ex.d false)))) ((V.str (tagE e) :: evs).take (lead.length + 1) ++ lvs) := by
      refine ⟨_, _, rfl, rfl, ?_⟩
      have t1 := Ats.take lead.length av
      rw [List.take_left] at t1
      exact t1.append al
    obtain ⟨R4, m4, a4⟩ := lit2 mmT.sub at1 nn
    refine q _ _ _ (mmT.tr m4) ?_
    rw [e2]
    exact a4
end
end Bz


set_option Elab.async false
set_option linter.all false
set_option maxRecDepth 100000
set_option maxHeartbeats 4000000
namespace Bz
open PySem PySem.Spec L2 PyProof.Rows
theorem occC_zip (x : Str) : ∀ c : Clz, occC c x = (c.gs.zip c.nb).any fun p => !decide (x ∈ p.2) && occ p.1 x
  | .nil => rfl
  | .cons o y k g r => by
    show ((!decide (x = y ∨ x = k) && occ g x) || occC r x) = ((!decide (x ∈ [y, k]) && occ g x) || (r.gs.zip r.nb).any _)
    rw [occC_zip x r]
    congr 3
    simp
theorem occ_zip (x : Str) (e : Ex) (h : ∀ y, e ≠ .name y) : occ e x = ((exParts e).zip (bnds e)).any fun p => !decide (x ∈ p.2) && occ p.1 x := by
  cases e with
  | name y => exact absurd rfl (h y)
  | hd e y f cs =>
    show (occ e x || ((!decide (x = y) && occ f x) || occC cs x)) = ((!decide (x ∈ []) && occ e x) || ((!decide (x ∈ [y]) && occ f x) || (cs.gs.zip cs.nb).any _))
    rw [occC_zip x cs]
    simp
  | _ => simp [occ, exParts, bnds]
section
variable {P : Program} {w : World} {K : PySem.W.Frag} {mg : Str → Option Value} {base : Heap}
abbrev g__law_put : Stmt := topS 20
abbrev n__law_put : List Str := ["tree", "name", "other", "inner", "scopes", "rows", "k"]
abbrev p__law_put : List Str := ["tree", "name", "other"]
theorem sc__law_put : FnScope n__law_put p__law_put (defScope g__law_put) := ⟨rfl, rfl, rfl, by decide +kernel, rfl, by decide +kernel, by decide +kernel⟩
theorem law_parts_len {e : Ex} (h : clsLen e ≤ 900) : (exParts e).length ≤ 1000 := by
  cases e with
  | hd e x f cs =>
    show cs.gs.length + 1 + 1 ≤ 1000
    rw [Clz.lg]
    have : cs.len ≤ 900 := h
    omega
  | _ => simp [exParts]
def spPt (n : Nat) : Sp := fun vs H Q _ => ∃ (R : Hp) (e t : Ex) (x : Str) (v tv : V), vs = [v, .str x, tv] ∧ Same R H ∧ At R (e.d false) v ∧ At R (t.d false) tv ∧ exD e ≤ n ∧ smE e = true ∧ ∀ (R' H' : Hp) (u : V), Mv F0 R H R' H' → At R' ((subE x t e).d false) u → Q u H'
theorem ok_pt0 {f : Addr} {fd : FuncData} (F : Fun K "_law_put" "_law_put" g__law_put f fd) : FnOk P w K mg base CX0 3 f fd p__law_put (spPt 0) := by
  refine F.ok (k := 2) sc__law_put (fun vs H Q E h => ?_) (fun cdv A outer st H vs Q E hr h => ?_)
  · obtain ⟨R, e, t, x, v, tv, rfl, _⟩ := h
    rfl
  · obtain ⟨R, e, t, x, v, tv, rfl, _, _, _, h, _⟩ := h
    exact absurd h (by have := ex_pos e; omega)
theorem ok_pt {n : Nat} {f fP fS fW : Addr} {fd fdP fdS fdW : FuncData} (F : Fun K "_law_put" "_law_put" g__law_put f fd) (ml : mg "len" = none) (mr : mg "range" = none) (GP : Fn P w K mg base CX0 1 "_law_parts" p__law_parts spLP fP fdP)
    (GS : Fn P w K mg base CX0 2 "_law_scopes" p__law_scopes spScp fS fdS) (GW : Fn P w K mg base CX0 1 "_law_with" p__law_with spWth fW fdW) (GR : Fn P w K mg base CX0 (n + 3) "_law_put" p__law_put (spPt n) f fd) : FnOk P w K mg base CX0 (n + 4) f fd p__law_put (spPt (n + 1)) := by
  refine F.ok (k := n + 3) sc__law_put (fun vs H Q E h => ?_) (fun cdv A outer st H vs Q E hr h => ?_)
  · obtain ⟨R, e, t, x, v, tv, rfl, _⟩ := h
    rfl
  · obtain ⟨R, e, t, x, v, tv, rfl, sub, he, ht, dep, sm, q⟩ := h
    refine ⟨_, (C8.pss_cut (ps_if (PW.pt (pw_and (pt_cmpR op_eq (pe_ix ix_tup (pv 0) (pe_int) (fun _ _ => rfl)) (pe_str) (nomark _)) (pw_and1 (pt_cmpR op_eq (pe_ix ix_tup (pv 0) (pe_int) (fun _ _ => rfl)) (pv 1) (nomark _))))) (pss_one (ps_ret (pv 2))) pss_nil)
      (pss_cons (ps_par (i := 3) (j := 4) (by rfl) sc__law_put.nd rfl rfl (by decide) rfl rfl (pa_cons (pe_call GP.ok (hr.mono (by omega)) (by rfl) GP.g GP.kp GP.b .nil pass0 (pa_cons (pv 0) pa_nil)) (pa_cons (pe_call GS.ok (hr.mono (by omega)) (by rfl) GS.g GS.kp GS.b .nil pass0 (pa_cons (pv 0) pa_nil)) pa_nil)) (by rfl))
      (pss_cons (ps_set (i := 5) sc__law_put.nd rfl (Or.inl rfl) (pe_lst pa_nil))
      (pss_cons (ps_for PassesOwn.never rfl (pi_range1 rfl mr (pa_cons (pe_callB call_len_seq (by rfl) ml PySem.boot_len (pa_cons (pv 3) pa_nil)) pa_nil)) (pg_name (i := 6) sc__law_put.nd rfl (Or.inl rfl)) (pss_one (ps_if (pt_cmpR op_in_seq (pv 1) (pe_ix ix_list (pv 4) (pv 6) (fun _ _ => rfl)) (by rfl)) (pss_one (ps_expr (pe_bm PySem.F.plainAttrs_list PySem.F.slot_list_append PySem.F.type_list_append mt_append (pv 5) (pa_cons (pe_ix ix_list (pv 3) (pv 6) (fun _ _ => rfl)) pa_nil)))) (pss_one (ps_expr (pe_bm PySem.F.plainAttrs_list PySem.F.slot_list_append PySem.F.type_list_append mt_append (pv 5) (pa_cons (pe_call GR.ok hr (by rfl) GR.g GR.kp GR.b .nil pass0 (pa_cons (pe_ix ix_list (pv 3) (pv 6) (fun _ _ => rfl)) (pa_cons (pv 1) (pa_cons (pv 2) pa_nil)))) pa_nil)))))))
      (pss_one (ps_ret (pe_call GW.ok (hr.mono (by omega)) (by rfl) GW.g GW.kp GW.b .nil pass0 (pa_cons (pv 0) (pa_cons (pv 5) pa_nil))))))))), ?_⟩
    have hv := he
    have hcl := sm_len sm
    have lq := law_parts_len hcl
    obtain ⟨pe, er, rfl, hpe⟩ := ex_head he
    have mm : Mv F0 R H R H := .refl sub
    refine ⟨fun σ H1 => σ = [some (.ref pe), some (.str x), some tv, none, none, none, none] ∧ Mv F0 R H R H1 ∧ (∀ y, e = .name y → ¬ y = x), ?_, ?_⟩
    · refine ⟨_, rfl, pe, _, 0, _, rfl, rfl, SqT.of (sub _ _ hpe), atI_nat (j := 0) rfl, rfl, _, rfl, ?_⟩
      by_cases hx : ∃ y, e = .name y
      · obtain ⟨y, rfl⟩ := hx
        obtain ⟨pe2, _, e1, hpe2, _, _, rfl, rfl, _, _, rfl, rfl, rfl⟩ := hv
        obtain rfl : pe = pe2 := V.ref.inj e1
        refine ifT (decide_eq_true rfl) ?_
        refine ⟨_, rfl, pe, _, 1, _, rfl, rfl, SqT.of (sub _ _ hpe2), rfl, _, rfl, rfl, _, rfl, ?_⟩
        by_cases h : y = x
        · refine ifT (decide_eq_true (by rw [h])) ?_
          refine ⟨_, rfl, q R H tv mm ?_⟩
          rw [sub_name, if_pos h]
          exact ht
        · refine ifF (decide_eq_false fun z => h (V.str.inj z)) ?_
          exact ⟨rfl, mm, fun z hz => by cases hz; exact h⟩
      · have hnn : ∀ y, e ≠ .name y := fun y z => hx ⟨y, z⟩
        refine isF (tag_name hnn).1 ?_
        exact ⟨rfl, mm, fun z hz => absurd hz (hnn z)⟩
    rintro σ H1 ⟨rfl, mm, hny⟩
    refine ⟨_, rfl, _, e, _, rfl, mm.sub, hv, sm, fun R2 H2 u2 m2 au2 => ?_⟩
    refine ⟨_, rfl, _, e, _, rfl, m2.sub, hv.up m2.up, sm, fun R3 H3 u3 m3 au3 => ?_⟩
    have mm := mm.tr (m2.tr m3)
    obtain ⟨p1, xs, rfl, hp1, a1⟩ := au2.up m3.up
    obtain ⟨p2, ys, rfl, hp2, a2⟩ := au3
    have l1 := a1.length
    have l2 := a2.length
    rw [List.length_map] at l1 l2
    rw [len_pb] at l2
    refine ⟨_, _, rfl, ?_⟩
    refine ⟨Nat.zero_le _, fun L nL => ?_⟩
    have rL := mm.sub.free nL
    have nH : H L = none := mm.free nL
    have mL : Mv F0 R3 H3 R3 _ := mv_mut (F := F0) (o := .lst []) mm.sub nL
    have mm := mm.tr mL
    have up3 := (m2.tr m3).up
    refine ⟨_, rfl, p1, _, rfl, .inl (SqL.of (mm.sub _ _ hp1)), (xs.length : Int), rfl, by omega, by omega, ?_⟩
    refine for_range (lo := 0) (n := xs.length) (fun i σ H' => ∃ (R' : Hp) (acc : List V) (z : Option V), σ = [some (.ref pe), some (.str x), some tv, some (.ref p1), some (.ref p2), some (.ref L), z] ∧ Mv F0 R H R' H' ∧ Same R3 R' ∧ R' L = none ∧ H' L = some (.lst acc) ∧ Ats R' (((((exParts e).zip (bnds e)).take i).map (sub1 x t)).map (Ex.d false)) acc) ?_ ?_ ?_
    · exact ⟨R3, [], none, rfl, mm, .refl _, rL, upd_same, rfl⟩
    · rintro i σ H' hi ⟨R', acc, z, rfl, mm, s3, rL, hL, aa⟩
      show gName 6 _ _ _ _
      rw [Int.zero_add]
      have hp1 := s3 _ _ hp1
      have hp2 := s3 _ _ hp2
      obtain ⟨g, eg⟩ : ∃ g, (exParts e)[i]? = some g := ⟨_, List.getElem?_eq_getElem (by omega)⟩
      obtain ⟨b2, eb⟩ : ∃ b, (bnds e)[i]? = some b := ⟨_, List.getElem?_eq_getElem (by rw [len_pb]; omega)⟩
      have ez : ((exParts e).zip (bnds e))[i]? = some (g, b2) := List.getElem?_zip_eq_some.mpr ⟨eg, eb⟩
      obtain ⟨pd, ps⟩ := part_mem (List.mem_of_getElem? eg)
      obtain ⟨gv, hgv, ag⟩ := (a1.up s3).get (d := g.d false) (i := i) (by rw [List.getElem?_map, eg]; rfl)
      obtain ⟨bv, hbv, ab⟩ := (a2.up s3).get (d := bsD b2) (i := i) (by rw [List.getElem?_map, eb]; rfl)
      obtain ⟨pb, rfl, hpb⟩ := bsD_at ab
      have tk : ((((exParts e).zip (bnds e)).take (i + 1)).map (sub1 x t)).map (Ex.d false) = ((((exParts e).zip (bnds e)).take i).map (sub1 x t)).map (Ex.d false) ++ [(sub1 x t (g, b2)).d false] := by
        rw [List.take_add_one, ez, List.map_append, List.map_append]; rfl
      have lw := aa.length
      rw [List.length_map, List.length_map, List.length_take] at lw
      have lsm : acc.length < sizeLine := Nat.lt_of_le_of_lt (by omega : acc.length ≤ 1000) (by decide)
      refine ⟨_, rfl, _, rfl, _, rfl, p2, _, _, _, rfl, rfl, SqL.of (mm.sub _ _ hp2), atI_nat hbv, ?_⟩
      refine ⟨pb, _, rfl, .inl (SqL.of (mm.sub _ _ hpb)), rfl, flat_str _, _, rfl, ?_⟩
      show if (inV (.str x) (b2.map V.str)) = true then _ else _
      rw [inV_str]
      by_cases c : x ∈ b2
      · refine ifT (decide_eq_true c) ?_
        refine ⟨_, rfl, .inl ⟨rfl, _, SqL.of hL⟩, _, rfl, _, rfl, p1, _, _, _, rfl, rfl, SqL.of (mm.sub _ _ hp1), atI_nat hgv, L, _, _, rfl, rfl, hL, lsm, ?_⟩
        have mset : Mv (fun z => z = L) R' H' R' _ := mv_at (o := .lst (acc ++ [gv])) mm.sub rL hL rfl
        refine ⟨R', acc ++ [gv], _, rfl, mm.trans mset (fun _ f => f) (fun z f => .inr (by rw [f]; exact nH)), s3, rL, upd_same, ?_⟩
        rw [tk, show sub1 x t (g, b2) = g from if_pos c]
        exact aa.append (.one ag)
      · refine ifF (decide_eq_false c) ?_
        refine ⟨_, rfl, .inl ⟨rfl, _, SqL.of hL⟩, _, rfl, _, rfl, p1, _, _, _, rfl, rfl, SqL.of (mm.sub _ _ hp1), atI_nat hgv, _, rfl, _, rfl, R', g, t, x, gv, tv, rfl, mm.sub, ag, (ht.up up3).up s3, by omega, ps sm, fun R5 H5 y m5 ay => ?_⟩
        have rL5 := m5.out rL hL
        have hL5 := m5.keep _ _ hL id
        refine ⟨L, _, _, rfl, rfl, hL5, lsm, ?_⟩
        have mset : Mv (fun z => z = L) R5 H5 R5 _ := mv_at (o := .lst (acc ++ [y])) m5.sub rL5 hL5 rfl
        refine ⟨R5, acc ++ [y], _, rfl, (mm.tr m5).trans mset (fun _ f => f) (fun z f => .inr (by rw [f]; exact nH)), s3.trans m5.up, rL5, upd_same, ?_⟩
        rw [tk, show sub1 x t (g, b2) = subE x t g from if_neg c]
        exact (aa.up m5.up).append (.one ay)
    rintro σ' H' ⟨R', acc, z, rfl, mm, s3, rL, hL, aa⟩
    have lz : ((exParts e).zip (bnds e)).length = (exParts e).length := by rw [List.length_zip, len_pb]; exact Nat.min_self _
    rw [l1, ← lz, List.take_length] at aa
    have mm := mm.freeze rL hL nH
    have aa := aa.up (same_new (o := .lst acc) rL)
    have hL2 : (upd R' L (.lst acc)) L = some (.lst acc) := upd_same
    refine ⟨_, rfl, _, rfl, _, e, ((exParts e).zip (bnds e)).map (sub1 x t), _, _, rfl, mm.sub, hv.up mm.up, ⟨L, acc, rfl, hL2, aa⟩, by rw [List.length_map, lz], sm, fun R5 H5 z m5 az => ?_⟩
    refine q R5 H5 z (mm.tr m5) ?_
    by_cases hx : ∃ y, e = .name y
    · obtain ⟨y, rfl⟩ := hx
      rw [sub_name, if_neg (hny y rfl)]
      exact az
    · rw [sub_with x t (fun y z => hx ⟨y, z⟩)] at az
      exact az
abbrev g__law_free : Stmt := topS 19
abbrev n__law_free : List Str := ["tree", "found", "inner", "scopes", "k", "name"]
abbrev p__law_free : List Str := ["tree"]
theorem sc__law_free : FnScope n__law_free p__law_free (defScope g__law_free) := ⟨rfl, rfl, rfl, by decide +kernel, rfl, by decide +kernel, by decide +kernel⟩
def spFr (n : Nat) : Sp := fun vs H Q _ => ∃ (R : Hp) (e : Ex) (v : V), vs = [v] ∧ Same R H ∧ At R (e.d false) v ∧ exD e ≤ n ∧ gdE e = true ∧ ∀ (R' H' : Hp) (u : V) (l : List Str), Mv F0 R H R' H' → At R' (bsD l) u → l.Nodup → (∀ y, y ∈ l ↔ occ e y = true) → Q u H'
theorem ok_fr0 {f : Addr} {fd : FuncData} (F : Fun K "_law_free" "_law_free" g__law_free f fd) : FnOk P w K mg base CX0 3 f fd p__law_free (spFr 0) := by
  refine F.ok (k := 2) sc__law_free (fun vs H Q E h => ?_) (fun cdv A outer st H vs Q E hr h => ?_)
  · obtain ⟨R, e, v, rfl, _⟩ := h
    rfl
  · obtain ⟨R, e, v, rfl, _, _, h, _⟩ := h
    exact absurd h (by have := ex_pos e; omega)
theorem ok_fr {n : Nat} {f fP fS : Addr} {fd fdP fdS : FuncData} (F : Fun K "_law_free" "_law_free" g__law_free f fd) (ml : mg "len" = none) (mr : mg "range" = none) (GP : Fn P w K mg base CX0 1 "_law_parts" p__law_parts spLP fP fdP)
    (GS : Fn P w K mg base CX0 2 "_law_scopes" p__law_scopes spScp fS fdS) (GR : Fn P w K mg base CX0 (n + 3) "_law_free" p__law_free (spFr n) f fd) : FnOk P w K mg base CX0 (n + 4) f fd p__law_free (spFr (n + 1)) := by
  refine F.ok (k := n + 3) sc__law_free (fun vs H Q E h => ?_) (fun cdv A outer st H vs Q E hr h => ?_)
  · obtain ⟨R, e, v, rfl, _⟩ := h
    rfl
  · obtain ⟨R, e, v, rfl, sub, he, dep, gd, q⟩ := h
    refine ⟨_, (pss_cons (ps_if (pt_cmpR op_eq (pe_ix ix_tup (pv 0) (pe_int) (fun _ _ => rfl)) (pe_str) (nomark _)) (pss_one (ps_ret (pe_lst (pa_cons (pe_ix ix_tup (pv 0) (pe_int) (fun _ _ => rfl)) pa_nil)))) pss_nil)
      (pss_cons (ps_set (i := 1) sc__law_free.nd rfl (Or.inr rfl) (pe_lst pa_nil))
      (pss_cons (ps_asg (pe_tup (pa_cons (pe_call GP.ok (hr.mono (by omega)) (by rfl) GP.g GP.kp GP.b .nil pass0 (pa_cons (pv 0) pa_nil)) (pa_cons (pe_call GS.ok (hr.mono (by omega)) (by rfl) GS.g GS.kp GS.b .nil pass0 (pa_cons (pv 0) pa_nil)) pa_nil))) (pg_tup rfl (pgs_cons (pg_name (i := 2) sc__law_free.nd rfl (Or.inl rfl)) (pgs_cons (pg_name (i := 3) sc__law_free.nd rfl (Or.inr rfl)) pgs_nil))))
      (pss_cons (ps_for PassesOwn.never rfl (pi_range1 rfl mr (pa_cons (pe_callB call_len_seq (by rfl) ml PySem.boot_len (pa_cons (pv 2) pa_nil)) pa_nil)) (pg_name (i := 4) sc__law_free.nd rfl (Or.inr rfl)) (pss_one (ps_set (i := 1) sc__law_free.nd rfl (Or.inr rfl) (pe_op op_cat (pv 1) (pe_lc (own := [("name", 5)]) (g := gName 5) (tt := tAnd (tTest (tOp (rIn K true) (tVar 5) (tOp (rIxL K) (tVar 3) (tVar 4)))) (tTest (tOp (rIn K true) (tVar 5) (tVar 1)))) (te := tVar 5) rfl sc__law_free.nd (pi_list (pe_call GR.ok hr (by rfl) GR.g GR.kp GR.b .nil pass0 (pa_cons (pe_ix ix_list (pv 2) (pv 4) (fun _ _ => rfl)) pa_nil))) (blkOk_by (N := n__law_free) (sc := defScope g__law_free) (by decide +kernel)) (fun _ _ _ _ _ => pg_name (i := 5) sc__law_free.nd rfl (Or.inl rfl)) (fun _ _ _ _ _ => pts_one (PW.pt (pw_and (pt_cmpR op_notIn_seq (pv 5) (pe_ix ix_list (pv 3) (pv 4) (fun _ _ => rfl)) (by rfl)) (pw_and1 (pt_cmpR op_notIn_seq (pv 5) (pv 1) (by rfl)))))) (fun _ _ _ _ _ => pv 5))))))
      (pss_one (ps_ret (pv 1))))))), ?_⟩
    have hv := he
    have sm := gd_sm e gd
    have hcl := sm_len sm
    have lq := law_parts_len hcl
    obtain ⟨pe, er, rfl, hpe⟩ := ex_head he
    have mm : Mv F0 R H R H := .refl sub
    refine ⟨_, rfl, pe, _, 0, _, rfl, rfl, SqT.of (sub _ _ hpe), atI_nat (j := 0) rfl, rfl, _, rfl, ?_⟩
    by_cases hx : ∃ y, e = .name y
    · obtain ⟨y, rfl⟩ := hx
      obtain ⟨pe2, _, e1, hpe2, _, _, rfl, rfl, _, _, rfl, rfl, rfl⟩ := hv
      obtain rfl : pe = pe2 := V.ref.inj e1
      refine ifT (decide_eq_true rfl) ?_
      refine ⟨_, rfl, pe, _, 1, _, rfl, rfl, SqT.of (sub _ _ hpe2), rfl, by show 1 ≤ sizeLine; decide, fun p np => ?_⟩
      obtain ⟨R2, m2, a2⟩ := lit3 sub (l := [y].map D.str) (str_ats [y]) np
      refine q R2 _ _ [y] m2 a2 (by simp) fun z => ?_
      show z ∈ [y] ↔ decide (z = y) = true
      rw [List.mem_singleton, decide_eq_true_eq]
    have hnn : ∀ y, e ≠ .name y := fun y z => hx ⟨y, z⟩
    refine isF (tag_name hnn).1 ?_
    refine ⟨Nat.zero_le _, fun L0 nL0 => ?_⟩
    obtain ⟨R1, m1, a0⟩ := lit3 sub (l := ([] : List Str).map D.str) rfl nL0
    show gName 1 _ _ _ _
    refine ⟨_, rfl, _, e, _, rfl, m1.sub, hv.up m1.up, sm, fun R2 H2 u2 m2 au2 => ?_⟩
    refine ⟨_, rfl, _, e, _, rfl, m2.sub, (hv.up m1.up).up m2.up, sm, fun R3 H3 u3 m3 au3 => ?_⟩
    refine ⟨by show 2 ≤ sizeLine; decide, fun pt nt => ?_⟩
    have mT : Mv F0 R3 H3 R3 _ := mv_mut (F := F0) (o := .tup [u2, u3]) m3.sub nt
    have mm := ((m1.tr m2).tr m3).tr mT
    obtain ⟨p1, xs, rfl, hp1, a1⟩ := au2.up m3.up
    obtain ⟨p2, ys, rfl, hp2, a2⟩ := au3
    have l1 := a1.length
    have l2 := a2.length
    rw [List.length_map] at l1 l2
    rw [len_pb] at l2
    refine ⟨pt, _, rfl, SqT.of upd_same, rfl, _, _, rfl, _, _, rfl, rfl, ?_⟩
    refine ⟨_, rfl, p1, _, rfl, .inl (SqL.of (mm.sub _ _ hp1)), (xs.length : Int), rfl, by omega, by omega, ?_⟩
    refine for_range (lo := 0) (n := xs.length) (fun i σ H' => ∃ (R' : Hp) (pf : Addr) (l : List Str) (z : Option V), σ = [some (.ref pe), some (.ref pf), some (.ref p1), some (.ref p2), z, none] ∧ Mv F0 R H R' H' ∧ Same R3 R' ∧ R' pf = some (.lst (l.map V.str)) ∧ l.Nodup ∧ (∀ y, y ∈ l ↔ (((exParts e).zip (bnds e)).take i).any (fun p => !decide (y ∈ p.2) && occ p.1 y) = true)) ?_ ?_ ?_
    · obtain ⟨pa, ea, ha⟩ := bsD_at (bs := []) (((show At R1 (bsD []) _ from a0).up m2.up).up m3.up)
      cases ea
      exact ⟨R3, L0, [], none, rfl, mm, .refl _, ha, List.nodup_nil, fun y => by simp⟩
    · rintro i σ H' hi ⟨R', pf, l, z, rfl, mm, s3, hf, nd, mem⟩
      show gName 4 _ _ _ _
      rw [Int.zero_add]
      have hp1 := s3 _ _ hp1
      have hp2 := s3 _ _ hp2
      obtain ⟨g, eg⟩ : ∃ g, (exParts e)[i]? = some g := ⟨_, List.getElem?_eq_getElem (by omega)⟩
      obtain ⟨b2, eb⟩ : ∃ b, (bnds e)[i]? = some b := ⟨_, List.getElem?_eq_getElem (by rw [len_pb]; omega)⟩
      have ez : ((exParts e).zip (bnds e))[i]? = some (g, b2) := List.getElem?_zip_eq_some.mpr ⟨eg, eb⟩
      have gm := List.mem_of_getElem? eg
      obtain ⟨pd, ps⟩ := part_mem gm
      have gg := gd_part gd gm
      obtain ⟨gv, hgv, ag⟩ := (a1.up s3).get (d := g.d false) (i := i) (by rw [List.getElem?_map, eg]; rfl)
      obtain ⟨bv, hbv, ab⟩ := (a2.up s3).get (d := bsD b2) (i := i) (by rw [List.getElem?_map, eb]; rfl)
      obtain ⟨pb, rfl, hpb⟩ := bsD_at ab
      refine ⟨_, rfl, ?_⟩
      refine ⟨_, rfl, _, rfl, p1, _, _, _, rfl, rfl, SqL.of (mm.sub _ _ hp1), atI_nat hgv, R', g, gv, rfl, mm.sub, ag, by omega, gg, fun R4 H4 u4 lg m4 a4 ndg memg => ?_⟩
      obtain ⟨pg, rfl, hpg⟩ := bsD_at a4
      have mm := mm.tr m4
      have hp2 := m4.up _ _ hp2
      have hpb := m4.up _ _ hpb
      have hf := m4.up _ _ hf
      have lgs : lg.length ≤ 4 := gd_few gg ndg fun y hy => (memg y).mp hy
      refine ⟨pg, rfl, ⟨_, SqL.of (mm.sub _ _ hpg)⟩, fun Da nD => ?_⟩
      have rD := mm.sub.free nD
      have nH : H Da = none := mm.free nD
      have mD : Mv F0 R4 H4 R4 _ := mv_mut (F := F0) (o := .lst []) mm.sub nD
      refine lc_list (K := K) (a := pg) (xs := lg.map V.str) (fun j H5 => ∃ l5 : List Str, H5 = upd H4 Da (.lst (l5.map V.str)) ∧ l5.length ≤ j ∧ l5 = (lg.take j).filter fun y => !decide (y ∈ b2) && !decide (y ∈ l)) ⟨[], rfl, Nat.le_refl _, rfl⟩ (fun j H5 _ z => by obtain ⟨l5, rfl, _⟩ := z; exact SqL.of (same_new nD _ _ (mm.sub _ _ hpg))) ?_ ?_
      · rintro j y H5 hy ⟨l5, rfl, ll5, e5⟩
        rw [List.getElem?_map] at hy
        cases ej : lg[j]? with
        | none => rw [ej] at hy; cases hy
        | some nm =>
          rw [ej] at hy
          obtain rfl : V.str nm = y := Option.some.inj hy
          have s5 : Same R4 (upd H4 Da (.lst (l5.map V.str))) := mm.sub.trans (same_new nD)
          have tk : (lg.take (j + 1)).filter (fun y => !decide (y ∈ b2) && !decide (y ∈ l)) = l5 ++ (if (!decide (nm ∈ b2) && !decide (nm ∈ l)) = true then [nm] else []) := by
            rw [List.take_add_one, ej, List.filter_append, ← e5]
            show l5 ++ List.filter _ [nm] = _
            rw [List.filter_cons]
            rfl
          refine ⟨rfl, _, rfl, _, rfl, _, rfl, p2, _, _, _, rfl, rfl, SqL.of (s5 _ _ hp2), atI_nat hbv, pb, _, rfl, .inl (SqL.of (s5 _ _ hpb)), rfl, flat_str _, _, rfl, ?_⟩
          show if (!inV (.str nm) (b2.map V.str)) = true then _ else _
          rw [inV_str]
          by_cases c : nm ∈ b2
          · refine ifF (by rw [decide_eq_true c]; rfl) ?_
            refine ifF rfl ?_
            refine ⟨l5, rfl, Nat.le_succ_of_le ll5, ?_⟩
            rw [tk, decide_eq_true c]
            exact (List.append_nil _).symm
          · refine ifT (by rw [decide_eq_false c]; rfl) ?_
            refine ⟨_, rfl, _, rfl, pf, _, rfl, .inl (SqL.of (s5 _ _ hf)), rfl, flat_str _, _, rfl, ?_⟩
            show (if (!inV (.str nm) (l.map V.str)) = true then _ else _)
            rw [inV_str]
            by_cases c2 : nm ∈ l
            · refine ifF (by rw [decide_eq_true c2]; rfl) ?_
              refine ⟨l5, rfl, Nat.le_succ_of_le ll5, ?_⟩
              rw [tk, decide_eq_true c2, Bool.not_true, Bool.and_false]
              exact (List.append_nil _).symm
            · refine ifT (by rw [decide_eq_false c2]; rfl) ?_
              refine ⟨_, rfl, _, upd_same, ?_, l5 ++ [nm], ?_, ?_, ?_⟩
              · rw [List.length_map]
                have lj : j < lg.length := (List.getElem?_eq_some_iff.mp ej).1
                exact Nat.lt_of_le_of_lt (by omega : l5.length ≤ 1000) (by decide)
              · rw [upd_twice, List.map_append]; rfl
              · rw [List.length_append]; exact Nat.succ_le_succ ll5
              · rw [tk, decide_eq_false c, decide_eq_false c2]; rfl
      · rintro H5 ⟨l5, rfl, ll5, e5⟩
        rw [List.length_map, List.take_length] at e5
        rw [List.length_map] at ll5
        have ndl : (l ++ l5).Nodup := by
          rw [List.nodup_append]
          refine ⟨nd, by rw [e5]; exact ndg.filter _, fun a ha b hb hab => ?_⟩
          rw [e5] at hb
          have h2 := (and2 (List.mem_filter.mp hb).2).2
          rw [← hab, decide_eq_true ha] at h2
          cases h2
        have meml : ∀ y, y ∈ l ++ l5 ↔ (((exParts e).zip (bnds e)).take (i + 1)).any (fun p => !decide (y ∈ p.2) && occ p.1 y) = true := fun y => by
          rw [List.take_add_one, ez, List.any_append, Bool.or_eq_true, List.mem_append, mem y, e5, List.mem_filter, memg y]
          show _ ↔ _ ∨ ((!decide (y ∈ b2) && occ g y) || false) = true
          rw [Bool.or_false]
          by_cases c0 : y ∈ l
          · simp [(mem y).mp c0]
          · rw [decide_eq_false c0]
            simp [Bool.and_comm]
        have occl : ∀ y ∈ l ++ l5, occ e y = true := fun y hy => by
          rw [occ_zip y e hnn]
          have h := (meml y).mp hy
          rw [List.any_eq_true] at h ⊢
          obtain ⟨p, hp, z⟩ := h
          exact ⟨p, List.mem_of_mem_take hp, z⟩
        have len4 := gd_few gd ndl occl
        rw [List.length_append] at len4
        have mD2 : Mv F0 R4 H4 R4 _ := mv_mut (F := F0) (o := .lst (l5.map V.str)) mm.sub nD
        have mmD := mm.tr mD2
        refine ⟨pf, Da, _, _, rfl, rfl, mmD.sub _ _ hf, upd_same, by rw [List.length_map, List.length_map]; exact Nat.le_trans len4 (by decide), fun pn nn => ?_⟩
        have mN : Mv F0 R4 _ _ _ := mv_new (F := F0) (o := .lst ((l ++ l5).map V.str)) mmD.sub nn
        rw [← List.map_append]
        exact ⟨_, pn, l ++ l5, _, rfl, mmD.tr mN, (s3.trans m4.up).trans mN.up, upd_same, ndl, meml⟩
    rintro σ' H' ⟨R', pf, l, z, rfl, mm, s3, hf, nd, mem⟩
    have lz : ((exParts e).zip (bnds e)).length = (exParts e).length := by rw [List.length_zip, len_pb]; exact Nat.min_self _
    rw [l1, ← lz, List.take_length] at mem
    refine ⟨_, rfl, q R' H' _ l mm ⟨pf, _, rfl, hf, str_ats l⟩ nd fun y => ?_⟩
    rw [mem y, occ_zip y e hnn]
end
end Bz


set_option Elab.async false
set_option linter.all false
set_option maxRecDepth 100000
set_option maxHeartbeats 4000000
namespace Bz
open PySem PySem.Spec L2 PyProof.Rows
theorem gd_set : ∀ {c : Clz} {l : List Ex}, gdC c = true → (∀ e ∈ l, gdE e = true) → gdC (c.setGs l) = true
  | .nil, l, h, _ => by cases l <;> exact h
  | .cons o x k g r, [], h, hl => by
    have h2 := (and2 (and2 (and2 h).2).2).2
    exact and2i (and2 h).1 (and2i (and2 (and2 h).2).1 (and2i (and2 (and2 (and2 h).2).2).1 (and2i (and2 h2).1 (gd_set (and2 h2).2 hl))))
  | .cons o x k g r, a :: l, h, hl => by
    have h2 := (and2 (and2 (and2 h).2).2).2
    exact and2i (and2 h).1 (and2i (and2 (and2 h).2).1 (and2i (and2 (and2 (and2 h).2).2).1 (and2i (hl a List.mem_cons_self) (gd_set (and2 h2).2 fun e he => hl e (List.mem_cons_of_mem _ he)))))
theorem dd_set : ∀ {c : Clz} {l : List Ex}, l.length = c.len → (∀ e ∈ l, ddE e ≤ 1) → ddC (c.setGs l) ≤ 2
  | .nil, l, _, _ => by cases l <;> exact Nat.zero_le _
  | .cons o x k g r, [], h, hl => by cases h
  | .cons o x k g r, a :: l, h, hl => Nat.max_le.mpr ⟨Nat.succ_le_succ (hl a List.mem_cons_self), dd_set (Nat.succ.inj h) fun e he => hl e (List.mem_cons_of_mem _ he)⟩
theorem with_ok (e : Ex) (l : List Ex) (hl : l.length = (exParts e).length) (g : gdE e = true) (gl : ∀ e ∈ l, gdE e = true) (dl : ∀ e ∈ l, ddE e ≤ 1) : gdE (withE e l) = true ∧ ddE (withE e l) ≤ 4 := by
  have m0 : ∀ {a : Ex} {r : List Ex}, l = a :: r → gdE a = true ∧ ddE a ≤ 1 := fun {a r} e => ⟨gl a (by rw [e]; exact List.mem_cons_self), dl a (by rw [e]; exact List.mem_cons_self)⟩
  have m1 : ∀ {a b : Ex} {r : List Ex}, l = a :: b :: r → gdE b = true ∧ ddE b ≤ 1 := fun {a b r} e => ⟨gl b (by rw [e]; exact List.mem_cons_of_mem _ List.mem_cons_self), dl b (by rw [e]; exact List.mem_cons_of_mem _ List.mem_cons_self)⟩
  have m2 : ∀ {a b c : Ex} {r : List Ex}, l = a :: b :: c :: r → gdE c = true ∧ ddE c ≤ 1 := fun {a b c r} e => ⟨gl c (by rw [e]; exact List.mem_cons_of_mem _ (List.mem_cons_of_mem _ List.mem_cons_self)), dl c (by rw [e]; exact List.mem_cons_of_mem _ (List.mem_cons_of_mem _ List.mem_cons_self))⟩
  have t1 : ∀ {x : Nat}, x ≤ 1 → x + 1 ≤ 4 := fun h => by omega
  have t2 : ∀ {x y : Nat}, x ≤ 1 → y ≤ 1 → max x y + 1 ≤ 4 := fun h k => by omega
  match e, l, hl with
  | .num n, [], _ => exact ⟨g, by show 1 ≤ 4; decide⟩
  | .flag n, [], _ => exact ⟨g, by show 1 ≤ 4; decide⟩
  | .unit, [], _ => exact ⟨g, by show 1 ≤ 4; decide⟩
  | .name n, [], _ => exact ⟨g, by show 1 ≤ 4; decide⟩
  | .call f e, [a, b], _ => exact ⟨and2i (m0 rfl).1 (m1 rfl).1, t2 (m0 rfl).2 (m1 rfl).2⟩
  | .fn x e, [a], _ => exact ⟨and2i (and2 g).1 (m0 rfl).1, t1 (m0 rfl).2⟩
  | .rc y x e, [a], _ => exact ⟨and2i (and2 g).1 (and2i (and2 (and2 g).2).1 (m0 rfl).1), t1 (m0 rfl).2⟩
  | .lt x f e, [a, b], _ => exact ⟨and2i (and2 g).1 (and2i (m0 rfl).1 (m1 rfl).1), t2 (m0 rfl).2 (m1 rfl).2⟩
  | .ite f e g, [a, b, c], _ => exact ⟨and2i (m0 rfl).1 (and2i (m1 rfl).1 (m2 rfl).1), by have := (m0 rfl).2; have := (m1 rfl).2; have := (m2 rfl).2; show max (ddE a) (max (ddE b) (ddE c)) + 1 ≤ 4; omega⟩
  | .pair f e, [a, b], _ => exact ⟨and2i (m0 rfl).1 (m1 rfl).1, t2 (m0 rfl).2 (m1 rfl).2⟩
  | .fst e, [a], _ => exact ⟨(m0 rfl).1, t1 (m0 rfl).2⟩
  | .snd e, [a], _ => exact ⟨(m0 rfl).1, t1 (m0 rfl).2⟩
  | .op s f e, [a, b], _ => exact ⟨and2i (and2 g).1 (and2i (m0 rfl).1 (m1 rfl).1), t2 (m0 rfl).2 (m1 rfl).2⟩
  | .nt e, [a], _ => exact ⟨(m0 rfl).1, t1 (m0 rfl).2⟩
  | .pr f e, [a, b], _ => exact ⟨and2i (m0 rfl).1 (m1 rfl).1, t2 (m0 rfl).2 (m1 rfl).2⟩
  | .ask s e, [a], _ => exact ⟨and2i (and2 g).1 (m0 rfl).1, t1 (m0 rfl).2⟩
  | .hd f x h cs, a :: b :: gs, hl =>
    have hl : gs.length + 2 = cs.gs.length + 2 := hl
    have hg : ∀ e ∈ gs, e ∈ a :: b :: gs := fun e he => List.mem_cons_of_mem _ (List.mem_cons_of_mem _ he)
    have g2 := (and2 (and2 g).2).2
    have dc := dd_set (c := cs) (l := gs) (by rw [Clz.lg] at hl; omega) fun e he => dl e (hg e he)
    refine ⟨and2i (decide_eq_true (by rw [setGs_len]; exact of_decide_eq_true (and2 g).1)) (and2i (and2 (and2 g).2).1 (and2i (m0 rfl).1 (and2i (m1 rfl).1 (gd_set (and2 (and2 g2).2).2 fun e he => gl e (hg e he))))), ?_⟩
    have := (m0 rfl).2; have := (m1 rfl).2
    show max (ddE a) (max (ddE b + 1) (ddC (cs.setGs gs) + 1)) + 1 ≤ 4
    omega
theorem strs_flat : ∀ l : List Str, flats (l.map D.str) = true
  | [] => rfl
  | x :: l => strs_flat l
theorem strs_lay : ∀ {l : List Str}, (∀ x ∈ l, (PyData.str x).canLay0 = true) → PyData.canLayAll0 (pys (l.map D.str)) = true
  | [], _ => lya_nil
  | x :: l, h => by rw [List.map_cons, lya_cons, ly_str (h x List.mem_cons_self), strs_lay fun y hy => h y (List.mem_cons_of_mem _ hy)]; rfl
theorem strs_dep : ∀ l : List Str, PyData.depthAll (pys (l.map D.str)) = 0
  | [] => dpa_nil
  | x :: l => by rw [List.map_cons, dpa_cons, dp_str, strs_dep l]; rfl
theorem strs_sh {l : List Str} (h : ∀ x ∈ l, (PyData.str x).canLay0 = true) : SeqAt.shaped (bsD l).py = true := by
  refine and2i ?_ (decide_eq_true ?_)
  · show (PyData.list _).canLay0 = true
    rw [PyData.canLay0]; exact strs_lay h
  · show (PyData.list _).depth ≤ 64
    rw [PyData.depth]
    show PyData.depthAll (pys (l.map D.str)) + 1 ≤ 64
    rw [strs_dep]; decide
theorem fv_lay {e : Ex} (h : gdE e = true) : ∀ x ∈ fv e, (PyData.str x).canLay0 = true := fun x hx => okNm_lay (gd_occ x e h (fv_mem.mp hx))
theorem noted64 {e : Ex} (h : gdE e = true) : (noted e [] []).length < 64 := by
  have := gd_few h (noted_nd e [] List.nodup_nil) fun x hx => by
    rcases (mem_noted x e [] []).mp hx with q | q
    · cases q
    · exact q.2
  omega
/-- what is put in: an expression without free names -/
theorem closed_get {z : Nat} (h : z < 3) : ∃ t, ([Ex.num 7, Ex.fn "x" (.name "x"), Ex.pair .unit (.flag true)] : List Ex)[z]? = some t ∧ T3 t 2 3 ∧ closedE t := by
  have kx : okNm "x" = true := by decide +kernel
  rcases (by omega : z = 0 ∨ z = 1 ∨ z = 2) with rfl | rfl | rfl
  · exact ⟨_, rfl, (T3.num (by decide +kernel)).mono (by decide) (by decide), fun y => rfl⟩
  · refine ⟨_, rfl, (T3.fn kx (T3.name kx)).mono (by decide) (by decide), fun y => ?_⟩
    show (!decide (y = "x") && decide (y = "x")) = false
    cases decide (y = ("x" : Str)) <;> rfl
  · exact ⟨_, rfl, (T3.pair T3.unit T3.flag).mono (by decide) (by decide), fun y => rfl⟩
def freshL (n : Nat) : List Ex := (List.range n).map fun (k : Nat) => Ex.num (100 + (k : Int))
theorem fresh_ok {n : Nat} (h : n ≤ 1000) : ∀ e ∈ freshL n, gdE e = true ∧ ddE e ≤ 1 := fun e he => by
  obtain ⟨k, hk, rfl⟩ := List.mem_map.mp he
  have := List.mem_range.mp hk
  refine ⟨?_, Nat.le_refl _⟩
  show decide (0 ≤ 100 + (k : Int) ∧ 100 + (k : Int) < 2147483648) = true
  exact decide_eq_true ⟨by omega, by omega⟩
theorem fresh_len (n : Nat) : (freshL n).length = n := by unfold freshL; rw [List.length_map, List.length_range]
def names4 : List Str := ["x", "y", "k", "w"]
theorem names4_lay {x : Str} (h : x ∈ names4) : (PyData.str x).canLay0 = true := by
  have : (names4.all fun x => (PyData.str x).canLay0) = true := by decide +kernel
  exact List.all_eq_true.mp this x h
section
variable {P : Program} {w : World} {K : PySem.W.Frag} {mg : Str → Option Value} {base : Heap}
abbrev g_law : Stmt := topS 22
abbrev n_law : List Str := ["script", "state", "tree", "kept", "fresh", "k", "closed", "name", "told", "other"]
abbrev p_law : List Str := ["script"]
theorem sc_law : FnScope n_law p_law (defScope g_law) := ⟨rfl, rfl, rfl, by decide +kernel, rfl, by decide +kernel, by decide +kernel⟩
theorem law_at {f fST fT fV fP fLP fN fLA fF fLF fWP fLW fPI fLT a : Addr} {fd fdST fdT fdV fdP fdLP fdN fdLA fdF fdLF fdWP fdLW fdPI fdLT : FuncData} {t1 : Shared} {H : Hp} {ns : List Int} (F : Fun K "law" "law" g_law f fd) (mr : mg "range" = none) (ml : mg "len" = none) (mi : mg "int" = none) (mli : mg "list" = none) (mso : mg "sorted" = none) (mre : mg "repr" = none)
    (GST : Fn P w K mg base CX0 1 "_law_state" p__law_state (spState K) fST fdST) (GT : Fn P w K mg base CX0 1 "_law_take" p__law_take spTake fT fdT) (GV : Fn P w K mg base CX0 11 "_law_any" p__law_any (spAny 4) fV fdV) (GP : Fn P w K mg base CX0 1 "parts" p_parts spParts fP fdP)
    (GLP : Fn P w K mg base CX0 1 "_law_parts" p__law_parts spLP fLP fdLP) (GN : Fn P w K mg base CX0 2 "numbered" p_numbered spNumb fN fdN) (GLA : Fn P w K mg base CX0 18 "_law_all" p__law_all (spAll 16) fLA fdLA) (GF : Fn P w K mg base CX0 20 "free_names" p_free_names (spFree 16) fF fdF)
    (GLF : Fn P w K mg base CX0 19 "_law_free" p__law_free (spFr 16) fLF fdLF) (GWP : Fn P w K mg base CX0 1 "with_parts" p_with_parts spWithP fWP fdWP) (GLW : Fn P w K mg base CX0 1 "_law_with" p__law_with spWth fLW fdLW) (GPI : Fn P w K mg base CX0 20 "put_in" p_put_in (spPI 16) fPI fdPI)
    (GLT : Fn P w K mg base CX0 19 "_law_put" p__law_put (spPt 16) fLT fdLT) (en : Env0 P w K mg base callerA [] t1 H) (hS : SqL K H a (ns.map V.int)) (hlen : ns.length ≤ 63) (bind : BindsTo t1 fd ⟨[.ref a], []⟩ [("script", .ref a)]) :
    codeAny (model P w) callerA (.call (.ref f) ⟨[.ref a], []⟩) (CR CX0 [] P w H t1 (fun v _ => v = .bl true) (fun _ _ _ => False)) t1 := by
  obtain ⟨oc, od, kV, doc, pm, an, cdv, ct, osl, rfl, lk, hcd⟩ := F.ex
  have room : Room (24 + 1) callerA := ⟨rfl, by decide, by decide⟩
  have body : ∃ t, PSs (cxOf CX0 P w K mg base n_law "law" (defScope g_law) f cdv callerA [] t1 H (fun _ _ _ => False)).nox (defBody g_law) t ∧ t { nx := fun _ H' => (fun v _ => v = V.bl true) V.non H', rt := fun v _ => v = V.bl true } (start n_law [.ref a]) H := by
    have hr : Room 24 (callerA.deeper (envOfC "law" (defScope g_law) t1.heap.objs.size f cdv)) := room.deeper _
    have hu70 : (callerA.deeper (envOfC "law" (defScope g_law) t1.heap.objs.size f cdv)).units + 70 < cLine := by have := hr.un; omega
    refine ⟨_, (pss_cons (ps_set (i := 1) sc_law.nd rfl (Or.inl rfl) (pe_call GST.ok (hr.mono (by omega)) (by rfl) GST.g GST.kp GST.b .nil pass0 (pa_cons (pv 0) pa_nil)))
      (pss_cons (ps_set (i := 2) sc_law.nd rfl (Or.inl rfl) (pe_call GV.ok (hr.mono (by omega)) (by rfl) GV.g GV.kp GV.b .nil pass0 (pa_cons (pv 1) (pa_cons (pe_op op_add (pe_op op_add (pe_int) (pe_call GT.ok (hr.mono (by omega)) (by rfl) GT.g GT.kp GT.b .nil pass0 (pa_cons (pv 1) (pa_cons (pe_int) pa_nil)))) (pe_callTy call_int1 (by rfl) mi (by decide +kernel) (pa_cons (pe_cmpR op_eq (pe_call GT.ok (hr.mono (by omega)) (by rfl) GT.g GT.kp GT.b .nil pass0 (pa_cons (pv 1) (pa_cons (pe_int) pa_nil))) (pe_int) (nomark _)) pa_nil))) pa_nil))))
      (pss_cons (ps_set (i := 3) sc_law.nd rfl (Or.inl rfl) (pe_callB (call_reprD rfl hu70) (by rfl) mre (by decide +kernel) (pa_cons (pv 2) pa_nil)))
      (pss_cons (ps_if (PW.pt (pw_or (pt_cmpR (op_neD hr.units) (pe_call GP.ok (hr.mono (by omega)) (by rfl) GP.g GP.kp GP.b .nil pass0 (pa_cons (pv 2) pa_nil)) (pe_call GLP.ok (hr.mono (by omega)) (by rfl) GLP.g GLP.kp GLP.b .nil pass0 (pa_cons (pv 2) pa_nil)) (nomark _)) (pw_or (pt_cmpR (op_neD hr.units) (pe_call GN.ok (hr.mono (by omega)) (by rfl) GN.g GN.kp GN.b .nil pass0 (pa_cons (pv 2) pa_nil)) (pe_call GLA.ok (hr.mono (by omega)) (by rfl) GLA.g GLA.kp GLA.b .nil pass0 (pa_cons (pv 2) pa_nil)) (nomark _)) (pw_or1 (pt_cmpR (op_neD hr.units) (pe_call GF.ok (hr.mono (by omega)) (by rfl) GF.g GF.kp GF.b .nil pass0 (pa_cons (pv 2) pa_nil)) (pe_callB cr_sortedS (by rfl) mso (by decide +kernel) (pa_cons (pe_call GLF.ok (hr.mono (by omega)) (by rfl) GLF.g GLF.kp GLF.b .nil pass0 (pa_cons (pv 2) pa_nil)) pa_nil)) (nomark _)))))) (pss_one (ps_ret (pe_bl))) pss_nil)
      (pss_cons (ps_setLc (i := 4) (own := [("k", 5)]) (g := gName 5) (tt := tYes) (te := tTup (tCons (tC (.str "num")) (tCons (tOp (rI0 fun i j => .int (i + j)) (tC (.int 100)) (tVar 5)) tNil))) rfl sc_law.nd rfl rfl (sw_true rfl rfl rfl (by decide +kernel)) (pi_range1 rfl mr (pa_cons (pe_callB call_len_seq (by rfl) ml PySem.boot_len (pa_cons (pe_call GLP.ok (hr.mono (by omega)) (by rfl) GLP.g GLP.kp GLP.b .nil pass0 (pa_cons (pv 2) pa_nil)) pa_nil)) pa_nil)) (blkOk_by (N := n_law) (sc := defScope g_law) (by decide +kernel)) (fun _ _ _ _ _ => pg_name (i := 5) sc_law.nd rfl (Or.inl rfl)) (fun _ _ _ _ _ => pts_nil) (fun _ _ _ _ _ => pe_tup (pa_cons pe_str (pa_cons (pe_op op_add pe_int (pv 5)) pa_nil))))
      (pss_cons (ps_if (PW.pt (pw_or (pt_cmpR (op_neD hr.units) (pe_call GWP.ok (hr.mono (by omega)) (by rfl) GWP.g GWP.kp GWP.b .nil pass0 (pa_cons (pv 2) (pa_cons (pe_callTy call_list_of (by rfl) mli (by decide +kernel) (pa_cons (pv 4) pa_nil)) pa_nil))) (pe_call GLW.ok (hr.mono (by omega)) (by rfl) GLW.g GLW.kp GLW.b .nil pass0 (pa_cons (pv 2) (pa_cons (pv 4) pa_nil))) (nomark _)) (pw_or1 (pt_cmpR (op_neD hr.units) (pe_call GWP.ok (hr.mono (by omega)) (by rfl) GWP.g GWP.kp GWP.b .nil pass0 (pa_cons (pv 2) (pa_cons (pe_call GLP.ok (hr.mono (by omega)) (by rfl) GLP.g GLP.kp GLP.b .nil pass0 (pa_cons (pv 2) pa_nil)) pa_nil))) (pv 2) (nomark _))))) (pss_one (ps_ret (pe_bl))) pss_nil)
      (pss_cons (ps_set (i := 6) sc_law.nd rfl (Or.inl rfl) (pe_ix ix_list (pe_lst (pa_cons (pe_tup (pa_cons (pe_str) (pa_cons (pe_int) pa_nil))) (pa_cons (pe_tup (pa_cons (pe_str) (pa_cons (pe_str) (pa_cons (pe_tup (pa_cons (pe_str) (pa_cons (pe_str) pa_nil))) pa_nil)))) (pa_cons (pe_tup (pa_cons (pe_str) (pa_cons (pe_tup (pa_cons (pe_str) pa_nil)) (pa_cons (pe_tup (pa_cons (pe_str) (pa_cons (pe_bl) pa_nil))) pa_nil)))) pa_nil)))) (pe_call GT.ok (hr.mono (by omega)) (by rfl) GT.g GT.kp GT.b .nil pass0 (pa_cons (pv 1) (pa_cons (pe_int) pa_nil))) (fun _ _ => rfl)))
      (pss_cons (ps_for PassesOwn.never rfl (pi_list (pe_lst (pa_cons (pe_str) (pa_cons (pe_str) (pa_cons (pe_str) (pa_cons (pe_str) pa_nil)))))) (pg_name (i := 7) sc_law.nd rfl (Or.inr rfl)) (pss_cons (ps_set (i := 8) sc_law.nd rfl (Or.inl rfl) (pe_call GPI.ok (hr.mono (by omega)) (by rfl) GPI.g GPI.kp GPI.b .nil pass0 (pa_cons (pv 2) (pa_cons (pv 7) (pa_cons (pv 6) pa_nil)))))
      (pss_cons (ps_if (pt_cmpR (op_neD hr.units) (pv 8) (pe_call GLT.ok (hr.mono (by omega)) (by rfl) GLT.g GLT.kp GLT.b .nil pass0 (pa_cons (pv 2) (pa_cons (pv 7) (pa_cons (pv 6) pa_nil)))) (nomark _)) (pss_one (ps_ret (pe_bl))) pss_nil)
      (pss_cons (ps_if (pt_cmpR (op_neD hr.units) (pe_call GF.ok (hr.mono (by omega)) (by rfl) GF.g GF.kp GF.b .nil pass0 (pa_cons (pv 8) pa_nil)) (pe_lc (own := [("other", 9)]) (g := gName 9) (tt := tTest (tOp rNe (tVar 9) (tVar 7))) (te := tVar 9) rfl sc_law.nd (pi_list (pe_call GF.ok (hr.mono (by omega)) (by rfl) GF.g GF.kp GF.b .nil pass0 (pa_cons (pv 2) pa_nil))) (blkOk_by (N := n_law) (sc := defScope g_law) (by decide +kernel)) (fun _ _ _ _ _ => pg_name (i := 9) sc_law.nd rfl (Or.inl rfl)) (fun _ _ _ _ _ => pts_one (pt_cmpR op_ne (pv 9) (pv 7) (nomark _))) (fun _ _ _ _ _ => pv 9)) (nomark _)) (pss_one (ps_ret (pe_bl))) pss_nil)
      (pss_one (ps_if (PW.pt (pw_and (pt_cmpR op_notIn_seq (pv 7) (pe_call GF.ok (hr.mono (by omega)) (by rfl) GF.g GF.kp GF.b .nil pass0 (pa_cons (pv 2) pa_nil)) (by rfl)) (pw_and1 (pt_cmpR (op_neD hr.units) (pv 8) (pv 2) (nomark _))))) (pss_one (ps_ret (pe_bl))) pss_nil))))))
      (pss_one (ps_ret (pe_cmpR op_eq (pe_callB (call_reprD rfl hu70) (by rfl) mre (by decide +kernel) (pa_cons (pv 2) pa_nil)) (pv 3) (nomark _)))))))))))), ?_⟩
    refine ⟨_, rfl, a, ns, rfl, hS, hlen, fun H1 s c st1 s1 hs0 hc0 => ?_⟩
    have w : Wd H H1 s c := ⟨s1, hs0, hc0, st1⟩
    have mm : Mv (Fst s c) _ _ _ _ := .refl w.sub
    show gName 1 _ _ _ _
    refine ⟨_, rfl, _, rfl, _, s, c, 3, rfl, by decide, by decide, w.sub, w.rs, w.rc, w.st, fun J1 z1 st1 c1 z10 z11 => ?_⟩
    have w := w.took c1 st1
    have mm := mm.tr c1
    refine ⟨_, _, rfl, rfl, _, rfl, _, s, c, 6, rfl, by decide, by decide, w.sub, w.rs, w.rc, w.st, fun J2 z2 st2 c2 z20 z21 => ?_⟩
    have w := w.took c2 st2
    have mm := mm.tr c2
    obtain ⟨b, hb⟩ : ∃ b : Bool, b = decide (V.int z2 = V.int 0) := ⟨_, rfl⟩
    have hb1 : (if b then 1 else 0 : Int) ≤ 1 := by cases b <;> decide
    refine ⟨rfl, .inr ⟨_, rfl, _, _, rfl, rfl, _, s, c, _, rfl, ?_, w, fun Q3 J3 e ve m w ae te => ?_⟩⟩
    · rw [← hb]
      omega
    have mm := mm.tr m
    have te : T3 e 13 781 := te
    have sm := gd_sm e te.g
    have hcl := sm_len sm
    have lq := law_parts_len hcl
    have l5 : (exParts e).length ≤ 5 := by
      cases e with
      | hd f x g cs =>
        show cs.gs.length + 1 + 1 ≤ 5
        rw [Clz.lg]
        have := of_decide_eq_true (and2 te.g).1
        omega
      | _ => simp [exParts]
    have dep : exD e ≤ 16 := Nat.le_trans (dd_ex e) (Nat.le_trans te.d (by decide))
    have big : exN e ≤ 1000000 := Nat.le_trans te.n (by decide)
    have sh := te.sh (by decide)
    have n64 := noted64 te.g
    obtain ⟨d0, hd0⟩ : ∃ d0, d0 = e.d false := ⟨_, rfl⟩
    obtain ⟨r0, er0⟩ := ex_tag false e
    obtain ⟨pe, rfl⟩ : ∃ pe, ve = .ref pe := by
      have h := ae
      rw [er0] at h
      obtain ⟨pe, _, rfl, _⟩ := h
      exact ⟨pe, rfl⟩
    have dpe : ∀ {R H : Hp}, Same R H → At R (e.d false) (.ref pe) → Dp K H (.ref pe) (e.d false).py := fun s h => At.dp s (ex_flat e) h
    show gName 2 _ _ _ _
    refine ⟨_, rfl, pe, _, rfl, dpe w.sub ae, sh, so_ex e te.g, te.shown (by decide) (by decide), ?_⟩
    show gName 3 _ _ _ _
    refine ⟨_, rfl, _, e.d false, _, _, rfl, w.sub, ae, ex_parts e hcl, fun Q4 J4 u1 m a1 => ?_⟩
    have mm := mm.tr0 m
    have ae := ae.up m.up
    have w := w.up0 m
    refine ⟨_, rfl, _, e, _, rfl, w.sub, ae, sm, fun Q5 J5 u2 m a2 => ?_⟩
    have mm := mm.tr0 m
    have ae := ae.up m.up
    have a1 := a1.up m.up
    have w := w.up0 m
    have shp : SeqAt.shaped (D.lst ((exParts e).map (Ex.d false))).py = true := lst_sh fun g hg => ⟨gd_part te.g hg, Nat.le_trans (dd_part hg) (Nat.le_trans te.d (by decide))⟩
    refine ⟨_, _, At.dp w.sub (d := D.lst _) all_flat a1, At.dp w.sub (d := D.lst _) all_flat a2, shp, shp, _, rfl, ?_⟩
    rw [eqv_self shp]
    refine ifF rfl ?_
    refine ⟨_, rfl, _, e, _, rfl, w.sub, ae, sm, big, fun Q6 J6 u3 m a1 => ?_⟩
    have mm := mm.tr0 m
    have ae := ae.up m.up
    have w := w.up0 m
    refine ⟨_, rfl, _, e, _, rfl, w.sub, ae, dep, sm, big, fun Q7 J7 u4 m a2 => ?_⟩
    have mm := mm.tr0 m
    have ae := ae.up m.up
    have a1 := a1.up m.up
    have w := w.up0 m
    have shn : SeqAt.shaped (D.lst ((pre e).map (Ex.d false))).py = true := lst_sh fun g hg => ⟨gd_pre 16 dep te.g hg, Nat.le_trans (dd_pre 16 dep hg) (Nat.le_trans te.d (by decide))⟩
    refine ⟨_, _, At.dp w.sub (d := D.lst _) all_flat a1, At.dp w.sub (d := D.lst _) all_flat a2, shn, shn, _, rfl, ?_⟩
    rw [eqv_self shn]
    refine ifF rfl ?_
    refine ⟨_, rfl, _, e, _, rfl, w.sub, ae, dep, by decide, sm, big, n64, fun Q8 J8 u5 m a1 => ?_⟩
    have mm := mm.tr0 m
    have ae := ae.up m.up
    have w := w.up0 m
    refine ⟨_, rfl, _, e, _, rfl, w.sub, ae, dep, te.g, fun Q9 J9 u6 lf m a2 ndf memf => ?_⟩
    have mm := mm.tr0 m
    have ae := ae.up m.up
    have a1 := a1.up m.up
    have w := w.up0 m
    obtain ⟨pf, rfl, hpf⟩ := bsD_at a2
    have lf4 := gd_few te.g ndf fun y hy => (memf y).mp hy
    refine ⟨pf, lf, rfl, SqL.of (w.sub _ _ hpf), by omega, fun yss pp hperm hsort np => ?_⟩
    have ey : yss = fv e := (sort_uniq hperm hsort ndf).trans (fv_sort ndf memf)
    subst ey
    obtain ⟨RS, mS, aS⟩ := lit3 w.sub (l := (fv e).map D.str) (str_ats (fv e)) np
    have w := w.up0 mS
    have mm := mm.tr0 mS
    have ae := ae.up mS.up
    have a1 := a1.up mS.up
    have a2 := a2.up mS.up
    have shf := strs_sh (fv_lay te.g)
    refine ⟨_, _, At.dp w.sub (d := bsD (fv e)) (strs_flat _) a1, At.dp w.sub (d := bsD (fv e)) (strs_flat _) aS, shf, shf, _, rfl, ?_⟩
    rw [eqv_self shf]
    refine ifF rfl ?_
    refine ⟨_, rfl, _, e, _, rfl, w.sub, ae, sm, fun Q10 J10 u7 m a1 => ?_⟩
    have mm := mm.tr0 m
    have ae := ae.up m.up
    have w := w.up0 m
    obtain ⟨p7, vs7, rfl, h7, a7⟩ := a1
    have l7 := a7.length
    rw [List.length_map] at l7
    refine ⟨p7, _, rfl, .inl (SqL.of (w.sub _ _ h7)), (vs7.length : Int), rfl, by omega, by omega, fun L nL => ?_⟩
    have rL := w.sub.free nL
    have nF : ¬ Fst s c L := w.nf nL
    have mL : Mv F0 _ _ _ _ := mv_mut (F := F0) (o := .lst []) w.sub nL
    have w := w.up0 mL
    obtain ⟨R7, hR7⟩ : ∃ R7 : Hp, R7 = Q10 := ⟨_, rfl⟩
    rw [← hR7] at w ae rL
    refine lc_range (lo := 0) (n := vs7.length) (fun i H2 => ∃ (R2 : Hp) (acc : List V), Wd R2 H2 s c ∧ Same R7 R2 ∧ R2 L = none ∧ H2 L = some (.lst acc) ∧ Ats R2 ((freshL i).map (Ex.d false)) acc) ⟨R7, [], w, .refl _, rL, upd_same, rfl⟩ ?_ ?_
    · rintro i H2 hi ⟨R2, acc, w, sm2, rL, hL, aa⟩
      refine ⟨rfl, _, rfl, _, _, rfl, rfl, by show 2 ≤ sizeLine; decide, fun p n => ?_⟩
      rw [Int.zero_add]
      obtain ⟨R3, m3, a3⟩ := lit2 w.sub (l := [.str "num", .int (100 + (i : Int))]) ⟨_, _, rfl, at_str, _, _, rfl, at_int, rfl⟩ n
      have rL3 := m3.out rL hL
      have hL3 := m3.keep _ _ hL id
      have w := w.up0 m3
      have la := aa.length
      rw [List.length_map, fresh_len] at la
      refine ⟨acc, hL3, Nat.lt_of_le_of_lt (by omega : acc.length ≤ 1000) (by decide), R3, acc ++ [.ref p], w.put rL3 hL3 nF, sm2.trans m3.up, rL3, upd_same, ?_⟩
      unfold freshL
      rw [List.range_succ, List.map_append, List.map_append]
      exact (aa.up m3.up).append (.one a3)
    rintro H2 ⟨R2, acc, w, sm2, rL, hL, aa⟩
    have ae := ae.up sm2
    have w := w.freeze rL hL nF
    have ae := ae.up (same_new (o := .lst acc) rL)
    have aa := aa.up (same_new (o := .lst acc) rL)
    have hcl2 : (upd R2 L (.lst acc)) L = some (.lst acc) := upd_same
    generalize upd R2 L (.lst acc) = R2 at w ae aa hcl2
    rw [l7] at aa
    have mm : Mv (Fst s c) _ _ _ _ := .refl w.sub
    have fl := fresh_len (exParts e).length
    have fo := fresh_ok (n := (exParts e).length) lq
    have wo := with_ok e (freshL (exParts e).length) fl te.g (fun g hg => (fo g hg).1) (fun g hg => (fo g hg).2)
    have shw : SeqAt.shaped ((withE e (freshL (exParts e).length)).d false).py = true := (T3.mk wo.2 (Nat.le_refl _) wo.1 : T3 _ 4 _).sh (by decide)
    show gName 4 _ _ _ _
    refine ⟨_, rfl, _, rfl, L, _, rfl, .inl (SqL.of (w.sub _ _ hcl2)), fun p11 n11 => ?_⟩
    obtain ⟨Q11, m11, al⟩ := lit3 w.sub aa n11
    have w := w.up0 m11
    have mm := mm.tr0 m11
    have ae := ae.up m11.up
    have aa := aa.up m11.up
    have hcl2 := m11.up _ _ hcl2
    refine ⟨_, e.d false, _, (freshL (exParts e).length).map (Ex.d false), _, _, rfl, w.sub, ae, al, with_p e _ fl hcl, fun Q12 J12 u8 m a1 => ?_⟩
    have mm := mm.tr0 m
    have ae := ae.up m.up
    have aa := aa.up m.up
    have al := al.up m.up
    have hcl2 := m.up _ _ hcl2
    have w := w.up0 m
    refine ⟨_, rfl, _, rfl, _, e, freshL (exParts e).length, _, _, rfl, w.sub, ae, ⟨L, acc, rfl, hcl2, aa⟩, fl, sm, fun Q13 J13 u9 m a2 => ?_⟩
    have mm := mm.tr0 m
    have ae := ae.up m.up
    have aa := aa.up m.up
    have al := al.up m.up
    have a1 := a1.up m.up
    have hcl2 := m.up _ _ hcl2
    have w := w.up0 m
    refine ⟨_, _, At.dp w.sub (ex_flat _) a1, At.dp w.sub (ex_flat _) a2, shw, shw, _, rfl, ?_⟩
    rw [eqv_self shw]
    refine ifF rfl ?_
    refine ⟨_, rfl, _, rfl, _, e, _, rfl, w.sub, ae, sm, fun Q14 J14 u10 m a1 => ?_⟩
    have mm := mm.tr0 m
    have ae := ae.up m.up
    have w := w.up0 m
    refine ⟨_, e.d false, _, (exParts e).map (Ex.d false), _, _, rfl, w.sub, ae, a1, with_p e (exParts e) rfl hcl, fun Q15 J15 u11 m a2 => ?_⟩
    have mm := mm.tr0 m
    have ae := ae.up m.up
    have a1 := a1.up m.up
    have w := w.up0 m
    rw [with_self] at a2
    refine ⟨_, rfl, _, _, At.dp w.sub (ex_flat _) a2, At.dp w.sub (ex_flat _) ae, sh, sh, _, rfl, ?_⟩
    rw [eqv_self sh]
    refine ifF rfl ?_
    refine ⟨by show 2 ≤ sizeLine; decide, fun p16 n16 => ?_⟩
    obtain ⟨Q16, m16, c1⟩ := lit2 w.sub (l := [.str "num", .int 7]) ⟨_, _, rfl, at_str, _, _, rfl, at_int, rfl⟩ n16
    have w := w.up0 m16
    have mm := mm.tr0 m16
    have ae := ae.up m16.up
    refine ⟨by show 2 ≤ sizeLine; decide, fun p17 n17 => ?_⟩
    obtain ⟨Q17, m17, c2a⟩ := lit2 w.sub (l := [.str "name", .str "x"]) ⟨_, _, rfl, at_str, _, _, rfl, at_str, rfl⟩ n17
    have w := w.up0 m17
    have mm := mm.tr0 m17
    have ae := ae.up m17.up
    have c1 := c1.up m17.up
    refine ⟨by show 3 ≤ sizeLine; decide, fun p18 n18 => ?_⟩
    obtain ⟨Q18, m18, c2⟩ := lit2 w.sub (l := [.str "fun", .str "x", (Ex.name "x").d false]) ⟨_, _, rfl, at_str, _, _, rfl, at_str, _, _, rfl, c2a, rfl⟩ n18
    have w := w.up0 m18
    have mm := mm.tr0 m18
    have ae := ae.up m18.up
    have c1 := c1.up m18.up
    have c2a := c2a.up m18.up
    refine ⟨by show 1 ≤ sizeLine; decide, fun p19 n19 => ?_⟩
    obtain ⟨Q19, m19, c3a⟩ := lit2 w.sub (l := [.str "unit"]) ⟨_, _, rfl, at_str, rfl⟩ n19
    have w := w.up0 m19
    have mm := mm.tr0 m19
    have ae := ae.up m19.up
    have c1 := c1.up m19.up
    have c2a := c2a.up m19.up
    have c2 := c2.up m19.up
    refine ⟨by show 2 ≤ sizeLine; decide, fun p20 n20 => ?_⟩
    obtain ⟨Q20, m20, c3b⟩ := lit2 w.sub (l := [.str "flag", .bl true]) ⟨_, _, rfl, at_str, _, _, rfl, at_bl, rfl⟩ n20
    have w := w.up0 m20
    have mm := mm.tr0 m20
    have ae := ae.up m20.up
    have c1 := c1.up m20.up
    have c2a := c2a.up m20.up
    have c2 := c2.up m20.up
    have c3a := c3a.up m20.up
    refine ⟨by show 3 ≤ sizeLine; decide, fun p21 n21 => ?_⟩
    obtain ⟨Q21, m21, c3⟩ := lit2 w.sub (l := [.str "pair", Ex.unit.d false, (Ex.flag true).d false]) ⟨_, _, rfl, at_str, _, _, rfl, c3a, _, _, rfl, c3b, rfl⟩ n21
    have w := w.up0 m21
    have mm := mm.tr0 m21
    have ae := ae.up m21.up
    have c1 := c1.up m21.up
    have c2a := c2a.up m21.up
    have c2 := c2.up m21.up
    have c3a := c3a.up m21.up
    have c3b := c3b.up m21.up
    refine ⟨by show 3 ≤ sizeLine; decide, fun p22 n22 => ?_⟩
    obtain ⟨Q22, m22, cL⟩ := lit3 w.sub (l := [Ex.num 7, Ex.fn "x" (.name "x"), Ex.pair .unit (.flag true)].map (Ex.d false)) ⟨_, _, rfl, c1, _, _, rfl, c2, _, _, rfl, c3, rfl⟩ n22
    have w := w.up0 m22
    have mm := mm.tr0 m22
    have ae := ae.up m22.up
    have c1 := c1.up m22.up
    have c2a := c2a.up m22.up
    have c2 := c2.up m22.up
    have c3a := c3a.up m22.up
    have c3b := c3b.up m22.up
    have c3 := c3.up m22.up
    refine ⟨_, rfl, _, s, c, 3, rfl, by decide, by decide, w.sub, w.rs, w.rc, w.st, fun J23 z23 st23 c23 z230 z231 => ?_⟩
    have w := w.took c23 st23
    have mm := mm.tr c23
    obtain ⟨jz, rfl⟩ : ∃ j : Nat, z23 = (j : Int) := ⟨z23.toNat, by omega⟩
    obtain ⟨t, ht, tt, cl⟩ := closed_get (z := jz) (by omega)
    obtain ⟨pL, vL, eL, hL9, tL⟩ := id cL
    cases eL
    obtain ⟨tv, htv, at0⟩ := tL.get (d := t.d false) (i := jz) (by rw [List.getElem?_map, ht]; rfl)
    refine ⟨_, _, _, _, rfl, rfl, SqL.of (w.sub _ _ hL9), atI_nat htv, ?_⟩
    show gName 6 _ _ _ _
    refine ⟨by show 4 ≤ sizeLine; decide, fun p24 n24 => ?_⟩
    obtain ⟨Q24, m24, nL⟩ := lit3 w.sub (l := names4.map D.str) ⟨_, _, rfl, at_str, _, _, rfl, at_str, _, _, rfl, at_str, _, _, rfl, at_str, rfl⟩ n24
    have w := w.up0 m24
    have mm := mm.tr0 m24
    have ae := ae.up m24.up
    have at0 := at0.up m24.up
    obtain ⟨pn, nvs, en, hpn, ants⟩ := id nL
    cases en
    have env : nvs = names4.map V.str := ats_str ants
    subst env
    refine ⟨p24, rfl, ⟨_, SqL.of (w.sub _ _ hpn)⟩, ?_⟩
    refine for_list (K := K) (a := p24) (xs := names4.map V.str) (fun i σ H' => ∃ (R' : Hp) (z7 z8 : Option V), σ = [some (.ref a), some (.ref s), some (.ref pe), some (.str (e.d false).py.shown), some (.ref L), none, some tv, z7, z8, none] ∧ Wd R' H' s c ∧ Same Q24 R') ⟨_, none, none, rfl, w, .refl _⟩ (fun i σ H' _ z => by obtain ⟨R', z7, z8, rfl, w, sm2⟩ := z; exact SqL.of (w.sub _ _ (sm2 _ _ hpn))) ?_ ?_
    · rintro i y σ H' hy ⟨R', z7, z8, rfl, w, sm2⟩
      rw [List.getElem?_map] at hy
      cases ex : names4[i]? with
      | none => rw [ex] at hy; cases hy
      | some x =>
        rw [ex] at hy
        obtain rfl : V.str x = y := Option.some.inj hy
        have xlay := names4_lay (List.mem_of_getElem? ex)
        have ae := ae.up sm2
        have at0 := at0.up sm2
        have mm : Mv (Fst s c) _ _ _ _ := .refl w.sub
        have ts := te.sub (x := x) tt
        have tsm := gd_sm _ ts.g
        have tsd : exD (subE x t e) ≤ 16 := Nat.le_trans (dd_ex _) (Nat.le_trans ts.d (by decide))
        have shs := ts.sh (by decide)
        show gName 7 _ _ _ _
        refine ⟨_, rfl, _, rfl, _, rfl, _, e, t, x, _, _, rfl, w.sub, ae, at0, dep, sm, fun Q25 J25 v1 m s1 => ?_⟩
        have mm := mm.tr0 m
        have ae := ae.up m.up
        have at0 := at0.up m.up
        have sm2 := sm2.trans m.up
        have w := w.up0 m
        show gName 8 _ _ _ _
        refine ⟨_, rfl, _, rfl, _, rfl, _, rfl, _, e, t, x, _, _, rfl, w.sub, ae, at0, dep, sm, fun Q26 J26 v2 m s2 => ?_⟩
        have mm := mm.tr0 m
        have ae := ae.up m.up
        have at0 := at0.up m.up
        have s1 := s1.up m.up
        have sm2 := sm2.trans m.up
        have w := w.up0 m
        refine ⟨_, _, At.dp w.sub (ex_flat _) s1, At.dp w.sub (ex_flat _) s2, shs, shs, _, rfl, ?_⟩
        rw [eqv_self shs]
        refine ifF rfl ?_
        refine ⟨_, rfl, _, subE x t e, _, rfl, w.sub, s1, tsd, by decide, tsm, Nat.le_trans ts.n (by decide), noted64 ts.g, fun Q27 J27 v3 m f1 => ?_⟩
        have mm := mm.tr0 m
        have ae := ae.up m.up
        have at0 := at0.up m.up
        have s1 := s1.up m.up
        have sm2 := sm2.trans m.up
        have w := w.up0 m
        refine ⟨_, rfl, _, e, _, rfl, w.sub, ae, dep, by decide, sm, big, n64, fun Q28 J28 v4 m f2 => ?_⟩
        have mm := mm.tr0 m
        have ae := ae.up m.up
        have at0 := at0.up m.up
        have s1 := s1.up m.up
        have f1 := f1.up m.up
        have sm2 := sm2.trans m.up
        have w := w.up0 m
        obtain ⟨pf2, rfl, hf2⟩ := bsD_at f2
        refine ⟨pf2, rfl, ⟨_, SqL.of (w.sub _ _ hf2)⟩, fun Da nD => ?_⟩
        have rD := w.sub.free nD
        have nFD : ¬ Fst s c Da := w.nf nD
        obtain ⟨H8, hH8⟩ : ∃ H8 : Hp, H8 = J28 := ⟨_, rfl⟩
        rw [← hH8] at w nD ⊢
        refine lc_list (K := K) (a := pf2) (xs := (fv e).map V.str) (fun j H5 => ∃ l5 : List Str, H5 = upd H8 Da (.lst (l5.map V.str)) ∧ l5.length ≤ j ∧ l5 = ((fv e).take j).filter fun y => !decide (y = x)) ⟨[], rfl, Nat.le_refl _, rfl⟩ (fun j H5 _ z => by obtain ⟨l5, rfl, _⟩ := z; exact SqL.of (same_new nD _ _ (w.sub _ _ hf2))) ?_ ?_
        · rintro j y H5 hy ⟨l5, rfl, ll5, e5⟩
          rw [List.getElem?_map] at hy
          cases ej : (fv e)[j]? with
          | none => rw [ej] at hy; cases hy
          | some nm =>
            rw [ej] at hy
            obtain rfl : V.str nm = y := Option.some.inj hy
            have tk : ((fv e).take (j + 1)).filter (fun y => !decide (y = x)) = l5 ++ (if (!decide (nm = x)) = true then [nm] else []) := by
              rw [List.take_add_one, ej, List.filter_append, ← e5]
              show l5 ++ List.filter _ [nm] = _
              rw [List.filter_cons]
              rfl
            refine ⟨rfl, _, rfl, _, rfl, rfl, _, rfl, ?_⟩
            by_cases c2 : nm = x
            · refine ifF (by rw [c2, decide_eq_true rfl]; rfl) ?_
              refine ⟨l5, rfl, Nat.le_succ_of_le ll5, ?_⟩
              rw [tk, decide_eq_true c2]
              exact (List.append_nil _).symm
            · refine ifT (by rw [decide_eq_false fun z => c2 (V.str.inj z)]; rfl) ?_
              refine ⟨_, rfl, _, upd_same, ?_, l5 ++ [nm], ?_, ?_, ?_⟩
              · rw [List.length_map]
                have lj : j < (fv e).length := (List.getElem?_eq_some_iff.mp ej).1
                have := gd_few te.g (fv_nd e) fun y hy => fv_mem.mp hy
                exact Nat.lt_of_le_of_lt (by omega : l5.length ≤ 1000) (by decide)
              · rw [upd_twice, List.map_append]; rfl
              · rw [List.length_append]; exact Nat.succ_le_succ ll5
              · rw [tk, decide_eq_false c2]; rfl
        rintro H5 ⟨l5, rfl, ll5, e5⟩
        rw [List.length_map, List.take_length, ← fv_sub cl] at e5
        subst e5
        have mD : Mv F0 _ H8 _ _ := mv_new (F := F0) (o := .lst ((fv (subE x t e)).map V.str)) w.sub nD
        have aD : At (upd Q28 Da (.lst ((fv (subE x t e)).map V.str))) (bsD (fv (subE x t e))) (.ref Da) := ⟨Da, _, rfl, upd_same, str_ats _⟩
        have w := w.up0 mD
        have mm : Mv (Fst s c) _ _ _ _ := .refl w.sub
        have ae := ae.up mD.up
        have sm2 := sm2.trans mD.up
        have s1 := s1.up mD.up
        have f1 := f1.up mD.up
        have shq := strs_sh (fv_lay ts.g)
        refine ⟨_, _, At.dp w.sub (d := bsD (fv (subE x t e))) (strs_flat _) f1, At.dp w.sub (d := bsD (fv (subE x t e))) (strs_flat _) aD, shq, shq, _, rfl, ?_⟩
        rw [eqv_self shq]
        refine ifF rfl ?_
        refine ⟨_, rfl, _, rfl, _, e, _, rfl, w.sub, ae, dep, by decide, sm, big, n64, fun Q29 J29 v5 m f3 => ?_⟩
        have w := w.up0 m
        have sm2 := sm2.trans m.up
        have ae := ae.up m.up
        have s1 := s1.up m.up
        obtain ⟨pf3, rfl, hf3⟩ := bsD_at f3
        refine ⟨pf3, _, rfl, .inl (SqL.of (w.sub _ _ hf3)), rfl, flat_str _, _, rfl, ?_⟩
        show if (!inV (.str x) ((fv e).map V.str)) = true then _ else _
        rw [inV_str]
        by_cases c : x ∈ fv e
        · refine ifF (by rw [decide_eq_true c]; rfl) ?_
          exact ⟨_, _, _, rfl, w, sm2⟩
        · refine ifT (by rw [decide_eq_false c]; rfl) ?_
          have ocx : occ e x = false := by
            cases h : occ e x with
            | false => rfl
            | true => exact absurd (fv_mem.mpr h) c
          have s1 := s1
          rw [sub_id e ocx] at s1
          refine ⟨_, rfl, _, rfl, _, _, At.dp w.sub (ex_flat _) s1, At.dp w.sub (ex_flat _) ae, sh, sh, _, rfl, ?_⟩
          rw [eqv_self sh]
          refine ifF rfl ?_
          exact ⟨_, _, _, rfl, w, sm2⟩
    rintro σ' H' ⟨R', z7, z8, rfl, w, sm2⟩
    have ae := ae.up sm2
    refine ⟨_, rfl, pe, _, rfl, dpe w.sub ae, sh, so_ex e te.g, te.shown (by decide) (by decide), _, rfl, rfl, ?_⟩
    exact congrArg V.bl (decide_eq_true rfl)
  obtain ⟨t, h, q⟩ := body
  exact def_at (us := [.ref a]) (vs := [.ref a]) lk hcd sc_law room en bind (.cons rfl .nil) rfl ⟨t, h.nox, q⟩
end
end Bz


set_option Elab.async false
set_option linter.all false
set_option maxRecDepth 100000
set_option maxHeartbeats 4000000
namespace Bz
open PySem PySem.Spec L2 PyProof.Rows
section
variable {P : Program} {w : World} {K : PySem.W.Frag} {mg : Str → Option Value} {base : Heap}
theorem note_up {fP fB : Addr} {fdP fdB : FuncData} {f : Addr} {fd : FuncData} (F : Fun K "note_free_names" "note_free_names" g_note_free_names f fd) (mz : mg "zip" = none) (GP : Fn P w K mg base CX0 1 "parts" p_parts spParts fP fdP) (GB : Fn P w K mg base CX0 2 "bound_in_parts" p_bound_in_parts spBnd fB fdB) (g : mg "note_free_names" = some (.ref f)) (kp : PySem.W.keepIn K (.ref f) = true) (b : Binds K fd p_note_free_names []) : ∀ n, Fn P w K mg base CX0 (n + 3) "note_free_names" p_note_free_names (spNote n) f fd
  | 0 => ⟨ok_note0 F, g, kp, b⟩
  | n + 1 => ⟨ok_note F mz GP GB (note_up F mz GP GB g kp b n), g, kp, b⟩
theorem all_up {fP : Addr} {fdP : FuncData} {f : Addr} {fd : FuncData} (F : Fun K "_law_all" "_law_all" g__law_all f fd) (GP : Fn P w K mg base CX0 1 "_law_parts" p__law_parts spLP fP fdP) (g : mg "_law_all" = some (.ref f)) (kp : PySem.W.keepIn K (.ref f) = true) (b : Binds K fd p__law_all []) : ∀ n, Fn P w K mg base CX0 (n + 2) "_law_all" p__law_all (spAll n) f fd
  | 0 => ⟨ok_all0 F, g, kp, b⟩
  | n + 1 => ⟨ok_all F GP (all_up F GP g kp b n), g, kp, b⟩
theorem pa_up {fP fB fW : Addr} {fdP fdB fdW : FuncData} {f : Addr} {fd : FuncData} (F : Fun K "put_all_in" "put_all_in" g_put_all_in f fd) (mz : mg "zip" = none) (GP : Fn P w K mg base CX0 1 "parts" p_parts spParts fP fdP) (GB : Fn P w K mg base CX0 2 "bound_in_parts" p_bound_in_parts spBnd fB fdB) (GW : Fn P w K mg base CX0 1 "with_parts" p_with_parts spWithP fW fdW) (g : mg "put_all_in" = some (.ref f)) (kp : PySem.W.keepIn K (.ref f) = true) (b : Binds K fd p_put_all_in []) : ∀ n, Fn P w K mg base CX0 (n + 3) "put_all_in" p_put_all_in (spPA n) f fd
  | 0 => ⟨ok_pa0 F, g, kp, b⟩
  | n + 1 => ⟨ok_pa F mz GP GB GW (pa_up F mz GP GB GW g kp b n), g, kp, b⟩
theorem pt_up {fP fS fW : Addr} {fdP fdS fdW : FuncData} {f : Addr} {fd : FuncData} (F : Fun K "_law_put" "_law_put" g__law_put f fd) (ml : mg "len" = none) (mr : mg "range" = none) (GP : Fn P w K mg base CX0 1 "_law_parts" p__law_parts spLP fP fdP) (GS : Fn P w K mg base CX0 2 "_law_scopes" p__law_scopes spScp fS fdS) (GW : Fn P w K mg base CX0 1 "_law_with" p__law_with spWth fW fdW) (g : mg "_law_put" = some (.ref f)) (kp : PySem.W.keepIn K (.ref f) = true) (b : Binds K fd p__law_put []) : ∀ n, Fn P w K mg base CX0 (n + 3) "_law_put" p__law_put (spPt n) f fd
  | 0 => ⟨ok_pt0 F, g, kp, b⟩
  | n + 1 => ⟨ok_pt F ml mr GP GS GW (pt_up F ml mr GP GS GW g kp b n), g, kp, b⟩
theorem fr_up {fP fS : Addr} {fdP fdS : FuncData} {f : Addr} {fd : FuncData} (F : Fun K "_law_free" "_law_free" g__law_free f fd) (ml : mg "len" = none) (mr : mg "range" = none) (GP : Fn P w K mg base CX0 1 "_law_parts" p__law_parts spLP fP fdP) (GS : Fn P w K mg base CX0 2 "_law_scopes" p__law_scopes spScp fS fdS) (g : mg "_law_free" = some (.ref f)) (kp : PySem.W.keepIn K (.ref f) = true) (b : Binds K fd p__law_free []) : ∀ n, Fn P w K mg base CX0 (n + 3) "_law_free" p__law_free (spFr n) f fd
  | 0 => ⟨ok_fr0 F, g, kp, b⟩
  | n + 1 => ⟨ok_fr F ml mr GP GS (fr_up F ml mr GP GS g kp b n), g, kp, b⟩
theorem any_up {fT fW fV fH : Addr} {fdT fdW fdV fdH : FuncData} (mi : mg "int" = none) (mr : mg "range" = none) (mtu : mg "tuple" = none) (GT : Fn P w K mg base CX0 1 "_law_take" p__law_take spTake fT fdT) (GW : Fn P w K mg base CX0 2 "_law_word" p__law_word spWord fW fdW)
    (FV : Fun K "_law_any" "_law_any" g__law_any fV fdV) (gV : mg "_law_any" = some (.ref fV)) (kV : PySem.W.keepIn K (.ref fV) = true) (bV : Binds K fdV p__law_any []) (FH : Fun K "_law_handle" "_law_handle" g__law_handle fH fdH) (gH : mg "_law_handle" = some (.ref fH)) (kH : PySem.W.keepIn K (.ref fH) = true) (bH : Binds K fdH p__law_handle []) :
    ∀ n, Fn P w K mg base CX0 (3 + 2 * n) "_law_any" p__law_any (spAny n) fV fdV
  | 0 => ⟨ok_any0 FV mi GT GW, gV, kV, bV⟩
  | n + 1 => by
    have GV := any_up mi mr mtu GT GW FV gV kV bV FH gH kH bH n
    have GH : Fn P w K mg base CX0 (3 + 2 * n + 1) "_law_handle" p__law_handle (spAny (n + 1)) fH fdH := ⟨ok_handle FH mr mtu GT GW GV, gH, kH, bH⟩
    exact ⟨ok_any FV mi GT GW GH GV, gV, kV, bV⟩
end
theorem all_mk {l : PySem.W.OpenLaw} {w : World} {K : PySem.W.Frag} {h : Heap} {mg : Str → Option Value} {fa f_parts f_with_parts f_numbered f_bound_in_parts f_free_names f_note_free_names f_put_in f_put_all_in f_L_law_state f_L_law_take f_L_law_word f_L_law_handle f_L_law_any f_L_law_parts f_L_law_all f_L_law_scopes f_L_law_free f_L_law_put f_L_law_with f_law : Addr} (X : K.In h) (G : h.Ns mainGlobals mg) (hfa : mg "law" = some (.ref fa))
    {od_parts an_parts : Option Addr} {sl_parts : Array (Option Value)} {oc_parts kV_parts dc_parts pm_parts cd_parts ct_parts : Value}
    {od_with_parts an_with_parts : Option Addr} {sl_with_parts : Array (Option Value)} {oc_with_parts kV_with_parts dc_with_parts pm_with_parts cd_with_parts ct_with_parts : Value}
    {od_numbered an_numbered : Option Addr} {sl_numbered : Array (Option Value)} {oc_numbered kV_numbered dc_numbered pm_numbered cd_numbered ct_numbered : Value}
    {od_bound_in_parts an_bound_in_parts : Option Addr} {sl_bound_in_parts : Array (Option Value)} {oc_bound_in_parts kV_bound_in_parts dc_bound_in_parts pm_bound_in_parts cd_bound_in_parts ct_bound_in_parts : Value}
    {od_free_names an_free_names : Option Addr} {sl_free_names : Array (Option Value)} {oc_free_names kV_free_names dc_free_names pm_free_names cd_free_names ct_free_names : Value}
    {od_note_free_names an_note_free_names : Option Addr} {sl_note_free_names : Array (Option Value)} {oc_note_free_names kV_note_free_names dc_note_free_names pm_note_free_names cd_note_free_names ct_note_free_names : Value}
    {od_put_in an_put_in : Option Addr} {sl_put_in : Array (Option Value)} {oc_put_in kV_put_in dc_put_in pm_put_in cd_put_in ct_put_in : Value}
    {od_put_all_in an_put_all_in : Option Addr} {sl_put_all_in : Array (Option Value)} {oc_put_all_in kV_put_all_in dc_put_all_in pm_put_all_in cd_put_all_in ct_put_all_in : Value}
    {od_L_law_state an_L_law_state : Option Addr} {sl_L_law_state : Array (Option Value)} {oc_L_law_state kV_L_law_state dc_L_law_state pm_L_law_state cd_L_law_state ct_L_law_state : Value}
    {od_L_law_take an_L_law_take : Option Addr} {sl_L_law_take : Array (Option Value)} {oc_L_law_take kV_L_law_take dc_L_law_take pm_L_law_take cd_L_law_take ct_L_law_take : Value}
    {od_L_law_word an_L_law_word : Option Addr} {sl_L_law_word : Array (Option Value)} {oc_L_law_word kV_L_law_word dc_L_law_word pm_L_law_word cd_L_law_word ct_L_law_word : Value}
    {od_L_law_handle an_L_law_handle : Option Addr} {sl_L_law_handle : Array (Option Value)} {oc_L_law_handle kV_L_law_handle dc_L_law_handle pm_L_law_handle cd_L_law_handle ct_L_law_handle : Value}
    {od_L_law_any an_L_law_any : Option Addr} {sl_L_law_any : Array (Option Value)} {oc_L_law_any kV_L_law_any dc_L_law_any pm_L_law_any cd_L_law_any ct_L_law_any : Value}
    {od_L_law_parts an_L_law_parts : Option Addr} {sl_L_law_parts : Array (Option Value)} {oc_L_law_parts kV_L_law_parts dc_L_law_parts pm_L_law_parts cd_L_law_parts ct_L_law_parts : Value}
    {od_L_law_all an_L_law_all : Option Addr} {sl_L_law_all : Array (Option Value)} {oc_L_law_all kV_L_law_all dc_L_law_all pm_L_law_all cd_L_law_all ct_L_law_all : Value}
    {od_L_law_scopes an_L_law_scopes : Option Addr} {sl_L_law_scopes : Array (Option Value)} {oc_L_law_scopes kV_L_law_scopes dc_L_law_scopes pm_L_law_scopes cd_L_law_scopes ct_L_law_scopes : Value}
    {od_L_law_free an_L_law_free : Option Addr} {sl_L_law_free : Array (Option Value)} {oc_L_law_free kV_L_law_free dc_L_law_free pm_L_law_free cd_L_law_free ct_L_law_free : Value}
    {od_L_law_put an_L_law_put : Option Addr} {sl_L_law_put : Array (Option Value)} {oc_L_law_put kV_L_law_put dc_L_law_put pm_L_law_put cd_L_law_put ct_L_law_put : Value}
    {od_L_law_with an_L_law_with : Option Addr} {sl_L_law_with : Array (Option Value)} {oc_L_law_with kV_L_law_with dc_L_law_with pm_L_law_with cd_L_law_with ct_L_law_with : Value}
    {od_law an_law : Option Addr} {sl_law : Array (Option Value)} {oc_law kV_law dc_law pm_law cd_law ct_law : Value}
    {pF : Addr} {esF : Array DictEntry} {nF : Nat}
    {tdF_num : Tok}
    {tdF_flag : Tok}
    {tdF_unit : Tok}
    {tdF_name : Tok}
    {tdF_call : Tok}
    {tdF_fun : Tok}
    {tdF_rec : Tok}
    {tdF_let : Tok}
    {tdF_if : Tok}
    {tdF_pair : Tok}
    {tdF_fst : Tok}
    {tdF_snd : Tok}
    {tdF_op : Tok}
    {tdF_not : Tok}
    {tdF_print : Tok}
    {tdF_ask : Tok}
    {tdF_kept : Tok}
    {tdF_known : Tok}
    (a_parts : PySem.W.nsIn K mainGlobals "parts" = some (some (.ref f_parts)))
    (l_parts : K.lookup f_parts = some ⟨oc_parts, od_parts, .func (PySem.W.fnOf "parts" "parts" (defArgs g_parts) (defBody g_parts) (defScope g_parts) .none kV_parts dc_parts pm_parts an_parts cd_parts ct_parts), sl_parts⟩)
    (c_parts : PySem.W.codeIn K cd_parts "parts" = true)
    (k_parts : PySem.W.keepIn K (.ref f_parts) = true)
    (a_with_parts : PySem.W.nsIn K mainGlobals "with_parts" = some (some (.ref f_with_parts)))
    (l_with_parts : K.lookup f_with_parts = some ⟨oc_with_parts, od_with_parts, .func (PySem.W.fnOf "with_parts" "with_parts" (defArgs g_with_parts) (defBody g_with_parts) (defScope g_with_parts) .none kV_with_parts dc_with_parts pm_with_parts an_with_parts cd_with_parts ct_with_parts), sl_with_parts⟩)
    (c_with_parts : PySem.W.codeIn K cd_with_parts "with_parts" = true)
    (k_with_parts : PySem.W.keepIn K (.ref f_with_parts) = true)
    (a_numbered : PySem.W.nsIn K mainGlobals "numbered" = some (some (.ref f_numbered)))
    (l_numbered : K.lookup f_numbered = some ⟨oc_numbered, od_numbered, .func (PySem.W.fnOf "numbered" "numbered" (defArgs g_numbered) (defBody g_numbered) (defScope g_numbered) .none kV_numbered dc_numbered pm_numbered an_numbered cd_numbered ct_numbered), sl_numbered⟩)
    (c_numbered : PySem.W.codeIn K cd_numbered "numbered" = true)
    (k_numbered : PySem.W.keepIn K (.ref f_numbered) = true)
    (a_bound_in_parts : PySem.W.nsIn K mainGlobals "bound_in_parts" = some (some (.ref f_bound_in_parts)))
    (l_bound_in_parts : K.lookup f_bound_in_parts = some ⟨oc_bound_in_parts, od_bound_in_parts, .func (PySem.W.fnOf "bound_in_parts" "bound_in_parts" (defArgs g_bound_in_parts) (defBody g_bound_in_parts) (defScope g_bound_in_parts) .none kV_bound_in_parts dc_bound_in_parts pm_bound_in_parts an_bound_in_parts cd_bound_in_parts ct_bound_in_parts), sl_bound_in_parts⟩)
    (c_bound_in_parts : PySem.W.codeIn K cd_bound_in_parts "bound_in_parts" = true)
    (k_bound_in_parts : PySem.W.keepIn K (.ref f_bound_in_parts) = true)
    (a_free_names : PySem.W.nsIn K mainGlobals "free_names" = some (some (.ref f_free_names)))
    (l_free_names : K.lookup f_free_names = some ⟨oc_free_names, od_free_names, .func (PySem.W.fnOf "free_names" "free_names" (defArgs g_free_names) (defBody g_free_names) (defScope g_free_names) .none kV_free_names dc_free_names pm_free_names an_free_names cd_free_names ct_free_names), sl_free_names⟩)
    (c_free_names : PySem.W.codeIn K cd_free_names "free_names" = true)
    (k_free_names : PySem.W.keepIn K (.ref f_free_names) = true)
    (a_note_free_names : PySem.W.nsIn K mainGlobals "note_free_names" = some (some (.ref f_note_free_names)))
    (l_note_free_names : K.lookup f_note_free_names = some ⟨oc_note_free_names, od_note_free_names, .func (PySem.W.fnOf "note_free_names" "note_free_names" (defArgs g_note_free_names) (defBody g_note_free_names) (defScope g_note_free_names) .none kV_note_free_names dc_note_free_names pm_note_free_names an_note_free_names cd_note_free_names ct_note_free_names), sl_note_free_names⟩)
    (c_note_free_names : PySem.W.codeIn K cd_note_free_names "note_free_names" = true)
    (k_note_free_names : PySem.W.keepIn K (.ref f_note_free_names) = true)
    (a_put_in : PySem.W.nsIn K mainGlobals "put_in" = some (some (.ref f_put_in)))
    (l_put_in : K.lookup f_put_in = some ⟨oc_put_in, od_put_in, .func (PySem.W.fnOf "put_in" "put_in" (defArgs g_put_in) (defBody g_put_in) (defScope g_put_in) .none kV_put_in dc_put_in pm_put_in an_put_in cd_put_in ct_put_in), sl_put_in⟩)
    (c_put_in : PySem.W.codeIn K cd_put_in "put_in" = true)
    (k_put_in : PySem.W.keepIn K (.ref f_put_in) = true)
    (a_put_all_in : PySem.W.nsIn K mainGlobals "put_all_in" = some (some (.ref f_put_all_in)))
    (l_put_all_in : K.lookup f_put_all_in = some ⟨oc_put_all_in, od_put_all_in, .func (PySem.W.fnOf "put_all_in" "put_all_in" (defArgs g_put_all_in) (defBody g_put_all_in) (defScope g_put_all_in) .none kV_put_all_in dc_put_all_in pm_put_all_in an_put_all_in cd_put_all_in ct_put_all_in), sl_put_all_in⟩)
    (c_put_all_in : PySem.W.codeIn K cd_put_all_in "put_all_in" = true)
    (k_put_all_in : PySem.W.keepIn K (.ref f_put_all_in) = true)
    (a_L_law_state : PySem.W.nsIn K mainGlobals "_law_state" = some (some (.ref f_L_law_state)))
    (l_L_law_state : K.lookup f_L_law_state = some ⟨oc_L_law_state, od_L_law_state, .func (PySem.W.fnOf "_law_state" "_law_state" (defArgs g__law_state) (defBody g__law_state) (defScope g__law_state) .none kV_L_law_state dc_L_law_state pm_L_law_state an_L_law_state cd_L_law_state ct_L_law_state), sl_L_law_state⟩)
    (c_L_law_state : PySem.W.codeIn K cd_L_law_state "_law_state" = true)
    (k_L_law_state : PySem.W.keepIn K (.ref f_L_law_state) = true)
    (a_L_law_take : PySem.W.nsIn K mainGlobals "_law_take" = some (some (.ref f_L_law_take)))
    (l_L_law_take : K.lookup f_L_law_take = some ⟨oc_L_law_take, od_L_law_take, .func (PySem.W.fnOf "_law_take" "_law_take" (defArgs g__law_take) (defBody g__law_take) (defScope g__law_take) .none kV_L_law_take dc_L_law_take pm_L_law_take an_L_law_take cd_L_law_take ct_L_law_take), sl_L_law_take⟩)
    (c_L_law_take : PySem.W.codeIn K cd_L_law_take "_law_take" = true)
    (k_L_law_take : PySem.W.keepIn K (.ref f_L_law_take) = true)
    (a_L_law_word : PySem.W.nsIn K mainGlobals "_law_word" = some (some (.ref f_L_law_word)))
    (l_L_law_word : K.lookup f_L_law_word = some ⟨oc_L_law_word, od_L_law_word, .func (PySem.W.fnOf "_law_word" "_law_word" (defArgs g__law_word) (defBody g__law_word) (defScope g__law_word) .none kV_L_law_word dc_L_law_word pm_L_law_word an_L_law_word cd_L_law_word ct_L_law_word), sl_L_law_word⟩)
    (c_L_law_word : PySem.W.codeIn K cd_L_law_word "_law_word" = true)
    (k_L_law_word : PySem.W.keepIn K (.ref f_L_law_word) = true)
    (a_L_law_handle : PySem.W.nsIn K mainGlobals "_law_handle" = some (some (.ref f_L_law_handle)))
    (l_L_law_handle : K.lookup f_L_law_handle = some ⟨oc_L_law_handle, od_L_law_handle, .func (PySem.W.fnOf "_law_handle" "_law_handle" (defArgs g__law_handle) (defBody g__law_handle) (defScope g__law_handle) .none kV_L_law_handle dc_L_law_handle pm_L_law_handle an_L_law_handle cd_L_law_handle ct_L_law_handle), sl_L_law_handle⟩)
    (c_L_law_handle : PySem.W.codeIn K cd_L_law_handle "_law_handle" = true)
    (k_L_law_handle : PySem.W.keepIn K (.ref f_L_law_handle) = true)
    (a_L_law_any : PySem.W.nsIn K mainGlobals "_law_any" = some (some (.ref f_L_law_any)))
    (l_L_law_any : K.lookup f_L_law_any = some ⟨oc_L_law_any, od_L_law_any, .func (PySem.W.fnOf "_law_any" "_law_any" (defArgs g__law_any) (defBody g__law_any) (defScope g__law_any) .none kV_L_law_any dc_L_law_any pm_L_law_any an_L_law_any cd_L_law_any ct_L_law_any), sl_L_law_any⟩)
    (c_L_law_any : PySem.W.codeIn K cd_L_law_any "_law_any" = true)
    (k_L_law_any : PySem.W.keepIn K (.ref f_L_law_any) = true)
    (a_L_law_parts : PySem.W.nsIn K mainGlobals "_law_parts" = some (some (.ref f_L_law_parts)))
    (l_L_law_parts : K.lookup f_L_law_parts = some ⟨oc_L_law_parts, od_L_law_parts, .func (PySem.W.fnOf "_law_parts" "_law_parts" (defArgs g__law_parts) (defBody g__law_parts) (defScope g__law_parts) .none kV_L_law_parts dc_L_law_parts pm_L_law_parts an_L_law_parts cd_L_law_parts ct_L_law_parts), sl_L_law_parts⟩)
    (c_L_law_parts : PySem.W.codeIn K cd_L_law_parts "_law_parts" = true)
    (k_L_law_parts : PySem.W.keepIn K (.ref f_L_law_parts) = true)
    (a_L_law_all : PySem.W.nsIn K mainGlobals "_law_all" = some (some (.ref f_L_law_all)))
    (l_L_law_all : K.lookup f_L_law_all = some ⟨oc_L_law_all, od_L_law_all, .func (PySem.W.fnOf "_law_all" "_law_all" (defArgs g__law_all) (defBody g__law_all) (defScope g__law_all) .none kV_L_law_all dc_L_law_all pm_L_law_all an_L_law_all cd_L_law_all ct_L_law_all), sl_L_law_all⟩)
    (c_L_law_all : PySem.W.codeIn K cd_L_law_all "_law_all" = true)
    (k_L_law_all : PySem.W.keepIn K (.ref f_L_law_all) = true)
    (a_L_law_scopes : PySem.W.nsIn K mainGlobals "_law_scopes" = some (some (.ref f_L_law_scopes)))
    (l_L_law_scopes : K.lookup f_L_law_scopes = some ⟨oc_L_law_scopes, od_L_law_scopes, .func (PySem.W.fnOf "_law_scopes" "_law_scopes" (defArgs g__law_scopes) (defBody g__law_scopes) (defScope g__law_scopes) .none kV_L_law_scopes dc_L_law_scopes pm_L_law_scopes an_L_law_scopes cd_L_law_scopes ct_L_law_scopes), sl_L_law_scopes⟩)
    (c_L_law_scopes : PySem.W.codeIn K cd_L_law_scopes "_law_scopes" = true)
    (k_L_law_scopes : PySem.W.keepIn K (.ref f_L_law_scopes) = true)
    (a_L_law_free : PySem.W.nsIn K mainGlobals "_law_free" = some (some (.ref f_L_law_free)))
    (l_L_law_free : K.lookup f_L_law_free = some ⟨oc_L_law_free, od_L_law_free, .func (PySem.W.fnOf "_law_free" "_law_free" (defArgs g__law_free) (defBody g__law_free) (defScope g__law_free) .none kV_L_law_free dc_L_law_free pm_L_law_free an_L_law_free cd_L_law_free ct_L_law_free), sl_L_law_free⟩)
    (c_L_law_free : PySem.W.codeIn K cd_L_law_free "_law_free" = true)
    (k_L_law_free : PySem.W.keepIn K (.ref f_L_law_free) = true)
    (a_L_law_put : PySem.W.nsIn K mainGlobals "_law_put" = some (some (.ref f_L_law_put)))
    (l_L_law_put : K.lookup f_L_law_put = some ⟨oc_L_law_put, od_L_law_put, .func (PySem.W.fnOf "_law_put" "_law_put" (defArgs g__law_put) (defBody g__law_put) (defScope g__law_put) .none kV_L_law_put dc_L_law_put pm_L_law_put an_L_law_put cd_L_law_put ct_L_law_put), sl_L_law_put⟩)
    (c_L_law_put : PySem.W.codeIn K cd_L_law_put "_law_put" = true)
    (k_L_law_put : PySem.W.keepIn K (.ref f_L_law_put) = true)
    (a_L_law_with : PySem.W.nsIn K mainGlobals "_law_with" = some (some (.ref f_L_law_with)))
    (l_L_law_with : K.lookup f_L_law_with = some ⟨oc_L_law_with, od_L_law_with, .func (PySem.W.fnOf "_law_with" "_law_with" (defArgs g__law_with) (defBody g__law_with) (defScope g__law_with) .none kV_L_law_with dc_L_law_with pm_L_law_with an_L_law_with cd_L_law_with ct_L_law_with), sl_L_law_with⟩)
    (c_L_law_with : PySem.W.codeIn K cd_L_law_with "_law_with" = true)
    (k_L_law_with : PySem.W.keepIn K (.ref f_L_law_with) = true)
    (a_law : PySem.W.nsIn K mainGlobals "law" = some (some (.ref f_law)))
    (l_law : K.lookup f_law = some ⟨oc_law, od_law, .func (PySem.W.fnOf "law" "law" (defArgs g_law) (defBody g_law) (defScope g_law) .none kV_law dc_law pm_law an_law cd_law ct_law), sl_law⟩)
    (c_law : PySem.W.codeIn K cd_law "law" = true)
    (k_law : PySem.W.keepIn K (.ref f_law) = true)
    (z_len : PySem.W.nsIn K mainGlobals "len" = some (none))
    (z_range : PySem.W.nsIn K mainGlobals "range" = some (none))
    (z_list : PySem.W.nsIn K mainGlobals "list" = some (none))
    (z_tuple : PySem.W.nsIn K mainGlobals "tuple" = some (none))
    (z_zip : PySem.W.nsIn K mainGlobals "zip" = some (none))
    (z_sorted : PySem.W.nsIn K mainGlobals "sorted" = some (none))
    (z_abs : PySem.W.nsIn K mainGlobals "abs" = some (none))
    (z_int : PySem.W.nsIn K mainGlobals "int" = some (none))
    (z_repr : PySem.W.nsIn K mainGlobals "repr" = some (none))
    (gF : PySem.W.nsIn K mainGlobals "FIRST_PART" = some (some (.ref pF)))
    (DF : K.lookup pF = some ⟨.type "dict", none, .dict esF nF, #[]⟩)
    (KF : PySem.W.KeysLit w.params esF.toList)
    (dF_num : PySem.W.nsIn K pF "num" = some (some (.int 2 tdF_num)))
    (dF_flag : PySem.W.nsIn K pF "flag" = some (some (.int 2 tdF_flag)))
    (dF_unit : PySem.W.nsIn K pF "unit" = some (some (.int 1 tdF_unit)))
    (dF_name : PySem.W.nsIn K pF "name" = some (some (.int 2 tdF_name)))
    (dF_call : PySem.W.nsIn K pF "call" = some (some (.int 1 tdF_call)))
    (dF_fun : PySem.W.nsIn K pF "fun" = some (some (.int 2 tdF_fun)))
    (dF_rec : PySem.W.nsIn K pF "rec" = some (some (.int 3 tdF_rec)))
    (dF_let : PySem.W.nsIn K pF "let" = some (some (.int 2 tdF_let)))
    (dF_if : PySem.W.nsIn K pF "if" = some (some (.int 1 tdF_if)))
    (dF_pair : PySem.W.nsIn K pF "pair" = some (some (.int 1 tdF_pair)))
    (dF_fst : PySem.W.nsIn K pF "fst" = some (some (.int 1 tdF_fst)))
    (dF_snd : PySem.W.nsIn K pF "snd" = some (some (.int 1 tdF_snd)))
    (dF_op : PySem.W.nsIn K pF "op" = some (some (.int 2 tdF_op)))
    (dF_not : PySem.W.nsIn K pF "not" = some (some (.int 1 tdF_not)))
    (dF_print : PySem.W.nsIn K pF "print" = some (some (.int 1 tdF_print)))
    (dF_ask : PySem.W.nsIn K pF "ask" = some (some (.int 2 tdF_ask)))
    (dF_kept : PySem.W.nsIn K pF "kept" = some (some (.int 2 tdF_kept)))
    (dF_known : PySem.W.nsIn K pF "known" = some (some (.int 2 tdF_known))) :
    ∀ (base : Heap) (t1 : Shared) (H : Hp) (a : Addr) (ns : List Int), K.In base → base.Ns mainGlobals mg → Env0 l.prog w K mg base callerA [] t1 H → SqL K H a (ns.map V.int) → ns.length ≤ 63 → codeAny (model l.prog w) callerA (.call (.ref fa) ⟨[.ref a], []⟩) (CR CX0 [] l.prog w H t1 (fun v _ => v = .bl true) (fun _ _ _ => False)) t1 := by
  have e := hfa.symm.trans (PySem.W.mg_of X G a_law)
  cases e
  have F_parts := fun_mk (st := g_parts) l_parts c_parts k_parts
  have b_parts := F_parts.binds (ps := ["expression"]) fun _ _ _ _ _ _ us hl => match us, hl with | [_], _ => rfl
  have F_with_parts := fun_mk (st := g_with_parts) l_with_parts c_with_parts k_with_parts
  have b_with_parts := F_with_parts.binds (ps := ["expression", "inner"]) fun _ _ _ _ _ _ us hl => match us, hl with | [_, _], _ => rfl
  have F_numbered := fun_mk (st := g_numbered) l_numbered c_numbered k_numbered
  have b_numbered := F_numbered.binds (ps := ["expression"]) fun _ _ _ _ _ _ us hl => match us, hl with | [_], _ => rfl
  have F_bound_in_parts := fun_mk (st := g_bound_in_parts) l_bound_in_parts c_bound_in_parts k_bound_in_parts
  have b_bound_in_parts := F_bound_in_parts.binds (ps := ["expression"]) fun _ _ _ _ _ _ us hl => match us, hl with | [_], _ => rfl
  have F_free_names := fun_mk (st := g_free_names) l_free_names c_free_names k_free_names
  have b_free_names := F_free_names.binds (ps := ["expression"]) fun _ _ _ _ _ _ us hl => match us, hl with | [_], _ => rfl
  have F_note_free_names := fun_mk (st := g_note_free_names) l_note_free_names c_note_free_names k_note_free_names
  have b_note_free_names := F_note_free_names.binds (ps := ["expression", "bound", "found"]) fun _ _ _ _ _ _ us hl => match us, hl with | [_, _, _], _ => rfl
  have F_put_in := fun_mk (st := g_put_in) l_put_in c_put_in k_put_in
  have b_put_in := F_put_in.binds (ps := ["expression", "name", "tree"]) fun _ _ _ _ _ _ us hl => match us, hl with | [_, _, _], _ => rfl
  have F_put_all_in := fun_mk (st := g_put_all_in) l_put_all_in c_put_all_in k_put_all_in
  have b_put_all_in := F_put_all_in.binds (ps := ["expression", "trees"]) fun _ _ _ _ _ _ us hl => match us, hl with | [_, _], _ => rfl
  have F_L_law_state := fun_mk (st := g__law_state) l_L_law_state c_L_law_state k_L_law_state
  have b_L_law_state := F_L_law_state.binds (ps := ["script"]) fun _ _ _ _ _ _ us hl => match us, hl with | [_], _ => rfl
  have F_L_law_take := fun_mk (st := g__law_take) l_L_law_take c_L_law_take k_L_law_take
  have b_L_law_take := F_L_law_take.binds (ps := ["state", "most"]) fun _ _ _ _ _ _ us hl => match us, hl with | [_, _], _ => rfl
  have F_L_law_word := fun_mk (st := g__law_word) l_L_law_word c_L_law_word k_L_law_word
  have b_L_law_word := F_L_law_word.binds (ps := ["state"]) fun _ _ _ _ _ _ us hl => match us, hl with | [_], _ => rfl
  have F_L_law_handle := fun_mk (st := g__law_handle) l_L_law_handle c_L_law_handle k_L_law_handle
  have b_L_law_handle := F_L_law_handle.binds (ps := ["state", "depth"]) fun _ _ _ _ _ _ us hl => match us, hl with | [_, _], _ => rfl
  have F_L_law_any := fun_mk (st := g__law_any) l_L_law_any c_L_law_any k_L_law_any
  have b_L_law_any := F_L_law_any.binds (ps := ["state", "depth"]) fun _ _ _ _ _ _ us hl => match us, hl with | [_, _], _ => rfl
  have F_L_law_parts := fun_mk (st := g__law_parts) l_L_law_parts c_L_law_parts k_L_law_parts
  have b_L_law_parts := F_L_law_parts.binds (ps := ["tree"]) fun _ _ _ _ _ _ us hl => match us, hl with | [_], _ => rfl
  have F_L_law_all := fun_mk (st := g__law_all) l_L_law_all c_L_law_all k_L_law_all
  have b_L_law_all := F_L_law_all.binds (ps := ["tree"]) fun _ _ _ _ _ _ us hl => match us, hl with | [_], _ => rfl
  have F_L_law_scopes := fun_mk (st := g__law_scopes) l_L_law_scopes c_L_law_scopes k_L_law_scopes
  have b_L_law_scopes := F_L_law_scopes.binds (ps := ["tree"]) fun _ _ _ _ _ _ us hl => match us, hl with | [_], _ => rfl
  have F_L_law_free := fun_mk (st := g__law_free) l_L_law_free c_L_law_free k_L_law_free
  have b_L_law_free := F_L_law_free.binds (ps := ["tree"]) fun _ _ _ _ _ _ us hl => match us, hl with | [_], _ => rfl
  have F_L_law_put := fun_mk (st := g__law_put) l_L_law_put c_L_law_put k_L_law_put
  have b_L_law_put := F_L_law_put.binds (ps := ["tree", "name", "other"]) fun _ _ _ _ _ _ us hl => match us, hl with | [_, _, _], _ => rfl
  have F_L_law_with := fun_mk (st := g__law_with) l_L_law_with c_L_law_with k_L_law_with
  have b_L_law_with := F_L_law_with.binds (ps := ["tree", "rows"]) fun _ _ _ _ _ _ us hl => match us, hl with | [_, _], _ => rfl
  have F_law := fun_mk (st := g_law) l_law c_law k_law
  have b_law := F_law.binds (ps := ["script"]) fun _ _ _ _ _ _ us hl => match us, hl with | [_], _ => rfl
  have TF : FpTxt K w mg pF := ⟨(PySem.W.mg_of X G gF), fun x k hk => by
    have key : ∀ (y : Str) (i : Nat) (tk : Tok), PySem.W.nsIn K pF y = some (some (.int (i : Nat) tk)) → KDct K w pF y (.int (i : Nat)) := fun y i tk hn => ⟨esF, nF, _, DF, KF, hn, ⟨tk, rfl⟩⟩
    unfold fpTab at hk
    rw [List.lookup_cons] at hk
    by_cases e_num : x = "num"
    · rw [e_num] at hk ⊢
      cases (show some 2 = some k from hk)
      exact key _ _ _ dF_num
    rw [show (x == (Str.ofString "num")) = false from beq_false_of_ne e_num] at hk
    simp only [] at hk
    rw [List.lookup_cons] at hk
    by_cases e_flag : x = "flag"
    · rw [e_flag] at hk ⊢
      cases (show some 2 = some k from hk)
      exact key _ _ _ dF_flag
    rw [show (x == (Str.ofString "flag")) = false from beq_false_of_ne e_flag] at hk
    simp only [] at hk
    rw [List.lookup_cons] at hk
    by_cases e_unit : x = "unit"
    · rw [e_unit] at hk ⊢
      cases (show some 1 = some k from hk)
      exact key _ _ _ dF_unit
    rw [show (x == (Str.ofString "unit")) = false from beq_false_of_ne e_unit] at hk
    simp only [] at hk
    rw [List.lookup_cons] at hk
    by_cases e_name : x = "name"
    · rw [e_name] at hk ⊢
      cases (show some 2 = some k from hk)
      exact key _ _ _ dF_name
    rw [show (x == (Str.ofString "name")) = false from beq_false_of_ne e_name] at hk
    simp only [] at hk
    rw [List.lookup_cons] at hk
    by_cases e_call : x = "call"
    · rw [e_call] at hk ⊢
      cases (show some 1 = some k from hk)
      exact key _ _ _ dF_call
    rw [show (x == (Str.ofString "call")) = false from beq_false_of_ne e_call] at hk
    simp only [] at hk
    rw [List.lookup_cons] at hk
    by_cases e_fun : x = "fun"
    · rw [e_fun] at hk ⊢
      cases (show some 2 = some k from hk)
      exact key _ _ _ dF_fun
    rw [show (x == (Str.ofString "fun")) = false from beq_false_of_ne e_fun] at hk
    simp only [] at hk
    rw [List.lookup_cons] at hk
    by_cases e_rec : x = "rec"
    · rw [e_rec] at hk ⊢
      cases (show some 3 = some k from hk)
      exact key _ _ _ dF_rec
    rw [show (x == (Str.ofString "rec")) = false from beq_false_of_ne e_rec] at hk
    simp only [] at hk
    rw [List.lookup_cons] at hk
    by_cases e_let : x = "let"
    · rw [e_let] at hk ⊢
      cases (show some 2 = some k from hk)
      exact key _ _ _ dF_let
    rw [show (x == (Str.ofString "let")) = false from beq_false_of_ne e_let] at hk
    simp only [] at hk
    rw [List.lookup_cons] at hk
    by_cases e_if : x = "if"
    · rw [e_if] at hk ⊢
      cases (show some 1 = some k from hk)
      exact key _ _ _ dF_if
    rw [show (x == (Str.ofString "if")) = false from beq_false_of_ne e_if] at hk
    simp only [] at hk
    rw [List.lookup_cons] at hk
    by_cases e_pair : x = "pair"
    · rw [e_pair] at hk ⊢
      cases (show some 1 = some k from hk)
      exact key _ _ _ dF_pair
    rw [show (x == (Str.ofString "pair")) = false from beq_false_of_ne e_pair] at hk
    simp only [] at hk
    rw [List.lookup_cons] at hk
    by_cases e_fst : x = "fst"
    · rw [e_fst] at hk ⊢
      cases (show some 1 = some k from hk)
      exact key _ _ _ dF_fst
    rw [show (x == (Str.ofString "fst")) = false from beq_false_of_ne e_fst] at hk
    simp only [] at hk
    rw [List.lookup_cons] at hk
    by_cases e_snd : x = "snd"
    · rw [e_snd] at hk ⊢
      cases (show some 1 = some k from hk)
      exact key _ _ _ dF_snd
    rw [show (x == (Str.ofString "snd")) = false from beq_false_of_ne e_snd] at hk
    simp only [] at hk
    rw [List.lookup_cons] at hk
    by_cases e_op : x = "op"
    · rw [e_op] at hk ⊢
      cases (show some 2 = some k from hk)
      exact key _ _ _ dF_op
    rw [show (x == (Str.ofString "op")) = false from beq_false_of_ne e_op] at hk
    simp only [] at hk
    rw [List.lookup_cons] at hk
    by_cases e_not : x = "not"
    · rw [e_not] at hk ⊢
      cases (show some 1 = some k from hk)
      exact key _ _ _ dF_not
    rw [show (x == (Str.ofString "not")) = false from beq_false_of_ne e_not] at hk
    simp only [] at hk
    rw [List.lookup_cons] at hk
    by_cases e_print : x = "print"
    · rw [e_print] at hk ⊢
      cases (show some 1 = some k from hk)
      exact key _ _ _ dF_print
    rw [show (x == (Str.ofString "print")) = false from beq_false_of_ne e_print] at hk
    simp only [] at hk
    rw [List.lookup_cons] at hk
    by_cases e_ask : x = "ask"
    · rw [e_ask] at hk ⊢
      cases (show some 2 = some k from hk)
      exact key _ _ _ dF_ask
    rw [show (x == (Str.ofString "ask")) = false from beq_false_of_ne e_ask] at hk
    simp only [] at hk
    rw [List.lookup_cons] at hk
    by_cases e_kept : x = "kept"
    · rw [e_kept] at hk ⊢
      cases (show some 2 = some k from hk)
      exact key _ _ _ dF_kept
    rw [show (x == (Str.ofString "kept")) = false from beq_false_of_ne e_kept] at hk
    simp only [] at hk
    rw [List.lookup_cons] at hk
    by_cases e_known : x = "known"
    · rw [e_known] at hk ⊢
      cases (show some 2 = some k from hk)
      exact key _ _ _ dF_known
    rw [show (x == (Str.ofString "known")) = false from beq_false_of_ne e_known] at hk
    simp only [] at hk
    cases hk⟩
  intro base t1 H a ns inK gns en sq small
  have G_parts : Fn l.prog w K mg base CX0 1 "parts" p_parts spParts f_parts _ := ⟨ok_parts F_parts TF (PySem.W.mg_none_of X G z_list), (PySem.W.mg_of X G a_parts), k_parts, b_parts⟩
  have G_with_parts : Fn l.prog w K mg base CX0 1 "with_parts" p_with_parts spWithP f_with_parts _ := ⟨ok_withp F_with_parts TF (PySem.W.mg_none_of X G z_tuple) (PySem.W.mg_none_of X G z_zip), (PySem.W.mg_of X G a_with_parts), k_with_parts, b_with_parts⟩
  have G_numbered : Fn l.prog w K mg base CX0 2 "numbered" p_numbered spNumb f_numbered _ := ⟨ok_numb F_numbered G_parts, (PySem.W.mg_of X G a_numbered), k_numbered, b_numbered⟩
  have G_bound_in_parts : Fn l.prog w K mg base CX0 2 "bound_in_parts" p_bound_in_parts spBnd f_bound_in_parts _ := ⟨ok_bnd F_bound_in_parts G_parts, (PySem.W.mg_of X G a_bound_in_parts), k_bound_in_parts, b_bound_in_parts⟩
  have G_note_free_names : Fn l.prog w K mg base CX0 19 "note_free_names" p_note_free_names (spNote 16) f_note_free_names _ := note_up (P := l.prog) (base := base) F_note_free_names (PySem.W.mg_none_of X G z_zip) G_parts G_bound_in_parts (PySem.W.mg_of X G a_note_free_names) k_note_free_names b_note_free_names 16
  have G_free_names : Fn l.prog w K mg base CX0 (16 + 4) "free_names" p_free_names (spFree 16) f_free_names _ := ⟨ok_free (n := 16) F_free_names (PySem.W.mg_none_of X G z_sorted) G_note_free_names, (PySem.W.mg_of X G a_free_names), k_free_names, b_free_names⟩
  have G_put_all_in : Fn l.prog w K mg base CX0 (16 + 3) "put_all_in" p_put_all_in (spPA 16) f_put_all_in _ := pa_up (P := l.prog) (base := base) F_put_all_in (PySem.W.mg_none_of X G z_zip) G_parts G_bound_in_parts G_with_parts (PySem.W.mg_of X G a_put_all_in) k_put_all_in b_put_all_in 16
  have G_put_in : Fn l.prog w K mg base CX0 (16 + 4) "put_in" p_put_in (spPI 16) f_put_in _ := ⟨ok_pi (n := 16) F_put_in G_put_all_in, (PySem.W.mg_of X G a_put_in), k_put_in, b_put_in⟩
  have G_L_law_state : Fn l.prog w K mg base CX0 1 "_law_state" p__law_state (spState K) f_L_law_state _ := ⟨ok_state F_L_law_state (PySem.W.mg_none_of X G z_len) (PySem.W.mg_none_of X G z_abs), (PySem.W.mg_of X G a_L_law_state), k_L_law_state, b_L_law_state⟩
  have G_L_law_take : Fn l.prog w K mg base CX0 1 "_law_take" p__law_take spTake f_L_law_take _ := ⟨ok_take F_L_law_take (PySem.W.mg_none_of X G z_len) (PySem.W.mg_none_of X G z_int), (PySem.W.mg_of X G a_L_law_take), k_L_law_take, b_L_law_take⟩
  have G_L_law_word : Fn l.prog w K mg base CX0 2 "_law_word" p__law_word spWord f_L_law_word _ := ⟨ok_word F_L_law_word G_L_law_take, (PySem.W.mg_of X G a_L_law_word), k_L_law_word, b_L_law_word⟩
  have GVn := any_up (P := l.prog) (base := base) (PySem.W.mg_none_of X G z_int) (PySem.W.mg_none_of X G z_range) (PySem.W.mg_none_of X G z_tuple) G_L_law_take G_L_law_word F_L_law_any (PySem.W.mg_of X G a_L_law_any) k_L_law_any b_L_law_any F_L_law_handle (PySem.W.mg_of X G a_L_law_handle) k_L_law_handle b_L_law_handle
  have G_L_law_parts : Fn l.prog w K mg base CX0 1 "_law_parts" p__law_parts spLP f_L_law_parts _ := ⟨ok_lp F_L_law_parts (PySem.W.mg_none_of X G z_len) (PySem.W.mg_none_of X G z_list), (PySem.W.mg_of X G a_L_law_parts), k_L_law_parts, b_L_law_parts⟩
  have G_L_law_all : Fn l.prog w K mg base CX0 18 "_law_all" p__law_all (spAll 16) f_L_law_all _ := all_up (P := l.prog) (base := base) F_L_law_all G_L_law_parts (PySem.W.mg_of X G a_L_law_all) k_L_law_all b_L_law_all 16
  have G_L_law_scopes : Fn l.prog w K mg base CX0 2 "_law_scopes" p__law_scopes spScp f_L_law_scopes _ := ⟨ok_scp F_L_law_scopes G_L_law_parts, (PySem.W.mg_of X G a_L_law_scopes), k_L_law_scopes, b_L_law_scopes⟩
  have G_L_law_with : Fn l.prog w K mg base CX0 1 "_law_with" p__law_with spWth f_L_law_with _ := ⟨ok_wth F_L_law_with (PySem.W.mg_none_of X G z_len) (PySem.W.mg_none_of X G z_range) (PySem.W.mg_none_of X G z_tuple), (PySem.W.mg_of X G a_L_law_with), k_L_law_with, b_L_law_with⟩
  have G_L_law_free : Fn l.prog w K mg base CX0 19 "_law_free" p__law_free (spFr 16) f_L_law_free _ := fr_up (P := l.prog) (base := base) F_L_law_free (PySem.W.mg_none_of X G z_len) (PySem.W.mg_none_of X G z_range) G_L_law_parts G_L_law_scopes (PySem.W.mg_of X G a_L_law_free) k_L_law_free b_L_law_free 16
  have G_L_law_put : Fn l.prog w K mg base CX0 19 "_law_put" p__law_put (spPt 16) f_L_law_put _ := pt_up (P := l.prog) (base := base) F_L_law_put (PySem.W.mg_none_of X G z_len) (PySem.W.mg_none_of X G z_range) G_L_law_parts G_L_law_scopes G_L_law_with (PySem.W.mg_of X G a_L_law_put) k_L_law_put b_L_law_put 16
  exact law_at F_law (PySem.W.mg_none_of X G z_range) (PySem.W.mg_none_of X G z_len) (PySem.W.mg_none_of X G z_int) (PySem.W.mg_none_of X G z_list) (PySem.W.mg_none_of X G z_sorted) (PySem.W.mg_none_of X G z_repr) G_L_law_state G_L_law_take (GVn 4) G_parts G_L_law_parts G_numbered G_L_law_all G_free_names G_L_law_free G_with_parts G_L_law_with G_put_in G_L_law_put en sq small (.of_eq rfl)
/-- the law's end, for a law whose def is told at the caller's place -/
theorem walk {l : PySem.W.OpenLaw} {q : Program} {loose : List Str} {XP : (Str → Option Value) → Heap → Prop} {YP : World → Heap → Prop} {d : DefRec} {K : Params → PySem.W.Frag} (most : l.most = some 63) (nodf : d.params.defaults = []) (inK : ∀ (w : World) (h : Heap), YP w h → (K w.params).In h)
    (told : ∀ (w : World) (mg : Str → Option Value) (fa : Addr) (h : Heap), (K w.params).In h → h.Ns mainGlobals mg → mg d.name = some (.ref fa) → ∀ (base : Heap) (t1 : Shared) (H : Hp) (a : Addr) (ns : List Int), (K w.params).In base → base.Ns mainGlobals mg → Env0 l.prog w (K w.params) mg base callerA [] t1 H →
      SqL (K w.params) H a (ns.map V.int) → ns.length ≤ 63 → codeAny (model l.prog w) callerA (.call (.ref fa) ⟨[.ref a], []⟩) (CR CX0 [] l.prog w H t1 (fun v _ => v = .bl true) (fun _ _ _ => False)) t1) : PySem.W.WalkO q loose XP YP l.row.toRowW d [] (fun f vs => PySem.call f vs) := by
  apply Att.attach_call most nodf
  intro w t0 t1 mg mb fa ob pm cd doc a us ns gr y _ _ _ named scr inz small gens
  have kx := inK w _ y
  exact caller_end kx gr.T.g gr.T.b gr.T.builtins gr.T.nolimit gens scr inz (Nat.le_trans small (by decide)) fun base H k n en sq => told w mg fa _ kx gr.T.g named base t1 H a ns k n en sq small
end Bz


set_option Elab.async false
set_option linter.all false
set_option maxRecDepth 100000
open PySem PySem.W PyProof.Rows in
set_option maxRecDepth 100000 in
set_option maxHeartbeats 0 in
theorem PySem.Challenge.cw_askedfor_k03_parts_and_names_holds : PySem.Challenge.rw_askedfor_k03_parts_and_names.Holds := by
  w_on; o_law; k_head; (case hw => w_witness2)
  k_fill
  refine Bz.walk (l := PySem.Challenge.rw_askedfor_k03_parts_and_names) rfl rfl (fun w h Y => PySem.W.kIn_of Y) ?F
  case F =>
    intro w mg fa h KX G hmg
    refine' Bz.all_mk KX G hmg ?a_parts ?l_parts ?c_parts ?k_parts ?a_with_parts ?l_with_parts ?c_with_parts ?k_with_parts ?a_numbered ?l_numbered ?c_numbered ?k_numbered ?a_bound_in_parts ?l_bound_in_parts ?c_bound_in_parts ?k_bound_in_parts ?a_free_names ?l_free_names ?c_free_names ?k_free_names ?a_note_free_names ?l_note_free_names ?c_note_free_names ?k_note_free_names ?a_put_in ?l_put_in ?c_put_in ?k_put_in ?a_put_all_in ?l_put_all_in ?c_put_all_in ?k_put_all_in ?a_L_law_state ?l_L_law_state ?c_L_law_state ?k_L_law_state ?a_L_law_take ?l_L_law_take ?c_L_law_take ?k_L_law_take ?a_L_law_word ?l_L_law_word ?c_L_law_word ?k_L_law_word ?a_L_law_handle ?l_L_law_handle ?c_L_law_handle ?k_L_law_handle ?a_L_law_any ?l_L_law_any ?c_L_law_any ?k_L_law_any ?a_L_law_parts ?l_L_law_parts ?c_L_law_parts ?k_L_law_parts ?a_L_law_all ?l_L_law_all ?c_L_law_all ?k_L_law_all ?a_L_law_scopes ?l_L_law_scopes ?c_L_law_scopes ?k_L_law_scopes ?a_L_law_free ?l_L_law_free ?c_L_law_free ?k_L_law_free ?a_L_law_put ?l_L_law_put ?c_L_law_put ?k_L_law_put ?a_L_law_with ?l_L_law_with ?c_L_law_with ?k_L_law_with ?a_law ?l_law ?c_law ?k_law ?z_len ?z_range ?z_list ?z_tuple ?z_zip ?z_sorted ?z_abs ?z_int ?z_repr ?gF ?DF ?KF ?dF_num ?dF_flag ?dF_unit ?dF_name ?dF_call ?dF_fun ?dF_rec ?dF_let ?dF_if ?dF_pair ?dF_fst ?dF_snd ?dF_op ?dF_not ?dF_print ?dF_ask ?dF_kept ?dF_known
    (case a_parts => k_is)
    (case l_parts => k_is)
    (case c_parts => k_is)
    (case k_parts => k_is)
    (case a_with_parts => k_is)
    (case l_with_parts => k_is)
    (case c_with_parts => k_is)
    (case k_with_parts => k_is)
    (case a_numbered => k_is)
    (case l_numbered => k_is)
    (case c_numbered => k_is)
    (case k_numbered => k_is)
    (case a_bound_in_parts => k_is)
    (case l_bound_in_parts => k_is)
    (case c_bound_in_parts => k_is)
    (case k_bound_in_parts => k_is)
    (case a_free_names => k_is)
    (case l_free_names => k_is)
    (case c_free_names => k_is)
    (case k_free_names => k_is)
    (case a_note_free_names => k_is)
    (case l_note_free_names => k_is)
    (case c_note_free_names => k_is)
    (case k_note_free_names => k_is)
    (case a_put_in => k_is)
    (case l_put_in => k_is)
    (case c_put_in => k_is)
    (case k_put_in => k_is)
    (case a_put_all_in => k_is)
    (case l_put_all_in => k_is)
    (case c_put_all_in => k_is)
    (case k_put_all_in => k_is)
    (case a_L_law_state => k_is)
    (case l_L_law_state => k_is)
    (case c_L_law_state => k_is)
    (case k_L_law_state => k_is)
    (case a_L_law_take => k_is)
    (case l_L_law_take => k_is)
    (case c_L_law_take => k_is)
    (case k_L_law_take => k_is)
    (case a_L_law_word => k_is)
    (case l_L_law_word => k_is)
    (case c_L_law_word => k_is)
    (case k_L_law_word => k_is)
    (case a_L_law_handle => k_is)
    (case l_L_law_handle => k_is)
    (case c_L_law_handle => k_is)
    (case k_L_law_handle => k_is)
    (case a_L_law_any => k_is)
    (case l_L_law_any => k_is)
    (case c_L_law_any => k_is)
    (case k_L_law_any => k_is)
    (case a_L_law_parts => k_is)
    (case l_L_law_parts => k_is)
    (case c_L_law_parts => k_is)
    (case k_L_law_parts => k_is)
    (case a_L_law_all => k_is)
    (case l_L_law_all => k_is)
    (case c_L_law_all => k_is)
    (case k_L_law_all => k_is)
    (case a_L_law_scopes => k_is)
    (case l_L_law_scopes => k_is)
    (case c_L_law_scopes => k_is)
    (case k_L_law_scopes => k_is)
    (case a_L_law_free => k_is)
    (case l_L_law_free => k_is)
    (case c_L_law_free => k_is)
    (case k_L_law_free => k_is)
    (case a_L_law_put => k_is)
    (case l_L_law_put => k_is)
    (case c_L_law_put => k_is)
    (case k_L_law_put => k_is)
    (case a_L_law_with => k_is)
    (case l_L_law_with => k_is)
    (case c_L_law_with => k_is)
    (case k_L_law_with => k_is)
    (case a_law => k_is)
    (case l_law => k_is)
    (case c_law => k_is)
    (case k_law => k_is)
    (case z_len => k_is)
    (case z_range => k_is)
    (case z_list => k_is)
    (case z_tuple => k_is)
    (case z_zip => k_is)
    (case z_sorted => k_is)
    (case z_abs => k_is)
    (case z_int => k_is)
    (case z_repr => k_is)
    (case gF => k_is)
    (case DF => k_is)
    (case KF => (repeat' first | exact True.intro | refine ⟨⟨_, _, rfl, rfl⟩, ?_⟩))
    (case dF_num => k_is)
    (case dF_flag => k_is)
    (case dF_unit => k_is)
    (case dF_name => k_is)
    (case dF_call => k_is)
    (case dF_fun => k_is)
    (case dF_rec => k_is)
    (case dF_let => k_is)
    (case dF_if => k_is)
    (case dF_pair => k_is)
    (case dF_fst => k_is)
    (case dF_snd => k_is)
    (case dF_op => k_is)
    (case dF_not => k_is)
    (case dF_print => k_is)
    (case dF_ask => k_is)
    (case dF_kept => k_is)
    (case dF_known => k_is)

