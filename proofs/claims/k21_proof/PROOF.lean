import PyProof.Rows.All
import Wide.All
import OpenK.AllK
import Wide.FinOn
import HandS.ForMost
import HandS.SetKeys
import HandS.More
import HandS.Conv
import HandS.Wide
import HandS.EndBits
import HandS.IsInst
import HandS.Flow
import HandS.NoneIn
import HandS.Star
import HandS.ClsMeth
import HandS.DictComp
import HandS.CallLocal
import HandS.Zip
import HandS.Codes
import KE.KUnpackStar
import KE.GoesMore
import HandS.Walk
import PyProof.DictUpdate
import PyProof.Tail
import PySem.Challenge.RW_askedfor_k21_pieces_of_nested_handlers
import HandS.Rev
import HandS.TupAny
set_option Elab.async false
set_option linter.all false
set_option maxRecDepth 100000
set_option maxHeartbeats 4000000
namespace Bz
open PySem PySem.Spec L2 PyProof.Rows
/-! ### made data: what is never changed once it stands -/
inductive D where
  | non
  | bl (b : Bool)
  | int (n : Int)
  | str (s : Str)
  | tup (l : List D)
  | lst (l : List D)
  | dct (ks : List Str) (l : List D)
/-- the pairs of a dict with text keys -/
def kz (ks : List Str) (vs : List V) : List (Key × V) := (ks.zip vs).map fun p => ((Sum.inr p.1 : Key), p.2)
mutual
def At (R : Hp) : D → V → Prop
  | .non, v => v = .non
  | .bl b, v => v = .bl b
  | .int n, v => v = .int n
  | .str s, v => v = .str s
  | .tup l, v => ∃ p vs, v = .ref p ∧ R p = some (.tup vs) ∧ Ats R l vs
  | .lst l, v => ∃ p vs, v = .ref p ∧ R p = some (.lst vs) ∧ Ats R l vs
  | .dct ks l, v => ∃ p vs, v = .ref p ∧ R p = some (.dK (kz ks vs)) ∧ Ats R l vs ∧ ks.length = l.length ∧ ks.Nodup
def Ats (R : Hp) : List D → List V → Prop
  | [], vs => vs = []
  | d :: l, vs => ∃ v r, vs = v :: r ∧ At R d v ∧ Ats R l r
end
mutual
theorem At.up {R R' : Hp} (s : Same R R') : ∀ {d : D} {v : V}, At R d v → At R' d v
  | .non, _, h => h
  | .bl _, _, h => h
  | .int _, _, h => h
  | .str _, _, h => h
  | .tup l, _, ⟨p, vs, e, h, a⟩ => ⟨p, vs, e, s _ _ h, Ats.up s (l := l) a⟩
  | .lst l, _, ⟨p, vs, e, h, a⟩ => ⟨p, vs, e, s _ _ h, Ats.up s (l := l) a⟩
  | .dct _ l, _, ⟨p, vs, e, h, a, k⟩ => ⟨p, vs, e, s _ _ h, Ats.up s (l := l) a, k⟩
theorem Ats.up {R R' : Hp} (s : Same R R') : ∀ {l : List D} {vs : List V}, Ats R l vs → Ats R' l vs
  | [], _, h => h
  | d :: l, _, ⟨v, r, e, h, a⟩ => ⟨v, r, e, At.up s (d := d) h, Ats.up s (l := l) a⟩
end
theorem Ats.length {R : Hp} : ∀ {l : List D} {vs : List V}, Ats R l vs → vs.length = l.length
  | [], _, h => by rw [show _ = ([] : List V) from h]; rfl
  | _ :: l, _, ⟨v, r, e, _, a⟩ => by rw [e, List.length_cons, List.length_cons, Ats.length (l := l) a]
theorem Ats.get {R : Hp} : ∀ {l : List D} {vs : List V} {i : Nat} {d : D}, Ats R l vs → l[i]? = some d → ∃ v, vs[i]? = some v ∧ At R d v
  | [], _, _, _, _, h => by simp at h
  | e :: l, _, 0, d, ⟨v, r, q, h, _⟩, hi => by
    cases (show e = d from Option.some.inj hi)
    exact ⟨v, by rw [q]; rfl, h⟩
  | _ :: l, _, i + 1, d, ⟨v, r, q, _, a⟩, hi => by
    obtain ⟨w, hw, h⟩ := Ats.get (l := l) (i := i) (d := d) a (by simpa using hi)
    exact ⟨w, by rw [q]; simpa using hw, h⟩
theorem Ats.append {R : Hp} : ∀ {l m : List D} {vs ws : List V}, Ats R l vs → Ats R m ws → Ats R (l ++ m) (vs ++ ws)
  | [], _, _, _, h, k => by rw [show _ = ([] : List V) from h]; exact k
  | d :: l, m, _, ws, ⟨v, r, e, h, a⟩, k => ⟨v, r ++ ws, by rw [e]; rfl, h, Ats.append (l := l) a k⟩
theorem Ats.one {R : Hp} {d : D} {v : V} (h : At R d v) : Ats R [d] [v] := ⟨v, [], rfl, h, rfl⟩
theorem Ats.drop {R : Hp} : ∀ (n : Nat) {l : List D} {vs : List V}, Ats R l vs → Ats R (l.drop n) (vs.drop n)
  | 0, _, _, h => h
  | n + 1, [], _, h => by rw [show _ = ([] : List V) from h]; exact rfl
  | n + 1, d :: l, _, ⟨v, r, e, _, a⟩ => by rw [e]; exact Ats.drop n (l := l) a
theorem Ats.take {R : Hp} : ∀ (n : Nat) {l : List D} {vs : List V}, Ats R l vs → Ats R (l.take n) (vs.take n)
  | 0, _, _, h => rfl
  | n + 1, [], _, h => by rw [show _ = ([] : List V) from h]; exact rfl
  | n + 1, d :: l, _, ⟨v, r, e, h, a⟩ => by rw [e]; exact ⟨v, r.take n, rfl, h, Ats.take n (l := l) a⟩
theorem Ats.split {R : Hp} : ∀ {l m : List D} {vs : List V}, Ats R (l ++ m) vs → ∃ a b, vs = a ++ b ∧ Ats R l a ∧ Ats R m b
  | [], _, vs, h => ⟨[], vs, rfl, rfl, h⟩
  | d :: l, m, _, ⟨v, r, e, h, a⟩ => by
    obtain ⟨x, y, e2, h1, h2⟩ := Ats.split (l := l) (m := m) a
    exact ⟨v :: x, y, by rw [e, e2]; rfl, ⟨v, x, rfl, h, h1⟩, h2⟩
/-! ### how a heap and its still part grow -/
structure Mv (F : Addr → Prop) (R H R' H' : Hp) : Prop where
  keep : ∀ a o, H a = some o → ¬ F a → H' a = some o
  dom : ∀ a o, H a = some o → ∃ o', H' a = some o'
  up : Same R R'
  sub : Same R' H'
  new : ∀ a o, R' a = some o → R a = some o ∨ H a = none
abbrev F0 : Addr → Prop := fun _ => False
theorem Mv.refl {F : Addr → Prop} {R H : Hp} (s : Same R H) : Mv F R H R H := ⟨fun _ _ h _ => h, fun _ o h => ⟨o, h⟩, .refl _, s, fun _ _ h => .inl h⟩
theorem Mv.free {F : Addr → Prop} {R H R' H' : Hp} (m : Mv F R H R' H') {x : Addr} (h : H' x = none) : H x = none := by
  cases e : H x with
  | none => rfl
  | some o =>
    obtain ⟨o', h'⟩ := m.dom x o e
    rw [h'] at h
    cases h
theorem Mv.trans {F F1 F2 : Addr → Prop} {R H R1 H1 R2 H2 : Hp} (a : Mv F R H R1 H1) (b : Mv F1 R1 H1 R2 H2) (h0 : ∀ x, F x → F2 x) (h1 : ∀ x, F1 x → F2 x ∨ H x = none) : Mv F2 R H R2 H2 where
  keep := fun x o h n => b.keep x o (a.keep x o h fun f => n (h0 x f)) fun f => (h1 x f).elim n fun e => by rw [h] at e; cases e
  dom := fun x o h => let ⟨o', h'⟩ := a.dom x o h; b.dom x o' h'
  up := a.up.trans b.up
  sub := b.sub
  new := fun x o h => (b.new x o h).elim (fun h => a.new x o h) fun h => .inr (a.free h)
theorem Mv.tr {F : Addr → Prop} {R H R1 H1 R2 H2 : Hp} (a : Mv F R H R1 H1) (b : Mv F R1 H1 R2 H2) : Mv F R H R2 H2 := a.trans b (fun _ f => f) fun _ f => .inl f
theorem Mv.tr0 {F : Addr → Prop} {R H R1 H1 R2 H2 : Hp} (a : Mv F R H R1 H1) (b : Mv F0 R1 H1 R2 H2) : Mv F R H R2 H2 := a.trans b (fun _ f => f) fun _ f => f.elim
theorem Mv.mono {F F1 : Addr → Prop} {R H R1 H1 : Hp} (a : Mv F R H R1 H1) (h : ∀ x, F x → F1 x) : Mv F1 R H R1 H1 := ⟨fun x o e n => a.keep x o e fun f => n (h x f), a.dom, a.up, a.sub, a.new⟩
theorem Mv.same {R H R1 H1 : Hp} (a : Mv F0 R H R1 H1) : Same H H1 := fun x o h => a.keep x o h fun f => f
/-- outside of the still part: it stays so -/
theorem Mv.out {F : Addr → Prop} {R H R' H' : Hp} (m : Mv F R H R' H') {a : Addr} {o : HO} (h : R a = none) (e : H a = some o) : R' a = none := by
  cases q : R' a with
  | none => rfl
  | some u => rcases m.new a u q with z | z
              · rw [h] at z; cases z
              · rw [e] at z; cases z
theorem same_new {H : Hp} {p : Addr} {o : HO} (h : H p = none) : Same H (upd H p o) := fun b x e => by
  rw [upd_ne (ne_of_none e h)]
  exact e
/-- a new thing that will stand still -/
theorem mv_new {F : Addr → Prop} {R H : Hp} {p : Addr} {o : HO} (s : Same R H) (h : H p = none) : Mv F R H (upd R p o) (upd H p o) where
  keep := fun b x e _ => same_new h b x e
  dom := fun b x e => ⟨x, same_new h b x e⟩
  up := same_new (s.free h)
  sub := fun b x e => by
    by_cases q : b = p
    · subst q
      rw [upd_same] at e ⊢
      exact e
    · rw [upd_ne q] at e ⊢
      exact s b x e
  new := fun b x e => by
    by_cases q : b = p
    · subst q; exact .inr h
    · rw [upd_ne q] at e; exact .inl e
/-- a new thing that may change -/
theorem mv_mut {F : Addr → Prop} {R H : Hp} {p : Addr} {o : HO} (s : Same R H) (h : H p = none) : Mv F R H R (upd H p o) where
  keep := fun b x e _ => same_new h b x e
  dom := fun b x e => ⟨x, same_new h b x e⟩
  up := .refl _
  sub := fun b x e => same_new h b x (s b x e)
  new := fun b x e => .inl e
/-- a change of what is not still -/
theorem mv_at {F : Addr → Prop} {R H : Hp} {p : Addr} {o u : HO} (s : Same R H) (n : R p = none) (h : H p = some u) (hF : F p) : Mv F R H R (upd H p o) where
  keep := fun b x e f => by
    rw [upd_ne fun q => f (by rw [q]; exact hF)]
    exact e
  dom := fun b x e => by
    by_cases q : b = p
    · exact ⟨o, by rw [q, upd_same]⟩
    · exact ⟨x, by rw [upd_ne q]; exact e⟩
  up := .refl _
  sub := fun b x e => by
    rw [upd_ne (ne_of_none e n)]
    exact s b x e
  new := fun b x e => .inl e
theorem At.tup {R : Hp} {p : Addr} {vs : List V} {l : List D} (h : R p = some (.tup vs)) (a : Ats R l vs) : At R (.tup l) (.ref p) := ⟨p, vs, rfl, h, a⟩
theorem At.lst {R : Hp} {p : Addr} {vs : List V} {l : List D} (h : R p = some (.lst vs)) (a : Ats R l vs) : At R (.lst l) (.ref p) := ⟨p, vs, rfl, h, a⟩
/-- a new tuple of still things -/
theorem At.ntup {R H : Hp} {p : Addr} {vs : List V} {l : List D} (s : Same R H) (h : H p = none) (a : Ats R l vs) : At (upd R p (.tup vs)) (.tup l) (.ref p) := ⟨p, vs, rfl, upd_same, a.up (same_new (s.free h))⟩
theorem At.nlst {R H : Hp} {p : Addr} {vs : List V} {l : List D} (s : Same R H) (h : H p = none) (a : Ats R l vs) : At (upd R p (.lst vs)) (.lst l) (.ref p) := ⟨p, vs, rfl, upd_same, a.up (same_new (s.free h))⟩
/-! ### as data that is compared -/
mutual
def D.py : D → PyData
  | .non => .none
  | .bl b => .bool b
  | .int n => .int n
  | .str s => .str s
  | .tup l => .tuple (pys l)
  | .lst l => .list (pys l)
  | .dct _ _ => .none
def pys : List D → List PyData
  | [] => []
  | d :: l => d.py :: pys l
end
mutual
def D.flat : D → Bool
  | .dct _ _ => false
  | .tup l => flats l
  | .lst l => flats l
  | _ => true
def flats : List D → Bool
  | [] => true
  | d :: l => d.flat && flats l
end
mutual
theorem At.dp {K : PySem.W.Frag} {R H : Hp} (s : Same R H) : ∀ {d : D} {v : V}, d.flat = true → At R d v → Dp K H v d.py
  | .non, _, _, h => by rw [show _ = V.non from h]; exact .non
  | .bl b, _, _, h => by rw [show _ = V.bl b from h]; exact .bl b
  | .int n, _, _, h => by rw [show _ = V.int n from h]; exact .int n
  | .str x, _, _, h => by rw [show _ = V.str x from h]; exact .str x
  | .tup l, _, f, ⟨p, vs, e, h, a⟩ => by rw [e]; exact .tup (SqT.of (s _ _ h)) (Ats.dp s (l := l) f a)
  | .lst l, _, f, ⟨p, vs, e, h, a⟩ => by rw [e]; exact .lst (SqL.of (s _ _ h)) (Ats.dp s (l := l) f a)
  | .dct _ _, _, f, _ => by cases f
theorem Ats.dp {K : PySem.W.Frag} {R H : Hp} (s : Same R H) : ∀ {l : List D} {vs : List V}, flats l = true → Ats R l vs → DpAll K H vs (pys l)
  | [], _, _, h => by rw [show _ = ([] : List V) from h]; exact .nil
  | d :: l, _, f, ⟨v, r, e, h, a⟩ => by
    have f2 : (d.flat && flats l) = true := f
    rw [Bool.and_eq_true] at f2
    rw [e]
    exact .cons (At.dp s (d := d) f2.1 h) (Ats.dp s (l := l) f2.2 a)
end
end Bz


set_option Elab.async false
set_option linter.all false
set_option maxRecDepth 100000
set_option maxHeartbeats 4000000
namespace Bz
open PySem PySem.Spec L2 PyProof.Rows
/-! ### del xs[a:] -/
theorem kept_eq {α : Type} (a : Nat) : ∀ (l : List α) (k n : Nat), n = k + l.length → (l.zipIdx k).filterMap (fun p => if (decide ((a : Int) ≤ (p.2 : Int)) && decide ((p.2 : Int) < (n : Int)) && (((p.2 : Int) - a) % 1 == 0)) = true then none else some p.1) = l.take (a - k)
  | [], k, n, _ => by simp
  | x :: r, k, n, h => by
    have ih := kept_eq a r (k + 1) n (by rw [h, List.length_cons]; omega)
    rw [List.zipIdx_cons, List.filterMap_cons]
    have hk : k < n := by rw [h, List.length_cons]; omega
    have h1 : ((((k : Nat) : Int) - a) % 1 == 0) = true := by
      rw [Int.emod_one]; rfl
    dsimp only
    rw [h1, Bool.and_true]
    by_cases c : a ≤ k
    · rw [if_pos (by simp; omega), ih, show a - (k + 1) = 0 by omega, show a - k = 0 by omega]
      rfl
    · rw [if_neg (by simp; omega), ih, show a - k = (a - (k + 1)) + 1 by omega]
      rfl
theorem bounds_from {a n : Nat} (h : a ≤ n) : sliceBounds (some (a : Int)) none none n = ((a : Int), (n : Int), 1) := by
  simp only [sliceBounds, Option.getD_none]
  have h1 : ¬ ((a : Int) < 0) := by omega
  simp only [h1, if_false, show (1 : Int) > 0 by decide, if_true]
  congr 1
  omega
section
variable {prog : Program} {w : World} {A : Around} {E : Value → Shared → Prop} {s : Shared}
set_option maxRecDepth 100000 in
theorem delItem_from {l sl : Addr} {items : Array Value} {n : Nat} {vl : Value} {a : Nat} {Q : Unit → Shared → Prop}
    (e : s.heap.get? l = some { cls := .type "list", data := .seq items n }) (hs : s.heap.IsSliceOf sl vl .none .none) (pl : IsPart vl (some (a : Int))) (ha : a ≤ items.size)
    (hsz : items.size ≤ sizeLine) (h : ∀ f : Array Value → Array Value, f items = (items.toList.take a).toArray → Q () { s with heap := s.heap.update l (Obj.mapSeq f) }) :
    wpAny (model prog w) A (delItem (.ref l) (.ref sl)) Q E s := by
  have hl : s.heap.IsList l items := PySem.IsL.isList e
  obtain ⟨os, hos, hcs, hds⟩ := id hs
  have hTs : s.TypeIs (.ref sl) "slice" := ⟨os, hos, hcs⟩
  have hstep : ¬ ((rawPart none == rawInt 0) = true) := Bool.false_ne_true
  have hz' : ((fun xs : Array Value => (xs.toList.take a).toArray) items).size ≤ sizeLine + 1 := by
    simp only [List.size_toArray, List.length_take, Array.length_toList]
    omega
  unfold delItem
  try with_reducible refine wpAny_holding ?_
  refine wpAny_bind (wpAny_sequenceKey hl.typeIs (by decide) ?_)
  refine wpAny_bind (wpAny_callSpecial?_slot (name := Str.ofString "__delitem__") hl.typeIs PySem.F.slot_list_delitem
    (wpAny_call_entry PySem.F.slot_list_delitem hl.typeIs PySem.F.entry_list_delitem ?_ (PySem.F.args_list_delitem_2 _ _)))
  show wpAny _ _ (Builtin.List.listSubscript? (.ref sl) >>= _) _ _ s
  refine wpAny_bind ?_
  unfold Builtin.List.listSubscript?
  refine wpAny_bind (wpAny_specialOf hTs slice_no_index ?_)
  simp only [Option.isNone_none, if_true]
  refine wpAny_pure ?_
  show wpAny _ _ (typeOf (.ref sl) >>= _) _ _ s
  refine wpAny_bind (wpAny_typeOf hTs ?_)
  first
    | rw [if_neg (by decide)]
    | refine PySem.W.KFB.if_not (by decide) ?_
  rw [listSliceParts_eq]
  refine wpAny_bind (wpAny_bind (wpAny_field hos hds (x := .none) rfl (wpAny_bind (wpAny_listPart .none ?_))))
  rw [if_neg hstep]
  refine wpAny_bind (wpAny_field hos hds (x := vl) rfl (wpAny_bind (wpAny_listPart pl ?_)))
  refine wpAny_bind (wpAny_field hos hds (x := .none) rfl (wpAny_bind (wpAny_listPart .none (wpAny_pure ?_))))
  unfold Builtin.List.listItems
  refine wpAny_bind (wpAny_bind (wpAny_seqItems e rfl (wpAny_pure ?_)))
  refine wpAny_bind (wpAny_of_eq ((sliceIndices_raw (some (a : Int)) none none items.size (by simp)).trans (congrArg (pure : Int × Int × Int → Sem (Int × Int × Int)) (bounds_from ha))) ?_)
  refine wpAny_bind (wpAny_rule ?_)
  have ef : (fun xs : Array Value => (xs.toList.zipIdx.filterMap fun (p : Value × Nat) => if (decide ((a : Int) ≤ (p.2 : Int)) && decide ((p.2 : Int) < (items.size : Int)) && (((p.2 : Int) - a) % 1 == 0)) = true then none else some p.1).toArray) items = (items.toList.take a).toArray := by
    show (List.filterMap _ (items.toList.zipIdx 0)).toArray = _
    rw [kept_eq a items.toList 0 items.size (by simp)]
    rfl
  show wpAny _ _ (updateSeq l (fun xs : Array Value => (xs.toList.zipIdx.filterMap fun (p : Value × Nat) => if (decide ((a : Int) ≤ (p.2 : Int)) && decide ((p.2 : Int) < (items.size : Int)) && (((p.2 : Int) - a) % 1 == 0)) = true then none else some p.1).toArray) >>= _) _ _ s
  refine wpAny_bind (wpAny_updateSeq (hz := hsz) (_hz' := by rw [show (List.filterMap _ items.toList.zipIdx).toArray = (items.toList.take a).toArray from ef]; exact hz') e rfl ?_)
  refine wpAny_bind (wpAny_letGo ?_)
  first
    | exact wpAny_bind (wpAny_pure (wpAny_pure ⟨.none, rfl, wpAny_pure (h _ ef)⟩))
    | exact wpAny_pure ⟨.none, rfl, wpAny_pure (h _ ef)⟩
end
section
variable {X : Cx}
/-- del o[a:] -/
def sDelFrom (to : TE) (ti : TO) : TS := fun D σ H => to σ H fun x H1 => ti σ H1 fun y H2 => ∃ (l : Addr) (xs : List V) (a : Nat), x = .ref l ∧ y = some (a : Int) ∧ H2 l = some (.lst xs) ∧ a ≤ xs.length ∧ D.nx σ (upd H2 l (.lst (xs.take a)))
theorem ps_delFrom {o : Expr} {i : Option Expr} {to : TE} {ti : TO} {tpos p2 pos : Pos} (ho : PE X o to) (hi : PO X i ti) : PS X (.Delete [.Subscript o (.Slice i none none p2) tpos] pos) (sDelFrom to ti) := by
  refine ⟨fun pins s σ H D I h => ?_⟩
  refine wpAny_Delete (wpAny_deleteEach_cons (wpAny_delete_Subscript (thn (ho.run pins s σ H _ I h) fun u s1 ⟨x, H1, I1, rx, q1⟩ => ?_)))
  refine wpAny_Slice (thn (hi.run pins s1 σ H1 _ I1 q1) fun vl s2 ⟨y, H2, I2, pl, q2⟩ => ?_)
  rw [evalPart_none]
  refine wpAny_pure ?_
  refine wpAny_pure ?_
  have I3 : Inv X pins σ H2 { s2 with heap := s2.heap.push { cls := .type "slice", data := .fields #[vl, .none, .none] } } := I2.kept (t' := s2.toks) fun b ob q => Heap.get?_push_of_some _ q
  obtain ⟨l, xs, a, ex, ey, hH, ha, q2⟩ := q2
  subst ex
  subst ey
  cases (show u = Value.ref l from rx)
  obtain ⟨z, its, n, r, hl, e⟩ := I3.lstM hH
  refine delItem_from (a := a) e (Heap.IsSliceOf.new ..) pl (by rw [List.size_toArray]; omega) (by rw [List.size_toArray]; omega) fun f hf => ?_
  exact wpAny_deleteEach_nil ⟨σ, _, I3.lset (its' := its.take a) (t' := s2.toks) hH e hf (r.take a) (by rw [List.length_take]; omega), q2⟩
end
end Bz


set_option Elab.async false
set_option linter.all false
set_option maxRecDepth 100000
set_option maxHeartbeats 4000000
namespace Bz
open PySem PySem.Spec L2 PyProof.Rows
/-! ### a, b, *c = a list -/
section
variable {prog : Program} {w : World} {A : Around} {E : Value → Shared → Prop} {s : Shared}
theorem star_items {l : Addr} {items : Array Value} {i : Nat} {Q : List Value → Shared → Prop} (hl : s.heap.IsList l items) (hh : A.handled = none) (hi : i ≤ items.size) (hz : items.size ≤ 16384)
    (h : ∀ h' tk, Heap.ExtBut s.heap.objs.size s.heap h' → Q (items.toList.take i ++ [.ref h'.objs.size]) { s with heap := h'.push { cls := .type "list", data := .seq (items.toList.drop i).toArray }, toks := tk }) : wpAny (model prog w) A (unpackItems (.ref l) (i + 1) (some i)) Q E s := by
  have hlt : l ≠ s.heap.objs.size := by obtain ⟨o, ho, _⟩ := hl; exact Nat.ne_of_lt (Heap.lt_size ho)
  unfold unpackItems
  refine wpAny_bind ?_
  unfold notIterableAtAll
  refine wpAny_bind (wpAny_specialOf hl.typeIs slot_list_iter.lookup ?_)
  refine wpAny_pure ?_
  simp only [Bool.false_eq_true, if_false]
  refine wpAny_bind (wpAny_holding (wpAny_pyIter_list hl ?_))
  refine wpAny_bind (wpAny_holding (PySem.W.kun_draw hlt i 0 _ _ ⟨_, Heap.get?_push_size _ rfl, rfl, rfl⟩ (hl.push _) (by omega) fun h₁ hit₁ hs₁ => ?_))
  have hl₁ : h₁.IsList l items := (hl.push _).extBut hs₁.extBut hlt
  rw [Nat.zero_add] at hit₁
  have hit₁' := hit₁
  obtain ⟨oi, hoi, _⟩ := hit₁'
  have hl₁' := hl₁
  obtain ⟨ol, hol, _⟩ := hl₁'
  rw [List.drop_zero]
  have hfl : (items.toList.take i).length = i := by rw [List.length_take, Array.length_toList]; omega
  rw [if_neg (show ¬ ((items.toList.take i).length < i) by rw [hfl]; omega)]
  refine wpAny_bind (wpAny_holding (PySem.W.kun_collect (s := { s with heap := h₁ }) (T := "list_iterator") (.inr (.inr (.inl rfl))) (Walks.list (A := A.in1) hh s.heap.objs.size l hlt items) (fun j u st => st.1.typeIs) (k := i) (by omega) ⟨hit₁, hl₁⟩ (Heap.lt_size hoi) (Heap.lt_size hol) (fun h₂ tk hk => ?_) (by rw [sizeLine_eq]; omega)))
  have hrl : (items.toList.drop i).length = items.size - i := by rw [List.length_drop, Array.length_toList]
  have hmid : (items.toList.drop i).length - (i + 1 - 1 - i) = (items.toList.drop i).length := by omega
  show wpAny _ _ (if (items.toList.drop i).length < i + 1 - 1 - i then _ else _) _ _ _
  rw [if_neg (by rw [hrl]; omega)]
  show wpAny _ _ (newList ((items.toList.drop i).take ((items.toList.drop i).length - (i + 1 - 1 - i))) >>= fun d => pure (items.toList.take i ++ [d] ++ (items.toList.drop i).drop ((items.toList.drop i).length - (i + 1 - 1 - i)))) _ _ _
  rw [hmid, List.take_length, List.drop_length]
  have he : Heap.ExtBut s.heap.objs.size s.heap h₂ := fun b o hb e => hk b o hb (hs₁.extBut b o hb (Heap.get?_push_of_some _ e))
  refine wpAny_bind (wpAny_newList (s := { s with heap := h₂, toks := tk }) (wpAny_pure ?_) (by rw [hrl, sizeLine_eq]; omega))
  rw [List.append_nil]
  exact h h₂ tk he
end
section
variable {X : Cx} {pos : Pos}
def gUnlS (K : PySem.W.Frag) (n : Nat) (t : TGs) : TG := fun v σ H Q => ∃ a xs, v = .ref a ∧ SqL K H a xs ∧ n ≤ xs.length ∧ xs.length ≤ 16384 ∧ ∀ p, H p = none → t (xs.take n ++ [.ref p]) σ (upd H p (.lst (xs.drop n))) Q
theorem pgs_star {e : Expr} {es : List Expr} {t : TG} {u : TGs} {p : Pos} (h1 : PG X e t) (h2 : PGs X es u)
    (hs : (assignEach (.Starred e p :: es) X.env).map (·.2) = assign e X.env :: (assignEach es X.env).map (·.2) := by rfl) : PGs X (.Starred e p :: es) (gCons t u) := by
  refine ⟨fun pins s σ H vs us Q I r h => ?_⟩
  obtain ⟨v, vr, e1, h⟩ := h
  subst e1
  cases r with
  | cons r rr =>
    rw [hs]
    refine assignInOrder_cons (thn (h1.run pins s σ H _ _ _ I r h) fun _ s1 ⟨σ1, H1, I1, q1⟩ => ?_)
    exact h2.run pins s1 σ1 H1 _ _ Q I1 rr q1
theorem pg_unlS {es : List Expr} {k : Nat} {t : TGs} {n : Nat} (hc : X.calm = true) (h : PGs X es t)
    (hn : (assignEach es X.env).length = n + 1 := by rfl) (hst : (assignEach es X.env).findIdx? (·.1) = some n := by rfl) : PG X (.Tuple es k pos) (gUnlS X.K n t) := by
  refine ⟨fun pins s σ H v u Q I r hw => ?_⟩
  obtain ⟨a, xs, e1, hq, hl, hz, hw⟩ := hw
  subst e1
  cases r
  obtain ⟨its, rv, pl, _⟩ := I.list hq
  have hl' : s.heap.IsList a its.toArray := by
    obtain ⟨o, m, e, c, d, q⟩ := pl
    exact ⟨o, e, c, m, q⟩
  rw [PyProof.Rows.assign_Tuple]
  refine wpAny_bind (wpAny_standAt ?_)
  unfold unpack
  rw [hn, hst]
  refine wpAny_bind (wpAny_holding (star_items (hl' ) (I.ok.hd hc) (by rw [List.size_toArray, ← rv.length]; exact hl) (by rw [List.size_toArray, ← rv.length]; exact hz) fun h' tk hx => ?_))
  have I1 : Inv X pins σ H { s with heap := h', toks := tk } := I.kept (t' := tk) fun b o e => hx b o (Nat.ne_of_lt (Heap.lt_size e)) e
  have I2 := I1.lnew (t' := tk) (rv.drop n) (by rw [List.length_drop]; have : sizeLine = 16777216 := by decide
                                                omega)
  refine h.run pins _ σ _ (xs.take n ++ [.ref h'.objs.size]) _ Q I2 ?_ (hw _ I1.fresh)
  rw [show its.toArray.toList = its from rfl]
  exact (rv.take n).append (.cons rfl .nil)
/-! ### C.m(e, ..), m a def of the class at C -/
def tCallC (K : PySem.W.Frag) (f : Addr) (m : Str) (ta : TE) (sp : Sp) (E : XK) (t : TA) : TE := fun σ H Q => ta σ H fun x H1 => ∃ C mc, x = .ref C ∧ ClX.CRead K C mc ∧ ClX.CVal K C mc m (.ref f) (.ref f) ∧ t σ H1 fun vs H2 => sp vs H2 Q E
variable {CX : CXT} {k : Nat} {f : Addr} {fd : FuncData} {ps : List Str} {sp : Sp} {E : XK} {o e : Expr} {es : List Expr} {m : Str} {apos : Pos} {ta : TE} {t : TA} {pl : Sem Bool}
theorem pe_callC (he : PE X o ta) (F : FnOk X.prog X.w X.K X.mg X.base CX k f fd ps sp) (hr : Room k X.A) (hk : PySem.W.keepIn X.K (.ref f) = true) (hb : Binds X.K fd ps []) (hx : Passes CX X E) (ha : PA X (e :: es) t)
    (hst : starEach (e :: es) X.env = (false, eval e X.env) :: starEach es X.env := by rfl) (hpl : (backTo pos (starEach es X.env)).any (·.1) = false := by rfl)
    (ht : eval (.Call (.Attribute o m apos) (e :: es) [] pos) X.env = (do
      let ov ← eval o X.env
      standAt apos.atName
      let (f, first) ← holding [ov] (getMethod ov m pl)
      callWith pos f first (backTo pos (starEach (e :: es) X.env)) (backToKw pos (keywordEach [] X.env))) := by rfl) :
    PE X (.Call (.Attribute o m apos) (e :: es) [] pos) (tCallC X.K f m ta sp E t) := by
  refine ⟨fun pins s σ H Q I h => ?_⟩
  refine PySem.W.methodCall_KW (pl := pl) (thn (he.run pins s σ H _ I h) fun u s1 ⟨x, H1, I1, rx, C, mc, ex, r, cv, q⟩ => ?_) ht
  subst ex
  obtain rfl : u = Value.ref C := rx
  refine PySem.W.method_cls I1.kIn r.ga (ClX.getcval_ok I1 r cv fun s2 I2 => ?_)
  refine PySem.W.callWith_K (first := []) (h₀ := X.base) I2.ok.mod.kin hk (thn (ha.run pos pins s2 σ H1 _ I2 q) fun us s3 ⟨vs, H3, I3, r3, q3⟩ => ⟨I3.kIn, ?_⟩) hst hpl
  exact run_fn F hr hb .nil hx I3 r3 (by rw [List.append_nil]; exact q3)
end
end Bz


set_option Elab.async false
set_option linter.all false
set_option maxRecDepth 100000
set_option maxHeartbeats 4000000
namespace Bz
open PySem PySem.Spec L2 PyProof.Rows
/-! ### zip(a tuple, a list) -/
def ItzM (K : PySem.W.Frag) (a b : Addr) : It :=
  ⟨fun i H => ∃ (xs ys : List V) (x y : V), SqT K H a xs ∧ SqL K H b ys ∧ xs[i]? = some x ∧ ys[i]? = some y,
    fun i H v H' => ∃ T x y, v = .ref T ∧ H T = none ∧ H' = upd H T (.tup [x, y]) ∧ (∀ xs, SqT K H a xs → xs[i]? = some x) ∧ ∀ ys, SqL K H b ys → ys[i]? = some y,
    fun i H => ∃ xs ys : List V, SqT K H a xs ∧ SqL K H b ys ∧ xs.length = i ∧ ys.length = i⟩
def tnM (a b z T O j k : Addr) (i : Nat) (h : Heap) : Prop := IsZip h z T O .none ∧ IsTupOf2 h T (.ref j) (.ref k) ∧ (∃ x y, IsTupOf2 h O x y) ∧ h.IsTupleIter j a i ∧ h.IsListIter k b i
theorem sep_of {a b z T O j k : Addr} (D : ZipApart z T O j k a b) : ZipSep2 z T O j k [j, a] [k, b] where
  TIz := D.TIz
  TOz := D.TOz
  TITO := D.TITO
  TIi1 := D.TIi1
  mem1 := List.mem_cons_self ..
  zf1 := by
    intro m
    rcases List.mem_cons.mp m with e | e
    · exact D.i1z e.symm
    · exact D.l1z (List.mem_singleton.mp e).symm
  Tf1 := by
    intro m
    rcases List.mem_cons.mp m with e | e
    · exact D.TOi1 e
    · exact D.l1TO (List.mem_singleton.mp e).symm
  TIi2 := D.TIi2
  mem2 := List.mem_cons_self ..
  zf2 := by
    intro m
    rcases List.mem_cons.mp m with e | e
    · exact D.i2z e.symm
    · exact D.l2z (List.mem_singleton.mp e).symm
  Tf2 := by
    intro m
    rcases List.mem_cons.mp m with e | e
    · exact D.TOi2 e
    · exact D.l2TO (List.mem_singleton.mp e).symm
  sep1_2 := by
    intro m
    rcases List.mem_cons.mp m with e | e
    · exact D.i12 e
    · exact D.l2i1 (List.mem_singleton.mp e).symm
  sep2_1 := by
    intro m
    rcases List.mem_cons.mp m with e | e
    · exact D.i12 e.symm
    · exact D.l1i2 (List.mem_singleton.mp e).symm
theorem five {z T O j k c : Addr} (h : c ∈ [z, T, O, j, k]) : c = z ∨ c = T ∨ c = O ∨ c = j ∨ c = k := by simpa using h
theorem turn_zipM {P : Program} {w : World} {K : PySem.W.Frag} {elts : List Expr} {kk : Nat} {tpos : Pos} {a b z T O j k : Addr} (D : ZipApart z T O j k a b) :
    Turn P w K (.Tuple elts kk tpos) (ItzM K a b) [z, T, O, j, k] z (tnM a b z T O j k) where
  mem := List.mem_cons_self ..
  obj := fun i h st c m => by
    obtain ⟨gz, gT, ⟨_, _, gO⟩, ⟨u1, e1, _, d1⟩, ⟨u2, e2, _, d2⟩⟩ := st
    rcases five m with rfl | rfl | rfl | rfl | rfl
    · exact ⟨_, gz, fun _ q => nomatch q⟩
    · exact ⟨_, gT, fun _ q => nomatch q⟩
    · exact ⟨_, gO, fun _ q => nomatch q⟩
    · exact ⟨u1, e1, fun _ q => by rw [d1] at q; cases q⟩
    · exact ⟨u2, e2, fun _ q => by rw [d2] at q; cases q⟩
  keep := fun i h h' st kp => by
    obtain ⟨gz, gT, ⟨x, y, gO⟩, g1, g2⟩ := st
    have m : ∀ c, (c = z ∨ c = T ∨ c = O ∨ c = j ∨ c = k) → c ∈ [z, T, O, j, k] := fun c q => by simpa using q
    exact ⟨kp z (m _ (.inl rfl)) _ gz, kp T (m _ (.inr (.inl rfl))) _ gT, ⟨x, y, kp O (m _ (.inr (.inr (.inl rfl)))) _ gO⟩, g1.at fun o q => kp j (m _ (.inr (.inr (.inr (.inl rfl))))) o q, g2.at fun o q => kp k (m _ (.inr (.inr (.inr (.inr rfl))))) o q⟩
  item := by
    intro X eP ew eK hc i pins s σ H E I free st go
    subst eP ew eK
    obtain ⟨gz, gT, ⟨x0, y0, gO⟩, g1, g2⟩ := st
    obtain ⟨xs, ys, x, y, qx, qy, hx, hy⟩ := go
    obtain ⟨us, r1, p1, _⟩ := I.tuple qx
    obtain ⟨vs, r2, p2, _⟩ := I.list qy
    obtain ⟨u, hu, ru⟩ := r1.get hx
    obtain ⟨v, hv, rv⟩ := r2.get hy
    have lu : i < us.toArray.size := by rw [List.size_toArray]; exact (List.getElem?_eq_some_iff.mp hu).1
    have lv : i < vs.toArray.size := by rw [List.size_toArray]; exact (List.getElem?_eq_some_iff.mp hv).1
    have lz : z < s.heap.objs.size := Heap.lt_size gz
    refine wpAny_pyNext_zipD2_item (sep_of D) (Draws.tuple (A := X.A.in1) (I.ok.hd hc) j a D.l1i1 us.toArray) (Draws.list (A := X.A.in1) (I.ok.hd hc) k b D.l2i2 vs.toArray) gz gT gO ⟨g1, p1⟩ ⟨g2, p2.isList⟩ lu lv fun u' v' h1 tk eu ev nz nO n1 n2 nT sz kp => ?_
    obtain rfl : u = u' := by
      have q : us.toArray[i]? = some u' := eu
      rw [List.getElem?_toArray, hu] at q
      exact Option.some.inj q
    obtain rfl : v = v' := by
      have q : vs.toArray[i]? = some v' := ev
      rw [List.getElem?_toArray, hv] at q
      exact Option.some.inj q
    refine ⟨_, rfl, wpAny_letOwnedTupleGo_zip (s := { s with heap := h1, toks := tk }) nz fun h2 nz2 sb => ?_⟩
    have nT2 : h2.get? s.heap.objs.size = some { cls := .type "tuple", data := .seq #[u, v] } := (sb.2 _ (Nat.ne_of_gt lz)).trans nT
    have ok : ObjOk X.prog X.w (upd H s.heap.objs.size (.tup [x, y])) h2 s.heap.objs.size (.tup [x, y]) := ⟨by show 2 ≤ sizeLine; decide, [u, v], .cons ru (.cons rv .nil), ⟨_, nT2, rfl, _, rfl⟩⟩
    have I1 : Inv X pins σ (upd H s.heap.objs.size (.tup [x, y])) { s with heap := h2, toks := tk } := by
      refine I.turnedNew (t' := tk) (ch := [z, T, O, j, k]) (fun c o n q => ?_) free (Nat.le_refl _) ok
      have nn : ∀ d, (d = z ∨ d = T ∨ d = O ∨ d = j ∨ d = k) → c ≠ d := fun d q e => n (by rw [e]; simpa using q)
      exact (sb.2 c (nn z (.inl rfl))).trans (kp c o (nn z (.inl rfl)) (nn O (.inr (.inr (.inl rfl)))) (nn j (.inr (.inr (.inr (.inl rfl))))) (nn k (.inr (.inr (.inr (.inr rfl))))) q)
    refine ⟨.ref s.heap.objs.size, _, I1, rfl, ⟨_, x, y, rfl, I.hok.fresh (Nat.le_refl _), rfl, fun l hl => by rw [I.tuple_inj hl qx]; exact hx, fun l hl => by rw [I.list_inj hl qy]; exact hy⟩,
      ⟨nz2, (sb.2 _ D.TIz).trans (kp _ _ D.TIz D.TITO D.TIi1 D.TIi2 gT), ⟨u, v, (sb.2 _ D.TOz).trans nO⟩, n1.1.at fun o q => (sb.2 _ D.i1z).trans q, n2.1.at fun o q => (sb.2 _ D.i2z).trans q⟩, fun c m => ?_⟩
    have lt : c < s.heap.objs.size := by
      rcases five m with rfl | rfl | rfl | rfl | rfl
      · exact lz
      · exact Heap.lt_size gT
      · exact Heap.lt_size gO
      · obtain ⟨_, e, _⟩ := g1; exact Heap.lt_size e
      · obtain ⟨_, e, _⟩ := g2; exact Heap.lt_size e
    rw [upd_ne (Nat.ne_of_lt lt)]
    exact (free c m).1
  done := by
    intro X eP ew eK hc i pins s σ H E I free st stop
    subst eP ew eK
    obtain ⟨gz, gT, ⟨x0, y0, gO⟩, g1, g2⟩ := st
    obtain ⟨xs, ys, qx, qy, lx, ly⟩ := stop
    obtain ⟨us, r1, p1, _⟩ := I.tuple qx
    obtain ⟨vs, r2, p2, _⟩ := I.list qy
    have lu : i = us.toArray.size := by rw [List.size_toArray, ← r1.length, lx]
    have lv : i = vs.toArray.size := by rw [List.size_toArray, ← r2.length, ly]
    refine wpAny_pyNext_zipD2_end (sep_of D) (Draws.tuple (A := X.A.in1) (I.ok.hd hc) j a D.l1i1 us.toArray) (Draws.list (A := X.A.in1) (I.ok.hd hc) k b D.l2i2 vs.toArray) gz gT gO (i := i) ⟨g1, p1⟩ ⟨g2, p2.isList⟩ (Nat.le_of_eq lu) (Nat.le_of_eq lv) (.inl lu) fun h1 tk kp => ⟨rfl, ?_⟩
    refine I.turnedL (t' := tk) (ch := [z, T, O, j, k]) (fun c o n q => ?_) free
    have nn : ∀ d, (d = z ∨ d = T ∨ d = O ∨ d = j ∨ d = k) → c ≠ d := fun d q e => n (by rw [e]; simpa using q)
    exact kp c o (nn z (.inl rfl)) (nn O (.inr (.inr (.inl rfl)))) (nn j (.inr (.inr (.inr (.inl rfl))))) (nn k (.inr (.inr (.inr (.inr rfl))))) q
  self := fun A i s Q E st h => wpAny_pyIter_zip st.1 h
def iZipM (K : PySem.W.Frag) (ta : TA) : TI := fun σ H R => ta σ H fun vs H1 => ∃ a b xs ys, vs = [.ref a, .ref b] ∧ SqT K H1 a xs ∧ SqL K H1 b ys ∧ R (ItzM K a b) H1
theorem pi_zipM {X : Cx} {e e2 : Expr} {ta : TA} {p pos tpos : Pos} {elts : List Expr} {kk : Nat} (hg : Gl X "zip") (hm : X.mg "zip" = none) (ha : PA X [e, e2] ta)
    (hs : starEach [e, e2] X.env = (false, eval e X.env) :: starEach [e2] X.env := by rfl) (hpl : (backTo pos (starEach [e2] X.env)).any (·.1) = false := by rfl) :
    PI X (.Tuple elts kk tpos) (.Call (.Name "zip" p) [e, e2] [] pos) (iZipM X.K ta) := by
  refine ⟨fun pins s σ H R I h => ?_⟩
  refine Call_ (ld_blt I hg hm PyProof.Rows.boot_zip (PyProof.Rows.callWith_type1 (thn (ha.run pos pins s σ H _ I h) fun us s1 ⟨vs, H1, I1, r1, a, b, xs, ys, ex, qx, qy, q⟩ => ?_) hs hpl))
  subst ex
  cases r1 with
  | cons ra rr =>
  cases rr with
  | cons rb rr =>
  cases rr
  cases ra
  cases rb
  obtain ⟨us, v1, p1, _⟩ := I1.tuple qx
  obtain ⟨vs, v2, p2, _⟩ := I1.list qy
  obtain ⟨o1, e1, _⟩ := id p1
  refine zip_begins2 (begins_tuple a us.toArray) (begins_list b vs.toArray) (show s1.heap.IsTuple a us.toArray from p1) p2.isList fun h1 nz nT nO n1 n2 sz kp => wpAny_pyIter_zip nz ?_
  have I2 : Inv X pins σ H1 { s1 with heap := h1 } := I1.kept (t' := s1.toks) kp
  refine ⟨s1.heap.objs.size + 4, [s1.heap.objs.size + 4, s1.heap.objs.size + 2, s1.heap.objs.size + 3, s1.heap.objs.size, s1.heap.objs.size + 1], _, _, H1, rfl, I2, turn_zipM (PySem.W.ktu_apart s1.heap.objs.size a b (Heap.lt_size e1) p2.lt), ⟨nz, nT, ⟨_, _, nO⟩, ⟨_, n1, rfl, rfl⟩, ⟨_, n2, rfl, rfl⟩⟩, fun c m => ?_, q⟩
  have le : s1.heap.objs.size ≤ c := by
    rcases five m with rfl | rfl | rfl | rfl | rfl <;> omega
  exact I1.fpOk le (I1.hok.fresh le)
theorem walk_zipM {K : PySem.W.Frag} {a b : Addr} {xs ys : List V} (hl : xs.length = ys.length) : Walk (ItzM K a b) xs.length (fun H => SqT K H a xs ∧ SqL K H b ys) (YPair (fun i => xs[i]?) (fun i => ys[i]?)) where
  goes := fun i H hi q => ⟨xs, ys, xs[i], ys[i], q.1, q.2, by simp [hi], by simp [show i < ys.length by omega]⟩
  stops := fun H q => ⟨xs, ys, q.1, q.2, rfl, hl.symm⟩
  yields := fun i H v H' hi q y => by
    obtain ⟨T, x, y, e, n, eH, f, g⟩ := y
    exact ⟨T, x, y, e, n, eH, f xs q.1, g ys q.2⟩
end Bz


set_option Elab.async false
set_option linter.all false
set_option maxRecDepth 100000
set_option maxHeartbeats 4000000
namespace Bz
open PySem PySem.Spec L2 PyProof.Rows
theorem at_int {R : Hp} {n : Int} : At R (.int n) (.int n) := rfl
theorem at_bl {R : Hp} {b : Bool} : At R (.bl b) (.bl b) := rfl
theorem at_str {R : Hp} {s : Str} : At R (.str s) (.str s) := rfl
theorem at_non {R : Hp} : At R .non .non := rfl
/-! ### expressions -/
mutual
inductive Ex where
  | num (n : Int) | flag (b : Bool) | unit | name (x : Str)
  | call (f e : Ex) | fn (x : Str) (e : Ex) | rc (h x : Str) (e : Ex) | lt (x : Str) (e f : Ex) | ite (e f g : Ex)
  | pair (e f : Ex) | fst (e : Ex) | snd (e : Ex) | op (s : Str) (e f : Ex) | nt (e : Ex) | pr (e f : Ex) | ask (o : Str) (e : Ex)
  | hd (e : Ex) (x : Str) (f : Ex) (cs : Clz)
inductive Clz where
  | nil
  | cons (o x k : Str) (g : Ex) (r : Clz)
end
/-- the names that occur free, each once, in the order of their first places -/
def addN (x : Str) (ks : List Str) : List Str := if x ∈ ks then ks else ks ++ [x]
mutual
def noted : Ex → List Str → List Str → List Str
  | .num _, _, ks => ks
  | .flag _, _, ks => ks
  | .unit, _, ks => ks
  | .name x, bs, ks => if x ∈ bs then ks else addN x ks
  | .call f e, bs, ks => noted e bs (noted f bs ks)
  | .fn x e, bs, ks => noted e (bs ++ [x]) ks
  | .rc h x e, bs, ks => noted e (bs ++ [h, x]) ks
  | .lt x e f, bs, ks => noted f (bs ++ [x]) (noted e bs ks)
  | .ite e f g, bs, ks => noted g bs (noted f bs (noted e bs ks))
  | .pair e f, bs, ks => noted f bs (noted e bs ks)
  | .fst e, bs, ks => noted e bs ks
  | .snd e, bs, ks => noted e bs ks
  | .op _ e f, bs, ks => noted f bs (noted e bs ks)
  | .nt e, bs, ks => noted e bs ks
  | .pr e f, bs, ks => noted f bs (noted e bs ks)
  | .ask _ e, bs, ks => noted e bs ks
  | .hd e x f cs, bs, ks => notedC cs bs (noted f (bs ++ [x]) (noted e bs ks))
def notedC : Clz → List Str → List Str → List Str
  | .nil, _, ks => ks
  | .cons _ x k g r, bs, ks => notedC r bs (noted g (bs ++ [x, k]) ks)
end
def insS (x : Str) : List Str → List Str
  | [] => [x]
  | y :: r => if ltCps y.cps.toList x.cps.toList then y :: insS x r else x :: y :: r
def sortS : List Str → List Str
  | [] => []
  | x :: r => insS x (sortS r)
/-- the free names of an expression, in order -/
def fv (e : Ex) : List Str := sortS (noted e [] [])
/-! ### expressions as made data; p: prepared for the machine -/
mutual
def Ex.d (p : Bool) : Ex → D
  | .num n => .tup [.str "num", .int n]
  | .flag b => .tup [.str "flag", .bl b]
  | .unit => .tup [.str "unit"]
  | .name x => .tup [.str "name", .str x]
  | .call f e => .tup [.str "call", f.d p, e.d p]
  | .fn x e => .tup (.str "fun" :: .str x :: e.d p :: if p then [.lst ((fv (.fn x e)).map D.str)] else [])
  | .rc h x e => .tup (.str "rec" :: .str h :: .str x :: e.d p :: if p then [.lst ((fv (.rc h x e)).map D.str)] else [])
  | .lt x e f => .tup [.str "let", .str x, e.d p, f.d p]
  | .ite e f g => .tup [.str "if", e.d p, f.d p, g.d p]
  | .pair e f => .tup [.str "pair", e.d p, f.d p]
  | .fst e => .tup [.str "fst", e.d p]
  | .snd e => .tup [.str "snd", e.d p]
  | .op s e f => .tup [.str "op", .str s, e.d p, f.d p]
  | .nt e => .tup [.str "not", e.d p]
  | .pr e f => .tup [.str "print", e.d p, f.d p]
  | .ask o e => .tup [.str "ask", .str o, e.d p]
  | .hd e x f cs => .tup [.str "handle", e.d p, .tup [.str x, f.d p], .tup (cs.d p)]
def Clz.d (p : Bool) : Clz → List D
  | .nil => []
  | .cons o x k g r => .tup [.str o, .str x, .str k, g.d p] :: r.d p
end
/-! ### what the machine has -/
mutual
inductive Val where
  | num (n : Int) | flag (b : Bool) | unit | pair (v w : Val) | clo (e : Ex) (env : Env) | kept (ps : Pcs)
inductive Env where
  | nil
  | cons (x : Str) (v : Val) (r : Env)
inductive Vls where
  | nil
  | cons (v : Val) (r : Vls)
inductive Frs where
  | nil
  | cons (e : Ex) (env : Env) (vs : Vls) (r : Frs)
/-- pieces, the uppermost first -/
inductive Pcs where
  | nil
  | cons (e : Ex) (env : Env) (fs : Frs) (r : Pcs)
end
def Env.keys : Env → List Str
  | .nil => []
  | .cons x _ r => x :: r.keys
mutual
def Val.d : Val → D
  | .num n => .tup [.str "num", .int n]
  | .flag b => .tup [.str "flag", .bl b]
  | .unit => .tup [.str "unit"]
  | .pair v w => .tup [.str "pair", v.d, w.d]
  | .clo e env => .tup [.str "closure", e.d true, .dct env.keys env.ds]
  | .kept ps => .tup [.str "kept", .tup [.lst ps.hd.reverse, .lst ps.fd.reverse]]
def Env.ds : Env → List D
  | .nil => []
  | .cons _ v r => v.d :: r.ds
def Vls.ds : Vls → List D
  | .nil => []
  | .cons v r => v.d :: r.ds
def Frs.d : Frs → D
  | .nil => .non
  | .cons e env vs r => .tup [.tup [e.d true, .dct env.keys env.ds, .tup vs.ds], r.d]
def Pcs.hd : Pcs → List D
  | .nil => []
  | .cons e env _ r => .tup [e.d true, .dct env.keys env.ds] :: r.hd
def Pcs.fd : Pcs → List D
  | .nil => []
  | .cons _ _ fs r => fs.d :: r.fd
end
abbrev Env.d (e : Env) : D := .dct e.keys e.ds
def Env.get : Env → Str → Option Val
  | .nil, _ => none
  | .cons y v r, x => if y = x then some v else r.get x
def Env.put : Env → Str → Val → Env
  | .nil, x, v => .cons x v .nil
  | .cons y w r, x, v => if y = x then .cons y v r else .cons y w (r.put x v)
def Env.len : Env → Nat
  | .nil => 0
  | .cons _ _ r => r.len + 1
def Pcs.len : Pcs → Nat
  | .nil => 0
  | .cons _ _ _ r => r.len + 1
def Pcs.app : Pcs → Pcs → Pcs
  | .nil, q => q
  | .cons e env fs r, q => .cons e env fs (r.app q)
theorem Pcs.app_hd : ∀ (p q : Pcs), (p.app q).hd = p.hd ++ q.hd
  | .nil, q => rfl
  | .cons e env fs r, q => by
    show D.tup [e.d true, env.d] :: (r.app q).hd = _
    rw [Pcs.app_hd r q]
    rfl
theorem Pcs.app_fd : ∀ (p q : Pcs), (p.app q).fd = p.fd ++ q.fd
  | .nil, q => rfl
  | .cons e env fs r, q => by
    show fs.d :: (r.app q).fd = _
    rw [Pcs.app_fd r q]
    rfl
theorem Pcs.len_hd : ∀ p : Pcs, p.hd.length = p.len
  | .nil => rfl
  | .cons _ _ _ r => by
    show r.hd.length + 1 = r.len + 1
    rw [Pcs.len_hd r]
theorem Pcs.len_fd : ∀ p : Pcs, p.fd.length = p.len
  | .nil => rfl
  | .cons _ _ _ r => by
    show r.fd.length + 1 = r.len + 1
    rw [Pcs.len_fd r]
theorem Env.len_keys : ∀ e : Env, e.keys.length = e.len
  | .nil => rfl
  | .cons _ _ r => by
    show r.keys.length + 1 = r.len + 1
    rw [Env.len_keys r]
theorem Env.len_ds : ∀ e : Env, e.ds.length = e.len
  | .nil => rfl
  | .cons _ _ r => by
    show r.ds.length + 1 = r.len + 1
    rw [Env.len_ds r]
/-! ### a run -/
inductive Shp where
  | int (n : Int) | bool (b : Bool) | unit | pair (a b : Shp) | fn
def Shp.d : Shp → D
  | .int n => .tup [.str "int", .int n]
  | .bool b => .tup [.str "bool", .bl b]
  | .unit => .tup [.str "unit"]
  | .pair a b => .tup [.str "pair", a.d, b.d]
  | .fn => .tup [.str "fun"]
def Val.shp : Val → Shp
  | .num n => .int n
  | .flag b => .bool b
  | .unit => .unit
  | .pair v w => .pair v.shp w.shp
  | .clo _ _ => .fn
  | .kept _ => .fn
inductive Fin where
  | steps | unh (o : Str) | val (s : Shp)
def Fin.d : Fin → D
  | .steps => .tup [.str "steps"]
  | .unh o => .tup [.str "unhandled", .str o]
  | .val s => .tup [.str "value", s.d]
def finD : Option Fin → D
  | none => .non
  | some f => f.d
structure Ms where
  left : Nat
  prints : List Int
  fin : Option Fin
  pcs : Pcs
  bot : Frs
  kept : Nat
  most : Nat
inductive Tree where
  | ex (e : Ex)
  | known (v : Val)
def Tree.d : Tree → D
  | .ex e => e.d true
  | .known v => .tup [.str "known", v.d]
def wrap (n : Int) : Int := (n + 2147483648) % 4294967296 - 2147483648
def oper (s : Str) (a b : Int) : Val :=
  if s = "+" then .num (wrap (a + b)) else if s = "-" then .num (wrap (a - b)) else if s = "*" then .num (wrap (a * b)) else if s = "<" then .flag (decide (a < b)) else .flag (decide (a = b))
def Ms.wait (m : Ms) (e : Ex) (env : Env) (vs : Vls) : Ms := match m.pcs with
  | .nil => { m with bot := .cons e env vs m.bot }
  | .cons h he fs r => { m with pcs := .cons h he (.cons e env vs fs) r }
def Ms.top (m : Ms) : Frs := match m.pcs with
  | .nil => m.bot
  | .cons _ _ fs _ => fs
def Ms.setTop (m : Ms) (fs : Frs) : Ms := match m.pcs with
  | .nil => { m with bot := fs }
  | .cons h he _ r => { m with pcs := .cons h he fs r }
def Ms.back (m : Ms) (ps : Pcs) : Ms := { m with pcs := ps.app m.pcs, most := Nat.max m.most ((ps.app m.pcs).len + 1) }
/-- the clause of a handler for an operation -/
def Clz.find : Clz → Str → Option (Str × Str × Ex)
  | .nil, _ => none
  | .cons o x k g r, p => if o = p then some (x, k, g) else r.find p
def clsOf : Ex → Clz
  | .hd _ _ _ cs => cs
  | _ => .nil
/-- the pieces down to the one that answers, what is below, its bindings and its clause -/
def Pcs.answer : Pcs → Str → Option (Pcs × Pcs × Env × Str × Str × Ex)
  | .nil, _ => none
  | .cons e env fs r, o => match (clsOf e).find o with
    | some (x, k, g) => some (.cons e env fs .nil, r, env, x, k, g)
    | none => match r.answer o with
      | none => none
      | some (p, q, t) => some (.cons e env fs p, q, t)
end Bz


set_option Elab.async false
set_option linter.all false
set_option maxRecDepth 100000
set_option maxHeartbeats 4000000
namespace Bz
open PySem PySem.Spec L2 PyProof.Rows
/-! ### order of texts -/
theorem lt_tr : ∀ {a b c : List Nat}, ltCps b a = false → ltCps c b = false → ltCps c a = false
  | [], [], [], _, _ => rfl
  | [], [], _ :: _, _, h => by simp [ltCps] at h ⊢
  | [], _ :: _, [], _, h => by simp [ltCps] at h
  | [], _ :: _, _ :: _, _, _ => by simp [ltCps]
  | _ :: _, [], [], h, _ => by simp [ltCps] at h
  | _ :: _, [], _ :: _, h, _ => by simp [ltCps] at h
  | _ :: _, _ :: _, [], _, h => by simp [ltCps] at h
  | x :: xs, y :: ys, z :: zs, h, h' => by
    simp only [ltCps, Bool.or_eq_false_iff, Bool.and_eq_false_iff, decide_eq_false_iff_not, beq_eq_false_iff_ne] at h h' ⊢
    obtain ⟨h1, h2⟩ := h
    obtain ⟨h3, h4⟩ := h'
    refine ⟨by omega, ?_⟩
    by_cases e : z = x
    · right
      have e1 : y = x := by omega
      have e2 : z = y := by omega
      exact lt_tr (h2.resolve_left fun q => q e1) (h4.resolve_left fun q => q e2)
    · exact .inl e
theorem lt_anti : ∀ {a b : List Nat}, ltCps a b = false → ltCps b a = false → a = b
  | [], [], _, _ => rfl
  | [], _ :: _, h, _ => by simp [ltCps] at h
  | _ :: _, [], _, h => by simp [ltCps] at h
  | x :: xs, y :: ys, h, h' => by
    simp only [ltCps, Bool.or_eq_false_iff, Bool.and_eq_false_iff, decide_eq_false_iff_not, beq_eq_false_iff_ne] at h h'
    obtain ⟨h1, h2⟩ := h
    obtain ⟨h3, h4⟩ := h'
    have e : x = y := by omega
    rw [e, lt_anti (h2.resolve_left fun q => q e) (h4.resolve_left fun q => q e.symm)]
def leS (a b : Str) : Prop := ltCps b.cps.toList a.cps.toList = false
theorem leS_tr {a b c : Str} (h : leS a b) (h' : leS b c) : leS a c := lt_tr h h'
theorem leS_anti {a b : Str} (h : leS a b) (h' : leS b a) : a = b := by
  have e : a.cps.toList = b.cps.toList := lt_anti h' h
  cases a
  cases b
  have e2 := congrArg List.toArray e
  simpa using e2
theorem rising_pw : ∀ {l : List Str} {p : Str}, risingS p l = true → (p :: l).Pairwise leS
  | [], p, _ => by simp
  | x :: r, p, h => by
    unfold risingS at h
    rw [Bool.and_eq_true] at h
    have h1 : leS p x := by
      unfold leS
      simpa using h.1
    have ih := rising_pw h.2
    refine List.Pairwise.cons (fun y hy => ?_) ih
    rcases List.mem_cons.mp hy with e | e
    · rw [e]; exact h1
    · exact leS_tr h1 ((List.pairwise_cons.mp ih).1 y e)
theorem sorted_pw {l : List Str} (h : sortedS l = true) : l.Pairwise leS := by
  cases l with
  | nil => exact List.Pairwise.nil
  | cons x r => exact rising_pw h
theorem pw_uniq : ∀ {l m : List Str}, l.Pairwise leS → m.Pairwise leS → l.Nodup → m.Nodup → (∀ s, s ∈ l ↔ s ∈ m) → l = m
  | [], [], _, _, _, _, _ => rfl
  | [], y :: m, _, _, _, _, h => by have := (h y).mpr (List.mem_cons_self ..); cases this
  | x :: l, [], _, _, _, _, h => by have := (h x).mp (List.mem_cons_self ..); cases this
  | x :: l, y :: m, h1, h2, n1, n2, h => by
    have p1 := List.pairwise_cons.mp h1
    have p2 := List.pairwise_cons.mp h2
    have q1 := List.nodup_cons.mp n1
    have q2 := List.nodup_cons.mp n2
    have e : x = y := by
      rcases List.mem_cons.mp ((h x).mp (List.mem_cons_self ..)) with e | e
      · exact e
      · rcases List.mem_cons.mp ((h y).mpr (List.mem_cons_self ..)) with e' | e'
        · exact e'.symm
        · exact leS_anti (p1.1 y e') (p2.1 x e)
    subst e
    rw [pw_uniq p1.2 p2.2 q1.2 q2.2 fun s => ?_]
    constructor
    · intro hs
      rcases List.mem_cons.mp ((h s).mp (List.mem_cons_of_mem _ hs)) with e | e
      · subst e; exact absurd hs q1.1
      · exact e
    · intro hs
      rcases List.mem_cons.mp ((h s).mpr (List.mem_cons_of_mem _ hs)) with e | e
      · subst e; exact absurd hs q2.1
      · exact e
theorem inV_str (s : Str) : ∀ w : List Str, inV (.str s) (w.map V.str) = decide (s ∈ w)
  | [] => rfl
  | x :: r => by
    show (eqV (.str x) (.str s) || inV (.str s) (r.map V.str)) = _
    rw [inV_str s r]
    show ((x == s) || decide (s ∈ r)) = _
    by_cases e : x = s
    · subst e
      simp
    · have e1 : (x == s) = false := by simpa using e
      rw [e1, Bool.false_or]
      apply decide_eq_decide.mpr
      rw [List.mem_cons]
      constructor
      · exact .inr
      · rintro (q | q)
        · exact absurd q.symm e
        · exact q
theorem flat_str (w : List Str) : (w.map V.str).all flatV = true := by
  rw [List.all_eq_true]
  intro x hx
  obtain ⟨y, _, rfl⟩ := List.mem_map.mp hx
  rfl

theorem lt_asy : ∀ {a b : List Nat}, ltCps a b = true → ltCps b a = false
  | [], [], h => by simp [ltCps] at h
  | [], _ :: _, _ => by simp [ltCps]
  | _ :: _, [], h => by simp [ltCps] at h
  | x :: xs, y :: ys, h => by
    simp only [ltCps, Bool.or_eq_true, Bool.and_eq_true, decide_eq_true_eq, beq_iff_eq] at h
    simp only [ltCps, Bool.or_eq_false_iff, Bool.and_eq_false_iff, decide_eq_false_iff_not, beq_eq_false_iff_ne]
    rcases h with h | ⟨e, h⟩
    · exact ⟨by omega, .inl (by omega)⟩
    · exact ⟨by omega, .inr (lt_asy h)⟩
theorem insS_mem (x s : Str) : ∀ l : List Str, s ∈ insS x l ↔ s = x ∨ s ∈ l
  | [] => by simp [insS]
  | y :: r => by
    have ih := insS_mem x s r
    unfold insS
    split
    · rw [List.mem_cons, ih, List.mem_cons]
      constructor
      · rintro (h | h | h)
        · exact .inr (.inl h)
        · exact .inl h
        · exact .inr (.inr h)
      · rintro (h | h | h)
        · exact .inr (.inl h)
        · exact .inl h
        · exact .inr (.inr h)
    · rw [List.mem_cons]
theorem insS_pw (x : Str) : ∀ {l : List Str}, l.Pairwise leS → (insS x l).Pairwise leS
  | [], _ => by simp [insS]
  | y :: r, h => by
    obtain ⟨h1, h2⟩ := List.pairwise_cons.mp h
    unfold insS
    split
    · rename_i c
      refine List.pairwise_cons.mpr ⟨fun z hz => ?_, insS_pw x h2⟩
      rcases (insS_mem x z r).mp hz with e | e
      · rw [e]; exact lt_asy c
      · exact h1 z e
    · rename_i c
      have c : leS x y := by unfold leS; simpa using c
      refine List.pairwise_cons.mpr ⟨fun z hz => ?_, h⟩
      rcases List.mem_cons.mp hz with e | e
      · rw [e]; exact c
      · exact leS_tr c (h1 z e)
theorem insS_nd {x : Str} : ∀ {l : List Str}, x ∉ l → l.Nodup → (insS x l).Nodup
  | [], _, _ => by simp [insS]
  | y :: r, n, h => by
    obtain ⟨h1, h2⟩ := List.nodup_cons.mp h
    unfold insS
    split
    · refine List.nodup_cons.mpr ⟨fun m => ?_, insS_nd (fun m => n (List.mem_cons_of_mem _ m)) h2⟩
      rcases (insS_mem x y r).mp m with e | e
      · exact n (by rw [e]; exact List.mem_cons_self ..)
      · exact h1 e
    · exact List.nodup_cons.mpr ⟨n, h⟩
theorem sortS_mem (s : Str) : ∀ l : List Str, s ∈ sortS l ↔ s ∈ l
  | [] => Iff.rfl
  | x :: r => by
    show s ∈ insS x (sortS r) ↔ _
    rw [insS_mem, sortS_mem s r, List.mem_cons]
theorem sortS_pw : ∀ l : List Str, (sortS l).Pairwise leS
  | [] => List.Pairwise.nil
  | x :: r => insS_pw x (sortS_pw r)
theorem sortS_nd : ∀ {l : List Str}, l.Nodup → (sortS l).Nodup
  | [], _ => List.nodup_nil
  | x :: r, h => by
    obtain ⟨h1, h2⟩ := List.nodup_cons.mp h
    exact insS_nd (fun m => h1 ((sortS_mem x r).mp m)) (sortS_nd h2)
theorem sort_uniq {ys ks : List Str} (p : ys.Perm ks) (s : sortedS ys = true) (n : ks.Nodup) : ys = sortS ks :=
  pw_uniq (sorted_pw s) (sortS_pw ks) (p.nodup_iff.mpr n) (sortS_nd n) fun x => by rw [sortS_mem, p.mem_iff]
theorem ats_str {R : Hp} : ∀ {bs : List Str} {vs : List V}, Ats R (bs.map D.str) vs → vs = bs.map V.str
  | [], _, h => h
  | b :: bs, _, ⟨v, r, e, h, a⟩ => by rw [e, ats_str (bs := bs) a, show v = V.str b from h]; rfl
theorem str_ats {R : Hp} : ∀ (bs : List Str), Ats R (bs.map D.str) (bs.map V.str)
  | [] => rfl
  | b :: bs => ⟨_, _, rfl, rfl, str_ats bs⟩
/-- a dict whose keys are names and whose values are True -/
def nkK (ks : List Str) : List (Key × V) := ks.map fun x => ((Sum.inr x : Key), V.bl true)
theorem nkK_put (x : Str) (ks : List Str) : putK (nkK ks) (Sum.inr x : Key) (V.bl true) = nkK (addN x ks) := by
  have ea : ((nkK ks).any fun kv => decide (kv.1 = (Sum.inr x : Key))) = decide (x ∈ ks) := by
    unfold nkK
    rw [List.any_map]
    induction ks with
    | nil => rfl
    | cons y r ih =>
      rw [List.any_cons, ih]
      show (decide ((Sum.inr y : Key) = Sum.inr x) || decide (x ∈ r)) = _
      rw [← Bool.decide_or]
      apply decide_eq_decide.mpr
      rw [List.mem_cons]
      exact ⟨fun q => q.imp (fun e => (Sum.inr.inj e).symm) id, fun q => q.imp (fun e => by rw [e]) id⟩
  unfold putK addN
  rw [ea]
  by_cases c : x ∈ ks
  · rw [if_pos (decide_eq_true c), if_pos c]
    have : ∀ l : List Str, (nkK l).map (fun kv => if kv.1 = (Sum.inr x : Key) then (kv.1, V.bl true) else kv) = nkK l := fun l => by
      unfold nkK
      rw [List.map_map]
      refine List.map_congr_left fun y _ => ?_
      show (if (Sum.inr y : Key) = Sum.inr x then ((Sum.inr y : Key), V.bl true) else _) = _
      split <;> rfl
    exact this ks
  · rw [if_neg (by rw [decide_eq_false c]; exact Bool.false_ne_true), if_neg c]
    unfold nkK
    rw [List.map_append]
    rfl
end Bz


set_option Elab.async false
set_option linter.all false
set_option maxRecDepth 100000
set_option maxHeartbeats 4000000
namespace Rd
open PySem PySem.Spec L2 PyProof.Rows
section
variable {prog : Program} {w : World} {κ : Type} [DecidableEq κ] {kn : KeyKind prog w κ} {A : Around} {E : Value → Shared → Prop} {s : Shared}
/-- what is stored at a key of a table told by its pairs -/
theorem put_of {d : Addr} {ps : List (κ × Value)} {k : κ} {kv v : Value} {Q : Unit → Shared → Prop} (ik : kn.is k kv = true) (T : s.heap.DictOf kn d ps) (z : ps.length ≤ sizeLine)
    (q : ∀ h2, h2.DictOf kn d (stored ps k v) → Heap.SameBut d s.heap h2 → Q () { s with heap := h2 }) : wpAny (model prog w) A (dictPut d (kn.hash k) kv v) Q E s := by
  obtain ⟨o, ent, ep, t1, t2, t3, t4, t5, t6⟩ := T
  have ez : ent.size ≤ sizeLine := by
    have a1 := t5.length
    simp at a1
    omega
  have ei : ent.findIdx? (fun x => kn.is k x.key) = ps.findIdx? fun p => decide (p.1 = k) := by
    rw [← t5.findIdx k]
    obtain ⟨l⟩ := ent
    simp
  unfold dictPut
  refine wpAny_bind (wpAny_dictFind_of ik t1 t3 t4 ?_)
  cases e : ent.findIdx? fun x => kn.is k x.key with
  | some i =>
    have yes : (ps.any fun p => decide (p.1 = k)) = true := any_of_findIdx_some (ei ▸ e)
    refine wpAny_updateDict t1 t3 (q _ ⟨_, _, ep, Heap.get?_update_self _ t1 (Obj.isFreed_of_dict (Obj.data_mapDict t3 _)), t2.mapDict _, Obj.data_mapDict t3 _, t4.modify _ _, ?_, ?_⟩ (Heap.SameBut.update ..))
    · have el : ent.toList.findIdx? (fun x => kn.is k x.key) = some i := by
        rw [← e]
        obtain ⟨l⟩ := ent
        simp
      have m := t5.modify t6 el v
      rw [stored, if_pos yes]
      obtain ⟨l⟩ := ent
      simpa using m
    · rw [stored, if_pos yes, keys_map_store]
      exact t6
  | none =>
    have nk : k ∉ ps.map (·.1) := not_mem_of_findIdx_none (ei ▸ e)
    have no : ¬ (ps.any fun p => decide (p.1 = k)) = true := fun a => by
      obtain ⟨p, hp, hk⟩ := List.any_eq_true.mp a
      exact nk (List.mem_map.mpr ⟨p, hp, of_decide_eq_true hk⟩)
    refine wpAny_updateDictKeys (hz := ez) t1 t3 (q _ ⟨_, _, ep + 1, Heap.get?_update_self _ t1 (Obj.isFreed_of_dict (Obj.data_mapDictKeys t3 _)), t2.mapDictKeys _, Obj.data_mapDictKeys t3 _, t4.push ik _, ?_, ?_⟩ (Heap.SameBut.update ..))
    · have m := t5.append ik (kn.hash k) v
      rw [stored, if_neg no]
      obtain ⟨l⟩ := ent
      simpa using m
    · rw [stored, if_neg no, List.map_append]
      refine List.nodup_append.mpr ⟨t6, by simp, fun a ha b hb eab => nk ?_⟩
      rw [List.mem_singleton.mp hb] at eab
      rw [← show a = k from eab]
      exact ha
end
end Rd


set_option Elab.async false
set_option linter.all false
set_option maxRecDepth 100000
set_option maxHeartbeats 4000000
namespace Rd
open PySem PySem.Spec L2 PyProof.Rows
section
variable {prog : Program} {w : World} {A : Around} {E : Value → Shared → Prop} {s : Shared}
theorem noref {k : Key} {v : Value} (h : (mixKind prog w).is k v = true) : ∀ a, v ≠ .ref a := by
  intro a e
  subst e
  rcases keyIs_shape h with ⟨_, _, _, e⟩ | ⟨_, _, _, e⟩ <;> cases e
/-- a plain table is merged into another one -/
theorem merge_of {d o : Addr} {ps qs : List (Key × Value)} {Q : Unit → Shared → Prop} (ne : d ≠ o) (ns : (o == sysModules) = false) (Td : s.heap.DictOf (mixKind prog w) d ps) (To : s.heap.DictOf (mixKind prog w) o qs) (z : ps.length + qs.length ≤ sizeLine)
    (q : ∀ h2, h2.DictOf (mixKind prog w) d (merged ps qs) → Heap.SameBut d s.heap h2 → Q () { s with heap := h2 }) : wpAny (model prog w) A (mergeMapping d (.ref o) false) Q E s := by
  obtain ⟨od, ed, pd, d1, d2, d3, d4, d5, d6⟩ := id Td
  obtain ⟨oo, eo, po, o1, o2, o3, o4, o5, o6⟩ := id To
  have lo : qs.length = eo.size := by rw [← o5.length]; simp
  unfold mergeMapping
  refine wpAny_bind (wpAny_isInstance To.typeIs isSubtype_dict_dict ?_)
  simp only [if_true]
  refine wpAny_bind (wpAny_specialOf To.typeIs PySem.F.slot_dict_iter.lookup ?_)
  simp only [beq_self_eq_true, pure_bind, ns, Bool.false_eq_true, if_false]
  refine wpAny_bind (wpAny_dictEntries d1 d3 ?_)
  have rest : wpAny (model prog w) A (do
      let l ← dictEntries o
      let ep ← dictEpoch o
      forIn (List.range l.size) PUnit.unit fun i (_ : PUnit) => (do
        let l2 ← dictEntries o
        match l2[i]? with
        | some x => do
          holding [x.key, x.val] (dictPut d x.hash x.key x.val)
          let ep2 ← dictEpoch o
          if (ep2 != ep) = true then do
            (unsupported "dict.changed-during-merge" : Sem PUnit)
            pure (ForInStep.yield PUnit.unit)
          else pure (ForInStep.yield PUnit.unit)
        | _ => do
          (unsupported "dict.changed-during-merge" : Sem PUnit)
          pure (ForInStep.yield PUnit.unit) : Sem (ForInStep PUnit))
      pure ()) Q E s := by
    refine wpAny_bind (wpAny_dictEntries o1 o3 (wpAny_bind (wpAny_dictEpoch o1 o3 (wpAny_bind ?_))))
    refine wpAny_forIn_list _ (fun l _ s2 => ∃ h2 i, s2 = { s with heap := h2 } ∧ l = (List.range eo.size).drop i ∧ i ≤ eo.size ∧ h2.DictOf (mixKind prog w) d (merged ps (qs.take i)) ∧ h2.get? o = some oo ∧ Heap.SameBut d s.heap h2) _ ?_ ?_ _ _
      ⟨s.heap, 0, rfl, rfl, Nat.zero_le _, Td, o1, Heap.SameBut.refl _ _⟩
    · rintro x l b s2 ⟨h2, i, rfl, el, hi, T2, O2, S2⟩
      have hlt : i < eo.size := by
        rcases Nat.lt_or_ge i eo.size with a | a
        · exact a
        · rw [List.drop_eq_nil_of_le (by rw [List.length_range]; exact a)] at el
          cases el
      rw [List.drop_eq_getElem_cons (by rw [List.length_range]; exact hlt)] at el
      injection el with e1 e2
      rw [List.getElem_range] at e1
      subst e1
      refine wpAny_bind (wpAny_dictEntries O2 o3 ?_)
      rw [Array.getElem?_eq_getElem hlt]
      have hq : qs[x]? = some (qs[x]'(by rw [lo]; exact hlt)) := List.getElem?_eq_getElem _
      generalize qs[x]'(by rw [lo]; exact hlt) = kv at hq
      obtain ⟨ky, vl⟩ := kv
      obtain ⟨ik, iv⟩ := o5.get? (e := eo[x]) (by simp [hlt]) hq
      obtain ⟨k2, ik2, hh⟩ := o4 eo[x] (Array.getElem_mem hlt)
      have ek : k2 = ky := (mixKind prog w).inj _ _ _ ik2 ik
      subst ek
      show wpAny _ _ (holding [eo[x].key, eo[x].val] (dictPut d eo[x].hash eo[x].key eo[x].val) >>= _) _ _ _
      rw [hh, iv]
      refine wpAny_bind (wpAny_holding (put_of ik T2 (by
        have a1 := merged_length_le ps (qs.take x)
        have a2 : (qs.take x).length ≤ qs.length := by rw [List.length_take]; omega
        omega) fun h3 T3 S3 => ?_))
      have O3 : h3.get? o = some oo := (S3.2 o (Ne.symm ne)).trans O2
      refine wpAny_bind (wpAny_dictEpoch O3 o3 ?_)
      rw [if_neg (by simp)]
      exact wpAny_pure ⟨h3, x + 1, rfl, e2, hlt, by rw [merged_take_succ ps qs x (k2, vl) hq]; exact T3, O3, S2.trans S3⟩
    · rintro b s2 ⟨h2, i, rfl, el, hi, T2, O2, S2⟩
      have hin : i = eo.size := by
        rcases Nat.lt_or_ge i eo.size with a | a
        · rw [List.drop_eq_getElem_cons (by rw [List.length_range]; exact a)] at el
          cases el
        · omega
      rw [hin, ← lo, List.take_length] at T2
      exact wpAny_pure (q h2 T2 S2)
  by_cases he : ed.isEmpty = true
  · rw [if_pos he]
    refine wpAny_bind (wpAny_dictEntries o1 o3 (wpAny_bind ?_))
    refine wpAny_forIn_array' _ (fun l _ s2 => s2 = s ∧ ∀ x ∈ l, x ∈ eo) _ ?_ ?_ _ _ ⟨rfl, fun x hx => Array.mem_toList_iff.mp hx⟩
    · rintro x l b s2 ⟨es, hl⟩
      subst es
      obtain ⟨ky, ik, _⟩ := o4 x (hl x (List.mem_cons_self ..))
      have nr := noref ik
      cases ex : x.key with
      | ref a => exact absurd ex (nr a)
      | _ => exact wpAny_pure ⟨rfl, fun y hy => hl y (List.mem_cons_of_mem _ hy)⟩
    · rintro b s2 ⟨es, _⟩
      subst es
      exact rest
  · rw [if_neg he]
    exact rest
end
end Rd


set_option Elab.async false
set_option linter.all false
set_option maxRecDepth 100000
set_option maxHeartbeats 4000000
namespace Rd
open PySem PySem.Spec L2 PyProof.Rows
section
variable {prog : Program} {w : World} {A : Around} {E : Value → Shared → Prop} {s : Shared}
theorem gather {d : Addr} (f : (Option (Sem Value) × Sem Value) → (Option Addr × List (Sem Value × Sem Value)) → Sem (ForInStep (Option Addr × List (Sem Value × Sem Value))))
    (hf : ∀ (p : Sem Value × Sem Value) (r : List (Sem Value × Sem Value)), r.length + 1 < 17 → f (some p.1, p.2) (some d, r) = pure (.yield (some d, r ++ [p]))) :
    ∀ (l r : List (Sem Value × Sem Value)), r.length + l.length < 17 → forIn (l.map fun p => (some p.1, p.2)) (some d, r) f = pure (some d, r ++ l)
  | [], r, _ => by simp
  | p :: l, r, h => by
    rw [List.length_cons] at h
    rw [List.map_cons, List.forIn_cons, hf p r (by omega), pure_bind]
    show forIn (l.map fun p => (some p.1, p.2)) (some d, r ++ [p]) f = _
    rw [gather f hf l (r ++ [p]) (by rw [List.length_append]; simp; omega), List.append_assoc]
    rfl
theorem disp_walk {v0 : Sem Value} {ps : List (Sem Value × Sem Value)} {Q : Value → Shared → Prop} (h0 : ps ≠ []) (hl : ps.length < 17)
    (h : wpAny (model prog w) A v0 (fun m s1 => wpAny (model prog w) A (mergeMapping s.heap.objs.size m false) (fun _ s2 => wpAny (model prog w) A (subDict ps) (fun e s3 => wpAny (model prog w) A (mergeMapping s.heap.objs.size (.ref e) false) (fun _ s4 => Q (.ref s.heap.objs.size) s4) (fun _ _ => False) s3) E s2) (fun _ _ => False) s1) E
      { s with heap := s.heap.push { cls := .type "dict", data := .dict #[] } }) :
    wpAny (model prog w) A (dictDisplay ((none, v0) :: ps.map fun p => (some p.1, p.2))) Q E s := by
  unfold dictDisplay
  dsimp only
  rw [List.forIn_cons]
  simp only [List.isEmpty_nil, if_true, pure_bind, bind_assoc]
  refine wpAny_bind (wpAny_alloc ?_)
  refine wpAny_bind (wpAny_holding (wpAny_mono h (fun m s1 h1 => ?_) fun _ _ e => e))
  refine wpAny_bind (wpAny_onRaise (wpAny_tryCatch (wpAny_onRaise (wpAny_holding (wpAny_mono h1 (fun _ s2 h2 => ?_) fun _ _ f => f.elim)))))
  rw [gather _ (fun p r hr => by
    have e : ((r ++ [(p.1, p.2)]).length == 17) = false := by
      rw [List.length_append]
      simp
      omega
    simp only [e, Bool.false_eq_true, if_false]) ps [] (by simpa using hl)]
  have e1 : ps.isEmpty = false := by
    cases ps with
    | nil => exact absurd rfl h0
    | cons a b => rfl
  simp only [List.nil_append, e1, pure_bind, Bool.false_eq_true, if_false, bind_assoc]
  refine wpAny_bind (wpAny_holding (wpAny_mono h2 (fun e s3 h3 => ?_) fun _ _ f => f))
  exact wpAny_bind (wpAny_onRaise (wpAny_holding (wpAny_mono h3 (fun _ s4 h4 => wpAny_pure h4) fun _ _ f => f.elim)))
end
/-! ### {**x, k: v, ..} over the layer -/
def tDStar (tx : TE) (trs : List (TE × TE)) : TE := fun σ H Q => ∀ d, H d = none → tx σ (upd H d (.dK [])) fun x H1 => ∃ a kvs, x = .ref a ∧ H1 a = some (.dK kvs) ∧ a ≠ d ∧ H1 d = some (.dK []) ∧ kvs.length ≤ 1000 ∧
  ∀ e, (upd H1 d (.dK kvs)) e = none → tPairs trs σ (upd (upd H1 d (.dK kvs)) e (.dK [])) fun ps H2 => H2 e = some (.dK []) ∧ H2 d = some (.dK kvs) ∧ ∃ more : List (Key × V), ps = more.map (fun kv => (kV kv.1, kv.2)) ∧ more.length ≤ 15 ∧
    Q (.ref d) (upd (upd H2 e (.dK (mergeK [] more))) d (.dK (mergeK kvs (mergeK [] more))))
theorem merge_nodup {kvs : List (Key × V)} {vs : List (Key × Value)} (r : KV kvs vs) (n : (vs.map (·.1)).Nodup) : mergeK [] kvs = kvs := by
  have hk : kvs.map (·.1) = vs.map (·.1) := by
    unfold KV at r
    induction r with
    | nil => rfl
    | @cons a b _ _ h _ ih =>
      rw [List.map_cons, List.map_cons, h.1, ih (List.nodup_cons.mp (by simpa using n)).2]
  have key : ∀ (l acc : List (Key × V)), ((acc ++ l).map (·.1)).Nodup → mergeK acc l = acc ++ l := fun l => by
    induction l with
    | nil => intro acc _; show acc = acc ++ []; rw [List.append_nil]
    | cons p l ih =>
      intro acc hn
      have hnew : valV acc p.1 = none := by
        cases e : valV acc p.1 with
        | none => rfl
        | some v =>
          have hm : p.1 ∈ acc.map (·.1) := valV_in e
          rw [List.map_append, List.map_cons] at hn
          exact absurd rfl ((List.nodup_append.mp hn).2.2 _ hm _ (List.mem_cons_self ..))
      show mergeK (putK acc p.1 p.2) l = _
      rw [putK_new _ hnew, ih _ (by rw [List.append_assoc]; exact hn), List.append_assoc]
      rfl
  have := key kvs [] (by rw [List.nil_append, hk]; exact n)
  rw [this, List.nil_append]
theorem pe_dstar {X : Cx} {pos : Pos} {xe : Expr} {tx : TE} {keys : List (Option Expr)} {values : List Expr} {trs : List (TE × TE)} (hx : PE X xe tx) (hp : PPs X pos keys values trs) (hall : keys.all (·.isSome) = true) (hl : keys.length = values.length) (h0 : keys ≠ []) (h15 : keys.length ≤ 15) :
    PE X (.Dict (none :: keys) (xe :: values) pos) (tDStar tx trs) := by
  refine ⟨fun pins s σ H Q I q => ?_⟩
  have hn := I.hok.fresh (Nat.le_refl s.heap.objs.size)
  have I1 := I.laid (a := s.heap.objs.size) (o := .dK []) (h' := s.heap.push { cls := .type "dict", data := .dict #[] }) (t' := s.toks) (fun _ _ z => Heap.get?_push_of_some _ z) (Nat.le_refl _) (dk_empty s.heap I.big)
  have elen := pairTrees_length keys values X.env pos hall hl
  rw [PySem.arm_eval_Dict]
  have esh : (evalEachOpt (none :: keys) X.env).zip ((evalEach (xe :: values) X.env).map fun v => do let x ← v; standAt pos; pure x) =
      (none, do let x ← eval xe X.env; standAt pos; pure x) :: (pairTrees keys values X.env pos).map fun p => (some p.1, p.2) := by
    rw [← zip_pairTrees keys values X.env pos hall hl]
    rfl
  rw [esh]
  refine wpAny_bind (wpAny_standAt (disp_walk (by
    intro e
    rw [e] at elen
    exact h0 (List.length_eq_zero_iff.mp elen.symm)) (by omega) ?_))
  refine wpAny_bind (thn (hx.run pins _ σ _ _ I1 (q _ hn)) fun u s1 ⟨x, H1, I2, rx, a, kvs, ex, ha, hne, hd, hk, q1⟩ => ?_)
  subst ex
  obtain rfl : u = Value.ref a := rx
  refine wpAny_bind (wpAny_standAt (wpAny_pure ?_))
  obtain ⟨_, zd, vd, rd, Td⟩ := dk_of I2.hok hd
  cases rd
  obtain ⟨_, za, va, ra, Ta⟩ := dk_of I2.hok ha
  have la : va.length = kvs.length := (Paired.length ra).symm
  refine merge_of (Ne.symm hne) za Td Ta (by rw [la]; exact Nat.le_of_lt (small1000 (by rw [List.length_nil]; omega))) fun h2 T2 S2 => ?_
  have nva : (va.map (·.1)).Nodup := by
    obtain ⟨_, _, _, _, _, _, _, _, n⟩ := Ta
    exact n
  have em : mergeK [] kvs = kvs := merge_nodup ra nva
  have r2 : KV (mergeK [] kvs) (merged [] va) := ra.merge .nil
  rw [em] at r2
  have I3 := d_write (t' := s1.toks) I2 (by rw [hd]; exact True.intro) S2 (let ⟨o, _, _, e, _⟩ := T2; ⟨o, e⟩) (dk_new (Nat.le_of_lt (small1000 hk)) zd r2 T2)
  have he := I3.hok.fresh (Nat.le_refl h2.objs.size)
  have I4 := I3.laid (a := h2.objs.size) (o := .dK []) (h' := h2.push { cls := .type "dict", data := .dict #[] }) (t' := s1.toks) (fun _ _ z => Heap.get?_push_of_some _ z) (Nat.le_refl _) (dk_empty h2 I3.big)
  refine wpAny_subDict (knd := mixKind X.prog X.w) (by omega) (thn (hp.run pins _ σ _ _ I4 (q1 _ he)) fun ws s5 ⟨ps, H5, I5, rel, e5, d5, more, ep, lk, q5⟩ => ?_)
  subst ep
  obtain ⟨rs, c, rk⟩ := carries_of (P := X.prog) (w := X.w) rel
  obtain ⟨_, ze, ve, re, Te⟩ := dk_of I5.hok e5
  cases re
  refine ⟨rs, c, Te, fun h6 T6 S6 => ?_⟩
  have lm : (mergeK [] more).length ≤ more.length := by
    have := length_mergeK more []
    rw [List.length_nil, Nat.zero_add] at this
    exact this
  have I6 := d_write (t' := s5.toks + ws.length) I5 (by rw [e5]; exact True.intro) S6 (let ⟨o, _, _, e, _⟩ := T6; ⟨o, e⟩) (dk_new (Nat.le_of_lt (small1000 (by omega))) ze (rk.merge .nil) T6)
  have hde : s.heap.objs.size ≠ h2.objs.size := fun e => by
    rw [← e] at he
    rw [upd_same] at he
    cases he
  have d6 : (upd H5 h2.objs.size (.dK (mergeK [] more))) s.heap.objs.size = some (.dK kvs) := by rw [upd_ne hde]; exact d5
  have e6 : (upd H5 h2.objs.size (.dK (mergeK [] more))) h2.objs.size = some (.dK (mergeK [] more)) := upd_same
  obtain ⟨_, zd6, vd6, rd6, Td6⟩ := dk_of I6.hok d6
  obtain ⟨_, ze6, ve6, re6, Te6⟩ := dk_of I6.hok e6
  have l1 : vd6.length = kvs.length := (Paired.length rd6).symm
  have l2 : ve6.length = (mergeK [] more).length := (Paired.length re6).symm
  have l3 : kvs.length + (mergeK [] more).length ≤ sizeLine := by
    have : sizeLine = 16777216 := by decide
    omega
  refine merge_of hde ze6 Td6 Te6 (by rw [l1, l2]; exact l3) fun h7 T7 S7 => ?_
  refine ⟨.ref s.heap.objs.size, _, ?_, rfl, q5⟩
  exact d_write (t' := s5.toks + ws.length) I6 (by rw [d6]; exact True.intro) S7 (let ⟨o, _, _, e, _⟩ := T7; ⟨o, e⟩) (dk_new (by
    have := length_mergeK (mergeK [] more) kvs
    omega) zd6 (re6.merge rd6) T7)
end Rd


set_option Elab.async false
set_option linter.all false
set_option maxRecDepth 100000
set_option maxHeartbeats 4000000
namespace Bz
open PySem PySem.Spec L2 PyProof.Rows
theorem mv_freeze {F : Addr → Prop} {R H R' H' : Hp} {d : Addr} {o : HO} (m : Mv F R H R' H') (h : H' d = some o) (r : R' d = none) (n : H d = none) : Mv F R H (upd R' d o) H' :=
  ⟨m.keep, m.dom, m.up.trans (same_new r), fun b z e => by
    by_cases eb : b = d
    · subst eb
      rw [upd_same] at e
      rw [h]
      exact e
    · rw [upd_ne eb] at e
      exact m.sub b z e, fun b z e => by
    by_cases eb : b = d
    · subst eb
      exact .inr n
    · rw [upd_ne eb] at e
      exact m.new b z e⟩
/-! ### dicts with text keys -/
theorem kz_cons (x : Str) (ks : List Str) (v : V) (vs : List V) : kz (x :: ks) (v :: vs) = ((Sum.inr x : Key), v) :: kz ks vs := rfl
theorem putK_neg {κ : Type} [DecidableEq κ] {p : κ × V} {r : List (κ × V)} {k : κ} {v : V} (h : p.1 ≠ k) : putK (p :: r) k v = p :: putK r k v := by
  unfold putK
  rw [List.any_cons, decide_eq_false h, Bool.false_or]
  split
  · rw [List.map_cons, if_neg h]
  · rfl
theorem putK_pos {κ : Type} [DecidableEq κ] {p : κ × V} {r : List (κ × V)} {k : κ} {v : V} (h : p.1 = k) (n : ∀ q ∈ r, q.1 ≠ k) : putK (p :: r) k v = (p.1, v) :: r := by
  unfold putK
  rw [List.any_cons, decide_eq_true h, Bool.true_or, if_pos rfl, List.map_cons, if_pos h]
  congr 1
  have : r.map (fun kv => if kv.1 = k then (kv.1, v) else kv) = r.map id := List.map_congr_left fun q hq => if_neg (n q hq)
  rw [this, List.map_id]
theorem kz_mem {ks : List Str} {vs : List V} {q : Key × V} (h : q ∈ kz ks vs) : ∃ x, x ∈ ks ∧ q.1 = Sum.inr x := by
  unfold kz at h
  obtain ⟨p, hp, e⟩ := List.mem_map.mp h
  exact ⟨p.1, (List.of_mem_zip hp).1, by rw [← e]⟩
theorem kz_len {ks : List Str} {vs : List V} (h : ks.length = vs.length) : (kz ks vs).length = ks.length := by
  unfold kz
  rw [List.length_map, List.length_zip, h]
  exact Nat.min_self _
theorem Env.put_keys (x : Str) (v : Val) : ∀ e : Env, (e.put x v).keys = if x ∈ e.keys then e.keys else e.keys ++ [x]
  | .nil => by simp [Env.put, Env.keys]
  | .cons y w r => by
    have ih := Env.put_keys x v r
    unfold Env.put
    by_cases c : y = x
    · rw [if_pos c]
      subst c
      show y :: r.keys = if y ∈ y :: r.keys then y :: r.keys else _
      rw [if_pos (List.mem_cons_self ..)]
    · rw [if_neg c]
      show y :: (r.put x v).keys = if x ∈ y :: r.keys then y :: r.keys else y :: r.keys ++ [x]
      rw [ih]
      by_cases m : x ∈ r.keys
      · rw [if_pos m, if_pos (List.mem_cons_of_mem _ m)]
      · rw [if_neg m, if_neg fun h => (List.mem_cons.mp h).elim (fun e => c e.symm) m]
        rfl
theorem Env.put_nd {x : Str} {v : Val} {e : Env} (h : e.keys.Nodup) : (e.put x v).keys.Nodup := by
  rw [Env.put_keys]
  split
  · exact h
  · rename_i n; exact nd_snoc h n
theorem Env.put_len (x : Str) (v : Val) (e : Env) : (e.put x v).len ≤ e.len + 1 := by
  rw [← Env.len_keys, Env.put_keys, ← Env.len_keys]
  split
  · omega
  · rw [List.length_append]; exact Nat.le_refl _
theorem env_put {R : Hp} {x : Str} {u : Val} {v : V} (a : At R u.d v) : ∀ {e : Env} {vs : List V}, e.keys.Nodup → Ats R e.ds vs → ∃ ws, putK (kz e.keys vs) (Sum.inr x : Key) v = kz (e.put x u).keys ws ∧ Ats R (e.put x u).ds ws
  | .nil, vs, _, h => by
    rw [show vs = [] from h]
    exact ⟨[v], rfl, v, [], rfl, a, rfl⟩
  | .cons y w r, vs, n, h => by
    obtain ⟨z, rs, rfl, hz, hr⟩ := h
    obtain ⟨n1, n2⟩ := List.nodup_cons.mp n
    show ∃ ws, putK (((Sum.inr y : Key), z) :: kz r.keys rs) (Sum.inr x : Key) v = _ ∧ _
    unfold Env.put
    by_cases c : y = x
    · rw [if_pos c]
      subst c
      refine ⟨v :: rs, ?_, v, rs, rfl, a, hr⟩
      rw [putK_pos rfl fun q hq => by
        obtain ⟨x, hx, e⟩ := kz_mem hq
        rw [e]
        exact fun e => n1 (by rw [← Sum.inr.inj e]; exact hx)]
      rfl
    · rw [if_neg c]
      obtain ⟨ws, e1, e2⟩ := env_put a (e := r) n2 hr
      refine ⟨z :: ws, ?_, z, ws, rfl, hz, e2⟩
      rw [putK_neg fun e => c (Sum.inr.inj e), e1]
      rfl
theorem env_get {R : Hp} {x : Str} {u : Val} : ∀ {e : Env} {vs : List V}, e.get x = some u → Ats R e.ds vs → ∃ v, valV (kz e.keys vs) (Sum.inr x : Key) = some v ∧ At R u.d v
  | .nil, _, h, _ => by cases h
  | .cons y w r, vs, h, a => by
    obtain ⟨z, rs, rfl, hz, hr⟩ := a
    unfold Env.get at h
    show ∃ v, valV (((Sum.inr y : Key), z) :: kz r.keys rs) (Sum.inr x : Key) = some v ∧ _
    by_cases c : y = x
    · rw [if_pos c] at h
      cases h
      exact ⟨z, valV_pos (p := ((Sum.inr y : Key), z)) (by rw [c]), hz⟩
    · rw [if_neg c] at h
      obtain ⟨v, e1, e2⟩ := env_get (e := r) h hr
      exact ⟨v, by rw [valV_neg (p := ((Sum.inr y : Key), z)) fun e => c (Sum.inr.inj e)]; exact e1, e2⟩
theorem merge1 {kvs : List (Key × V)} {k : Key} {v : V} : mergeK kvs (mergeK [] [(k, v)]) = putK kvs k v := rfl
theorem putK_twice {kvs : List (Key × V)} {k : Key} {v u : V} : putK (putK kvs k v) k u = putK kvs k u := by
  have hm : ∀ l : List (Key × V), (l.map fun kv => if kv.1 = k then (kv.1, v) else kv).map (fun kv => if kv.1 = k then (kv.1, u) else kv) = l.map fun kv => if kv.1 = k then (kv.1, u) else kv := fun l => by
    rw [List.map_map]
    refine List.map_congr_left fun q _ => ?_
    show (if (if q.1 = k then (q.1, v) else q).1 = k then ((if q.1 = k then (q.1, v) else q).1, u) else (if q.1 = k then (q.1, v) else q)) = _
    by_cases c : q.1 = k
    · rw [if_pos c, if_pos c, if_pos c]
    · simp only [if_neg c]
  by_cases c : (kvs.any fun kv => decide (kv.1 = k)) = true
  · have e1 : putK kvs k v = kvs.map fun kv => if kv.1 = k then (kv.1, v) else kv := if_pos c
    have c2 : ((putK kvs k v).any fun kv => decide (kv.1 = k)) = true := by
      rw [e1, List.any_map]
      obtain ⟨q, hq, hk⟩ := List.any_eq_true.mp c
      refine List.any_eq_true.mpr ⟨q, hq, ?_⟩
      have hk := of_decide_eq_true hk
      show decide ((if q.1 = k then (q.1, v) else q).1 = k) = true
      rw [if_pos hk]
      exact decide_eq_true hk
    show (if ((putK kvs k v).any fun kv => decide (kv.1 = k)) = true then _ else _) = if (kvs.any fun kv => decide (kv.1 = k)) = true then _ else _
    rw [if_pos c2, if_pos c, e1, hm]
  · have e1 : putK kvs k v = kvs ++ [(k, v)] := if_neg c
    have c2 : ((putK kvs k v).any fun kv => decide (kv.1 = k)) = true := by
      rw [e1, List.any_append]
      simp
    have c3 : ∀ q ∈ kvs, q.1 ≠ k := fun q hq e => c (List.any_eq_true.mpr ⟨q, hq, decide_eq_true e⟩)
    show (if ((putK kvs k v).any fun kv => decide (kv.1 = k)) = true then _ else _) = if (kvs.any fun kv => decide (kv.1 = k)) = true then _ else _
    rw [if_pos c2, if_neg c, e1, List.map_append]
    congr 1
    · have : kvs.map (fun kv => if kv.1 = k then (kv.1, u) else kv) = kvs.map id := List.map_congr_left fun q hq => if_neg (c3 q hq)
      rw [this, List.map_id]
    · show [if k = k then (k, u) else (k, v)] = [(k, u)]
      rw [if_pos rfl]
theorem merge2 {kvs : List (Key × V)} {k j : Key} {v u : V} : mergeK kvs (mergeK [] [(k, v), (j, u)]) = putK (putK kvs k v) j u := by
  show mergeK kvs (putK (putK [] k v) j u) = _
  by_cases c : k = j
  · subst c
    rw [putK_twice, putK_twice]
    rfl
  · show mergeK kvs (putK [(k, v)] j u) = _
    rw [putK_neg (show ((k, v) : Key × V).1 ≠ j from c)]
    rfl
/-- a dict comprehension over anything that walks -/
theorem dc_it {J : It} {n : Nat} {G : Hp → Prop} {Y : Nat → Hp → V → Hp → Prop} (w : Walk J n G Y) {g : TG} {tt : TT} {tk tv : TE} {vs : List Nat} {σ : L2.St} {H1 : Hp} {D : Addr} {Qd : Hp → Prop} (Pv : Nat → Hp → Prop) (h0 : Pv 0 (upd H1 D (.dK []))) (hG : ∀ i H, i ≤ n → Pv i H → G H)
    (hs : ∀ i x H H', i < n → Pv i H → Y i H x H' → g x (wipe σ vs) H' fun σ2 H2 => wipe σ2 vs = wipe σ vs ∧ tt σ2 H2 fun b H3 =>
      if b = true then tk σ2 H3 fun y H4 => tv σ2 H4 fun z H5 => ∃ kvs k, y = kV k ∧ H5 D = some (.dK kvs) ∧ kvs.length < sizeLine ∧ Pv (i + 1) (upd H5 D (.dK (putK kvs k z))) else Pv (i + 1) H3) (hd : ∀ H, Pv n H → Qd H) :
    ∃ W : Nat → Nat → Hp → Prop, (∃ m, W 0 m (upd H1 D (.dK []))) ∧ ∀ i m H, W i m H →
      (J.stop i H ∧ Qd H) ∨ (J.go i H ∧ ∃ Nx : Hp → Prop, (∀ H', Nx H' → ∃ m', m' < m ∧ W (i + 1) m' H') ∧ ∀ x H', J.yld i H x H' → g x (wipe σ vs) H' fun σ2 H2 => wipe σ2 vs = wipe σ vs ∧ tt σ2 H2 fun b H3 =>
        if b = true then tk σ2 H3 fun y H4 => tv σ2 H4 fun z H5 => ∃ kvs k, y = kV k ∧ H5 D = some (.dK kvs) ∧ kvs.length < sizeLine ∧ Nx (upd H5 D (.dK (putK kvs k z))) else Nx H3) := by
  refine ⟨fun i m H => m + i = n ∧ Pv i H, ⟨n, rfl, h0⟩, fun i m H ⟨hm, p⟩ => ?_⟩
  cases m with
  | zero =>
    obtain rfl : i = n := by omega
    exact .inl ⟨w.stops H (hG _ H (Nat.le_refl _) p), hd H p⟩
  | succ m =>
    have lt : i < n := by omega
    have gg := hG i H (Nat.le_of_lt lt) p
    exact .inr ⟨w.goes i H lt gg, Pv (i + 1), fun H' p' => ⟨m, Nat.lt_succ_self _, by omega, p'⟩, fun x H' y => hs i x H H' lt p (w.yields i H x H' lt gg y)⟩
/-- the bindings of some names -/
def Env.pick (e : Env) : List Str → Option Env
  | [] => some .nil
  | x :: r => match e.get x, e.pick r with
    | some v, some t => some (.cons x v t)
    | _, _ => none
end Bz


set_option Elab.async false
set_option linter.all false
set_option maxRecDepth 100000
set_option maxHeartbeats 4000000
namespace Bz
open PySem PySem.Spec L2 PyProof.Rows
/-! ### the machine as a function -/
def Vls.len : Vls → Nat
  | .nil => 0
  | .cons _ r => r.len + 1
def Vls.snoc : Vls → Val → Vls
  | .nil, v => .cons v .nil
  | .cons w r, v => .cons w (r.snoc v)
theorem Vls.snoc_ds (v : Val) : ∀ vs : Vls, (vs.snoc v).ds = vs.ds ++ [v.d]
  | .nil => rfl
  | .cons w r => congrArg (w.d :: ·) (Vls.snoc_ds v r)
theorem Vls.len_ds : ∀ vs : Vls, vs.ds.length = vs.len
  | .nil => rfl
  | .cons _ r => congrArg (· + 1) (Vls.len_ds r)
def v0 : Vls → Option Unit
  | .nil => some ()
  | _ => none
def v1 : Vls → Option Val
  | .cons v .nil => some v
  | _ => none
def v2 : Vls → Option (Val × Val)
  | .cons v (.cons w .nil) => some (v, w)
  | _ => none
def vFlag : Val → Option Bool
  | .flag b => some b
  | _ => none
def vNum : Val → Option Int
  | .num n => some n
  | _ => none
def vPair : Val → Option (Val × Val)
  | .pair a b => some (a, b)
  | _ => none
theorem v0_of {vs : Vls} {u : Unit} (h : v0 vs = some u) : vs = .nil := by
  cases vs with
  | nil => rfl
  | cons _ _ => cases h
theorem v1_of {vs : Vls} {v : Val} (h : v1 vs = some v) : vs = .cons v .nil := by
  match vs, h with
  | .cons w .nil, h => cases h; rfl
theorem v2_of {vs : Vls} {p : Val × Val} (h : v2 vs = some p) : vs = .cons p.1 (.cons p.2 .nil) := by
  match vs, h with
  | .cons w (.cons z .nil), h => cases h; rfl
theorem vFlag_of {v : Val} {b : Bool} (h : vFlag v = some b) : v = .flag b := by cases v <;> cases h; rfl
theorem vNum_of {v : Val} {b : Int} (h : vNum v = some b) : v = .num b := by cases v <;> cases h; rfl
theorem vPair_of {v : Val} {p : Val × Val} (h : vPair v = some p) : v = .pair p.1 p.2 := by cases v <;> cases h; rfl
def putG (env : Env) (x : Str) (v : Val) : Option Env := if env.len ≤ 900 then some (env.put x v) else none
theorem putG_of {env e : Env} {x : Str} {v : Val} (h : putG env x v = some e) : env.len ≤ 900 ∧ e = env.put x v := by
  unfold putG at h
  split at h
  · rename_i c; cases h; exact ⟨c, rfl⟩
  · cases h
def pickG (env : Env) (l : List Str) : Option Env := (env.pick l).bind fun en => if en.len ≤ 900 then some en else none
theorem pickG_of {env e : Env} {l : List Str} (h : pickG env l = some e) : e.len ≤ 900 ∧ env.pick l = some e := by
  unfold pickG at h
  obtain ⟨en, h1, h2⟩ := Option.bind_eq_some_iff.mp h
  split at h2
  · rename_i c; cases h2; exact ⟨c, h1⟩
  · cases h2
abbrev inRb (a : Int) : Bool := decide (-4294967296 ≤ a) && decide (a ≤ 4294967296)
abbrev Rz := Ms × Tree × Env
def callM (m : Ms) (e : Ex) (env : Env) (f g : Val) : Option Rz := match m.left with
  | 0 => some ({ m with fin := some .steps }, .ex e, env)
  | n + 1 => match f with
    | .kept ps => if ps.len + m.pcs.len ≤ 900000 then some (({ m with left := n }).back ps, .known g, env) else none
    | .clo (.fn x b) out => (putG out x g).map fun o => ({ m with left := n }, .ex b, o)
    | .clo (.rc h x b) out => if out.len ≤ 900 then some ({ m with left := n }, .ex b, (out.put h f).put x g) else none
    | _ => none
def allHd : Pcs → Bool
  | .nil => true
  | .cons (.hd _ _ _ _) _ _ r => allHd r
  | _ => false
def askM (m : Ms) (e : Ex) (env : Env) (o : Str) (v : Val) : Option Rz := match m.left with
  | 0 => some ({ m with fin := some .steps }, .ex e, env)
  | n + 1 => if allHd m.pcs = true ∧ m.pcs.len ≤ 900000 then match m.pcs.answer o with
    | none => some ({ m with left := n, fin := some (.unh o) }, .ex e, env)
    | some (p, q, out, x, k, g) => if out.len ≤ 900 then some ({ m with left := n, pcs := q, kept := m.kept + p.len }, .ex g, (out.put x v).put k (.kept p)) else none
    else none
def ruleM (m : Ms) (e : Ex) (env : Env) (vs : Vls) : Option Rz := match e with
  | .num n => (v0 vs).map fun _ => (m, .known (.num n), env)
  | .flag b => (v0 vs).map fun _ => (m, .known (.flag b), env)
  | .unit => (v0 vs).map fun _ => (m, .known .unit, env)
  | .name x => (v0 vs).bind fun _ => (env.get x).map fun v => (m, .known v, env)
  | .fn x b => (v0 vs).bind fun _ => (pickG env (fv (.fn x b))).map fun en => (m, .known (.clo (.fn x b) en), env)
  | .rc h x b => (v0 vs).bind fun _ => (pickG env (fv (.rc h x b))).map fun en => (m, .known (.clo (.rc h x b) en), env)
  | .call f a => (v2 vs).bind fun p => callM m (.call f a) env p.1 p.2
  | .lt x _ b => (v1 vs).bind fun v => (putG env x v).map fun en => (m, .ex b, en)
  | .ite _ f g => (v1 vs).bind fun v => (vFlag v).map fun c => (m, .ex (if c then f else g), env)
  | .pair _ _ => (v2 vs).map fun p => (m, .known (.pair p.1 p.2), env)
  | .fst _ => (v1 vs).bind fun v => (vPair v).map fun p => (m, .known p.1, env)
  | .snd _ => (v1 vs).bind fun v => (vPair v).map fun p => (m, .known p.2, env)
  | .op s _ _ => (v2 vs).bind fun p => (vNum p.1).bind fun a => (vNum p.2).bind fun b => if (inRb a && inRb b) = true then some (m, .known (oper s a b), env) else none
  | .nt _ => (v1 vs).bind fun v => (vFlag v).map fun c => (m, .known (.flag (!c)), env)
  | .pr _ f => (v1 vs).bind fun v => (vNum v).bind fun a => if m.prints.length ≤ 900000 then some ({ m with prints := m.prints ++ [a] }, .ex f, env) else none
  | .ask o a => (v1 vs).bind fun v => askM m (.ask o a) env o v
  | .hd _ _ _ _ => none
def evs : Ex → List Ex
  | .call f e => [f, e] | .lt _ e _ => [e] | .ite e _ _ => [e] | .pair e f => [e, f] | .fst e => [e] | .snd e => [e]
  | .op _ e f => [e, f] | .nt e => [e] | .pr e _ => [e] | .ask _ e => [e] | .hd e _ _ _ => [e]
  | _ => []
def evIdx : Ex → List Int
  | .call _ _ => [1, 2] | .lt _ _ _ => [2] | .ite _ _ _ => [1] | .pair _ _ => [1, 2] | .fst _ => [1] | .snd _ => [1]
  | .op _ _ _ => [2, 3] | .nt _ => [1] | .pr _ _ => [1] | .ask _ _ => [2] | .hd _ _ _ _ => [1]
  | _ => []
def isHd : Ex → Bool
  | .hd _ _ _ _ => true
  | _ => false
def goM (m : Ms) (e : Ex) (env : Env) (vs : Vls) : Option Rz := match (evs e)[vs.len]? with
  | none => ruleM m e env vs
  | some p => if isHd e = true then (if m.pcs.len ≤ 900000 then some (m.back (.cons e env .nil .nil), .ex p, env) else none) else some (m.wait e env vs, .ex p, env)
def endM (m : Ms) (v : Val) : Option (Ms × Tree × Option Env) := match m.pcs with
  | .nil => if shpSz v.shp ≤ 900000 then some ({ m with fin := some (.val v.shp) }, .known v, none) else none
  | .cons (.hd _ x f _) env _ r => (putG env x v).map fun en => ({ m with pcs := r }, .ex f, some en)
  | _ => none
where shpSz : Shp → Nat
  | .pair a b => shpSz a + shpSz b + 1
  | _ => 1
def stepM (m : Ms) (t : Tree) (env : Option Env) : Option (Ms × Tree × Option Env) := match t with
  | .ex e => match env with
    | some en => (goM m e en .nil).map fun r => (r.1, r.2.1, some r.2.2)
    | none => none
  | .known v => match m.top with
    | .nil => endM m v
    | .cons e en vs r => (goM (m.setTop r) e en (vs.snoc v)).map fun r => (r.1, r.2.1, some r.2.2)
def runM : Nat → Ms → Tree → Option Env → Option Ms
  | 0, _, _, _ => none
  | n + 1, m, t, env => match m.fin with
    | some _ => some m
    | none => (stepM m t env).bind fun r => runM n r.1 r.2.1 r.2.2
/-- the state as the stack's made data -/
-- msk stands behind the stack
def startM (n : Nat) : Ms := ⟨n, [], none, .nil, .nil, 0, 1⟩
end Bz


set_option Elab.async false
set_option linter.all false
set_option maxRecDepth 100000
set_option maxHeartbeats 4000000
namespace Bz
open PySem PySem.Spec L2 PyProof.Rows
/-! ### y = {.. for ..}, and a call of a local that holds a def -/
section
variable {X : Cx}
theorem ps_setDc {i : Nat} {y : Str} {py : Pos} {kx vx tg iter : Expr} {ifs : List Expr} {scope : Scope} {own : List (Str × Nat)} {pos spos : Pos} {wi : TI} {g : TG} {tt : TT} {tk tv : TE} (hc : X.calm = true) (hN : X.N.Nodup) (hy : X.N[i]? = some y) (hyl : X.env.scope.names.lookup y = some .local)
    (hsw : swapsWith (.DictComp kx vx [⟨tg, iter, ifs, 0⟩] scope pos) (some (.Name y py)) spos.line X.env = pure true) (hi : PI X tg iter wi) (ok : BlkOk X.N X.env.scope scope own)
    (hg : ∀ (s : Shared) (H : Hp) (C : Addr) (cl : List (Str × Addr)) (fp : List Addr), PG (X.blk s H scope (compEnvC scope cl C X.env) fp) tg g) (ht : ∀ (s : Shared) (H : Hp) (C : Addr) (cl : List (Str × Addr)) (fp : List Addr), PTs (X.blk s H scope (compEnvC scope cl C X.env) fp) ifs tt)
    (hk : ∀ (s : Shared) (H : Hp) (C : Addr) (cl : List (Str × Addr)) (fp : List Addr), PE (X.blk s H scope (compEnvC scope cl C X.env) fp) kx tk)
    (he : ∀ (s : Shared) (H : Hp) (C : Addr) (cl : List (Str × Addr)) (fp : List Addr), PE (X.blk s H scope (compEnvC scope cl C X.env) fp) vx tv) (hs : ∀ x, foldedSetIterable iter X.env x = pure x := by intro _; rfl) :
    PS X (.Assign [.Name y py] (.DictComp kx vx [⟨tg, iter, ifs, 0⟩] scope pos) spos) (tAsg (tDc wi g tt tk tv (own.map (·.2))) (gName i)) := by
  refine ⟨fun pins s σ H D I h => ?_⟩
  rw [exec_Assign_Name_used _ _ _ _ hsw]
  refine wpAny_bind (wpAny_standAt (wpAny_bind ?_))
  show wpAny _ X.A (do let _ ← comprehension (.DictComp kx vx [⟨tg, iter, ifs, 0⟩] scope pos) scope X.env (firstIterPos [⟨tg, iter, ifs, 0⟩] pos) newDict false (eval iter X.env) (some (assign (.Name y py) X.env))) _ _ s
  have h : tDc wi g tt tk tv (own.map (·.2)) σ H (fun x H1 => gName i x σ H1 D.nx) := h
  refine wpAny_bind (thn (dc_core (Qf := fun _ s' => SP X pins D .next s') hc hN I hi ok hg ht hk he hs h fun L C s' m H' I' q hn ⟨f0, f1, f2, f3, f4, f5⟩ => ?_) fun _ s' hq => wpAny_pure (wpAny_pure hq))
  show wpAny _ _ (assign (.Name y py) X.env (.ref L)) _ _ _
  refine wpAny_assign_Name (store_ok2 (v := V.ref L) I' hN hy (.inl hyl) rfl (fun s2 I2 ⟨a, sb, ha⟩ => ?_) (.inr hyl))
  have haC : C ≠ a := ha.elim (fun z => by rw [z]; exact f1) fun z e => f4 y a z e.symm
  exact ⟨m, hn.sameBut sb haC, fun h3 sb3 => ⟨_, H', I2.turned (t' := s2.toks) (fun b o hb e => (sb3.2 b hb).trans e) f0 f1 f3 f4 f5, q⟩⟩
theorem swD_true {kx vx : Expr} {gs : List Comprehension} {scope : Scope} {pos py : Pos} {y : Str} {l : Nat} {env : PySem.Env} (hk : env.scope.kind = .function) (hy : env.scope.names.lookup y = some .local) (hl : (py.line == pos.line) = true)
    (ha : (scope.names.any fun (n, k) => n == y && (k == .local || k == .cell)) = false) : swapsWith (.DictComp kx vx gs scope pos) (some (.Name y py)) l env = pure true := by
  have ky : env.kindOf y = some .local := hy
  have hb : env.blockKind = .function := by
    unfold Env.blockKind
    rw [hk]
    rfl
  unfold swapsWith
  simp only [hb, ky, ha, Expr.pos, hl]
  rfl
end
theorem pe_callR {ι : Type} {X : Cx} {CXc : CXT} {k i : Nat} {ad : ι → Addr} {sp : ι → Sp} {E : XK} {x : Str} {p pos : Pos} {e : Expr} {es : List Expr} {t : TA}
    (A : ∀ a, ∃ fd ps, FnOk X.prog X.w X.K X.mg X.base CXc k (ad a) fd ps (sp a) ∧ PySem.W.keepIn X.K (.ref (ad a)) = true ∧ Binds X.K fd ps []) (hr : Room k X.A) (hN : X.N[i]? = some x) (hv : Vis X.env.scope x) (hx : Passes CXc X E) (ha : PA X (e :: es) t)
    (hdb : (x == ("__debug__" : Str)) = false := by decide) (hcd : (x == ("__classdict__" : Str)) = false := by decide)
    (he : starEach (e :: es) X.env = (false, eval e X.env) :: starEach es X.env := by rfl) (hpl : (backTo pos (starEach es X.env)).any (·.1) = false := by rfl) :
    PE X (.Call (.Name x p) (e :: es) [] pos) (fun σ H Q => ∃ a, σ[i]? = some (some (.ref (ad a))) ∧ t σ H fun vs H1 => sp a vs H1 Q E) := by
  refine ⟨fun pins s σ H Q I h => ?_⟩
  obtain ⟨a, hs, ht⟩ := h
  obtain ⟨fd, ps, F, hk, hb⟩ := A a
  refine (pe_callL (i := i) (f := ad a) (sp := sp a) (dvs := []) (E := E) F hr hN hv hk hb .nil hx ha hdb hcd he hpl).run pins s σ H Q I ⟨hs, ?_⟩
  have e0 : (fun (vs : List V) (H1 : Hp) => sp a (vs ++ []) H1 Q E) = fun vs H1 => sp a vs H1 Q E := by
    funext vs H1
    rw [List.append_nil]
  show t σ H (fun vs H1 => sp a (vs ++ []) H1 Q E)
  rw [e0]
  exact ht
end Bz


set_option Elab.async false
set_option linter.all false
set_option maxRecDepth 100000
set_option maxHeartbeats 4000000
namespace Bz
open PySem PySem.Spec L2 PyProof.Rows
def topS (i : Nat) : Stmt := PySem.Challenge.pw_askedfor_k21_pieces_of_nested_handlers.main.body.getD i (.Pass ⟨0, 0, 0, 0⟩)
/-- a def that is called by its name -/
structure Fn (P : Program) (w : World) (K : PySem.W.Frag) (mg : Str → Option Value) (base : Heap) (X : CXT) (k : Nat) (x : Str) (ps : List Str) (sp : Sp) (f : Addr) (fd : FuncData) : Prop where
  ok : FnOk P w K mg base X k f fd ps sp
  g : mg x = some (.ref f)
  kp : PySem.W.keepIn K (.ref f) = true
  b : Binds K fd ps []
theorem Fn.up {P : Program} {w : World} {K : PySem.W.Frag} {mg : Str → Option Value} {base : Heap} {X : CXT} {j k : Nat} {x : Str} {ps : List Str} {sp : Sp} {f : Addr} {fd : FuncData} (h : Fn P w K mg base X j x ps sp f fd) (l : j ≤ k) : Fn P w K mg base X k x ps sp f fd := ⟨h.ok.mono l, h.g, h.kp, h.b⟩
section
variable {P : Program} {w : World} {K : PySem.W.Frag} {mg : Str → Option Value} {base : Heap}
abbrev g_wrapped : Stmt := topS 4
abbrev n_wrapped : List Str := ["number"]
abbrev p_wrapped : List Str := ["number"]
theorem sc_wrapped : FnScope n_wrapped p_wrapped (defScope g_wrapped) := ⟨rfl, rfl, rfl, by decide +kernel, rfl, by decide +kernel, by decide +kernel⟩
def spWrapped : Sp := fun vs H Q _ => ∃ n : Int, vs = [.int n] ∧ Q (.int (wrap n)) H
theorem ok_wrapped {f : Addr} {fd : FuncData} {tk : Tok} (F : Fun K "wrapped" "wrapped" g_wrapped f fd) (gH : mg "HALF" = some (.int 2147483648 tk)) : FnOk P w K mg base CX0 1 f fd p_wrapped spWrapped := by
  refine F.ok sc_wrapped (fun vs H Q E h => ?_) (fun cdv A outer s H vs Q E hr h => ?_)
  · obtain ⟨n, rfl, _⟩ := h
    rfl
  · obtain ⟨n, rfl, q⟩ := h
    refine ⟨_, (pss_one (ps_ret (pe_op op_sub (pe_op op_mod (pe_op op_add (pv 0) (pe_glob (v := .int 2147483648) rfl gH ⟨_, rfl⟩)) (pe_op op_mul (pe_int) (pe_glob (v := .int 2147483648) rfl gH ⟨_, rfl⟩))) (pe_glob (v := .int 2147483648) rfl gH ⟨_, rfl⟩)))), ?_⟩
    exact ⟨_, rfl, _, _, rfl, rfl, _, _, rfl, rfl, .inl ⟨by decide, by decide⟩, _, _, rfl, rfl, (by show (0 : Int) < 4294967296; decide), _, _, rfl, rfl, q⟩
abbrev g_operated : Stmt := topS 5
abbrev n_operated : List Str := ["sign", "left", "right"]
abbrev p_operated : List Str := ["sign", "left", "right"]
theorem sc_operated : FnScope n_operated p_operated (defScope g_operated) := ⟨rfl, rfl, rfl, by decide +kernel, rfl, by decide +kernel, by decide +kernel⟩
def inR (a : Int) : Prop := -4294967296 ≤ a ∧ a ≤ 4294967296
def spOperated : Sp := fun vs H Q _ => ∃ (R : Hp) (s : Str) (a b : Int) (l r : V), vs = [.str s, l, r] ∧ Same R H ∧ At R (Val.num a).d l ∧ At R (Val.num b).d r ∧ inR a ∧ inR b ∧
  ∀ (R' H' : Hp) (v : V), Mv F0 R H R' H' → At R' (oper s a b).d v → Q v H'
theorem new2 {R H : Hp} {x : Str} {v : V} {d : D} (s : Same R H) (a : At R d v) {Q : V → Hp → Prop} (q : ∀ (R' H' : Hp) (u : V), Mv F0 R H R' H' → At R' (.tup [.str x, d]) u → Q u H') : [V.str x, v].length ≤ sizeLine ∧ ∀ p, H p = none → Q (.ref p) (upd H p (.tup [.str x, v])) :=
  ⟨(by show 2 ≤ sizeLine; decide), fun p n => q _ _ _ (mv_new s n) (.ntup s n ⟨_, _, rfl, rfl, _, _, rfl, a, rfl⟩)⟩
theorem ok_operated {f fW : Addr} {fd fdW : FuncData} (F : Fun K "operated" "operated" g_operated f fd) (GW : Fn P w K mg base CX0 1 "wrapped" p_wrapped spWrapped fW fdW) : FnOk P w K mg base CX0 2 f fd p_operated spOperated := by
  refine F.ok sc_operated (fun vs H Q E h => ?_) (fun cdv A outer st H vs Q E hr h => ?_)
  · obtain ⟨R, s, a, b, l, r, rfl, _⟩ := h
    rfl
  · obtain ⟨R, s, a, b, l, r, rfl, sub, hl, hr', ia, ib, q⟩ := h
    refine ⟨_, (pss_cons (ps_if (pt_cmpR op_eq (pv 0) (pe_str) (nomark _)) (pss_one (ps_ret (pe_tup (pa_cons (pe_str) (pa_cons (pe_call GW.ok hr (by rfl) GW.g GW.kp GW.b .nil pass0 (pa_cons (pe_op op_add (pe_ix ix_tup (pv 1) (pe_int) (fun _ _ => rfl)) (pe_ix ix_tup (pv 2) (pe_int) (fun _ _ => rfl))) pa_nil)) pa_nil))))) pss_nil)
      (pss_cons (ps_if (pt_cmpR op_eq (pv 0) (pe_str) (nomark _)) (pss_one (ps_ret (pe_tup (pa_cons (pe_str) (pa_cons (pe_call GW.ok hr (by rfl) GW.g GW.kp GW.b .nil pass0 (pa_cons (pe_op op_sub (pe_ix ix_tup (pv 1) (pe_int) (fun _ _ => rfl)) (pe_ix ix_tup (pv 2) (pe_int) (fun _ _ => rfl))) pa_nil)) pa_nil))))) pss_nil)
      (pss_cons (ps_if (pt_cmpR op_eq (pv 0) (pe_str) (nomark _)) (pss_one (ps_ret (pe_tup (pa_cons (pe_str) (pa_cons (pe_call GW.ok hr (by rfl) GW.g GW.kp GW.b .nil pass0 (pa_cons (pe_op op_mul (pe_ix ix_tup (pv 1) (pe_int) (fun _ _ => rfl)) (pe_ix ix_tup (pv 2) (pe_int) (fun _ _ => rfl))) pa_nil)) pa_nil))))) pss_nil)
      (pss_cons (ps_if (pt_cmpR op_eq (pv 0) (pe_str) (nomark _)) (pss_one (ps_ret (pe_tup (pa_cons (pe_str) (pa_cons (pe_cmpR op_lt (pe_ix ix_tup (pv 1) (pe_int) (fun _ _ => rfl)) (pe_ix ix_tup (pv 2) (pe_int) (fun _ _ => rfl)) (nomark _)) pa_nil))))) pss_nil)
      (pss_one (ps_ret (pe_tup (pa_cons (pe_str) (pa_cons (pe_cmpR op_eq (pe_ix ix_tup (pv 1) (pe_int) (fun _ _ => rfl)) (pe_ix ix_tup (pv 2) (pe_int) (fun _ _ => rfl)) (nomark _)) pa_nil))))))))), ?_⟩
    obtain ⟨pl, _, rfl, hl, _, _, rfl, rfl, _, _, rfl, rfl, rfl⟩ := hl
    obtain ⟨pr, _, rfl, hr2, _, _, rfl, rfl, _, _, rfl, rfl, rfl⟩ := hr'
    have hl := sub _ _ hl
    have hr2 := sub _ _ hr2
    unfold oper at q
    have dec : ∀ c : Str, decide (V.str s = V.str c) = decide (s = c) := fun c => decide_eq_decide.mpr ⟨fun e => V.str.inj e, fun e => by rw [e]⟩
    refine ⟨_, rfl, rfl, _, rfl, ?_⟩
    rw [dec]
    refine ite2 (fun c => ?_) (fun c => ?_)
    · rw [if_pos (of_decide_eq_true c)] at q
      refine ⟨_, rfl, pl, _, 1, _, rfl, rfl, SqT.of hl, rfl, _, rfl, pr, _, 1, _, rfl, rfl, SqT.of hr2, rfl, _, _, rfl, rfl, ?_⟩
      exact ⟨_, rfl, new2 sub at_int q⟩
    rw [if_neg fun e => c (decide_eq_true e)] at q
    refine ⟨_, rfl, rfl, _, rfl, ?_⟩
    rw [dec]
    refine ite2 (fun c => ?_) (fun c => ?_)
    · rw [if_pos (of_decide_eq_true c)] at q
      refine ⟨_, rfl, pl, _, 1, _, rfl, rfl, SqT.of hl, rfl, _, rfl, pr, _, 1, _, rfl, rfl, SqT.of hr2, rfl, _, _, rfl, rfl, ?_⟩
      exact ⟨_, rfl, new2 sub at_int q⟩
    rw [if_neg fun e => c (decide_eq_true e)] at q
    refine ⟨_, rfl, rfl, _, rfl, ?_⟩
    rw [dec]
    refine ite2 (fun c => ?_) (fun c => ?_)
    · rw [if_pos (of_decide_eq_true c)] at q
      refine ⟨_, rfl, pl, _, 1, _, rfl, rfl, SqT.of hl, rfl, _, rfl, pr, _, 1, _, rfl, rfl, SqT.of hr2, rfl, _, _, rfl, rfl, .inl ⟨by have := ia.1; omega, by have := ia.2; omega⟩, ?_⟩
      exact ⟨_, rfl, new2 sub at_int q⟩
    rw [if_neg fun e => c (decide_eq_true e)] at q
    refine ⟨_, rfl, rfl, _, rfl, ?_⟩
    rw [dec]
    refine ite2 (fun c => ?_) (fun c => ?_)
    · rw [if_pos (of_decide_eq_true c)] at q
      refine ⟨_, rfl, pl, _, 1, _, rfl, rfl, SqT.of hl, rfl, _, rfl, pr, _, 1, _, rfl, rfl, SqT.of hr2, rfl, _, _, rfl, rfl, ?_⟩
      exact new2 sub at_bl q
    rw [if_neg fun e => c (decide_eq_true e)] at q
    refine ⟨_, rfl, pl, _, 1, _, rfl, rfl, SqT.of hl, rfl, _, rfl, pr, _, 1, _, rfl, rfl, SqT.of hr2, rfl, rfl, ?_⟩
    have di : decide (V.int a = V.int b) = decide (a = b) := decide_eq_decide.mpr ⟨fun e => V.int.inj e, fun e => by rw [e]⟩
    rw [di]
    exact new2 sub at_bl q
abbrev g_negated : Stmt := topS 6
abbrev n_negated : List Str := ["value"]
abbrev p_negated : List Str := ["value"]
theorem sc_negated : FnScope n_negated p_negated (defScope g_negated) := ⟨rfl, rfl, rfl, by decide +kernel, rfl, by decide +kernel, by decide +kernel⟩
def spNegated : Sp := fun vs H Q _ => ∃ (R : Hp) (b : Bool) (v : V), vs = [v] ∧ Same R H ∧ At R (Val.flag b).d v ∧ ∀ (R' H' : Hp) (v : V), Mv F0 R H R' H' → At R' (Val.flag (!b)).d v → Q v H'
theorem ok_negated {f : Addr} {fd : FuncData} (F : Fun K "negated" "negated" g_negated f fd) : FnOk P w K mg base CX0 1 f fd p_negated spNegated := by
  refine F.ok sc_negated (fun vs H Q E h => ?_) (fun cdv A outer st H vs Q E hr h => ?_)
  · obtain ⟨R, b, v, rfl, _⟩ := h
    rfl
  · obtain ⟨R, b, v, rfl, sub, hv, q⟩ := h
    refine ⟨_, (pss_one (ps_ret (pe_tup (pa_cons (pe_str) (pa_cons (pe_not (pe_ix ix_tup (pv 0) (pe_int) (fun _ _ => rfl))) pa_nil))))), ?_⟩
    obtain ⟨pl, _, rfl, hl, _, _, rfl, rfl, _, _, rfl, rfl, rfl⟩ := hv
    refine ⟨_, rfl, pl, _, 1, _, rfl, rfl, SqT.of (sub _ _ hl), rfl, _, rfl, ?_⟩
    exact new2 sub at_bl q
end
end Bz


set_option Elab.async false
set_option linter.all false
set_option maxRecDepth 100000
set_option maxHeartbeats 4000000
namespace Bz
open PySem PySem.Spec L2 PyProof.Rows
theorem ifT {b : Bool} {A B : Prop} (h : b = true) (z : A) : if b = true then A else B := by
  rw [if_pos h]
  exact z
theorem ifF {b : Bool} {A B : Prop} (h : b = false) (z : B) : if b = true then A else B := by
  rw [h]
  exact iteF z
theorem isF {a b : Str} (h : a = b → False) {A B : Prop} (z : B) : if decide (V.str a = V.str b) = true then A else B := by
  rw [if_neg fun e => h (V.str.inj (of_decide_eq_true e))]
  exact z
/-- what is known of a heap under a still part, when a mutable thing is looked at -/
theorem put_get {α : Type} {l : List α} {x : α} (h : l ≠ []) : ∃ p y, l = p ++ [y] := ⟨l.dropLast, l.getLast h, (List.dropLast_concat_getLast h).symm⟩
theorem atI_lastA {α : Type} {l : List α} {x : α} : atI (l ++ [x]) (-1) = some x := atI_last l x
theorem ixN_last {n : Nat} (h : 0 < n) : ixN n (-1) = some (n - 1) := by
  unfold ixN
  rw [if_neg (by decide), if_pos (by omega)]
  congr 1
  omega
theorem Ats.last {R : Hp} {l : List D} {d : D} {vs : List V} (h : Ats R (l ++ [d]) vs) : ∃ p v, vs = p ++ [v] ∧ Ats R l p ∧ At R d v := by
  obtain ⟨a, b, e, h1, v, r, e2, h2, e3⟩ := h.split
  exact ⟨a, v, by rw [e, e2, e3], h1, h2⟩
theorem Ats.snoc {R : Hp} {l : List D} {d : D} {p : List V} {v : V} (h : Ats R l p) (h2 : At R d v) : Ats R (l ++ [d]) (p ++ [v]) := h.append (.one h2)
/-! ### what a run's stack has, as made data -/
structure Sk where
  left : Nat
  prints : List Int
  fin : D
  hs : List D
  fs : List D
  kept : Nat
  most : Nat
def flds (s : Sk) (ve : V) (lp lh lf : Addr) (ext : List (Str × V)) : List (Str × V) :=
  ("left", .int s.left) :: ("prints", .ref lp) :: ("end", ve) :: ("handlers", .ref lh) :: ("frames", .ref lf) :: ("kept", .int s.kept) :: ("most", .int s.most) :: ext
def skNames : List Str := ["take_step", "end_with", "end_unhandled", "wait", "waiting", "put", "put_back", "take", "keep", "answering"]
structure XOk (ext : List (Str × V)) : Prop where
  no : ∀ x ∈ skNames, ext.lookup x = none
  few : ext.length < 900
theorem xok_nil : XOk [] := ⟨fun _ _ => rfl, by decide⟩
structure SkAt (C : Addr) (R H : Hp) (s : Sk) (a dx lp lh lf : Addr) (ext : List (Str × V)) : Prop where
  ins : ∃ ve, At R s.fin ve ∧ H a = some (.ins C dx (flds s ve lp lh lf ext))
  pr : H lp = some (.lst (s.prints.map V.int))
  hs : ∃ vs, H lh = some (.lst vs) ∧ Ats R s.hs vs
  fs : ∃ vs, H lf = some (.lst vs) ∧ Ats R s.fs vs
  nph : lp ≠ lh
  npf : lp ≠ lf
  nhf : lh ≠ lf
  ra : R a = none
  rp : R lp = none
  rh : R lh = none
  rf : R lf = none
  x : XOk ext
def Fsk (a lp lh lf : Addr) : Addr → Prop := fun x => x = a ∨ x = lp ∨ x = lh ∨ x = lf
theorem SkAt.up {C a dx lp lh lf : Addr} {R H R' H' : Hp} {s : Sk} {ext : List (Str × V)} {F : Addr → Prop} (h : SkAt C R H s a dx lp lh lf ext) (m : Mv F R H R' H') (fa : ¬ F a) (fp : ¬ F lp) (fh : ¬ F lh) (ff : ¬ F lf) : SkAt C R' H' s a dx lp lh lf ext where
  ins := let ⟨ve, e, i⟩ := h.ins; ⟨ve, e.up m.up, m.keep _ _ i fa⟩
  pr := m.keep _ _ h.pr fp
  hs := let ⟨vs, e, i⟩ := h.hs; ⟨vs, m.keep _ _ e fh, i.up m.up⟩
  fs := let ⟨vs, e, i⟩ := h.fs; ⟨vs, m.keep _ _ e ff, i.up m.up⟩
  nph := h.nph
  npf := h.npf
  nhf := h.nhf
  ra := let ⟨_, _, i⟩ := h.ins; m.out h.ra i
  rp := m.out h.rp h.pr
  rh := let ⟨_, i, _⟩ := h.hs; m.out h.rh i
  rf := let ⟨_, i, _⟩ := h.fs; m.out h.rf i
  x := h.x
theorem SkAt.up0 {C a dx lp lh lf : Addr} {R H R' H' : Hp} {s : Sk} {ext : List (Str × V)} (h : SkAt C R H s a dx lp lh lf ext) (m : Mv F0 R H R' H') : SkAt C R' H' s a dx lp lh lf ext := h.up m id id id id
theorem ne_il {C dx p q : Addr} {H : Hp} {fs : List (Str × V)} {xs : List V} (h : H p = some (.ins C dx fs)) (k : H q = some (.lst xs)) : p ≠ q := ne_of h k (by intro e; cases e)
/-- the instance gets other fields -/
theorem SkAt.setIns {C a dx lp lh lf : Addr} {R H : Hp} {s s' : Sk} {ext : List (Str × V)} {ve : V} (h : SkAt C R H s a dx lp lh lf ext) (sub : Same R H) (e1 : s'.prints = s.prints) (e2 : s'.hs = s.hs) (e3 : s'.fs = s.fs) (hv : At R s'.fin ve) :
    SkAt C R (upd H a (.ins C dx (flds s' ve lp lh lf ext))) s' a dx lp lh lf ext ∧ Mv (Fsk a lp lh lf) R H R (upd H a (.ins C dx (flds s' ve lp lh lf ext))) := by
  obtain ⟨ve0, _, i⟩ := h.ins
  obtain ⟨hv1, h1, h2⟩ := h.hs
  obtain ⟨fv1, f1, f2⟩ := h.fs
  refine ⟨⟨⟨ve, hv, upd_same⟩, ?_, ⟨hv1, ?_, by rw [e2]; exact h2⟩, ⟨fv1, ?_, by rw [e3]; exact f2⟩, h.nph, h.npf, h.nhf, h.ra, h.rp, h.rh, h.rf, h.x⟩, mv_at sub h.ra i (.inl rfl)⟩
  · rw [upd_ne (ne_il i h.pr).symm, e1]; exact h.pr
  · rw [upd_ne (ne_il i h1).symm]; exact h1
  · rw [upd_ne (ne_il i f1).symm]; exact f1
/-- a still thing is new -/
theorem SkAt.new {C a dx lp lh lf p : Addr} {R H : Hp} {s : Sk} {ext : List (Str × V)} {o : HO} (h : SkAt C R H s a dx lp lh lf ext) (sub : Same R H) (n : H p = none) : SkAt C (upd R p o) (upd H p o) s a dx lp lh lf ext := h.up0 (mv_new sub n)
theorem SkAt.setPr {C a dx lp lh lf : Addr} {R H : Hp} {s : Sk} {ext : List (Str × V)} {ns : List Int} (h : SkAt C R H s a dx lp lh lf ext) (sub : Same R H) :
    SkAt C R (upd H lp (.lst (ns.map V.int))) { s with prints := ns } a dx lp lh lf ext ∧ Mv (Fsk a lp lh lf) R H R (upd H lp (.lst (ns.map V.int))) := by
  obtain ⟨ve0, e0, i⟩ := h.ins
  obtain ⟨hv1, h1, h2⟩ := h.hs
  obtain ⟨fv1, f1, f2⟩ := h.fs
  refine ⟨⟨⟨ve0, e0, ?_⟩, upd_same, ⟨hv1, ?_, h2⟩, ⟨fv1, ?_, f2⟩, h.nph, h.npf, h.nhf, h.ra, h.rp, h.rh, h.rf, h.x⟩, mv_at sub h.rp h.pr (.inr (.inl rfl))⟩
  · rw [upd_ne (ne_il i h.pr)]; exact i
  · rw [upd_ne h.nph.symm]; exact h1
  · rw [upd_ne h.npf.symm]; exact f1
theorem SkAt.setH {C a dx lp lh lf : Addr} {R H : Hp} {s : Sk} {ext : List (Str × V)} {ds : List D} {vs : List V} (h : SkAt C R H s a dx lp lh lf ext) (sub : Same R H) (hv : Ats R ds vs) :
    SkAt C R (upd H lh (.lst vs)) { s with hs := ds } a dx lp lh lf ext ∧ Mv (Fsk a lp lh lf) R H R (upd H lh (.lst vs)) := by
  obtain ⟨ve0, e0, i⟩ := h.ins
  obtain ⟨hv1, h1, h2⟩ := h.hs
  obtain ⟨fv1, f1, f2⟩ := h.fs
  refine ⟨⟨⟨ve0, e0, ?_⟩, ?_, ⟨vs, upd_same, hv⟩, ⟨fv1, ?_, f2⟩, h.nph, h.npf, h.nhf, h.ra, h.rp, h.rh, h.rf, h.x⟩, mv_at sub h.rh h1 (.inr (.inr (.inl rfl)))⟩
  · rw [upd_ne (ne_il i h1)]; exact i
  · rw [upd_ne h.nph]; exact h.pr
  · rw [upd_ne h.nhf.symm]; exact f1
theorem SkAt.setF {C a dx lp lh lf : Addr} {R H : Hp} {s : Sk} {ext : List (Str × V)} {ds : List D} {vs : List V} (h : SkAt C R H s a dx lp lh lf ext) (sub : Same R H) (hv : Ats R ds vs) :
    SkAt C R (upd H lf (.lst vs)) { s with fs := ds } a dx lp lh lf ext ∧ Mv (Fsk a lp lh lf) R H R (upd H lf (.lst vs)) := by
  obtain ⟨ve0, e0, i⟩ := h.ins
  obtain ⟨hv1, h1, h2⟩ := h.hs
  obtain ⟨fv1, f1, f2⟩ := h.fs
  refine ⟨⟨⟨ve0, e0, ?_⟩, ?_, ⟨hv1, ?_, h2⟩, ⟨vs, upd_same, hv⟩, h.nph, h.npf, h.nhf, h.ra, h.rp, h.rh, h.rf, h.x⟩, mv_at sub h.rf f1 (.inr (.inr (.inr rfl)))⟩
  · rw [upd_ne (ne_il i f1)]; exact i
  · rw [upd_ne h.npf]; exact h.pr
  · rw [upd_ne h.nhf]; exact h1
/-- what the class must have -/
structure SkTxt (K : PySem.W.Frag) (C : Addr) : Prop where
  cl : Cls K C
  nL : NoAttr K C "left"
  nP : NoAttr K C "prints"
  nE : NoAttr K C "end"
  nH : NoAttr K C "handlers"
  nF : NoAttr K C "frames"
  nK : NoAttr K C "kept"
  nM : NoAttr K C "most"
/-- what a method leaves: a state, in a heap that is else as it was -/
def SkOut (C : Addr) (R H : Hp) (s' : Sk) (a dx lp lh lf : Addr) (ext : List (Str × V)) (good : Hp → Hp → Prop) : Prop := ∀ R' H', SkAt C R' H' s' a dx lp lh lf ext → Mv (Fsk a lp lh lf) R H R' H' → good R' H'
section
variable {P : Program} {w : World} {K : PySem.W.Frag} {mg : Str → Option Value} {base : Heap}
abbrev g_Run_take_step : Stmt := inClass (topS 3) 1
abbrev n_Run_take_step : List Str := ["self"]
abbrev p_Run_take_step : List Str := ["self"]
theorem sc_Run_take_step : FnScope n_Run_take_step p_Run_take_step (defScope g_Run_take_step) := ⟨rfl, rfl, rfl, by decide +kernel, rfl, by decide +kernel, by decide +kernel⟩
def spStep (C : Addr) : Sp := fun vs H Q _ => ∃ (a dx lp lh lf : Addr) (ext : List (Str × V)) (R : Hp) (s : Sk), vs = [.ref a] ∧ Same R H ∧ SkAt C R H s a dx lp lh lf ext ∧
  (match s.left with
   | 0 => SkOut C R H { s with fin := Fin.steps.d } a dx lp lh lf ext fun _ H' => Q (.bl false) H'
   | n + 1 => SkOut C R H { s with left := n } a dx lp lh lf ext fun _ H' => Q (.bl true) H')
theorem ok_step {f C : Addr} {fd : FuncData} (F : Fun K "take_step" "Run.take_step" g_Run_take_step f fd) (T : SkTxt K C) : FnOk P w K mg base CX0 1 f fd p_Run_take_step (spStep C) := by
  refine F.ok sc_Run_take_step (fun vs H Q E h => ?_) (fun cdv A outer st H vs Q E hr h => ?_)
  · obtain ⟨a, dx, lp, lh, lf, ext, R, s, rfl, _⟩ := h
    rfl
  · obtain ⟨a, dx, lp, lh, lf, ext, R, s, rfl, sub, hs, q⟩ := h
    refine ⟨_, (pss_cons (ps_if (pt_cmpR op_eq (pe_fld (pv 0) rfl) (pe_int) (nomark _)) (pss_cons (ps_fld (pv 0) (pe_tup (pa_cons (pe_str) pa_nil)) rfl)
      (pss_one (ps_ret (pe_bl)))) pss_nil)
      (pss_cons (ps_fldaug (pv 0) (pe_int) in_sub)
      (pss_one (ps_ret (pe_bl))))), ?_⟩
    obtain ⟨left, prints, fin, hs_, fs_, kept, most⟩ := s
    obtain ⟨ve, e0, i⟩ := hs.ins
    refine ⟨_, rfl, a, C, dx, _, _, rfl, i, T.cl, T.nL, rfl, rfl, _, rfl, ?_⟩
    cases left with
    | zero =>
      refine ifT (decide_eq_true rfl) ?_
      refine ⟨by show 1 ≤ sizeLine; decide, fun p n => ?_⟩
      have h1 := hs.new (o := .tup [.str "steps"]) sub n
      have m1 : Mv (Fsk a lp lh lf) R H _ _ := mv_new (o := .tup [.str "steps"]) sub n
      have i1 := same_new (o := .tup [.str "steps"]) n _ _ i
      refine ⟨_, rfl, a, C, dx, _, rfl, i1, T.cl, T.nE, Nat.lt_of_lt_of_le (Nat.add_lt_add_right hs.x.few 7) (by decide), ?_⟩
      obtain ⟨h2, m2⟩ := h1.setIns (s' := ⟨0, prints, Fin.steps.d, hs_, fs_, kept, most⟩) m1.sub rfl rfl rfl (At.ntup sub n ⟨_, _, rfl, rfl, rfl⟩)
      exact q _ _ h2 (m1.tr m2)
    | succ n =>
      refine ifF (decide_eq_false fun e => absurd (Int.ofNat.inj (V.int.inj e)) (Nat.succ_ne_zero n)) ?_
      refine ⟨_, rfl, a, C, dx, _, _, rfl, i, T.cl, T.nL, rfl, _, _, rfl, rfl, dx, _, i, Nat.lt_of_lt_of_le (Nat.add_lt_add_right hs.x.few 7) (by decide), ?_⟩
      obtain ⟨h2, m2⟩ := hs.setIns (s' := ⟨n, prints, fin, hs_, fs_, kept, most⟩) sub rfl rfl rfl e0
      have ez : ((n + 1 : Nat) : Int) - 1 = (n : Int) := by omega
      rw [ez]
      exact q _ _ h2 m2
abbrev g_Run_end_unhandled : Stmt := inClass (topS 3) 3
abbrev n_Run_end_unhandled : List Str := ["self", "operation"]
abbrev p_Run_end_unhandled : List Str := ["self", "operation"]
theorem sc_Run_end_unhandled : FnScope n_Run_end_unhandled p_Run_end_unhandled (defScope g_Run_end_unhandled) := ⟨rfl, rfl, rfl, by decide +kernel, rfl, by decide +kernel, by decide +kernel⟩
def spUnh (C : Addr) : Sp := fun vs H Q _ => ∃ (a dx lp lh lf : Addr) (ext : List (Str × V)) (R : Hp) (s : Sk) (x : Str), vs = [.ref a, .str x] ∧ Same R H ∧ SkAt C R H s a dx lp lh lf ext ∧
  SkOut C R H { s with fin := (Fin.unh x).d } a dx lp lh lf ext fun _ H' => Q .non H'
theorem ok_unh {f C : Addr} {fd : FuncData} (F : Fun K "end_unhandled" "Run.end_unhandled" g_Run_end_unhandled f fd) (T : SkTxt K C) : FnOk P w K mg base CX0 1 f fd p_Run_end_unhandled (spUnh C) := by
  refine F.ok sc_Run_end_unhandled (fun vs H Q E h => ?_) (fun cdv A outer st H vs Q E hr h => ?_)
  · obtain ⟨a, dx, lp, lh, lf, ext, R, s, x, rfl, _⟩ := h
    rfl
  · obtain ⟨a, dx, lp, lh, lf, ext, R, s, x, rfl, sub, hs, q⟩ := h
    refine ⟨_, (pss_one (ps_fld (pv 0) (pe_tup (pa_cons (pe_str) (pa_cons (pv 1) pa_nil))) rfl)), ?_⟩
    obtain ⟨ve, e0, i⟩ := hs.ins
    refine ⟨_, rfl, by show 2 ≤ sizeLine; decide, fun p n => ?_⟩
    have h1 := hs.new (o := .tup [.str "unhandled", .str x]) sub n
    have m1 : Mv (Fsk a lp lh lf) R H _ _ := mv_new (o := .tup [.str "unhandled", .str x]) sub n
    have i1 := same_new (o := .tup [.str "unhandled", .str x]) n _ _ i
    refine ⟨_, rfl, a, C, dx, _, rfl, i1, T.cl, T.nE, Nat.lt_of_lt_of_le (Nat.add_lt_add_right hs.x.few 7) (by decide), ?_⟩
    obtain ⟨h2, m2⟩ := h1.setIns (s' := { s with fin := (Fin.unh x).d }) m1.sub rfl rfl rfl (At.ntup sub n ⟨_, _, rfl, rfl, _, _, rfl, rfl, rfl⟩)
    exact q _ _ h2 (m1.tr m2)
abbrev g_Stack_wait : Stmt := inClass (topS 10) 1
abbrev n_Stack_wait : List Str := ["self", "frame"]
abbrev p_Stack_wait : List Str := ["self", "frame"]
theorem sc_Stack_wait : FnScope n_Stack_wait p_Stack_wait (defScope g_Stack_wait) := ⟨rfl, rfl, rfl, by decide +kernel, rfl, by decide +kernel, by decide +kernel⟩
def spWait (C : Addr) : Sp := fun vs H Q _ => ∃ (a dx lp lh lf : Addr) (ext : List (Str × V)) (R : Hp) (s : Sk) (v : V) (d c : D) (l : List D), vs = [.ref a, v] ∧ Same R H ∧ SkAt C R H s a dx lp lh lf ext ∧ At R d v ∧ s.fs = l ++ [c] ∧
  SkOut C R H { s with fs := l ++ [.tup [d, c]] } a dx lp lh lf ext fun _ H' => Q .non H'
theorem ok_wait {f C : Addr} {fd : FuncData} (F : Fun K "wait" "Stack.wait" g_Stack_wait f fd) (T : SkTxt K C) : FnOk P w K mg base CX0 1 f fd p_Stack_wait (spWait C) := by
  refine F.ok sc_Stack_wait (fun vs H Q E h => ?_) (fun cdv A outer st H vs Q E hr h => ?_)
  · obtain ⟨a, dx, lp, lh, lf, ext, R, s, v, d, c, l, rfl, _⟩ := h
    rfl
  · obtain ⟨a, dx, lp, lh, lf, ext, R, s, v, d, c, l, rfl, sub, hs, hd, ef, q⟩ := h
    refine ⟨_, (pss_one (ps_asg (pe_tup (pa_cons (pv 1) (pa_cons (pe_ix ix_list (pe_fld (pv 0) rfl) (pe_un un_neg (pe_int)) (fun _ _ => rfl)) pa_nil))) (pg_sub (pe_fld (pv 0) rfl) (pe_un un_neg (pe_int)) set_list))), ?_⟩
    obtain ⟨ve, e0, i⟩ := hs.ins
    obtain ⟨ws, f1, f2⟩ := hs.fs
    rw [ef] at f2
    obtain ⟨pw, z, rfl, f3, f4⟩ := f2.last
    refine ⟨_, rfl, _, rfl, a, C, dx, _, _, rfl, i, T.cl, T.nF, rfl, _, rfl, lf, _, -1, _, rfl, rfl, SqL.of f1, atI_last _ _, ?_⟩
    refine ⟨by show 2 ≤ sizeLine; decide, fun p n => ?_⟩
    have h1 := hs.new (o := .tup [v, z]) sub n
    have m1 : Mv (Fsk a lp lh lf) R H _ _ := mv_new (o := .tup [v, z]) sub n
    have f5 := same_new (o := .tup [v, z]) n _ _ f1
    refine ⟨_, rfl, a, C, dx, _, _, rfl, same_new n _ _ i, T.cl, T.nF, rfl, _, rfl, lf, _, -1, _, rfl, rfl, f5, ixN_last (by rw [List.length_append]; exact Nat.succ_pos _), ?_⟩
    have es : (pw ++ [z]).set ((pw ++ [z]).length - 1) (.ref p) = pw ++ [.ref p] := by
      rw [List.length_append]
      simp
    rw [es]
    obtain ⟨h2, m2⟩ := h1.setF (ds := l ++ [.tup [d, c]]) m1.sub ((f3.up m1.up).snoc (At.ntup (l := [d, c]) sub n ⟨_, _, rfl, hd, _, _, rfl, f4, rfl⟩))
    exact q _ _ h2 (m1.tr m2)
abbrev g_Stack_waiting : Stmt := inClass (topS 10) 2
abbrev n_Stack_waiting : List Str := ["self", "frame"]
abbrev p_Stack_waiting : List Str := ["self"]
theorem sc_Stack_waiting : FnScope n_Stack_waiting p_Stack_waiting (defScope g_Stack_waiting) := ⟨rfl, rfl, rfl, by decide +kernel, rfl, by decide +kernel, by decide +kernel⟩
def spWaiting (C : Addr) : Sp := fun vs H Q _ => ∃ (a dx lp lh lf : Addr) (ext : List (Str × V)) (R : Hp) (s : Sk) (l : List D), vs = [.ref a] ∧ Same R H ∧ SkAt C R H s a dx lp lh lf ext ∧
  ((s.fs = l ++ [.non] ∧ Q .non H) ∨ ∃ d c, s.fs = l ++ [.tup [d, c]] ∧ SkOut C R H { s with fs := l ++ [c] } a dx lp lh lf ext fun R' H' => ∀ v, At R' d v → Q v H')
theorem ok_waiting {f C : Addr} {fd : FuncData} (F : Fun K "waiting" "Stack.waiting" g_Stack_waiting f fd) (T : SkTxt K C) : FnOk P w K mg base CX0 1 f fd p_Stack_waiting (spWaiting C) := by
  refine F.ok sc_Stack_waiting (fun vs H Q E h => ?_) (fun cdv A outer st H vs Q E hr h => ?_)
  · obtain ⟨a, dx, lp, lh, lf, ext, R, s, l, rfl, _⟩ := h
    rfl
  · obtain ⟨a, dx, lp, lh, lf, ext, R, s, l, rfl, sub, hs, q⟩ := h
    refine ⟨_, (pss_cons (ps_if (pt_cmpR op_isN (pe_ix ix_list (pe_fld (pv 0) rfl) (pe_un un_neg (pe_int)) (fun _ _ => rfl)) pe_non (nomark _)) (pss_one (ps_ret (pe_non))) pss_nil)
      (pss_cons (ps_asg (pe_ix ix_list (pe_fld (pv 0) rfl) (pe_un un_neg (pe_int)) (fun _ _ => rfl)) (pg_tup rfl (pgs_cons (pg_name (i := 1) sc_Stack_waiting.nd rfl (Or.inl rfl)) (pgs_cons (pg_sub (pe_fld (pv 0) rfl) (pe_un un_neg (pe_int)) set_list) pgs_nil))))
      (pss_one (ps_ret (pv 1))))), ?_⟩
    obtain ⟨ve, e0, i⟩ := hs.ins
    obtain ⟨ws, f1, f2⟩ := hs.fs
    rcases q with ⟨ef, q⟩ | ⟨d, c, ef, q⟩
    · rw [ef] at f2
      obtain ⟨pw, z, rfl, f3, rfl⟩ := f2.last
      refine ⟨_, rfl, a, C, dx, _, _, rfl, i, T.cl, T.nF, rfl, _, rfl, lf, _, -1, _, rfl, rfl, SqL.of f1, atI_last _ _, rfl, _, rfl, ?_⟩
      exact iteT q
    · rw [ef] at f2
      obtain ⟨pw, z, rfl, f3, f4⟩ := f2.last
      obtain ⟨pz, _, rfl, f4, vd, _, rfl, f5, vc, _, rfl, f6, rfl⟩ := f4
      refine ⟨_, rfl, a, C, dx, _, _, rfl, i, T.cl, T.nF, rfl, _, rfl, lf, _, -1, _, rfl, rfl, SqL.of f1, atI_last _ _, rfl, _, rfl, ?_⟩
      refine iteF ?_
      refine ⟨_, rfl, a, C, dx, _, _, rfl, i, T.cl, T.nF, rfl, _, rfl, lf, _, -1, _, rfl, rfl, SqL.of f1, atI_last _ _, pz, _, rfl, SqT.of (sub _ _ f4), rfl, _, _, rfl, ?_⟩
      refine ⟨_, _, rfl, ?_⟩
      refine ⟨_, rfl, a, C, dx, _, _, rfl, i, T.cl, T.nF, rfl, _, rfl, lf, _, -1, _, rfl, rfl, f1, ixN_last (by rw [List.length_append]; exact Nat.succ_pos _), ?_⟩
      have es : (pw ++ [V.ref pz]).set ((pw ++ [V.ref pz]).length - 1) vc = pw ++ [vc] := by
        rw [List.length_append]
        simp
      rw [es]
      obtain ⟨h2, m2⟩ := hs.setF (ds := l ++ [c]) sub (f3.snoc f6)
      refine ⟨rfl, _, rfl, ?_⟩
      exact q _ _ h2 m2 _ f5
end
end Bz


set_option Elab.async false
set_option linter.all false
set_option maxRecDepth 100000
set_option maxHeartbeats 4000000
namespace Bz
open PySem PySem.Spec L2 PyProof.Rows
/-- a method of the class at C -/
structure Mt (P : Program) (w : World) (K : PySem.W.Frag) (mg : Str → Option Value) (base : Heap) (X : CXT) (C : Addr) (k : Nat) (x : Str) (ps : List Str) (sp : Sp) (f : Addr) (fd : FuncData) : Prop where
  c : L2.Cls K C
  ok : FnOk P w K mg base X k f fd ps sp
  m : Meth K C x f
  b : Binds K fd ps []
theorem Mt.up {P : Program} {w : World} {K : PySem.W.Frag} {mg : Str → Option Value} {base : Heap} {X : CXT} {C : Addr} {j k : Nat} {x : Str} {ps : List Str} {sp : Sp} {f : Addr} {fd : FuncData} (h : Mt P w K mg base X C j x ps sp f fd) (l : j ≤ k) : Mt P w K mg base X C k x ps sp f fd := ⟨h.c, h.ok.mono l, h.m, h.b⟩
theorem flds_no {x : Str} (hx : x ∈ skNames) {s : Sk} {ve : V} {lp lh lf : Addr} {ext : List (Str × V)} (X : XOk ext) : (flds s ve lp lh lf ext).lookup x = none := by
  have h := X.no x hx
  rcases List.mem_cons.mp hx with e | hx
  · subst e; exact h
  rcases List.mem_cons.mp hx with e | hx
  · subst e; exact h
  rcases List.mem_cons.mp hx with e | hx
  · subst e; exact h
  rcases List.mem_cons.mp hx with e | hx
  · subst e; exact h
  rcases List.mem_cons.mp hx with e | hx
  · subst e; exact h
  rcases List.mem_cons.mp hx with e | hx
  · subst e; exact h
  rcases List.mem_cons.mp hx with e | hx
  · subst e; exact h
  rcases List.mem_cons.mp hx with e | hx
  · subst e; exact h
  rcases List.mem_cons.mp hx with e | hx
  · subst e; exact h
  rcases List.mem_cons.mp hx with e | hx
  · subst e; exact h
  · cases hx
theorem cut_from {xs : List V} {i : Nat} (h : i ≤ xs.length) : cutV xs (some (i : Int)) none = xs.drop i := by
  unfold cutV
  rw [show HT.sIx xs.length 0 (some (i : Int)) = min i xs.length from HT.sIx_nat xs.length _ i, Nat.min_eq_left h, HT.sIx_none]
  rw [List.take_of_length_le (by rw [List.length_drop]; exact Nat.le_refl _)]
theorem few7 {ext : List (Str × V)} (X : XOk ext) {s : Sk} {ve : V} {lp lh lf : Addr} : (flds s ve lp lh lf ext).length < 1000 := Nat.lt_of_lt_of_le (Nat.add_lt_add_right X.few 7) (by decide)
theorem big6 {n : Nat} (h : n ≤ 1000000) : n ≤ sizeLine := Nat.le_trans h (by decide)
section
variable {P : Program} {w : World} {K : PySem.W.Frag} {mg : Str → Option Value} {base : Heap}
abbrev g_Stack_put_back : Stmt := inClass (topS 10) 4
abbrev n_Stack_put_back : List Str := ["self", "pieces", "handlers", "frames"]
abbrev p_Stack_put_back : List Str := ["self", "pieces"]
theorem sc_Stack_put_back : FnScope n_Stack_put_back p_Stack_put_back (defScope g_Stack_put_back) := ⟨rfl, rfl, rfl, by decide +kernel, rfl, by decide +kernel, by decide +kernel⟩
def spPutBack (C : Addr) : Sp := fun vs H Q _ => ∃ (a dx lp lh lf : Addr) (ext : List (Str × V)) (R : Hp) (s : Sk) (v : V) (l m : List D), vs = [.ref a, v] ∧ Same R H ∧ SkAt C R H s a dx lp lh lf ext ∧ At R (.tup [.lst l, .lst m]) v ∧
  s.hs.length + l.length ≤ 1000000 ∧ s.fs.length + m.length ≤ 1000000 ∧ SkOut C R H { s with hs := s.hs ++ l, fs := s.fs ++ m, most := Nat.max s.most (s.hs ++ l).length } a dx lp lh lf ext fun _ H' => Q .non H'
theorem ok_put_back {f C : Addr} {fd : FuncData} (F : Fun K "put_back" "Stack.put_back" g_Stack_put_back f fd) (T : SkTxt K C) (ml : mg "len" = none) (mm : mg "max" = none) : FnOk P w K mg base CX0 1 f fd p_Stack_put_back (spPutBack C) := by
  refine F.ok sc_Stack_put_back (fun vs H Q E h => ?_) (fun cdv A outer st H vs Q E hr h => ?_)
  · obtain ⟨a, dx, lp, lh, lf, ext, R, s, v, l, m, rfl, _⟩ := h
    rfl
  · obtain ⟨a, dx, lp, lh, lf, ext, R, s, v, l, m, rfl, sub, hs, hv, b1, b2, q⟩ := h
    refine ⟨_, (pss_cons (ps_asg (pv 1) (pg_tup rfl (pgs_cons (pg_name (i := 2) sc_Stack_put_back.nd rfl (Or.inl rfl)) (pgs_cons (pg_name (i := 3) sc_Stack_put_back.nd rfl (Or.inl rfl)) pgs_nil))))
      (pss_cons (ps_expr (pe_bm PySem.F.plainAttrs_list PySem.F.slot_list_extend PySem.F.type_list_extend mt_extend (pe_fld (pv 0) rfl) (pa_cons (pv 2) pa_nil)))
      (pss_cons (ps_expr (pe_bm PySem.F.plainAttrs_list PySem.F.slot_list_extend PySem.F.type_list_extend mt_extend (pe_fld (pv 0) rfl) (pa_cons (pv 3) pa_nil)))
      (pss_one (ps_fld (pv 0) (pe_callB (call_max2 rfl) (by rfl) mm (by decide +kernel) (pa_cons (pe_fld (pv 0) rfl) (pa_cons (pe_callB call_len_seq (by rfl) ml PySem.boot_len (pa_cons (pe_fld (pv 0) rfl) pa_nil)) pa_nil))) rfl))))), ?_⟩
    obtain ⟨pv_, _, rfl, hp, _, _, rfl, ⟨q1, us, rfl, g1, g2⟩, _, _, rfl, ⟨q2, ws, rfl, g3, g4⟩, rfl⟩ := hv
    refine ⟨_, rfl, pv_, _, rfl, SqT.of (sub _ _ hp), rfl, _, _, rfl, _, _, rfl, rfl, ?_⟩
    obtain ⟨ve, e0, i⟩ := hs.ins
    obtain ⟨hvs, h1, h2⟩ := hs.hs
    have hl1 := h2.length
    have hl2 := g2.length
    refine ⟨_, rfl, a, C, dx, _, _, rfl, i, T.cl, T.nH, rfl, .inl ⟨rfl, _, SqL.of h1⟩, _, rfl, lh, q1, hvs, us, rfl, rfl, h1, sub _ _ g1, big6 (by omega), ?_⟩
    obtain ⟨hs1, m1⟩ := hs.setH (ds := s.hs ++ l) sub (h2.append g2)
    obtain ⟨ve1, e1, i1⟩ := hs1.ins
    obtain ⟨fvs, f1, f2⟩ := hs1.fs
    have fl1 := f2.length
    have fl2 := g4.length
    refine ⟨_, rfl, a, C, dx, _, _, rfl, i1, T.cl, T.nF, rfl, .inl ⟨rfl, _, SqL.of f1⟩, _, rfl, lf, q2, fvs, ws, rfl, rfl, f1, m1.sub _ _ g3, big6 (by rw [fl1, fl2]; exact b2), ?_⟩
    obtain ⟨hs2, m2⟩ := hs1.setF (ds := s.fs ++ m) m1.sub (f2.append g4)
    obtain ⟨ve2, e2, i2⟩ := hs2.ins
    obtain ⟨hvs2, h3, h4⟩ := hs2.hs
    have hl3 := h4.length
    refine ⟨_, rfl, a, C, dx, _, _, rfl, i2, T.cl, T.nM, rfl, _, rfl, a, C, dx, _, _, rfl, i2, T.cl, T.nH, rfl, lh, _, rfl, .inl (SqL.of h3), _, _, rfl, ?_⟩
    refine ⟨_, rfl, a, C, dx, _, rfl, i2, T.cl, T.nM, few7 hs2.x, ?_⟩
    obtain ⟨hs3, m3⟩ := hs2.setIns (s' := { s with hs := s.hs ++ l, fs := s.fs ++ m, most := Nat.max s.most (s.hs ++ l).length }) m2.sub rfl rfl rfl e2
    have em : (if ((hvs2.length : Nat) : Int) > ((s.most : Nat) : Int) then ((hvs2.length : Nat) : Int) else ((s.most : Nat) : Int)) = ((Nat.max s.most (s.hs ++ l).length : Nat) : Int) := by
      have hl4 : hvs2.length = (s.hs ++ l).length := hl3
      rw [hl4]
      show _ = ((max s.most (s.hs ++ l).length : Nat) : Int)
      split <;> omega
    have ef : putF "most" (.int (if ((hvs2.length : Nat) : Int) > ((s.most : Nat) : Int) then ((hvs2.length : Nat) : Int) else ((s.most : Nat) : Int))) (flds { s with hs := s.hs ++ l, fs := s.fs ++ m } ve2 lp lh lf ext) = flds { s with hs := s.hs ++ l, fs := s.fs ++ m, most := Nat.max s.most (s.hs ++ l).length } ve2 lp lh lf ext := by
      rw [em]
      rfl
    refine (show Q V.non (upd _ a (.ins C dx (putF "most" (.int (if ((hvs2.length : Nat) : Int) > ((s.most : Nat) : Int) then ((hvs2.length : Nat) : Int) else ((s.most : Nat) : Int))) (flds { s with hs := s.hs ++ l, fs := s.fs ++ m } ve2 lp lh lf ext)))) from ?_)
    rw [ef]
    exact q _ _ hs3 ((m1.tr m2).tr m3)
abbrev g_Stack_put : Stmt := inClass (topS 10) 3
abbrev n_Stack_put : List Str := ["self", "handler"]
abbrev p_Stack_put : List Str := ["self", "handler"]
theorem sc_Stack_put : FnScope n_Stack_put p_Stack_put (defScope g_Stack_put) := ⟨rfl, rfl, rfl, by decide +kernel, rfl, by decide +kernel, by decide +kernel⟩
def spPut (C : Addr) : Sp := fun vs H Q _ => ∃ (a dx lp lh lf : Addr) (ext : List (Str × V)) (R : Hp) (s : Sk) (v : V) (d : D), vs = [.ref a, v] ∧ Same R H ∧ SkAt C R H s a dx lp lh lf ext ∧ At R d v ∧
  s.hs.length < 1000000 ∧ s.fs.length < 1000000 ∧ SkOut C R H { s with hs := s.hs ++ [d], fs := s.fs ++ [.non], most := Nat.max s.most (s.hs ++ [d]).length } a dx lp lh lf ext fun _ H' => Q .non H'
theorem ok_put {f fB C : Addr} {fd fdB : FuncData} (F : Fun K "put" "Stack.put" g_Stack_put f fd) (GB : Mt P w K mg base CX0 C 1 "put_back" p_Stack_put_back (spPutBack C) fB fdB) : FnOk P w K mg base CX0 2 f fd p_Stack_put (spPut C) := by
  refine F.ok sc_Stack_put (fun vs H Q E h => ?_) (fun cdv A outer st H vs Q E hr h => ?_)
  · obtain ⟨a, dx, lp, lh, lf, ext, R, s, v, d, rfl, _⟩ := h
    rfl
  · obtain ⟨a, dx, lp, lh, lf, ext, R, s, v, d, rfl, sub, hs, hd, b1, b2, q⟩ := h
    refine ⟨_, (pss_one (ps_expr (pe_meth (pv 0) GB.c GB.m GB.ok hr GB.b .nil pass0 (pa_cons (pe_tup (pa_cons (pe_lst (pa_cons (pv 1) pa_nil)) (pa_cons (pe_lst (pa_cons (pe_non) pa_nil)) pa_nil))) pa_nil)))), ?_⟩
    obtain ⟨ve, e0, i⟩ := hs.ins
    refine ⟨_, rfl, a, dx, _, rfl, i, flds_no (by decide) hs.x, _, rfl, by show 1 ≤ sizeLine; decide, fun p n => ?_⟩
    have hs1 := hs.new (o := .lst [v]) sub n
    have m1 : Mv F0 R H _ _ := mv_new (o := .lst [v]) sub n
    refine ⟨by show 1 ≤ sizeLine; decide, fun p2 n2 => ?_⟩
    have hs2 := hs1.new (o := .lst [.non]) m1.sub n2
    have m2 : Mv F0 _ _ _ _ := mv_new (o := .lst [.non]) m1.sub n2
    have m12 := m1.tr m2
    refine ⟨by show 2 ≤ sizeLine; decide, fun p3 n3 => ?_⟩
    have hs3 := hs2.new (o := .tup [.ref p, .ref p2]) m12.sub n3
    have m3 : Mv F0 _ _ _ _ := mv_new (o := .tup [.ref p, .ref p2]) m12.sub n3
    have a1 : At (upd R p (.lst [v])) (.lst [d]) (.ref p) := .nlst sub n (.one hd)
    have a2 : At (upd (upd R p (.lst [v])) p2 (.lst [.non])) (.lst [.non]) (.ref p2) := .nlst m1.sub n2 (.one at_non)
    refine ⟨a, dx, lp, lh, lf, ext, _, s, .ref p3, [d], [.non], rfl, m3.sub, hs3, .ntup m12.sub n3 ⟨_, _, rfl, a1.up m2.up, _, _, rfl, a2, rfl⟩, ?_, ?_, fun R' H' k m => ?_⟩
    · show s.hs.length + 1 ≤ 1000000
      omega
    · show s.fs.length + 1 ≤ 1000000
      omega
    · exact q R' H' k ((m12.tr m3).trans m (fun _ f => f.elim) fun _ f => .inl f)
abbrev g_Stack_take : Stmt := inClass (topS 10) 5
abbrev n_Stack_take : List Str := ["self"]
abbrev p_Stack_take : List Str := ["self"]
theorem sc_Stack_take : FnScope n_Stack_take p_Stack_take (defScope g_Stack_take) := ⟨rfl, rfl, rfl, by decide +kernel, rfl, by decide +kernel, by decide +kernel⟩
def spTakeP (C : Addr) : Sp := fun vs H Q _ => ∃ (a dx lp lh lf : Addr) (ext : List (Str × V)) (R : Hp) (s : Sk) (l m : List D) (d c : D), vs = [.ref a] ∧ Same R H ∧ SkAt C R H s a dx lp lh lf ext ∧ s.hs = l ++ [d] ∧ s.fs = m ++ [c] ∧
  SkOut C R H { s with hs := l, fs := m } a dx lp lh lf ext fun R' H' => ∀ v, At R' d v → Q v H'
theorem ok_takeP {f C : Addr} {fd : FuncData} (F : Fun K "take" "Stack.take" g_Stack_take f fd) (T : SkTxt K C) : FnOk P w K mg base CX0 1 f fd p_Stack_take (spTakeP C) := by
  refine F.ok sc_Stack_take (fun vs H Q E h => ?_) (fun cdv A outer st H vs Q E hr h => ?_)
  · obtain ⟨a, dx, lp, lh, lf, ext, R, s, l, m, d, c, rfl, _⟩ := h
    rfl
  · obtain ⟨a, dx, lp, lh, lf, ext, R, s, l, m, d, c, rfl, sub, hs, eh, ef, q⟩ := h
    refine ⟨_, (pss_cons (ps_expr (pe_bm0 PySem.F.plainAttrs_list PySem.F.slot_list_pop PySem.F.type_list_pop mt_pop (pe_fld (pv 0) rfl)))
      (pss_one (ps_ret (pe_bm0 PySem.F.plainAttrs_list PySem.F.slot_list_pop PySem.F.type_list_pop mt_pop (pe_fld (pv 0) rfl))))), ?_⟩
    obtain ⟨ve, e0, i⟩ := hs.ins
    obtain ⟨fvs, f1, f2⟩ := hs.fs
    rw [ef] at f2
    obtain ⟨fp, fz, rfl, f3, f4⟩ := f2.last
    refine ⟨_, rfl, a, C, dx, _, _, rfl, i, T.cl, T.nF, rfl, .inl ⟨rfl, _, SqL.of f1⟩, lf, _, fz, rfl, rfl, f1, (by simp), ?_⟩
    rw [List.dropLast_concat]
    obtain ⟨hs1, m1⟩ := hs.setF (ds := m) sub f3
    obtain ⟨ve1, e1, i1⟩ := hs1.ins
    obtain ⟨hvs, h1, h2⟩ := hs1.hs
    have h2 : Ats R s.hs hvs := h2
    rw [eh] at h2
    obtain ⟨hp, hz, rfl, h3, h4⟩ := h2.last
    refine ⟨_, rfl, a, C, dx, _, _, rfl, i1, T.cl, T.nH, rfl, .inl ⟨rfl, _, SqL.of h1⟩, lh, _, hz, rfl, rfl, h1, (by simp), ?_⟩
    rw [List.dropLast_concat]
    obtain ⟨hs2, m2⟩ := hs1.setH (ds := l) m1.sub h3
    exact q _ _ hs2 (m1.tr m2) _ h4
abbrev g_Stack_keep : Stmt := inClass (topS 10) 6
abbrev n_Stack_keep : List Str := ["self", "place", "handlers", "frames"]
abbrev p_Stack_keep : List Str := ["self", "place"]
theorem sc_Stack_keep : FnScope n_Stack_keep p_Stack_keep (defScope g_Stack_keep) := ⟨rfl, rfl, rfl, by decide +kernel, rfl, by decide +kernel, by decide +kernel⟩
def spKeep (C : Addr) : Sp := fun vs H Q _ => ∃ (a dx lp lh lf : Addr) (ext : List (Str × V)) (R : Hp) (s : Sk) (i : Nat), vs = [.ref a, .int (i : Int)] ∧ Same R H ∧ SkAt C R H s a dx lp lh lf ext ∧ i ≤ s.hs.length ∧ i ≤ s.fs.length ∧
  SkOut C R H { s with hs := s.hs.take i, fs := s.fs.take i, kept := s.kept + (s.hs.drop i).length } a dx lp lh lf ext fun R' H' => ∀ v, At R' (.tup [.lst (s.hs.drop i), .lst (s.fs.drop i)]) v → Q v H'
theorem ok_keep {f C : Addr} {fd : FuncData} (F : Fun K "keep" "Stack.keep" g_Stack_keep f fd) (T : SkTxt K C) (ml : mg "len" = none) : FnOk P w K mg base CX0 1 f fd p_Stack_keep (spKeep C) := by
  refine F.ok sc_Stack_keep (fun vs H Q E h => ?_) (fun cdv A outer st H vs Q E hr h => ?_)
  · obtain ⟨a, dx, lp, lh, lf, ext, R, s, i, rfl, _⟩ := h
    rfl
  · obtain ⟨a, dx, lp, lh, lf, ext, R, s, i, rfl, sub, hs, b1, b2, q⟩ := h
    refine ⟨_, (pss_cons (ps_set (i := 2) sc_Stack_keep.nd rfl (Or.inl rfl) (pe_slice sl_list (pe_fld (pv 0) rfl) (po_some (pv 1)) po_none))
      (pss_cons (ps_set (i := 3) sc_Stack_keep.nd rfl (Or.inl rfl) (pe_slice sl_list (pe_fld (pv 0) rfl) (po_some (pv 1)) po_none))
      (pss_cons (ps_delFrom (pe_fld (pv 0) rfl) (po_some (pv 1)))
      (pss_cons (ps_delFrom (pe_fld (pv 0) rfl) (po_some (pv 1)))
      (pss_cons (ps_fldaug (pv 0) (pe_callB call_len_seq (by rfl) ml PySem.boot_len (pa_cons (pv 2) pa_nil)) in_add)
      (pss_one (ps_ret (pe_tup (pa_cons (pv 2) (pa_cons (pv 3) pa_nil)))))))))), ?_⟩
    obtain ⟨ve, e0, hi⟩ := hs.ins
    obtain ⟨hvs, h1, h2⟩ := hs.hs
    have hl := h2.length
    refine ⟨_, rfl, a, C, dx, _, _, rfl, hi, T.cl, T.nH, rfl, _, rfl, (i : Int), rfl, lh, hvs, rfl, SqL.of h1, fun p n => ?_⟩
    rw [cut_from (by omega)]
    have hs1 := hs.new (o := .lst (hvs.drop i)) sub n
    have m1 : Mv F0 R H _ _ := mv_new (o := .lst (hvs.drop i)) sub n
    have a1 : At (upd R p (.lst (hvs.drop i))) (.lst (s.hs.drop i)) (.ref p) := .nlst sub n (h2.drop i)
    obtain ⟨ve1, e1, hi1⟩ := hs1.ins
    obtain ⟨fvs, f1, f2⟩ := hs1.fs
    have fl := f2.length
    refine ⟨_, rfl, a, C, dx, _, _, rfl, hi1, T.cl, T.nF, rfl, _, rfl, (i : Int), rfl, lf, fvs, rfl, SqL.of f1, fun p2 n2 => ?_⟩
    rw [cut_from (by omega)]
    have hs2 := hs1.new (o := .lst (fvs.drop i)) m1.sub n2
    have m2 : Mv F0 _ _ _ _ := mv_new (o := .lst (fvs.drop i)) m1.sub n2
    have m12 := m1.tr m2
    have a2 : At (upd (upd R p (.lst (hvs.drop i))) p2 (.lst (fvs.drop i))) (.lst (s.fs.drop i)) (.ref p2) := .nlst m1.sub n2 (f2.drop i)
    have a1 := a1.up m2.up
    obtain ⟨ve2, e2, hi2⟩ := hs2.ins
    obtain ⟨hvs2, h3, h4⟩ := hs2.hs
    have hl2 := h4.length
    refine ⟨_, rfl, a, C, dx, _, _, rfl, hi2, T.cl, T.nH, rfl, _, rfl, (i : Int), rfl, lh, hvs2, i, rfl, rfl, h3, (by omega), ?_⟩
    obtain ⟨hs3, m3⟩ := hs2.setH (ds := s.hs.take i) m12.sub (h4.take i)
    obtain ⟨ve3, e3, hi3⟩ := hs3.ins
    obtain ⟨fvs3, f3, f4⟩ := hs3.fs
    have fl3 : fvs3.length = s.fs.length := f4.length
    refine ⟨_, rfl, a, C, dx, _, _, rfl, hi3, T.cl, T.nF, rfl, _, rfl, (i : Int), rfl, lf, fvs3, i, rfl, rfl, f3, (by omega), ?_⟩
    obtain ⟨hs4, m4⟩ := hs3.setF (ds := s.fs.take i) m3.sub (f4.take i)
    obtain ⟨ve4, e4, hi4⟩ := hs4.ins
    have m34 := m3.tr m4
    have n2R := m1.sub.free n2
    have gp : _ = some (HO.lst (hvs.drop i)) := m34.sub p _ (same_new n2R p _ upd_same)
    refine ⟨_, rfl, a, C, dx, _, _, rfl, hi4, T.cl, T.nK, rfl, _, rfl, p, _, rfl, .inl (SqL.of gp), _, _, rfl, rfl, dx, _, hi4, few7 hs4.x, ?_⟩
    have el : (hvs.drop i).length = (s.hs.drop i).length := (h2.drop i).length
    obtain ⟨hs5, m5⟩ := hs4.setIns (s' := { s with hs := s.hs.take i, fs := s.fs.take i, kept := s.kept + (s.hs.drop i).length }) m34.sub rfl rfl rfl e4
    have ef : putF "kept" (.int (((s.kept : Nat) : Int) + (((hvs.drop i).length : Nat) : Int))) (flds { s with hs := s.hs.take i, fs := s.fs.take i } ve4 lp lh lf ext) = flds { s with hs := s.hs.take i, fs := s.fs.take i, kept := s.kept + (s.hs.drop i).length } ve4 lp lh lf ext := by
      rw [el, ← Int.natCast_add]
      rfl
    rw [← ef] at hs5 m5
    refine ⟨_, rfl, _, rfl, by show 2 ≤ sizeLine; decide, fun p3 n3 => ?_⟩
    have m345 := m34.tr m5
    have hs6 := hs5.new (o := .tup [.ref p, .ref p2]) m5.sub n3
    have m6 : Mv (Fsk a lp lh lf) _ _ _ _ := mv_new (o := .tup [.ref p, .ref p2]) m5.sub n3
    exact q _ _ hs6 (((m12.mono fun _ f => f.elim).tr m345).tr m6) _ (.ntup m5.sub n3 ⟨_, _, rfl, a1, _, _, rfl, a2, rfl⟩)
end
end Bz


set_option Elab.async false
set_option linter.all false
set_option maxRecDepth 100000
set_option maxHeartbeats 4000000
namespace Bz
open PySem PySem.Spec L2 PyProof.Rows
/-! ### the handler that answers -/
def isCl (o : Str) : D → Bool
  | .tup (.str x :: _) => decide (x = o)
  | _ => false
def clsOfD : D → List D
  | .tup (.tup (_ :: _ :: _ :: .tup cl :: _) :: _) => cl
  | _ => []
def ansN (hs : List D) (o : Str) : Nat → Option (Nat × D)
  | 0 => none
  | n + 1 => match (hs[n + 1]?).bind fun h => (clsOfD h).find? (isCl o) with
    | some c => some (n + 1, c)
    | none => ansN hs o n
def HdOk (h : D) : Prop := ∃ (a b c : D) (cl r : List D) (env : D), h = .tup [.tup (a :: b :: c :: .tup cl :: r), env] ∧ ∀ x ∈ cl, ∃ o r, x = .tup (.str o :: r)
theorem find_take {α : Type} {p : α → Bool} : ∀ {l : List α} {j : Nat} {x : α}, (l.take j).find? p = none → l[j]? = some x → p x = true → l.find? p = some x
  | [], _, _, _, h, _ => by simp at h
  | y :: r, 0, x, _, h, k => by
    cases (show y = x from Option.some.inj h)
    rw [List.find?_cons, k]
  | y :: r, j + 1, x, h, hj, k => by
    rw [List.take_succ_cons, List.find?_cons] at h
    rw [List.find?_cons]
    cases e : p y with
    | true => rw [e] at h; cases h
    | false =>
      rw [e] at h
      exact find_take (l := r) (j := j) h (by simpa using hj) k
theorem find_snoc {α : Type} {p : α → Bool} {l : List α} {j : Nat} {x : α} (h : (l.take j).find? p = none) (hj : l[j]? = some x) (k : p x = false) : (l.take (j + 1)).find? p = none := by
  rw [List.take_add_one, hj, List.find?_append, h]
  show ([x].find? p) = none
  rw [List.find?_cons, k]
  rfl
theorem Ats.mem {R : Hp} {l : List D} {vs : List V} {j : Nat} {v : V} (h : Ats R l vs) (hj : vs[j]? = some v) : ∃ d, l[j]? = some d ∧ At R d v := by
  have hl := h.length
  have lt : j < l.length := by rw [← hl]; exact (List.getElem?_eq_some_iff.mp hj).1
  obtain ⟨v', e, a⟩ := h.get (List.getElem?_eq_getElem lt)
  rw [hj] at e
  cases e
  exact ⟨_, List.getElem?_eq_getElem lt, a⟩
section
variable {P : Program} {w : World} {K : PySem.W.Frag} {mg : Str → Option Value} {base : Heap}
abbrev g_Stack_answering : Stmt := inClass (topS 10) 7
abbrev n_Stack_answering : List Str := ["self", "operation", "place", "handle", "_", "clause"]
abbrev p_Stack_answering : List Str := ["self", "operation"]
theorem sc_Stack_answering : FnScope n_Stack_answering p_Stack_answering (defScope g_Stack_answering) := ⟨rfl, rfl, rfl, by decide +kernel, rfl, by decide +kernel, by decide +kernel⟩
def spAns (C : Addr) : Sp := fun vs H Q _ => ∃ (a dx lp lh lf : Addr) (ext : List (Str × V)) (R : Hp) (s : Sk) (x : Str), vs = [.ref a, .str x] ∧ Same R H ∧ SkAt C R H s a dx lp lh lf ext ∧ (∀ j h, 1 ≤ j → s.hs[j]? = some h → HdOk h) ∧ s.hs ≠ [] ∧ s.hs.length ≤ 1000000 ∧
  match ansN s.hs x (s.hs.length - 1) with
  | none => Q .non H
  | some (j, c) => ∀ (R' H' : Hp) (v : V), Mv F0 R H R' H' → At R' (.tup [.int (j : Int), c]) v → Q v H'
theorem ok_ans {f C : Addr} {fd : FuncData} (F : Fun K "answering" "Stack.answering" g_Stack_answering f fd) (T : SkTxt K C) (ml : mg "len" = none) (mr : mg "range" = none) : FnOk P w K mg base CX0 1 f fd p_Stack_answering (spAns C) := by
  refine F.ok sc_Stack_answering (fun vs H Q E h => ?_) (fun cdv A outer st H vs Q E hr h => ?_)
  · obtain ⟨a, dx, lp, lh, lf, ext, R, s, x, rfl, _⟩ := h
    rfl
  · obtain ⟨a, dx, lp, lh, lf, ext, R, s, x, rfl, sub, hs, hok, hne, hbig, q⟩ := h
    refine ⟨_, (pss_cons (ps_for PassesOwn.never rfl (pi_range3 rfl mr (pa_cons (pe_op op_sub (pe_callB call_len_seq (by rfl) ml PySem.boot_len (pa_cons (pe_fld (pv 0) rfl) pa_nil)) (pe_int)) (pa_cons (pe_int) (pa_cons (pe_un un_neg (pe_int)) pa_nil)))) (pg_name (i := 2) sc_Stack_answering.nd rfl (Or.inl rfl)) (pss_cons (ps_asg (pe_ix ix_list (pe_fld (pv 0) rfl) (pv 2) (fun _ _ => rfl)) (pg_tup rfl (pgs_cons (pg_name (i := 3) sc_Stack_answering.nd rfl (Or.inl rfl)) (pgs_cons (pg_name (i := 4) sc_Stack_answering.nd rfl (Or.inl rfl)) pgs_nil))))
      (pss_one (ps_for PassesOwn.never rfl (pi_tup (pe_ix ix_tup (pv 3) (pe_int) (fun _ _ => rfl))) (pg_name (i := 5) sc_Stack_answering.nd rfl (Or.inl rfl)) (pss_one (ps_if (pt_cmpR op_eq (pe_ix ix_tup (pv 5) (pe_int) (fun _ _ => rfl)) (pv 1) (nomark _)) (pss_one (ps_ret (pe_tup (pa_cons (pv 2) (pa_cons (pv 5) pa_nil))))) pss_nil))))))
      (pss_one (ps_ret (pe_non)))), ?_⟩
    obtain ⟨ve, e0, hi⟩ := hs.ins
    obtain ⟨hvs, h1, h2⟩ := hs.hs
    have hl := h2.length
    have hpos : 0 < s.hs.length := List.length_pos_iff.mpr hne
    obtain ⟨n, hn⟩ : ∃ n, s.hs.length = n + 1 := ⟨s.hs.length - 1, by omega⟩
    have hn1 : s.hs.length - 1 = n := by omega
    rw [hn1] at q
    refine ⟨_, rfl, a, C, dx, _, _, rfl, hi, T.cl, T.nH, rfl, lh, _, rfl, .inl (SqL.of h1), _, _, rfl, rfl, _, rfl, ?_⟩
    refine ⟨_, _, _, n, rfl, ?_, ?_⟩
    · have e : (((hvs.length : Nat) : Int) - 1) = (n : Int) := by omega
      rw [e]
      have z := RgC.neg (i := (n : Int)) (j := 0) (by omega) (by omega) (by decide) (by decide)
      have z2 : ((n : Int) - 0).toNat = n := by omega
      rw [z2] at z
      exact z
    refine for_rangeC (n := n) (fun i σ H' => H' = H ∧ (∃ x1 x2 x3 x4, σ = [some (.ref a), some (.str x), x1, x2, x3, x4]) ∧ ansN s.hs x n = ansN s.hs x (n - i)) ⟨rfl, ⟨none, none, none, none, rfl⟩, rfl⟩ ?_ ?_
    · rintro i σ H' hin ⟨rfl, ⟨x1, x2, x3, x4, rfl⟩, ea⟩
      obtain ⟨j, hj⟩ : ∃ j, n - i = j + 1 := ⟨n - i - 1, by omega⟩
      have ep : (((hvs.length : Nat) : Int) - 1) + ((i : Nat) : Int) * -1 = ((j + 1 : Nat) : Int) := by omega
      rw [ep]
      have lt : j + 1 < s.hs.length := by omega
      obtain ⟨d, hd⟩ : ∃ d, s.hs[j + 1]? = some d := ⟨_, List.getElem?_eq_getElem lt⟩
      obtain ⟨v, hv, av⟩ := h2.get hd
      obtain ⟨d1, d2, d3, cl, r, env, rfl, hcl⟩ := hok (j + 1) d (by omega) hd
      obtain ⟨pv_, _, rfl, hp, vh, _, rfl, ⟨ph, _, rfl, hh, w1, _, rfl, _, w2, _, rfl, _, w3, _, rfl, _, w4, _, rfl, ⟨pc, cvs, rfl, hc, hcs⟩, _⟩, venv, _, rfl, aenv, rfl⟩ := av
      refine ⟨_, rfl, a, C, dx, _, _, rfl, hi, T.cl, T.nH, rfl, _, rfl, lh, _, _, _, rfl, rfl, SqL.of h1, atI_nat hv, pv_, _, rfl, SqT.of (sub _ _ hp), rfl, _, _, rfl, _, _, rfl, rfl, ?_⟩
      refine ⟨_, rfl, ph, _, 3, _, rfl, rfl, SqT.of (sub _ _ hh), atI_nat (j := 3) rfl, pc, rfl, ⟨_, SqT.of (sub _ _ hc)⟩, ?_⟩
      refine for_tup (K := K) (a := pc) (xs := cvs) (fun i2 σ H2 => H2 = H' ∧ (∃ y, σ = [some (.ref a), some (.str x), some (.int ((j + 1 : Nat) : Int)), some (.ref ph), some venv, y]) ∧ (cl.take i2).find? (isCl x) = none) ⟨rfl, ⟨_, rfl⟩, rfl⟩ (fun i2 σ H2 _ z => by rw [z.1]; exact SqT.of (sub _ _ hc)) ?_ ?_
      · rintro i2 y σ H2 hy ⟨rfl, ⟨y0, rfl⟩, en⟩
        obtain ⟨c, hc2, ac⟩ := hcs.mem hy
        obtain ⟨xo, r2, rfl⟩ := hcl c (List.mem_of_getElem? hc2)
        have ac' := ac
        obtain ⟨py, _, rfl, hpy, _, _, rfl, rfl, _⟩ := ac
        refine ⟨_, rfl, py, _, 0, _, rfl, rfl, SqT.of (sub _ _ hpy), atI_nat (j := 0) rfl, _, rfl, rfl, _, rfl, ?_⟩
        refine ite2 (fun c => ?_) (fun c => ?_)
        · have exo : xo = x := V.str.inj (of_decide_eq_true c)
          have ef : cl.find? (isCl x) = some (.tup (.str xo :: r2)) := find_take en hc2 (decide_eq_true exo)
          have ea2 : ansN s.hs x n = some (j + 1, .tup (.str xo :: r2)) := by
            rw [ea, hj]
            show (match (s.hs[j + 1]?).bind fun h => (clsOfD h).find? (isCl x) with | some c => some (j + 1, c) | none => ansN s.hs x j) = _
            rw [hd]
            show (match cl.find? (isCl x) with | some c => some (j + 1, c) | none => ansN s.hs x j) = _
            rw [ef]
          rw [ea2] at q
          refine ⟨_, rfl, _, rfl, by show 2 ≤ sizeLine; decide, fun p np => ?_⟩
          exact q _ _ _ (mv_new sub np) (.ntup sub np ⟨_, _, rfl, rfl, _, _, rfl, ac', rfl⟩)
        · refine ⟨rfl, ⟨_, rfl⟩, find_snoc en hc2 (decide_eq_false fun e => c (decide_eq_true (by rw [e])))⟩
      · rintro σ H2 ⟨rfl, ⟨y0, rfl⟩, en⟩
        refine ⟨rfl, ⟨_, _, _, _, rfl⟩, ?_⟩
        rw [hcs.length, List.take_length] at en
        rw [ea, hj, show n - (i + 1) = j by omega]
        show (match (s.hs[j + 1]?).bind fun h => (clsOfD h).find? (isCl x) with | some c => some (j + 1, c) | none => ansN s.hs x j) = _
        rw [hd]
        show (match cl.find? (isCl x) with | some c => some (j + 1, c) | none => ansN s.hs x j) = _
        rw [en]
    · rintro σ H' ⟨rfl, _, ea⟩
      rw [Nat.sub_self] at ea
      rw [ea] at q
      exact q
abbrev g_Run_init : Stmt := inClass (topS 3) 0
abbrev n_Run_init : List Str := ["self", "steps"]
abbrev p_Run_init : List Str := ["self", "steps"]
theorem sc_Run_init : FnScope n_Run_init p_Run_init (defScope g_Run_init) := ⟨rfl, rfl, rfl, by decide +kernel, rfl, by decide +kernel, by decide +kernel⟩
/-- an instance without fields gets the first three -/
def spRunInit (C : Addr) : Sp := fun vs H Q _ => ∃ (a dx : Addr) (n : Nat), vs = [.ref a, .int (n : Int)] ∧ H a = some (.ins C dx []) ∧
  ∀ lp, H lp = none → Q .non (upd (upd H lp (.lst [])) a (.ins C dx [("left", .int (n : Int)), ("prints", .ref lp), ("end", .non)]))
theorem upd_twice {H : Hp} {a : Addr} {o u : HO} : upd (upd H a o) a u = upd H a u := by
  funext x
  by_cases e : x = a
  · subst e
    rw [upd_same, upd_same]
  · rw [upd_ne e, upd_ne e, upd_ne e]
theorem upd_swap {H : Hp} {a b : Addr} {o u : HO} (h : a ≠ b) : upd (upd H a o) b u = upd (upd H b u) a o := by
  funext x
  by_cases e : x = a
  · subst e
    rw [upd_same, upd_ne h, upd_same]
  · by_cases e2 : x = b
    · subst e2
      rw [upd_same, upd_ne e, upd_same]
    · rw [upd_ne e2, upd_ne e, upd_ne e, upd_ne e2]
theorem ok_runinit {f C : Addr} {fd : FuncData} (F : Fun K "__init__" "Run.__init__" g_Run_init f fd) (T : SkTxt K C) : FnOk P w K mg base CX0 1 f fd p_Run_init (spRunInit C) := by
  refine F.ok sc_Run_init (fun vs H Q E h => ?_) (fun cdv A outer st H vs Q E hr h => ?_)
  · obtain ⟨a, dx, n, rfl, _⟩ := h
    rfl
  · obtain ⟨a, dx, n, rfl, hi, q⟩ := h
    refine ⟨_, (pss_cons (ps_fld (pv 0) (pv 1) rfl)
      (pss_cons (ps_fld (pv 0) (pe_lst pa_nil) rfl)
      (pss_one (ps_fld (pv 0) (pe_non) rfl)))), ?_⟩
    refine ⟨_, rfl, _, rfl, a, C, dx, _, rfl, hi, T.cl, T.nL, by show 0 < 1000; decide, ?_⟩
    refine ⟨Nat.zero_le _, fun lp np => ?_⟩
    have nap : a ≠ lp := fun e => by rw [← e, upd_same] at np; cases np
    rw [upd_ne (Ne.symm nap)] at np
    refine ⟨_, rfl, a, C, dx, _, rfl, (by rw [upd_ne nap, upd_same]), T.cl, T.nP, by show 1 < 1000; decide, ?_⟩
    refine ⟨_, rfl, a, C, dx, _, rfl, upd_same, T.cl, T.nE, by show 2 < 1000; decide, ?_⟩
    have z := q lp np
    have e : upd (upd (upd (upd H a (.ins C dx (putF "left" (.int (n : Int)) []))) lp (.lst [])) a (.ins C dx (putF "prints" (.ref lp) (putF "left" (.int (n : Int)) [])))) a (.ins C dx (putF "end" .non (putF "prints" (.ref lp) (putF "left" (.int (n : Int)) [])))) = upd (upd H lp (.lst [])) a (.ins C dx [("left", .int (n : Int)), ("prints", .ref lp), ("end", .non)]) := by
      rw [upd_twice, upd_swap nap, upd_twice]
      rfl
    rw [← e] at z
    exact z
abbrev g_Stack_init : Stmt := inClass (topS 10) 0
abbrev n_Stack_init : List Str := ["self", "steps"]
abbrev p_Stack_init : List Str := ["self", "steps"]
theorem sc_Stack_init : FnScope n_Stack_init p_Stack_init (defScope g_Stack_init) := ⟨rfl, rfl, rfl, by decide +kernel, rfl, by decide +kernel, by decide +kernel⟩
/-- a def that stands in a class and is reached by it -/
structure Ci (P : Program) (w : World) (K : PySem.W.Frag) (mg : Str → Option Value) (base : Heap) (C : Addr) (mc : Value) (k : Nat) (x : Str) (ps : List Str) (sp : Sp) (f : Addr) (fd : FuncData) : Prop where
  ok : FnOk P w K mg base CX0 k f fd ps sp
  rd : ClX.CRead K C mc
  cv : ClX.CVal K C mc x (.ref f) (.ref f)
  kp : PySem.W.keepIn K (.ref f) = true
  b : Binds K fd ps []
def skStart (n : Nat) : Sk := ⟨n, [], .non, [.non], [.non], 0, 1⟩
def spSkInit (C : Addr) : Sp := fun vs H Q _ => ∃ (a dx : Addr) (n : Nat), vs = [.ref a, .int (n : Int)] ∧ H a = some (.ins C dx []) ∧
  ∀ lp lh lf, H lp = none → H lh = none → H lf = none → lp ≠ lh → lp ≠ lf → lh ≠ lf → Q .non (upd (upd (upd (upd H lp (.lst [])) lh (.lst [.non])) lf (.lst [.non])) a (.ins C dx (flds (skStart n) .non lp lh lf [])))
theorem ok_skinit {f fR C CR : Addr} {mc : Value} {fd fdR : FuncData} (F : Fun K "__init__" "Stack.__init__" g_Stack_init f fd) (T : SkTxt K C) (gR : mg "Run" = some (.ref CR)) (GR : Ci P w K mg base CR mc 1 "__init__" p_Run_init (spRunInit C) fR fdR) : FnOk P w K mg base CX0 2 f fd p_Stack_init (spSkInit C) := by
  refine F.ok sc_Stack_init (fun vs H Q E h => ?_) (fun cdv A outer st H vs Q E hr h => ?_)
  · obtain ⟨a, dx, n, rfl, _⟩ := h
    rfl
  · obtain ⟨a, dx, n, rfl, hi, q⟩ := h
    refine ⟨_, (pss_cons (ps_expr (pe_callC (pe_glob (v := .ref CR) rfl gR rfl) GR.ok hr GR.kp GR.b pass0 (pa_cons (pv 0) (pa_cons (pv 1) pa_nil))))
      (pss_cons (ps_fld (pv 0) (pe_lst (pa_cons (pe_non) pa_nil)) rfl)
      (pss_cons (ps_fld (pv 0) (pe_lst (pa_cons (pe_non) pa_nil)) rfl)
      (pss_cons (ps_fld (pv 0) (pe_int) rfl)
      (pss_one (ps_fld (pv 0) (pe_int) rfl)))))), ?_⟩
    refine ⟨CR, mc, rfl, GR.rd, GR.cv, _, rfl, _, rfl, ?_⟩
    refine ⟨a, dx, n, rfl, hi, fun lp np => ?_⟩
    have nap : a ≠ lp := fun e => by rw [e, np] at hi; cases hi
    refine ⟨by show 1 ≤ sizeLine; decide, fun lh nh => ?_⟩
    have nah : a ≠ lh := fun e => by rw [← e, upd_same] at nh; cases nh
    rw [upd_ne (Ne.symm nah)] at nh
    have nph : lp ≠ lh := fun e => by rw [← e, upd_same] at nh; cases nh
    rw [upd_ne (Ne.symm nph)] at nh
    refine ⟨_, rfl, a, C, dx, _, rfl, (by rw [upd_ne nah, upd_same]), T.cl, T.nH, by show 3 < 1000; decide, ?_⟩
    refine ⟨by show 1 ≤ sizeLine; decide, fun lf nf => ?_⟩
    have naf : a ≠ lf := fun e => by rw [← e, upd_same] at nf; cases nf
    rw [upd_ne (Ne.symm naf)] at nf
    have nhf : lh ≠ lf := fun e => by rw [← e, upd_same] at nf; cases nf
    rw [upd_ne (Ne.symm nhf), upd_ne (Ne.symm naf)] at nf
    have npf : lp ≠ lf := fun e => by rw [← e, upd_same] at nf; cases nf
    rw [upd_ne (Ne.symm npf)] at nf
    refine ⟨_, rfl, a, C, dx, _, rfl, (by rw [upd_ne naf, upd_same]), T.cl, T.nF, by show 4 < 1000; decide, ?_⟩
    refine ⟨_, rfl, a, C, dx, _, rfl, upd_same, T.cl, T.nK, by show 5 < 1000; decide, ?_⟩
    refine ⟨_, rfl, a, C, dx, _, rfl, upd_same, T.cl, T.nM, by show 6 < 1000; decide, ?_⟩
    have z := q lp lh lf np nh nf nph npf nhf
    refine cast (congrArg (Q V.non) (funext fun x => ?_)) z
    by_cases ea : x = a
    · subst ea
      rw [upd_same, upd_same]
      rfl
    rw [upd_ne ea, upd_ne ea, upd_ne ea]
    by_cases ef : x = lf
    · subst ef
      rw [upd_same, upd_ne ea, upd_same]
    rw [upd_ne ef, upd_ne ea, upd_ne ef, upd_ne ea]
    by_cases eh : x = lh
    · subst eh
      rw [upd_same, upd_same]
    rw [upd_ne eh, upd_ne eh, upd_ne ea]
end
end Bz


set_option Elab.async false
set_option linter.all false
set_option maxRecDepth 100000
set_option maxHeartbeats 4000000
namespace Bz
open PySem PySem.Spec L2 PyProof.Rows
/-! ### shapes -/
def fnTags : List Str := ["fun", "rec", "closure", "kept", "function"]
inductive VS : D → Shp → Prop where
  | int (n : Int) : VS (.tup [.str "num", .int n]) (.int n)
  | bool (b : Bool) : VS (.tup [.str "flag", .bl b]) (.bool b)
  | unit : VS (.tup [.str "unit"]) .unit
  | pair {a b : D} {s t : Shp} : VS a s → VS b t → VS (.tup [.str "pair", a, b]) (.pair s t)
  | fn {x : Str} {r : List D} : x ∈ fnTags → VS (.tup (.str x :: r)) .fn
theorem Val.vs : ∀ v : Val, VS v.d v.shp
  | .num n => .int n
  | .flag b => .bool b
  | .unit => .unit
  | .pair v w => .pair v.vs w.vs
  | .clo _ _ => .fn (by decide)
  | .kept _ => .fn (by decide)
/-- a node: a pair, or what it is -/
inductive NS : D → Option Shp → Prop where
  | pair (a b : D) : NS (.tup [.str "pair", a, b]) none
  | int (n : Int) : NS (.tup [.str "num", .int n]) (some (.int n))
  | bool (b : Bool) : NS (.tup [.str "flag", .bl b]) (some (.bool b))
  | unit : NS (.tup [.str "unit"]) (some .unit)
  | fn {x : Str} {r : List D} : x ∈ fnTags → NS (.tup (.str x :: r)) (some .fn)
def nodes : Shp → List (Option Shp)
  | .pair a b => none :: (nodes a ++ nodes b)
  | s => [some s]
def stepN : Option Shp → List Shp → List Shp
  | none, a :: b :: r => .pair a b :: r
  | none, r => r
  | some s, r => s :: r
theorem nodes_fold : ∀ (s : Shp) (r : List Shp), (nodes s).foldr stepN r = s :: r
  | .int _, _ => rfl
  | .bool _, _ => rfl
  | .unit, _ => rfl
  | .fn, _ => rfl
  | .pair a b, r => by
    show stepN none ((nodes a ++ nodes b).foldr stepN r) = _
    rw [List.foldr_append, nodes_fold b r, nodes_fold a]
    rfl
def shpSize : Shp → Nat
  | .pair a b => shpSize a + shpSize b + 1
  | _ => 1
theorem nodes_len : ∀ s : Shp, (nodes s).length = shpSize s
  | .int _ => rfl
  | .bool _ => rfl
  | .unit => rfl
  | .fn => rfl
  | .pair a b => by
    show ((nodes a ++ nodes b).length + 1) = _
    rw [List.length_append, nodes_len a, nodes_len b]
    rfl
/-- the written dict of the shapes' names -/
structure ShTxt (K : PySem.W.Frag) (w : World) (mg : Str → Option Value) (p : Addr) (es : Array DictEntry) (n : Nat) : Prop where
  g : mg "SHAPES" = some (.ref p)
  D : KDict K w p es n
  num : ∃ t, PySem.W.nsIn K p "num" = some (some (.str "int" t))
  flag : ∃ t, PySem.W.nsIn K p "flag" = some (some (.str "bool" t))
  unit : ∃ t, PySem.W.nsIn K p "unit" = some (some (.str "unit" t))
  no : ∀ x ∈ fnTags, PySem.W.nsIn K p x = some none
theorem kdct_of {K : PySem.W.Frag} {w : World} {p : Addr} {es : Array DictEntry} {n : Nat} {x : Str} {u : Value} {v : V} (D : KDict K w p es n) (h : PySem.W.nsIn K p x = some (some u)) (r : RelV v u) : KDct K w p x v := ⟨es, n, u, D.at_, D.lit, h, r⟩
theorem dstr (a b : Str) : decide (V.str a = V.str b) = decide (a = b) := decide_eq_decide.mpr ⟨fun e => V.str.inj e, fun e => by rw [e]⟩
section
variable {P : Program} {w : World} {K : PySem.W.Frag} {mg : Str → Option Value} {base : Heap}
abbrev g_shape : Stmt := topS 8
abbrev n_shape : List Str := ["value", "found", "waiting", "one", "built", "first", "second"]
abbrev p_shape : List Str := ["value"]
theorem sc_shape : FnScope n_shape p_shape (defScope g_shape) := ⟨rfl, rfl, rfl, by decide +kernel, rfl, by decide +kernel, by decide +kernel⟩
def spShape : Sp := fun vs H Q _ => ∃ (R : Hp) (d : D) (s : Shp) (v : V), vs = [v] ∧ Same R H ∧ At R d v ∧ VS d s ∧ shpSize s ≤ 1000000 ∧ ∀ (R' H' : Hp) (v : V), Mv F0 R H R' H' → At R' s.d v → Q v H'
/-- two lists side by side -/
def Wt (R : Hp) : List V → List Shp → Prop
  | [], ss => ss = []
  | v :: r, ss => ∃ s rs d, ss = s :: rs ∧ At R d v ∧ VS d s ∧ Wt R r rs
def Nt (R : Hp) : List V → List (Option Shp) → Prop
  | [], ss => ss = []
  | v :: r, ss => ∃ s rs d, ss = s :: rs ∧ At R d v ∧ NS d s ∧ Nt R r rs
theorem Wt.snoc {R : Hp} : ∀ {vs : List V} {ss : List Shp} {v : V} {s : Shp} {d : D}, Wt R vs ss → At R d v → VS d s → Wt R (vs ++ [v]) (ss ++ [s])
  | [], _, v, s, d, h, a, k => by rw [show _ = ([] : List Shp) from h]; exact ⟨s, [], d, rfl, a, k, rfl⟩
  | x :: r, _, v, s, d, ⟨t, rs, e, q, b, c, m⟩, a, k => ⟨t, rs ++ [s], e, by rw [q]; rfl, b, c, Wt.snoc (vs := r) m a k⟩
theorem Nt.snoc {R : Hp} : ∀ {vs : List V} {ss : List (Option Shp)} {v : V} {s : Option Shp} {d : D}, Nt R vs ss → At R d v → NS d s → Nt R (vs ++ [v]) (ss ++ [s])
  | [], _, v, s, d, h, a, k => by rw [show _ = ([] : List (Option Shp)) from h]; exact ⟨s, [], d, rfl, a, k, rfl⟩
  | x :: r, _, v, s, d, ⟨t, rs, e, q, b, c, m⟩, a, k => ⟨t, rs ++ [s], e, by rw [q]; rfl, b, c, Nt.snoc (vs := r) m a k⟩
theorem Nt.length {R : Hp} : ∀ {vs : List V} {ss : List (Option Shp)}, Nt R vs ss → vs.length = ss.length
  | [], _, h => by rw [show _ = ([] : List (Option Shp)) from h]; rfl
  | _ :: r, _, ⟨t, rs, e, q, b, c, m⟩ => by rw [q, List.length_cons, List.length_cons, Nt.length (vs := r) m]
theorem Nt.get {R : Hp} : ∀ {vs : List V} {ss : List (Option Shp)} {i : Nat} {v : V}, Nt R vs ss → vs[i]? = some v → ∃ s d, ss[i]? = some s ∧ At R d v ∧ NS d s
  | [], _, _, _, _, h => by simp at h
  | x :: r, _, 0, v, ⟨t, rs, e, q, b, c, m⟩, h => by
    cases (show x = v from Option.some.inj h)
    exact ⟨t, e, by rw [q]; rfl, b, c⟩
  | x :: r, _, i + 1, v, ⟨t, rs, e, q, b, c, m⟩, h => by
    obtain ⟨s, d, h1, h2⟩ := Nt.get (vs := r) m (show r[i]? = some v by simpa using h)
    exact ⟨s, d, by rw [q]; simpa using h1, h2⟩
theorem Nt.up {R R' : Hp} (s : Same R R') : ∀ {vs : List V} {ss : List (Option Shp)}, Nt R vs ss → Nt R' vs ss
  | [], _, h => h
  | _ :: r, _, ⟨t, rs, e, q, b, c, m⟩ => ⟨t, rs, e, q, b.up s, c, Nt.up s (vs := r) m⟩
theorem Wt.last {R : Hp} : ∀ {vs : List V} {ss : List Shp}, Wt R vs ss → vs ≠ [] → ∃ p v ps s d, vs = p ++ [v] ∧ ss = ps ++ [s] ∧ Wt R p ps ∧ At R d v ∧ VS d s
  | [], _, _, h => absurd rfl h
  | [x], _, ⟨t, rs, e, q, b, c, m⟩, _ => ⟨[], x, [], t, e, rfl, by rw [q, show rs = [] from m]; rfl, rfl, b, c⟩
  | x :: y :: r, _, ⟨t, rs, e, q, b, c, m⟩, _ => by
    obtain ⟨p, v, ps, s, d, e1, e2, h1, h2⟩ := Wt.last (vs := y :: r) m (by intro z; cases z)
    exact ⟨x :: p, v, t :: ps, s, d, by rw [e1]; rfl, by rw [q, e2]; rfl, ⟨t, ps, e, rfl, b, c, h1⟩, h2⟩
theorem Wt.nil_of {R : Hp} {vs : List V} {ss : List Shp} (h : Wt R vs ss) (e : vs = []) : ss = [] := by subst e; exact h
/-- the shapes that are built, the last one first -/
def Bt (R : Hp) (vs : List V) (ss : List Shp) : Prop := Ats R (ss.reverse.map Shp.d) vs
theorem Bt.push {R : Hp} {vs : List V} {ss : List Shp} {v : V} {s : Shp} (h : Bt R vs ss) (a : At R s.d v) : Bt R (vs ++ [v]) (s :: ss) := by
  unfold Bt at h ⊢
  rw [List.reverse_cons, List.map_append]
  exact Ats.snoc h a
theorem Bt.pop {R : Hp} {vs : List V} {ss : List Shp} {s : Shp} (h : Bt R vs (s :: ss)) : ∃ p v, vs = p ++ [v] ∧ Bt R p ss ∧ At R s.d v := by
  unfold Bt at h
  rw [List.reverse_cons, List.map_append] at h
  exact Ats.last h
theorem Bt.length {R : Hp} {vs : List V} {ss : List Shp} (h : Bt R vs ss) : vs.length = ss.length := by
  have := Ats.length h
  rw [List.length_map, List.length_reverse] at this
  exact this
/-- all pairs find their two -/
def okN : List (Option Shp) → List Shp → Prop
  | [], _ => True
  | none :: r, b => okN r b ∧ ∃ x y t, r.foldr stepN b = x :: y :: t
  | some _ :: r, b => okN r b
theorem okN_app : ∀ (l m : List (Option Shp)) (b : List Shp), okN m b → okN l (m.foldr stepN b) → okN (l ++ m) b
  | [], m, b, h, _ => h
  | none :: r, m, b, h, k => by
    refine ⟨okN_app r m b h k.1, ?_⟩
    show ∃ x y t, (r ++ m).foldr stepN b = x :: y :: t
    rw [List.foldr_append]
    exact k.2
  | some _ :: r, m, b, h, k => okN_app r m b h k
theorem okN_nodes : ∀ (s : Shp) (b : List Shp), okN (nodes s) b
  | .int _, _ => trivial
  | .bool _, _ => trivial
  | .unit, _ => trivial
  | .fn, _ => trivial
  | .pair x y, b => by
    refine ⟨okN_app _ _ _ (okN_nodes y b) (okN_nodes x _), x, y, b, ?_⟩
    rw [List.foldr_append, nodes_fold y, nodes_fold x]
theorem okN_drop : ∀ (n : Nat) (l : List (Option Shp)) (b : List Shp), okN l b → okN (l.drop n) b
  | 0, _, _, h => h
  | n + 1, [], _, _ => trivial
  | n + 1, none :: r, b, h => okN_drop n r b h.1
  | n + 1, some _ :: r, b, h => okN_drop n r b h
theorem fold_len : ∀ (l : List (Option Shp)) (b : List Shp), (l.foldr stepN b).length ≤ l.length + b.length
  | [], b => by simp
  | none :: r, b => by
    have ih := fold_len r b
    show (stepN none (r.foldr stepN b)).length ≤ _
    generalize r.foldr stepN b = z at ih
    match z, ih with
    | [], _ => exact Nat.zero_le _
    | [_], ih => show 1 ≤ _; rw [List.length_cons]; omega
    | _ :: _ :: t, ih => 
      show t.length + 1 ≤ _
      rw [List.length_cons, List.length_cons] at ih
      rw [List.length_cons]
      omega
  | some s :: r, b => by
    have ih := fold_len r b
    show (r.foldr stepN b).length + 1 ≤ _
    rw [List.length_cons]
    omega
theorem Wt.length {R : Hp} : ∀ {vs : List V} {ss : List Shp}, Wt R vs ss → vs.length = ss.length
  | [], _, h => by rw [show _ = ([] : List Shp) from h]; rfl
  | _ :: r, _, ⟨t, rs, e, q, b, c, m⟩ => by rw [q, List.length_cons, List.length_cons, Wt.length (vs := r) m]
theorem shp_pos (s : Shp) : 1 ≤ shpSize s := by cases s <;> simp [shpSize]
theorem flat_ge : ∀ l : List Shp, l.length ≤ ((l.map nodes).flatten).length
  | [] => Nat.le_refl _
  | s :: r => by
    have ih := flat_ge r
    have h := shp_pos s
    rw [List.map_cons, List.flatten_cons, List.length_append, nodes_len, List.length_cons]
    omega
def ShW (R H : Hp) (v : V) (lf lw : Addr) (s : Shp) (m : Nat) (σ : L2.St) (H' : Hp) : Prop := ∃ (x : Option V) (fvs wvs : List V) (ks : List (Option Shp)) (ss : List Shp), σ = [some v, some (.ref lf), some (.ref lw), x, none, none, none] ∧ Same R H' ∧ Mv F0 R H R H' ∧ H' lf = some (.lst fvs) ∧ H' lw = some (.lst wvs) ∧ Nt R fvs ks ∧ Wt R wvs ss ∧ ks ++ (ss.reverse.map nodes).flatten = nodes s ∧ m + fvs.length = shpSize s + 1
theorem ok_shape {f pS : Addr} {fd : FuncData} {es : Array DictEntry} {nS : Nat} (F : Fun K "shape" "shape" g_shape f fd) (TS : ShTxt K w mg pS es nS) (mrev : mg "reversed" = none) : FnOk P w K mg base CX0 1 f fd p_shape spShape := by
  refine F.ok sc_shape (fun vs H Q E h => ?_) (fun cdv A outer st H vs Q E hr h => ?_)
  · obtain ⟨R, d, s, v, rfl, _⟩ := h
    rfl
  · obtain ⟨R, d, s, v, rfl, sub, hd, hvs, big, q⟩ := h
    refine ⟨_, (pss_cons (ps_set (i := 1) sc_shape.nd rfl (Or.inl rfl) (pe_lst pa_nil))
      (pss_cons (ps_set (i := 2) sc_shape.nd rfl (Or.inl rfl) (pe_lst (pa_cons (pv 0) pa_nil)))
      (pss_cons (ps_while PassesOwn.never (pt_truth (pv 2) (by intro _; rfl)) (pss_cons (ps_set (i := 3) sc_shape.nd rfl (Or.inl rfl) (pe_bm0 PySem.F.plainAttrs_list PySem.F.slot_list_pop PySem.F.type_list_pop mt_pop (pv 2)))
      (pss_cons (ps_expr (pe_bm PySem.F.plainAttrs_list PySem.F.slot_list_append PySem.F.type_list_append mt_append (pv 1) (pa_cons (pv 3) pa_nil)))
      (pss_one (ps_if (pt_cmpR op_eq (pe_ix ix_tup (pv 3) (pe_int) (fun _ _ => rfl)) (pe_str) (nomark _)) (pss_one (ps_expr (pe_bm PySem.F.plainAttrs_list PySem.F.slot_list_extend PySem.F.type_list_extend mt_extend (pv 2) (pa_cons (pe_lst (pa_cons (pe_ix ix_tup (pv 3) (pe_int) (fun _ _ => rfl)) (pa_cons (pe_ix ix_tup (pv 3) (pe_int) (fun _ _ => rfl)) pa_nil))) pa_nil)))) pss_nil)))))
      (pss_cons (ps_set (i := 4) sc_shape.nd rfl (Or.inl rfl) (pe_lst pa_nil))
      (pss_cons (ps_for PassesOwn.never rfl (pi_reversed (by rfl) mrev (pa_cons (pv 1) pa_nil)) (pg_name (i := 3) sc_shape.nd rfl (Or.inl rfl)) (pss_one (ps_if (pt_cmpR op_eq (pe_ix ix_tup (pv 3) (pe_int) (fun _ _ => rfl)) (pe_str) (nomark _)) (pss_cons (ps_set (i := 5) sc_shape.nd rfl (Or.inl rfl) (pe_bm0 PySem.F.plainAttrs_list PySem.F.slot_list_pop PySem.F.type_list_pop mt_pop (pv 4)))
      (pss_cons (ps_set (i := 6) sc_shape.nd rfl (Or.inl rfl) (pe_bm0 PySem.F.plainAttrs_list PySem.F.slot_list_pop PySem.F.type_list_pop mt_pop (pv 4)))
      (pss_one (ps_expr (pe_bm PySem.F.plainAttrs_list PySem.F.slot_list_append PySem.F.type_list_append mt_append (pv 4) (pa_cons (pe_tup (pa_cons (pe_str) (pa_cons (pv 5) (pa_cons (pv 6) pa_nil)))) pa_nil)))))) (pss_one (ps_if (pt_cmpR (op_in_kd TS.D) (pe_ix ix_tup (pv 3) pe_int (fun _ _ => rfl)) (pe_glob (v := .ref pS) rfl TS.g rfl) (by rfl)) (pss_one (ps_expr (pe_bm PySem.F.plainAttrs_list PySem.F.slot_list_append PySem.F.type_list_append mt_append (pv 4) (pa_cons (pe_tup (pa_cons (pe_ix ix_kdict (pe_glob (v := .ref pS) rfl TS.g rfl) (pe_ix ix_tup (pv 3) (pe_int) (fun _ _ => rfl)) (fun _ _ => rfl)) (StX.pa_star (pe_slice sl_tup (pv 3) (po_some (pe_int)) po_none) pa_nil))) pa_nil)))) (pss_one (ps_expr (pe_bm PySem.F.plainAttrs_list PySem.F.slot_list_append PySem.F.type_list_append mt_append (pv 4) (pa_cons (pe_tup (pa_cons (pe_str) pa_nil)) pa_nil)))))))))
      (pss_one (ps_ret (pe_ix ix_list (pv 4) (pe_int) (fun _ _ => rfl))))))))), ?_⟩
    refine ⟨Nat.zero_le _, fun lf nf => ?_⟩
    refine ⟨_, rfl, by show 1 ≤ sizeLine; decide, fun lw nw => ?_⟩
    have nfw : lf ≠ lw := fun e => by rw [← e, upd_same] at nw; cases nw
    have nw0 : H lw = none := by rw [upd_ne (Ne.symm nfw)] at nw; exact nw
    have m1 : Mv F0 R H R _ := mv_mut (o := .lst []) sub nf
    have m2 : Mv F0 R _ R _ := mv_mut (o := .lst [v]) m1.sub nw
    have m0 := m1.tr m2
    have szl : ∀ s : Shp, 1 ≤ shpSize s := fun s => by cases s <;> simp [shpSize]
    refine ⟨ShW R H v lf lw s, ⟨shpSize s + 1, none, [], [v], [], [s], rfl, m0.sub, m0, ?_, upd_same, rfl, ⟨s, [], d, rfl, hd, hvs, rfl⟩, by simp, rfl⟩, ?_⟩
    · rw [upd_ne nfw, upd_same]
    · rintro m σ H1 ⟨x, fvs, wvs, ks, ss, rfl, sub1, mv1, hf, hw, nt, wt, eq, em⟩
      have kl : ks.length + ((ss.reverse.map nodes).flatten).length = shpSize s := by rw [← nodes_len, ← eq, List.length_append]
      refine ⟨_, rfl, !wvs.isEmpty, .inl ⟨wvs, SqL.of hw, rfl⟩, ?_⟩
      by_cases emp : wvs = []
      · subst emp
        have es0 : ss = [] := wt
        subst es0
        refine iteF ?_
        have eks : ks = nodes s := by simpa using eq
        subst eks
        refine ⟨Nat.zero_le _, fun lb nb => ?_⟩
        have nfb := ne_of_none hf nb
        have mb : Mv F0 R H1 R _ := mv_mut (o := .lst []) sub1 nb
        have hfb := mb.same _ _ hf
        refine ⟨_, rfl, lf, fvs, rfl, SqL.of hfb, ?_⟩
        have fl := nt.length
        refine for_it walk_rev (fun i σ H' => ∃ (R' : Hp) (x y z : Option V) (bvs : List V), σ = [some v, some (.ref lf), some (.ref lw), x, some (.ref lb), y, z] ∧ Mv F0 R H R' H' ∧ Mv F0 R H1 R' H' ∧ H' lf = some (.lst fvs) ∧ R' lb = none ∧ H' lb = some (.lst bvs) ∧ Bt R' bvs (((nodes s).drop ((nodes s).length - i)).foldr stepN [])) ?_ ?_ ?_ ?_
        · refine ⟨R, x, none, none, [], rfl, mv1.tr mb, mb, hfb, sub1.free nb, upd_same, ?_⟩
          rw [Nat.sub_zero, List.drop_length]
          exact rfl
        · rintro i σ H' _ ⟨R', x, y, z, bvs, rfl, _, _, h, _⟩
          exact SqL.of h
        · rintro i u σ Hx H' hi ⟨R', x, y, z, bvs, rfl, mv', mv1', hf', rb, hb', bt⟩ ⟨rfl, hu⟩
          obtain ⟨nd, dd, hnd, ad, ns⟩ := nt.get hu
          rw [fl] at hi hnd
          obtain ⟨j, hj⟩ : ∃ j, (nodes s).length - i = j + 1 := ⟨(nodes s).length - i - 1, by omega⟩
          have hj2 : (nodes s).length - 1 - i = j := by omega
          rw [hj2] at hnd
          rw [hj] at bt
          have ed : (nodes s).drop j = nd :: (nodes s).drop (j + 1) := by
            have lt : j < (nodes s).length := (List.getElem?_eq_some_iff.mp hnd).1
            rw [List.drop_eq_getElem_cons lt]
            congr 1
            rw [List.getElem?_eq_getElem lt] at hnd
            exact Option.some.inj hnd
          have ej : (nodes s).length - (i + 1) = j := by omega
          have ad := ad.up mv'.up
          have bl := bt.length
          have bl2 := fold_len ((nodes s).drop (j + 1)) []
          rw [List.length_drop, List.length_nil, Nat.add_zero, nodes_len] at bl2
          have small : bvs.length < sizeLine := Nat.lt_of_le_of_lt (by omega : bvs.length ≤ 1000000) (by decide)
          cases ns with
          | pair da db =>
            have okj := okN_drop j _ _ (okN_nodes s [])
            rw [ed] at okj
            obtain ⟨_, sa, sb, st_, efold⟩ := okj
            rw [efold] at bt
            obtain ⟨p1, v1, rfl, bt1, a1⟩ := bt.pop
            obtain ⟨p2, v2, rfl, bt2, a2⟩ := bt1.pop
            obtain ⟨pu, _, rfl, hpu, _, _, rfl, rfl, va, _, rfl, ava, vb, _, rfl, avb, rfl⟩ := ad
            refine ⟨_, rfl, pu, _, 0, _, rfl, rfl, SqT.of (mv'.sub _ _ hpu), rfl, rfl, _, rfl, ?_⟩
            refine ifT (decide_eq_true rfl) ?_
            refine ⟨_, rfl, .inl ⟨rfl, _, SqL.of hb'⟩, lb, _, v1, rfl, rfl, hb', (by simp), ?_⟩
            rw [List.dropLast_concat]
            refine ⟨_, rfl, .inl ⟨rfl, _, SqL.of upd_same⟩, lb, _, v2, rfl, rfl, upd_same, (by simp), ?_⟩
            rw [List.dropLast_concat, upd_twice]
            refine ⟨_, rfl, .inl ⟨rfl, _, SqL.of upd_same⟩, _, rfl, _, rfl, by show 3 ≤ sizeLine; decide, fun pn nn => ?_⟩
            have nbn : lb ≠ pn := fun e => by rw [← e, upd_same] at nn; cases nn
            have nn0 : H' pn = none := by rw [upd_ne (Ne.symm nbn)] at nn; exact nn
            have e1 : (p2 ++ [v2] ++ [v1]).length = p2.length + 2 := by simp
            refine ⟨lb, p2, _, rfl, rfl, (by rw [upd_ne nbn, upd_same]), Nat.lt_of_le_of_lt (by omega) small, ?_⟩
            rw [upd_swap nbn, upd_twice]
            have mn : Mv F0 R' H' _ _ := mv_new (o := .tup [.str "pair", v1, v2]) mv'.sub nn0
            have hbn := mn.same _ _ hb'
            have rbn := mn.out rb hb'
            have mset : Mv (fun x => x = lb) _ _ _ _ := mv_at (o := .lst (p2 ++ [.ref pn])) mn.sub rbn hbn rfl
            have lbH : H lb = none := mv1.free nb
            refine ⟨_, _, _, _, _, rfl, (mv'.tr mn).trans mset (fun _ f => f) (fun x f => .inr (by rw [f]; exact lbH)), (mv1'.tr mn).trans mset (fun _ f => f) (fun x f => .inr (by rw [f]; exact nb)), ?_, rbn, upd_same, ?_⟩
            · rw [upd_ne nfb]; exact mn.same _ _ hf'
            · rw [ej, ed]
              show Bt _ _ (stepN none (((nodes s).drop (j + 1)).foldr stepN []))
              rw [efold]
              exact Bt.push (show Bt _ p2 st_ from Ats.up mn.up bt2) (At.ntup (l := [.str "pair", sa.d, sb.d]) mv'.sub nn0 ⟨_, _, rfl, rfl, _, _, rfl, a1, _, _, rfl, a2, rfl⟩)
          | int n =>
            obtain ⟨pu, _, rfl, hpu, _, _, rfl, rfl, _, _, rfl, rfl, rfl⟩ := ad
            have hpu := mv'.sub _ _ hpu
            refine ⟨_, rfl, pu, _, 0, _, rfl, rfl, SqT.of hpu, rfl, rfl, _, rfl, ?_⟩
            refine isF (by decide +kernel) ?_
            obtain ⟨tt, ht⟩ := TS.num
            refine ⟨_, rfl, pu, _, 0, _, rfl, rfl, SqT.of hpu, rfl, _, _, rfl, rfl, ht, _, rfl, ?_⟩
            refine ifT rfl ?_
            refine ⟨_, rfl, .inl ⟨rfl, _, SqL.of hb'⟩, _, rfl, pu, _, 0, _, rfl, rfl, SqT.of hpu, rfl, pS, _, _, rfl, rfl, kdct_of TS.D ht (v := .str "int") ⟨_, rfl⟩, _, rfl, 1, rfl, pu, _, rfl, SqT.of hpu, (fun e => Nat.one_ne_zero e.1), fun p1 n1 => ?_⟩
            refine ⟨p1, [.int n], rfl, .inl (SqT.of upd_same), (by show 2 ≤ sizeLine; decide), fun pn nn => ?_⟩
            have mx : Mv F0 R' H' R' _ := mv_mut (o := .tup [.int n]) mv'.sub n1
            have mn : Mv F0 R' H' _ _ := mx.tr (mv_new (o := .tup (.str "int" :: [.int n])) mx.sub nn)
            have hbn := mn.same _ _ hb'
            have rbn := mn.out rb hb'
            refine ⟨lb, bvs, _, rfl, rfl, hbn, small, ?_⟩
            have mset : Mv (fun x => x = lb) _ _ _ _ := mv_at (o := .lst (bvs ++ [.ref pn])) mn.sub rbn hbn rfl
            have lbH : H lb = none := mv1.free nb
            refine ⟨_, _, _, _, _, rfl, (mv'.tr mn).trans mset (fun _ f => f) (fun x f => .inr (by rw [f]; exact lbH)), (mv1'.tr mn).trans mset (fun _ f => f) (fun x f => .inr (by rw [f]; exact nb)), ?_, rbn, upd_same, ?_⟩
            · rw [upd_ne nfb]; exact mn.same _ _ hf'
            · rw [ej, ed]
              show Bt _ _ (stepN (some (.int n)) (((nodes s).drop (j + 1)).foldr stepN []))
              exact Bt.push (show Bt _ bvs _ from Ats.up mn.up bt) (At.ntup (l := [.str "int", .int n]) mx.sub nn ⟨_, _, rfl, rfl, _, _, rfl, rfl, rfl⟩)
          | bool b =>
            obtain ⟨pu, _, rfl, hpu, _, _, rfl, rfl, _, _, rfl, rfl, rfl⟩ := ad
            have hpu := mv'.sub _ _ hpu
            refine ⟨_, rfl, pu, _, 0, _, rfl, rfl, SqT.of hpu, rfl, rfl, _, rfl, ?_⟩
            refine isF (by decide +kernel) ?_
            obtain ⟨tt, ht⟩ := TS.flag
            refine ⟨_, rfl, pu, _, 0, _, rfl, rfl, SqT.of hpu, rfl, _, _, rfl, rfl, ht, _, rfl, ?_⟩
            refine ifT rfl ?_
            refine ⟨_, rfl, .inl ⟨rfl, _, SqL.of hb'⟩, _, rfl, pu, _, 0, _, rfl, rfl, SqT.of hpu, rfl, pS, _, _, rfl, rfl, kdct_of TS.D ht (v := .str "bool") ⟨_, rfl⟩, _, rfl, 1, rfl, pu, _, rfl, SqT.of hpu, (fun e => Nat.one_ne_zero e.1), fun p1 n1 => ?_⟩
            refine ⟨p1, [.bl b], rfl, .inl (SqT.of upd_same), (by show 2 ≤ sizeLine; decide), fun pn nn => ?_⟩
            have mx : Mv F0 R' H' R' _ := mv_mut (o := .tup [.bl b]) mv'.sub n1
            have mn : Mv F0 R' H' _ _ := mx.tr (mv_new (o := .tup (.str "bool" :: [.bl b])) mx.sub nn)
            have hbn := mn.same _ _ hb'
            have rbn := mn.out rb hb'
            refine ⟨lb, bvs, _, rfl, rfl, hbn, small, ?_⟩
            have mset : Mv (fun x => x = lb) _ _ _ _ := mv_at (o := .lst (bvs ++ [.ref pn])) mn.sub rbn hbn rfl
            have lbH : H lb = none := mv1.free nb
            refine ⟨_, _, _, _, _, rfl, (mv'.tr mn).trans mset (fun _ f => f) (fun x f => .inr (by rw [f]; exact lbH)), (mv1'.tr mn).trans mset (fun _ f => f) (fun x f => .inr (by rw [f]; exact nb)), ?_, rbn, upd_same, ?_⟩
            · rw [upd_ne nfb]; exact mn.same _ _ hf'
            · rw [ej, ed]
              show Bt _ _ (stepN (some (.bool b)) (((nodes s).drop (j + 1)).foldr stepN []))
              exact Bt.push (show Bt _ bvs _ from Ats.up mn.up bt) (At.ntup (l := [.str "bool", .bl b]) mx.sub nn ⟨_, _, rfl, rfl, _, _, rfl, rfl, rfl⟩)
          | unit =>
            obtain ⟨pu, _, rfl, hpu, _, _, rfl, rfl, rfl⟩ := ad
            have hpu := mv'.sub _ _ hpu
            refine ⟨_, rfl, pu, _, 0, _, rfl, rfl, SqT.of hpu, rfl, rfl, _, rfl, ?_⟩
            refine isF (by decide +kernel) ?_
            obtain ⟨tt, ht⟩ := TS.unit
            refine ⟨_, rfl, pu, _, 0, _, rfl, rfl, SqT.of hpu, rfl, _, _, rfl, rfl, ht, _, rfl, ?_⟩
            refine ifT rfl ?_
            refine ⟨_, rfl, .inl ⟨rfl, _, SqL.of hb'⟩, _, rfl, pu, _, 0, _, rfl, rfl, SqT.of hpu, rfl, pS, _, _, rfl, rfl, kdct_of TS.D ht (v := .str "unit") ⟨_, rfl⟩, _, rfl, 1, rfl, pu, _, rfl, SqT.of hpu, (fun e => Nat.one_ne_zero e.1), fun p1 n1 => ?_⟩
            refine ⟨p1, [], rfl, .inl (SqT.of upd_same), (by show 1 ≤ sizeLine; decide), fun pn nn => ?_⟩
            have mx : Mv F0 R' H' R' _ := mv_mut (o := .tup []) mv'.sub n1
            have mn : Mv F0 R' H' _ _ := mx.tr (mv_new (o := .tup (.str "unit" :: [])) mx.sub nn)
            have hbn := mn.same _ _ hb'
            have rbn := mn.out rb hb'
            refine ⟨lb, bvs, _, rfl, rfl, hbn, small, ?_⟩
            have mset : Mv (fun x => x = lb) _ _ _ _ := mv_at (o := .lst (bvs ++ [.ref pn])) mn.sub rbn hbn rfl
            have lbH : H lb = none := mv1.free nb
            refine ⟨_, _, _, _, _, rfl, (mv'.tr mn).trans mset (fun _ f => f) (fun x f => .inr (by rw [f]; exact lbH)), (mv1'.tr mn).trans mset (fun _ f => f) (fun x f => .inr (by rw [f]; exact nb)), ?_, rbn, upd_same, ?_⟩
            · rw [upd_ne nfb]; exact mn.same _ _ hf'
            · rw [ej, ed]
              show Bt _ _ (stepN (some .unit) (((nodes s).drop (j + 1)).foldr stepN []))
              exact Bt.push (show Bt _ bvs _ from Ats.up mn.up bt) (At.ntup (l := [.str "unit"]) mx.sub nn ⟨_, _, rfl, rfl, rfl⟩)
          | @fn x0 r0 hx =>
            obtain ⟨pu, _, rfl, hpu, _, rr, rfl, rfl, _⟩ := ad
            have hpu := mv'.sub _ _ hpu
            refine ⟨_, rfl, pu, _, 0, _, rfl, rfl, SqT.of hpu, atI_nat (j := 0) rfl, rfl, _, rfl, ?_⟩
            refine isF (fun e => by subst e; revert hx; decide +kernel) ?_
            refine ⟨_, rfl, pu, _, 0, _, rfl, rfl, SqT.of hpu, atI_nat (j := 0) rfl, _, _, rfl, rfl, TS.no _ hx, _, rfl, ?_⟩
            refine ifF rfl ?_
            refine ⟨_, rfl, .inl ⟨rfl, _, SqL.of hb'⟩, by show 1 ≤ sizeLine; decide, fun pn nn => ?_⟩
            have mn : Mv F0 R' H' _ _ := mv_new (o := .tup [.str "fun"]) mv'.sub nn
            have hbn := mn.same _ _ hb'
            have rbn := mn.out rb hb'
            refine ⟨lb, bvs, _, rfl, rfl, hbn, small, ?_⟩
            have mset : Mv (fun x => x = lb) _ _ _ _ := mv_at (o := .lst (bvs ++ [.ref pn])) mn.sub rbn hbn rfl
            have lbH : H lb = none := mv1.free nb
            refine ⟨_, _, _, _, _, rfl, (mv'.tr mn).trans mset (fun _ f => f) (fun x f => .inr (by rw [f]; exact lbH)), (mv1'.tr mn).trans mset (fun _ f => f) (fun x f => .inr (by rw [f]; exact nb)), ?_, rbn, upd_same, ?_⟩
            · rw [upd_ne nfb]; exact mn.same _ _ hf'
            · rw [ej, ed]
              show Bt _ _ (stepN (some .fn) (((nodes s).drop (j + 1)).foldr stepN []))
              exact Bt.push (show Bt _ bvs _ from Ats.up mn.up bt) (At.ntup (l := [.str "fun"]) mv'.sub nn ⟨_, _, rfl, rfl, rfl⟩)
        · rintro σ H' ⟨R', x, y, z, bvs, rfl, mv', mv1', hf', rb, hb', bt⟩
          rw [fl, Nat.sub_self, List.drop_zero, nodes_fold] at bt
          obtain ⟨p1, v1, rfl, bt1, a1⟩ := bt.pop
          have e1 : p1 = [] := List.length_eq_zero_iff.mp bt1.length
          subst e1
          refine ⟨_, rfl, lb, _, 0, _, rfl, rfl, SqL.of hb', rfl, ?_⟩
          exact q _ _ _ mv' a1
      · obtain ⟨pw, u, pss, sh, dd, rfl, rfl, wt2, ad, vsd⟩ := wt.last emp
        have eemp : (!(pw ++ [u]).isEmpty) = true := by simp
        refine ifT eemp ?_
        refine ⟨fun σ' H' => ∃ m', m' < m ∧ ShW R H v lf lw s m' σ' H', fun _ _ z => z, ?_⟩
        refine ⟨_, rfl, .inl ⟨rfl, _, SqL.of hw⟩, lw, _, u, rfl, rfl, hw, (by simp), ?_⟩
        rw [List.dropLast_concat]
        have rw0 : R lw = none := sub.free nw0
        have rf0 : R lf = none := sub.free nf
        have ms1 : Mv (fun x => x = lf ∨ x = lw) R H1 R _ := mv_at (o := .lst pw) sub1 rw0 hw (.inr rfl)
        have hf1 : (upd H1 lw (.lst pw)) lf = some (.lst fvs) := by rw [upd_ne nfw]; exact hf
        have hw1 : (upd H1 lw (.lst pw)) lw = some (.lst pw) := upd_same
        have fl := nt.length
        have s1 := szl sh
        have kl2 : fvs.length + 1 ≤ shpSize s := by
          rw [List.reverse_append, List.map_append, List.flatten_append] at kl
          simp only [List.length_append] at kl
          have : ((([sh] : List Shp).reverse.map nodes).flatten).length = shpSize sh := by simp [nodes_len]
          omega
        refine ⟨_, rfl, .inl ⟨rfl, _, SqL.of hf1⟩, _, rfl, lf, fvs, _, rfl, rfl, hf1, Nat.lt_of_le_of_lt (by omega : fvs.length ≤ 1000000) (by decide), ?_⟩
        have ms2 := ms1.tr (mv_at (F := fun x => x = lf ∨ x = lw) (o := .lst (fvs ++ [u])) ms1.sub rf0 hf1 (.inl rfl))
        have hf2 : (upd (upd H1 lw (.lst pw)) lf (.lst (fvs ++ [u]))) lf = some (.lst (fvs ++ [u])) := upd_same
        have hw2 : (upd (upd H1 lw (.lst pw)) lf (.lst (fvs ++ [u]))) lw = some (.lst pw) := by rw [upd_ne (Ne.symm nfw)]; exact hw1
        generalize upd (upd H1 lw (.lst pw)) lf (.lst (fvs ++ [u])) = H2 at ms2 hf2 hw2
        have mv2 : Mv F0 R H R H2 := mv1.trans ms2 (fun _ f => f) (fun x f => .inr (f.elim (fun e => by rw [e]; exact nf) fun e => by rw [e]; exact nw0))
        cases vsd with
        | @pair da db sa sb ha hb =>
          have ad' := ad
          obtain ⟨pu, _, rfl, hpu, _, _, rfl, rfl, va, _, rfl, ava, vb, _, rfl, avb, rfl⟩ := ad
          have hpu := ms2.sub _ _ hpu
          refine ⟨_, rfl, pu, _, 0, _, rfl, rfl, SqT.of hpu, rfl, rfl, _, rfl, ?_⟩
          refine ifT (decide_eq_true rfl) ?_
          refine ⟨_, rfl, .inl ⟨rfl, _, SqL.of hw2⟩, _, rfl, pu, _, 2, _, rfl, rfl, SqT.of hpu, rfl, _, rfl, pu, _, 1, _, rfl, rfl, SqT.of hpu, rfl, by show 2 ≤ sizeLine; decide, fun pl nl => ?_⟩
          have m3 : Mv F0 R H2 R _ := mv_mut (o := .lst [vb, va]) ms2.sub nl
          have hw3 := m3.same _ _ hw2
          have hf3 := m3.same _ _ hf2
          refine ⟨lw, pl, pw, _, rfl, rfl, hw3, upd_same, ?_, ?_⟩
          · have h1 := wt2.length
            have h2 := flat_ge (pss ++ [Shp.pair sa sb]).reverse
            rw [List.length_reverse, List.length_append] at h2
            have h3 : ([vb, va] : List V).length = 2 := rfl
            have h4 : ([Shp.pair sa sb] : List Shp).length = 1 := rfl
            exact Nat.le_trans (by omega : pw.length + [vb, va].length ≤ 1000002) (by decide)
          have m4 : Mv (fun x => x = lw) R _ R _ := mv_at (o := .lst (pw ++ [vb, va])) m3.sub rw0 hw3 rfl
          have hf4 : (upd (upd H2 pl (.lst [vb, va])) lw (.lst (pw ++ [vb, va]))) lf = some (.lst (fvs ++ [V.ref pu])) := by rw [upd_ne nfw]; exact hf3
          have mvE : Mv F0 R H R _ := (mv2.tr m3).trans m4 (fun _ f => f) (fun x f => .inr (by rw [f]; exact nw0))
          refine ⟨m - 1, by omega, some (.ref pu), _, _, ks ++ [none], pss ++ [sb, sa], rfl, m4.sub, mvE, hf4, upd_same, nt.snoc ad' (.pair da db), ?_, ?_, by rw [List.length_append]; show m - 1 + (fvs.length + 1) = _; omega⟩
          · have z := (wt2.snoc avb hb).snoc ava ha
            rw [List.append_assoc, List.append_assoc] at z
            exact z
          · rw [← eq]
            simp [nodes, List.append_assoc]
        | int n =>
          have ad' := ad
          obtain ⟨pu, _, rfl, hpu, _, _, rfl, rfl, _, _, rfl, rfl, rfl⟩ := ad
          have hpu := ms2.sub _ _ hpu
          refine ⟨_, rfl, pu, _, 0, _, rfl, rfl, SqT.of hpu, rfl, rfl, _, rfl, ?_⟩
          refine isF (by decide +kernel) ?_
          refine ⟨m - 1, by omega, some (.ref pu), _, _, ks ++ [some (.int n)], pss, rfl, ms2.sub, mv2, hf2, hw2, nt.snoc ad' (.int n), wt2, ?_, by rw [List.length_append]; show m - 1 + (fvs.length + 1) = _; omega⟩
          rw [← eq]
          simp [nodes, List.append_assoc]
        | bool b =>
          have ad' := ad
          obtain ⟨pu, _, rfl, hpu, _, _, rfl, rfl, _, _, rfl, rfl, rfl⟩ := ad
          have hpu := ms2.sub _ _ hpu
          refine ⟨_, rfl, pu, _, 0, _, rfl, rfl, SqT.of hpu, rfl, rfl, _, rfl, ?_⟩
          refine isF (by decide +kernel) ?_
          refine ⟨m - 1, by omega, some (.ref pu), _, _, ks ++ [some (.bool b)], pss, rfl, ms2.sub, mv2, hf2, hw2, nt.snoc ad' (.bool b), wt2, ?_, by rw [List.length_append]; show m - 1 + (fvs.length + 1) = _; omega⟩
          rw [← eq]
          simp [nodes, List.append_assoc]
        | unit =>
          have ad' := ad
          obtain ⟨pu, _, rfl, hpu, _, _, rfl, rfl, rfl⟩ := ad
          have hpu := ms2.sub _ _ hpu
          refine ⟨_, rfl, pu, _, 0, _, rfl, rfl, SqT.of hpu, rfl, rfl, _, rfl, ?_⟩
          refine isF (by decide +kernel) ?_
          refine ⟨m - 1, by omega, some (.ref pu), _, _, ks ++ [some .unit], pss, rfl, ms2.sub, mv2, hf2, hw2, nt.snoc ad' (.unit), wt2, ?_, by rw [List.length_append]; show m - 1 + (fvs.length + 1) = _; omega⟩
          rw [← eq]
          simp [nodes, List.append_assoc]
        | @fn x0 r0 hx =>
          have ad' := ad
          obtain ⟨pu, _, rfl, hpu, _, rr, rfl, rfl, _⟩ := ad
          have hpu := ms2.sub _ _ hpu
          refine ⟨_, rfl, pu, _, 0, _, rfl, rfl, SqT.of hpu, atI_nat (j := 0) rfl, rfl, _, rfl, ?_⟩
          refine isF (fun e => by subst e; revert hx; decide +kernel) ?_
          refine ⟨m - 1, by omega, some (.ref pu), _, _, ks ++ [some .fn], pss, rfl, ms2.sub, mv2, hf2, hw2, nt.snoc ad' (.fn hx), wt2, ?_, by rw [List.length_append]; show m - 1 + (fvs.length + 1) = _; omega⟩
          rw [← eq]
          simp [nodes, List.append_assoc]
abbrev g_Run_end_with : Stmt := inClass (topS 3) 2
abbrev n_Run_end_with : List Str := ["self", "value"]
abbrev p_Run_end_with : List Str := ["self", "value"]
theorem sc_Run_end_with : FnScope n_Run_end_with p_Run_end_with (defScope g_Run_end_with) := ⟨rfl, rfl, rfl, by decide +kernel, rfl, by decide +kernel, by decide +kernel⟩
def spEnd (C : Addr) : Sp := fun vs H Q _ => ∃ (a dx lp lh lf : Addr) (ext : List (Str × V)) (R : Hp) (s : Sk) (v : V) (d : D) (sh : Shp), vs = [.ref a, v] ∧ Same R H ∧ SkAt C R H s a dx lp lh lf ext ∧ At R d v ∧ VS d sh ∧ shpSize sh ≤ 1000000 ∧
  SkOut C R H { s with fin := (Fin.val sh).d } a dx lp lh lf ext fun _ H' => Q .non H'
theorem ok_end {f fS C : Addr} {fd fdS : FuncData} (F : Fun K "end_with" "Run.end_with" g_Run_end_with f fd) (T : SkTxt K C) (GS : Fn P w K mg base CX0 1 "shape" p_shape spShape fS fdS) : FnOk P w K mg base CX0 2 f fd p_Run_end_with (spEnd C) := by
  refine F.ok sc_Run_end_with (fun vs H Q E h => ?_) (fun cdv A outer st H vs Q E hr h => ?_)
  · obtain ⟨a, dx, lp, lh, lf, ext, R, s, v, d, sh, rfl, _⟩ := h
    rfl
  · obtain ⟨a, dx, lp, lh, lf, ext, R, s, v, d, sh, rfl, sub, hs, hd, hv, big, q⟩ := h
    refine ⟨_, (pss_one (ps_fld (pv 0) (pe_tup (pa_cons (pe_str) (pa_cons (pe_call GS.ok hr (by rfl) GS.g GS.kp GS.b .nil pass0 (pa_cons (pv 1) pa_nil)) pa_nil))) rfl)), ?_⟩
    refine ⟨_, rfl, ?_⟩
    refine ⟨R, d, sh, v, rfl, sub, hd, hv, big, fun R1 H1 u m1 au => ?_⟩
    have h1 := hs.up0 m1
    refine ⟨by show 2 ≤ sizeLine; decide, fun p n => ?_⟩
    have h2 := h1.new (o := .tup [.str "value", u]) m1.sub n
    have m2 := m1.tr (mv_new (o := .tup [.str "value", u]) m1.sub n)
    obtain ⟨ve, e0, i⟩ := h2.ins
    refine ⟨_, rfl, a, C, dx, _, rfl, i, T.cl, T.nE, few7 hs.x, ?_⟩
    obtain ⟨h3, m3⟩ := h2.setIns (s' := { s with fin := (Fin.val sh).d }) m2.sub rfl rfl rfl (At.ntup (l := [.str "value", sh.d]) m1.sub n ⟨_, _, rfl, rfl, _, _, rfl, au, rfl⟩)
    exact q _ _ h3 ((m2.mono fun _ f => f.elim).tr m3)
end
end Bz


set_option Elab.async false
set_option linter.all false
set_option maxRecDepth 100000
set_option maxHeartbeats 4000000
namespace Bz
open PySem PySem.Spec L2 PyProof.Rows
/-! ### parts -/
def fpTab : List (Str × Nat) := [("num", 2), ("flag", 2), ("unit", 1), ("name", 2), ("call", 1), ("fun", 2), ("rec", 3), ("let", 2), ("if", 1), ("pair", 1), ("fst", 1), ("snd", 1), ("op", 2), ("not", 1), ("print", 1), ("ask", 2), ("kept", 2), ("known", 2)]
structure FpTxt (K : PySem.W.Frag) (w : World) (mg : Str → Option Value) (p : Addr) : Prop where
  g : mg "FIRST_PART" = some (.ref p)
  d : ∀ x k, fpTab.lookup x = some k → KDct K w p x (.int (k : Nat))
abbrev Cl4 := D × D × D × D
def cls4 (cs : List Cl4) : List D := cs.map fun c => .tup [c.1, c.2.1, c.2.2.1, c.2.2.2]
def gs4 (cs : List Cl4) : List D := cs.map fun c => c.2.2.2
inductive PartsOf : D → List D → Prop where
  | a {tag : Str} {lead ps : List D} : tag ≠ "handle" → fpTab.lookup tag = some (lead.length + 1) → lead.length + ps.length ≤ 1000 → PartsOf (.tup (.str tag :: (lead ++ ps))) ps
  | h {e x f : D} {cs : List Cl4} : cs.length ≤ 1000 → PartsOf (.tup [.str "handle", e, .tup [x, f], .tup (cls4 cs)]) (e :: f :: gs4 cs)
def setG : List Cl4 → List D → List Cl4
  | [], _ => []
  | c :: r, [] => c :: setG r []
  | c :: r, g :: s => (c.1, c.2.1, c.2.2.1, g) :: setG r s
inductive WithP : D → List D → D → Prop where
  | a {tag : Str} {lead ps is : List D} : tag ≠ "handle" → fpTab.lookup tag = some (lead.length + 1) → lead.length + ps.length ≤ 1000 → is.length ≤ 1000 → WithP (.tup (.str tag :: (lead ++ ps))) is (.tup (.str tag :: (lead ++ is)))
  | h {e x f e' f' : D} {cs : List Cl4} {gs : List D} : cs.length ≤ 1000 → gs.length = cs.length → WithP (.tup [.str "handle", e, .tup [x, f], .tup (cls4 cs)]) (e' :: f' :: gs) (.tup [.str "handle", e', .tup [x, f'], .tup (cls4 (setG cs gs))])
theorem cut_to {xs : List V} {i : Nat} (h : i ≤ xs.length) : cutV xs none (some (i : Int)) = xs.take i := by
  unfold cutV
  rw [HT.sIx_none, show HT.sIx xs.length xs.length (some (i : Int)) = min i xs.length from HT.sIx_nat xs.length _ i, Nat.min_eq_left h]
  rfl
theorem sIx0 {n i : Nat} (h : i ≤ n) : HT.sIx n 0 (some (i : Int)) = i := by
  rw [show HT.sIx n 0 (some (i : Int)) = min i n from HT.sIx_nat n _ i, Nat.min_eq_left h]
theorem sIxn {n i : Nat} (h : i ≤ n) : HT.sIx n n (some (i : Int)) = i := by
  rw [show HT.sIx n n (some (i : Int)) = min i n from HT.sIx_nat n _ i, Nat.min_eq_left h]
theorem drop_lead {α : Type} {x : α} {l m : List α} : (x :: (l ++ m)).drop (l.length + 1) = m := by simp
theorem take_lead {α : Type} {x : α} {l m : List α} : (x :: (l ++ m)).take (l.length + 1) = x :: l := by simp
theorem big3 {n : Nat} (h : n ≤ 5000) : n ≤ sizeLine := Nat.le_trans h (by decide)
theorem cls4_get {cs : List Cl4} {i : Nat} {d : D} (h : (cls4 cs)[i]? = some d) : ∃ c, cs[i]? = some c ∧ d = .tup [c.1, c.2.1, c.2.2.1, c.2.2.2] := by
  unfold cls4 at h
  rw [List.getElem?_map] at h
  cases e : cs[i]? with
  | none => rw [e] at h; cases h
  | some c => rw [e] at h; exact ⟨c, rfl, (Option.some.inj h).symm⟩
theorem setG_len : ∀ (cs : List Cl4) (gs : List D), (setG cs gs).length = cs.length
  | [], _ => rfl
  | c :: r, [] => congrArg (· + 1) (setG_len r [])
  | c :: r, g :: s => congrArg (· + 1) (setG_len r s)
theorem setG_get : ∀ {cs : List Cl4} {gs : List D} {i : Nat} {c : Cl4} {g : D}, cs[i]? = some c → gs[i]? = some g → (setG cs gs)[i]? = some (c.1, c.2.1, c.2.2.1, g)
  | c :: r, g :: s, 0, c', g', h, k => by
    cases (show c = c' from Option.some.inj h)
    cases (show g = g' from Option.some.inj k)
    rfl
  | c :: r, g :: s, i + 1, c', g', h, k => setG_get (cs := r) (gs := s) (i := i) (by simpa using h) (by simpa using k)
  | [], _, _, _, _, h, _ => by simp at h
  | _ :: _, [], _, _, _, _, k => by simp at k
section
variable {P : Program} {w : World} {K : PySem.W.Frag} {mg : Str → Option Value} {base : Heap}
abbrev g_parts : Stmt := topS 13
abbrev n_parts : List Str := ["expression", "_", "inner", "returned", "clauses", "clause"]
abbrev p_parts : List Str := ["expression"]
theorem sc_parts : FnScope n_parts p_parts (defScope g_parts) := ⟨rfl, rfl, rfl, by decide +kernel, rfl, by decide +kernel, by decide +kernel⟩
def spParts : Sp := fun vs H Q _ => ∃ (R : Hp) (d : D) (ps : List D) (v : V), vs = [v] ∧ Same R H ∧ At R d v ∧ PartsOf d ps ∧ ∀ (R' H' : Hp) (u : V), Mv F0 R H R' H' → At R' (.lst ps) u → Q u H'
theorem ok_parts {f pF : Addr} {fd : FuncData} (F : Fun K "parts" "parts" g_parts f fd) (TF : FpTxt K w mg pF) (mli : mg "list" = none) : FnOk P w K mg base CX0 1 f fd p_parts spParts := by
  refine F.ok sc_parts (fun vs H Q E h => ?_) (fun cdv A outer st H vs Q E hr h => ?_)
  · obtain ⟨R, d, ps, v, rfl, _⟩ := h
    rfl
  · obtain ⟨R, d, ps, v, rfl, sub, hd, hp, q⟩ := h
    refine ⟨_, (pss_cons (ps_if (pt_cmpR op_eq (pe_ix ix_tup (pv 0) (pe_int) (fun _ _ => rfl)) (pe_str) (nomark _)) (pss_cons (ps_asg (pv 0) (pg_tup rfl (pgs_cons (pg_name (i := 1) sc_parts.nd rfl (Or.inl rfl)) (pgs_cons (pg_name (i := 2) sc_parts.nd rfl (Or.inl rfl)) (pgs_cons (pg_name (i := 3) sc_parts.nd rfl (Or.inl rfl)) (pgs_cons (pg_name (i := 4) sc_parts.nd rfl (Or.inl rfl)) pgs_nil))))))
      (pss_one (ps_ret (pe_lst (pa_cons (pv 2) (pa_cons (pe_ix ix_tup (pv 3) (pe_int) (fun _ _ => rfl)) (StX.pa_star (pe_lc (own := [("clause", 5)]) (g := gName 5) (tt := tYes) (te := tOp (rIxT K) (tVar 5) (tC (.int 3))) rfl sc_parts.nd (pi_tup (pv 4)) (blkOk_by (N := n_parts) (sc := defScope g_parts) (by decide +kernel)) (fun _ _ _ _ _ => pg_name (i := 5) sc_parts.nd rfl (Or.inl rfl)) (fun _ _ _ _ _ => pts_nil) (fun _ _ _ _ _ => pe_ix ix_tup (pv 5) pe_int (fun _ _ => rfl))) pa_nil))))))) pss_nil)
      (pss_one (ps_ret (pe_callTy call_list_of (by rfl) mli (by decide +kernel) (pa_cons (pe_slice sl_tup (pv 0) (po_some (pe_ix ix_kdict (pe_glob (v := .ref pF) rfl TF.g rfl) (pe_ix ix_tup (pv 0) (pe_int) (fun _ _ => rfl)) (fun _ _ => rfl))) po_none) pa_nil))))), ?_⟩
    cases hp with
    | @a tag lead _ hn hk big =>
      obtain ⟨pe, _, rfl, he, _, rr, rfl, rfl, hr2⟩ := hd
      have he := sub _ _ he
      have hl := hr2.length
      rw [List.length_append] at hl
      refine ⟨_, rfl, pe, _, 0, _, rfl, rfl, SqT.of he, atI_nat (j := 0) rfl, rfl, _, rfl, ?_⟩
      refine isF hn ?_
      refine ⟨_, rfl, _, rfl, pe, _, 0, _, rfl, rfl, SqT.of he, atI_nat (j := 0) rfl, pF, _, _, rfl, rfl, TF.d _ _ hk, ((lead.length + 1 : Nat) : Int), rfl, pe, _, rfl, SqT.of he, ?_, fun p n => ?_⟩
      · rw [sIx0 (by rw [List.length_cons]; omega)]
        exact fun e => Nat.succ_ne_zero _ e.1
      rw [cut_from (by rw [List.length_cons]; omega)]
      have ed : (V.str tag :: rr).drop (lead.length + 1) = rr.drop lead.length := rfl
      rw [ed]
      have m1 : Mv F0 R H R _ := mv_mut (o := .tup (rr.drop lead.length)) sub n
      refine ⟨p, _, rfl, .inr (SqT.of upd_same), fun l nl => ?_⟩
      have a2 := hr2.drop lead.length
      rw [List.drop_left] at a2
      exact q _ _ _ (m1.tr (mv_new m1.sub nl)) (.nlst m1.sub nl a2)
    | @h e x f cs big =>
      obtain ⟨pe, _, rfl, he, _, _, rfl, rfl, ve, _, rfl, ae, vr, _, rfl, ⟨pr, _, rfl, hpr, vx, _, rfl, ax, vf, _, rfl, af, rfl⟩, vc, _, rfl, ⟨pc, cvs, rfl, hc, acs⟩, rfl⟩ := hd
      have he := sub _ _ he
      have hpr := sub _ _ hpr
      have hc := sub _ _ hc
      have lc := acs.length
      rw [show (cls4 cs).length = cs.length by unfold cls4; rw [List.length_map]] at lc
      refine ⟨_, rfl, pe, _, 0, _, rfl, rfl, SqT.of he, rfl, rfl, _, rfl, ?_⟩
      refine ifT (decide_eq_true rfl) ?_
      refine ⟨_, rfl, pe, _, rfl, SqT.of he, rfl, _, _, rfl, _, _, rfl, _, _, rfl, _, _, rfl, rfl, ?_⟩
      refine ⟨_, rfl, _, rfl, pr, _, 1, _, rfl, rfl, SqT.of hpr, rfl, _, rfl, pc, rfl, ⟨_, SqT.of hc⟩, fun L nL => ?_⟩
      refine lc_tup (K := K) (a := pc) (xs := cvs) (fun i H2 => ∃ ws, Same H H2 ∧ H2 L = some (.lst ws) ∧ H2 = upd H L (.lst ws) ∧ Ats R (gs4 (cs.take i)) ws) ⟨[], same_new nL, upd_same, rfl, rfl⟩ (fun i H2 _ q => by obtain ⟨_, s, _⟩ := q; exact SqT.of (s _ _ hc)) ?_ ?_
      · rintro i y H2 hy ⟨ws, s2, hL, rfl, aw⟩
        obtain ⟨dd, hdd, ad⟩ := acs.mem hy
        obtain ⟨c, hcs, rfl⟩ := cls4_get hdd
        obtain ⟨py, _, rfl, hpy, v1, _, rfl, a1, v2, _, rfl, a2, v3, _, rfl, a3, v4, _, rfl, a4, rfl⟩ := ad
        have li : i < cs.length := (List.getElem?_eq_some_iff.mp hcs).1
        have lw := aw.length
        rw [show (gs4 (cs.take i)).length = i by unfold gs4; rw [List.length_map, List.length_take]; omega] at lw
        refine ⟨rfl, _, rfl, py, _, 3, _, rfl, rfl, SqT.of (s2 _ _ (sub _ _ hpy)), rfl, ws, hL, Nat.lt_of_le_of_lt (by omega : ws.length ≤ 1000) (by decide), ws ++ [v4], ?_, upd_same, ?_, ?_⟩
        · rw [upd_twice]; exact same_new nL
        · rw [upd_twice]
        · rw [List.take_add_one, hcs]
          unfold gs4
          rw [List.map_append]
          exact aw.snoc a4
      · rintro H2 ⟨ws, s2, hL, rfl, aw⟩
        rw [lc, List.take_length] at aw
        have lw := aw.length
        rw [show (gs4 cs).length = cs.length by unfold gs4; rw [List.length_map]] at lw
        have m1 : Mv F0 R H _ _ := mv_new (o := .lst ws) sub nL
        refine ⟨L, ws, rfl, .inr (SqL.of hL), ?_, fun l nl => ?_⟩
        · rw [List.append_nil]
          show ws.length + 1 + 1 ≤ sizeLine
          exact big3 (by omega)
        · rw [List.append_nil]
          exact q _ _ _ (m1.tr (mv_new m1.sub nl)) (.nlst m1.sub nl ⟨_, _, rfl, ae.up m1.up, _, _, rfl, af.up m1.up, aw.up m1.up⟩)
abbrev g_with_parts : Stmt := topS 14
abbrev n_with_parts : List Str := ["expression", "inner", "handled", "body", "answers", "name", "clauses", "answering", "clause", "answer"]
abbrev p_with_parts : List Str := ["expression", "inner"]
theorem sc_with_parts : FnScope n_with_parts p_with_parts (defScope g_with_parts) := ⟨rfl, rfl, rfl, by decide +kernel, rfl, by decide +kernel, by decide +kernel⟩
def spWithP : Sp := fun vs H Q _ => ∃ (R : Hp) (d d' : D) (is : List D) (v u : V), vs = [v, u] ∧ Same R H ∧ At R d v ∧ At R (.lst is) u ∧ WithP d is d' ∧ ∀ (R' H' : Hp) (z : V), Mv F0 R H R' H' → At R' d' z → Q z H'
theorem ok_withp {f pF : Addr} {fd : FuncData} (F : Fun K "with_parts" "with_parts" g_with_parts f fd) (TF : FpTxt K w mg pF) (mtu : mg "tuple" = none) (mz : mg "zip" = none) : FnOk P w K mg base CX0 1 f fd p_with_parts spWithP := by
  refine F.ok sc_with_parts (fun vs H Q E h => ?_) (fun cdv A outer st H vs Q E hr h => ?_)
  · obtain ⟨R, d, d', is, v, u, rfl, _⟩ := h
    rfl
  · obtain ⟨R, d, d', is, v, u, rfl, sub, hd, hi, hp, q⟩ := h
    refine ⟨_, (pss_cons (ps_if (pt_cmpR op_eq (pe_ix ix_tup (pv 0) (pe_int) (fun _ _ => rfl)) (pe_str) (nomark _)) (pss_cons (ps_asg (pv 1) (pg_unlS rfl (pgs_cons (pg_name (i := 2) sc_with_parts.nd rfl (Or.inl rfl)) (pgs_cons (pg_name (i := 3) sc_with_parts.nd rfl (Or.inl rfl)) (pgs_star (pg_name (i := 4) sc_with_parts.nd rfl (Or.inl rfl)) pgs_nil)))))
      (pss_cons (ps_par (i := 5) (j := 6) (by rfl) sc_with_parts.nd rfl rfl (by decide) rfl rfl (pa_cons (pe_ix ix_tup (pe_ix ix_tup (pv 0) (pe_int) (fun _ _ => rfl)) (pe_int) (fun _ _ => rfl)) (pa_cons (pe_ix ix_tup (pv 0) (pe_int) (fun _ _ => rfl)) pa_nil)) (by rfl))
      (pss_cons (ps_setLc (i := 7) (own := [("clause", 8), ("answer", 9)]) (g := gTup K 2 (gCons (gName 8) (gCons (gName 9) gNil))) (tt := tYes) (te := tTup (StX.tStar K (tSl (rSlT K) (tVar 8) tNoPart (tPart (tC (.int 3)))) (tCons (tVar 9) tNil))) rfl sc_with_parts.nd rfl rfl (sw_true rfl rfl rfl (by decide +kernel)) (pi_zipM (by rfl) mz (pa_cons (pv 6) (pa_cons (pv 4) pa_nil))) (blkOk_by (N := n_with_parts) (sc := defScope g_with_parts) (by decide +kernel)) (fun _ _ _ _ _ => pg_tup rfl (pgs_cons (pg_name (i := 8) sc_with_parts.nd rfl (Or.inl rfl)) (pgs_cons (pg_name (i := 9) sc_with_parts.nd rfl (Or.inl rfl)) pgs_nil))) (fun _ _ _ _ _ => pts_nil) (fun _ _ _ _ _ => pe_tup (StX.pa_star (pe_slice sl_tup (pv 8) po_none (po_some pe_int)) (pa_cons (pv 9) pa_nil))))
      (pss_one (ps_ret (pe_tup (pa_cons (pe_str) (pa_cons (pv 2) (pa_cons (pe_tup (pa_cons (pv 5) (pa_cons (pv 3) pa_nil))) (pa_cons (pe_callTy call_tuple_of (by rfl) mtu (by decide +kernel) (pa_cons (pv 7) pa_nil)) pa_nil)))))))))) pss_nil)
      (pss_one (ps_ret (pe_tup (StX.pa_star (pe_slice sl_tupA (pv 0) po_none (po_some (pe_ix ix_kdict (pe_glob (v := .ref pF) rfl TF.g rfl) (pe_ix ix_tup (pv 0) pe_int (fun _ _ => rfl)) (fun _ _ => rfl)))) (StX.pa_star (pv 1) pa_nil)))))), ?_⟩
    obtain ⟨pi_, ivs, rfl, hpi, ai⟩ := hi
    have hpi := sub _ _ hpi
    cases hp with
    | @a tag lead ps _ hn hk big big2 =>
      obtain ⟨pe, _, rfl, he, _, rr, rfl, rfl, hr2⟩ := hd
      have he := sub _ _ he
      have hl := hr2.length
      have li := ai.length
      rw [List.length_append] at hl
      refine ⟨_, rfl, pe, _, 0, _, rfl, rfl, SqT.of he, atI_nat (j := 0) rfl, rfl, _, rfl, ?_⟩
      refine isF hn ?_
      have ec : (V.str tag :: rr).take (lead.length + 1) = V.str tag :: rr.take lead.length := rfl
      have a2 := hr2.take lead.length
      rw [List.take_left] at a2
      refine ⟨_, rfl, _, rfl, pe, _, 0, _, rfl, rfl, SqT.of he, atI_nat (j := 0) rfl, pF, _, _, rfl, rfl, TF.d _ _ hk, ((lead.length + 1 : Nat) : Int), rfl, ?_⟩
      have hl2 : lead.length + 1 ≤ (V.str tag :: rr).length := by rw [List.length_cons]; omega
      refine ⟨pe, _, rfl, SqT.of he, fun wh => ?_, fun nw p n => ?_⟩
      · rw [sIxn hl2] at wh
        have e2 : rr.take lead.length = rr := List.take_of_length_le (by have := wh.2; rw [List.length_cons] at this; omega)
        have m1 : Mv F0 R H R H := .refl sub
        have he2 : H pe = some (.tup (V.str tag :: rr.take lead.length)) := by rw [e2]; exact he
        refine ⟨pe, _, rfl, .inl (SqT.of he2), _, rfl, pi_, ivs, rfl, .inr (SqL.of hpi), ?_, fun t nt => ?_⟩
        · rw [List.append_nil, List.length_append, List.length_cons, List.length_take]
          exact big3 (by omega)
        rw [List.append_nil]
        exact q _ _ _ (m1.tr (mv_new m1.sub nt)) (.ntup m1.sub nt ⟨_, _, rfl, rfl, (a2).append (ai)⟩)
      · rw [cut_to hl2, ec]
        have m1 : Mv F0 R H R _ := mv_mut (o := .tup (V.str tag :: rr.take lead.length)) sub n
        refine ⟨p, _, rfl, .inl (SqT.of upd_same), _, rfl, pi_, ivs, rfl, .inr (SqL.of (m1.same _ _ hpi)), ?_, fun t nt => ?_⟩
        · rw [List.append_nil, List.length_append, List.length_cons, List.length_take]
          exact big3 (by omega)
        rw [List.append_nil]
        exact q _ _ _ (m1.tr (mv_new m1.sub nt)) (.ntup m1.sub nt ⟨_, _, rfl, rfl, (a2).append (ai)⟩)
    | @h e x f e' f' cs gs big lg =>
      obtain ⟨pe, _, rfl, he, _, _, rfl, rfl, ve, _, rfl, ae, vr, _, rfl, ⟨pr, _, rfl, hpr, vx, _, rfl, ax, vf, _, rfl, af, rfl⟩, vc, _, rfl, ⟨pc, cvs, rfl, hc, acs⟩, rfl⟩ := hd
      obtain ⟨ve', _, rfl, ae', vf', gvs, rfl, af', ags⟩ := ai
      have he := sub _ _ he
      have hpr := sub _ _ hpr
      have hc := sub _ _ hc
      have lc := acs.length
      have lgv := ags.length
      rw [show (cls4 cs).length = cs.length by unfold cls4; rw [List.length_map]] at lc
      refine ⟨_, rfl, pe, _, 0, _, rfl, rfl, SqT.of he, rfl, rfl, _, rfl, ?_⟩
      refine ifT (decide_eq_true rfl) ?_
      refine ⟨_, rfl, pi_, _, rfl, SqL.of hpi, by show 2 ≤ gvs.length + 2; omega, by show gvs.length + 2 ≤ 16384; omega, fun L nL => ?_⟩
      have m1 : Mv F0 R H _ _ := mv_new (o := .lst gvs) sub nL
      have hL : (upd H L (.lst gvs)) L = some (.lst gvs) := upd_same
      have he1 := m1.same _ _ he
      have hpr1 := m1.same _ _ hpr
      have hc1 := m1.same _ _ hc
      refine ⟨_, _, rfl, _, _, rfl, _, _, rfl, rfl, ?_⟩
      refine ⟨_, rfl, pe, _, 2, _, rfl, rfl, SqT.of he1, rfl, pr, _, 0, _, rfl, rfl, SqT.of hpr1, rfl, _, rfl, pe, _, 3, _, rfl, rfl, SqT.of he1, rfl, _, _, rfl, ?_⟩
      refine ⟨_, rfl, _, rfl, pc, L, _, _, rfl, SqT.of hc1, SqL.of hL, fun D nD => ?_⟩
      have lcg : cvs.length = gvs.length := by omega
      refine lc_it (walk_zipM lcg) (fun i H2 => ∃ (R2 : Hp) (ws : List V), Mv F0 R H R2 H2 ∧ Mv F0 (upd R L (.lst gvs)) (upd H L (.lst gvs)) R2 H2 ∧ R2 D = none ∧ H2 D = some (.lst ws) ∧ Ats R2 (cls4 ((setG cs gs).take i)) ws) ?_ ?_ ?_ ?_
      · have mD : Mv F0 _ _ _ _ := mv_mut (o := .lst []) m1.sub nD
        exact ⟨_, [], m1.tr mD, mD, m1.sub.free nD, upd_same, rfl⟩
      · rintro i H2 _ ⟨R2, ws, _, m2, _⟩
        exact ⟨SqT.of (m2.same _ _ hc1), SqL.of (m2.same _ _ hL)⟩
      · rintro i y H2 H3 hi ⟨R2, ws, mv2, m2, rD, hD, aw⟩ ⟨T, x1, x2, rfl, nT, rfl, hx1, hx2⟩
        obtain ⟨dd, hdd, ad⟩ := acs.mem hx1
        obtain ⟨c, hcs, rfl⟩ := cls4_get hdd
        obtain ⟨g, hg, ag⟩ := ags.mem hx2
        obtain ⟨py, _, rfl, hpy, v1, _, rfl, a1, v2, _, rfl, a2, v3, _, rfl, a3, v4, _, rfl, a4, rfl⟩ := ad
        have mT : Mv F0 R2 H2 R2 _ := mv_mut (o := .tup [.ref py, x2]) mv2.sub nT
        have hpy3 := mT.sub _ _ (mv2.up _ _ hpy)
        refine ⟨T, _, rfl, SqT.of upd_same, rfl, _, _, rfl, _, _, rfl, rfl, rfl, ?_⟩
        refine ⟨_, rfl, 3, rfl, py, _, rfl, SqT.of hpy3, (fun e => by have := e.2; exact absurd this (by show ¬ (3 = 4); decide)), fun S nS => ?_⟩
        have mS := mT.tr (mv_mut (o := .tup [v1, v2, v3]) mT.sub nS)
        refine ⟨S, [v1, v2, v3], rfl, .inl (SqT.of upd_same), _, rfl, by show 4 ≤ sizeLine; decide, fun U nU => ?_⟩
        have mU := mS.tr (mv_new (o := .tup [v1, v2, v3, x2]) mS.sub nU)
        have hDU := mU.same _ _ hD
        have rDU := mU.out rD hD
        have lw := aw.length
        have li : i < cs.length := (List.getElem?_eq_some_iff.mp hcs).1
        rw [show (cls4 ((setG cs gs).take i)).length = i by unfold cls4; rw [List.length_map, List.length_take, setG_len]; omega] at lw
        refine ⟨ws, hDU, Nat.lt_of_le_of_lt (by omega : ws.length ≤ 1000) (by decide), ?_⟩
        have mset : Mv (fun x => x = D) _ _ _ _ := mv_at (o := .lst (ws ++ [.ref U])) mU.sub rDU hDU rfl
        have nD0 : H D = none := m1.free nD
        refine ⟨_, ws ++ [.ref U], (mv2.tr mU).trans mset (fun _ f => f) (fun x f => .inr (by rw [f]; exact nD0)), (m2.tr mU).trans mset (fun _ f => f) (fun x f => .inr (by rw [f]; exact nD)), rDU, upd_same, ?_⟩
        rw [List.take_add_one, setG_get hcs hg]
        unfold cls4
        rw [List.map_append]
        refine Ats.snoc (Ats.up mU.up aw) (At.ntup (l := [c.1, c.2.1, c.2.2.1, g]) mS.sub nU ?_)
        have u1 := mv2.up
        exact ⟨_, _, rfl, a1.up u1, _, _, rfl, a2.up u1, _, _, rfl, a3.up u1, _, _, rfl, ag.up u1, rfl⟩
      · rintro H2 ⟨R2, ws, mv2, m2, rD, hD, aw⟩
        rw [lc, ← setG_len cs gs, List.take_length] at aw
        refine ⟨_, rfl, _, rfl, _, rfl, by show 2 ≤ sizeLine; decide, fun pr2 n1 => ?_⟩
        have ma := mv2.tr (mv_new (o := .tup [vx, vf']) mv2.sub n1)
        have a1 : At (upd R2 pr2 (.tup [vx, vf'])) (.tup [x, f']) (.ref pr2) := .ntup mv2.sub n1 ⟨_, _, rfl, ax.up mv2.up, _, _, rfl, af'.up mv2.up, rfl⟩
        refine ⟨_, rfl, D, ws, rfl, .inl ⟨SqL.of (by rw [upd_ne (ne_of_none hD n1)]; exact hD), fun pt n2 => ?_⟩⟩
        have mb := ma.tr (mv_new (o := .tup ws) ma.sub n2)
        have s12 : Same R2 (upd R2 pr2 (.tup [vx, vf'])) := same_new (mv2.sub.free n1)
        have a2 : At _ (.tup (cls4 (setG cs gs))) (.ref pt) := .ntup (vs := ws) ma.sub n2 (aw.up s12)
        have sb : Same (upd R2 pr2 (.tup [vx, vf'])) (upd (upd R2 pr2 (.tup [vx, vf'])) pt (.tup ws)) := same_new (ma.sub.free n2)
        refine ⟨by show 4 ≤ sizeLine; decide, fun pq n3 => ?_⟩
        exact q _ _ _ (mb.tr (mv_new mb.sub n3)) (.ntup mb.sub n3 ⟨_, _, rfl, rfl, _, _, rfl, ae'.up mb.up, _, _, rfl, a1.up sb, _, _, rfl, a2, rfl⟩)
end
end Bz


set_option Elab.async false
set_option linter.all false
set_option maxRecDepth 100000
set_option maxHeartbeats 4000000
namespace Bz
open PySem PySem.Spec L2 PyProof.Rows
/-! ### the names that are bound in parts -/
abbrev Cs4 := Str × Str × Str × D
def up4 (cs : List Cs4) : List Cl4 := cs.map fun c => (.str c.1, .str c.2.1, .str c.2.2.1, c.2.2.2)
inductive BndOf : D → List (List Str) → Prop where
  | fn {x : Str} {r : List D} : BndOf (.tup (.str "fun" :: .str x :: r)) [[x]]
  | rc {h x : Str} {r : List D} : BndOf (.tup (.str "rec" :: .str h :: .str x :: r)) [[h, x]]
  | lt {x : Str} {r : List D} : BndOf (.tup (.str "let" :: .str x :: r)) [[], [x]]
  | hd {e f : D} {x : Str} {cs : List Cs4} : cs.length ≤ 1000 → BndOf (.tup [.str "handle", e, .tup [.str x, f], .tup (cls4 (up4 cs))]) ([] :: [x] :: cs.map fun c => [c.2.1, c.2.2.1])
  | no {tag : Str} {r ps : List D} : tag ≠ "fun" → tag ≠ "rec" → tag ≠ "let" → tag ≠ "handle" → PartsOf (.tup (.str tag :: r)) ps → ps.length ≤ 1000 → BndOf (.tup (.str tag :: r)) (ps.map fun _ => [])
def bndD (bs : List (List Str)) : List D := bs.map fun b => .tup (b.map D.str)
section
variable {P : Program} {w : World} {K : PySem.W.Frag} {mg : Str → Option Value} {base : Heap}
abbrev g_bound_in_parts : Stmt := topS 15
abbrev n_bound_in_parts : List Str := ["expression", "form", "returned", "clauses", "clause", "_"]
abbrev p_bound_in_parts : List Str := ["expression"]
theorem sc_bound_in_parts : FnScope n_bound_in_parts p_bound_in_parts (defScope g_bound_in_parts) := ⟨rfl, rfl, rfl, by decide +kernel, rfl, by decide +kernel, by decide +kernel⟩
def spBnd : Sp := fun vs H Q _ => ∃ (R : Hp) (d : D) (bs : List (List Str)) (v : V), vs = [v] ∧ Same R H ∧ At R d v ∧ BndOf d bs ∧ ∀ (R' H' : Hp) (u : V), Mv F0 R H R' H' → At R' (.lst (bndD bs)) u → Q u H'
theorem ok_bnd {f fP : Addr} {fd fdP : FuncData} (F : Fun K "bound_in_parts" "bound_in_parts" g_bound_in_parts f fd) (GP : Fn P w K mg base CX0 1 "parts" p_parts spParts fP fdP) : FnOk P w K mg base CX0 2 f fd p_bound_in_parts spBnd := by
  refine F.ok sc_bound_in_parts (fun vs H Q E h => ?_) (fun cdv A outer st H vs Q E hr h => ?_)
  · obtain ⟨R, d, bs, v, rfl, _⟩ := h
    rfl
  · obtain ⟨R, d, bs, v, rfl, sub, hd, hb, q⟩ := h
    refine ⟨_, (pss_cons (ps_set (i := 1) sc_bound_in_parts.nd rfl (Or.inl rfl) (pe_ix ix_tup (pv 0) (pe_int) (fun _ _ => rfl)))
      (pss_cons (ps_if (pt_cmpR op_eq (pv 1) (pe_str) (nomark _)) (pss_one (ps_ret (pe_lst (pa_cons (pe_tup (pa_cons (pe_ix ix_tup (pv 0) (pe_int) (fun _ _ => rfl)) pa_nil)) pa_nil)))) pss_nil)
      (pss_cons (ps_if (pt_cmpR op_eq (pv 1) (pe_str) (nomark _)) (pss_one (ps_ret (pe_lst (pa_cons (pe_tup (pa_cons (pe_ix ix_tup (pv 0) (pe_int) (fun _ _ => rfl)) (pa_cons (pe_ix ix_tup (pv 0) (pe_int) (fun _ _ => rfl)) pa_nil))) pa_nil)))) pss_nil)
      (pss_cons (ps_if (pt_cmpR op_eq (pv 1) (pe_str) (nomark _)) (pss_one (ps_ret (pe_lst (pa_cons (pe_tup pa_nil) (pa_cons (pe_tup (pa_cons (pe_ix ix_tup (pv 0) (pe_int) (fun _ _ => rfl)) pa_nil)) pa_nil))))) pss_nil)
      (pss_cons (ps_if (pt_cmpR op_eq (pv 1) (pe_str) (nomark _)) (pss_cons (ps_asg (pe_slice sl_tup (pv 0) (po_some (pe_int)) po_none) (pg_tup rfl (pgs_cons (pg_name (i := 2) sc_bound_in_parts.nd rfl (Or.inl rfl)) (pgs_cons (pg_name (i := 3) sc_bound_in_parts.nd rfl (Or.inl rfl)) pgs_nil))))
      (pss_one (ps_ret (pe_lst (pa_cons (pe_tup pa_nil) (pa_cons (pe_slice sl_tup (pv 2) po_none (po_some (pe_int))) (StX.pa_star (pe_lc (own := [("clause", 4)]) (g := gName 4) (tt := tYes) (te := tSl (rSlT K) (tVar 4) (tPart (tC (.int 1))) (tPart (tC (.int 3)))) rfl sc_bound_in_parts.nd (pi_tup (pv 3)) (blkOk_by (N := n_bound_in_parts) (sc := defScope g_bound_in_parts) (by decide +kernel)) (fun _ _ _ _ _ => pg_name (i := 4) sc_bound_in_parts.nd rfl (Or.inl rfl)) (fun _ _ _ _ _ => pts_nil) (fun _ _ _ _ _ => pe_slice sl_tup (pv 4) (po_some pe_int) (po_some pe_int))) pa_nil))))))) pss_nil)
      (pss_one (ps_ret (pe_lc (own := [("_", 5)]) (g := gName 5) (tt := tYes) (te := tTup tNil) rfl sc_bound_in_parts.nd (pi_list (pe_call GP.ok hr (by rfl) GP.g GP.kp GP.b .nil pass0 (pa_cons (pv 0) pa_nil))) (blkOk_by (N := n_bound_in_parts) (sc := defScope g_bound_in_parts) (by decide +kernel)) (fun _ _ _ _ _ => pg_name (i := 5) sc_bound_in_parts.nd rfl (Or.inl rfl)) (fun _ _ _ _ _ => pts_nil) (fun _ _ _ _ _ => pe_tup pa_nil))))))))), ?_⟩
    cases hb with
    | @fn x r =>
      obtain ⟨pe, _, rfl, he, _, _, rfl, rfl, _, rr, rfl, rfl, hr2⟩ := hd
      have he := sub _ _ he
      refine ⟨_, rfl, pe, _, 0, _, rfl, rfl, SqT.of he, atI_nat (j := 0) rfl, ?_⟩
      refine ⟨_, rfl, rfl, _, rfl, ?_⟩
      refine ifT (decide_eq_true rfl) ?_
      refine ⟨_, rfl, pe, _, 1, _, rfl, rfl, SqT.of he, atI_nat (j := 1) rfl, by show 1 ≤ sizeLine; decide, fun p n => ?_⟩
      have m1 : Mv F0 R H _ _ := mv_new (o := .tup [.str x]) sub n
      refine ⟨by show 1 ≤ sizeLine; decide, fun l nl => ?_⟩
      exact q _ _ _ (m1.tr (mv_new m1.sub nl)) (.nlst m1.sub nl (.one (.ntup (l := [.str x]) sub n (.one rfl))))
    | @rc h x r =>
      obtain ⟨pe, _, rfl, he, _, _, rfl, rfl, _, _, rfl, rfl, _, rr, rfl, rfl, hr2⟩ := hd
      have he := sub _ _ he
      refine ⟨_, rfl, pe, _, 0, _, rfl, rfl, SqT.of he, atI_nat (j := 0) rfl, ?_⟩
      refine ⟨_, rfl, rfl, _, rfl, ?_⟩
      refine isF (by decide +kernel) ?_
      refine ⟨_, rfl, rfl, _, rfl, ?_⟩
      refine ifT (decide_eq_true rfl) ?_
      refine ⟨_, rfl, pe, _, 1, _, rfl, rfl, SqT.of he, atI_nat (j := 1) rfl, _, rfl, pe, _, 2, _, rfl, rfl, SqT.of he, atI_nat (j := 2) rfl, by show 2 ≤ sizeLine; decide, fun p n => ?_⟩
      have m1 : Mv F0 R H _ _ := mv_new (o := .tup [.str h, .str x]) sub n
      refine ⟨by show 1 ≤ sizeLine; decide, fun l nl => ?_⟩
      exact q _ _ _ (m1.tr (mv_new m1.sub nl)) (.nlst m1.sub nl (.one (.ntup (l := [.str h, .str x]) sub n ⟨_, _, rfl, rfl, _, _, rfl, rfl, rfl⟩)))
    | @lt x r =>
      obtain ⟨pe, _, rfl, he, _, _, rfl, rfl, _, rr, rfl, rfl, hr2⟩ := hd
      have he := sub _ _ he
      refine ⟨_, rfl, pe, _, 0, _, rfl, rfl, SqT.of he, atI_nat (j := 0) rfl, ?_⟩
      refine ⟨_, rfl, rfl, _, rfl, ?_⟩
      refine isF (by decide +kernel) ?_
      refine ⟨_, rfl, rfl, _, rfl, ?_⟩
      refine isF (by decide +kernel) ?_
      refine ⟨_, rfl, rfl, _, rfl, ?_⟩
      refine ifT (decide_eq_true rfl) ?_
      refine ⟨Nat.zero_le _, fun p0 n0 => ?_⟩
      have m0 : Mv F0 R H _ _ := mv_new (o := .tup []) sub n0
      have a0 : At (upd R p0 (.tup [])) (.tup []) (.ref p0) := .ntup (vs := []) sub n0 rfl
      refine ⟨_, rfl, pe, _, 1, _, rfl, rfl, SqT.of (m0.same _ _ he), atI_nat (j := 1) rfl, by show 1 ≤ sizeLine; decide, fun p n => ?_⟩
      have m1 := m0.tr (mv_new (o := .tup [.str x]) m0.sub n)
      have u1 : Same (upd R p0 (.tup [])) (upd (upd R p0 (.tup [])) p (.tup [.str x])) := same_new (m0.sub.free n)
      refine ⟨by show 2 ≤ sizeLine; decide, fun l nl => ?_⟩
      exact q _ _ _ (m1.tr (mv_new m1.sub nl)) (.nlst m1.sub nl ⟨_, _, rfl, a0.up u1, _, _, rfl, .ntup (l := [.str x]) m0.sub n (.one rfl), rfl⟩)
    | @hd e f x cs big =>
      obtain ⟨pe, _, rfl, he, _, _, rfl, rfl, ve, _, rfl, ae, vr, _, rfl, ⟨pr, _, rfl, hpr, vx, _, rfl, rfl, vf, _, rfl, af, rfl⟩, vc, _, rfl, ⟨pc, cvs, rfl, hc, acs⟩, rfl⟩ := hd
      have he := sub _ _ he
      have hpr := sub _ _ hpr
      have hc := sub _ _ hc
      have lc := acs.length
      rw [show (cls4 (up4 cs)).length = cs.length by unfold cls4 up4; rw [List.length_map, List.length_map]] at lc
      refine ⟨_, rfl, pe, _, 0, _, rfl, rfl, SqT.of he, atI_nat (j := 0) rfl, ?_⟩
      refine ⟨_, rfl, rfl, _, rfl, ?_⟩
      refine isF (by decide +kernel) ?_
      refine ⟨_, rfl, rfl, _, rfl, ?_⟩
      refine isF (by decide +kernel) ?_
      refine ⟨_, rfl, rfl, _, rfl, ?_⟩
      refine isF (by decide +kernel) ?_
      refine ⟨_, rfl, rfl, _, rfl, ?_⟩
      refine ifT (decide_eq_true rfl) ?_
      refine ⟨_, rfl, 2, rfl, pe, _, rfl, SqT.of he, (fun e => by have := e.1; exact absurd this (by show ¬ (2 = 0); decide)), fun s0 ns => ?_⟩
      rw [show cutV [V.str "handle", ve, V.ref pr, V.ref pc] (some 2) none = [.ref pr, .ref pc] from rfl]
      have m0 : Mv F0 R H R _ := mv_mut (o := .tup [.ref pr, .ref pc]) sub ns
      refine ⟨s0, [.ref pr, .ref pc], rfl, SqT.of upd_same, rfl, _, _, rfl, _, _, rfl, rfl, ?_⟩
      refine ⟨Nat.zero_le _, fun p0 n0 => ?_⟩
      have m1 := m0.tr (mv_new (o := .tup []) m0.sub n0)
      have a0 : At (upd R p0 (.tup [])) (.tup []) (.ref p0) := .ntup (vs := []) m0.sub n0 rfl
      refine ⟨_, rfl, 1, rfl, pr, _, rfl, SqT.of (m1.same _ _ hpr), (fun e => by have := e.2; exact absurd this (by show ¬ (1 = 2); decide)), fun p1 n1 => ?_⟩
      rw [show cutV [V.str x, vf] none (some 1) = [.str x] from rfl]
      have m2 := m1.tr (mv_new (o := .tup [.str x]) m1.sub n1)
      have a1 : At (upd (upd R p0 (.tup [])) p1 (.tup [.str x])) (.tup [.str x]) (.ref p1) := .ntup (vs := [.str x]) m1.sub n1 (.one rfl)
      have a0 := a0.up (same_new (o := .tup [.str x]) (m1.sub.free n1))
      have hc2 := m2.same _ _ hc
      generalize upd (upd (upd H s0 (.tup [.ref pr, .ref pc])) p0 (.tup [])) p1 (.tup [.str x]) = H2 at m2 hc2
      generalize upd (upd R p0 (.tup [])) p1 (.tup [.str x]) = R2 at m2 a0 a1
      refine ⟨_, rfl, pc, rfl, ⟨_, SqT.of hc2⟩, fun L nL => ?_⟩
      refine lc_tup (K := K) (a := pc) (xs := cvs) (fun i H3 => ∃ (R3 : Hp) (ws : List V), Mv F0 R H R3 H3 ∧ Mv F0 R2 H2 R3 H3 ∧ R3 L = none ∧ H3 L = some (.lst ws) ∧ Ats R3 (bndD ((cs.take i).map fun c => [c.2.1, c.2.2.1])) ws) ?_ ?_ ?_ ?_
      · have mD : Mv F0 R2 H2 R2 _ := mv_mut (o := .lst []) m2.sub nL
        exact ⟨_, [], m2.tr mD, mD, m2.sub.free nL, upd_same, rfl⟩
      · rintro i H3 _ ⟨R3, ws, _, m3, _⟩
        exact SqT.of (m3.same _ _ hc2)
      · rintro i y H3 hy ⟨R3, ws, mv3, m3, rD, hD, aw⟩
        obtain ⟨dd, hdd, ad⟩ := acs.mem hy
        obtain ⟨c4, hcs, rfl⟩ := cls4_get hdd
        obtain ⟨c, hcc, rfl⟩ : ∃ c, cs[i]? = some c ∧ c4 = (.str c.1, .str c.2.1, .str c.2.2.1, c.2.2.2) := by
          unfold up4 at hcs
          rw [List.getElem?_map] at hcs
          cases ec : cs[i]? with
          | none => rw [ec] at hcs; cases hcs
          | some c => rw [ec] at hcs; exact ⟨c, rfl, (Option.some.inj hcs).symm⟩
        obtain ⟨py, _, rfl, hpy, v1, _, rfl, rfl, v2, _, rfl, rfl, v3, _, rfl, rfl, v4, _, rfl, a4, rfl⟩ := ad
        have hpy3 := mv3.sub _ _ (mv3.up _ _ hpy)
        refine ⟨rfl, _, rfl, 1, rfl, 3, rfl, py, _, rfl, SqT.of hpy3, (fun e => by have := e.1; exact absurd this (by show ¬ (1 = 0); decide)), fun S nS => ?_⟩
        have mU := mv3.tr (mv_new (o := .tup [.str c.2.1, .str c.2.2.1]) mv3.sub nS)
        have mU3 := m3.tr (mv_new (o := .tup [.str c.2.1, .str c.2.2.1]) mv3.sub nS)
        have hDU := (mv_new (F := F0) (o := .tup [.str c.2.1, .str c.2.2.1]) mv3.sub nS).same _ _ hD
        have rDU := (mv_new (F := F0) (o := .tup [.str c.2.1, .str c.2.2.1]) mv3.sub nS).out rD hD
        have lw := aw.length
        have li : i < cs.length := (List.getElem?_eq_some_iff.mp hcc).1
        rw [show (bndD ((cs.take i).map fun c => [c.2.1, c.2.2.1])).length = i by unfold bndD; rw [List.length_map, List.length_map, List.length_take]; omega] at lw
        refine ⟨ws, hDU, Nat.lt_of_le_of_lt (by omega : ws.length ≤ 1000) (by decide), ?_⟩
        have mset : Mv (fun x => x = L) _ _ _ _ := mv_at (o := .lst (ws ++ [.ref S])) mU.sub rDU hDU rfl
        have nL0 : H L = none := m2.free nL
        refine ⟨_, ws ++ [.ref S], mU.trans mset (fun _ f => f) (fun x f => .inr (by rw [f]; exact nL0)), mU3.trans mset (fun _ f => f) (fun x f => .inr (by rw [f]; exact nL)), rDU, upd_same, ?_⟩
        rw [List.take_add_one, hcc, List.map_append]
        unfold bndD
        rw [List.map_append]
        exact Ats.snoc (Ats.up (same_new (mv3.sub.free nS)) aw) (At.ntup (l := [.str c.2.1, .str c.2.2.1]) mv3.sub nS ⟨_, _, rfl, rfl, _, _, rfl, rfl, rfl⟩)
      · rintro H3 ⟨R3, ws, mv3, m3, rD, hD, aw⟩
        rw [lc, List.take_length] at aw
        have lw := aw.length
        rw [show (bndD (cs.map fun c => [c.2.1, c.2.2.1])).length = cs.length by unfold bndD; rw [List.length_map, List.length_map]] at lw
        refine ⟨L, ws, rfl, .inr (SqL.of hD), ?_, fun l nl => ?_⟩
        · rw [List.append_nil]
          show ws.length + 1 + 1 ≤ sizeLine
          exact big3 (by omega)
        · rw [List.append_nil]
          exact q _ _ _ (mv3.tr (mv_new mv3.sub nl)) (.nlst mv3.sub nl ⟨_, _, rfl, a0.up m3.up, _, _, rfl, a1.up m3.up, aw⟩)
    | @no tag r ps n1 n2 n3 n4 hps big =>
      have hd' := hd
      obtain ⟨pe, _, rfl, he, _, rr, rfl, rfl, hr2⟩ := hd
      have he := sub _ _ he
      refine ⟨_, rfl, pe, _, 0, _, rfl, rfl, SqT.of he, atI_nat (j := 0) rfl, ?_⟩
      refine ⟨_, rfl, rfl, _, rfl, ?_⟩
      refine isF n1 ?_
      refine ⟨_, rfl, rfl, _, rfl, ?_⟩
      refine isF n2 ?_
      refine ⟨_, rfl, rfl, _, rfl, ?_⟩
      refine isF n3 ?_
      refine ⟨_, rfl, rfl, _, rfl, ?_⟩
      refine isF n4 ?_
      refine ⟨_, rfl, R, _, ps, _, rfl, sub, hd', hps, fun R1 H1 u m1 au => ?_⟩
      obtain ⟨pl, pvs, rfl, hpl, apl⟩ := au
      have lp := apl.length
      have hpl := m1.sub _ _ hpl
      refine ⟨pl, rfl, ⟨_, SqL.of hpl⟩, fun L nL => ?_⟩
      refine lc_list (K := K) (a := pl) (xs := pvs) (fun i H3 => ∃ (R3 : Hp) (ws : List V), Mv F0 R H R3 H3 ∧ Mv F0 R1 H1 R3 H3 ∧ R3 L = none ∧ H3 L = some (.lst ws) ∧ Ats R3 (bndD ((ps.take i).map fun _ => [])) ws) ?_ ?_ ?_ ?_
      · have mD : Mv F0 R1 H1 R1 _ := mv_mut (o := .lst []) m1.sub nL
        exact ⟨_, [], m1.tr mD, mD, m1.sub.free nL, upd_same, rfl⟩
      · rintro i H3 _ ⟨R3, ws, _, m3, _⟩
        exact SqL.of (m3.same _ _ hpl)
      · rintro i y H3 hy ⟨R3, ws, mv3, m3, rD, hD, aw⟩
        obtain ⟨dd, hdd, ad⟩ := apl.mem hy
        refine ⟨rfl, Nat.zero_le _, fun S nS => ?_⟩
        have m1' : Mv F0 R3 H3 _ _ := mv_new (o := .tup []) mv3.sub nS
        have mU := mv3.tr m1'
        have mU3 := m3.tr m1'
        have hDU := m1'.same _ _ hD
        have rDU := m1'.out rD hD
        have lw := aw.length
        have li : i < ps.length := (List.getElem?_eq_some_iff.mp hdd).1
        rw [show (bndD ((ps.take i).map fun _ => [])).length = i by unfold bndD; rw [List.length_map, List.length_map, List.length_take]; omega] at lw
        refine ⟨ws, hDU, Nat.lt_of_le_of_lt (by omega : ws.length ≤ 1000) (by decide), ?_⟩
        have mset : Mv (fun x => x = L) _ _ _ _ := mv_at (o := .lst (ws ++ [.ref S])) mU.sub rDU hDU rfl
        have nL0 : H L = none := m1.free nL
        refine ⟨_, ws ++ [.ref S], mU.trans mset (fun _ f => f) (fun x f => .inr (by rw [f]; exact nL0)), mU3.trans mset (fun _ f => f) (fun x f => .inr (by rw [f]; exact nL)), rDU, upd_same, ?_⟩
        rw [List.take_add_one, hdd, List.map_append]
        unfold bndD
        rw [List.map_append]
        exact Ats.snoc (Ats.up m1'.up aw) (At.ntup (l := []) (vs := []) mv3.sub nS rfl)
      · rintro H3 ⟨R3, ws, mv3, m3, rD, hD, aw⟩
        rw [lp, List.take_length] at aw
        have a9 : At (upd R3 L (.lst ws)) (.lst (bndD (ps.map fun _ => []))) (.ref L) := ⟨L, ws, rfl, upd_same, aw.up (same_new rD)⟩
        have nL0 : H L = none := m1.free nL
        have eH : H3 = upd H3 L (.lst ws) := by
          funext x
          by_cases e : x = L
          · subst e
            rw [upd_same, hD]
          · rw [upd_ne e]
        refine q (upd R3 L (.lst ws)) H3 _ ⟨mv3.keep, mv3.dom, mv3.up.trans (same_new rD), fun b z e => ?_, fun b z e => ?_⟩ a9
        · by_cases eb : b = L
          · subst eb
            rw [upd_same] at e
            rw [hD]
            exact e
          · rw [upd_ne eb] at e
            exact mv3.sub b z e
        · by_cases eb : b = L
          · subst eb
            exact .inr nL0
          · rw [upd_ne eb] at e
            exact mv3.new b z e
end
end Bz


set_option Elab.async false
set_option linter.all false
set_option maxRecDepth 100000
set_option maxHeartbeats 4000000
namespace Bz
open PySem PySem.Spec L2 PyProof.Rows
/-! ### expressions by their parts -/
def Clz.gs : Clz → List Ex
  | .nil => []
  | .cons _ _ _ g r => g :: r.gs
def Clz.c4 (p : Bool) : Clz → List Cs4
  | .nil => []
  | .cons o x k g r => (o, x, k, g.d p) :: r.c4 p
def Clz.nb : Clz → List (List Str)
  | .nil => []
  | .cons _ x k _ r => [x, k] :: r.nb
def Clz.len : Clz → Nat
  | .nil => 0
  | .cons _ _ _ _ r => r.len + 1
theorem Clz.d4 (p : Bool) : ∀ c : Clz, c.d p = cls4 (up4 (c.c4 p))
  | .nil => rfl
  | .cons o x k g r => by
    show D.tup [.str o, .str x, .str k, g.d p] :: r.d p = _
    rw [Clz.d4 p r]
    rfl
theorem Clz.g4 (p : Bool) : ∀ c : Clz, gs4 (up4 (c.c4 p)) = c.gs.map (Ex.d p)
  | .nil => rfl
  | .cons o x k g r => by
    show g.d p :: gs4 (up4 (r.c4 p)) = _
    rw [Clz.g4 p r]
    rfl
theorem Clz.n4 (p : Bool) : ∀ c : Clz, (c.c4 p).map (fun c => [c.2.1, c.2.2.1]) = c.nb
  | .nil => rfl
  | .cons o x k g r => by
    show [x, k] :: (r.c4 p).map _ = _
    rw [Clz.n4 p r]
    rfl
theorem Clz.l4 (p : Bool) : ∀ c : Clz, (c.c4 p).length = c.len
  | .nil => rfl
  | .cons o x k g r => congrArg (· + 1) (Clz.l4 p r)
theorem Clz.s4 : ∀ c : Clz, cls4 (setG (up4 (c.c4 false)) (c.gs.map (Ex.d true))) = c.d true
  | .nil => rfl
  | .cons o x k g r => by
    show D.tup [.str o, .str x, .str k, g.d true] :: cls4 (setG (up4 (r.c4 false)) (r.gs.map (Ex.d true))) = _
    rw [Clz.s4 r]
    rfl
theorem Clz.lg : ∀ c : Clz, c.gs.length = c.len
  | .nil => rfl
  | .cons o x k g r => congrArg (· + 1) (Clz.lg r)
def exParts : Ex → List Ex
  | .num _ => [] | .flag _ => [] | .unit => [] | .name _ => []
  | .call f e => [f, e] | .fn _ e => [e] | .rc _ _ e => [e] | .lt _ e f => [e, f] | .ite e f g => [e, f, g]
  | .pair e f => [e, f] | .fst e => [e] | .snd e => [e] | .op _ e f => [e, f] | .nt e => [e] | .pr e f => [e, f] | .ask _ e => [e]
  | .hd e _ f cs => e :: f :: cs.gs
def bnds : Ex → List (List Str)
  | .num _ => [] | .flag _ => [] | .unit => [] | .name _ => []
  | .call _ _ => [[], []] | .fn x _ => [[x]] | .rc h x _ => [[h, x]] | .lt x _ _ => [[], [x]] | .ite _ _ _ => [[], [], []]
  | .pair _ _ => [[], []] | .fst _ => [[]] | .snd _ => [[]] | .op _ _ _ => [[], []] | .nt _ => [[]] | .pr _ _ => [[], []] | .ask _ _ => [[]]
  | .hd _ x _ cs => [] :: [x] :: cs.nb
mutual
def exD : Ex → Nat
  | .num _ => 1 | .flag _ => 1 | .unit => 1 | .name _ => 1
  | .call f e => Nat.max (exD f) (exD e) + 1 | .fn _ e => exD e + 1 | .rc _ _ e => exD e + 1 | .lt _ e f => Nat.max (exD e) (exD f) + 1 | .ite e f g => Nat.max (exD e) (Nat.max (exD f) (exD g)) + 1
  | .pair e f => Nat.max (exD e) (exD f) + 1 | .fst e => exD e + 1 | .snd e => exD e + 1 | .op _ e f => Nat.max (exD e) (exD f) + 1 | .nt e => exD e + 1 | .pr e f => Nat.max (exD e) (exD f) + 1 | .ask _ e => exD e + 1
  | .hd e _ f cs => Nat.max (exD e) (Nat.max (exD f) (clD cs)) + 1
def clD : Clz → Nat
  | .nil => 0
  | .cons _ _ _ g r => Nat.max (exD g) (clD r)
end
mutual
/-- how many expressions there are -/
def exN : Ex → Nat
  | .num _ => 1 | .flag _ => 1 | .unit => 1 | .name _ => 1
  | .call f e => exN f + exN e + 1 | .fn _ e => exN e + 1 | .rc _ _ e => exN e + 1 | .lt _ e f => exN e + exN f + 1 | .ite e f g => exN e + (exN f + exN g) + 1
  | .pair e f => exN e + exN f + 1 | .fst e => exN e + 1 | .snd e => exN e + 1 | .op _ e f => exN e + exN f + 1 | .nt e => exN e + 1 | .pr e f => exN e + exN f + 1 | .ask _ e => exN e + 1
  | .hd e _ f cs => exN e + (exN f + clN cs) + 1
def clN : Clz → Nat
  | .nil => 0
  | .cons _ _ _ g r => exN g + clN r
end
mutual
/-- few clauses everywhere -/
def smE : Ex → Bool
  | .num _ => true | .flag _ => true | .unit => true | .name _ => true
  | .call f e => smE f && smE e | .fn _ e => smE e | .rc _ _ e => smE e | .lt _ e f => smE e && smE f | .ite e f g => smE e && (smE f && smE g)
  | .pair e f => smE e && smE f | .fst e => smE e | .snd e => smE e | .op _ e f => smE e && smE f | .nt e => smE e | .pr e f => smE e && smE f | .ask _ e => smE e
  | .hd e _ f cs => decide (cs.len ≤ 900) && (smE e && (smE f && smC cs))
def smC : Clz → Bool
  | .nil => true
  | .cons _ _ _ g r => smE g && smC r
end
def clsLen : Ex → Nat
  | .hd _ _ _ cs => cs.len
  | _ => 0
theorem sm_len {e : Ex} (h : smE e = true) : clsLen e ≤ 900 := by
  cases e with
  | hd e x f cs =>
    have h : (decide (cs.len ≤ 900) && (smE e && (smE f && smC cs))) = true := h
    rw [Bool.and_eq_true, decide_eq_true_eq] at h
    exact h.1
  | _ => exact Nat.zero_le _
theorem ex_parts (e : Ex) (h : clsLen e ≤ 900) : PartsOf (e.d false) ((exParts e).map (Ex.d false)) := by
  cases e with
  | num n => exact .a (lead := [.int n]) (ps := []) (by decide +kernel) rfl (by simp)
  | flag b => exact .a (lead := [.bl b]) (ps := []) (by decide +kernel) rfl (by simp)
  | unit => exact .a (lead := []) (ps := []) (by decide +kernel) rfl (by simp)
  | name x => exact .a (lead := [.str x]) (ps := []) (by decide +kernel) rfl (by simp)
  | call f e => exact .a (lead := []) (ps := [f.d false, e.d false]) (by decide +kernel) rfl (by simp)
  | fn x e => exact .a (lead := [.str x]) (ps := [e.d false]) (by decide +kernel) rfl (by simp)
  | rc y x e => exact .a (lead := [.str y, .str x]) (ps := [e.d false]) (by decide +kernel) rfl (by simp)
  | lt x e f => exact .a (lead := [.str x]) (ps := [e.d false, f.d false]) (by decide +kernel) rfl (by simp)
  | ite e f g => exact .a (lead := []) (ps := [e.d false, f.d false, g.d false]) (by decide +kernel) rfl (by simp)
  | pair e f => exact .a (lead := []) (ps := [e.d false, f.d false]) (by decide +kernel) rfl (by simp)
  | fst e => exact .a (lead := []) (ps := [e.d false]) (by decide +kernel) rfl (by simp)
  | snd e => exact .a (lead := []) (ps := [e.d false]) (by decide +kernel) rfl (by simp)
  | op s e f => exact .a (lead := [.str s]) (ps := [e.d false, f.d false]) (by decide +kernel) rfl (by simp)
  | nt e => exact .a (lead := []) (ps := [e.d false]) (by decide +kernel) rfl (by simp)
  | pr e f => exact .a (lead := []) (ps := [e.d false, f.d false]) (by decide +kernel) rfl (by simp)
  | ask o e => exact .a (lead := [.str o]) (ps := [e.d false]) (by decide +kernel) rfl (by simp)
  | hd e x f cs =>
    have z := PartsOf.h (e := e.d false) (x := .str x) (f := f.d false) (cs := up4 (cs.c4 false)) (by unfold up4; rw [List.length_map, Clz.l4]; exact Nat.le_trans h (by decide))
    rw [Clz.g4, ← Clz.d4] at z
    exact z
theorem ex_bnd (e : Ex) (h : clsLen e ≤ 900) : BndOf (e.d false) (bnds e) := by
  have hp := ex_parts e h
  cases e with
  | fn x e => exact .fn
  | rc y x e => exact .rc
  | lt x e f => exact .lt
  | hd e x f cs =>
    have z := BndOf.hd (e := e.d false) (x := x) (f := f.d false) (cs := cs.c4 false) (by rw [Clz.l4]; exact Nat.le_trans h (by decide))
    rw [Clz.n4, ← Clz.d4] at z
    exact z
  | num n => exact .no (by decide +kernel) (by decide +kernel) (by decide +kernel) (by decide +kernel) hp (by simp [exParts])
  | flag b => exact .no (by decide +kernel) (by decide +kernel) (by decide +kernel) (by decide +kernel) hp (by simp [exParts])
  | unit => exact .no (by decide +kernel) (by decide +kernel) (by decide +kernel) (by decide +kernel) hp (by simp [exParts])
  | name x => exact .no (by decide +kernel) (by decide +kernel) (by decide +kernel) (by decide +kernel) hp (by simp [exParts])
  | call f e => exact .no (by decide +kernel) (by decide +kernel) (by decide +kernel) (by decide +kernel) hp (by show 2 ≤ 1000; decide)
  | ite e f g => exact .no (by decide +kernel) (by decide +kernel) (by decide +kernel) (by decide +kernel) hp (by show 3 ≤ 1000; decide)
  | pair e f => exact .no (by decide +kernel) (by decide +kernel) (by decide +kernel) (by decide +kernel) hp (by show 2 ≤ 1000; decide)
  | fst e => exact .no (by decide +kernel) (by decide +kernel) (by decide +kernel) (by decide +kernel) hp (by show 1 ≤ 1000; decide)
  | snd e => exact .no (by decide +kernel) (by decide +kernel) (by decide +kernel) (by decide +kernel) hp (by show 1 ≤ 1000; decide)
  | op s e f => exact .no (by decide +kernel) (by decide +kernel) (by decide +kernel) (by decide +kernel) hp (by show 2 ≤ 1000; decide)
  | nt e => exact .no (by decide +kernel) (by decide +kernel) (by decide +kernel) (by decide +kernel) hp (by show 1 ≤ 1000; decide)
  | pr e f => exact .no (by decide +kernel) (by decide +kernel) (by decide +kernel) (by decide +kernel) hp (by show 2 ≤ 1000; decide)
  | ask o e => exact .no (by decide +kernel) (by decide +kernel) (by decide +kernel) (by decide +kernel) hp (by show 1 ≤ 1000; decide)
/-- prepared but for the names of a function -/
def exPre : Ex → D
  | .fn x e => .tup [.str "fun", .str x, e.d true]
  | .rc h x e => .tup [.str "rec", .str h, .str x, e.d true]
  | e => e.d true
theorem ex_with (e : Ex) (h : clsLen e ≤ 900) : WithP (e.d false) ((exParts e).map (Ex.d true)) (exPre e) := by
  cases e with
  | num n => exact .a (lead := [.int n]) (ps := []) (is := []) (by decide +kernel) rfl (by simp) (by simp)
  | flag b => exact .a (lead := [.bl b]) (ps := []) (is := []) (by decide +kernel) rfl (by simp) (by simp)
  | unit => exact .a (lead := []) (ps := []) (is := []) (by decide +kernel) rfl (by simp) (by simp)
  | name x => exact .a (lead := [.str x]) (ps := []) (is := []) (by decide +kernel) rfl (by simp) (by simp)
  | call f e => exact .a (lead := []) (ps := [f.d false, e.d false]) (is := [f.d true, e.d true]) (by decide +kernel) rfl (by simp) (by simp)
  | fn x e => exact .a (lead := [.str x]) (ps := [e.d false]) (is := [e.d true]) (by decide +kernel) rfl (by simp) (by simp)
  | rc y x e => exact .a (lead := [.str y, .str x]) (ps := [e.d false]) (is := [e.d true]) (by decide +kernel) rfl (by simp) (by simp)
  | lt x e f => exact .a (lead := [.str x]) (ps := [e.d false, f.d false]) (is := [e.d true, f.d true]) (by decide +kernel) rfl (by simp) (by simp)
  | ite e f g => exact .a (lead := []) (ps := [e.d false, f.d false, g.d false]) (is := [e.d true, f.d true, g.d true]) (by decide +kernel) rfl (by simp) (by simp)
  | pair e f => exact .a (lead := []) (ps := [e.d false, f.d false]) (is := [e.d true, f.d true]) (by decide +kernel) rfl (by simp) (by simp)
  | fst e => exact .a (lead := []) (ps := [e.d false]) (is := [e.d true]) (by decide +kernel) rfl (by simp) (by simp)
  | snd e => exact .a (lead := []) (ps := [e.d false]) (is := [e.d true]) (by decide +kernel) rfl (by simp) (by simp)
  | op s e f => exact .a (lead := [.str s]) (ps := [e.d false, f.d false]) (is := [e.d true, f.d true]) (by decide +kernel) rfl (by simp) (by simp)
  | nt e => exact .a (lead := []) (ps := [e.d false]) (is := [e.d true]) (by decide +kernel) rfl (by simp) (by simp)
  | pr e f => exact .a (lead := []) (ps := [e.d false, f.d false]) (is := [e.d true, f.d true]) (by decide +kernel) rfl (by simp) (by simp)
  | ask o e => exact .a (lead := [.str o]) (ps := [e.d false]) (is := [e.d true]) (by decide +kernel) rfl (by simp) (by simp)
  | hd e x f cs =>
    have h : cs.len ≤ 900 := h
    have z := WithP.h (e := e.d false) (x := .str x) (f := f.d false) (cs := up4 (cs.c4 false)) (e' := e.d true) (f' := f.d true) (gs := cs.gs.map (Ex.d true)) (by unfold up4; rw [List.length_map, Clz.l4]; omega) (by unfold up4; rw [List.length_map, List.length_map, Clz.l4, Clz.lg])
    rw [Clz.s4, ← Clz.d4] at z
    exact z
theorem cl_mem {c : Clz} : ∀ {g : Ex}, g ∈ c.gs → exD g ≤ clD c ∧ (smC c = true → smE g = true) := by
  induction c using Clz.rec (motive_1 := fun _ => True) with
  | nil => intro g h; cases h
  | cons o x k g r _ ih =>
    intro g' h
    rcases List.mem_cons.mp h with e | h
    · subst e
      refine ⟨Nat.le_max_left _ _, fun q => ?_⟩
      have q : (smE g' && smC r) = true := q
      rw [Bool.and_eq_true] at q
      exact q.1
    · obtain ⟨i1, i2⟩ := ih h
      refine ⟨Nat.le_trans i1 (Nat.le_max_right _ _), fun q => ?_⟩
      have q : (smE g && smC r) = true := q
      rw [Bool.and_eq_true] at q
      exact i2 q.2
  | _ => trivial
theorem part_mem {e g : Ex} (h : g ∈ exParts e) : exD g < exD e ∧ (smE e = true → smE g = true) := by
  have two : ∀ {a b : Nat}, a < Nat.max a b + 1 ∧ b < Nat.max a b + 1 := fun {a b} => ⟨Nat.lt_succ_of_le (Nat.le_max_left a b), Nat.lt_succ_of_le (Nat.le_max_right a b)⟩
  have b2 : ∀ {a b : Bool}, (a && b) = true → a = true ∧ b = true := fun {a b} q => by rw [Bool.and_eq_true] at q; exact q
  cases e with
  | num n => cases h
  | flag b => cases h
  | unit => cases h
  | name x => cases h
  | fn x e => rw [List.mem_singleton.mp h]; exact ⟨Nat.lt_succ_self _, id⟩
  | rc y x e => rw [List.mem_singleton.mp h]; exact ⟨Nat.lt_succ_self _, id⟩
  | fst e => rw [List.mem_singleton.mp h]; exact ⟨Nat.lt_succ_self _, id⟩
  | snd e => rw [List.mem_singleton.mp h]; exact ⟨Nat.lt_succ_self _, id⟩
  | nt e => rw [List.mem_singleton.mp h]; exact ⟨Nat.lt_succ_self _, id⟩
  | ask o e => rw [List.mem_singleton.mp h]; exact ⟨Nat.lt_succ_self _, id⟩
  | call f e =>
    rcases List.mem_cons.mp h with q | h
    · rw [q]; exact ⟨two.1, fun z => (b2 z).1⟩
    · rw [List.mem_singleton.mp h]; exact ⟨two.2, fun z => (b2 z).2⟩
  | lt x e f =>
    rcases List.mem_cons.mp h with q | h
    · rw [q]; exact ⟨two.1, fun z => (b2 z).1⟩
    · rw [List.mem_singleton.mp h]; exact ⟨two.2, fun z => (b2 z).2⟩
  | pair e f =>
    rcases List.mem_cons.mp h with q | h
    · rw [q]; exact ⟨two.1, fun z => (b2 z).1⟩
    · rw [List.mem_singleton.mp h]; exact ⟨two.2, fun z => (b2 z).2⟩
  | op s e f =>
    rcases List.mem_cons.mp h with q | h
    · rw [q]; exact ⟨two.1, fun z => (b2 z).1⟩
    · rw [List.mem_singleton.mp h]; exact ⟨two.2, fun z => (b2 z).2⟩
  | pr e f =>
    rcases List.mem_cons.mp h with q | h
    · rw [q]; exact ⟨two.1, fun z => (b2 z).1⟩
    · rw [List.mem_singleton.mp h]; exact ⟨two.2, fun z => (b2 z).2⟩
  | ite e f k =>
    rcases List.mem_cons.mp h with q | h
    · rw [q]; exact ⟨two.1, fun z => (b2 z).1⟩
    rcases List.mem_cons.mp h with q | h
    · rw [q]; exact ⟨Nat.lt_of_lt_of_le two.1 (Nat.succ_le_succ (Nat.le_max_right _ _)), fun z => (b2 (b2 z).2).1⟩
    · rw [List.mem_singleton.mp h]; exact ⟨Nat.lt_of_lt_of_le two.2 (Nat.succ_le_succ (Nat.le_max_right _ _)), fun z => (b2 (b2 z).2).2⟩
  | hd e x f cs =>
    rcases List.mem_cons.mp h with q | h
    · rw [q]; exact ⟨two.1, fun z => (b2 (b2 z).2).1⟩
    rcases List.mem_cons.mp h with q | h
    · rw [q]; exact ⟨Nat.lt_of_lt_of_le two.1 (Nat.succ_le_succ (Nat.le_max_right _ _)), fun z => (b2 (b2 (b2 z).2).2).1⟩
    · obtain ⟨i1, i2⟩ := cl_mem h
      exact ⟨Nat.lt_of_le_of_lt i1 (Nat.lt_of_lt_of_le two.2 (Nat.succ_le_succ (Nat.le_max_right _ _))), fun z => i2 (b2 (b2 (b2 z).2).2).2⟩
def foldN : List (Ex × List Str) → List Str → List Str → List Str
  | [], _, ks => ks
  | (e, b) :: r, bs, ks => foldN r bs (noted e (bs ++ b) ks)
def preN : Ex → List Str → List Str → List Str
  | .name x, bs, ks => if x ∈ bs then ks else addN x ks
  | _, _, ks => ks
theorem cl_fold : ∀ (c : Clz) (bs ks : List Str), notedC c bs ks = foldN (c.gs.zip c.nb) bs ks
  | .nil, _, _ => rfl
  | .cons o x k g r, bs, ks => cl_fold r bs (noted g (bs ++ [x, k]) ks)
theorem ex_fold (e : Ex) (bs ks : List Str) : noted e bs ks = foldN ((exParts e).zip (bnds e)) bs (preN e bs ks) := by
  cases e with
  | hd e x f cs =>
    show notedC cs bs (noted f (bs ++ [x]) (noted e bs ks)) = foldN (cs.gs.zip cs.nb) bs (noted f (bs ++ [x]) (noted e (bs ++ []) ks))
    rw [List.append_nil]
    exact cl_fold _ _ _
  | num n => rfl
  | flag b => rfl
  | unit => rfl
  | name x => rfl
  | fn x e => rfl
  | rc y x e => rfl
  | call f e => show _ = noted e (bs ++ []) (noted f (bs ++ []) ks); rw [List.append_nil]; rfl
  | lt x e f => show _ = noted f (bs ++ [x]) (noted e (bs ++ []) ks); rw [List.append_nil]; rfl
  | ite e f g => show _ = noted g (bs ++ []) (noted f (bs ++ []) (noted e (bs ++ []) ks)); rw [List.append_nil]; rfl
  | pair e f => show _ = noted f (bs ++ []) (noted e (bs ++ []) ks); rw [List.append_nil]; rfl
  | fst e => show _ = noted e (bs ++ []) ks; rw [List.append_nil]; rfl
  | snd e => show _ = noted e (bs ++ []) ks; rw [List.append_nil]; rfl
  | op s e f => show _ = noted f (bs ++ []) (noted e (bs ++ []) ks); rw [List.append_nil]; rfl
  | nt e => show _ = noted e (bs ++ []) ks; rw [List.append_nil]; rfl
  | pr e f => show _ = noted f (bs ++ []) (noted e (bs ++ []) ks); rw [List.append_nil]; rfl
  | ask o e => show _ = noted e (bs ++ []) ks; rw [List.append_nil]; rfl
theorem parts_bnds (e : Ex) : (exParts e).length = (bnds e).length := by
  cases e with
  | hd e x f cs =>
    show cs.gs.length + 1 + 1 = cs.nb.length + 1 + 1
    have : ∀ c : Clz, c.gs.length = c.nb.length := fun c => by
      induction c using Clz.rec (motive_1 := fun _ => True) with
      | nil => rfl
      | cons o x k g r _ ih => exact congrArg (· + 1) ih
      | _ => trivial
    rw [this]
  | _ => rfl
theorem addN_len (x : Str) (ks : List Str) : (addN x ks).length ≤ ks.length + 1 := by
  unfold addN
  split
  · omega
  · rw [List.length_append]; exact Nat.le_refl _
theorem addN_nd {x : Str} {ks : List Str} (h : ks.Nodup) : (addN x ks).Nodup := by
  unfold addN
  split
  · exact h
  · rename_i n; exact nd_snoc h n
mutual
theorem noted_len : ∀ (e : Ex) (bs ks : List Str), (noted e bs ks).length ≤ ks.length + exN e
  | .num _, _, ks => Nat.le_succ _
  | .flag _, _, ks => Nat.le_succ _
  | .unit, _, ks => Nat.le_succ _
  | .name x, bs, ks => by
    show (if x ∈ bs then ks else addN x ks).length ≤ ks.length + 1
    split
    · omega
    · exact addN_len x ks
  | .call f e, bs, ks => by have h1 := noted_len e bs (noted f bs ks); have h2 := noted_len f bs ks; show _ ≤ ks.length + (exN f + exN e + 1); unfold noted; omega
  | .fn x e, bs, ks => by have h1 := noted_len e (bs ++ [x]) ks; show _ ≤ ks.length + (exN e + 1); unfold noted; omega
  | .rc h x e, bs, ks => by have h1 := noted_len e (bs ++ [h, x]) ks; show _ ≤ ks.length + (exN e + 1); unfold noted; omega
  | .lt x e f, bs, ks => by have h1 := noted_len f (bs ++ [x]) (noted e bs ks); have h2 := noted_len e bs ks; show _ ≤ ks.length + (exN e + exN f + 1); unfold noted; omega
  | .ite e f g, bs, ks => by have h1 := noted_len g bs (noted f bs (noted e bs ks)); have h2 := noted_len f bs (noted e bs ks); have h3 := noted_len e bs ks; show _ ≤ ks.length + (exN e + (exN f + exN g) + 1); unfold noted; omega
  | .pair e f, bs, ks => by have h1 := noted_len f bs (noted e bs ks); have h2 := noted_len e bs ks; show _ ≤ ks.length + (exN e + exN f + 1); unfold noted; omega
  | .fst e, bs, ks => by have h1 := noted_len e bs ks; show _ ≤ ks.length + (exN e + 1); unfold noted; omega
  | .snd e, bs, ks => by have h1 := noted_len e bs ks; show _ ≤ ks.length + (exN e + 1); unfold noted; omega
  | .op _ e f, bs, ks => by have h1 := noted_len f bs (noted e bs ks); have h2 := noted_len e bs ks; show _ ≤ ks.length + (exN e + exN f + 1); unfold noted; omega
  | .nt e, bs, ks => by have h1 := noted_len e bs ks; show _ ≤ ks.length + (exN e + 1); unfold noted; omega
  | .pr e f, bs, ks => by have h1 := noted_len f bs (noted e bs ks); have h2 := noted_len e bs ks; show _ ≤ ks.length + (exN e + exN f + 1); unfold noted; omega
  | .ask _ e, bs, ks => by have h1 := noted_len e bs ks; show _ ≤ ks.length + (exN e + 1); unfold noted; omega
  | .hd e x f cs, bs, ks => by have h1 := notedC_len cs bs (noted f (bs ++ [x]) (noted e bs ks)); have h2 := noted_len f (bs ++ [x]) (noted e bs ks); have h3 := noted_len e bs ks; show _ ≤ ks.length + (exN e + (exN f + clN cs) + 1); unfold noted; omega
theorem notedC_len : ∀ (c : Clz) (bs ks : List Str), (notedC c bs ks).length ≤ ks.length + clN c
  | .nil, _, _ => Nat.le_refl _
  | .cons o x k g r, bs, ks => by have h1 := notedC_len r bs (noted g (bs ++ [x, k]) ks); have h2 := noted_len g (bs ++ [x, k]) ks; show _ ≤ ks.length + (exN g + clN r); unfold notedC; omega
end
def sumN : List (Ex × List Str) → Nat
  | [] => 0
  | p :: r => exN p.1 + sumN r
theorem cl_sum : ∀ c : Clz, sumN (c.gs.zip c.nb) = clN c
  | .nil => rfl
  | .cons o x k g r => congrArg (exN g + ·) (cl_sum r)
theorem ex_sum (e : Ex) : sumN ((exParts e).zip (bnds e)) + 1 = exN e := by
  cases e with
  | hd e x f cs =>
    show exN e + (exN f + sumN (cs.gs.zip cs.nb)) + 1 = _
    rw [cl_sum]
    rfl
  | _ => rfl
end Bz


set_option Elab.async false
set_option linter.all false
set_option maxRecDepth 100000
set_option maxHeartbeats 4000000
namespace Bz
open PySem PySem.Spec L2 PyProof.Rows
mutual
theorem noted_nd : ∀ (e : Ex) (bs : List Str) {ks : List Str}, ks.Nodup → (noted e bs ks).Nodup
  | .num _, _, _, h => h
  | .flag _, _, _, h => h
  | .unit, _, _, h => h
  | .name x, bs, ks, h => by
    show (if x ∈ bs then ks else addN x ks).Nodup
    split
    · exact h
    · exact addN_nd h
  | .call f e, bs, _, h => noted_nd e bs (noted_nd f bs h)
  | .fn x e, bs, _, h => noted_nd e _ h
  | .rc y x e, bs, _, h => noted_nd e _ h
  | .lt x e f, bs, _, h => noted_nd f _ (noted_nd e bs h)
  | .ite e f g, bs, _, h => noted_nd g bs (noted_nd f bs (noted_nd e bs h))
  | .pair e f, bs, _, h => noted_nd f bs (noted_nd e bs h)
  | .fst e, bs, _, h => noted_nd e bs h
  | .snd e, bs, _, h => noted_nd e bs h
  | .op _ e f, bs, _, h => noted_nd f bs (noted_nd e bs h)
  | .nt e, bs, _, h => noted_nd e bs h
  | .pr e f, bs, _, h => noted_nd f bs (noted_nd e bs h)
  | .ask _ e, bs, _, h => noted_nd e bs h
  | .hd e x f cs, bs, _, h => notedC_nd cs bs (noted_nd f _ (noted_nd e bs h))
theorem notedC_nd : ∀ (c : Clz) (bs : List Str) {ks : List Str}, ks.Nodup → (notedC c bs ks).Nodup
  | .nil, _, _, h => h
  | .cons o x k g r, bs, _, h => notedC_nd r bs (noted_nd g _ h)
end
theorem foldN_snoc (p : Ex × List Str) : ∀ (l : List (Ex × List Str)) (bs ks : List Str), foldN (l ++ [p]) bs ks = noted p.1 (bs ++ p.2) (foldN l bs ks)
  | [], _, _ => rfl
  | q :: l, bs, ks => foldN_snoc p l bs _
theorem foldN_len : ∀ (l : List (Ex × List Str)) (bs ks : List Str), (foldN l bs ks).length ≤ ks.length + sumN l
  | [], _, _ => Nat.le_refl _
  | p :: l, bs, ks => by
    have h1 := foldN_len l bs (noted p.1 (bs ++ p.2) ks)
    have h2 := noted_len p.1 (bs ++ p.2) ks
    show (foldN l bs _).length ≤ ks.length + (exN p.1 + sumN l)
    omega
theorem sumN_take : ∀ (l : List (Ex × List Str)) (i : Nat) (p : Ex × List Str), l[i]? = some p → sumN (l.take i) + exN p.1 ≤ sumN l
  | [], _, _, h => by simp at h
  | q :: l, 0, p, h => by
    cases (show q = p from Option.some.inj h)
    exact Nat.le_trans (Nat.le_of_eq (Nat.zero_add _)) (Nat.le_add_right _ _)
  | q :: l, i + 1, p, h => by
    have ih := sumN_take l i p (by simpa using h)
    show exN q.1 + sumN (l.take i) + exN p.1 ≤ exN q.1 + sumN l
    omega
theorem big3' {n : Nat} (h : n ≤ 20000) : n ≤ sizeLine := Nat.le_trans h (by decide)
theorem bnds_two {e : Ex} {b : List Str} (h : b ∈ bnds e) : b.length ≤ 2 := by
  cases e with
  | hd e x f cs =>
    rcases List.mem_cons.mp h with q | h
    · rw [q]; exact Nat.zero_le _
    rcases List.mem_cons.mp h with q | h
    · rw [q]; exact Nat.le_succ 1
    · have : ∀ c : Clz, ∀ b ∈ c.nb, b.length ≤ 2 := fun c => by
        induction c using Clz.rec (motive_1 := fun _ => True) with
        | nil => intro b h; cases h
        | cons o x k g r _ ih =>
          intro b h
          rcases List.mem_cons.mp h with q | h
          · rw [q]; exact Nat.le_refl _
          · exact ih b h
        | _ => trivial
      exact this cs b h
  | _ =>
    simp [bnds] at h
    try (rcases h with h | h | h <;> simp [h])
    try (rcases h with h | h <;> simp [h])
    try simp [h]
section
variable {P : Program} {w : World} {K : PySem.W.Frag} {mg : Str → Option Value} {base : Heap}
abbrev g_note_free_names : Stmt := topS 17
abbrev n_note_free_names : List Str := ["expression", "bound", "found", "part", "names"]
abbrev p_note_free_names : List Str := ["expression", "bound", "found"]
theorem sc_note_free_names : FnScope n_note_free_names p_note_free_names (defScope g_note_free_names) := ⟨rfl, rfl, rfl, by decide +kernel, rfl, by decide +kernel, by decide +kernel⟩
def tagE : Ex → Str
  | .num _ => "num" | .flag _ => "flag" | .unit => "unit" | .name _ => "name"
  | .call _ _ => "call" | .fn _ _ => "fun" | .rc _ _ _ => "rec" | .lt _ _ _ => "let" | .ite _ _ _ => "if"
  | .pair _ _ => "pair" | .fst _ => "fst" | .snd _ => "snd" | .op _ _ _ => "op" | .nt _ => "not" | .pr _ _ => "print" | .ask _ _ => "ask"
  | .hd _ _ _ _ => "handle"
theorem ex_tag (p : Bool) (e : Ex) : ∃ r, e.d p = .tup (.str (tagE e) :: r) := by cases e <;> exact ⟨_, rfl⟩
theorem ex_head {R : Hp} {e : Ex} {p : Bool} {v : V} (h : At R (e.d p) v) : ∃ pe r, v = .ref pe ∧ R pe = some (.tup (.str (tagE e) :: r)) := by
  obtain ⟨r, er⟩ := ex_tag p e
  rw [er] at h
  obtain ⟨pe, _, rfl, he, _, rr, rfl, rfl, _⟩ := h
  exact ⟨pe, rr, rfl, he⟩
theorem tag_name {e : Ex} (h : ∀ x, e ≠ .name x) : tagE e ≠ "name" ∧ ∀ bs ks, preN e bs ks = ks := by
  cases e with
  | name x => exact absurd rfl (h x)
  | _ => exact ⟨fun h => by simp only [tagE] at h; revert h; decide +kernel, fun _ _ => rfl⟩
def spNote (n : Nat) : Sp := fun vs H Q _ => ∃ (R : Hp) (e : Ex) (bs ks : List Str) (v b : V) (f : Addr), vs = [v, b, .ref f] ∧ Same R H ∧ At R (e.d false) v ∧ At R (.tup (bs.map D.str)) b ∧ R f = none ∧ H f = some (.dK (nkK ks)) ∧
  exD e ≤ n ∧ smE e = true ∧ ks.length + exN e ≤ 1000000 ∧ bs.length + 2 * n ≤ 10000 ∧ ∀ (R' H' : Hp), Mv (fun x => x = f) R H R' H' → H' f = some (.dK (nkK (noted e bs ks))) → Q .non H'
theorem ex_pos (e : Ex) : 1 ≤ exD e := by cases e <;> exact Nat.le_add_left _ _
theorem ok_note0 {f : Addr} {fd : FuncData} (F : Fun K "note_free_names" "note_free_names" g_note_free_names f fd) : FnOk P w K mg base CX0 3 f fd p_note_free_names (spNote 0) := by
  refine F.ok (k := 2) sc_note_free_names (fun vs H Q E h => ?_) (fun cdv A outer st H vs Q E hr h => ?_)
  · obtain ⟨R, e, bs, ks, v, b, fa, rfl, _⟩ := h
    rfl
  · obtain ⟨R, e, bs, ks, v, b, fa, rfl, _, _, _, _, _, h, _⟩ := h
    exact absurd h (by have := ex_pos e; omega)
theorem ok_note {n : Nat} {f fP fB : Addr} {fd fdP fdB : FuncData} (F : Fun K "note_free_names" "note_free_names" g_note_free_names f fd) (mz : mg "zip" = none)
    (GP : Fn P w K mg base CX0 1 "parts" p_parts spParts fP fdP) (GB : Fn P w K mg base CX0 2 "bound_in_parts" p_bound_in_parts spBnd fB fdB)
    (GN : Fn P w K mg base CX0 (n + 3) "note_free_names" p_note_free_names (spNote n) f fd) : FnOk P w K mg base CX0 (n + 4) f fd p_note_free_names (spNote (n + 1)) := by
  refine F.ok (k := n + 3) sc_note_free_names (fun vs H Q E h => ?_) (fun cdv A outer st H vs Q E hr h => ?_)
  · obtain ⟨R, e, bs, ks, v, b, fa, rfl, _⟩ := h
    rfl
  · obtain ⟨R, e, bs, ks, v, b, fa, rfl, sub, hv, hb, rf, hf, dep, sm, sz, bl, q⟩ := h
    have hu := hu_of hr
    refine ⟨_, (C8.pss_cut (ps_if (PW.pt (pw_and (pt_cmpR op_eq (pe_ix ix_tup (pv 0) (pe_int) (fun _ _ => rfl)) (pe_str) (nomark _)) (pw_and1 (pt_cmpR op_notIn_seq (pe_ix ix_tup (pv 0) (pe_int) (fun _ _ => rfl)) (pv 1) (by rfl))))) (pss_one (ps_dput hu (pv 2) (pe_ix ix_tup (pv 0) (pe_int) (fun _ _ => rfl)) (pe_bl) rfl)) pss_nil)
      (pss_one (ps_for PassesOwn.never rfl (pi_zip (by rfl) mz (pa_cons (pe_call GP.ok (hr.mono (by omega)) (by rfl) GP.g GP.kp GP.b .nil pass0 (pa_cons (pv 0) pa_nil)) (pa_cons (pe_call GB.ok (hr.mono (by omega)) (by rfl) GB.g GB.kp GB.b .nil pass0 (pa_cons (pv 0) pa_nil)) pa_nil))) (pg_tup rfl (pgs_cons (pg_name (i := 3) sc_note_free_names.nd rfl (Or.inl rfl)) (pgs_cons (pg_name (i := 4) sc_note_free_names.nd rfl (Or.inl rfl)) pgs_nil))) (pss_one (ps_expr (pe_call GN.ok hr (by rfl) GN.g GN.kp GN.b .nil pass0 (pa_cons (pv 3) (pa_cons (pe_tup (StX.pa_star (pv 1) (StX.pa_star (pv 4) pa_nil))) (pa_cons (pv 2) pa_nil))))))))), ?_⟩
    obtain ⟨pb, bvs, rfl, hpb, hbs⟩ := hb
    have ebs := ats_str hbs
    subst ebs
    have hpb' := sub _ _ hpb
    have hcl := sm_len sm
    have hparts := ex_parts e hcl
    have hbnd := ex_bnd e hcl
    have hsum := ex_sum e
    obtain ⟨pe, er, rfl, hpe⟩ := ex_head hv
    have hpe := sub _ _ hpe
    refine ⟨fun σ H1 => σ = [some (.ref pe), some (.ref pb), some (.ref fa), none, none] ∧ Mv (fun x => x = fa) R H R H1 ∧ H1 fa = some (.dK (nkK (preN e bs ks))), ?_, ?_⟩
    · refine ⟨_, rfl, pe, _, 0, _, rfl, rfl, SqT.of hpe, atI_nat (j := 0) rfl, rfl, _, rfl, ?_⟩
      by_cases hx : ∃ x, e = .name x
      · obtain ⟨x, rfl⟩ := hx
        have hv2 := hv
        obtain ⟨pe2, _, e1, hpe2, _, _, rfl, rfl, _, _, rfl, rfl, rfl⟩ := hv2
        obtain rfl : pe = pe2 := V.ref.inj e1
        have hpe2 := sub _ _ hpe2
        refine ifT (decide_eq_true rfl) ?_
        refine ⟨_, rfl, pe, _, 1, _, rfl, rfl, SqT.of hpe2, rfl, _, rfl, pb, _, rfl, .inr (SqT.of hpb'), rfl, flat_str bs, _, rfl, ?_⟩
        show if (!inV (.str x) (bs.map V.str)) = true then _ else _
        rw [inV_str]
        by_cases c : x ∈ bs
        · refine ifF (by rw [decide_eq_true c]; rfl) ?_
          refine ⟨rfl, .refl sub, ?_⟩
          show H fa = some (.dK (nkK (if x ∈ bs then ks else addN x ks)))
          rw [if_pos c]
          exact hf
        · refine ifT (by rw [decide_eq_false c]; rfl) ?_
          have hl : (nkK ks).length < sizeLine := by
            unfold nkK
            rw [List.length_map]
            exact Nat.lt_of_lt_of_le (by have : exN (.name x) = 1 := rfl; omega : ks.length < 1000001) (by decide)
          refine ⟨_, rfl, _, rfl, pe, _, 1, _, rfl, rfl, SqT.of hpe2, rfl, fa, _, rfl, DPut.k (k := (Sum.inr x : Key)) hf hl, ?_⟩
          refine ⟨rfl, mv_at sub rf hf rfl, ?_⟩
          show (upd H fa _) fa = some (.dK (nkK (if x ∈ bs then ks else addN x ks)))
          rw [if_neg c, upd_same, nkK_put]
      · obtain ⟨hn, hp⟩ := tag_name (e := e) fun x h => hx ⟨x, h⟩
        rw [hp]
        refine isF hn ?_
        exact ⟨rfl, .refl sub, hf⟩
    · rintro σ H1 ⟨rfl, mv1, hf1⟩
      refine ⟨_, rfl, R, _, _, _, rfl, mv1.sub, hv, hparts, fun R2 H2 u2 m2 au2 => ?_⟩
      refine ⟨_, rfl, R2, _, _, _, rfl, m2.sub, hv.up m2.up, hbnd, fun R3 H3 u3 m3 au3 => ?_⟩
      have au2 := au2.up m3.up
      obtain ⟨p1, xs, rfl, hp1, a1⟩ := au2
      obtain ⟨p2, ys, rfl, hp2, a2⟩ := au3
      have l1 := a1.length
      have l2 := a2.length
      rw [List.length_map] at l1
      rw [show (bndD (bnds e)).length = (bnds e).length by unfold bndD; rw [List.length_map], ← parts_bnds] at l2
      have mv3 : Mv (fun x => x = fa) R H R3 H3 := (mv1.tr0 m2).tr0 m3
      have hf3 := (m2.tr m3).same _ _ hf1
      have rf3 := (m2.tr m3).out (show R fa = none from rf) hf1
      refine ⟨p1, p2, xs, ys, rfl, SqL.of (m3.sub _ _ hp1), SqL.of (m3.sub _ _ hp2), ?_⟩
      refine RZ.for_zipL (K := K) (a := p1) (b := p2) (xs := xs) (ys := ys) (by rw [l1, l2]) (fun i σ H' => ∃ (R' : Hp) (x y : Option V), σ = [some (.ref pe), some (.ref pb), some (.ref fa), x, y] ∧ Mv (fun x => x = fa) R H R' H' ∧ Same R3 R' ∧ R' fa = none ∧ H' fa = some (.dK (nkK (foldN (((exParts e).zip (bnds e)).take i) bs (preN e bs ks))))) ⟨R3, none, none, rfl, mv3, .refl _, rf3, hf3⟩ ?_ ?_ ?_
      · rintro i σ H' ⟨R', x, y, rfl, mv', s3, _, _⟩
        exact ⟨SqL.of (mv'.sub _ _ (s3 _ _ hp1)), SqL.of (mv'.sub _ _ (s3 _ _ hp2))⟩
      · rintro i u w T σ H' hu' hw' ⟨R', x, y, rfl, mv', s3, rf', hf'⟩ nT
        obtain ⟨dd, hdd, ad⟩ := a1.mem hu'
        obtain ⟨db, hdb, ab⟩ := a2.mem hw'
        rw [List.getElem?_map] at hdd
        unfold bndD at hdb
        rw [List.getElem?_map] at hdb
        cases eg : (exParts e)[i]? with
        | none => rw [eg] at hdd; cases hdd
        | some g =>
          cases eb : (bnds e)[i]? with
          | none => rw [eb] at hdb; cases hdb
          | some b2 =>
            rw [eg] at hdd
            rw [eb] at hdb
            obtain rfl : g.d false = dd := Option.some.inj hdd
            obtain rfl : D.tup (b2.map D.str) = db := Option.some.inj hdb
            have ez : ((exParts e).zip (bnds e))[i]? = some (g, b2) := List.getElem?_zip_eq_some.mpr ⟨eg, eb⟩
            obtain ⟨pd, ps⟩ := part_mem (List.mem_of_getElem? eg)
            have b2l := bnds_two (List.mem_of_getElem? eb)
            have ab := ab.up s3
            obtain ⟨pb2, b2vs, rfl, hpb2, hb2s⟩ := ab
            have eb2 := ats_str hb2s
            subst eb2
            have mT : Mv (fun x => x = fa) R' H' R' _ := mv_mut (o := .tup [u, .ref pb2]) mv'.sub nT
            refine ⟨T, _, rfl, SqT.of upd_same, rfl, _, _, rfl, _, _, rfl, rfl, ?_⟩
            refine ⟨_, rfl, _, rfl, pb, _, rfl, .inl (SqT.of (mT.sub _ _ (mv'.up _ _ hpb))), _, rfl, pb2, _, rfl, .inl (SqT.of (mT.sub _ _ hpb2)), ?_⟩
            have e3 : bs.map V.str ++ (b2.map V.str ++ []) = (bs ++ b2).map V.str := by rw [List.append_nil, List.map_append]
            refine ⟨by show (bs.map V.str ++ (b2.map V.str ++ [])).length ≤ sizeLine; rw [e3, List.length_map, List.length_append]; exact big3' (by omega), fun pn nn => ?_⟩
            have mN := mT.tr (mv_new (F := fun x => x = fa) (o := .tup (bs.map V.str ++ (b2.map V.str ++ []))) mT.sub nn)
            have hfN := (mv_new (F := F0) (o := .tup (bs.map V.str ++ (b2.map V.str ++ []))) mT.sub nn).same _ _ (show (upd H' T (.tup [u, .ref pb2])) fa = some _ from by rw [upd_ne (ne_of_none hf' nT)]; exact hf')
            have rfN := (mT.tr (mv_new (F := fun x => x = fa) (o := .tup (bs.map V.str ++ (b2.map V.str ++ []))) mT.sub nn)).out rf' hf'
            refine ⟨_, rfl, ?_⟩
            have fl := foldN_len (((exParts e).zip (bnds e)).take i) bs (preN e bs ks)
            have st := sumN_take _ _ _ ez
            have pl : (preN e bs ks).length ≤ ks.length + 1 := by
              by_cases hx : ∃ x, e = .name x
              · obtain ⟨x, rfl⟩ := hx
                show (if x ∈ bs then ks else addN x ks).length ≤ _
                split
                · omega
                · exact addN_len x ks
              · rw [(tag_name (e := e) fun x h => hx ⟨x, h⟩).2]; omega
            have st2 : sumN (((exParts e).zip (bnds e)).take i) + exN g ≤ sumN ((exParts e).zip (bnds e)) := st
            refine ⟨_, g, bs ++ b2, _, u, .ref pn, fa, rfl, mN.sub, (ad.up s3).up mN.up, .ntup (l := (bs ++ b2).map D.str) mT.sub nn (by rw [e3]; exact str_ats _), rfN, hfN, by omega, ps sm, by omega, by rw [List.length_append]; omega, fun R4 H4 m4 hf4 => ?_⟩
            refine ⟨R4, _, _, rfl, (mv'.tr mN).tr m4, (s3.trans mN.up).trans m4.up, m4.out rfN hfN, ?_⟩
            rw [hf4, List.take_add_one, ez]
            show _ = some (HO.dK (nkK (foldN (((exParts e).zip (bnds e)).take i ++ [(g, b2)]) bs (preN e bs ks))))
            rw [foldN_snoc]
      · rintro σ H' ⟨R', x, y, rfl, mv', s3, rf', hf'⟩
        rw [l1, List.take_of_length_le (by rw [List.length_zip]; exact Nat.min_le_left _ _), ← ex_fold] at hf'
        exact q R' H' mv' hf'
end
end Bz


set_option Elab.async false
set_option linter.all false
set_option maxRecDepth 100000
set_option maxHeartbeats 4000000
namespace Bz
open PySem PySem.Spec L2 PyProof.Rows
section
variable {P : Program} {w : World} {K : PySem.W.Frag} {mg : Str → Option Value} {base : Heap}
theorem note_all {f fP fB : Addr} {fd fdP fdB : FuncData} (F : Fun K "note_free_names" "note_free_names" g_note_free_names f fd) (mz : mg "zip" = none)
    (GP : Fn P w K mg base CX0 1 "parts" p_parts spParts fP fdP) (GB : Fn P w K mg base CX0 2 "bound_in_parts" p_bound_in_parts spBnd fB fdB) (g : mg "note_free_names" = some (.ref f)) (b : Binds K fd p_note_free_names []) :
    ∀ n, Fn P w K mg base CX0 (n + 3) "note_free_names" p_note_free_names (spNote n) f fd
  | 0 => ⟨ok_note0 F, g, F.kp, b⟩
  | n + 1 => ⟨ok_note F mz GP GB (note_all F mz GP GB g b n), g, F.kp, b⟩
abbrev g_free_names : Stmt := topS 16
abbrev n_free_names : List Str := ["expression", "found"]
abbrev p_free_names : List Str := ["expression"]
theorem sc_free_names : FnScope n_free_names p_free_names (defScope g_free_names) := ⟨rfl, rfl, rfl, by decide +kernel, rfl, by decide +kernel, by decide +kernel⟩
def spFree (n : Nat) : Sp := fun vs H Q _ => ∃ (R : Hp) (e : Ex) (v : V), vs = [v] ∧ Same R H ∧ At R (e.d false) v ∧ exD e ≤ n ∧ n ≤ 4000 ∧ smE e = true ∧ exN e ≤ 1000000 ∧ (noted e [] []).length < 64 ∧
  ∀ (R' H' : Hp) (u : V), Mv F0 R H R' H' → At R' (.lst ((fv e).map D.str)) u → Q u H'
theorem ok_free {n : Nat} {f fN : Addr} {fd fdN : FuncData} (F : Fun K "free_names" "free_names" g_free_names f fd) (mso : mg "sorted" = none)
    (GN : Fn P w K mg base CX0 (n + 3) "note_free_names" p_note_free_names (spNote n) fN fdN) : FnOk P w K mg base CX0 (n + 4) f fd p_free_names (spFree n) := by
  refine F.ok (k := n + 3) sc_free_names (fun vs H Q E h => ?_) (fun cdv A outer st H vs Q E hr h => ?_)
  · obtain ⟨R, e, v, rfl, _⟩ := h
    rfl
  · obtain ⟨R, e, v, rfl, sub, hv, dep, n4, sm, sz, few, q⟩ := h
    refine ⟨_, (pss_cons (ps_set (i := 1) sc_free_names.nd rfl (Or.inl rfl) pe_dnewK)
      (pss_cons (ps_expr (pe_call GN.ok hr (by rfl) GN.g GN.kp GN.b .nil pass0 (pa_cons (pv 0) (pa_cons (pe_tup pa_nil) (pa_cons (pv 1) pa_nil)))))
      (pss_one (ps_ret (pe_callB (call_sortedD rfl) (by rfl) mso (by decide +kernel) (pa_cons (pv 1) pa_nil)))))), ?_⟩
    intro d nd
    have m1 : Mv F0 R H R _ := mv_mut (o := .dK []) sub nd
    refine ⟨_, rfl, Nat.zero_le _, fun pt nt => ?_⟩
    have hd1 : (upd H d (.dK [])) d = some (.dK []) := upd_same
    have m2 := m1.tr (mv_new (o := .tup []) m1.sub nt)
    have hd2 := same_new (o := .tup []) nt _ _ hd1
    have rd : R d = none := sub.free nd
    have rd2 := (mv_new (F := F0) (o := .tup []) m1.sub nt).out rd hd1
    refine ⟨_, rfl, ?_⟩
    refine ⟨_, e, [], [], v, .ref pt, d, rfl, m2.sub, hv.up m2.up, .ntup (vs := []) m1.sub nt rfl, rd2, hd2, dep, sm, by show 0 + exN e ≤ _; omega, by show 0 + 2 * n ≤ _; omega, fun R3 H3 m3 hd3 => ?_⟩
    refine ⟨_, rfl, d, _, noted e [] [], rfl, .inl hd3, ?_, few, fun ys p hp hs np => ?_⟩
    · unfold nkK
      rw [List.map_map]
      exact List.map_congr_left fun _ _ => rfl
    have ey : ys = fv e := sort_uniq hp hs (noted_nd e [] List.nodup_nil)
    subst ey
    have m23 : Mv F0 R H R3 H3 := m2.trans m3 (fun _ f => f) fun x f => .inr (by rw [f]; exact nd)
    exact q _ _ _ (m23.tr (mv_new m23.sub np)) (.nlst m23.sub np (str_ats _))
/-- no function has too many free names -/
def isFnE : Ex → Bool
  | .fn _ _ => true
  | .rc _ _ _ => true
  | _ => false
def okP : Nat → Ex → Prop
  | 0, _ => True
  | n + 1, e => (isFnE e = true → (noted e [] []).length < 64 ∧ exN e ≤ 1000000) ∧ ∀ g ∈ exParts e, okP n g
abbrev g_prepared : Stmt := topS 20
abbrev n_prepared : List Str := ["expression", "inner", "part"]
abbrev p_prepared : List Str := ["expression"]
theorem sc_prepared : FnScope n_prepared p_prepared (defScope g_prepared) := ⟨rfl, rfl, rfl, by decide +kernel, rfl, by decide +kernel, by decide +kernel⟩
def spPrep (n : Nat) : Sp := fun vs H Q _ => ∃ (R : Hp) (e : Ex) (v : V), vs = [v] ∧ Same R H ∧ At R (e.d false) v ∧ exD e ≤ n ∧ smE e = true ∧ okP n e ∧ ∀ (R' H' : Hp) (u : V), Mv F0 R H R' H' → At R' (e.d true) u → Q u H'
theorem ok_prep0 {k : Nat} {f : Addr} {fd : FuncData} (F : Fun K "prepared" "prepared" g_prepared f fd) : FnOk P w K mg base CX0 (k + 1) f fd p_prepared (spPrep 0) := by
  refine F.ok (k := k) sc_prepared (fun vs H Q E h => ?_) (fun cdv A outer st H vs Q E hr h => ?_)
  · obtain ⟨R, e, v, rfl, _⟩ := h
    rfl
  · obtain ⟨R, e, v, rfl, _, _, h, _⟩ := h
    exact absurd h (by have := ex_pos e; omega)
theorem ok_prep {N n : Nat} {f fP fW fF : Addr} {fd fdP fdW fdF : FuncData} (F : Fun K "prepared" "prepared" g_prepared f fd) (hN : n + 1 ≤ N) (hN4 : N ≤ 4000)
    (GP : Fn P w K mg base CX0 1 "parts" p_parts spParts fP fdP) (GW : Fn P w K mg base CX0 1 "with_parts" p_with_parts spWithP fW fdW) (GF : Fn P w K mg base CX0 (N + 4) "free_names" p_free_names (spFree N) fF fdF)
    (GR : Fn P w K mg base CX0 (N + 5 + n) "prepared" p_prepared (spPrep n) f fd) : FnOk P w K mg base CX0 (N + 5 + (n + 1)) f fd p_prepared (spPrep (n + 1)) := by
  refine F.ok (k := N + 5 + n) sc_prepared (fun vs H Q E h => ?_) (fun cdv A outer st H vs Q E hr h => ?_)
  · obtain ⟨R, e, v, rfl, _⟩ := h
    rfl
  · obtain ⟨R, e, v, rfl, sub, hv, dep, sm, ok, q⟩ := h
    refine ⟨_, (pss_cons (ps_setLc (i := 1) (own := [("part", 2)]) (g := gName 2) (tt := tYes) (te := tCall (spPrep n) [] E0 (tCons (tVar 2) tNil)) rfl sc_prepared.nd rfl rfl (sw_true rfl rfl rfl (by decide +kernel)) (pi_list (pe_call GP.ok (hr.mono (by omega)) (by rfl) GP.g GP.kp GP.b .nil pass0 (pa_cons (pv 0) pa_nil))) (blkOk_by (N := n_prepared) (sc := defScope g_prepared) (by decide +kernel)) (fun _ _ _ _ _ => pg_name (i := 2) sc_prepared.nd rfl (Or.inl rfl)) (fun _ _ _ _ _ => pts_nil) (fun _ _ _ _ _ => pe_call GR.ok hr (by rfl) GR.g GR.kp GR.b .nil pass0 (pa_cons (pv 2) pa_nil)))
      (pss_cons (ps_if (pt_cmpR op_in_seq (pe_ix ix_tup (pv 0) (pe_int) (fun _ _ => rfl)) (pe_tup (pa_cons (pe_str) (pa_cons (pe_str) pa_nil))) (by rfl)) (pss_one (ps_ret (pe_tup (StX.pa_star (pe_call GW.ok (hr.mono (by omega)) (by rfl) GW.g GW.kp GW.b .nil pass0 (pa_cons (pv 0) (pa_cons (pv 1) pa_nil))) (pa_cons (pe_call GF.ok (hr.mono (by omega)) (by rfl) GF.g GF.kp GF.b .nil pass0 (pa_cons (pv 0) pa_nil)) pa_nil))))) pss_nil)
      (pss_one (ps_ret (pe_call GW.ok (hr.mono (by omega)) (by rfl) GW.g GW.kp GW.b .nil pass0 (pa_cons (pv 0) (pa_cons (pv 1) pa_nil))))))), ?_⟩
    have hcl := sm_len sm
    refine ⟨_, rfl, R, _, _, _, rfl, sub, hv, ex_parts e hcl, fun R1 H1 u1 m1 au1 => ?_⟩
    obtain ⟨pl, pvs, rfl, hpl, apl⟩ := au1
    have hpl1 := m1.sub _ _ hpl
    have lp := apl.length
    rw [List.length_map] at lp
    refine ⟨pl, rfl, ⟨_, SqL.of hpl1⟩, fun L nL => ?_⟩
    refine lc_list (K := K) (a := pl) (xs := pvs) (fun i H3 => ∃ (R3 : Hp) (ws : List V), Mv F0 R H R3 H3 ∧ Mv F0 R1 H1 R3 H3 ∧ R3 L = none ∧ H3 L = some (.lst ws) ∧ Ats R3 (((exParts e).take i).map (Ex.d true)) ws) ?_ ?_ ?_ ?_
    · have mD : Mv F0 R1 H1 R1 _ := mv_mut (o := .lst []) m1.sub nL
      exact ⟨_, [], m1.tr mD, mD, m1.sub.free nL, upd_same, rfl⟩
    · rintro i H3 _ ⟨R3, ws, _, m3, _⟩
      exact SqL.of (m3.same _ _ hpl1)
    · rintro i y H3 hy ⟨R3, ws, mv3, m3, rD, hD, aw⟩
      obtain ⟨dd, hdd, ad⟩ := apl.mem hy
      rw [List.getElem?_map] at hdd
      cases eg : (exParts e)[i]? with
      | none => rw [eg] at hdd; cases hdd
      | some g =>
        rw [eg] at hdd
        obtain rfl : g.d false = dd := Option.some.inj hdd
        have gm := List.mem_of_getElem? eg
        obtain ⟨pd, ps⟩ := part_mem gm
        refine ⟨rfl, _, rfl, ?_⟩
        refine ⟨R3, g, y, rfl, mv3.sub, ad.up m3.up, by omega, ps sm, ok.2 g gm, fun R4 H4 u4 m4 au4 => ?_⟩
        have hD4 := m4.same _ _ hD
        have rD4 := m4.out rD hD
        have lw := aw.length
        have li : i < (exParts e).length := (List.getElem?_eq_some_iff.mp eg).1
        rw [List.length_map, List.length_take] at lw
        have lq : (exParts e).length ≤ 1000 := by
          cases e with
          | hd e x f cs =>
            show cs.gs.length + 1 + 1 ≤ 1000
            rw [Clz.lg]
            have : cs.len ≤ 900 := hcl
            omega
          | _ => simp [exParts]
        refine ⟨ws, hD4, Nat.lt_of_le_of_lt (by omega : ws.length ≤ 1000) (by decide), ?_⟩
        have mset : Mv (fun x => x = L) _ _ _ _ := mv_at (o := .lst (ws ++ [u4])) m4.sub rD4 hD4 rfl
        have nL0 : H L = none := m1.free nL
        refine ⟨_, ws ++ [u4], (mv3.tr m4).trans mset (fun _ f => f) (fun x f => .inr (by rw [f]; exact nL0)), (m3.tr m4).trans mset (fun _ f => f) (fun x f => .inr (by rw [f]; exact nL)), rD4, upd_same, ?_⟩
        rw [List.take_add_one, eg, List.map_append]
        exact Ats.snoc (Ats.up m4.up aw) au4
    · rintro H3 ⟨R3, ws, mv3, m3, rD, hD, aw⟩
      rw [lp, List.take_length] at aw
      have nL0 : H L = none := m1.free nL
      have eH : H3 = upd H3 L (.lst ws) := by
        funext x
        by_cases e : x = L
        · subst e
          rw [upd_same, hD]
        · rw [upd_ne e]
      -- the list stands still from here on
      have mvL : Mv F0 R H (upd R3 L (.lst ws)) H3 := ⟨mv3.keep, mv3.dom, mv3.up.trans (same_new rD), fun b z e => by
          by_cases eb : b = L
          · subst eb
            rw [upd_same] at e
            rw [hD]
            exact e
          · rw [upd_ne eb] at e
            exact mv3.sub b z e, fun b z e => by
          by_cases eb : b = L
          · subst eb
            exact .inr nL0
          · rw [upd_ne eb] at e
            exact mv3.new b z e⟩
      have aL : At (upd R3 L (.lst ws)) (.lst ((exParts e).map (Ex.d true))) (.ref L) := ⟨L, ws, rfl, upd_same, aw.up (same_new rD)⟩
      obtain ⟨pe, er, rfl, hpe⟩ := ex_head hv
      have hpe3 := mv3.sub _ _ (mv3.up _ _ hpe)
      refine ⟨_, rfl, pe, _, 0, _, rfl, rfl, SqT.of hpe3, atI_nat (j := 0) rfl, by show 2 ≤ sizeLine; decide, fun pt nt => ?_⟩
      refine ⟨pt, _, rfl, .inr (SqT.of upd_same), rfl, rfl, _, rfl, ?_⟩
      have mt : Mv F0 (upd R3 L (.lst ws)) H3 _ _ := mv_mut (o := .tup [.str "fun", .str "rec"]) mvL.sub nt
      have mvT := mvL.tr mt
      have hw := ex_with e hcl
      by_cases hf : isFnE e = true
      · have ht : inV (.str (tagE e)) [.str "fun", .str "rec"] = true := by
          cases e with
          | fn x b => show inV (.str "fun") [.str "fun", .str "rec"] = true; decide +kernel
          | rc y x b => show inV (.str "rec") [.str "fun", .str "rec"] = true; decide +kernel
          | _ => cases hf
        refine ifT ht ?_
        refine ⟨_, rfl, _, rfl, ?_⟩
        refine ⟨_, _, _, _, _, _, rfl, mvT.sub, hv.up mvT.up, aL, hw, fun R5 H5 z m5 az => ?_⟩
        obtain ⟨hN1, hN2⟩ := ok.1 hf
        have go : ∀ (pz : Addr) (zs : List V), z = .ref pz → R5 pz = some (.tup zs) → zs.length ≤ 10 → (∀ (R6 : Hp) (u : V), Same R5 R6 → At R6 (.lst ((fv e).map D.str)) u → ∀ (pn : Addr) (H6 : Hp), Same R6 H6 → H6 pn = none → At (upd R6 pn (.tup (zs ++ [u]))) (e.d true) (.ref pn)) →
            ∃ p xs, z = V.ref p ∧ (SqT K H5 p xs ∨ SqL K H5 p xs) ∧ (tCons (tCall (spFree N) [] E0 (tCons (tVar 0) tNil)) tNil) [some (.ref pe), some (.ref L), none] H5 (fun ys H2 => (xs ++ ys).length ≤ sizeLine ∧ ∀ p, H2 p = none → Q (.ref p) (upd H2 p (.tup (xs ++ ys)))) := by
          intro pz zs ez hz lz fin
          refine ⟨pz, zs, ez, .inl (SqT.of (m5.sub _ _ hz)), _, rfl, ?_⟩
          refine ⟨R5, e, _, rfl, m5.sub, hv.up (mvT.up.trans m5.up), by omega, hN4, sm, hN2, hN1, fun R6 H6 u m6 au => ?_⟩
          refine ⟨by rw [List.length_append]; show zs.length + 1 ≤ _; exact big3 (by omega), fun pn nn => ?_⟩
          exact q _ _ _ (((mvT.tr m5).tr m6).tr (mv_new m6.sub nn)) (fin _ _ m6.up au _ _ m6.sub nn)
        cases e with
        | fn x b =>
          obtain ⟨pz, _, rfl, hz, _, _, rfl, rfl, _, _, rfl, rfl, vb, _, rfl, ab, rfl⟩ := az
          exact go pz _ rfl hz (by simp) fun _ _ s a _ _ s6 nn => .ntup (l := [.str "fun", .str x, b.d true, .lst ((fv (.fn x b)).map D.str)]) s6 nn ⟨_, _, rfl, rfl, _, _, rfl, rfl, _, _, rfl, ab.up s, _, _, rfl, a, rfl⟩
        | rc y x b =>
          obtain ⟨pz, _, rfl, hz, _, _, rfl, rfl, _, _, rfl, rfl, _, _, rfl, rfl, vb, _, rfl, ab, rfl⟩ := az
          exact go pz _ rfl hz (by simp) fun _ _ s a _ _ s6 nn => .ntup (l := [.str "rec", .str y, .str x, b.d true, .lst ((fv (.rc y x b)).map D.str)]) s6 nn ⟨_, _, rfl, rfl, _, _, rfl, rfl, _, _, rfl, rfl, _, _, rfl, ab.up s, _, _, rfl, a, rfl⟩
        | _ => cases hf
      · have hf2 : isFnE e = false := by
          cases h : isFnE e with
          | true => exact absurd h hf
          | false => rfl
        have ht : inV (.str (tagE e)) [.str "fun", .str "rec"] = false := by
          cases e with
          | fn x b => cases hf2
          | rc y x b => cases hf2
          | _ => simp only [tagE]; decide +kernel
        refine ifF ht ?_
        refine ⟨_, rfl, _, rfl, ?_⟩
        refine ⟨_, _, _, _, _, _, rfl, mvT.sub, hv.up mvT.up, aL, hw, fun R5 H5 z m5 az => ?_⟩
        have ez : exPre e = e.d true := by
          cases e with
          | fn x b => cases hf2
          | rc y x b => cases hf2
          | _ => rfl
        rw [ez] at az
        exact q _ _ _ (mvT.tr m5) az
theorem prep_all {N : Nat} {f fP fW fF : Addr} {fd fdP fdW fdF : FuncData} (F : Fun K "prepared" "prepared" g_prepared f fd) (hN4 : N ≤ 4000)
    (GP : Fn P w K mg base CX0 1 "parts" p_parts spParts fP fdP) (GW : Fn P w K mg base CX0 1 "with_parts" p_with_parts spWithP fW fdW) (GF : Fn P w K mg base CX0 (N + 4) "free_names" p_free_names (spFree N) fF fdF)
    (g : mg "prepared" = some (.ref f)) (b : Binds K fd p_prepared []) : ∀ n, n ≤ N → Fn P w K mg base CX0 (N + 5 + n) "prepared" p_prepared (spPrep n) f fd
  | 0, _ => ⟨ok_prep0 (k := N + 4) F, g, F.kp, b⟩
  | n + 1, h => ⟨ok_prep F h hN4 GP GW GF (prep_all F hN4 GP GW GF g b n (Nat.le_of_succ_le h)), g, F.kp, b⟩
end
end Bz


set_option Elab.async false
set_option linter.all false
set_option maxRecDepth 100000
set_option maxHeartbeats 4000000
namespace Bz
open PySem PySem.Spec L2 PyProof.Rows
def msk (m : Ms) : Sk := ⟨m.left, m.prints, finD m.fin, .non :: m.pcs.hd.reverse, m.bot.d :: m.pcs.fd.reverse, m.kept, m.most⟩
theorem sk_ret {C a dx lp lh lf : Addr} {R H R1 H1 : Hp} {s : Sk} {ext : List (Str × V)} {d1 d2 : D} {v1 v2 : V} {Q : VK} (hs : SkAt C R1 H1 s a dx lp lh lf ext) (m : Mv (Fsk a lp lh lf) R H R1 H1)
    (q : SkOut C R H s a dx lp lh lf ext fun R' H' => ∀ u, At R' (.tup [d1, d2]) u → Q u H') (a1 : At R1 d1 v1) (a2 : At R1 d2 v2) : [v1, v2].length ≤ sizeLine ∧ ∀ p, H1 p = none → Q (.ref p) (upd H1 p (.tup [v1, v2])) :=
  ⟨(by show 2 ≤ sizeLine; decide), fun p n => q _ _ (hs.new m.sub n) (m.tr (mv_new m.sub n)) _ (.ntup m.sub n ⟨_, _, rfl, a1, _, _, rfl, a2, rfl⟩)⟩
theorem dst_mut {F : Addr → Prop} {R1 H1 R2 H2 : Hp} {d e : Addr} {kvs more : List (Key × V)} {fin : List (Key × V)} (sub : Same R1 H1) (nd : H1 d = none) (ne : (upd (upd H1 d (.dK [])) d (.dK kvs)) e = none)
    (m : Mv F R1 (upd (upd (upd H1 d (.dK [])) d (.dK kvs)) e (.dK [])) R2 H2) (he : H2 e = some (.dK [])) (hd : H2 d = some (.dK kvs)) :
    Mv F R1 H1 (upd R2 d (.dK fin)) (upd (upd H2 e (.dK more)) d (.dK fin)) ∧ R2 d = none ∧ d ≠ e := by
  have nde : d ≠ e := fun z => by rw [← z, upd_same] at ne; cases ne
  have ne1 : H1 e = none := by rw [upd_ne (Ne.symm nde), upd_ne (Ne.symm nde)] at ne; exact ne
  have ma : Mv F0 R1 H1 R1 (upd (upd H1 d (.dK [])) d (.dK kvs)) := by rw [upd_twice]; exact mv_mut sub nd
  have mb := ma.tr (mv_mut (o := .dK []) ma.sub ne)
  have r1d : R1 d = none := sub.free nd
  have r1e : R1 e = none := sub.free ne1
  have r2d : R2 d = none := m.out (o := .dK kvs) r1d (by rw [upd_ne nde, upd_same])
  have r2e : R2 e = none := m.out (o := .dK []) r1e upd_same
  have m2 : Mv F R1 H1 R2 H2 := mb.trans m (fun _ f => f.elim) fun _ f => .inl f
  have m3 : Mv F R1 H1 R2 (upd H2 e (.dK more)) := m2.trans (mv_at (F := fun x => x = e) m2.sub r2e he rfl) (fun _ f => f) fun x f => .inr (by rw [f]; exact ne1)
  have hd3 : (upd H2 e (.dK more)) d = some (.dK kvs) := by rw [upd_ne nde]; exact hd
  have m4 : Mv F R1 H1 R2 (upd (upd H2 e (.dK more)) d (.dK fin)) := m3.trans (mv_at (F := fun x => x = d) m3.sub r2d hd3 rfl) (fun _ f => f) fun x f => .inr (by rw [f]; exact nd)
  exact ⟨mv_freeze m4 upd_same r2d nd, r2d, nde⟩
theorem dst_pure {R1 H1 : Hp} {d e : Addr} {kvs more fin : List (Key × V)} (sub : Same R1 H1) (nd : H1 d = none) (ne : (upd (upd H1 d (.dK [])) d (.dK kvs)) e = none) :
    Mv F0 R1 H1 (upd R1 d (.dK fin)) (upd (upd (upd (upd (upd H1 d (.dK [])) d (.dK kvs)) e (.dK [])) e (.dK more)) d (.dK fin)) := by
  have nde : d ≠ e := fun z => by rw [← z, upd_same] at ne; cases ne
  have ma : Mv F0 R1 H1 R1 (upd (upd H1 d (.dK [])) d (.dK kvs)) := by rw [upd_twice]; exact mv_mut sub nd
  have mb := ma.tr (mv_mut (o := .dK []) ma.sub ne)
  exact (dst_mut (F := F0) sub nd ne (.refl mb.sub) upd_same (by rw [upd_ne nde, upd_same])).1
/-- what a rule promises -/
def spR (ok : Ex → Prop) (C : Addr) : Sp := fun vs H Q _ => ∃ (a dx lp lh lf : Addr) (ext : List (Str × V)) (R : Hp) (m : Ms) (e : Ex) (env : Env) (ws : Vls) (ve vn vv : V) (r : Rz), vs = [.ref a, ve, vn, vv] ∧ Same R H ∧ SkAt C R H (msk m) a dx lp lh lf ext ∧
  At R (e.d true) ve ∧ At R env.d vn ∧ At R (.tup ws.ds) vv ∧ ok e ∧ ruleM m e env ws = some r ∧ SkOut C R H (msk r.1) a dx lp lh lf ext fun R' H' => ∀ u, At R' (.tup [r.2.1.d, r.2.2.d]) u → Q u H'
theorem ent {R H : Hp} {env : Env} {pn : Addr} {vs : List V} (sub : Same R H) (h : R pn = some (.dK (kz env.keys vs))) (a : Ats R env.ds vs) (len : env.len ≤ 900) {d : Addr} (nd : H d = none) :
    (upd H d (.dK [])) pn = some (.dK (kz env.keys vs)) ∧ pn ≠ d ∧ (kz env.keys vs).length ≤ 1000 := by
  have hp := sub _ _ h
  have n := ne_of_none hp nd
  refine ⟨by rw [upd_ne n]; exact hp, n, ?_⟩
  rw [kz_len (by rw [a.length, Env.len_ds, Env.len_keys]), Env.len_keys]
  omega
section
variable {P : Program} {w : World} {K : PySem.W.Frag} {mg : Str → Option Value} {base : Heap}
abbrev g_literal_rule : Stmt := topS 24
abbrev n_literal_rule : List Str := ["machine", "expression", "bindings", "values"]
abbrev p_literal_rule : List Str := ["machine", "expression", "bindings", "values"]
theorem sc_literal_rule : FnScope n_literal_rule p_literal_rule (defScope g_literal_rule) := ⟨rfl, rfl, rfl, by decide +kernel, rfl, by decide +kernel, by decide +kernel⟩
def isLit : Ex → Prop
  | .num _ => True
  | .flag _ => True
  | .unit => True
  | _ => False
theorem ok_literal_rule {f C : Addr} {fd : FuncData}  (F : Fun K "literal_rule" "literal_rule" g_literal_rule f fd) : FnOk P w K mg base CX0 1 f fd p_literal_rule (spR isLit C) := by
  refine F.ok sc_literal_rule (fun vs H Q E h => ?_) (fun cdv A outer st H vs Q E hr h => ?_)
  · obtain ⟨a, dx, lp, lh, lf, ext, R, m, e, env, ws, ve, vn, vv, r, rfl, _⟩ := h
    rfl
  · obtain ⟨a, dx, lp, lh, lf, ext, R, m, e, env, ws, ve, vn, vv, r, rfl, sub, hs, he, hn, hv, ok, hm, q⟩ := h
    have hu := hu_of hr
    refine ⟨_, (pss_one (ps_ret (pe_tup (pa_cons (pe_tup (pa_cons (pe_str) (pa_cons (pv 1) pa_nil))) (pa_cons (pv 2) pa_nil))))), ?_⟩
    cases e with
    | num n =>
      obtain ⟨_, h1, h2⟩ := Option.map_eq_some_iff.mp hm
      subst h2
      have he' := he
      obtain ⟨pe, er, rfl, hpe⟩ := ex_head he
      refine ⟨_, rfl, by show 2 ≤ sizeLine; decide, fun p np => ?_⟩
      have hs1 := hs.new (o := .tup [.str "known", .ref pe]) sub np
      have m1 : Mv (Fsk a lp lh lf) R H _ _ := mv_new (o := .tup [.str "known", .ref pe]) sub np
      refine ⟨_, rfl, ?_⟩
      exact sk_ret hs1 m1 q (.ntup (l := [.str "known", (Val.d (.num n))]) sub np ⟨_, _, rfl, rfl, _, _, rfl, he', rfl⟩) (hn.up m1.up)
    | flag b =>
      obtain ⟨_, h1, h2⟩ := Option.map_eq_some_iff.mp hm
      subst h2
      have he' := he
      obtain ⟨pe, er, rfl, hpe⟩ := ex_head he
      refine ⟨_, rfl, by show 2 ≤ sizeLine; decide, fun p np => ?_⟩
      have hs1 := hs.new (o := .tup [.str "known", .ref pe]) sub np
      have m1 : Mv (Fsk a lp lh lf) R H _ _ := mv_new (o := .tup [.str "known", .ref pe]) sub np
      refine ⟨_, rfl, ?_⟩
      exact sk_ret hs1 m1 q (.ntup (l := [.str "known", (Val.d (.flag b))]) sub np ⟨_, _, rfl, rfl, _, _, rfl, he', rfl⟩) (hn.up m1.up)
    | unit  =>
      obtain ⟨_, h1, h2⟩ := Option.map_eq_some_iff.mp hm
      subst h2
      have he' := he
      obtain ⟨pe, er, rfl, hpe⟩ := ex_head he
      refine ⟨_, rfl, by show 2 ≤ sizeLine; decide, fun p np => ?_⟩
      have hs1 := hs.new (o := .tup [.str "known", .ref pe]) sub np
      have m1 : Mv (Fsk a lp lh lf) R H _ _ := mv_new (o := .tup [.str "known", .ref pe]) sub np
      refine ⟨_, rfl, ?_⟩
      exact sk_ret hs1 m1 q (.ntup (l := [.str "known", (Val.d (.unit))]) sub np ⟨_, _, rfl, rfl, _, _, rfl, he', rfl⟩) (hn.up m1.up)
    | _ => exact ok.elim
abbrev g_name_rule : Stmt := topS 25
abbrev n_name_rule : List Str := ["machine", "expression", "bindings", "values"]
abbrev p_name_rule : List Str := ["machine", "expression", "bindings", "values"]
theorem sc_name_rule : FnScope n_name_rule p_name_rule (defScope g_name_rule) := ⟨rfl, rfl, rfl, by decide +kernel, rfl, by decide +kernel, by decide +kernel⟩
def isName : Ex → Prop
  | .name _ => True
  | _ => False
theorem ok_name_rule {f C : Addr} {fd : FuncData}  (F : Fun K "name_rule" "name_rule" g_name_rule f fd) : FnOk P w K mg base CX0 1 f fd p_name_rule (spR isName C) := by
  refine F.ok sc_name_rule (fun vs H Q E h => ?_) (fun cdv A outer st H vs Q E hr h => ?_)
  · obtain ⟨a, dx, lp, lh, lf, ext, R, m, e, env, ws, ve, vn, vv, r, rfl, _⟩ := h
    rfl
  · obtain ⟨a, dx, lp, lh, lf, ext, R, m, e, env, ws, ve, vn, vv, r, rfl, sub, hs, he, hn, hv, ok, hm, q⟩ := h
    have hu := hu_of hr
    refine ⟨_, (pss_one (ps_ret (pe_tup (pa_cons (pe_tup (pa_cons (pe_str) (pa_cons (pe_dget hu (pv 2) (pe_ix ix_tup (pv 1) (pe_int) (fun _ _ => rfl)) (fun _ _ => rfl)) pa_nil))) (pa_cons (pv 2) pa_nil))))), ?_⟩
    cases e with
    | name x =>
      obtain ⟨_, h1, hm⟩ := Option.bind_eq_some_iff.mp hm
      obtain ⟨v, h2, h3⟩ := Option.map_eq_some_iff.mp hm
      subst h3
      obtain ⟨pe, _, rfl, hpe, _, _, rfl, rfl, _, _, rfl, rfl, rfl⟩ := he
      have hn' := hn
      obtain ⟨pn, nvs, rfl, hpn, ans, _, _⟩ := hn
      obtain ⟨u, e1, au⟩ := env_get h2 ans
      have dg : DGet H pn (.str x) (some u) := by
        rw [← e1]
        exact DGet.k (k := (Sum.inr x : Key)) (sub _ _ hpn)
      refine ⟨_, rfl, _, rfl, pe, _, 1, _, rfl, rfl, SqT.of (sub _ _ hpe), rfl, pn, _, rfl, dg, by show 2 ≤ sizeLine; decide, fun p n => ?_⟩
      have hs1 := hs.new (o := .tup [.str "known", u]) sub n
      have m1 : Mv (Fsk a lp lh lf) R H _ _ := mv_new (o := .tup [.str "known", u]) sub n
      refine ⟨_, rfl, ?_⟩
      exact sk_ret hs1 m1 q (.ntup (l := [.str "known", v.d]) sub n ⟨_, _, rfl, rfl, _, _, rfl, au, rfl⟩) (hn'.up m1.up)
    | _ => exact ok.elim
abbrev g_let_rule : Stmt := topS 28
abbrev n_let_rule : List Str := ["machine", "expression", "bindings", "values"]
abbrev p_let_rule : List Str := ["machine", "expression", "bindings", "values"]
theorem sc_let_rule : FnScope n_let_rule p_let_rule (defScope g_let_rule) := ⟨rfl, rfl, rfl, by decide +kernel, rfl, by decide +kernel, by decide +kernel⟩
def isLet : Ex → Prop
  | .lt _ _ _ => True
  | _ => False
theorem ok_let_rule {f C : Addr} {fd : FuncData}  (F : Fun K "let_rule" "let_rule" g_let_rule f fd) : FnOk P w K mg base CX0 1 f fd p_let_rule (spR isLet C) := by
  refine F.ok sc_let_rule (fun vs H Q E h => ?_) (fun cdv A outer st H vs Q E hr h => ?_)
  · obtain ⟨a, dx, lp, lh, lf, ext, R, m, e, env, ws, ve, vn, vv, r, rfl, _⟩ := h
    rfl
  · obtain ⟨a, dx, lp, lh, lf, ext, R, m, e, env, ws, ve, vn, vv, r, rfl, sub, hs, he, hn, hv, ok, hm, q⟩ := h
    have hu := hu_of hr
    refine ⟨_, (pss_one (ps_ret (pe_tup (pa_cons (pe_ix ix_tup (pv 1) (pe_int) (fun _ _ => rfl)) (pa_cons (Rd.pe_dstar (pv 2) (pps_cons (pe_ix ix_tup (pv 1) (pe_int) (fun _ _ => rfl)) (pe_ix ix_tup (pv 3) (pe_int) (fun _ _ => rfl)) pps_nil) (by rfl) (by rfl) (fun z => by cases z) (by decide)) pa_nil))))), ?_⟩
    cases e with
    | lt x e1 b =>
      obtain ⟨v, h1, hm⟩ := Option.bind_eq_some_iff.mp hm
      obtain ⟨en, h2, h3⟩ := Option.map_eq_some_iff.mp hm
      subst h3
      obtain ⟨hlen, rfl⟩ := putG_of h2
      rw [v1_of h1] at hv
      obtain ⟨pv_, _, rfl, hpv, u, _, rfl, au, rfl⟩ := hv
      obtain ⟨pe, _, rfl, hpe, _, _, rfl, rfl, _, _, rfl, rfl, v1, _, rfl, a1, v2, _, rfl, a2, rfl⟩ := he
      obtain ⟨pn, nvs, rfl, hpn, ans, nl, nn⟩ := hn
      refine ⟨_, rfl, pe, _, 3, _, rfl, rfl, SqT.of (sub _ _ hpe), rfl, fun d nd => ?_⟩
      obtain ⟨k1, k2, k3⟩ := ent sub hpn ans hlen nd
      refine ⟨_, rfl, pn, _, rfl, k1, k2, upd_same, k3, fun e2 ne => ?_⟩
      have nde : d ≠ e2 := fun z => by rw [← z, upd_same] at ne; cases ne
      have ma : Mv F0 R H R (upd (upd H d (.dK [])) d (.dK (kz env.keys nvs))) := by rw [upd_twice]; exact mv_mut sub nd
      have mb := ma.tr (mv_mut (o := .dK []) ma.sub ne)
      refine ⟨_, rfl, pe, _, 1, _, rfl, rfl, SqT.of (mb.sub _ _ hpe), rfl, _, rfl, pv_, _, 0, _, rfl, rfl, SqT.of (mb.sub _ _ hpv), rfl, ?_⟩
      refine ⟨upd_same, (by rw [upd_ne nde, upd_same]), [((Sum.inr x : Key), u)], rfl, (by show 1 ≤ 15; decide), ?_⟩
      obtain ⟨ws2, ew, aw⟩ := env_put au nn ans
      rw [merge1, ew]
      have mf : Mv F0 R H _ _ := dst_pure (more := mergeK [] [((Sum.inr x : Key), u)]) (fin := kz (env.put x v).keys ws2) sub nd ne
      exact sk_ret (hs.up0 mf) (mf.mono fun _ f => f.elim) q (a2.up mf.up) ⟨d, ws2, rfl, upd_same, aw.up mf.up, by rw [Env.len_keys, Env.len_ds], Env.put_nd nn⟩
    | _ => exact ok.elim
abbrev g_choice_rule : Stmt := topS 29
abbrev n_choice_rule : List Str := ["machine", "expression", "bindings", "values", "branch"]
abbrev p_choice_rule : List Str := ["machine", "expression", "bindings", "values"]
theorem sc_choice_rule : FnScope n_choice_rule p_choice_rule (defScope g_choice_rule) := ⟨rfl, rfl, rfl, by decide +kernel, rfl, by decide +kernel, by decide +kernel⟩
def isIte : Ex → Prop
  | .ite _ _ _ => True
  | _ => False
theorem ok_choice_rule {f C : Addr} {fd : FuncData}  (F : Fun K "choice_rule" "choice_rule" g_choice_rule f fd) : FnOk P w K mg base CX0 1 f fd p_choice_rule (spR isIte C) := by
  refine F.ok sc_choice_rule (fun vs H Q E h => ?_) (fun cdv A outer st H vs Q E hr h => ?_)
  · obtain ⟨a, dx, lp, lh, lf, ext, R, m, e, env, ws, ve, vn, vv, r, rfl, _⟩ := h
    rfl
  · obtain ⟨a, dx, lp, lh, lf, ext, R, m, e, env, ws, ve, vn, vv, r, rfl, sub, hs, he, hn, hv, ok, hm, q⟩ := h
    have hu := hu_of hr
    refine ⟨_, (pss_cons (ps_set (i := 4) sc_choice_rule.nd rfl (Or.inl rfl) (pe_ifExp (pt_val (pe_ix ix_tup (pe_ix ix_tup (pv 3) (pe_int) (fun _ _ => rfl)) (pe_int) (fun _ _ => rfl))) (pe_ix ix_tup (pv 1) (pe_int) (fun _ _ => rfl)) (pe_ix ix_tup (pv 1) (pe_int) (fun _ _ => rfl))))
      (pss_one (ps_ret (pe_tup (pa_cons (pv 4) (pa_cons (pv 2) pa_nil)))))), ?_⟩
    cases e with
    | ite e1 f g =>
      obtain ⟨v, h1, hm⟩ := Option.bind_eq_some_iff.mp hm
      obtain ⟨c, h2, h3⟩ := Option.map_eq_some_iff.mp hm
      subst h3
      rw [v1_of h1, vFlag_of h2] at hv
      obtain ⟨pv_, _, rfl, hpv, _, _, rfl, ⟨pc, _, rfl, hpc, _, _, rfl, rfl, _, _, rfl, rfl, rfl⟩, rfl⟩ := hv
      obtain ⟨pe, _, rfl, hpe, _, _, rfl, rfl, v1, _, rfl, a1, v2, _, rfl, a2, v3, _, rfl, a3, rfl⟩ := he
      have hpe := sub _ _ hpe
      refine ⟨_, rfl, pv_, _, 0, _, rfl, rfl, SqT.of (sub _ _ hpv), rfl, pc, _, 1, _, rfl, rfl, SqT.of (sub _ _ hpc), rfl, c, rfl, ?_⟩
      cases c with
      | true =>
        refine iteT ?_
        refine ⟨_, rfl, pe, _, 2, _, rfl, rfl, SqT.of hpe, rfl, _, rfl, _, rfl, ?_⟩
        exact sk_ret hs (.refl sub) q a2 hn
      | false =>
        refine iteF ?_
        refine ⟨_, rfl, pe, _, 3, _, rfl, rfl, SqT.of hpe, rfl, _, rfl, _, rfl, ?_⟩
        exact sk_ret hs (.refl sub) q a3 hn
    | _ => exact ok.elim
abbrev g_pair_rule : Stmt := topS 30
abbrev n_pair_rule : List Str := ["machine", "expression", "bindings", "values", "first", "second"]
abbrev p_pair_rule : List Str := ["machine", "expression", "bindings", "values"]
theorem sc_pair_rule : FnScope n_pair_rule p_pair_rule (defScope g_pair_rule) := ⟨rfl, rfl, rfl, by decide +kernel, rfl, by decide +kernel, by decide +kernel⟩
def isPair : Ex → Prop
  | .pair _ _ => True
  | _ => False
theorem ok_pair_rule {f C : Addr} {fd : FuncData}  (F : Fun K "pair_rule" "pair_rule" g_pair_rule f fd) : FnOk P w K mg base CX0 1 f fd p_pair_rule (spR isPair C) := by
  refine F.ok sc_pair_rule (fun vs H Q E h => ?_) (fun cdv A outer st H vs Q E hr h => ?_)
  · obtain ⟨a, dx, lp, lh, lf, ext, R, m, e, env, ws, ve, vn, vv, r, rfl, _⟩ := h
    rfl
  · obtain ⟨a, dx, lp, lh, lf, ext, R, m, e, env, ws, ve, vn, vv, r, rfl, sub, hs, he, hn, hv, ok, hm, q⟩ := h
    have hu := hu_of hr
    refine ⟨_, (pss_cons (ps_asg (pv 3) (pg_tup rfl (pgs_cons (pg_name (i := 4) sc_pair_rule.nd rfl (Or.inl rfl)) (pgs_cons (pg_name (i := 5) sc_pair_rule.nd rfl (Or.inl rfl)) pgs_nil))))
      (pss_one (ps_ret (pe_tup (pa_cons (pe_tup (pa_cons (pe_str) (pa_cons (pe_tup (pa_cons (pe_str) (pa_cons (pv 4) (pa_cons (pv 5) pa_nil)))) pa_nil))) (pa_cons (pv 2) pa_nil)))))), ?_⟩
    cases e with
    | pair e1 e2 =>
      obtain ⟨p2, h1, h3⟩ := Option.map_eq_some_iff.mp hm
      subst h3
      rw [v2_of h1] at hv
      obtain ⟨pv_, _, rfl, hpv, u, _, rfl, au, z, _, rfl, az, rfl⟩ := hv
      refine ⟨_, rfl, pv_, _, rfl, SqT.of (sub _ _ hpv), rfl, _, _, rfl, _, _, rfl, rfl, ?_⟩
      refine ⟨_, rfl, _, rfl, by show 3 ≤ sizeLine; decide, fun p n => ?_⟩
      have m1 : Mv F0 R H _ _ := mv_new (o := .tup [.str "pair", u, z]) sub n
      have a1 : At _ (Val.pair p2.1 p2.2).d (.ref p) := .ntup (l := [.str "pair", p2.1.d, p2.2.d]) sub n ⟨_, _, rfl, rfl, _, _, rfl, au, _, _, rfl, az, rfl⟩
      refine ⟨by show 2 ≤ sizeLine; decide, fun p3 n3 => ?_⟩
      have m2 := m1.tr (mv_new (o := .tup [.str "known", .ref p]) m1.sub n3)
      refine ⟨_, rfl, ?_⟩
      exact sk_ret (hs.up0 m2) (m2.mono fun _ f => f.elim) q (.ntup (l := [.str "known", (Val.pair p2.1 p2.2).d]) m1.sub n3 ⟨_, _, rfl, rfl, _, _, rfl, a1, rfl⟩) (hn.up m2.up)
    | _ => exact ok.elim
abbrev g_first_rule : Stmt := topS 31
abbrev n_first_rule : List Str := ["machine", "expression", "bindings", "values"]
abbrev p_first_rule : List Str := ["machine", "expression", "bindings", "values"]
theorem sc_first_rule : FnScope n_first_rule p_first_rule (defScope g_first_rule) := ⟨rfl, rfl, rfl, by decide +kernel, rfl, by decide +kernel, by decide +kernel⟩
def isFst : Ex → Prop
  | .fst _ => True
  | _ => False
theorem ok_first_rule {f C : Addr} {fd : FuncData}  (F : Fun K "first_rule" "first_rule" g_first_rule f fd) : FnOk P w K mg base CX0 1 f fd p_first_rule (spR isFst C) := by
  refine F.ok sc_first_rule (fun vs H Q E h => ?_) (fun cdv A outer st H vs Q E hr h => ?_)
  · obtain ⟨a, dx, lp, lh, lf, ext, R, m, e, env, ws, ve, vn, vv, r, rfl, _⟩ := h
    rfl
  · obtain ⟨a, dx, lp, lh, lf, ext, R, m, e, env, ws, ve, vn, vv, r, rfl, sub, hs, he, hn, hv, ok, hm, q⟩ := h
    have hu := hu_of hr
    refine ⟨_, (pss_one (ps_ret (pe_tup (pa_cons (pe_tup (pa_cons (pe_str) (pa_cons (pe_ix ix_tup (pe_ix ix_tup (pv 3) (pe_int) (fun _ _ => rfl)) (pe_int) (fun _ _ => rfl)) pa_nil))) (pa_cons (pv 2) pa_nil))))), ?_⟩
    cases e with
    | fst e1 =>
      obtain ⟨v, h1, hm⟩ := Option.bind_eq_some_iff.mp hm
      obtain ⟨c, h2, h3⟩ := Option.map_eq_some_iff.mp hm
      subst h3
      rw [v1_of h1, vPair_of h2] at hv
      obtain ⟨pv_, _, rfl, hpv, _, _, rfl, ⟨pc, _, rfl, hpc, _, _, rfl, rfl, u1, _, rfl, a1, u2, _, rfl, a2, rfl⟩, rfl⟩ := hv
      refine ⟨_, rfl, pv_, _, 0, _, rfl, rfl, SqT.of (sub _ _ hpv), rfl, pc, _, 1, _, rfl, rfl, SqT.of (sub _ _ hpc), rfl, by show 2 ≤ sizeLine; decide, fun p n => ?_⟩
      have m1 : Mv F0 R H _ _ := mv_new (o := .tup [.str "known", u1]) sub n
      refine ⟨_, rfl, ?_⟩
      exact sk_ret (hs.up0 m1) (m1.mono fun _ f => f.elim) q (.ntup (l := [.str "known", c.1.d]) sub n ⟨_, _, rfl, rfl, _, _, rfl, a1, rfl⟩) (hn.up m1.up)
    | _ => exact ok.elim
abbrev g_second_rule : Stmt := topS 32
abbrev n_second_rule : List Str := ["machine", "expression", "bindings", "values"]
abbrev p_second_rule : List Str := ["machine", "expression", "bindings", "values"]
theorem sc_second_rule : FnScope n_second_rule p_second_rule (defScope g_second_rule) := ⟨rfl, rfl, rfl, by decide +kernel, rfl, by decide +kernel, by decide +kernel⟩
def isSnd : Ex → Prop
  | .snd _ => True
  | _ => False
theorem ok_second_rule {f C : Addr} {fd : FuncData}  (F : Fun K "second_rule" "second_rule" g_second_rule f fd) : FnOk P w K mg base CX0 1 f fd p_second_rule (spR isSnd C) := by
  refine F.ok sc_second_rule (fun vs H Q E h => ?_) (fun cdv A outer st H vs Q E hr h => ?_)
  · obtain ⟨a, dx, lp, lh, lf, ext, R, m, e, env, ws, ve, vn, vv, r, rfl, _⟩ := h
    rfl
  · obtain ⟨a, dx, lp, lh, lf, ext, R, m, e, env, ws, ve, vn, vv, r, rfl, sub, hs, he, hn, hv, ok, hm, q⟩ := h
    have hu := hu_of hr
    refine ⟨_, (pss_one (ps_ret (pe_tup (pa_cons (pe_tup (pa_cons (pe_str) (pa_cons (pe_ix ix_tup (pe_ix ix_tup (pv 3) (pe_int) (fun _ _ => rfl)) (pe_int) (fun _ _ => rfl)) pa_nil))) (pa_cons (pv 2) pa_nil))))), ?_⟩
    cases e with
    | snd e1 =>
      obtain ⟨v, h1, hm⟩ := Option.bind_eq_some_iff.mp hm
      obtain ⟨c, h2, h3⟩ := Option.map_eq_some_iff.mp hm
      subst h3
      rw [v1_of h1, vPair_of h2] at hv
      obtain ⟨pv_, _, rfl, hpv, _, _, rfl, ⟨pc, _, rfl, hpc, _, _, rfl, rfl, u1, _, rfl, a1, u2, _, rfl, a2, rfl⟩, rfl⟩ := hv
      refine ⟨_, rfl, pv_, _, 0, _, rfl, rfl, SqT.of (sub _ _ hpv), rfl, pc, _, 2, _, rfl, rfl, SqT.of (sub _ _ hpc), rfl, by show 2 ≤ sizeLine; decide, fun p n => ?_⟩
      have m1 : Mv F0 R H _ _ := mv_new (o := .tup [.str "known", u2]) sub n
      refine ⟨_, rfl, ?_⟩
      exact sk_ret (hs.up0 m1) (m1.mono fun _ f => f.elim) q (.ntup (l := [.str "known", c.2.d]) sub n ⟨_, _, rfl, rfl, _, _, rfl, a2, rfl⟩) (hn.up m1.up)
    | _ => exact ok.elim
abbrev g_operator_rule : Stmt := topS 33
abbrev n_operator_rule : List Str := ["machine", "expression", "bindings", "values", "left", "right"]
abbrev p_operator_rule : List Str := ["machine", "expression", "bindings", "values"]
theorem sc_operator_rule : FnScope n_operator_rule p_operator_rule (defScope g_operator_rule) := ⟨rfl, rfl, rfl, by decide +kernel, rfl, by decide +kernel, by decide +kernel⟩
def isOp : Ex → Prop
  | .op _ _ _ => True
  | _ => False
theorem ok_operator_rule {f C : Addr} {fd : FuncData} {fO : Addr} {fdO : FuncData} (GO : Fn P w K mg base CX0 2 "operated" p_operated spOperated fO fdO) (F : Fun K "operator_rule" "operator_rule" g_operator_rule f fd) : FnOk P w K mg base CX0 3 f fd p_operator_rule (spR isOp C) := by
  refine F.ok sc_operator_rule (fun vs H Q E h => ?_) (fun cdv A outer st H vs Q E hr h => ?_)
  · obtain ⟨a, dx, lp, lh, lf, ext, R, m, e, env, ws, ve, vn, vv, r, rfl, _⟩ := h
    rfl
  · obtain ⟨a, dx, lp, lh, lf, ext, R, m, e, env, ws, ve, vn, vv, r, rfl, sub, hs, he, hn, hv, ok, hm, q⟩ := h
    have hu := hu_of hr
    refine ⟨_, (pss_cons (ps_asg (pv 3) (pg_tup rfl (pgs_cons (pg_name (i := 4) sc_operator_rule.nd rfl (Or.inl rfl)) (pgs_cons (pg_name (i := 5) sc_operator_rule.nd rfl (Or.inl rfl)) pgs_nil))))
      (pss_one (ps_ret (pe_tup (pa_cons (pe_tup (pa_cons (pe_str) (pa_cons (pe_call GO.ok hr (by rfl) GO.g GO.kp GO.b .nil pass0 (pa_cons (pe_ix ix_tup (pv 1) (pe_int) (fun _ _ => rfl)) (pa_cons (pv 4) (pa_cons (pv 5) pa_nil)))) pa_nil))) (pa_cons (pv 2) pa_nil)))))), ?_⟩
    cases e with
    | op s e1 e2 =>
      obtain ⟨p2, h1, hm⟩ := Option.bind_eq_some_iff.mp hm
      obtain ⟨x, h2, hm⟩ := Option.bind_eq_some_iff.mp hm
      obtain ⟨y, h3, hm⟩ := Option.bind_eq_some_iff.mp hm
      by_cases hin : (inRb x && inRb y) = true
      · rw [if_pos hin] at hm
        cases hm
        rw [Bool.and_eq_true] at hin
        obtain ⟨i1, i2⟩ := hin
        rw [Bool.and_eq_true, decide_eq_true_eq, decide_eq_true_eq] at i1 i2
        rw [v2_of h1, vNum_of h2, vNum_of h3] at hv
        obtain ⟨pv_, _, rfl, hpv, u, _, rfl, au, z, _, rfl, az, rfl⟩ := hv
        obtain ⟨pe, _, rfl, hpe, _, _, rfl, rfl, _, _, rfl, rfl, w1, _, rfl, a1, w2, _, rfl, a2, rfl⟩ := he
        refine ⟨_, rfl, pv_, _, rfl, SqT.of (sub _ _ hpv), rfl, _, _, rfl, _, _, rfl, rfl, ?_⟩
        refine ⟨_, rfl, pe, _, 1, _, rfl, rfl, SqT.of (sub _ _ hpe), rfl, _, rfl, _, rfl, ?_⟩
        refine ⟨R, s, x, y, u, z, rfl, sub, au, az, i1, i2, fun R1 H1 o m1 ao => ?_⟩
        refine ⟨by show 2 ≤ sizeLine; decide, fun p3 n3 => ?_⟩
        have m2 := m1.tr (mv_new (o := .tup [.str "known", o]) m1.sub n3)
        refine ⟨_, rfl, ?_⟩
        exact sk_ret (hs.up0 m2) (m2.mono fun _ f => f.elim) q (.ntup (l := [.str "known", (oper s x y).d]) m1.sub n3 ⟨_, _, rfl, rfl, _, _, rfl, ao, rfl⟩) (hn.up m2.up)
      · rw [if_neg hin] at hm
        cases hm
    | _ => exact ok.elim
abbrev g_not_rule : Stmt := topS 34
abbrev n_not_rule : List Str := ["machine", "expression", "bindings", "values"]
abbrev p_not_rule : List Str := ["machine", "expression", "bindings", "values"]
theorem sc_not_rule : FnScope n_not_rule p_not_rule (defScope g_not_rule) := ⟨rfl, rfl, rfl, by decide +kernel, rfl, by decide +kernel, by decide +kernel⟩
def isNot : Ex → Prop
  | .nt _ => True
  | _ => False
theorem ok_not_rule {f C : Addr} {fd : FuncData} {fN : Addr} {fdN : FuncData} (GN : Fn P w K mg base CX0 1 "negated" p_negated spNegated fN fdN) (F : Fun K "not_rule" "not_rule" g_not_rule f fd) : FnOk P w K mg base CX0 2 f fd p_not_rule (spR isNot C) := by
  refine F.ok sc_not_rule (fun vs H Q E h => ?_) (fun cdv A outer st H vs Q E hr h => ?_)
  · obtain ⟨a, dx, lp, lh, lf, ext, R, m, e, env, ws, ve, vn, vv, r, rfl, _⟩ := h
    rfl
  · obtain ⟨a, dx, lp, lh, lf, ext, R, m, e, env, ws, ve, vn, vv, r, rfl, sub, hs, he, hn, hv, ok, hm, q⟩ := h
    have hu := hu_of hr
    refine ⟨_, (pss_one (ps_ret (pe_tup (pa_cons (pe_tup (pa_cons (pe_str) (pa_cons (pe_call GN.ok hr (by rfl) GN.g GN.kp GN.b .nil pass0 (pa_cons (pe_ix ix_tup (pv 3) (pe_int) (fun _ _ => rfl)) pa_nil)) pa_nil))) (pa_cons (pv 2) pa_nil))))), ?_⟩
    cases e with
    | nt e1 =>
      obtain ⟨v, h1, hm⟩ := Option.bind_eq_some_iff.mp hm
      obtain ⟨c, h2, h3⟩ := Option.map_eq_some_iff.mp hm
      subst h3
      rw [v1_of h1, vFlag_of h2] at hv
      obtain ⟨pv_, _, rfl, hpv, u, _, rfl, au, rfl⟩ := hv
      refine ⟨_, rfl, pv_, _, 0, _, rfl, rfl, SqT.of (sub _ _ hpv), rfl, ?_⟩
      refine ⟨R, c, u, rfl, sub, au, fun R1 H1 o m1 ao => ?_⟩
      refine ⟨by show 2 ≤ sizeLine; decide, fun p3 n3 => ?_⟩
      have m2 := m1.tr (mv_new (o := .tup [.str "known", o]) m1.sub n3)
      refine ⟨_, rfl, ?_⟩
      exact sk_ret (hs.up0 m2) (m2.mono fun _ f => f.elim) q (.ntup (l := [.str "known", (Val.flag (!c)).d]) m1.sub n3 ⟨_, _, rfl, rfl, _, _, rfl, ao, rfl⟩) (hn.up m2.up)
    | _ => exact ok.elim
abbrev g_print_rule : Stmt := topS 35
abbrev n_print_rule : List Str := ["machine", "expression", "bindings", "values"]
abbrev p_print_rule : List Str := ["machine", "expression", "bindings", "values"]
theorem sc_print_rule : FnScope n_print_rule p_print_rule (defScope g_print_rule) := ⟨rfl, rfl, rfl, by decide +kernel, rfl, by decide +kernel, by decide +kernel⟩
def isPrint : Ex → Prop
  | .pr _ _ => True
  | _ => False
theorem ok_print_rule {f C : Addr} {fd : FuncData} (T : SkTxt K C) (F : Fun K "print_rule" "print_rule" g_print_rule f fd) : FnOk P w K mg base CX0 1 f fd p_print_rule (spR isPrint C) := by
  refine F.ok sc_print_rule (fun vs H Q E h => ?_) (fun cdv A outer st H vs Q E hr h => ?_)
  · obtain ⟨a, dx, lp, lh, lf, ext, R, m, e, env, ws, ve, vn, vv, r, rfl, _⟩ := h
    rfl
  · obtain ⟨a, dx, lp, lh, lf, ext, R, m, e, env, ws, ve, vn, vv, r, rfl, sub, hs, he, hn, hv, ok, hm, q⟩ := h
    have hu := hu_of hr
    refine ⟨_, (pss_cons (ps_expr (pe_bm PySem.F.plainAttrs_list PySem.F.slot_list_append PySem.F.type_list_append mt_append (pe_fld (pv 0) rfl) (pa_cons (pe_ix ix_tup (pe_ix ix_tup (pv 3) (pe_int) (fun _ _ => rfl)) (pe_int) (fun _ _ => rfl)) pa_nil)))
      (pss_one (ps_ret (pe_tup (pa_cons (pe_ix ix_tup (pv 1) (pe_int) (fun _ _ => rfl)) (pa_cons (pv 2) pa_nil)))))), ?_⟩
    cases e with
    | pr e1 g =>
      obtain ⟨v, h1, hm⟩ := Option.bind_eq_some_iff.mp hm
      obtain ⟨c, h2, hm⟩ := Option.bind_eq_some_iff.mp hm
      by_cases hl : m.prints.length ≤ 900000
      · rw [if_pos hl] at hm
        cases hm
        rw [v1_of h1, vNum_of h2] at hv
        obtain ⟨pv_, _, rfl, hpv, _, _, rfl, ⟨pc, _, rfl, hpc, _, _, rfl, rfl, _, _, rfl, rfl, rfl⟩, rfl⟩ := hv
        obtain ⟨pe, _, rfl, hpe, _, _, rfl, rfl, w1, _, rfl, a1, w2, _, rfl, a2, rfl⟩ := he
        obtain ⟨vf, e0, i⟩ := hs.ins
        refine ⟨_, rfl, a, C, dx, _, _, rfl, i, T.cl, T.nP, rfl, .inl ⟨rfl, _, SqL.of hs.pr⟩, _, rfl, pv_, _, 0, _, rfl, rfl, SqT.of (sub _ _ hpv), rfl, pc, _, 1, _, rfl, rfl, SqT.of (sub _ _ hpc), rfl, lp, _, _, rfl, rfl, hs.pr, ?_, ?_⟩
        · rw [List.length_map]
          exact Nat.lt_of_le_of_lt hl (by decide)
        obtain ⟨hs1, m1⟩ := hs.setPr (ns := m.prints ++ [c]) sub
        have el : (m.prints ++ [c]).map V.int = m.prints.map V.int ++ [V.int c] := by rw [List.map_append]; rfl
        rw [el] at hs1 m1
        refine ⟨_, rfl, pe, _, 2, _, rfl, rfl, SqT.of (m1.sub _ _ hpe), rfl, _, rfl, ?_⟩
        exact sk_ret hs1 m1 q (a2.up m1.up) (hn.up m1.up)
      · rw [if_neg hl] at hm
        cases hm
    | _ => exact ok.elim
end
end Bz


set_option Elab.async false
set_option linter.all false
set_option maxRecDepth 100000
set_option maxHeartbeats 4000000
namespace Bz
open PySem PySem.Spec L2 PyProof.Rows
theorem pick_some {env : Env} : ∀ {l : List Str} {en : Env}, env.pick l = some en → en.keys = l ∧ ∀ (i : Nat) (x : Str), l[i]? = some x → ∃ v, env.get x = some v ∧ en.ds[i]? = some v.d
  | [], en, h => by
    cases h
    exact ⟨rfl, fun i x h => by simp at h⟩
  | x :: r, en, h => by
    unfold Env.pick at h
    cases e1 : env.get x with
    | none => rw [e1] at h; cases h
    | some v =>
      cases e2 : env.pick r with
      | none => rw [e1, e2] at h; cases h
      | some t =>
        rw [e1, e2] at h
        cases h
        obtain ⟨i1, i2⟩ := pick_some e2
        refine ⟨by show x :: t.keys = _; rw [i1], fun i y hi => ?_⟩
        cases i with
        | zero =>
          cases (show x = y from Option.some.inj hi)
          exact ⟨v, e1, rfl⟩
        | succ i => exact i2 i y (by simpa using hi)
theorem fv_nd (e : Ex) : (fv e).Nodup := sortS_nd (noted_nd e [] List.nodup_nil)
theorem kz_snoc {ks : List Str} {vs : List V} {x : Str} {v : V} (h : ks.length = vs.length) : kz ks vs ++ [((Sum.inr x : Key), v)] = kz (ks ++ [x]) (vs ++ [v]) := by
  unfold kz
  rw [List.zip_append h, List.map_append]
  rfl
theorem kz_new {ks : List Str} {vs : List V} {x : Str} {v : V} (h : ks.length = vs.length) (n : x ∉ ks) : putK (kz ks vs) (Sum.inr x : Key) v = kz (ks ++ [x]) (vs ++ [v]) := by
  rw [← kz_snoc h]
  unfold putK
  rw [if_neg]
  intro c
  obtain ⟨q, hq, e⟩ := List.any_eq_true.mp c
  obtain ⟨y, hy, ey⟩ := kz_mem hq
  have e := of_decide_eq_true e
  rw [ey] at e
  exact n (by rw [← Sum.inr.inj e]; exact hy)
section
variable {P : Program} {w : World} {K : PySem.W.Frag} {mg : Str → Option Value} {base : Heap}
abbrev g_function_rule : Stmt := topS 26
abbrev n_function_rule : List Str := ["machine", "expression", "bindings", "values", "needed", "name"]
abbrev p_function_rule : List Str := ["machine", "expression", "bindings", "values"]
theorem sc_function_rule : FnScope n_function_rule p_function_rule (defScope g_function_rule) := ⟨rfl, rfl, rfl, by decide +kernel, rfl, by decide +kernel, by decide +kernel⟩
def isFun : Ex → Prop
  | .fn _ _ => True
  | .rc _ _ _ => True
  | _ => False
theorem ok_function_rule {f C : Addr} {fd : FuncData}  (F : Fun K "function_rule" "function_rule" g_function_rule f fd) : FnOk P w K mg base CX0 1 f fd p_function_rule (spR isFun C) := by
  refine F.ok sc_function_rule (fun vs H Q E h => ?_) (fun cdv A outer st H vs Q E hr h => ?_)
  · obtain ⟨a, dx, lp, lh, lf, ext, R, m, e, env, ws, ve, vn, vv, r, rfl, _⟩ := h
    rfl
  · obtain ⟨a, dx, lp, lh, lf, ext, R, m, e, env, ws, ve, vn, vv, r, rfl, sub, hs, he, hn, hv, ok, hm, q⟩ := h
    have hu := hu_of hr
    refine ⟨_, (pss_cons (ps_setDc (i := 4) (own := [("name", 5)]) (g := gName 5) (tt := tYes) (tk := tVar 5) (tv := tDGet (tVar 2) (tVar 5)) rfl sc_function_rule.nd rfl rfl (swD_true rfl rfl rfl (by decide +kernel)) (pi_list (pe_ix ix_tup (pv 1) (pe_un un_neg pe_int) (fun _ _ => rfl))) (blkOk_by (N := n_function_rule) (sc := defScope g_function_rule) (by decide +kernel)) (fun _ _ _ _ _ => pg_name (i := 5) sc_function_rule.nd rfl (Or.inl rfl)) (fun _ _ _ _ _ => pts_nil) (fun _ _ _ _ _ => pv 5) (fun _ _ _ _ _ => pe_dget hu (pv 2) (pv 5) (fun _ _ => rfl)))
      (pss_one (ps_ret (pe_tup (pa_cons (pe_tup (pa_cons (pe_str) (pa_cons (pe_tup (pa_cons (pe_str) (pa_cons (pv 1) (pa_cons (pv 4) pa_nil)))) pa_nil))) (pa_cons (pv 2) pa_nil)))))), ?_⟩
    cases e with
    | fn x b =>
      obtain ⟨_, h1, hm⟩ := Option.bind_eq_some_iff.mp hm
      obtain ⟨en, h2, h3⟩ := Option.map_eq_some_iff.mp hm
      subst h3
      obtain ⟨few0, h2⟩ := pickG_of h2
      obtain ⟨pk, pi⟩ := pick_some h2
      have nd := fv_nd (.fn x b)
      generalize hl : fv (.fn x b) = l at *
      have he' := he
      obtain ⟨pe, _, rfl, hpe, _, _, rfl, rfl, _, _, rfl, rfl, vb, _, rfl, ab, wl, _, rfl, ⟨pl, lvs, rfl, hpl, als⟩, rfl⟩ := he
      have hn' := hn
      obtain ⟨pn, nvs, rfl, hpn, ans, nl, nn⟩ := hn
      have els := ats_str (bs := l) (by rw [← hl]; exact als)
      subst els
      have ll : en.ds.length = l.length := by rw [Env.len_ds, ← Env.len_keys, pk]
      refine ⟨_, rfl, 1, rfl, pe, _, -1, _, rfl, rfl, SqT.of (sub _ _ hpe), rfl, pl, rfl, ⟨_, SqL.of (sub _ _ hpl)⟩, fun D nD => ?_⟩
      have rD : R D = none := sub.free nD
      refine dc_it (walk_list (K := K) (a := pl) (xs := l.map V.str)) (fun i H3 => ∃ us, H3 = upd H D (.dK (kz (l.take i) us)) ∧ Ats R (en.ds.take i) us ∧ i ≤ l.length) ⟨[], rfl, rfl, Nat.zero_le _⟩ ?_ ?_ ?_
      · rintro i H3 _ ⟨us, rfl, _⟩
        exact SqL.of (by rw [upd_ne (ne_of_none (sub _ _ hpl) nD)]; exact sub _ _ hpl)
      · rintro i y0 H3 H4 hi ⟨us, rfl, aus, hile⟩ ⟨rfl, hy⟩
        rw [List.getElem?_map] at hy
        cases ex : l[i]? with
        | none => rw [ex] at hy; cases hy
        | some xn =>
          rw [ex] at hy
          obtain rfl : V.str xn = y0 := Option.some.inj hy
          obtain ⟨v, e1, e2⟩ := pi i xn ex
          obtain ⟨u, eu, au⟩ := env_get e1 ans
          have hpnD : (upd H D (.dK (kz (l.take i) us))) pn = some (.dK (kz env.keys nvs)) := by rw [upd_ne (ne_of_none (sub _ _ hpn) nD)]; exact sub _ _ hpn
          have dg : DGet (upd H D (.dK (kz (l.take i) us))) pn (.str xn) (some u) := by
            rw [← eu]
            exact DGet.k (k := (Sum.inr xn : Key)) hpnD
          have li : i < l.length := (List.getElem?_eq_some_iff.mp ex).1
          have lu := aus.length
          rw [List.length_take, Nat.min_eq_left (by omega)] at lu
          have lk : (l.take i).length = us.length := by rw [List.length_take, Nat.min_eq_left hile, lu]
          have few : l.length ≤ 900000 := by
            rw [← pk, Env.len_keys]
            omega
          refine ⟨rfl, _, rfl, _, rfl, _, rfl, pn, _, rfl, dg, _, (Sum.inr xn : Key), rfl, upd_same, ?_, us ++ [u], ?_, ?_, li⟩
          · rw [kz_len lk, List.length_take, Nat.min_eq_left hile]
            exact Nat.lt_of_le_of_lt (by omega : i ≤ 900000) (by decide)
          · rw [upd_twice, List.take_add_one, ex, kz_new lk]
            · rfl
            · intro hm
              obtain ⟨j, hj, ej⟩ := List.getElem_of_mem hm
              rw [List.length_take] at hj
              rw [List.getElem_take] at ej
              have h4 : l[j]? = some xn := by rw [List.getElem?_eq_getElem (by omega), ej]
              have := nd_ix nd h4 ex
              omega
          · rw [List.take_add_one, e2]
            exact aus.snoc au
      · rintro H3 ⟨us, rfl, aus, _⟩
        rw [List.length_map, List.take_length]
        rw [List.length_map, ← ll, List.take_length] at aus
        have mD : Mv F0 R H (upd R D (.dK (kz l us))) (upd H D (.dK (kz l us))) := mv_new sub nD
        have aD : At (upd R D (.dK (kz l us))) en.d (.ref D) := ⟨D, us, rfl, by rw [pk]; exact upd_same, aus.up mD.up, by rw [Env.len_keys, Env.len_ds], by rw [pk]; exact nd⟩
        refine ⟨_, rfl, _, rfl, by show 3 ≤ sizeLine; decide, fun p2 n2 => ?_⟩
        have m2 := mD.tr (mv_new (o := .tup [.str "closure", .ref pe, .ref D]) mD.sub n2)
        have a2 : At _ (Val.clo (.fn x b) en).d (.ref p2) := .ntup (l := [.str "closure", Ex.d true (.fn x b), en.d]) (vs := [.str "closure", .ref pe, .ref D]) mD.sub n2 ⟨_, _, rfl, rfl, _, _, rfl, he'.up mD.up, _, _, rfl, aD, rfl⟩
        refine ⟨by show 2 ≤ sizeLine; decide, fun p3 n3 => ?_⟩
        have m3 := m2.tr (mv_new (o := .tup [.str "known", .ref p2]) m2.sub n3)
        refine ⟨_, rfl, ?_⟩
        exact sk_ret (hs.up0 m3) (m3.mono fun _ f => f.elim) q (.ntup (l := [.str "known", (Val.clo (.fn x b) en).d]) m2.sub n3 ⟨_, _, rfl, rfl, _, _, rfl, a2, rfl⟩) (hn'.up m3.up)
    | rc y x b =>
      obtain ⟨_, h1, hm⟩ := Option.bind_eq_some_iff.mp hm
      obtain ⟨en, h2, h3⟩ := Option.map_eq_some_iff.mp hm
      subst h3
      obtain ⟨few0, h2⟩ := pickG_of h2
      obtain ⟨pk, pi⟩ := pick_some h2
      have nd := fv_nd (.rc y x b)
      generalize hl : fv (.rc y x b) = l at *
      have he' := he
      obtain ⟨pe, _, rfl, hpe, _, _, rfl, rfl, _, _, rfl, rfl, _, _, rfl, rfl, vb, _, rfl, ab, wl, _, rfl, ⟨pl, lvs, rfl, hpl, als⟩, rfl⟩ := he
      have hn' := hn
      obtain ⟨pn, nvs, rfl, hpn, ans, nl, nn⟩ := hn
      have els := ats_str (bs := l) (by rw [← hl]; exact als)
      subst els
      have ll : en.ds.length = l.length := by rw [Env.len_ds, ← Env.len_keys, pk]
      refine ⟨_, rfl, 1, rfl, pe, _, -1, _, rfl, rfl, SqT.of (sub _ _ hpe), rfl, pl, rfl, ⟨_, SqL.of (sub _ _ hpl)⟩, fun D nD => ?_⟩
      have rD : R D = none := sub.free nD
      refine dc_it (walk_list (K := K) (a := pl) (xs := l.map V.str)) (fun i H3 => ∃ us, H3 = upd H D (.dK (kz (l.take i) us)) ∧ Ats R (en.ds.take i) us ∧ i ≤ l.length) ⟨[], rfl, rfl, Nat.zero_le _⟩ ?_ ?_ ?_
      · rintro i H3 _ ⟨us, rfl, _⟩
        exact SqL.of (by rw [upd_ne (ne_of_none (sub _ _ hpl) nD)]; exact sub _ _ hpl)
      · rintro i y0 H3 H4 hi ⟨us, rfl, aus, hile⟩ ⟨rfl, hy⟩
        rw [List.getElem?_map] at hy
        cases ex : l[i]? with
        | none => rw [ex] at hy; cases hy
        | some xn =>
          rw [ex] at hy
          obtain rfl : V.str xn = y0 := Option.some.inj hy
          obtain ⟨v, e1, e2⟩ := pi i xn ex
          obtain ⟨u, eu, au⟩ := env_get e1 ans
          have hpnD : (upd H D (.dK (kz (l.take i) us))) pn = some (.dK (kz env.keys nvs)) := by rw [upd_ne (ne_of_none (sub _ _ hpn) nD)]; exact sub _ _ hpn
          have dg : DGet (upd H D (.dK (kz (l.take i) us))) pn (.str xn) (some u) := by
            rw [← eu]
            exact DGet.k (k := (Sum.inr xn : Key)) hpnD
          have li : i < l.length := (List.getElem?_eq_some_iff.mp ex).1
          have lu := aus.length
          rw [List.length_take, Nat.min_eq_left (by omega)] at lu
          have lk : (l.take i).length = us.length := by rw [List.length_take, Nat.min_eq_left hile, lu]
          have few : l.length ≤ 900000 := by
            rw [← pk, Env.len_keys]
            omega
          refine ⟨rfl, _, rfl, _, rfl, _, rfl, pn, _, rfl, dg, _, (Sum.inr xn : Key), rfl, upd_same, ?_, us ++ [u], ?_, ?_, li⟩
          · rw [kz_len lk, List.length_take, Nat.min_eq_left hile]
            exact Nat.lt_of_le_of_lt (by omega : i ≤ 900000) (by decide)
          · rw [upd_twice, List.take_add_one, ex, kz_new lk]
            · rfl
            · intro hm
              obtain ⟨j, hj, ej⟩ := List.getElem_of_mem hm
              rw [List.length_take] at hj
              rw [List.getElem_take] at ej
              have h4 : l[j]? = some xn := by rw [List.getElem?_eq_getElem (by omega), ej]
              have := nd_ix nd h4 ex
              omega
          · rw [List.take_add_one, e2]
            exact aus.snoc au
      · rintro H3 ⟨us, rfl, aus, _⟩
        rw [List.length_map, List.take_length]
        rw [List.length_map, ← ll, List.take_length] at aus
        have mD : Mv F0 R H (upd R D (.dK (kz l us))) (upd H D (.dK (kz l us))) := mv_new sub nD
        have aD : At (upd R D (.dK (kz l us))) en.d (.ref D) := ⟨D, us, rfl, by rw [pk]; exact upd_same, aus.up mD.up, by rw [Env.len_keys, Env.len_ds], by rw [pk]; exact nd⟩
        refine ⟨_, rfl, _, rfl, by show 3 ≤ sizeLine; decide, fun p2 n2 => ?_⟩
        have m2 := mD.tr (mv_new (o := .tup [.str "closure", .ref pe, .ref D]) mD.sub n2)
        have a2 : At _ (Val.clo (.rc y x b) en).d (.ref p2) := .ntup (l := [.str "closure", Ex.d true (.rc y x b), en.d]) (vs := [.str "closure", .ref pe, .ref D]) mD.sub n2 ⟨_, _, rfl, rfl, _, _, rfl, he'.up mD.up, _, _, rfl, aD, rfl⟩
        refine ⟨by show 2 ≤ sizeLine; decide, fun p3 n3 => ?_⟩
        have m3 := m2.tr (mv_new (o := .tup [.str "known", .ref p2]) m2.sub n3)
        refine ⟨_, rfl, ?_⟩
        exact sk_ret (hs.up0 m3) (m3.mono fun _ f => f.elim) q (.ntup (l := [.str "known", (Val.clo (.rc y x b) en).d]) m2.sub n3 ⟨_, _, rfl, rfl, _, _, rfl, a2, rfl⟩) (hn'.up m3.up)
    | _ => exact ok.elim
abbrev g_call_rule : Stmt := topS 27
abbrev n_call_rule : List Str := ["machine", "expression", "bindings", "values", "called", "given", "_", "function", "outside"]
abbrev p_call_rule : List Str := ["machine", "expression", "bindings", "values"]
theorem sc_call_rule : FnScope n_call_rule p_call_rule (defScope g_call_rule) := ⟨rfl, rfl, rfl, by decide +kernel, rfl, by decide +kernel, by decide +kernel⟩
def isCall : Ex → Prop
  | .call _ _ => True
  | _ => False
theorem ok_call_rule {f C : Addr} {fd : FuncData} {fS fB : Addr} {fdS fdB : FuncData} (GS : Mt P w K mg base CX0 C 1 "take_step" p_Run_take_step (spStep C) fS fdS) (GB : Mt P w K mg base CX0 C 1 "put_back" p_Stack_put_back (spPutBack C) fB fdB) (F : Fun K "call_rule" "call_rule" g_call_rule f fd) : FnOk P w K mg base CX0 2 f fd p_call_rule (spR isCall C) := by
  refine F.ok sc_call_rule (fun vs H Q E h => ?_) (fun cdv A outer st H vs Q E hr h => ?_)
  · obtain ⟨a, dx, lp, lh, lf, ext, R, m, e, env, ws, ve, vn, vv, r, rfl, _⟩ := h
    rfl
  · obtain ⟨a, dx, lp, lh, lf, ext, R, m, e, env, ws, ve, vn, vv, r, rfl, sub, hs, he, hn, hv, ok, hm, q⟩ := h
    have hu := hu_of hr
    refine ⟨_, (pss_cons (ps_asg (pv 3) (pg_tup rfl (pgs_cons (pg_name (i := 4) sc_call_rule.nd rfl (Or.inl rfl)) (pgs_cons (pg_name (i := 5) sc_call_rule.nd rfl (Or.inl rfl)) pgs_nil))))
      (pss_cons (ps_if (pt_not (pt_val (pe_meth0 (pv 0) GS.c GS.m GS.ok hr GS.b .nil pass0))) (pss_one (ps_ret (pe_tup (pa_cons (pv 1) (pa_cons (pv 2) pa_nil))))) pss_nil)
      (pss_cons (ps_if (pt_cmpR op_eq (pe_ix ix_tup (pv 4) (pe_int) (fun _ _ => rfl)) (pe_str) (nomark _)) (pss_cons (ps_expr (pe_meth (pv 0) GB.c GB.m GB.ok hr GB.b .nil pass0 (pa_cons (pe_ix ix_tup (pv 4) (pe_int) (fun _ _ => rfl)) pa_nil)))
      (pss_one (ps_ret (pe_tup (pa_cons (pe_tup (pa_cons (pe_str) (pa_cons (pv 5) pa_nil))) (pa_cons (pv 2) pa_nil)))))) pss_nil)
      (pss_cons (ps_asg (pv 4) (pg_tup rfl (pgs_cons (pg_name (i := 6) sc_call_rule.nd rfl (Or.inl rfl)) (pgs_cons (pg_name (i := 7) sc_call_rule.nd rfl (Or.inl rfl)) (pgs_cons (pg_name (i := 8) sc_call_rule.nd rfl (Or.inl rfl)) pgs_nil)))))
      (pss_cons (ps_if (pt_cmpR op_eq (pe_ix ix_tup (pv 7) (pe_int) (fun _ _ => rfl)) (pe_str) (nomark _)) (pss_one (ps_ret (pe_tup (pa_cons (pe_ix ix_tup (pv 7) (pe_int) (fun _ _ => rfl)) (pa_cons (Rd.pe_dstar (pv 8) (pps_cons (pe_ix ix_tup (pv 7) (pe_int) (fun _ _ => rfl)) (pv 5) pps_nil) (by rfl) (by rfl) (fun z => by cases z) (by decide)) pa_nil))))) pss_nil)
      (pss_one (ps_ret (pe_tup (pa_cons (pe_ix ix_tup (pv 7) (pe_int) (fun _ _ => rfl)) (pa_cons (Rd.pe_dstar (pv 8) (pps_cons (pe_ix ix_tup (pv 7) (pe_int) (fun _ _ => rfl)) (pv 4) (pps_cons (pe_ix ix_tup (pv 7) (pe_int) (fun _ _ => rfl)) (pv 5) pps_nil)) (by rfl) (by rfl) (fun z => by cases z) (by decide)) pa_nil)))))))))), ?_⟩
    cases e with
    | call e1 e2 =>
      obtain ⟨p2, h1, hm⟩ := Option.bind_eq_some_iff.mp hm
      obtain ⟨fv_, g⟩ := p2
      rw [v2_of h1] at hv
      obtain ⟨pv_, _, rfl, hpv, u, _, rfl, au, z, _, rfl, az, rfl⟩ := hv
      have he' := he
      obtain ⟨pe, er, rfl, hpe⟩ := ex_head he
      obtain ⟨vf, e0, i⟩ := hs.ins
      refine ⟨_, rfl, pv_, _, rfl, SqT.of (sub _ _ hpv), rfl, _, _, rfl, _, _, rfl, rfl, ?_⟩
      refine ⟨_, rfl, a, dx, _, rfl, i, flds_no (by decide) hs.x, ?_⟩
      refine ⟨a, dx, lp, lh, lf, ext, R, msk m, rfl, sub, hs, ?_⟩
      have hm : callM m (.call e1 e2) env fv_ g = some r := hm
      cases hl : m.left with
      | zero =>
        unfold callM at hm
        rw [hl] at hm
        cases hm
        rw [show (msk m).left = 0 from hl]
        intro R1 H1 k1 m1
        refine ⟨_, rfl, ?_⟩
        refine iteT ?_
        refine ⟨_, rfl, _, rfl, ?_⟩
        have k1 : SkAt C R1 H1 (msk { m with left := 0, fin := some .steps }) a dx lp lh lf ext := k1
        exact sk_ret k1 m1 q (he'.up m1.up) (hn.up m1.up)
      | succ n =>
        unfold callM at hm
        rw [hl] at hm
        rw [show (msk m).left = n + 1 from hl]
        intro R1 H1 k1 m1
        have k1 : SkAt C R1 H1 (msk { m with left := n }) a dx lp lh lf ext := k1
        refine ⟨_, rfl, ?_⟩
        refine iteF ?_
        cases fv_ with
        | kept ps =>
          dsimp only at hm
          by_cases hb : ps.len + m.pcs.len ≤ 900000
          · rw [if_pos hb] at hm
            cases hm
            obtain ⟨pk, _, rfl, hpk, _, _, rfl, rfl, uk, _, rfl, auk, rfl⟩ := au
            have hpk1 := m1.sub _ _ (m1.up _ _ hpk)
            refine ⟨_, rfl, pk, _, 0, _, rfl, rfl, SqT.of hpk1, rfl, rfl, _, rfl, ?_⟩
            refine ifT (decide_eq_true rfl) ?_
            obtain ⟨vf1, e01, i1⟩ := k1.ins
            refine ⟨_, rfl, a, dx, _, rfl, i1, flds_no (by decide) k1.x, _, rfl, pk, _, 1, _, rfl, rfl, SqT.of hpk1, rfl, ?_⟩
            refine ⟨a, dx, lp, lh, lf, ext, R1, _, uk, ps.hd.reverse, ps.fd.reverse, rfl, m1.sub, k1, auk.up m1.up, ?_, ?_, fun R2 H2 k2 m2 => ?_⟩
            · show (D.non :: m.pcs.hd.reverse).length + ps.hd.reverse.length ≤ 1000000
              rw [List.length_cons, List.length_reverse, List.length_reverse, Pcs.len_hd, Pcs.len_hd]
              omega
            · show (m.bot.d :: m.pcs.fd.reverse).length + ps.fd.reverse.length ≤ 1000000
              rw [List.length_cons, List.length_reverse, List.length_reverse, Pcs.len_fd, Pcs.len_fd]
              omega
            have ek : ({ (msk { m with left := n }) with hs := (msk { m with left := n }).hs ++ ps.hd.reverse, fs := (msk { m with left := n }).fs ++ ps.fd.reverse, most := Nat.max (msk { m with left := n }).most ((msk { m with left := n }).hs ++ ps.hd.reverse).length } : Sk) = msk (({ m with left := n }).back ps) := by
              unfold msk Ms.back
              rw [Pcs.app_hd, Pcs.app_fd, List.reverse_append, List.reverse_append]
              show Sk.mk _ _ _ _ _ _ (Nat.max m.most ((D.non :: m.pcs.hd.reverse) ++ ps.hd.reverse).length) = Sk.mk _ _ _ _ _ _ (Nat.max m.most ((ps.app m.pcs).len + 1))
              rw [show ((D.non :: m.pcs.hd.reverse) ++ ps.hd.reverse).length = (ps.app m.pcs).len + 1 by
                rw [← Pcs.len_hd, Pcs.app_hd, List.length_append, List.length_cons, List.length_append, List.length_reverse, List.length_reverse]
                omega]
              rfl
            rw [ek] at k2
            have m12 := m1.tr m2
            refine ⟨_, rfl, by show 2 ≤ sizeLine; decide, fun p3 n3 => ?_⟩
            have m3 := m12.tr (mv_new (F := Fsk a lp lh lf) (o := .tup [.str "known", z]) m2.sub n3)
            refine ⟨_, rfl, ?_⟩
            exact sk_ret (k2.new m2.sub n3) m3 q (.ntup (l := [.str "known", g.d]) m2.sub n3 ⟨_, _, rfl, rfl, _, _, rfl, az.up m12.up, rfl⟩) (hn.up m3.up)
          · rw [if_neg hb] at hm
            cases hm
        | clo fe out =>
          obtain ⟨pk, _, rfl, hpk, _, _, rfl, rfl, uf, _, rfl, auf, uo, _, rfl, auo, rfl⟩ := au
          have au : At R1 (Val.clo fe out).d (.ref pk) := ⟨pk, _, rfl, m1.up _ _ hpk, _, _, rfl, rfl, _, _, rfl, auf.up m1.up, _, _, rfl, auo.up m1.up, rfl⟩
          have hpk1 := m1.sub _ _ (m1.up _ _ hpk)
          refine ⟨_, rfl, pk, _, 0, _, rfl, rfl, SqT.of hpk1, rfl, rfl, _, rfl, ?_⟩
          refine isF (by decide +kernel) ?_
          refine ⟨_, rfl, pk, _, rfl, SqT.of hpk1, rfl, _, _, rfl, _, _, rfl, _, _, rfl, rfl, ?_⟩
          have auo := auo.up m1.up
          obtain ⟨pn, nvs, rfl, hpn, ans, nl, nn⟩ := auo
          have az := az.up m1.up
          cases fe with
          | fn x b =>
            dsimp only at hm
            obtain ⟨en, h2, h3⟩ := Option.map_eq_some_iff.mp hm
            subst h3
            obtain ⟨hlen, rfl⟩ := putG_of h2
            have auf := auf.up m1.up
            obtain ⟨pf, _, rfl, hpf, _, _, rfl, rfl, _, _, rfl, rfl, vb, _, rfl, ab, wl, _, rfl, al, rfl⟩ := auf
            refine ⟨_, rfl, pf, _, 0, _, rfl, rfl, SqT.of (m1.sub _ _ hpf), rfl, rfl, _, rfl, ?_⟩
            refine ifT (decide_eq_true rfl) ?_
            refine ⟨_, rfl, pf, _, 2, _, rfl, rfl, SqT.of (m1.sub _ _ hpf), rfl, fun d nd => ?_⟩
            obtain ⟨k1', k2', k3'⟩ := ent m1.sub hpn ans hlen nd
            refine ⟨_, rfl, pn, _, rfl, k1', k2', upd_same, k3', fun e2 ne => ?_⟩
            have nde : d ≠ e2 := fun z => by rw [← z, upd_same] at ne; cases ne
            have ma : Mv F0 R1 H1 R1 (upd (upd H1 d (.dK [])) d (.dK (kz out.keys nvs))) := by rw [upd_twice]; exact mv_mut m1.sub nd
            have mb := ma.tr (mv_mut (o := .dK []) ma.sub ne)
            refine ⟨_, rfl, pf, _, 1, _, rfl, rfl, SqT.of (mb.sub _ _ hpf), rfl, _, rfl, ?_⟩
            refine ⟨upd_same, (by rw [upd_ne nde, upd_same]), [((Sum.inr x : Key), z)], rfl, (by show 1 ≤ 15; decide), ?_⟩
            obtain ⟨ws2, ew, aw⟩ := env_put az nn ans
            rw [merge1, ew]
            have mf : Mv F0 R1 H1 _ _ := dst_pure (more := mergeK [] [((Sum.inr x : Key), z)]) (fin := kz (out.put x g).keys ws2) m1.sub nd ne
            exact sk_ret (k1.up0 mf) (m1.tr0 mf) q (ab.up mf.up) ⟨d, ws2, rfl, upd_same, aw.up mf.up, by rw [Env.len_keys, Env.len_ds], Env.put_nd nn⟩
          | rc y x b =>
            dsimp only at hm
            by_cases hlen : out.len ≤ 900
            · rw [if_pos hlen] at hm
              cases hm
              have auf := auf.up m1.up
              obtain ⟨pf, _, rfl, hpf, _, _, rfl, rfl, _, _, rfl, rfl, _, _, rfl, rfl, vb, _, rfl, ab, wl, _, rfl, al, rfl⟩ := auf
              refine ⟨_, rfl, pf, _, 0, _, rfl, rfl, SqT.of (m1.sub _ _ hpf), rfl, rfl, _, rfl, ?_⟩
              refine isF (by decide +kernel) ?_
              refine ⟨_, rfl, pf, _, 3, _, rfl, rfl, SqT.of (m1.sub _ _ hpf), rfl, fun d nd => ?_⟩
              obtain ⟨k1', k2', k3'⟩ := ent m1.sub hpn ans hlen nd
              refine ⟨_, rfl, pn, _, rfl, k1', k2', upd_same, k3', fun e2 ne => ?_⟩
              have nde : d ≠ e2 := fun z => by rw [← z, upd_same] at ne; cases ne
              have ma : Mv F0 R1 H1 R1 (upd (upd H1 d (.dK [])) d (.dK (kz out.keys nvs))) := by rw [upd_twice]; exact mv_mut m1.sub nd
              have mb := ma.tr (mv_mut (o := .dK []) ma.sub ne)
              have hpfb := mb.sub _ _ hpf
              refine ⟨_, rfl, pf, _, 1, _, rfl, rfl, SqT.of hpfb, rfl, _, rfl, _, rfl, pf, _, 2, _, rfl, rfl, SqT.of hpfb, rfl, _, rfl, ?_⟩
              refine ⟨upd_same, (by rw [upd_ne nde, upd_same]), [((Sum.inr y : Key), V.ref pk), ((Sum.inr x : Key), z)], rfl, (by show 2 ≤ 15; decide), ?_⟩
              obtain ⟨ws2, ew, aw⟩ := env_put au nn ans
              obtain ⟨ws3, ew3, aw3⟩ := env_put az (Env.put_nd (x := y) (v := Val.clo (.rc y x b) out) nn) aw
              rw [merge2, ew, ew3]
              have mf : Mv F0 R1 H1 _ _ := dst_pure (more := mergeK [] [((Sum.inr y : Key), V.ref pk), ((Sum.inr x : Key), z)]) (fin := kz ((out.put y (.clo (.rc y x b) out)).put x g).keys ws3) m1.sub nd ne
              exact sk_ret (k1.up0 mf) (m1.tr0 mf) q (ab.up mf.up) ⟨d, ws3, rfl, upd_same, aw3.up mf.up, by rw [Env.len_keys, Env.len_ds], Env.put_nd (Env.put_nd nn)⟩
            · rw [if_neg hlen] at hm
              cases hm
          | _ => cases hm
        | _ => cases hm
    | _ => exact ok.elim
end
end Bz


set_option Elab.async false
set_option linter.all false
set_option maxRecDepth 100000
set_option maxHeartbeats 4000000
namespace Bz
open PySem PySem.Spec L2 PyProof.Rows
theorem SkAt.freeze {C a dx lp lh lf d : Addr} {R H : Hp} {s : Sk} {ext : List (Str × V)} {o : HO} (h : SkAt C R H s a dx lp lh lf ext) (r : R d = none) (n : ¬ Fsk a lp lh lf d) : SkAt C (upd R d o) H s a dx lp lh lf ext where
  ins := let ⟨ve, e, i⟩ := h.ins; ⟨ve, e.up (same_new r), i⟩
  pr := h.pr
  hs := let ⟨vs, e, i⟩ := h.hs; ⟨vs, e, i.up (same_new r)⟩
  fs := let ⟨vs, e, i⟩ := h.fs; ⟨vs, e, i.up (same_new r)⟩
  nph := h.nph
  npf := h.npf
  nhf := h.nhf
  ra := by rw [upd_ne fun e => n (.inl e.symm)]; exact h.ra
  rp := by rw [upd_ne fun e => n (.inr (.inl e.symm))]; exact h.rp
  rh := by rw [upd_ne fun e => n (.inr (.inr (.inl e.symm)))]; exact h.rh
  rf := by rw [upd_ne fun e => n (.inr (.inr (.inr e.symm)))]; exact h.rf
  x := h.x
theorem ansN_app (o : Str) (m : List D) : ∀ (n : Nat) (l : List D), n + 1 ≤ l.length → ansN (l ++ m) o n = ansN l o n
  | 0, _, _ => rfl
  | n + 1, l, h => by
    show (match ((l ++ m)[n + 1]?).bind fun h => (clsOfD h).find? (isCl o) with | some c => some (n + 1, c) | none => ansN (l ++ m) o n) = (match (l[n + 1]?).bind fun h => (clsOfD h).find? (isCl o) with | some c => some (n + 1, c) | none => ansN l o n)
    rw [List.getElem?_append_left (by omega), ansN_app o m n l (by omega)]
theorem find_cl (p : Bool) (o : Str) : ∀ c : Clz, (c.d p).find? (isCl o) = (c.find o).map fun t => .tup [.str o, .str t.1, .str t.2.1, t.2.2.d p]
  | .nil => rfl
  | .cons o' x k g r => by
    show (D.tup [.str o', .str x, .str k, g.d p] :: r.d p).find? (isCl o) = _
    rw [List.find?_cons]
    show (match decide (o' = o) with | true => some (D.tup [.str o', .str x, .str k, g.d p]) | false => (r.d p).find? (isCl o)) = ((if o' = o then some (x, k, g) else r.find o) : Option (Str × Str × Ex)).map _
    by_cases c : o' = o
    · rw [decide_eq_true c, if_pos c, c]
      rfl
    · rw [decide_eq_false c, if_neg c, find_cl p o r]
theorem ans_eq (o : Str) : ∀ ps : Pcs, allHd ps = true → ansN (.non :: ps.hd.reverse) o ps.len = (ps.answer o).map fun t => (t.2.1.len + 1, D.tup [.str o, .str t.2.2.2.1, .str t.2.2.2.2.1, t.2.2.2.2.2.d true])
  | .nil, _ => rfl
  | .cons e env fs r, h => by
    cases e with
    | hd e1 x f cs =>
      have h : allHd r = true := h
      have ih := ans_eq o r h
      have e1' : (D.non :: (Pcs.cons (.hd e1 x f cs) env fs r).hd.reverse) = (D.non :: r.hd.reverse) ++ [D.tup [(Ex.hd e1 x f cs).d true, env.d]] := by
        show D.non :: (D.tup [(Ex.hd e1 x f cs).d true, env.d] :: r.hd).reverse = _
        rw [List.reverse_cons]
        rfl
      rw [e1']
      show ansN _ o (r.len + 1) = _
      have e2 : ((D.non :: r.hd.reverse) ++ [D.tup [(Ex.hd e1 x f cs).d true, env.d]])[r.len + 1]? = some (.tup [(Ex.hd e1 x f cs).d true, env.d]) := by
        rw [List.getElem?_append_right (by rw [List.length_cons, List.length_reverse, Pcs.len_hd]; omega)]
        rw [List.length_cons, List.length_reverse, Pcs.len_hd, Nat.sub_self]
        rfl
      show (match (((D.non :: r.hd.reverse) ++ [D.tup [(Ex.hd e1 x f cs).d true, env.d]])[r.len + 1]?).bind fun h => (clsOfD h).find? (isCl o) with | some c => some (r.len + 1, c) | none => ansN ((D.non :: r.hd.reverse) ++ [D.tup [(Ex.hd e1 x f cs).d true, env.d]]) o r.len) = _
      rw [e2, ansN_app o _ _ _ (by rw [List.length_cons, List.length_reverse, Pcs.len_hd]; omega), ih]
      show (match (cs.d true).find? (isCl o) with | some c => some (r.len + 1, c) | none => _) = _
      rw [find_cl]
      cases c : cs.find o with
      | some t =>
        have ea : (Pcs.cons (.hd e1 x f cs) env fs r).answer o = some (.cons (.hd e1 x f cs) env fs .nil, r, env, t.1, t.2.1, t.2.2) := by
          unfold Pcs.answer
          rw [show (clsOf (Ex.hd e1 x f cs)).find o = some t from c]
        rw [ea]
        rfl
      | none =>
        cases c2 : r.answer o with
        | none =>
          have ea : (Pcs.cons (.hd e1 x f cs) env fs r).answer o = none := by
            unfold Pcs.answer
            rw [show (clsOf (Ex.hd e1 x f cs)).find o = none from c, c2]
          rw [ea]
          rfl
        | some t =>
          have ea : (Pcs.cons (.hd e1 x f cs) env fs r).answer o = some (.cons (.hd e1 x f cs) env fs t.1, t.2) := by
            unfold Pcs.answer
            rw [show (clsOf (Ex.hd e1 x f cs)).find o = none from c, c2]
          rw [ea]
          rfl
    | _ => cases h
theorem ans_app {o : Str} : ∀ {ps p q : Pcs} {t : Env × Str × Str × Ex}, ps.answer o = some (p, q, t) → ps = p.app q ∧ ∃ (e : Ex) (l : List D), p.hd = l ++ [.tup [e.d true, t.1.d]]
  | .nil, _, _, _, h => by cases h
  | .cons e env fs r, p, q, t, h => by
    unfold Pcs.answer at h
    cases c : (clsOf e).find o with
    | some t1 =>
      rw [c] at h
      cases h
      exact ⟨rfl, e, [], rfl⟩
    | none =>
      rw [c] at h
      cases c2 : r.answer o with
      | none => rw [c2] at h; cases h
      | some t2 =>
        rw [c2] at h
        obtain ⟨p2, q2, t3⟩ := t2
        cases h
        obtain ⟨i1, e2, l, i2⟩ := ans_app c2
        refine ⟨by rw [i1]; rfl, e2, .tup [e.d true, env.d] :: l, ?_⟩
        show D.tup [e.d true, env.d] :: p2.hd = _
        rw [i2]
        rfl
theorem hd_ok : ∀ {ps : Pcs} {j : Nat} {h : D}, allHd ps = true → ps.hd[j]? = some h → HdOk h
  | .cons e env fs r, j, h, ah, hj => by
    cases e with
    | hd e1 x f cs =>
      cases j with
      | zero =>
        cases (show D.tup [(Ex.hd e1 x f cs).d true, env.d] = h from Option.some.inj hj)
        refine ⟨.str "handle", e1.d true, .tup [.str x, f.d true], cs.d true, [], env.d, rfl, fun y hy => ?_⟩
        have : ∀ c : Clz, ∀ y ∈ c.d true, ∃ o r, y = .tup (.str o :: r) := fun c => by
          induction c using Clz.rec (motive_1 := fun _ => True) with
          | nil => intro y h; cases h
          | cons o x k g r _ ih =>
            intro y h
            rcases List.mem_cons.mp h with q | h
            · exact ⟨o, _, q⟩
            · exact ih y h
          | _ => trivial
        exact this cs y hy
      | succ j => exact hd_ok (ps := r) (j := j) ah (by simpa [Pcs.hd] using hj)
    | _ => cases ah
  | .nil, _, _, _, hj => by simp [Pcs.hd] at hj
section
variable {P : Program} {w : World} {K : PySem.W.Frag} {mg : Str → Option Value} {base : Heap}
abbrev g_ask_rule : Stmt := topS 36
abbrev n_ask_rule : List Str := ["machine", "expression", "bindings", "values", "found", "place", "clause", "_", "outside", "name", "resumption", "answer"]
abbrev p_ask_rule : List Str := ["machine", "expression", "bindings", "values"]
theorem sc_ask_rule : FnScope n_ask_rule p_ask_rule (defScope g_ask_rule) := ⟨rfl, rfl, rfl, by decide +kernel, rfl, by decide +kernel, by decide +kernel⟩
def isAsk : Ex → Prop
  | .ask _ _ => True
  | _ => False
theorem ok_ask_rule {f C : Addr} {fd : FuncData} {fS fA fU fK : Addr} {fdS fdA fdU fdK : FuncData} (T : SkTxt K C) (GS : Mt P w K mg base CX0 C 1 "take_step" p_Run_take_step (spStep C) fS fdS) (GA : Mt P w K mg base CX0 C 1 "answering" p_Stack_answering (spAns C) fA fdA) (GU : Mt P w K mg base CX0 C 1 "end_unhandled" p_Run_end_unhandled (spUnh C) fU fdU) (GK : Mt P w K mg base CX0 C 1 "keep" p_Stack_keep (spKeep C) fK fdK) (F : Fun K "ask_rule" "ask_rule" g_ask_rule f fd) : FnOk P w K mg base CX0 2 f fd p_ask_rule (spR isAsk C) := by
  refine F.ok sc_ask_rule (fun vs H Q E h => ?_) (fun cdv A outer st H vs Q E hr h => ?_)
  · obtain ⟨a, dx, lp, lh, lf, ext, R, m, e, env, ws, ve, vn, vv, r, rfl, _⟩ := h
    rfl
  · obtain ⟨a, dx, lp, lh, lf, ext, R, m, e, env, ws, ve, vn, vv, r, rfl, sub, hs, he, hn, hv, ok, hm, q⟩ := h
    have hu := hu_of hr
    refine ⟨_, (pss_cons (ps_if (pt_not (pt_val (pe_meth0 (pv 0) GS.c GS.m GS.ok (hr.mono (by decide)) GS.b .nil pass0))) (pss_one (ps_ret (pe_tup (pa_cons (pv 1) (pa_cons (pv 2) pa_nil))))) pss_nil)
      (pss_cons (ps_set (i := 4) sc_ask_rule.nd rfl (Or.inl rfl) (pe_meth (pv 0) GA.c GA.m GA.ok (hr.mono (by decide)) GA.b .nil pass0 (pa_cons (pe_ix ix_tup (pv 1) (pe_int) (fun _ _ => rfl)) pa_nil)))
      (pss_cons (ps_if (pt_cmpR op_isN (pv 4) pe_non (nomark _)) (pss_cons (ps_expr (pe_meth (pv 0) GU.c GU.m GU.ok (hr.mono (by decide)) GU.b .nil pass0 (pa_cons (pe_ix ix_tup (pv 1) (pe_int) (fun _ _ => rfl)) pa_nil)))
      (pss_one (ps_ret (pe_tup (pa_cons (pv 1) (pa_cons (pv 2) pa_nil)))))) pss_nil)
      (pss_cons (ps_asg (pv 4) (pg_tup rfl (pgs_cons (pg_name (i := 5) sc_ask_rule.nd rfl (Or.inl rfl)) (pgs_cons (pg_name (i := 6) sc_ask_rule.nd rfl (Or.inl rfl)) pgs_nil))))
      (pss_cons (ps_asg (pe_ix ix_list (pe_fld (pv 0) rfl) (pv 5) (fun _ _ => rfl)) (pg_tup rfl (pgs_cons (pg_name (i := 7) sc_ask_rule.nd rfl (Or.inl rfl)) (pgs_cons (pg_name (i := 8) sc_ask_rule.nd rfl (Or.inl rfl)) pgs_nil))))
      (pss_cons (ps_asg (pv 6) (pg_tup rfl (pgs_cons (pg_name (i := 7) sc_ask_rule.nd rfl (Or.inl rfl)) (pgs_cons (pg_name (i := 9) sc_ask_rule.nd rfl (Or.inl rfl)) (pgs_cons (pg_name (i := 10) sc_ask_rule.nd rfl (Or.inl rfl)) (pgs_cons (pg_name (i := 11) sc_ask_rule.nd rfl (Or.inl rfl)) pgs_nil))))))
      (pss_one (ps_ret (pe_tup (pa_cons (pv 11) (pa_cons (Rd.pe_dstar (pv 8) (pps_cons (pv 9) (pe_ix ix_tup (pv 3) (pe_int) (fun _ _ => rfl)) (pps_cons (pv 10) (pe_tup (pa_cons (pe_str) (pa_cons (pe_meth (pv 0) GK.c GK.m GK.ok (hr.mono (by decide)) GK.b .nil pass0 (pa_cons (pv 5) pa_nil)) pa_nil))) pps_nil)) (by rfl) (by rfl) (fun z => by cases z) (by decide)) pa_nil))))))))))), ?_⟩
    cases e with
    | ask o e1 =>
      obtain ⟨v, h1, hm⟩ := Option.bind_eq_some_iff.mp hm
      rw [v1_of h1] at hv
      obtain ⟨pv_, _, rfl, hpv, u, _, rfl, au, rfl⟩ := hv
      have he' := he
      obtain ⟨pe, _, rfl, hpe, _, _, rfl, rfl, _, _, rfl, rfl, w1, _, rfl, a1, rfl⟩ := he
      obtain ⟨vf, e0, i⟩ := hs.ins
      have hm : askM m (.ask o e1) env o v = some r := hm
      refine ⟨_, rfl, a, dx, _, rfl, i, flds_no (by decide) hs.x, ?_⟩
      refine ⟨a, dx, lp, lh, lf, ext, R, msk m, rfl, sub, hs, ?_⟩
      unfold askM at hm
      cases hl : m.left with
      | zero =>
        rw [hl] at hm
        cases hm
        rw [show (msk m).left = 0 from hl]
        intro R1 H1 k1 m1
        refine ⟨_, rfl, ?_⟩
        refine iteT ?_
        refine ⟨_, rfl, _, rfl, ?_⟩
        have k1 : SkAt C R1 H1 (msk { m with left := 0, fin := some .steps }) a dx lp lh lf ext := k1
        exact sk_ret k1 m1 q (he'.up m1.up) (hn.up m1.up)
      | succ n =>
        rw [hl] at hm
        dsimp only at hm
        rw [show (msk m).left = n + 1 from hl]
        by_cases hah : allHd m.pcs = true ∧ m.pcs.len ≤ 900000
        · rw [if_pos hah] at hm
          obtain ⟨hah, hbig⟩ := hah
          intro R1 H1 k1 m1
          have k1 : SkAt C R1 H1 (msk { m with left := n }) a dx lp lh lf ext := k1
          refine ⟨_, rfl, ?_⟩
          refine iteF ?_
          obtain ⟨vf1, e01, i1⟩ := k1.ins
          have hpe1 := m1.sub _ _ (m1.up _ _ hpe)
          refine ⟨_, rfl, a, dx, _, rfl, i1, flds_no (by decide) k1.x, _, rfl, pe, _, 1, _, rfl, rfl, SqT.of hpe1, rfl, ?_⟩
          have hlen : (msk { m with left := n }).hs.length = m.pcs.len + 1 := by
            show (D.non :: m.pcs.hd.reverse).length = _
            rw [List.length_cons, List.length_reverse, Pcs.len_hd]
          refine ⟨a, dx, lp, lh, lf, ext, R1, _, o, rfl, m1.sub, k1, ?_, List.cons_ne_nil _ _, by rw [hlen]; omega, ?_⟩
          · intro j h hj hh
            obtain ⟨j', rfl⟩ : ∃ j', j = j' + 1 := ⟨j - 1, by omega⟩
            have hh : m.pcs.hd.reverse[j']? = some h := by simpa [msk] using hh
            have lt : j' < m.pcs.hd.length := by have := (List.getElem?_eq_some_iff.mp hh).1; rw [List.length_reverse] at this; exact this
            rw [List.getElem?_reverse lt] at hh
            exact hd_ok hah hh
          rw [hlen, Nat.add_sub_cancel, show (msk { m with left := n }).hs = .non :: m.pcs.hd.reverse from rfl, ans_eq o m.pcs hah]
          cases ha : m.pcs.answer o with
          | none =>
            rw [ha] at hm
            cases hm
            refine ⟨_, rfl, rfl, _, rfl, ?_⟩
            refine iteT ?_
            refine ⟨_, rfl, a, dx, _, rfl, i1, flds_no (by decide) k1.x, _, rfl, pe, _, 1, _, rfl, rfl, SqT.of hpe1, rfl, ?_⟩
            refine ⟨a, dx, lp, lh, lf, ext, R1, _, o, rfl, m1.sub, k1, fun R2 H2 k2 m2 => ?_⟩
            have k2 : SkAt C R2 H2 (msk { m with left := n, fin := some (.unh o) }) a dx lp lh lf ext := k2
            have m12 := m1.tr m2
            refine ⟨_, rfl, _, rfl, ?_⟩
            exact sk_ret k2 m12 q (he'.up m12.up) (hn.up m12.up)
          | some tt =>
            obtain ⟨p, qq, out, x, k, g⟩ := tt
            rw [ha] at hm
            dsimp only at hm
            by_cases hlen2 : out.len ≤ 900
            · rw [if_pos hlen2] at hm
              cases hm
              obtain ⟨eapp, eh, lh_, ehd⟩ := ans_app ha
              intro R2 H2 vfo m2 afo
              have k2 := k1.up0 m2
              have m12 := m1.tr0 m2
              obtain ⟨pfo, _, rfl, hpfo, _, _, rfl, rfl, wc, _, rfl, ⟨pc, _, rfl, hpc, _, _, rfl, rfl, _, _, rfl, rfl, _, _, rfl, rfl, wg, _, rfl, ag, rfl⟩, rfl⟩ := afo
              have hpfo := m2.sub _ _ hpfo
              refine ⟨_, rfl, rfl, _, rfl, ?_⟩
              refine iteF ?_
              refine ⟨_, rfl, pfo, _, rfl, SqT.of hpfo, rfl, _, _, rfl, _, _, rfl, rfl, ?_⟩
              obtain ⟨vf2, e02, i2⟩ := k2.ins
              obtain ⟨hvs, h3, h4⟩ := k2.hs
              have eh3 : (msk { m with left := n }).hs = (.non :: qq.hd.reverse) ++ (.tup [eh.d true, out.d] :: lh_.reverse) := by
                show D.non :: m.pcs.hd.reverse = _
                rw [eapp, Pcs.app_hd, List.reverse_append, ehd, List.reverse_append]
                rfl
              have hat : (msk { m with left := n }).hs[qq.len + 1]? = some (.tup [eh.d true, out.d]) := by
                rw [eh3, List.getElem?_append_right (by rw [List.length_cons, List.length_reverse, Pcs.len_hd]; omega), List.length_cons, List.length_reverse, Pcs.len_hd, Nat.sub_self]
                rfl
              obtain ⟨vh, hvh, avh⟩ := h4.get hat
              obtain ⟨ph, _, rfl, hph, w2, _, rfl, a2, w3, _, rfl, a3, rfl⟩ := avh
              refine ⟨_, rfl, a, C, dx, _, _, rfl, i2, T.cl, T.nH, rfl, _, rfl, lh, _, _, _, rfl, rfl, SqL.of h3, atI_nat hvh, ph, _, rfl, SqT.of (m2.sub _ _ hph), rfl, _, _, rfl, _, _, rfl, rfl, ?_⟩
              refine ⟨_, rfl, pc, _, rfl, SqT.of (m2.sub _ _ hpc), rfl, _, _, rfl, _, _, rfl, _, _, rfl, _, _, rfl, rfl, ?_⟩
              obtain ⟨pn, nvs, rfl, hpn, ans, nl, nn⟩ := a3
              refine ⟨_, rfl, fun d nd => ?_⟩
              obtain ⟨k1', k2', k3'⟩ := ent m2.sub hpn ans hlen2 nd
              refine ⟨_, rfl, pn, _, rfl, k1', k2', upd_same, k3', fun e2 ne => ?_⟩
              have nde : d ≠ e2 := fun z => by rw [← z, upd_same] at ne; cases ne
              have ma : Mv F0 R2 H2 R2 (upd (upd H2 d (.dK [])) d (.dK (kz out.keys nvs))) := by rw [upd_twice]; exact mv_mut m2.sub nd
              have mb := ma.tr (mv_mut (o := .dK []) ma.sub ne)
              have hpvb := mb.sub _ _ (m12.up _ _ hpv)
              have k3 := k2.up0 mb
              obtain ⟨vf3, e03, i3⟩ := k3.ins
              refine ⟨_, rfl, _, rfl, pv_, _, 0, _, rfl, rfl, SqT.of hpvb, rfl, _, rfl, ?_⟩
              refine ⟨_, rfl, a, dx, _, rfl, i3, flds_no (by decide) k3.x, _, rfl, ?_⟩
              have lq : m.pcs.len = p.len + qq.len := by
                rw [← Pcs.len_hd, eapp, Pcs.app_hd, List.length_append, Pcs.len_hd, Pcs.len_hd]
              refine ⟨a, dx, lp, lh, lf, ext, R2, _, qq.len + 1, rfl, mb.sub, k3, by rw [hlen]; omega, ?_, fun R3 H3 k4 m3 => ?_⟩
              · show qq.len + 1 ≤ (m.bot.d :: m.pcs.fd.reverse).length
                rw [List.length_cons, List.length_reverse, Pcs.len_fd]
                omega
              intro vk avk
              have lqq : (D.non :: qq.hd.reverse).length = qq.len + 1 := by rw [List.length_cons, List.length_reverse, Pcs.len_hd]
              have lqf : (m.bot.d :: qq.fd.reverse).length = qq.len + 1 := by rw [List.length_cons, List.length_reverse, Pcs.len_fd]
              have e5 : (msk { m with left := n }).hs = (.non :: qq.hd.reverse) ++ p.hd.reverse := by
                show D.non :: m.pcs.hd.reverse = _
                rw [eapp, Pcs.app_hd, List.reverse_append]
                rfl
              have e6 : (msk { m with left := n }).fs = (m.bot.d :: qq.fd.reverse) ++ p.fd.reverse := by
                show m.bot.d :: m.pcs.fd.reverse = _
                rw [eapp, Pcs.app_fd, List.reverse_append]
                rfl
              have t1 : (msk { m with left := n }).hs.take (qq.len + 1) = .non :: qq.hd.reverse := by rw [e5, List.take_left' lqq]
              have t2 : (msk { m with left := n }).fs.take (qq.len + 1) = m.bot.d :: qq.fd.reverse := by rw [e6, List.take_left' lqf]
              have t3 : (msk { m with left := n }).hs.drop (qq.len + 1) = p.hd.reverse := by rw [e5, List.drop_left' lqq]
              have t4 : (msk { m with left := n }).fs.drop (qq.len + 1) = p.fd.reverse := by rw [e6, List.drop_left' lqf]
              rw [t3, t4] at avk
              rw [t1, t2, t3] at k4
              have k4 : SkAt C R3 H3 (msk { m with left := n, pcs := qq, kept := m.kept + p.len }) a dx lp lh lf ext := by
                have e7 : p.hd.reverse.length = p.len := by rw [List.length_reverse, Pcs.len_hd]
                rw [e7] at k4
                exact k4
              have hed : (upd (upd H2 d (.dK [])) d (.dK (kz out.keys nvs))) e2 = none := ne
              have ddF : ∀ {b : Addr} {oo : HO}, H2 b = none → (upd (upd (upd H2 d (.dK [])) d (.dK (kz out.keys nvs))) e2 (.dK [])) b = some oo → ¬ Fsk a lp lh lf b := fun {b} {oo} hb _ f => by
                have z1 := i2
                obtain ⟨_, z2, _⟩ := k2.hs
                obtain ⟨_, z3, _⟩ := k2.fs
                rcases f with f | f | f | f
                · rw [f, z1] at hb; cases hb
                · rw [f, k2.pr] at hb; cases hb
                · rw [f, z2] at hb; cases hb
                · rw [f, z3] at hb; cases hb
              have ne0 : H2 e2 = none := by rw [upd_ne (Ne.symm nde), upd_ne (Ne.symm nde)] at ne; exact ne
              have he3 : H3 e2 = some (.dK []) := m3.keep _ _ upd_same (ddF ne0 upd_same)
              have hd3a : (upd (upd (upd H2 d (.dK [])) d (.dK (kz out.keys nvs))) e2 (.dK [])) d = some (.dK (kz out.keys nvs)) := by rw [upd_ne nde, upd_same]
              have hd3 : H3 d = some (.dK (kz out.keys nvs)) := m3.keep _ _ hd3a (ddF nd hd3a)
              refine ⟨by show 2 ≤ sizeLine; decide, fun p3 n3 => ?_⟩
              have m4 := m3.tr (mv_new (F := Fsk a lp lh lf) (o := .tup [.str "kept", vk]) m3.sub n3)
              have k5 := k4.new (o := .tup [.str "kept", vk]) m3.sub n3
              have ak : At (upd R3 p3 (.tup [.str "kept", vk])) (Val.kept p).d (.ref p3) := .ntup (l := [.str "kept", .tup [.lst p.hd.reverse, .lst p.fd.reverse]]) m3.sub n3 ⟨_, _, rfl, rfl, _, _, rfl, avk, rfl⟩
              have he4 := same_new (o := .tup [.str "kept", vk]) n3 _ _ he3
              have hd4 := same_new (o := .tup [.str "kept", vk]) n3 _ _ hd3
              refine ⟨he4, hd4, [((Sum.inr x : Key), u), ((Sum.inr k : Key), V.ref p3)], rfl, (by show 2 ≤ 15; decide), ?_⟩
              have up4 : Same R (upd R3 p3 (.tup [.str "kept", vk])) := m12.up.trans m4.up
              have ans4 := ans.up m4.up
              obtain ⟨ws2, ew, aw⟩ := env_put (au.up up4) nn ans4
              obtain ⟨ws3, ew3, aw3⟩ := env_put ak (Env.put_nd (x := x) (v := v) nn) aw
              rw [merge2, ew, ew3]
              obtain ⟨mf, rdd, _⟩ := dst_mut (more := mergeK [] [((Sum.inr x : Key), u), ((Sum.inr k : Key), V.ref p3)]) (fin := kz ((out.put x v).put k (.kept p)).keys ws3) m2.sub nd ne m4 he4 hd4
              have red : (upd R3 p3 (.tup [.str "kept", vk])) e2 = none := m4.out (o := .dK []) (m2.sub.free ne0) upd_same
              have mg1 : Mv (fun y => y = e2) _ _ _ _ := mv_at (o := .dK (mergeK [] [((Sum.inr x : Key), u), ((Sum.inr k : Key), V.ref p3)])) m4.sub red he4 rfl
              have mg2 : Mv (fun y => y = e2 ∨ y = d) _ _ _ _ := (mg1.mono (fun y f => Or.inl f)).tr (mv_at (F := fun y => y = e2 ∨ y = d) (o := .dK (kz ((out.put x v).put k (.kept p)).keys ws3)) mg1.sub rdd (by rw [upd_ne nde]; exact hd4) (.inr rfl))
              have nF : ∀ {b : Addr}, Fsk a lp lh lf b → ¬ (b = e2 ∨ b = d) := fun {b} f g => by
                rcases g with g | g
                · exact ddF (b := b) (by rw [g]; exact ne0) (by rw [g]; exact upd_same) f
                · exact ddF (b := b) (by rw [g]; exact nd) (by rw [g]; exact hd3a) f
              have k6 := k5.up mg2 (nF (.inl rfl)) (nF (.inr (.inl rfl))) (nF (.inr (.inr (.inl rfl)))) (nF (.inr (.inr (.inr rfl))))
              have k7 := k6.freeze (o := .dK (kz ((out.put x v).put k (.kept p)).keys ws3)) rdd (ddF nd hd3a)
              exact sk_ret k7 (m12.tr mf) q (ag.up mf.up) ⟨d, ws3, rfl, upd_same, aw3.up (same_new rdd), by rw [Env.len_keys, Env.len_ds], Env.put_nd (Env.put_nd nn)⟩
            · rw [if_neg hlen2] at hm
              cases hm
        · rw [if_neg hah] at hm
          cases hm
    | _ => exact ok.elim
end
end Bz


set_option Elab.async false
set_option linter.all false
set_option maxRecDepth 100000
set_option maxHeartbeats 4000000
namespace Bz
open PySem PySem.Spec L2 PyProof.Rows
def oenv : Option Env → D
  | none => .non
  | some e => e.d
theorem shpSz_eq : ∀ s : Shp, endM.shpSz s = shpSize s
  | .int _ => rfl
  | .bool _ => rfl
  | .unit => rfl
  | .fn => rfl
  | .pair a b => by
    show endM.shpSz a + endM.shpSz b + 1 = shpSize a + shpSize b + 1
    rw [shpSz_eq a, shpSz_eq b]
def preF (m : Ms) : List D := match m.pcs with
  | .nil => []
  | .cons _ _ _ r => m.bot.d :: r.fd.reverse
theorem top_fs (m : Ms) : (msk m).fs = preF m ++ [m.top.d] := by
  unfold msk preF Ms.top
  cases m.pcs with
  | nil => rfl
  | cons e env fs r =>
    show m.bot.d :: (fs.d :: r.fd).reverse = (m.bot.d :: r.fd.reverse) ++ [fs.d]
    rw [List.reverse_cons]
    rfl
theorem setTop_msk (m : Ms) (f : Frs) : msk (m.setTop f) = { msk m with fs := preF m ++ [f.d] } := by
  unfold msk preF Ms.setTop
  cases h : m.pcs with
  | nil => simp only [h]; rfl
  | cons e env fs r =>
    show Sk.mk m.left m.prints (finD m.fin) (.non :: (D.tup [e.d true, env.d] :: r.hd).reverse) (m.bot.d :: (f.d :: r.fd).reverse) m.kept m.most = Sk.mk m.left m.prints (finD m.fin) (.non :: (D.tup [e.d true, env.d] :: r.hd).reverse) ((m.bot.d :: r.fd.reverse) ++ [f.d]) m.kept m.most
    rw [List.reverse_cons (a := f.d)]
    rfl
theorem wait_set (m : Ms) (e : Ex) (env : Env) (vs : Vls) : m.wait e env vs = m.setTop (.cons e env vs m.top) := by
  unfold Ms.wait Ms.setTop Ms.top
  cases m.pcs <;> rfl
theorem rule_len {m : Ms} {e : Ex} {env : Env} {ws : Vls} {r : Rz} (h : ruleM m e env ws = some r) : ws.len = (evs e).length ∧ isHd e = false := by
  have l0 : ∀ {u : Unit}, v0 ws = some u → ws.len = 0 := fun h => by rw [v0_of h]; rfl
  have l1 : ∀ {v : Val}, v1 ws = some v → ws.len = 1 := fun h => by rw [v1_of h]; rfl
  have l2 : ∀ {v : Val × Val}, v2 ws = some v → ws.len = 2 := fun h => by rw [v2_of h]; rfl
  cases e with
  | hd e x f cs => cases h
  | num n => obtain ⟨_, h1, _⟩ := Option.map_eq_some_iff.mp h; exact ⟨l0 h1, rfl⟩
  | flag n => obtain ⟨_, h1, _⟩ := Option.map_eq_some_iff.mp h; exact ⟨l0 h1, rfl⟩
  | unit => obtain ⟨_, h1, _⟩ := Option.map_eq_some_iff.mp h; exact ⟨l0 h1, rfl⟩
  | name n => obtain ⟨_, h1, _⟩ := Option.bind_eq_some_iff.mp h; exact ⟨l0 h1, rfl⟩
  | fn x b => obtain ⟨_, h1, _⟩ := Option.bind_eq_some_iff.mp h; exact ⟨l0 h1, rfl⟩
  | rc y x b => obtain ⟨_, h1, _⟩ := Option.bind_eq_some_iff.mp h; exact ⟨l0 h1, rfl⟩
  | call f a => obtain ⟨_, h1, _⟩ := Option.bind_eq_some_iff.mp h; exact ⟨l2 h1, rfl⟩
  | lt x a b => obtain ⟨_, h1, _⟩ := Option.bind_eq_some_iff.mp h; exact ⟨l1 h1, rfl⟩
  | ite a b c => obtain ⟨_, h1, _⟩ := Option.bind_eq_some_iff.mp h; exact ⟨l1 h1, rfl⟩
  | pair a b => obtain ⟨_, h1, _⟩ := Option.map_eq_some_iff.mp h; exact ⟨l2 h1, rfl⟩
  | fst a => obtain ⟨_, h1, _⟩ := Option.bind_eq_some_iff.mp h; exact ⟨l1 h1, rfl⟩
  | snd a => obtain ⟨_, h1, _⟩ := Option.bind_eq_some_iff.mp h; exact ⟨l1 h1, rfl⟩
  | op s a b => obtain ⟨_, h1, _⟩ := Option.bind_eq_some_iff.mp h; exact ⟨l2 h1, rfl⟩
  | nt a => obtain ⟨_, h1, _⟩ := Option.bind_eq_some_iff.mp h; exact ⟨l1 h1, rfl⟩
  | pr a b => obtain ⟨_, h1, _⟩ := Option.bind_eq_some_iff.mp h; exact ⟨l1 h1, rfl⟩
  | ask o a => obtain ⟨_, h1, _⟩ := Option.bind_eq_some_iff.mp h; exact ⟨l1 h1, rfl⟩
theorem ev_at {e p : Ex} {i : Nat} (h : (evs e)[i]? = some p) : i < (evs e).length ∧ ∃ (j : Nat) (l : List D), (evIdx e)[i]? = some (j : Int) ∧ e.d true = .tup l ∧ l[j]? = some (p.d true) := by
  refine ⟨(List.getElem?_eq_some_iff.mp h).1, ?_⟩
  cases e with
  | call f a =>
    match i, h with
    | 0, h => cases h; exact ⟨1, _, rfl, rfl, rfl⟩
    | 1, h => cases h; exact ⟨2, _, rfl, rfl, rfl⟩
  | pair f a =>
    match i, h with
    | 0, h => cases h; exact ⟨1, _, rfl, rfl, rfl⟩
    | 1, h => cases h; exact ⟨2, _, rfl, rfl, rfl⟩
  | op s f a =>
    match i, h with
    | 0, h => cases h; exact ⟨2, _, rfl, rfl, rfl⟩
    | 1, h => cases h; exact ⟨3, _, rfl, rfl, rfl⟩
  | lt x a b => match i, h with
    | 0, h => cases h; exact ⟨2, _, rfl, rfl, rfl⟩
  | ite a b c => match i, h with
    | 0, h => cases h; exact ⟨1, _, rfl, rfl, rfl⟩
  | fst a => match i, h with
    | 0, h => cases h; exact ⟨1, _, rfl, rfl, rfl⟩
  | snd a => match i, h with
    | 0, h => cases h; exact ⟨1, _, rfl, rfl, rfl⟩
  | nt a => match i, h with
    | 0, h => cases h; exact ⟨1, _, rfl, rfl, rfl⟩
  | pr a b => match i, h with
    | 0, h => cases h; exact ⟨1, _, rfl, rfl, rfl⟩
  | ask o a => match i, h with
    | 0, h => cases h; exact ⟨2, _, rfl, rfl, rfl⟩
  | hd a x f cs => match i, h with
    | 0, h => cases h; exact ⟨1, _, rfl, rfl, rfl⟩
  | _ => simp [evs] at h
theorem ev_len (e : Ex) : (evIdx e).length = (evs e).length := by cases e <;> rfl
section
variable {P : Program} {w : World} {K : PySem.W.Frag} {mg : Str → Option Value} {base : Heap}
abbrev g_end_piece : Stmt := topS 23
abbrev n_end_piece : List Str := ["machine", "value", "handle", "bindings", "name", "body"]
abbrev p_end_piece : List Str := ["machine", "value"]
theorem sc_end_piece : FnScope n_end_piece p_end_piece (defScope g_end_piece) := ⟨rfl, rfl, rfl, by decide +kernel, rfl, by decide +kernel, by decide +kernel⟩
def spEndP (C : Addr) : Sp := fun vs H Q _ => ∃ (a dx lp lh lf : Addr) (ext : List (Str × V)) (R : Hp) (m : Ms) (v : Val) (vv : V) (r : Ms × Tree × Option Env), vs = [.ref a, vv] ∧ Same R H ∧ SkAt C R H (msk m) a dx lp lh lf ext ∧ At R v.d vv ∧ m.top = .nil ∧ endM m v = some r ∧
  SkOut C R H (msk r.1) a dx lp lh lf ext fun R' H' => ∀ u, At R' (.tup [r.2.1.d, oenv r.2.2]) u → Q u H'
theorem ok_endp {f fE fT C : Addr} {fd fdE fdT : FuncData} (F : Fun K "end_piece" "end_piece" g_end_piece f fd) (T : SkTxt K C) (ml : mg "len" = none)
    (GE : Mt P w K mg base CX0 C 2 "end_with" p_Run_end_with (spEnd C) fE fdE) (GT : Mt P w K mg base CX0 C 1 "take" p_Stack_take (spTakeP C) fT fdT) : FnOk P w K mg base CX0 3 f fd p_end_piece (spEndP C) := by
  refine F.ok sc_end_piece (fun vs H Q E h => ?_) (fun cdv A outer st H vs Q E hr h => ?_)
  · obtain ⟨a, dx, lp, lh, lf, ext, R, m, v, vv, r, rfl, _⟩ := h
    rfl
  · obtain ⟨a, dx, lp, lh, lf, ext, R, m, v, vv, r, rfl, sub, hs, hv, htop, hm, q⟩ := h
    refine ⟨_, (pss_cons (ps_if (pt_cmpR op_eq (pe_callB call_len_seq (by rfl) ml PySem.boot_len (pa_cons (pe_fld (pv 0) rfl) pa_nil)) (pe_int) (nomark _)) (pss_cons (ps_expr (pe_meth (pv 0) GE.c GE.m GE.ok (hr.mono (by omega)) GE.b .nil pass0 (pa_cons (pv 1) pa_nil)))
      (pss_one (ps_ret (pe_tup (pa_cons (pe_tup (pa_cons (pe_str) (pa_cons (pv 1) pa_nil))) (pa_cons (pe_non) pa_nil)))))) pss_nil)
      (pss_cons (ps_asg (pe_meth0 (pv 0) GT.c GT.m GT.ok (hr.mono (by omega)) GT.b .nil pass0) (pg_tup rfl (pgs_cons (pg_name (i := 2) sc_end_piece.nd rfl (Or.inl rfl)) (pgs_cons (pg_name (i := 3) sc_end_piece.nd rfl (Or.inl rfl)) pgs_nil))))
      (pss_cons (ps_asg (pe_ix ix_tup (pv 2) (pe_int) (fun _ _ => rfl)) (pg_tup rfl (pgs_cons (pg_name (i := 4) sc_end_piece.nd rfl (Or.inl rfl)) (pgs_cons (pg_name (i := 5) sc_end_piece.nd rfl (Or.inl rfl)) pgs_nil))))
      (pss_one (ps_ret (pe_tup (pa_cons (pv 5) (pa_cons (Rd.pe_dstar (pv 3) (pps_cons (pv 4) (pv 1) pps_nil) (by rfl) (by rfl) (fun z => by cases z) (by decide)) pa_nil)))))))), ?_⟩
    obtain ⟨vf, e0, i⟩ := hs.ins
    obtain ⟨hvs, h1, h2⟩ := hs.hs
    have hl : hvs.length = m.pcs.len + 1 := by
      rw [h2.length]
      show (D.non :: m.pcs.hd.reverse).length = _
      rw [List.length_cons, List.length_reverse, Pcs.len_hd]
    refine ⟨_, rfl, a, C, dx, _, _, rfl, i, T.cl, T.nH, rfl, lh, _, rfl, .inl (SqL.of h1), rfl, _, rfl, ?_⟩
    unfold endM at hm
    cases hp : m.pcs with
    | nil =>
      rw [hp] at hm hl
      refine ifT (decide_eq_true (by rw [hl]; rfl)) ?_
      dsimp only at hm
      by_cases hz : endM.shpSz v.shp ≤ 900000
      · rw [if_pos hz] at hm
        cases hm
        rw [shpSz_eq] at hz
        refine ⟨_, rfl, a, dx, _, rfl, i, flds_no (by decide) hs.x, _, rfl, ?_⟩
        refine ⟨a, dx, lp, lh, lf, ext, R, _, vv, v.d, v.shp, rfl, sub, hs, hv, v.vs, by omega, fun R1 H1 k1 m1 => ?_⟩
        have k1 : SkAt C R1 H1 (msk { m with fin := some (.val v.shp) }) a dx lp lh lf ext := k1
        refine ⟨_, rfl, by show 2 ≤ sizeLine; decide, fun p3 n3 => ?_⟩
        have m2 := m1.tr (mv_new (F := Fsk a lp lh lf) (o := .tup [.str "known", vv]) m1.sub n3)
        rw [hp] at k1
        exact sk_ret (k1.new m1.sub n3) m2 q (.ntup (l := [.str "known", v.d]) m1.sub n3 ⟨_, _, rfl, rfl, _, _, rfl, hv.up m1.up, rfl⟩) at_non
      · rw [if_neg hz] at hm
        cases hm
    | cons e env fs r0 =>
      have hfs : fs = .nil := by
        unfold Ms.top at htop
        rw [hp] at htop
        exact htop
      subst hfs
      refine ifF (decide_eq_false (by rw [hl, hp]; intro z; have z := V.int.inj z; have : (Pcs.cons e env Frs.nil r0).len = r0.len + 1 := rfl; omega)) ?_
      cases e with
      | hd e1 x fb cs =>
        rw [hp] at hm
        dsimp only at hm
        obtain ⟨en, h3, h4⟩ := Option.map_eq_some_iff.mp hm
        subst h4
        obtain ⟨hlen, rfl⟩ := putG_of h3
        refine ⟨_, rfl, a, dx, _, rfl, i, flds_no (by decide) hs.x, ?_⟩
        refine ⟨a, dx, lp, lh, lf, ext, R, _, .non :: r0.hd.reverse, m.bot.d :: r0.fd.reverse, .tup [(Ex.hd e1 x fb cs).d true, env.d], .non, rfl, sub, hs, ?_, ?_, fun R1 H1 k1 m1 => ?_⟩
        · show D.non :: m.pcs.hd.reverse = _
          rw [hp]
          show D.non :: (D.tup [_, _] :: r0.hd).reverse = _
          rw [List.reverse_cons]
          rfl
        · show m.bot.d :: m.pcs.fd.reverse = _
          rw [hp]
          show m.bot.d :: (D.non :: r0.fd).reverse = _
          rw [List.reverse_cons]
          rfl
        have k1 : SkAt C R1 H1 (msk { m with pcs := r0 }) a dx lp lh lf ext := k1
        intro z az
        obtain ⟨pz, _, rfl, hpz, w1, _, rfl, a1, w2, _, rfl, a2, rfl⟩ := az
        obtain ⟨ph, _, rfl, hph, _, _, rfl, rfl, w3, _, rfl, a3, w4, _, rfl, ⟨pr, _, rfl, hpr, _, _, rfl, rfl, w5, _, rfl, a5, rfl⟩, w6, _, rfl, a6, rfl⟩ := a1
        refine ⟨pz, _, rfl, SqT.of (m1.sub _ _ hpz), rfl, _, _, rfl, _, _, rfl, rfl, ?_⟩
        refine ⟨_, rfl, ph, _, 2, _, rfl, rfl, SqT.of (m1.sub _ _ hph), rfl, pr, _, rfl, SqT.of (m1.sub _ _ hpr), rfl, _, _, rfl, _, _, rfl, rfl, ?_⟩
        obtain ⟨pn, nvs, rfl, hpn, ans, nl, nn⟩ := a2
        refine ⟨_, rfl, fun d nd => ?_⟩
        obtain ⟨k1', k2', k3'⟩ := ent m1.sub hpn ans hlen nd
        refine ⟨_, rfl, pn, _, rfl, k1', k2', upd_same, k3', fun e2 ne => ?_⟩
        have nde : d ≠ e2 := fun z => by rw [← z, upd_same] at ne; cases ne
        refine ⟨_, rfl, _, rfl, ?_⟩
        refine ⟨upd_same, (by rw [upd_ne nde, upd_same]), [((Sum.inr x : Key), vv)], rfl, (by show 1 ≤ 15; decide), ?_⟩
        obtain ⟨ws2, ew, aw⟩ := env_put (hv.up m1.up) nn ans
        rw [merge1, ew]
        have mf : Mv F0 R1 H1 _ _ := dst_pure (more := mergeK [] [((Sum.inr x : Key), vv)]) (fin := kz (env.put x v).keys ws2) m1.sub nd ne
        exact sk_ret (k1.up0 mf) (m1.tr0 mf) q (a5.up mf.up) ⟨d, ws2, rfl, upd_same, aw.up mf.up, by rw [Env.len_keys, Env.len_ds], Env.put_nd nn⟩
      | _ => rw [hp] at hm; cases hm
abbrev g_go_on : Stmt := topS 22
abbrev n_go_on : List Str := ["machine", "expression", "bindings", "values", "form", "places", "rule"]
abbrev p_go_on : List Str := ["machine", "expression", "bindings", "values"]
theorem sc_go_on : FnScope n_go_on p_go_on (defScope g_go_on) := ⟨rfl, rfl, rfl, by decide +kernel, rfl, by decide +kernel, by decide +kernel⟩
structure FeTxt (K : PySem.W.Frag) (w : World) (mg : Str → Option Value) (p : Addr) : Prop where
  g : mg "FIRST_EVALUATED" = some (.ref p)
  d : ∀ e : Ex, ∃ a, KDct K w p (tagE e) (.ref a) ∧ ∀ H : Hp, SqT K H a ((evIdx e).map V.int)
def spGo (C : Addr) : Sp := fun vs H Q _ => ∃ (a dx lp lh lf : Addr) (ext : List (Str × V)) (R : Hp) (m : Ms) (e : Ex) (env : Env) (ws : Vls) (ve vn vv : V) (r : Rz), vs = [.ref a, ve, vn, vv] ∧ Same R H ∧ SkAt C R H (msk m) a dx lp lh lf ext ∧
  At R (e.d true) ve ∧ At R env.d vn ∧ At R (.tup ws.ds) vv ∧ goM m e env ws = some r ∧ SkOut C R H (msk r.1) a dx lp lh lf ext fun R' H' => ∀ u, At R' (.tup [r.2.1.d, r.2.2.d]) u → Q u H'
theorem ok_go {f fP fW C pF pR : Addr} {fd fdP fdW : FuncData} {ra : Ex → Addr} (F : Fun K "go_on" "go_on" g_go_on f fd) (T : SkTxt K C) (ml : mg "len" = none) (TF : FeTxt K w mg pF)
    (gR : mg "RULES" = some (.ref pR)) (dR : ∀ e : Ex, isHd e = false → KDct K w pR (tagE e) (.ref (ra e)))
    (A : ∀ e : {e : Ex // isHd e = false}, ∃ fd ps, FnOk P w K mg base CX0 3 (ra e.1) fd ps (spR (fun e2 => e2 = e.1) C) ∧ PySem.W.keepIn K (.ref (ra e.1)) = true ∧ Binds K fd ps [])
    (GP : Mt P w K mg base CX0 C 2 "put" p_Stack_put (spPut C) fP fdP) (GW : Mt P w K mg base CX0 C 1 "wait" p_Stack_wait (spWait C) fW fdW) : FnOk P w K mg base CX0 4 f fd p_go_on (spGo C) := by
  refine F.ok sc_go_on (fun vs H Q E h => ?_) (fun cdv A' outer st H vs Q E hr h => ?_)
  · obtain ⟨a, dx, lp, lh, lf, ext, R, m, e, env, ws, ve, vn, vv, r, rfl, _⟩ := h
    rfl
  · obtain ⟨a, dx, lp, lh, lf, ext, R, m, e, env, ws, ve, vn, vv, r, rfl, sub, hs, he, hn, hv, hm, q⟩ := h
    refine ⟨_, (pss_cons (ps_set (i := 4) sc_go_on.nd rfl (Or.inl rfl) (pe_ix ix_tup (pv 1) (pe_int) (fun _ _ => rfl)))
      (pss_cons (ps_set (i := 5) sc_go_on.nd rfl (Or.inl rfl) (pe_ix ix_kdict (pe_glob (v := .ref pF) rfl TF.g rfl) (pv 4) (fun _ _ => rfl)))
      (pss_cons (ps_if (pt_cmpR op_eq (pe_callB call_len_seq (by rfl) ml PySem.boot_len (pa_cons (pv 3) pa_nil)) (pe_callB call_len_seq (by rfl) ml PySem.boot_len (pa_cons (pv 5) pa_nil)) (nomark _)) (pss_cons (ps_set (i := 6) sc_go_on.nd rfl (Or.inl rfl) (pe_ix ix_kdict (pe_glob (v := .ref pR) rfl gR rfl) (pv 4) (fun _ _ => rfl)))
      (pss_one (ps_ret (pe_callR (i := 6) (ad := fun e : {e : Ex // isHd e = false} => ra e.1) (sp := fun e => spR (fun e2 => e2 = e.1) C) A (hr.mono (by omega)) rfl (.inl rfl) pass0 (pa_cons (pv 0) (pa_cons (pv 1) (pa_cons (pv 2) (pa_cons (pv 3) pa_nil)))))))) pss_nil)
      (C8.pss_cut (ps_if (pt_cmpR op_eq (pv 4) (pe_str) (nomark _)) (pss_one (ps_expr (pe_meth (pv 0) GP.c GP.m GP.ok (hr.mono (by omega)) GP.b .nil pass0 (pa_cons (pe_tup (pa_cons (pv 1) (pa_cons (pv 2) pa_nil))) pa_nil)))) (pss_one (ps_expr (pe_meth (pv 0) GW.c GW.m GW.ok (hr.mono (by omega)) GW.b .nil pass0 (pa_cons (pe_tup (pa_cons (pv 1) (pa_cons (pv 2) (pa_cons (pv 3) pa_nil)))) pa_nil)))))
      (pss_one (ps_ret (pe_tup (pa_cons (pe_ix ix_tup (pv 1) (pe_ix ix_tup (pv 5) (pe_callB call_len_seq (by rfl) ml PySem.boot_len (pa_cons (pv 3) pa_nil)) (fun _ _ => rfl)) (fun _ _ => rfl)) (pa_cons (pv 2) pa_nil))))))))), ?_⟩
    have he' := he
    obtain ⟨pe, er, rfl, hpe⟩ := ex_head he
    have hv' := hv
    obtain ⟨pv_, wvs, rfl, hpv, awv⟩ := hv
    have lw : wvs.length = ws.len := by rw [awv.length, Vls.len_ds]
    obtain ⟨aF, dF, sF⟩ := TF.d e
    refine ⟨_, rfl, pe, _, 0, _, rfl, rfl, SqT.of (sub _ _ hpe), atI_nat (j := 0) rfl, ?_⟩
    refine ⟨_, rfl, pF, _, _, rfl, rfl, dF, ?_⟩
    refine ⟨_, rfl, pv_, _, rfl, .inr (SqT.of (sub _ _ hpv)), _, rfl, aF, _, rfl, .inr (sF _), rfl, _, rfl, ?_⟩
    have ev_l := ev_len e
    unfold goM at hm
    cases hp : (evs e)[ws.len]? with
    | none =>
      rw [hp] at hm
      obtain ⟨hl, hh⟩ := rule_len hm
      refine ifT (decide_eq_true (by rw [List.length_map, ev_l, lw, hl])) ?_
      refine ⟨_, rfl, pR, _, _, rfl, rfl, dR e hh, ?_⟩
      refine ⟨⟨e, hh⟩, rfl, _, rfl, _, rfl, _, rfl, _, rfl, ?_⟩
      exact ⟨a, dx, lp, lh, lf, ext, R, m, e, env, ws, _, vn, _, r, rfl, sub, hs, he', hn, hv', rfl, hm, q⟩
    | some p =>
      rw [hp] at hm
      dsimp only at hm
      obtain ⟨lt, j, l, ej, el, ep⟩ := ev_at hp
      refine ifF (decide_eq_false (by rw [List.length_map, ev_l, lw]; intro e; have e := V.int.inj e; omega)) ?_
      refine ⟨fun σ H1 => σ = [some (.ref a), some (.ref pe), some vn, some (.ref pv_), some (.str (tagE e)), some (.ref aF), none] ∧ ∃ R1, SkAt C R1 H1 (msk r.1) a dx lp lh lf ext ∧ Mv (Fsk a lp lh lf) R H R1 H1 ∧ r.2 = (.ex p, env), ?_, ?_⟩
      · obtain ⟨vf, e0, i⟩ := hs.ins
        refine ⟨_, rfl, rfl, _, rfl, ?_⟩
        by_cases hh : isHd e = true
        · rw [if_pos hh] at hm
          have ht : tagE e = "handle" := by cases e <;> first | rfl | cases hh
          refine ifT (decide_eq_true (by rw [ht])) ?_
          by_cases hb : m.pcs.len ≤ 900000
          · rw [if_pos hb] at hm
            cases hm
            refine ⟨_, rfl, a, dx, _, rfl, i, flds_no (by decide) hs.x, _, rfl, _, rfl, by show 2 ≤ sizeLine; decide, fun p1 n1 => ?_⟩
            have m1 : Mv F0 R H _ _ := mv_new (o := .tup [.ref pe, vn]) sub n1
            refine ⟨a, dx, lp, lh, lf, ext, _, _, .ref p1, .tup [e.d true, env.d], rfl, m1.sub, hs.up0 m1, .ntup sub n1 ⟨_, _, rfl, he', _, _, rfl, hn, rfl⟩, ?_, ?_, fun R2 H2 k2 m2 => ?_⟩
            · show (D.non :: m.pcs.hd.reverse).length < 1000000
              rw [List.length_cons, List.length_reverse, Pcs.len_hd]
              omega
            · show (m.bot.d :: m.pcs.fd.reverse).length < 1000000
              rw [List.length_cons, List.length_reverse, Pcs.len_fd]
              omega
            refine ⟨rfl, R2, ?_, (m1.mono fun _ f => f.elim).tr m2, rfl⟩
            have ek : ({ (msk m) with hs := (msk m).hs ++ [.tup [e.d true, env.d]], fs := (msk m).fs ++ [.non], most := Nat.max (msk m).most ((msk m).hs ++ [D.tup [e.d true, env.d]]).length } : Sk) = msk (m.back (.cons e env .nil .nil)) := by
              show Sk.mk m.left m.prints (finD m.fin) ((D.non :: m.pcs.hd.reverse) ++ [D.tup [e.d true, env.d]]) ((m.bot.d :: m.pcs.fd.reverse) ++ [D.non]) m.kept (Nat.max m.most ((D.non :: m.pcs.hd.reverse) ++ [D.tup [e.d true, env.d]]).length) = Sk.mk m.left m.prints (finD m.fin) (D.non :: (D.tup [e.d true, env.d] :: m.pcs.hd).reverse) (m.bot.d :: (D.non :: m.pcs.fd).reverse) m.kept (Nat.max m.most (m.pcs.len + 1 + 1))
              rw [List.reverse_cons, List.reverse_cons]
              rw [show ((D.non :: m.pcs.hd.reverse) ++ [D.tup [e.d true, env.d]]).length = m.pcs.len + 1 + 1 by rw [List.length_append, List.length_cons, List.length_reverse, Pcs.len_hd]; rfl]
              rfl
            rw [ek] at k2
            exact k2
          · rw [if_neg hb] at hm
            cases hm
        · rw [if_neg hh] at hm
          cases hm
          have ht : tagE e ≠ "handle" := by cases e <;> first | (exact absurd rfl hh) | (intro h; simp only [tagE] at h; revert h; decide +kernel)
          refine isF ht ?_
          refine ⟨_, rfl, a, dx, _, rfl, i, flds_no (by decide) hs.x, _, rfl, _, rfl, _, rfl, by show 3 ≤ sizeLine; decide, fun p1 n1 => ?_⟩
          have m1 : Mv F0 R H _ _ := mv_new (o := .tup [.ref pe, vn, .ref pv_]) sub n1
          refine ⟨a, dx, lp, lh, lf, ext, _, _, .ref p1, .tup [e.d true, env.d, .tup ws.ds], m.top.d, preF m, rfl, m1.sub, hs.up0 m1, .ntup sub n1 ⟨_, _, rfl, he', _, _, rfl, hn, _, _, rfl, hv', rfl⟩, top_fs m, fun R2 H2 k2 m2 => ?_⟩
          refine ⟨rfl, R2, ?_, (m1.mono fun _ f => f.elim).tr m2, rfl⟩
          rw [wait_set, setTop_msk]
          exact k2
      · rintro σ H1 ⟨rfl, R1, k1, m1, er2⟩
        obtain ⟨r1, r2, r3⟩ := r
        cases er2
        have hpe1 := m1.sub _ _ (m1.up _ _ hpe)
        have he1 := he'.up m1.up
        rw [el] at he1
        obtain ⟨pe2, evs_, epe, hpe2, aev⟩ := he1
        obtain rfl : pe = pe2 := V.ref.inj epe
        obtain ⟨u, hu2, au⟩ := aev.get ep
        have hpv1 := m1.sub _ _ (m1.up _ _ hpv)
        have ej2 : ((evIdx e).map V.int)[wvs.length]? = some (.int (j : Int)) := by rw [lw, List.getElem?_map, ej]; rfl
        refine ⟨_, rfl, _, rfl, _, rfl, pv_, _, rfl, .inr (SqT.of hpv1), aF, _, _, _, rfl, rfl, sF _, atI_nat ej2, pe, _, _, _, rfl, rfl, SqT.of (m1.sub _ _ hpe2), atI_nat hu2, _, rfl, ?_⟩
        exact sk_ret k1 m1 q au (hn.up m1.up)
end
end Bz


set_option Elab.async false
set_option linter.all false
set_option maxRecDepth 100000
set_option maxHeartbeats 4000000
namespace Bz
open PySem PySem.Spec L2 PyProof.Rows
section
variable {P : Program} {w : World} {K : PySem.W.Frag} {mg : Str → Option Value} {base : Heap}
abbrev g_advanced : Stmt := topS 21
abbrev n_advanced : List Str := ["machine", "tree", "bindings", "frame", "expression", "outside", "values"]
abbrev p_advanced : List Str := ["machine", "tree", "bindings"]
theorem sc_advanced : FnScope n_advanced p_advanced (defScope g_advanced) := ⟨rfl, rfl, rfl, by decide +kernel, rfl, by decide +kernel, by decide +kernel⟩
def spAdv (C : Addr) : Sp := fun vs H Q _ => ∃ (a dx lp lh lf : Addr) (ext : List (Str × V)) (R : Hp) (m : Ms) (t : Tree) (env : Option Env) (vt vn : V) (r : Ms × Tree × Option Env), vs = [.ref a, vt, vn] ∧ Same R H ∧ SkAt C R H (msk m) a dx lp lh lf ext ∧
  At R t.d vt ∧ At R (oenv env) vn ∧ stepM m t env = some r ∧ SkOut C R H (msk r.1) a dx lp lh lf ext fun R' H' => ∀ u, At R' (.tup [r.2.1.d, oenv r.2.2]) u → Q u H'
theorem tag_known (e : Ex) : tagE e ≠ "known" := by cases e <;> (intro h; simp only [tagE] at h; revert h; decide +kernel)
theorem ok_adv {f fG fE fW C : Addr} {fd fdG fdE fdW : FuncData} (F : Fun K "advanced" "advanced" g_advanced f fd)
    (GG : Fn P w K mg base CX0 4 "go_on" p_go_on (spGo C) fG fdG) (GE : Fn P w K mg base CX0 3 "end_piece" p_end_piece (spEndP C) fE fdE) (GW : Mt P w K mg base CX0 C 1 "waiting" p_Stack_waiting (spWaiting C) fW fdW) : FnOk P w K mg base CX0 5 f fd p_advanced (spAdv C) := by
  refine F.ok sc_advanced (fun vs H Q E h => ?_) (fun cdv A' outer st H vs Q E hr h => ?_)
  · obtain ⟨a, dx, lp, lh, lf, ext, R, m, t, env, vt, vn, r, rfl, _⟩ := h
    rfl
  · obtain ⟨a, dx, lp, lh, lf, ext, R, m, t, env, vt, vn, r, rfl, sub, hs, ht, hn, hm, q⟩ := h
    refine ⟨_, (pss_cons (ps_if (pt_cmpR op_ne (pe_ix ix_tup (pv 1) (pe_int) (fun _ _ => rfl)) (pe_str) (nomark _)) (pss_one (ps_ret (pe_call GG.ok hr (by rfl) GG.g GG.kp GG.b .nil pass0 (pa_cons (pv 0) (pa_cons (pv 1) (pa_cons (pv 2) (pa_cons (pe_tup pa_nil) pa_nil))))))) pss_nil)
      (pss_cons (ps_set (i := 3) sc_advanced.nd rfl (Or.inl rfl) (pe_meth0 (pv 0) GW.c GW.m GW.ok (hr.mono (by omega)) GW.b .nil pass0))
      (pss_cons (ps_if (pt_cmpR op_isN (pv 3) pe_non (nomark _)) (pss_one (ps_ret (pe_call GE.ok (hr.mono (by omega)) (by rfl) GE.g GE.kp GE.b .nil pass0 (pa_cons (pv 0) (pa_cons (pe_ix ix_tup (pv 1) (pe_int) (fun _ _ => rfl)) pa_nil))))) pss_nil)
      (pss_cons (ps_asg (pv 3) (pg_tup rfl (pgs_cons (pg_name (i := 4) sc_advanced.nd rfl (Or.inl rfl)) (pgs_cons (pg_name (i := 5) sc_advanced.nd rfl (Or.inl rfl)) (pgs_cons (pg_name (i := 6) sc_advanced.nd rfl (Or.inl rfl)) pgs_nil)))))
      (pss_one (ps_ret (pe_call GG.ok hr (by rfl) GG.g GG.kp GG.b .nil pass0 (pa_cons (pv 0) (pa_cons (pv 4) (pa_cons (pv 5) (pa_cons (pe_tup (StX.pa_star (pv 6) (pa_cons (pe_ix ix_tup (pv 1) (pe_int) (fun _ _ => rfl)) pa_nil))) pa_nil))))))))))), ?_⟩
    cases t with
    | ex e =>
      have he' : At R (e.d true) vt := ht
      obtain ⟨pe, er, rfl, hpe⟩ := ex_head he'
      refine ⟨_, rfl, pe, _, 0, _, rfl, rfl, SqT.of (sub _ _ hpe), atI_nat (j := 0) rfl, rfl, _, rfl, ?_⟩
      refine ifT (by rw [decide_eq_false fun z => tag_known e (V.str.inj z)]; rfl) ?_
      cases env with
      | none => cases hm
      | some en =>
        obtain ⟨r2, h1, h2⟩ := Option.map_eq_some_iff.mp (show (goM m e en .nil).map (fun r => (r.1, r.2.1, some r.2.2)) = some r from hm)
        subst h2
        refine ⟨_, rfl, _, rfl, _, rfl, Nat.zero_le _, fun p n => ?_⟩
        have m1 : Mv F0 R H _ _ := mv_new (o := .tup []) sub n
        exact ⟨a, dx, lp, lh, lf, ext, _, m, e, en, .nil, _, _, .ref p, r2, rfl, m1.sub, hs.up0 m1, he'.up m1.up, hn.up m1.up, .ntup (vs := []) sub n rfl, h1, fun R' H' k1 m2 => q R' H' k1 ((m1.mono fun _ f => f.elim).tr m2)⟩
    | known v =>
      obtain ⟨pt, _, rfl, hpt, _, _, rfl, rfl, wv, _, rfl, av, rfl⟩ := ht
      refine ⟨_, rfl, pt, _, 0, _, rfl, rfl, SqT.of (sub _ _ hpt), rfl, rfl, _, rfl, ?_⟩
      refine ifF (by rw [decide_eq_true rfl]; rfl) ?_
      obtain ⟨vf, e0, i⟩ := hs.ins
      refine ⟨_, rfl, a, dx, _, rfl, i, flds_no (by decide) hs.x, ?_⟩
      have htf := top_fs m
      have hm : (match m.top with | .nil => endM m v | .cons e en vs r => (goM (m.setTop r) e en (vs.snoc v)).map fun r => (r.1, r.2.1, some r.2.2)) = some r := hm
      cases hp : m.top with
      | nil =>
        rw [hp] at hm htf
        refine ⟨a, dx, lp, lh, lf, ext, R, msk m, preF m, rfl, sub, hs, .inl ⟨htf, ?_⟩⟩
        refine ⟨_, rfl, rfl, _, rfl, ?_⟩
        refine iteT ?_
        refine ⟨_, rfl, _, rfl, pt, _, 1, _, rfl, rfl, SqT.of (sub _ _ hpt), rfl, ?_⟩
        exact ⟨a, dx, lp, lh, lf, ext, R, m, v, wv, r, rfl, sub, hs, av, hp, hm, q⟩
      | cons e en vs rest =>
        rw [hp] at hm htf
        obtain ⟨r2, h1, h2⟩ := Option.map_eq_some_iff.mp hm
        subst h2
        refine ⟨a, dx, lp, lh, lf, ext, R, msk m, preF m, rfl, sub, hs, .inr ⟨_, rest.d, htf, fun R1 H1 k1 m1 => ?_⟩⟩
        rw [← setTop_msk m rest] at k1
        intro z az
        obtain ⟨pz, _, rfl, hpz, w1, _, rfl, a1, w2, _, rfl, a2, w3, _, rfl, ⟨pv_, wvs, rfl, hpv, awv⟩, rfl⟩ := az
        refine ⟨_, rfl, rfl, _, rfl, ?_⟩
        refine iteF ?_
        refine ⟨_, rfl, pz, _, rfl, SqT.of (m1.sub _ _ hpz), rfl, _, _, rfl, _, _, rfl, _, _, rfl, rfl, ?_⟩
        have lw : wvs.length = vs.len := by rw [awv.length, Vls.len_ds]
        have lim : vs.len ≤ 2 := by
          unfold goM at h1
          have ls : (vs.snoc v).len = vs.len + 1 := by rw [← Vls.len_ds, Vls.snoc_ds, List.length_append, Vls.len_ds]; rfl
          rw [ls] at h1
          have l2 : (evs e).length ≤ 2 := by cases e <;> simp [evs]
          cases hq : (evs e)[vs.len + 1]? with
          | none =>
            rw [hq] at h1
            have := (rule_len h1).1
            omega
          | some p => have := (List.getElem?_eq_some_iff.mp hq).1; omega
        refine ⟨_, rfl, _, rfl, _, rfl, _, rfl, pv_, wvs, rfl, .inl (SqT.of (m1.sub _ _ hpv)), _, rfl, pt, _, 1, _, rfl, rfl, SqT.of (m1.sub _ _ (m1.up _ _ hpt)), rfl, ?_, fun p n => ?_⟩
        · rw [List.length_append]
          show wvs.length + 1 ≤ sizeLine
          exact big3 (by omega)
        have m2 : Mv F0 R1 H1 _ _ := mv_new (o := .tup (wvs ++ [wv])) m1.sub n
        refine ⟨a, dx, lp, lh, lf, ext, _, m.setTop rest, e, en, vs.snoc v, w1, w2, .ref p, r2, rfl, m2.sub, k1.up0 m2, a1.up m2.up, a2.up m2.up, ?_, h1, fun R' H' k3 m3 => q R' H' k3 ((m1.tr0 m2).tr m3)⟩
        rw [Vls.snoc_ds]
        exact .ntup (vs := wvs ++ [wv]) m1.sub n (awv.snoc (av.up m1.up))
abbrev g_run_counted : Stmt := topS 19
abbrev n_run_counted : List Str := ["expression", "steps", "machine", "tree", "bindings"]
abbrev p_run_counted : List Str := ["expression", "steps"]
theorem sc_run_counted : FnScope n_run_counted p_run_counted (defScope g_run_counted) := ⟨rfl, rfl, rfl, by decide +kernel, rfl, by decide +kernel, by decide +kernel⟩
/-- how a class is made -/
structure Mi (P : Program) (w : World) (K : PySem.W.Frag) (mg : Str → Option Value) (base : Heap) (k : Nat) (ps : List Str) (sp : Sp) (f : Addr) (fd : FuncData) : Prop where
  ok : FnOk P w K mg base CX0 k f fd ps sp
  b : Binds K fd ps []
def spRun (N : Nat) : Sp := fun vs H Q _ => ∃ (R : Hp) (e : Ex) (v : V) (n : Nat) (mf : Ms) (f : Fin) (k : Nat), vs = [v, .int (n : Int)] ∧ Same R H ∧ At R (e.d false) v ∧ exD e ≤ N ∧ smE e = true ∧ okP N e ∧ runM k (startM n) (.ex e) (some .nil) = some mf ∧ mf.fin = some f ∧
  ∀ (R' H' : Hp) (u : V), Mv F0 R H R' H' → At R' (.tup [.tup (mf.prints.map D.int), f.d, .tup [.int mf.kept, .int mf.most]]) u → Q u H'
theorem ints_ats {R : Hp} : ∀ (l : List Int), Ats R (l.map D.int) (l.map V.int)
  | [] => rfl
  | b :: bs => ⟨_, _, rfl, rfl, ints_ats bs⟩
def RunW (C : Addr) (R H : Hp) (ve vs : V) (a dx lp lh lf : Addr) (mf : Ms) (k : Nat) (σ : L2.St) (H' : Hp) : Prop := ∃ (R' : Hp) (m : Ms) (t : Tree) (env : Option Env) (vt vb : V), σ = [some ve, some vs, some (.ref a), some vt, some vb] ∧ Mv F0 R H R' H' ∧ SkAt C R' H' (msk m) a dx lp lh lf [] ∧
  At R' t.d vt ∧ At R' (oenv env) vb ∧ runM k m t env = some mf
theorem ok_run {N : Nat} {f fI fP fA C : Addr} {fd fdI fdP fdA : FuncData} (F : Fun K "run_counted" "run_counted" g_run_counted f fd) (T : SkTxt K C) (hN : N ≤ 200) (mtu : mg "tuple" = none)
    (MK : Mk K C fI) (gC : mg "Stack" = some (.ref C)) (GI : Mi P w K mg base 2 p_Stack_init (spSkInit C) fI fdI)
    (GP : Fn P w K mg base CX0 (N + 5 + N) "prepared" p_prepared (spPrep N) fP fdP) (GA : Fn P w K mg base CX0 5 "advanced" p_advanced (spAdv C) fA fdA) : FnOk P w K mg base CX0 (N + 5 + N + 1) f fd p_run_counted (spRun N) := by
  refine F.ok (k := N + 5 + N) sc_run_counted (fun vs H Q E h => ?_) (fun cdv A' outer st H vs Q E hr h => ?_)
  · obtain ⟨R, e, v, n, mf, fn, k, rfl, _⟩ := h
    rfl
  · obtain ⟨R, e, v, n, mf, fn, k, rfl, sub, hv, dep, sm, ok, hm, hf, q⟩ := h
    have hr1 := hr.mono (show 2 + 1 ≤ N + 5 + N by omega)
    refine ⟨_, (pss_cons (ps_set (i := 2) sc_run_counted.nd rfl (Or.inl rfl) (pe_make MK GI.ok hr1 rfl gC GI.b .nil pass0 (pa_cons (pv 1) pa_nil)))
      (pss_cons (ps_set (i := 3) sc_run_counted.nd rfl (Or.inl rfl) (pe_call GP.ok (hr.mono (by omega)) (by rfl) GP.g GP.kp GP.b .nil pass0 (pa_cons (pv 0) pa_nil)))
      (pss_cons (ps_set (i := 4) sc_run_counted.nd rfl (Or.inl rfl) pe_dnewK)
      (pss_cons (ps_while PassesOwn.never (pt_cmpR op_isN (pe_fld (pv 2) rfl) pe_non (nomark _)) (pss_one (ps_asg (pe_call GA.ok (hr.mono (by omega)) (by rfl) GA.g GA.kp GA.b .nil pass0 (pa_cons (pv 2) (pa_cons (pv 3) (pa_cons (pv 4) pa_nil)))) (pg_tup rfl (pgs_cons (pg_name (i := 3) sc_run_counted.nd rfl (Or.inl rfl)) (pgs_cons (pg_name (i := 4) sc_run_counted.nd rfl (Or.inl rfl)) pgs_nil))))))
      (pss_one (ps_ret (pe_tup (pa_cons (pe_callTy call_tuple_of (by rfl) mtu (by decide +kernel) (pa_cons (pe_fld (pv 2) rfl) pa_nil)) (pa_cons (pe_fld (pv 2) rfl) (pa_cons (pe_tup (pa_cons (pe_fld (pv 2) rfl) (pa_cons (pe_fld (pv 2) rfl) pa_nil))) pa_nil)))))))))), ?_⟩
    refine ⟨_, rfl, fun a dx na ndx nad => ?_⟩
    have m1 : Mv F0 R H R _ := (mv_mut (o := .own a) sub ndx).tr (mv_mut (o := .ins C dx []) (mv_mut (F := F0) (o := .own a) sub ndx).sub (by rw [upd_ne (Ne.symm nad)]; exact na))
    refine ⟨a, dx, n, rfl, upd_same, fun lp lh lf n1 n2 n3 d12 d13 d23 => ⟨rfl, ?_⟩⟩
    have nla : ∀ {x : Addr}, (upd (upd H dx (.own a)) a (.ins C dx [])) x = none → a ≠ x ∧ H x = none := fun {x} h => by
      have e1 : a ≠ x := fun e => by rw [← e, upd_same] at h; cases h
      rw [upd_ne (Ne.symm e1)] at h
      have e2 : dx ≠ x := fun e => by rw [← e, upd_same] at h; cases h
      rw [upd_ne (Ne.symm e2)] at h
      exact ⟨e1, h⟩
    have ma : Mv F0 R _ R _ := mv_mut (o := .lst []) m1.sub n1
    have n2' : (upd (upd (upd H dx (.own a)) a (.ins C dx [])) lp (.lst [])) lh = none := by rw [upd_ne (Ne.symm d12)]; exact n2
    have mb := ma.tr (mv_mut (o := .lst [.non]) ma.sub n2')
    have n3' : (upd (upd (upd (upd H dx (.own a)) a (.ins C dx [])) lp (.lst [])) lh (.lst [.non])) lf = none := by rw [upd_ne (Ne.symm d23), upd_ne (Ne.symm d13)]; exact n3
    have mc := mb.tr (mv_mut (o := .lst [.non]) mb.sub n3')
    have ia : (upd (upd (upd (upd (upd H dx (.own a)) a (.ins C dx [])) lp (.lst [])) lh (.lst [.non])) lf (.lst [.non])) a = some (.ins C dx []) := by
      rw [upd_ne (nla n3).1, upd_ne (nla n2).1, upd_ne (nla n1).1, upd_same]
    have ra : R a = none := sub.free na
    have md : Mv (fun x => x = a) R _ R _ := mv_at (o := .ins C dx (flds (skStart n) .non lp lh lf [])) mc.sub ra ia rfl
    have hs0 : SkAt C R (upd (upd (upd (upd (upd (upd H dx (.own a)) a (.ins C dx [])) lp (.lst [])) lh (.lst [.non])) lf (.lst [.non])) a (.ins C dx (flds (skStart n) .non lp lh lf []))) (msk (startM n)) a dx lp lh lf [] := by
      refine ⟨⟨.non, at_non, upd_same⟩, ?_, ⟨[.non], ?_, ⟨_, _, rfl, rfl, rfl⟩⟩, ⟨[.non], ?_, ⟨_, _, rfl, rfl, rfl⟩⟩, d12, d13, d23, ra, sub.free (nla n1).2, sub.free (nla n2).2, sub.free (nla n3).2, xok_nil⟩
      · rw [upd_ne (Ne.symm (nla n1).1), upd_ne d13, upd_ne d12, upd_same]
        rfl
      · rw [upd_ne (Ne.symm (nla n2).1), upd_ne d23, upd_same]
      · rw [upd_ne (Ne.symm (nla n3).1), upd_same]
    have mv0 : Mv F0 R H R _ := (m1.tr mc).trans md (fun _ f => f) fun x f => .inr (by rw [f]; exact na)
    generalize (upd (upd (upd (upd (upd (upd H dx (.own a)) a (.ins C dx [])) lp (.lst [])) lh (.lst [.non])) lf (.lst [.non])) a (.ins C dx (flds (skStart n) .non lp lh lf []))) = H0 at hs0 mv0
    refine ⟨_, rfl, ?_⟩
    refine ⟨R, e, v, rfl, mv0.sub, hv, dep, sm, ok, fun R1 H1 vt m2 at1 => ?_⟩
    have hs1 := hs0.up0 m2
    have mv1 := mv0.tr m2
    intro d nd
    have m3 : Mv F0 R1 H1 _ _ := mv_new (o := .dK []) mv1.sub nd
    refine ⟨RunW C R H v (.int (n : Int)) a dx lp lh lf mf, ⟨k, _, startM n, .ex e, some .nil, vt, .ref d, rfl, mv1.tr m3, hs1.up0 m3, at1.up m3.up, ⟨d, [], rfl, upd_same, rfl, rfl, List.nodup_nil⟩, hm⟩, ?_⟩
    rintro k2 σ H2 ⟨R2, m, t, env, vt2, vb, rfl, mv2, hs2, at2, an2, hm2⟩
    obtain ⟨vf, e0, i⟩ := hs2.ins
    refine ⟨_, rfl, a, C, dx, _, _, rfl, i, T.cl, T.nE, rfl, rfl, _, rfl, ?_⟩
    cases k2 with
    | zero => cases hm2
    | succ k2 =>
      unfold runM at hm2
      cases hfin : m.fin with
      | none =>
        rw [hfin] at hm2
        obtain ⟨r, h1, h2⟩ := Option.bind_eq_some_iff.mp hm2
        have e0 : At R2 (finD m.fin) vf := e0
        rw [hfin] at e0
        obtain rfl : vf = .non := e0
        refine ifT (decide_eq_true rfl) ?_
        refine ⟨fun σ' H' => ∃ m', m' < k2 + 1 ∧ RunW C R H v (.int (n : Int)) a dx lp lh lf mf m' σ' H', fun _ _ z => z, ?_⟩
        refine ⟨_, rfl, _, rfl, _, rfl, ?_⟩
        refine ⟨a, dx, lp, lh, lf, [], R2, m, t, env, vt2, vb, r, rfl, mv2.sub, hs2, at2, an2, h1, fun R3 H3 k3 m3 => ?_⟩
        intro z az
        obtain ⟨pz, _, rfl, hpz, w1, _, rfl, a1, w2, _, rfl, a2, rfl⟩ := az
        refine ⟨pz, _, rfl, SqT.of (m3.sub _ _ hpz), rfl, _, _, rfl, _, _, rfl, rfl, ?_⟩
        have fr : ∀ x, Fsk a lp lh lf x → H x = none := fun x f => by
          rcases f with f | f | f | f
          · rw [f]; exact na
          · rw [f]; exact (nla n1).2
          · rw [f]; exact (nla n2).2
          · rw [f]; exact (nla n3).2
        exact ⟨k2, Nat.lt_succ_self _, R3, r.1, r.2.1, r.2.2, w1, w2, rfl, mv2.trans m3 (fun _ f => f) (fun x f => .inr (fr x f)), k3, a1, a2, h2⟩
      | some fm =>
        rw [hfin] at hm2
        cases hm2
        rw [hf] at hfin
        cases hfin
        have e0 : At R2 (finD mf.fin) vf := e0
        rw [hf] at e0
        have nv : vf ≠ .non := by
          intro h
          subst h
          cases fn <;> (obtain ⟨_, _, h, _⟩ := e0; cases h)
        refine ifF (decide_eq_false nv) ?_
        refine ⟨_, rfl, a, C, dx, _, _, rfl, i, T.cl, T.nP, rfl, lp, _, rfl, .inl ⟨SqL.of hs2.pr, fun p1 n1' => ?_⟩⟩
        have m4 : Mv F0 R2 H2 _ _ := mv_new (o := .tup (mf.prints.map V.int)) mv2.sub n1'
        have hs4 := hs2.up0 m4
        obtain ⟨vf4, e04, i4⟩ := hs4.ins
        have i4 := m4.same _ _ i
        refine ⟨_, rfl, a, C, dx, _, _, rfl, i4, T.cl, T.nE, rfl, _, rfl, a, C, dx, _, _, rfl, i4, T.cl, T.nK, rfl, _, rfl, a, C, dx, _, _, rfl, i4, T.cl, T.nM, rfl, by show 2 ≤ sizeLine; decide, fun p2 n2' => ?_⟩
        have m5 := m4.tr (mv_new (o := .tup [.int (mf.kept : Int), .int (mf.most : Int)]) m4.sub n2')
        refine ⟨by show 3 ≤ sizeLine; decide, fun p3 n3' => ?_⟩
        have a1 : At (upd R2 p1 (.tup (mf.prints.map V.int))) (.tup (mf.prints.map D.int)) (.ref p1) := .ntup mv2.sub n1' (ints_ats _)
        have s12 : Same (upd R2 p1 (.tup (mf.prints.map V.int))) (upd (upd R2 p1 (.tup (mf.prints.map V.int))) p2 (.tup [.int (mf.kept : Int), .int (mf.most : Int)])) := same_new (m4.sub.free n2')
        exact q _ _ _ (mv2.tr (m5.tr (mv_new m5.sub n3'))) (.ntup (l := [.tup (mf.prints.map D.int), fn.d, .tup [.int mf.kept, .int mf.most]]) m5.sub n3' ⟨_, _, rfl, a1.up s12, _, _, rfl, e0.up m5.up, _, _, rfl, .ntup (l := [.int mf.kept, .int mf.most]) m4.sub n2' ⟨_, _, rfl, rfl, _, _, rfl, rfl, rfl⟩, rfl⟩)
end
end Bz


set_option Elab.async false
set_option linter.all false
set_option maxRecDepth 100000
set_option maxHeartbeats 4000000
namespace Bz
open PySem PySem.Spec L2 PyProof.Rows
abbrev g__law_state : Stmt := topS 39
abbrev n__law_state : List Str := ["_law_script", "_law_cells", "_law_cell"]
abbrev p__law_state : List Str := ["_law_script"]
theorem sc__law_state : FnScope n__law_state p__law_state (defScope g__law_state) := ⟨rfl, rfl, rfl, by decide +kernel, rfl, by decide +kernel, by decide +kernel⟩
abbrev g__law_take : Stmt := topS 40
abbrev n__law_take : List Str := ["_law_state_here", "_law_most", "_law_cells", "_law_at", "_law_cell", "_law_mixed"]
abbrev p__law_take : List Str := ["_law_state_here", "_law_most"]
theorem sc__law_take : FnScope n__law_take p__law_take (defScope g__law_take) := ⟨rfl, rfl, rfl, by decide +kernel, rfl, by decide +kernel, by decide +kernel⟩
section
variable {P : Program} {w : World} {K : PySem.W.Frag} {mg : Str → Option Value} {base : Heap}
/-! ### the state -/
def Bits (z : Int) : Prop := 0 ≤ z
def StAt (H : Hp) (s c : Addr) : Prop := ∃ (i : Int) (cs : List Int), H s = some (.lst [.int i, .ref c]) ∧ H c = some (.lst (cs.map V.int)) ∧ cs ≠ [] ∧ cs.length ≤ 63 ∧ ∀ z ∈ cs, Bits z
abbrev Fst (s c : Addr) : Addr → Prop := fun a => a = s ∨ a = c
theorem StAt.stay {F : Addr → Prop} {R H R' H' : Hp} {s c : Addr} (h : StAt H s c) (k : Mv F R H R' H') (hs : ¬ F s) (hc : ¬ F c) : StAt H' s c := by
  obtain ⟨i, cs, h1, h2, h3⟩ := h
  exact ⟨i, cs, k.keep _ _ h1 hs, k.keep _ _ h2 hc, h3⟩
def spTake : Sp := fun vs H Q _ => ∃ (R : Hp) (s c : Addr) (m : Int), vs = [.ref s, .int m] ∧ 0 < m ∧ m < 1073741824 ∧ Same R H ∧ R s = none ∧ R c = none ∧ StAt H s c ∧
  ∀ (H' : Hp) (v : Int), StAt H' s c → Mv (Fst s c) R H R H' → 0 ≤ v → v < m → Q (.int v) H'
theorem fdiv_bits {z m : Int} (h : Bits z) (hm : 0 < m) : Bits (z / m) := by
  exact Int.ediv_nonneg h (by omega)
theorem set_map {cs : List Int} {j : Nat} {z : Int} : (cs.map V.int).set j (.int z) = (cs.set j z).map V.int := by
  rw [List.map_set]
theorem st_ne {i : Int} {c : Addr} {cs : List Int} : HO.lst [V.int i, V.ref c] ≠ HO.lst (cs.map V.int) := by
  intro q
  have q2 := HO.lst.inj q
  cases cs with
  | nil => cases q2
  | cons x r =>
    cases r with
    | nil => simp at q2
    | cons y r => simp at q2
theorem ok_take {f : Addr} {fd : FuncData} (F : Fun K "_law_take" "_law_take" g__law_take f fd) (ml : mg "len" = none) (mi : mg "int" = none) : FnOk P w K mg base CX0 1 f fd p__law_take spTake := by
  refine F.ok sc__law_take (fun vs H Q E h => ?_) (fun cdv A outer s H vs Q E hr h => ?_)
  · obtain ⟨R, s, c, m, rfl, _⟩ := h
    rfl
  · obtain ⟨R, a, c, m, rfl, hm0, hm1, sub, rs, rc, ⟨i, cs, hs, hc, hne, hlen, hb⟩, k⟩ := h
    refine ⟨_, pss_cons (ps_set (i := 2) sc__law_take.nd rfl (Or.inl rfl) (pe_ix ix_list (pv 0) pe_int (fun _ _ => rfl)))
      (pss_cons (ps_set (i := 3) sc__law_take.nd rfl (Or.inl rfl) (pe_op op_mod (pe_ix ix_list (pv 0) pe_int (fun _ _ => rfl)) (pe_callB call_len_seq (by rfl) ml PySem.boot_len (pa_cons (pv 2) pa_nil))))
      (pss_cons (ps_set (i := 4) sc__law_take.nd rfl (Or.inl rfl) (pe_ix ix_list (pv 2) (pv 3) (fun _ _ => rfl)))
      (pss_cons (ps_if (pt_cmpR op_ge (pv 4) pe_int (nomark _))
        (pss_cons (ps_asg (pe_op op_fdivW (pv 4) (pv 1)) (pg_sub (pv 2) (pv 3) set_list))
          (pss_one (ps_ret (pe_op op_mod (pv 4) (pv 1))))) pss_nil)
      (pss_cons (ps_asg (pe_op op_add (pe_ix ix_list (pv 0) pe_int (fun _ _ => rfl)) pe_int) (pg_sub (pv 0) pe_int set_list))
      (pss_cons (ps_set (i := 5) sc__law_take.nd rfl (Or.inl rfl) (pe_op op_mod (pe_callTy call_int1 (by rfl) mi (by decide +kernel) (pa_cons (pe_op op_add (pe_op op_mul (pv 4) pe_int) (pe_op op_mul (pe_ix ix_list (pv 0) pe_int (fun _ _ => rfl)) pe_int)) pa_nil)) pe_int))
      (pss_cons (ps_set (i := 5) sc__law_take.nd rfl (Or.inl rfl) (pe_op op_mod (pe_callTy call_int1 (by rfl) mi (by decide +kernel) (pa_cons (pe_op op_add (pe_op op_mul (pv 5) pe_int) (pe_op op_mul (pe_ix ix_list (pv 0) pe_int (fun _ _ => rfl)) pe_int)) pa_nil)) pe_int))
      (pss_one (ps_ret (pe_op op_mod (pe_op op_fdivW (pv 5) pe_int) (pv 1)))))))))), ?_⟩
    have hcl : 0 < cs.length := by
      cases cs with
      | nil => exact absurd rfl hne
      | cons x r => exact Nat.succ_pos _
    -- cells = state[1]
    refine ⟨_, rfl, a, _, 1, _, rfl, rfl, SqL.of hs, atI_nat (j := 1) rfl, ?_⟩
    -- at = state[0] % len(cells)
    refine ⟨_, rfl, a, _, 0, _, rfl, rfl, SqL.of hs, atI_nat (j := 0) rfl, _, rfl, c, _, rfl, .inl (SqL.of hc), i, (cs.length : Int), rfl, (by rw [List.length_map]), (by omega), ?_⟩
    have r0 : 0 ≤ i % (cs.length : Int) := Int.emod_nonneg i (by omega)
    have r1 : i % (cs.length : Int) < (cs.length : Int) := Int.emod_lt_of_pos i (by omega)
    obtain ⟨j, hj⟩ : ∃ j : Nat, i % (cs.length : Int) = (j : Int) := ⟨(i % (cs.length : Int)).toNat, by omega⟩
    rw [hj] at r0 r1
    show gName 3 (.int (i % (cs.length : Int))) _ _ _
    rw [hj]
    have hjl : j < cs.length := by omega
    have hat : (cs.map V.int)[j]? = some (.int cs[j]) := by
      rw [List.getElem?_map, List.getElem?_eq_getElem hjl]
      rfl
    have hz : Bits cs[j] := hb _ (List.getElem_mem hjl)
    generalize cs[j] = z at hat hz
    -- cell = cells[at]
    refine ⟨_, rfl, _, rfl, c, _, _, _, rfl, rfl, SqL.of hc, atI_nat hat, ?_⟩
    -- if cell >= 10 ** 18
    refine ⟨_, rfl, _, _, rfl, rfl, _, rfl, ite2 (fun h => ?_) (fun h => ?_)⟩
    · have ac : a ≠ c := ne_of hs hc st_ne
      have hix : ixN (cs.map V.int).length (j : Int) = some j := by
        unfold ixN
        rw [List.length_map, if_pos (by omega), if_pos (by omega)]
        rfl
      refine ⟨_, rfl, _, rfl, _, _, rfl, rfl, wide_div (b := 30) hm0 (by omega) (by decide) (by decide), _, rfl, _, rfl, c, _, _, j, rfl, rfl, hc, hix, ?_⟩
      · refine ⟨_, rfl, _, rfl, _, _, rfl, rfl, by omega, ?_⟩
        refine k _ _ ⟨i, cs.set j (z / m), by rw [upd_ne ac]; exact hs, by rw [upd_same, set_map], ?_, ?_, ?_⟩ (mv_at sub rc hc (.inr rfl)) (Int.emod_nonneg _ (by omega)) (Int.emod_lt_of_pos _ hm0)
        · intro q
          have := congrArg List.length q
          rw [List.length_set] at this
          exact hne (List.length_eq_zero_iff.mp this)
        · rw [List.length_set]; exact hlen
        · intro y hy
          rcases List.mem_or_eq_of_mem_set hy with q | q
          · exact hb y q
          · rw [q]; exact fdiv_bits hz hm0
    · have hz1 : z < 1000000000000000000 := by
        have h2 : ¬ (decide ((1000000000000000000 : Int) ≤ z) = true) := h
        rw [decide_eq_true_eq] at h2
        omega
      have hz0 : 0 ≤ z := hz
      have ac : c ≠ a := (ne_of hs hc st_ne).symm
      -- state[0] = state[0] + 1
      refine ⟨_, rfl, a, _, 0, _, rfl, rfl, SqL.of hs, atI_nat (j := 0) rfl, _, _, rfl, rfl, _, rfl, a, _, _, 0, rfl, rfl, hs, rfl, ?_⟩
      have hs' : (upd H a (.lst [V.int (i + 1), V.ref c])) a = some (.lst [V.int (i + 1), V.ref c]) := upd_same
      -- mixed, twice
      refine ⟨_, rfl, _, _, rfl, rfl, .inl ⟨by omega, by omega⟩, _, rfl, a, _, 0, _, rfl, rfl, SqL.of hs', atI_nat (j := 0) rfl, _, _, rfl, rfl, .inr ⟨by decide, by decide⟩, _, _, rfl, rfl, .inl ⟨_, rfl, _, _, rfl, rfl, (by show (0 : Int) < 2147483647; decide), ?_⟩⟩
      have b1 : 0 ≤ (z * 48271 + (i + 1) * 69621) % 2147483647 := Int.emod_nonneg _ (by decide)
      have b2 : (z * 48271 + (i + 1) * 69621) % 2147483647 < 2147483647 := Int.emod_lt_of_pos _ (by decide)
      show gName 5 (.int ((z * 48271 + (i + 1) * 69621) % 2147483647)) _ _ _
      generalize (z * 48271 + (i + 1) * 69621) % 2147483647 = y at b1 b2
      refine ⟨_, rfl, _, _, rfl, rfl, .inl ⟨by omega, by omega⟩, _, rfl, a, _, 0, _, rfl, rfl, SqL.of hs', atI_nat (j := 0) rfl, _, _, rfl, rfl, .inr ⟨by decide, by decide⟩, _, _, rfl, rfl, .inl ⟨_, rfl, _, _, rfl, rfl, (by show (0 : Int) < 1000000007; decide), ?_⟩⟩
      refine ⟨_, rfl, _, _, rfl, rfl, ⟨by decide, by decide⟩, _, rfl, _, _, rfl, rfl, hm0, ?_⟩
      exact k _ _ ⟨i + 1, cs, hs', by rw [upd_ne ac]; exact hc, hne, hlen, hb⟩ (mv_at sub rs hs (.inl rfl)) (Int.emod_nonneg _ (by omega)) (Int.emod_lt_of_pos _ hm0)
theorem cut63 {xs : List V} (h : xs.length ≤ 63) : cutV xs none (some 63) = xs := by
  unfold cutV
  rw [HT.sIx_none, show HT.sIx xs.length xs.length (some 63) = min 63 xs.length from HT.sIx_nat xs.length _ 63, Nat.min_eq_right h]
  simp
theorem abs_bits {z : Int} : Bits (if z < 0 then -z else z) := by
  show 0 ≤ (if z < 0 then -z else z)
  split <;> omega
def spState (K : PySem.W.Frag) : Sp := fun vs H Q _ => ∃ (a : Addr) (ns : List Int), vs = [.ref a] ∧ SqL K H a (ns.map V.int) ∧ ns.length ≤ 63 ∧
  ∀ (H' : Hp) (s c : Addr), StAt H' s c → Same H H' → H s = none → H c = none → Q (.ref s) H'
theorem ok_state {f : Addr} {fd : FuncData} (F : Fun K "_law_state" "_law_state" g__law_state f fd) (ml : mg "len" = none) (ma : mg "abs" = none) : FnOk P w K mg base CX0 1 f fd p__law_state (spState K) := by
  refine F.ok sc__law_state (fun vs H Q E h => ?_) (fun cdv A outer s H vs Q E hr h => ?_)
  · obtain ⟨a, ns, rfl, _⟩ := h
    rfl
  · obtain ⟨a, ns, rfl, hS, hlen, k⟩ := h
    refine ⟨_, pss_cons (ps_setLc (i := 1) (own := [("_law_cell", 2)]) (g := gName 2) (tt := tYes) rfl sc__law_state.nd rfl rfl (sw_true rfl rfl rfl (by decide +kernel)) (pi_list (pe_slice sl_list (pv 0) po_none (po_some pe_int)))
        (blkOk_by (N := n__law_state) (sc := defScope g__law_state) (by decide +kernel)) (fun _ _ _ _ _ => pg_name (i := 2) sc__law_state.nd rfl (Or.inl rfl)) (fun _ _ _ _ _ => pts_nil)
        (fun _ _ _ _ _ => pe_callB call_abs (by rfl) ma (by decide +kernel) (pa_cons (pv 2) pa_nil)))
      (pss_cons (ps_if (pt_cmpR op_eq (pe_callB call_len_seq (by rfl) ml PySem.boot_len (pa_cons (pv 1) pa_nil)) pe_int (nomark _))
        (pss_one (ps_set (i := 1) sc__law_state.nd rfl (Or.inl rfl) (pe_lst (pa_cons pe_int pa_nil)))) pss_nil)
      (pss_one (ps_ret (pe_lst (pa_cons pe_int (pa_cons (pv 1) pa_nil)))))), ?_⟩
    -- script[:63]
    refine ⟨_, rfl, 63, rfl, a, ns.map V.int, rfl, hS, fun p np => ?_⟩
    have ec : cutV (ns.map V.int) none (some 63) = ns.map V.int := cut63 (by rw [List.length_map]; exact hlen)
    have s1 : Same H (upd H p (.lst (cutV (ns.map V.int) none (some 63)))) := same_new np
    refine ⟨p, rfl, ⟨_, SqL.of upd_same⟩, fun D hD => ?_⟩
    have nDp : D ≠ p := fun q => by
      rw [q, upd_same] at hD
      cases hD
    have hD0 : H D = none := s1.free hD
    refine lc_list (K := K) (a := p) (xs := ns.map V.int) (fun i H2 => Same H H2 ∧ H2 p = some (.lst (ns.map V.int)) ∧ H2 D = some (.lst (((ns.take i).map fun z : Int => if z < 0 then -z else z).map V.int))) ⟨?_, ?_, ?_⟩ (fun i H2 _ q => SqL.of q.2.1) ?_ ?_
    · exact s1.trans (same_new hD)
    · rw [upd_ne nDp.symm, upd_same, ec]
    · rw [upd_same]
      rfl
    · rintro i x H2 hi ⟨q1, q2, q3⟩
      rw [List.getElem?_map] at hi
      cases e : ns[i]? with
      | none =>
        rw [e] at hi
        cases hi
      | some z =>
        rw [e] at hi
        obtain rfl : V.int z = x := Option.some.inj hi
        refine ⟨rfl, _, rfl, z, rfl, _, q3, ?_, ?_, ?_, ?_⟩
        · rw [List.length_map, List.length_map, List.length_take]
          exact Nat.lt_of_le_of_lt (Nat.min_le_left _ _) (small1000 (by have := (List.getElem?_eq_some_iff.mp e).1; omega))
        · exact fun b o h => by
            rw [upd_ne (ne_of_none h hD0)]
            exact q1 b o h
        · rw [upd_ne nDp.symm]
          exact q2
        · rw [upd_same, List.take_add_one, e, List.map_append, List.map_append]
          rfl
    · rintro H2 ⟨q1, q2, q3⟩
      rw [List.length_map, List.take_length] at q3
      -- if len(cells) == 0
      refine ⟨_, rfl, D, _, rfl, .inl (SqL.of q3), rfl, _, rfl, ite2 (fun e => ?_) (fun e => ?_)⟩
      · refine ⟨by decide, fun c hc => ?_⟩
        refine ⟨_, rfl, by show 2 ≤ sizeLine; decide, fun s hs => ?_⟩
        refine k _ s c ⟨0, [0], upd_same, ?_, by decide, by decide, ?_⟩ ?_ ?_ ?_
        · rw [upd_ne fun q => ?_, upd_same]
          · rfl
          · rw [q, upd_same] at hs
            cases hs
        · intro z hz
          rw [List.mem_singleton.mp hz]
          exact Int.le_refl _
        · exact (q1.trans (same_new hc)).trans (same_new hs)
        · exact (q1.trans (same_new hc)).free hs
        · exact q1.free hc
      · refine ⟨_, rfl, by show 2 ≤ sizeLine; decide, fun s hs => ?_⟩
        have e0 : ns ≠ [] := fun q => by
          subst q
          exact e (decide_eq_true rfl)
        refine k _ s D ⟨0, ns.map fun z : Int => if z < 0 then -z else z, upd_same, ?_, ?_, ?_, ?_⟩ (q1.trans (same_new hs)) (q1.free hs) hD0
        · rw [upd_ne (ne_of_none q3 hs)]
          exact q3
        · intro q
          exact e0 (List.map_eq_nil_iff.mp q)
        · rw [List.length_map]; exact hlen
        · intro y hy
          obtain ⟨z, hz, rfl⟩ := List.mem_map.mp hy
          exact abs_bits
end
end Bz


set_option Elab.async false
set_option linter.all false
set_option maxRecDepth 100000
set_option maxHeartbeats 4000000
namespace Bz
open PySem PySem.Spec L2 PyProof.Rows
/-! ### law_k21: handlers inside one another -/
def oS (k : Nat) : Str := Str.ofString "o" ++ Str.ofString (toString (k : Int))
def hdE (k : Nat) (a : Int) (e : Ex) : Ex := .hd e "r" (.op "+" (.name "r") (.num 1)) (.cons (oS k) "x" "k" (.pr (.name "x") (.call (.name "k") (.num a))) .nil)
def coreE (f s : Nat) : Ex := .op "-" (.ask (oS f) (.num 1)) (.ask (oS s) (.num 2))
def treeM (f s : Nat) (ans : Nat → Int) : Nat → Ex
  | 0 => coreE f s
  | n + 1 => hdE n (ans n) (treeM f s ans n)
/-- the pieces of the first c handlers, the innermost uppermost, with frames in the innermost -/
def stkM (f s : Nat) (ans : Nat → Int) (F : Frs) : Nat → Pcs → Pcs
  | 0, p => p
  | 1, p => .cons (treeM f s ans 1) .nil F p
  | n + 2, p => stkM f s ans F (n + 1) (.cons (treeM f s ans (n + 2)) .nil .nil p)
def takeP : Nat → Pcs → Pcs
  | 0, _ => .nil
  | _ + 1, .nil => .nil
  | n + 1, .cons e en f r => .cons e en f (takeP n r)
def opF (f s : Nat) (ans : Nat → Int) : Frs := .cons (coreE f s) .nil (.cons (.num (ans f)) .nil) .nil
theorem A_1_0_0 (ans : Nat → Int) (l k : Nat) : runM (k + 25) (startM (l + 4)) (.ex (treeM 0 0 ans 1)) (some .nil) = runM k ⟨l, [1, 2], none, stkM 0 0 ans (opF 0 0 ans) 1 .nil, .nil, 2, 2⟩ (.known (.num (ans 0))) (some (.cons "x" (.num 2) (.cons "k" (.kept (takeP 1 (stkM 0 0 ans (opF 0 0 ans) 1 .nil))) .nil))) := by kernel_rfl
theorem A_2_0_0 (ans : Nat → Int) (l k : Nat) : runM (k + 26) (startM (l + 4)) (.ex (treeM 0 0 ans 2)) (some .nil) = runM k ⟨l, [1, 2], none, stkM 0 0 ans (opF 0 0 ans) 2 .nil, .nil, 2, 3⟩ (.known (.num (ans 0))) (some (.cons "x" (.num 2) (.cons "k" (.kept (takeP 1 (stkM 0 0 ans (opF 0 0 ans) 2 .nil))) .nil))) := by kernel_rfl
theorem A_2_0_1 (ans : Nat → Int) (l k : Nat) : runM (k + 26) (startM (l + 4)) (.ex (treeM 0 1 ans 2)) (some .nil) = runM k ⟨l, [1, 2], none, stkM 0 1 ans (opF 0 1 ans) 2 .nil, .nil, 3, 3⟩ (.known (.num (ans 1))) (some (.cons "x" (.num 2) (.cons "k" (.kept (takeP 2 (stkM 0 1 ans (opF 0 1 ans) 2 .nil))) .nil))) := by kernel_rfl
theorem A_2_1_0 (ans : Nat → Int) (l k : Nat) : runM (k + 26) (startM (l + 4)) (.ex (treeM 1 0 ans 2)) (some .nil) = runM k ⟨l, [1, 2], none, stkM 1 0 ans (opF 1 0 ans) 2 .nil, .nil, 3, 3⟩ (.known (.num (ans 0))) (some (.cons "x" (.num 2) (.cons "k" (.kept (takeP 1 (stkM 1 0 ans (opF 1 0 ans) 2 .nil))) .nil))) := by kernel_rfl
theorem A_2_1_1 (ans : Nat → Int) (l k : Nat) : runM (k + 26) (startM (l + 4)) (.ex (treeM 1 1 ans 2)) (some .nil) = runM k ⟨l, [1, 2], none, stkM 1 1 ans (opF 1 1 ans) 2 .nil, .nil, 4, 3⟩ (.known (.num (ans 1))) (some (.cons "x" (.num 2) (.cons "k" (.kept (takeP 2 (stkM 1 1 ans (opF 1 1 ans) 2 .nil))) .nil))) := by kernel_rfl
theorem A_3_0_0 (ans : Nat → Int) (l k : Nat) : runM (k + 27) (startM (l + 4)) (.ex (treeM 0 0 ans 3)) (some .nil) = runM k ⟨l, [1, 2], none, stkM 0 0 ans (opF 0 0 ans) 3 .nil, .nil, 2, 4⟩ (.known (.num (ans 0))) (some (.cons "x" (.num 2) (.cons "k" (.kept (takeP 1 (stkM 0 0 ans (opF 0 0 ans) 3 .nil))) .nil))) := by kernel_rfl
theorem A_3_0_1 (ans : Nat → Int) (l k : Nat) : runM (k + 27) (startM (l + 4)) (.ex (treeM 0 1 ans 3)) (some .nil) = runM k ⟨l, [1, 2], none, stkM 0 1 ans (opF 0 1 ans) 3 .nil, .nil, 3, 4⟩ (.known (.num (ans 1))) (some (.cons "x" (.num 2) (.cons "k" (.kept (takeP 2 (stkM 0 1 ans (opF 0 1 ans) 3 .nil))) .nil))) := by kernel_rfl
theorem A_3_0_2 (ans : Nat → Int) (l k : Nat) : runM (k + 27) (startM (l + 4)) (.ex (treeM 0 2 ans 3)) (some .nil) = runM k ⟨l, [1, 2], none, stkM 0 2 ans (opF 0 2 ans) 3 .nil, .nil, 4, 4⟩ (.known (.num (ans 2))) (some (.cons "x" (.num 2) (.cons "k" (.kept (takeP 3 (stkM 0 2 ans (opF 0 2 ans) 3 .nil))) .nil))) := by kernel_rfl
theorem A_3_1_0 (ans : Nat → Int) (l k : Nat) : runM (k + 27) (startM (l + 4)) (.ex (treeM 1 0 ans 3)) (some .nil) = runM k ⟨l, [1, 2], none, stkM 1 0 ans (opF 1 0 ans) 3 .nil, .nil, 3, 4⟩ (.known (.num (ans 0))) (some (.cons "x" (.num 2) (.cons "k" (.kept (takeP 1 (stkM 1 0 ans (opF 1 0 ans) 3 .nil))) .nil))) := by kernel_rfl
theorem A_3_1_1 (ans : Nat → Int) (l k : Nat) : runM (k + 27) (startM (l + 4)) (.ex (treeM 1 1 ans 3)) (some .nil) = runM k ⟨l, [1, 2], none, stkM 1 1 ans (opF 1 1 ans) 3 .nil, .nil, 4, 4⟩ (.known (.num (ans 1))) (some (.cons "x" (.num 2) (.cons "k" (.kept (takeP 2 (stkM 1 1 ans (opF 1 1 ans) 3 .nil))) .nil))) := by kernel_rfl
theorem A_3_1_2 (ans : Nat → Int) (l k : Nat) : runM (k + 27) (startM (l + 4)) (.ex (treeM 1 2 ans 3)) (some .nil) = runM k ⟨l, [1, 2], none, stkM 1 2 ans (opF 1 2 ans) 3 .nil, .nil, 5, 4⟩ (.known (.num (ans 2))) (some (.cons "x" (.num 2) (.cons "k" (.kept (takeP 3 (stkM 1 2 ans (opF 1 2 ans) 3 .nil))) .nil))) := by kernel_rfl
theorem A_3_2_0 (ans : Nat → Int) (l k : Nat) : runM (k + 27) (startM (l + 4)) (.ex (treeM 2 0 ans 3)) (some .nil) = runM k ⟨l, [1, 2], none, stkM 2 0 ans (opF 2 0 ans) 3 .nil, .nil, 4, 4⟩ (.known (.num (ans 0))) (some (.cons "x" (.num 2) (.cons "k" (.kept (takeP 1 (stkM 2 0 ans (opF 2 0 ans) 3 .nil))) .nil))) := by kernel_rfl
theorem A_3_2_1 (ans : Nat → Int) (l k : Nat) : runM (k + 27) (startM (l + 4)) (.ex (treeM 2 1 ans 3)) (some .nil) = runM k ⟨l, [1, 2], none, stkM 2 1 ans (opF 2 1 ans) 3 .nil, .nil, 5, 4⟩ (.known (.num (ans 1))) (some (.cons "x" (.num 2) (.cons "k" (.kept (takeP 2 (stkM 2 1 ans (opF 2 1 ans) 3 .nil))) .nil))) := by kernel_rfl
theorem A_3_2_2 (ans : Nat → Int) (l k : Nat) : runM (k + 27) (startM (l + 4)) (.ex (treeM 2 2 ans 3)) (some .nil) = runM k ⟨l, [1, 2], none, stkM 2 2 ans (opF 2 2 ans) 3 .nil, .nil, 6, 4⟩ (.known (.num (ans 2))) (some (.cons "x" (.num 2) (.cons "k" (.kept (takeP 3 (stkM 2 2 ans (opF 2 2 ans) 3 .nil))) .nil))) := by kernel_rfl
theorem A_4_0_0 (ans : Nat → Int) (l k : Nat) : runM (k + 28) (startM (l + 4)) (.ex (treeM 0 0 ans 4)) (some .nil) = runM k ⟨l, [1, 2], none, stkM 0 0 ans (opF 0 0 ans) 4 .nil, .nil, 2, 5⟩ (.known (.num (ans 0))) (some (.cons "x" (.num 2) (.cons "k" (.kept (takeP 1 (stkM 0 0 ans (opF 0 0 ans) 4 .nil))) .nil))) := by kernel_rfl
theorem A_4_0_1 (ans : Nat → Int) (l k : Nat) : runM (k + 28) (startM (l + 4)) (.ex (treeM 0 1 ans 4)) (some .nil) = runM k ⟨l, [1, 2], none, stkM 0 1 ans (opF 0 1 ans) 4 .nil, .nil, 3, 5⟩ (.known (.num (ans 1))) (some (.cons "x" (.num 2) (.cons "k" (.kept (takeP 2 (stkM 0 1 ans (opF 0 1 ans) 4 .nil))) .nil))) := by kernel_rfl
theorem A_4_0_2 (ans : Nat → Int) (l k : Nat) : runM (k + 28) (startM (l + 4)) (.ex (treeM 0 2 ans 4)) (some .nil) = runM k ⟨l, [1, 2], none, stkM 0 2 ans (opF 0 2 ans) 4 .nil, .nil, 4, 5⟩ (.known (.num (ans 2))) (some (.cons "x" (.num 2) (.cons "k" (.kept (takeP 3 (stkM 0 2 ans (opF 0 2 ans) 4 .nil))) .nil))) := by kernel_rfl
theorem A_4_0_3 (ans : Nat → Int) (l k : Nat) : runM (k + 28) (startM (l + 4)) (.ex (treeM 0 3 ans 4)) (some .nil) = runM k ⟨l, [1, 2], none, stkM 0 3 ans (opF 0 3 ans) 4 .nil, .nil, 5, 5⟩ (.known (.num (ans 3))) (some (.cons "x" (.num 2) (.cons "k" (.kept (takeP 4 (stkM 0 3 ans (opF 0 3 ans) 4 .nil))) .nil))) := by kernel_rfl
theorem A_4_1_0 (ans : Nat → Int) (l k : Nat) : runM (k + 28) (startM (l + 4)) (.ex (treeM 1 0 ans 4)) (some .nil) = runM k ⟨l, [1, 2], none, stkM 1 0 ans (opF 1 0 ans) 4 .nil, .nil, 3, 5⟩ (.known (.num (ans 0))) (some (.cons "x" (.num 2) (.cons "k" (.kept (takeP 1 (stkM 1 0 ans (opF 1 0 ans) 4 .nil))) .nil))) := by kernel_rfl
theorem A_4_1_1 (ans : Nat → Int) (l k : Nat) : runM (k + 28) (startM (l + 4)) (.ex (treeM 1 1 ans 4)) (some .nil) = runM k ⟨l, [1, 2], none, stkM 1 1 ans (opF 1 1 ans) 4 .nil, .nil, 4, 5⟩ (.known (.num (ans 1))) (some (.cons "x" (.num 2) (.cons "k" (.kept (takeP 2 (stkM 1 1 ans (opF 1 1 ans) 4 .nil))) .nil))) := by kernel_rfl
theorem A_4_1_2 (ans : Nat → Int) (l k : Nat) : runM (k + 28) (startM (l + 4)) (.ex (treeM 1 2 ans 4)) (some .nil) = runM k ⟨l, [1, 2], none, stkM 1 2 ans (opF 1 2 ans) 4 .nil, .nil, 5, 5⟩ (.known (.num (ans 2))) (some (.cons "x" (.num 2) (.cons "k" (.kept (takeP 3 (stkM 1 2 ans (opF 1 2 ans) 4 .nil))) .nil))) := by kernel_rfl
theorem A_4_1_3 (ans : Nat → Int) (l k : Nat) : runM (k + 28) (startM (l + 4)) (.ex (treeM 1 3 ans 4)) (some .nil) = runM k ⟨l, [1, 2], none, stkM 1 3 ans (opF 1 3 ans) 4 .nil, .nil, 6, 5⟩ (.known (.num (ans 3))) (some (.cons "x" (.num 2) (.cons "k" (.kept (takeP 4 (stkM 1 3 ans (opF 1 3 ans) 4 .nil))) .nil))) := by kernel_rfl
theorem A_4_2_0 (ans : Nat → Int) (l k : Nat) : runM (k + 28) (startM (l + 4)) (.ex (treeM 2 0 ans 4)) (some .nil) = runM k ⟨l, [1, 2], none, stkM 2 0 ans (opF 2 0 ans) 4 .nil, .nil, 4, 5⟩ (.known (.num (ans 0))) (some (.cons "x" (.num 2) (.cons "k" (.kept (takeP 1 (stkM 2 0 ans (opF 2 0 ans) 4 .nil))) .nil))) := by kernel_rfl
theorem A_4_2_1 (ans : Nat → Int) (l k : Nat) : runM (k + 28) (startM (l + 4)) (.ex (treeM 2 1 ans 4)) (some .nil) = runM k ⟨l, [1, 2], none, stkM 2 1 ans (opF 2 1 ans) 4 .nil, .nil, 5, 5⟩ (.known (.num (ans 1))) (some (.cons "x" (.num 2) (.cons "k" (.kept (takeP 2 (stkM 2 1 ans (opF 2 1 ans) 4 .nil))) .nil))) := by kernel_rfl
theorem A_4_2_2 (ans : Nat → Int) (l k : Nat) : runM (k + 28) (startM (l + 4)) (.ex (treeM 2 2 ans 4)) (some .nil) = runM k ⟨l, [1, 2], none, stkM 2 2 ans (opF 2 2 ans) 4 .nil, .nil, 6, 5⟩ (.known (.num (ans 2))) (some (.cons "x" (.num 2) (.cons "k" (.kept (takeP 3 (stkM 2 2 ans (opF 2 2 ans) 4 .nil))) .nil))) := by kernel_rfl
theorem A_4_2_3 (ans : Nat → Int) (l k : Nat) : runM (k + 28) (startM (l + 4)) (.ex (treeM 2 3 ans 4)) (some .nil) = runM k ⟨l, [1, 2], none, stkM 2 3 ans (opF 2 3 ans) 4 .nil, .nil, 7, 5⟩ (.known (.num (ans 3))) (some (.cons "x" (.num 2) (.cons "k" (.kept (takeP 4 (stkM 2 3 ans (opF 2 3 ans) 4 .nil))) .nil))) := by kernel_rfl
theorem A_4_3_0 (ans : Nat → Int) (l k : Nat) : runM (k + 28) (startM (l + 4)) (.ex (treeM 3 0 ans 4)) (some .nil) = runM k ⟨l, [1, 2], none, stkM 3 0 ans (opF 3 0 ans) 4 .nil, .nil, 5, 5⟩ (.known (.num (ans 0))) (some (.cons "x" (.num 2) (.cons "k" (.kept (takeP 1 (stkM 3 0 ans (opF 3 0 ans) 4 .nil))) .nil))) := by kernel_rfl
theorem A_4_3_1 (ans : Nat → Int) (l k : Nat) : runM (k + 28) (startM (l + 4)) (.ex (treeM 3 1 ans 4)) (some .nil) = runM k ⟨l, [1, 2], none, stkM 3 1 ans (opF 3 1 ans) 4 .nil, .nil, 6, 5⟩ (.known (.num (ans 1))) (some (.cons "x" (.num 2) (.cons "k" (.kept (takeP 2 (stkM 3 1 ans (opF 3 1 ans) 4 .nil))) .nil))) := by kernel_rfl
theorem A_4_3_2 (ans : Nat → Int) (l k : Nat) : runM (k + 28) (startM (l + 4)) (.ex (treeM 3 2 ans 4)) (some .nil) = runM k ⟨l, [1, 2], none, stkM 3 2 ans (opF 3 2 ans) 4 .nil, .nil, 7, 5⟩ (.known (.num (ans 2))) (some (.cons "x" (.num 2) (.cons "k" (.kept (takeP 3 (stkM 3 2 ans (opF 3 2 ans) 4 .nil))) .nil))) := by kernel_rfl
theorem A_4_3_3 (ans : Nat → Int) (l k : Nat) : runM (k + 28) (startM (l + 4)) (.ex (treeM 3 3 ans 4)) (some .nil) = runM k ⟨l, [1, 2], none, stkM 3 3 ans (opF 3 3 ans) 4 .nil, .nil, 8, 5⟩ (.known (.num (ans 3))) (some (.cons "x" (.num 2) (.cons "k" (.kept (takeP 4 (stkM 3 3 ans (opF 3 3 ans) 4 .nil))) .nil))) := by kernel_rfl
theorem A_5_0_0 (ans : Nat → Int) (l k : Nat) : runM (k + 29) (startM (l + 4)) (.ex (treeM 0 0 ans 5)) (some .nil) = runM k ⟨l, [1, 2], none, stkM 0 0 ans (opF 0 0 ans) 5 .nil, .nil, 2, 6⟩ (.known (.num (ans 0))) (some (.cons "x" (.num 2) (.cons "k" (.kept (takeP 1 (stkM 0 0 ans (opF 0 0 ans) 5 .nil))) .nil))) := by kernel_rfl
theorem A_5_0_1 (ans : Nat → Int) (l k : Nat) : runM (k + 29) (startM (l + 4)) (.ex (treeM 0 1 ans 5)) (some .nil) = runM k ⟨l, [1, 2], none, stkM 0 1 ans (opF 0 1 ans) 5 .nil, .nil, 3, 6⟩ (.known (.num (ans 1))) (some (.cons "x" (.num 2) (.cons "k" (.kept (takeP 2 (stkM 0 1 ans (opF 0 1 ans) 5 .nil))) .nil))) := by kernel_rfl
theorem A_5_0_2 (ans : Nat → Int) (l k : Nat) : runM (k + 29) (startM (l + 4)) (.ex (treeM 0 2 ans 5)) (some .nil) = runM k ⟨l, [1, 2], none, stkM 0 2 ans (opF 0 2 ans) 5 .nil, .nil, 4, 6⟩ (.known (.num (ans 2))) (some (.cons "x" (.num 2) (.cons "k" (.kept (takeP 3 (stkM 0 2 ans (opF 0 2 ans) 5 .nil))) .nil))) := by kernel_rfl
theorem A_5_0_3 (ans : Nat → Int) (l k : Nat) : runM (k + 29) (startM (l + 4)) (.ex (treeM 0 3 ans 5)) (some .nil) = runM k ⟨l, [1, 2], none, stkM 0 3 ans (opF 0 3 ans) 5 .nil, .nil, 5, 6⟩ (.known (.num (ans 3))) (some (.cons "x" (.num 2) (.cons "k" (.kept (takeP 4 (stkM 0 3 ans (opF 0 3 ans) 5 .nil))) .nil))) := by kernel_rfl
theorem A_5_0_4 (ans : Nat → Int) (l k : Nat) : runM (k + 29) (startM (l + 4)) (.ex (treeM 0 4 ans 5)) (some .nil) = runM k ⟨l, [1, 2], none, stkM 0 4 ans (opF 0 4 ans) 5 .nil, .nil, 6, 6⟩ (.known (.num (ans 4))) (some (.cons "x" (.num 2) (.cons "k" (.kept (takeP 5 (stkM 0 4 ans (opF 0 4 ans) 5 .nil))) .nil))) := by kernel_rfl
theorem A_5_1_0 (ans : Nat → Int) (l k : Nat) : runM (k + 29) (startM (l + 4)) (.ex (treeM 1 0 ans 5)) (some .nil) = runM k ⟨l, [1, 2], none, stkM 1 0 ans (opF 1 0 ans) 5 .nil, .nil, 3, 6⟩ (.known (.num (ans 0))) (some (.cons "x" (.num 2) (.cons "k" (.kept (takeP 1 (stkM 1 0 ans (opF 1 0 ans) 5 .nil))) .nil))) := by kernel_rfl
theorem A_5_1_1 (ans : Nat → Int) (l k : Nat) : runM (k + 29) (startM (l + 4)) (.ex (treeM 1 1 ans 5)) (some .nil) = runM k ⟨l, [1, 2], none, stkM 1 1 ans (opF 1 1 ans) 5 .nil, .nil, 4, 6⟩ (.known (.num (ans 1))) (some (.cons "x" (.num 2) (.cons "k" (.kept (takeP 2 (stkM 1 1 ans (opF 1 1 ans) 5 .nil))) .nil))) := by kernel_rfl
theorem A_5_1_2 (ans : Nat → Int) (l k : Nat) : runM (k + 29) (startM (l + 4)) (.ex (treeM 1 2 ans 5)) (some .nil) = runM k ⟨l, [1, 2], none, stkM 1 2 ans (opF 1 2 ans) 5 .nil, .nil, 5, 6⟩ (.known (.num (ans 2))) (some (.cons "x" (.num 2) (.cons "k" (.kept (takeP 3 (stkM 1 2 ans (opF 1 2 ans) 5 .nil))) .nil))) := by kernel_rfl
theorem A_5_1_3 (ans : Nat → Int) (l k : Nat) : runM (k + 29) (startM (l + 4)) (.ex (treeM 1 3 ans 5)) (some .nil) = runM k ⟨l, [1, 2], none, stkM 1 3 ans (opF 1 3 ans) 5 .nil, .nil, 6, 6⟩ (.known (.num (ans 3))) (some (.cons "x" (.num 2) (.cons "k" (.kept (takeP 4 (stkM 1 3 ans (opF 1 3 ans) 5 .nil))) .nil))) := by kernel_rfl
theorem A_5_1_4 (ans : Nat → Int) (l k : Nat) : runM (k + 29) (startM (l + 4)) (.ex (treeM 1 4 ans 5)) (some .nil) = runM k ⟨l, [1, 2], none, stkM 1 4 ans (opF 1 4 ans) 5 .nil, .nil, 7, 6⟩ (.known (.num (ans 4))) (some (.cons "x" (.num 2) (.cons "k" (.kept (takeP 5 (stkM 1 4 ans (opF 1 4 ans) 5 .nil))) .nil))) := by kernel_rfl
theorem A_5_2_0 (ans : Nat → Int) (l k : Nat) : runM (k + 29) (startM (l + 4)) (.ex (treeM 2 0 ans 5)) (some .nil) = runM k ⟨l, [1, 2], none, stkM 2 0 ans (opF 2 0 ans) 5 .nil, .nil, 4, 6⟩ (.known (.num (ans 0))) (some (.cons "x" (.num 2) (.cons "k" (.kept (takeP 1 (stkM 2 0 ans (opF 2 0 ans) 5 .nil))) .nil))) := by kernel_rfl
theorem A_5_2_1 (ans : Nat → Int) (l k : Nat) : runM (k + 29) (startM (l + 4)) (.ex (treeM 2 1 ans 5)) (some .nil) = runM k ⟨l, [1, 2], none, stkM 2 1 ans (opF 2 1 ans) 5 .nil, .nil, 5, 6⟩ (.known (.num (ans 1))) (some (.cons "x" (.num 2) (.cons "k" (.kept (takeP 2 (stkM 2 1 ans (opF 2 1 ans) 5 .nil))) .nil))) := by kernel_rfl
theorem A_5_2_2 (ans : Nat → Int) (l k : Nat) : runM (k + 29) (startM (l + 4)) (.ex (treeM 2 2 ans 5)) (some .nil) = runM k ⟨l, [1, 2], none, stkM 2 2 ans (opF 2 2 ans) 5 .nil, .nil, 6, 6⟩ (.known (.num (ans 2))) (some (.cons "x" (.num 2) (.cons "k" (.kept (takeP 3 (stkM 2 2 ans (opF 2 2 ans) 5 .nil))) .nil))) := by kernel_rfl
theorem A_5_2_3 (ans : Nat → Int) (l k : Nat) : runM (k + 29) (startM (l + 4)) (.ex (treeM 2 3 ans 5)) (some .nil) = runM k ⟨l, [1, 2], none, stkM 2 3 ans (opF 2 3 ans) 5 .nil, .nil, 7, 6⟩ (.known (.num (ans 3))) (some (.cons "x" (.num 2) (.cons "k" (.kept (takeP 4 (stkM 2 3 ans (opF 2 3 ans) 5 .nil))) .nil))) := by kernel_rfl
theorem A_5_2_4 (ans : Nat → Int) (l k : Nat) : runM (k + 29) (startM (l + 4)) (.ex (treeM 2 4 ans 5)) (some .nil) = runM k ⟨l, [1, 2], none, stkM 2 4 ans (opF 2 4 ans) 5 .nil, .nil, 8, 6⟩ (.known (.num (ans 4))) (some (.cons "x" (.num 2) (.cons "k" (.kept (takeP 5 (stkM 2 4 ans (opF 2 4 ans) 5 .nil))) .nil))) := by kernel_rfl
theorem A_5_3_0 (ans : Nat → Int) (l k : Nat) : runM (k + 29) (startM (l + 4)) (.ex (treeM 3 0 ans 5)) (some .nil) = runM k ⟨l, [1, 2], none, stkM 3 0 ans (opF 3 0 ans) 5 .nil, .nil, 5, 6⟩ (.known (.num (ans 0))) (some (.cons "x" (.num 2) (.cons "k" (.kept (takeP 1 (stkM 3 0 ans (opF 3 0 ans) 5 .nil))) .nil))) := by kernel_rfl
theorem A_5_3_1 (ans : Nat → Int) (l k : Nat) : runM (k + 29) (startM (l + 4)) (.ex (treeM 3 1 ans 5)) (some .nil) = runM k ⟨l, [1, 2], none, stkM 3 1 ans (opF 3 1 ans) 5 .nil, .nil, 6, 6⟩ (.known (.num (ans 1))) (some (.cons "x" (.num 2) (.cons "k" (.kept (takeP 2 (stkM 3 1 ans (opF 3 1 ans) 5 .nil))) .nil))) := by kernel_rfl
theorem A_5_3_2 (ans : Nat → Int) (l k : Nat) : runM (k + 29) (startM (l + 4)) (.ex (treeM 3 2 ans 5)) (some .nil) = runM k ⟨l, [1, 2], none, stkM 3 2 ans (opF 3 2 ans) 5 .nil, .nil, 7, 6⟩ (.known (.num (ans 2))) (some (.cons "x" (.num 2) (.cons "k" (.kept (takeP 3 (stkM 3 2 ans (opF 3 2 ans) 5 .nil))) .nil))) := by kernel_rfl
theorem A_5_3_3 (ans : Nat → Int) (l k : Nat) : runM (k + 29) (startM (l + 4)) (.ex (treeM 3 3 ans 5)) (some .nil) = runM k ⟨l, [1, 2], none, stkM 3 3 ans (opF 3 3 ans) 5 .nil, .nil, 8, 6⟩ (.known (.num (ans 3))) (some (.cons "x" (.num 2) (.cons "k" (.kept (takeP 4 (stkM 3 3 ans (opF 3 3 ans) 5 .nil))) .nil))) := by kernel_rfl
theorem A_5_3_4 (ans : Nat → Int) (l k : Nat) : runM (k + 29) (startM (l + 4)) (.ex (treeM 3 4 ans 5)) (some .nil) = runM k ⟨l, [1, 2], none, stkM 3 4 ans (opF 3 4 ans) 5 .nil, .nil, 9, 6⟩ (.known (.num (ans 4))) (some (.cons "x" (.num 2) (.cons "k" (.kept (takeP 5 (stkM 3 4 ans (opF 3 4 ans) 5 .nil))) .nil))) := by kernel_rfl
theorem A_5_4_0 (ans : Nat → Int) (l k : Nat) : runM (k + 29) (startM (l + 4)) (.ex (treeM 4 0 ans 5)) (some .nil) = runM k ⟨l, [1, 2], none, stkM 4 0 ans (opF 4 0 ans) 5 .nil, .nil, 6, 6⟩ (.known (.num (ans 0))) (some (.cons "x" (.num 2) (.cons "k" (.kept (takeP 1 (stkM 4 0 ans (opF 4 0 ans) 5 .nil))) .nil))) := by kernel_rfl
theorem A_5_4_1 (ans : Nat → Int) (l k : Nat) : runM (k + 29) (startM (l + 4)) (.ex (treeM 4 1 ans 5)) (some .nil) = runM k ⟨l, [1, 2], none, stkM 4 1 ans (opF 4 1 ans) 5 .nil, .nil, 7, 6⟩ (.known (.num (ans 1))) (some (.cons "x" (.num 2) (.cons "k" (.kept (takeP 2 (stkM 4 1 ans (opF 4 1 ans) 5 .nil))) .nil))) := by kernel_rfl
theorem A_5_4_2 (ans : Nat → Int) (l k : Nat) : runM (k + 29) (startM (l + 4)) (.ex (treeM 4 2 ans 5)) (some .nil) = runM k ⟨l, [1, 2], none, stkM 4 2 ans (opF 4 2 ans) 5 .nil, .nil, 8, 6⟩ (.known (.num (ans 2))) (some (.cons "x" (.num 2) (.cons "k" (.kept (takeP 3 (stkM 4 2 ans (opF 4 2 ans) 5 .nil))) .nil))) := by kernel_rfl
theorem A_5_4_3 (ans : Nat → Int) (l k : Nat) : runM (k + 29) (startM (l + 4)) (.ex (treeM 4 3 ans 5)) (some .nil) = runM k ⟨l, [1, 2], none, stkM 4 3 ans (opF 4 3 ans) 5 .nil, .nil, 9, 6⟩ (.known (.num (ans 3))) (some (.cons "x" (.num 2) (.cons "k" (.kept (takeP 4 (stkM 4 3 ans (opF 4 3 ans) 5 .nil))) .nil))) := by kernel_rfl
theorem A_5_4_4 (ans : Nat → Int) (l k : Nat) : runM (k + 29) (startM (l + 4)) (.ex (treeM 4 4 ans 5)) (some .nil) = runM k ⟨l, [1, 2], none, stkM 4 4 ans (opF 4 4 ans) 5 .nil, .nil, 10, 6⟩ (.known (.num (ans 4))) (some (.cons "x" (.num 2) (.cons "k" (.kept (takeP 5 (stkM 4 4 ans (opF 4 4 ans) 5 .nil))) .nil))) := by kernel_rfl
theorem A_6_0_0 (ans : Nat → Int) (l k : Nat) : runM (k + 30) (startM (l + 4)) (.ex (treeM 0 0 ans 6)) (some .nil) = runM k ⟨l, [1, 2], none, stkM 0 0 ans (opF 0 0 ans) 6 .nil, .nil, 2, 7⟩ (.known (.num (ans 0))) (some (.cons "x" (.num 2) (.cons "k" (.kept (takeP 1 (stkM 0 0 ans (opF 0 0 ans) 6 .nil))) .nil))) := by kernel_rfl
theorem A_6_0_1 (ans : Nat → Int) (l k : Nat) : runM (k + 30) (startM (l + 4)) (.ex (treeM 0 1 ans 6)) (some .nil) = runM k ⟨l, [1, 2], none, stkM 0 1 ans (opF 0 1 ans) 6 .nil, .nil, 3, 7⟩ (.known (.num (ans 1))) (some (.cons "x" (.num 2) (.cons "k" (.kept (takeP 2 (stkM 0 1 ans (opF 0 1 ans) 6 .nil))) .nil))) := by kernel_rfl
theorem A_6_0_2 (ans : Nat → Int) (l k : Nat) : runM (k + 30) (startM (l + 4)) (.ex (treeM 0 2 ans 6)) (some .nil) = runM k ⟨l, [1, 2], none, stkM 0 2 ans (opF 0 2 ans) 6 .nil, .nil, 4, 7⟩ (.known (.num (ans 2))) (some (.cons "x" (.num 2) (.cons "k" (.kept (takeP 3 (stkM 0 2 ans (opF 0 2 ans) 6 .nil))) .nil))) := by kernel_rfl
theorem A_6_0_3 (ans : Nat → Int) (l k : Nat) : runM (k + 30) (startM (l + 4)) (.ex (treeM 0 3 ans 6)) (some .nil) = runM k ⟨l, [1, 2], none, stkM 0 3 ans (opF 0 3 ans) 6 .nil, .nil, 5, 7⟩ (.known (.num (ans 3))) (some (.cons "x" (.num 2) (.cons "k" (.kept (takeP 4 (stkM 0 3 ans (opF 0 3 ans) 6 .nil))) .nil))) := by kernel_rfl
theorem A_6_0_4 (ans : Nat → Int) (l k : Nat) : runM (k + 30) (startM (l + 4)) (.ex (treeM 0 4 ans 6)) (some .nil) = runM k ⟨l, [1, 2], none, stkM 0 4 ans (opF 0 4 ans) 6 .nil, .nil, 6, 7⟩ (.known (.num (ans 4))) (some (.cons "x" (.num 2) (.cons "k" (.kept (takeP 5 (stkM 0 4 ans (opF 0 4 ans) 6 .nil))) .nil))) := by kernel_rfl
theorem A_6_0_5 (ans : Nat → Int) (l k : Nat) : runM (k + 30) (startM (l + 4)) (.ex (treeM 0 5 ans 6)) (some .nil) = runM k ⟨l, [1, 2], none, stkM 0 5 ans (opF 0 5 ans) 6 .nil, .nil, 7, 7⟩ (.known (.num (ans 5))) (some (.cons "x" (.num 2) (.cons "k" (.kept (takeP 6 (stkM 0 5 ans (opF 0 5 ans) 6 .nil))) .nil))) := by kernel_rfl
theorem A_6_1_0 (ans : Nat → Int) (l k : Nat) : runM (k + 30) (startM (l + 4)) (.ex (treeM 1 0 ans 6)) (some .nil) = runM k ⟨l, [1, 2], none, stkM 1 0 ans (opF 1 0 ans) 6 .nil, .nil, 3, 7⟩ (.known (.num (ans 0))) (some (.cons "x" (.num 2) (.cons "k" (.kept (takeP 1 (stkM 1 0 ans (opF 1 0 ans) 6 .nil))) .nil))) := by kernel_rfl
theorem A_6_1_1 (ans : Nat → Int) (l k : Nat) : runM (k + 30) (startM (l + 4)) (.ex (treeM 1 1 ans 6)) (some .nil) = runM k ⟨l, [1, 2], none, stkM 1 1 ans (opF 1 1 ans) 6 .nil, .nil, 4, 7⟩ (.known (.num (ans 1))) (some (.cons "x" (.num 2) (.cons "k" (.kept (takeP 2 (stkM 1 1 ans (opF 1 1 ans) 6 .nil))) .nil))) := by kernel_rfl
theorem A_6_1_2 (ans : Nat → Int) (l k : Nat) : runM (k + 30) (startM (l + 4)) (.ex (treeM 1 2 ans 6)) (some .nil) = runM k ⟨l, [1, 2], none, stkM 1 2 ans (opF 1 2 ans) 6 .nil, .nil, 5, 7⟩ (.known (.num (ans 2))) (some (.cons "x" (.num 2) (.cons "k" (.kept (takeP 3 (stkM 1 2 ans (opF 1 2 ans) 6 .nil))) .nil))) := by kernel_rfl
theorem A_6_1_3 (ans : Nat → Int) (l k : Nat) : runM (k + 30) (startM (l + 4)) (.ex (treeM 1 3 ans 6)) (some .nil) = runM k ⟨l, [1, 2], none, stkM 1 3 ans (opF 1 3 ans) 6 .nil, .nil, 6, 7⟩ (.known (.num (ans 3))) (some (.cons "x" (.num 2) (.cons "k" (.kept (takeP 4 (stkM 1 3 ans (opF 1 3 ans) 6 .nil))) .nil))) := by kernel_rfl
theorem A_6_1_4 (ans : Nat → Int) (l k : Nat) : runM (k + 30) (startM (l + 4)) (.ex (treeM 1 4 ans 6)) (some .nil) = runM k ⟨l, [1, 2], none, stkM 1 4 ans (opF 1 4 ans) 6 .nil, .nil, 7, 7⟩ (.known (.num (ans 4))) (some (.cons "x" (.num 2) (.cons "k" (.kept (takeP 5 (stkM 1 4 ans (opF 1 4 ans) 6 .nil))) .nil))) := by kernel_rfl
theorem A_6_1_5 (ans : Nat → Int) (l k : Nat) : runM (k + 30) (startM (l + 4)) (.ex (treeM 1 5 ans 6)) (some .nil) = runM k ⟨l, [1, 2], none, stkM 1 5 ans (opF 1 5 ans) 6 .nil, .nil, 8, 7⟩ (.known (.num (ans 5))) (some (.cons "x" (.num 2) (.cons "k" (.kept (takeP 6 (stkM 1 5 ans (opF 1 5 ans) 6 .nil))) .nil))) := by kernel_rfl
theorem A_6_2_0 (ans : Nat → Int) (l k : Nat) : runM (k + 30) (startM (l + 4)) (.ex (treeM 2 0 ans 6)) (some .nil) = runM k ⟨l, [1, 2], none, stkM 2 0 ans (opF 2 0 ans) 6 .nil, .nil, 4, 7⟩ (.known (.num (ans 0))) (some (.cons "x" (.num 2) (.cons "k" (.kept (takeP 1 (stkM 2 0 ans (opF 2 0 ans) 6 .nil))) .nil))) := by kernel_rfl
theorem A_6_2_1 (ans : Nat → Int) (l k : Nat) : runM (k + 30) (startM (l + 4)) (.ex (treeM 2 1 ans 6)) (some .nil) = runM k ⟨l, [1, 2], none, stkM 2 1 ans (opF 2 1 ans) 6 .nil, .nil, 5, 7⟩ (.known (.num (ans 1))) (some (.cons "x" (.num 2) (.cons "k" (.kept (takeP 2 (stkM 2 1 ans (opF 2 1 ans) 6 .nil))) .nil))) := by kernel_rfl
theorem A_6_2_2 (ans : Nat → Int) (l k : Nat) : runM (k + 30) (startM (l + 4)) (.ex (treeM 2 2 ans 6)) (some .nil) = runM k ⟨l, [1, 2], none, stkM 2 2 ans (opF 2 2 ans) 6 .nil, .nil, 6, 7⟩ (.known (.num (ans 2))) (some (.cons "x" (.num 2) (.cons "k" (.kept (takeP 3 (stkM 2 2 ans (opF 2 2 ans) 6 .nil))) .nil))) := by kernel_rfl
theorem A_6_2_3 (ans : Nat → Int) (l k : Nat) : runM (k + 30) (startM (l + 4)) (.ex (treeM 2 3 ans 6)) (some .nil) = runM k ⟨l, [1, 2], none, stkM 2 3 ans (opF 2 3 ans) 6 .nil, .nil, 7, 7⟩ (.known (.num (ans 3))) (some (.cons "x" (.num 2) (.cons "k" (.kept (takeP 4 (stkM 2 3 ans (opF 2 3 ans) 6 .nil))) .nil))) := by kernel_rfl
theorem A_6_2_4 (ans : Nat → Int) (l k : Nat) : runM (k + 30) (startM (l + 4)) (.ex (treeM 2 4 ans 6)) (some .nil) = runM k ⟨l, [1, 2], none, stkM 2 4 ans (opF 2 4 ans) 6 .nil, .nil, 8, 7⟩ (.known (.num (ans 4))) (some (.cons "x" (.num 2) (.cons "k" (.kept (takeP 5 (stkM 2 4 ans (opF 2 4 ans) 6 .nil))) .nil))) := by kernel_rfl
theorem A_6_2_5 (ans : Nat → Int) (l k : Nat) : runM (k + 30) (startM (l + 4)) (.ex (treeM 2 5 ans 6)) (some .nil) = runM k ⟨l, [1, 2], none, stkM 2 5 ans (opF 2 5 ans) 6 .nil, .nil, 9, 7⟩ (.known (.num (ans 5))) (some (.cons "x" (.num 2) (.cons "k" (.kept (takeP 6 (stkM 2 5 ans (opF 2 5 ans) 6 .nil))) .nil))) := by kernel_rfl
theorem A_6_3_0 (ans : Nat → Int) (l k : Nat) : runM (k + 30) (startM (l + 4)) (.ex (treeM 3 0 ans 6)) (some .nil) = runM k ⟨l, [1, 2], none, stkM 3 0 ans (opF 3 0 ans) 6 .nil, .nil, 5, 7⟩ (.known (.num (ans 0))) (some (.cons "x" (.num 2) (.cons "k" (.kept (takeP 1 (stkM 3 0 ans (opF 3 0 ans) 6 .nil))) .nil))) := by kernel_rfl
theorem A_6_3_1 (ans : Nat → Int) (l k : Nat) : runM (k + 30) (startM (l + 4)) (.ex (treeM 3 1 ans 6)) (some .nil) = runM k ⟨l, [1, 2], none, stkM 3 1 ans (opF 3 1 ans) 6 .nil, .nil, 6, 7⟩ (.known (.num (ans 1))) (some (.cons "x" (.num 2) (.cons "k" (.kept (takeP 2 (stkM 3 1 ans (opF 3 1 ans) 6 .nil))) .nil))) := by kernel_rfl
theorem A_6_3_2 (ans : Nat → Int) (l k : Nat) : runM (k + 30) (startM (l + 4)) (.ex (treeM 3 2 ans 6)) (some .nil) = runM k ⟨l, [1, 2], none, stkM 3 2 ans (opF 3 2 ans) 6 .nil, .nil, 7, 7⟩ (.known (.num (ans 2))) (some (.cons "x" (.num 2) (.cons "k" (.kept (takeP 3 (stkM 3 2 ans (opF 3 2 ans) 6 .nil))) .nil))) := by kernel_rfl
theorem A_6_3_3 (ans : Nat → Int) (l k : Nat) : runM (k + 30) (startM (l + 4)) (.ex (treeM 3 3 ans 6)) (some .nil) = runM k ⟨l, [1, 2], none, stkM 3 3 ans (opF 3 3 ans) 6 .nil, .nil, 8, 7⟩ (.known (.num (ans 3))) (some (.cons "x" (.num 2) (.cons "k" (.kept (takeP 4 (stkM 3 3 ans (opF 3 3 ans) 6 .nil))) .nil))) := by kernel_rfl
theorem A_6_3_4 (ans : Nat → Int) (l k : Nat) : runM (k + 30) (startM (l + 4)) (.ex (treeM 3 4 ans 6)) (some .nil) = runM k ⟨l, [1, 2], none, stkM 3 4 ans (opF 3 4 ans) 6 .nil, .nil, 9, 7⟩ (.known (.num (ans 4))) (some (.cons "x" (.num 2) (.cons "k" (.kept (takeP 5 (stkM 3 4 ans (opF 3 4 ans) 6 .nil))) .nil))) := by kernel_rfl
theorem A_6_3_5 (ans : Nat → Int) (l k : Nat) : runM (k + 30) (startM (l + 4)) (.ex (treeM 3 5 ans 6)) (some .nil) = runM k ⟨l, [1, 2], none, stkM 3 5 ans (opF 3 5 ans) 6 .nil, .nil, 10, 7⟩ (.known (.num (ans 5))) (some (.cons "x" (.num 2) (.cons "k" (.kept (takeP 6 (stkM 3 5 ans (opF 3 5 ans) 6 .nil))) .nil))) := by kernel_rfl
theorem A_6_4_0 (ans : Nat → Int) (l k : Nat) : runM (k + 30) (startM (l + 4)) (.ex (treeM 4 0 ans 6)) (some .nil) = runM k ⟨l, [1, 2], none, stkM 4 0 ans (opF 4 0 ans) 6 .nil, .nil, 6, 7⟩ (.known (.num (ans 0))) (some (.cons "x" (.num 2) (.cons "k" (.kept (takeP 1 (stkM 4 0 ans (opF 4 0 ans) 6 .nil))) .nil))) := by kernel_rfl
theorem A_6_4_1 (ans : Nat → Int) (l k : Nat) : runM (k + 30) (startM (l + 4)) (.ex (treeM 4 1 ans 6)) (some .nil) = runM k ⟨l, [1, 2], none, stkM 4 1 ans (opF 4 1 ans) 6 .nil, .nil, 7, 7⟩ (.known (.num (ans 1))) (some (.cons "x" (.num 2) (.cons "k" (.kept (takeP 2 (stkM 4 1 ans (opF 4 1 ans) 6 .nil))) .nil))) := by kernel_rfl
theorem A_6_4_2 (ans : Nat → Int) (l k : Nat) : runM (k + 30) (startM (l + 4)) (.ex (treeM 4 2 ans 6)) (some .nil) = runM k ⟨l, [1, 2], none, stkM 4 2 ans (opF 4 2 ans) 6 .nil, .nil, 8, 7⟩ (.known (.num (ans 2))) (some (.cons "x" (.num 2) (.cons "k" (.kept (takeP 3 (stkM 4 2 ans (opF 4 2 ans) 6 .nil))) .nil))) := by kernel_rfl
theorem A_6_4_3 (ans : Nat → Int) (l k : Nat) : runM (k + 30) (startM (l + 4)) (.ex (treeM 4 3 ans 6)) (some .nil) = runM k ⟨l, [1, 2], none, stkM 4 3 ans (opF 4 3 ans) 6 .nil, .nil, 9, 7⟩ (.known (.num (ans 3))) (some (.cons "x" (.num 2) (.cons "k" (.kept (takeP 4 (stkM 4 3 ans (opF 4 3 ans) 6 .nil))) .nil))) := by kernel_rfl
theorem A_6_4_4 (ans : Nat → Int) (l k : Nat) : runM (k + 30) (startM (l + 4)) (.ex (treeM 4 4 ans 6)) (some .nil) = runM k ⟨l, [1, 2], none, stkM 4 4 ans (opF 4 4 ans) 6 .nil, .nil, 10, 7⟩ (.known (.num (ans 4))) (some (.cons "x" (.num 2) (.cons "k" (.kept (takeP 5 (stkM 4 4 ans (opF 4 4 ans) 6 .nil))) .nil))) := by kernel_rfl
theorem A_6_4_5 (ans : Nat → Int) (l k : Nat) : runM (k + 30) (startM (l + 4)) (.ex (treeM 4 5 ans 6)) (some .nil) = runM k ⟨l, [1, 2], none, stkM 4 5 ans (opF 4 5 ans) 6 .nil, .nil, 11, 7⟩ (.known (.num (ans 5))) (some (.cons "x" (.num 2) (.cons "k" (.kept (takeP 6 (stkM 4 5 ans (opF 4 5 ans) 6 .nil))) .nil))) := by kernel_rfl
theorem A_6_5_0 (ans : Nat → Int) (l k : Nat) : runM (k + 30) (startM (l + 4)) (.ex (treeM 5 0 ans 6)) (some .nil) = runM k ⟨l, [1, 2], none, stkM 5 0 ans (opF 5 0 ans) 6 .nil, .nil, 7, 7⟩ (.known (.num (ans 0))) (some (.cons "x" (.num 2) (.cons "k" (.kept (takeP 1 (stkM 5 0 ans (opF 5 0 ans) 6 .nil))) .nil))) := by kernel_rfl
theorem A_6_5_1 (ans : Nat → Int) (l k : Nat) : runM (k + 30) (startM (l + 4)) (.ex (treeM 5 1 ans 6)) (some .nil) = runM k ⟨l, [1, 2], none, stkM 5 1 ans (opF 5 1 ans) 6 .nil, .nil, 8, 7⟩ (.known (.num (ans 1))) (some (.cons "x" (.num 2) (.cons "k" (.kept (takeP 2 (stkM 5 1 ans (opF 5 1 ans) 6 .nil))) .nil))) := by kernel_rfl
theorem A_6_5_2 (ans : Nat → Int) (l k : Nat) : runM (k + 30) (startM (l + 4)) (.ex (treeM 5 2 ans 6)) (some .nil) = runM k ⟨l, [1, 2], none, stkM 5 2 ans (opF 5 2 ans) 6 .nil, .nil, 9, 7⟩ (.known (.num (ans 2))) (some (.cons "x" (.num 2) (.cons "k" (.kept (takeP 3 (stkM 5 2 ans (opF 5 2 ans) 6 .nil))) .nil))) := by kernel_rfl
theorem A_6_5_3 (ans : Nat → Int) (l k : Nat) : runM (k + 30) (startM (l + 4)) (.ex (treeM 5 3 ans 6)) (some .nil) = runM k ⟨l, [1, 2], none, stkM 5 3 ans (opF 5 3 ans) 6 .nil, .nil, 10, 7⟩ (.known (.num (ans 3))) (some (.cons "x" (.num 2) (.cons "k" (.kept (takeP 4 (stkM 5 3 ans (opF 5 3 ans) 6 .nil))) .nil))) := by kernel_rfl
theorem A_6_5_4 (ans : Nat → Int) (l k : Nat) : runM (k + 30) (startM (l + 4)) (.ex (treeM 5 4 ans 6)) (some .nil) = runM k ⟨l, [1, 2], none, stkM 5 4 ans (opF 5 4 ans) 6 .nil, .nil, 11, 7⟩ (.known (.num (ans 4))) (some (.cons "x" (.num 2) (.cons "k" (.kept (takeP 5 (stkM 5 4 ans (opF 5 4 ans) 6 .nil))) .nil))) := by kernel_rfl
theorem A_6_5_5 (ans : Nat → Int) (l k : Nat) : runM (k + 30) (startM (l + 4)) (.ex (treeM 5 5 ans 6)) (some .nil) = runM k ⟨l, [1, 2], none, stkM 5 5 ans (opF 5 5 ans) 6 .nil, .nil, 12, 7⟩ (.known (.num (ans 5))) (some (.cons "x" (.num 2) (.cons "k" (.kept (takeP 6 (stkM 5 5 ans (opF 5 5 ans) 6 .nil))) .nil))) := by kernel_rfl
end Bz


set_option Elab.async false
set_option linter.all false
set_option maxRecDepth 100000
set_option maxHeartbeats 4000000
namespace Bz
open PySem PySem.Spec L2 PyProof.Rows
theorem phaseA {c f s : Nat} (h1 : 1 ≤ c) (h6 : c ≤ 6) (hf : f < c) (hs : s < c) (ans : Nat → Int) (l k : Nat) : runM (k + (c + 24)) (startM (l + 4)) (.ex (treeM f s ans c)) (some .nil) = runM k ⟨l, [1, 2], none, stkM f s ans (opF f s ans) c .nil, .nil, f + 1 + s + 1, c + 1⟩ (.known (.num (ans s))) (some (.cons "x" (.num 2) (.cons "k" (.kept (takeP (s + 1) (stkM f s ans (opF f s ans) c .nil))) .nil))) := by
  rcases (by omega : c = 1 ∨ c = 2 ∨ c = 3 ∨ c = 4 ∨ c = 5 ∨ c = 6) with rfl | rfl | rfl | rfl | rfl | rfl
  · obtain rfl : f = 0 := by omega
    obtain rfl : s = 0 := by omega
    exact A_1_0_0 ans l k
  · rcases (by omega : f = 0 ∨ f = 1) with rfl | rfl
    · rcases (by omega : s = 0 ∨ s = 1) with rfl | rfl
      · exact A_2_0_0 ans l k
      · exact A_2_0_1 ans l k
    · rcases (by omega : s = 0 ∨ s = 1) with rfl | rfl
      · exact A_2_1_0 ans l k
      · exact A_2_1_1 ans l k
  · rcases (by omega : f = 0 ∨ f = 1 ∨ f = 2) with rfl | rfl | rfl
    · rcases (by omega : s = 0 ∨ s = 1 ∨ s = 2) with rfl | rfl | rfl
      · exact A_3_0_0 ans l k
      · exact A_3_0_1 ans l k
      · exact A_3_0_2 ans l k
    · rcases (by omega : s = 0 ∨ s = 1 ∨ s = 2) with rfl | rfl | rfl
      · exact A_3_1_0 ans l k
      · exact A_3_1_1 ans l k
      · exact A_3_1_2 ans l k
    · rcases (by omega : s = 0 ∨ s = 1 ∨ s = 2) with rfl | rfl | rfl
      · exact A_3_2_0 ans l k
      · exact A_3_2_1 ans l k
      · exact A_3_2_2 ans l k
  · rcases (by omega : f = 0 ∨ f = 1 ∨ f = 2 ∨ f = 3) with rfl | rfl | rfl | rfl
    · rcases (by omega : s = 0 ∨ s = 1 ∨ s = 2 ∨ s = 3) with rfl | rfl | rfl | rfl
      · exact A_4_0_0 ans l k
      · exact A_4_0_1 ans l k
      · exact A_4_0_2 ans l k
      · exact A_4_0_3 ans l k
    · rcases (by omega : s = 0 ∨ s = 1 ∨ s = 2 ∨ s = 3) with rfl | rfl | rfl | rfl
      · exact A_4_1_0 ans l k
      · exact A_4_1_1 ans l k
      · exact A_4_1_2 ans l k
      · exact A_4_1_3 ans l k
    · rcases (by omega : s = 0 ∨ s = 1 ∨ s = 2 ∨ s = 3) with rfl | rfl | rfl | rfl
      · exact A_4_2_0 ans l k
      · exact A_4_2_1 ans l k
      · exact A_4_2_2 ans l k
      · exact A_4_2_3 ans l k
    · rcases (by omega : s = 0 ∨ s = 1 ∨ s = 2 ∨ s = 3) with rfl | rfl | rfl | rfl
      · exact A_4_3_0 ans l k
      · exact A_4_3_1 ans l k
      · exact A_4_3_2 ans l k
      · exact A_4_3_3 ans l k
  · rcases (by omega : f = 0 ∨ f = 1 ∨ f = 2 ∨ f = 3 ∨ f = 4) with rfl | rfl | rfl | rfl | rfl
    · rcases (by omega : s = 0 ∨ s = 1 ∨ s = 2 ∨ s = 3 ∨ s = 4) with rfl | rfl | rfl | rfl | rfl
      · exact A_5_0_0 ans l k
      · exact A_5_0_1 ans l k
      · exact A_5_0_2 ans l k
      · exact A_5_0_3 ans l k
      · exact A_5_0_4 ans l k
    · rcases (by omega : s = 0 ∨ s = 1 ∨ s = 2 ∨ s = 3 ∨ s = 4) with rfl | rfl | rfl | rfl | rfl
      · exact A_5_1_0 ans l k
      · exact A_5_1_1 ans l k
      · exact A_5_1_2 ans l k
      · exact A_5_1_3 ans l k
      · exact A_5_1_4 ans l k
    · rcases (by omega : s = 0 ∨ s = 1 ∨ s = 2 ∨ s = 3 ∨ s = 4) with rfl | rfl | rfl | rfl | rfl
      · exact A_5_2_0 ans l k
      · exact A_5_2_1 ans l k
      · exact A_5_2_2 ans l k
      · exact A_5_2_3 ans l k
      · exact A_5_2_4 ans l k
    · rcases (by omega : s = 0 ∨ s = 1 ∨ s = 2 ∨ s = 3 ∨ s = 4) with rfl | rfl | rfl | rfl | rfl
      · exact A_5_3_0 ans l k
      · exact A_5_3_1 ans l k
      · exact A_5_3_2 ans l k
      · exact A_5_3_3 ans l k
      · exact A_5_3_4 ans l k
    · rcases (by omega : s = 0 ∨ s = 1 ∨ s = 2 ∨ s = 3 ∨ s = 4) with rfl | rfl | rfl | rfl | rfl
      · exact A_5_4_0 ans l k
      · exact A_5_4_1 ans l k
      · exact A_5_4_2 ans l k
      · exact A_5_4_3 ans l k
      · exact A_5_4_4 ans l k
  · rcases (by omega : f = 0 ∨ f = 1 ∨ f = 2 ∨ f = 3 ∨ f = 4 ∨ f = 5) with rfl | rfl | rfl | rfl | rfl | rfl
    · rcases (by omega : s = 0 ∨ s = 1 ∨ s = 2 ∨ s = 3 ∨ s = 4 ∨ s = 5) with rfl | rfl | rfl | rfl | rfl | rfl
      · exact A_6_0_0 ans l k
      · exact A_6_0_1 ans l k
      · exact A_6_0_2 ans l k
      · exact A_6_0_3 ans l k
      · exact A_6_0_4 ans l k
      · exact A_6_0_5 ans l k
    · rcases (by omega : s = 0 ∨ s = 1 ∨ s = 2 ∨ s = 3 ∨ s = 4 ∨ s = 5) with rfl | rfl | rfl | rfl | rfl | rfl
      · exact A_6_1_0 ans l k
      · exact A_6_1_1 ans l k
      · exact A_6_1_2 ans l k
      · exact A_6_1_3 ans l k
      · exact A_6_1_4 ans l k
      · exact A_6_1_5 ans l k
    · rcases (by omega : s = 0 ∨ s = 1 ∨ s = 2 ∨ s = 3 ∨ s = 4 ∨ s = 5) with rfl | rfl | rfl | rfl | rfl | rfl
      · exact A_6_2_0 ans l k
      · exact A_6_2_1 ans l k
      · exact A_6_2_2 ans l k
      · exact A_6_2_3 ans l k
      · exact A_6_2_4 ans l k
      · exact A_6_2_5 ans l k
    · rcases (by omega : s = 0 ∨ s = 1 ∨ s = 2 ∨ s = 3 ∨ s = 4 ∨ s = 5) with rfl | rfl | rfl | rfl | rfl | rfl
      · exact A_6_3_0 ans l k
      · exact A_6_3_1 ans l k
      · exact A_6_3_2 ans l k
      · exact A_6_3_3 ans l k
      · exact A_6_3_4 ans l k
      · exact A_6_3_5 ans l k
    · rcases (by omega : s = 0 ∨ s = 1 ∨ s = 2 ∨ s = 3 ∨ s = 4 ∨ s = 5) with rfl | rfl | rfl | rfl | rfl | rfl
      · exact A_6_4_0 ans l k
      · exact A_6_4_1 ans l k
      · exact A_6_4_2 ans l k
      · exact A_6_4_3 ans l k
      · exact A_6_4_4 ans l k
      · exact A_6_4_5 ans l k
    · rcases (by omega : s = 0 ∨ s = 1 ∨ s = 2 ∨ s = 3 ∨ s = 4 ∨ s = 5) with rfl | rfl | rfl | rfl | rfl | rfl
      · exact A_6_5_0 ans l k
      · exact A_6_5_1 ans l k
      · exact A_6_5_2 ans l k
      · exact A_6_5_3 ans l k
      · exact A_6_5_4 ans l k
      · exact A_6_5_5 ans l k

theorem wrap_small {n : Int} (h : -1000000 ≤ n) (h2 : n ≤ 1000000) : wrap n = n := by
  unfold wrap
  omega
theorem inR_small {a b : Int} (h : -1000000 ≤ a) (h2 : a ≤ 1000000) (h3 : -1000000 ≤ b) (h4 : b ≤ 1000000) : (inRb a && inRb b) = true := by
  rw [Bool.and_eq_true, Bool.and_eq_true, Bool.and_eq_true]
  simp only [decide_eq_true_eq]
  omega
/-- n pieces of handlers that add 1 -/
inductive EndP : Nat → Pcs → Prop where
  | nil : EndP 0 .nil
  | cons {n : Nat} {e : Ex} {cs : Clz} {r : Pcs} : EndP n r → EndP (n + 1) (.cons (.hd e "r" (.op "+" (.name "r") (.num 1)) cs) .nil .nil r)
theorem runM_none {m : Ms} {t : Tree} {env : Option Env} {k : Nat} (h : m.fin = none) : runM (k + 1) m t env = (stepM m t env).bind fun r => runM k r.1 r.2.1 r.2.2 := by
  show (match m.fin with | some _ => some m | none => _) = _
  rw [h]
theorem opStep (s : Str) (x y : Ex) (env2 : Env) (a b : Int) (m m' : Ms) (en2 : Option Env) (k : Nat) (hf : m.fin = none) (ht : m.top = .cons (.op s x y) env2 (.cons (.num a) .nil) .nil) (hm : m.setTop .nil = m') (ha : (inRb a && inRb b) = true) :
    runM (k + 1) m (.known (.num b)) en2 = runM k m' (.known (oper s a b)) (some env2) := by
  have hs : stepM m (.known (.num b)) en2 = some (m', .known (oper s a b), some env2) := by
    unfold stepM
    rw [ht]
    show Option.map _ (goM (m.setTop .nil) (.op s x y) env2 (.cons (.num a) (.cons (.num b) .nil))) = _
    rw [hm]
    have : goM m' (.op s x y) env2 (.cons (.num a) (.cons (.num b) .nil)) = some (m', .known (oper s a b), env2) := if_pos ha
    rw [this]
    rfl
  rw [runM_none hf, hs]
  rfl
theorem endAll : ∀ (n : Nat) (p : Pcs) (v : Int) (l : Nat) (ps : List Int) (K M : Nat) (env : Option Env) (k : Nat), EndP n p → -1000 ≤ v → v + n ≤ 1000 → runM (k + (6 * n + 2)) ⟨l, ps, none, p, .nil, K, M⟩ (.known (.num v)) env = some ⟨l, ps, some (.val (.int (v + n))), .nil, .nil, K, M⟩
  | 0, _, v, l, ps, K, M, env, k, .nil, _, _ => by
    rw [show v + ((0 : Nat) : Int) = v by omega]
    kernel_rfl
  | n + 1, _, v, l, ps, K, M, env, k, .cons (e := e) (cs := cs) (r := r) h, h1, h2 => by
    have ih := endAll n r (v + 1) l ps K M (some (.cons "r" (.num v) .nil)) k h (by omega) (by omega)
    have e1 : oper "+" v 1 = .num (v + 1) := by
      show Val.num (wrap (v + 1)) = _
      rw [wrap_small (by omega) (by omega)]
    have hin : (inRb v && inRb 1) = true := inR_small (by omega) (by omega) (by decide) (by decide)
    rw [show k + (6 * (n + 1) + 2) = (k + (6 * n + 2)) + 1 + 5 by omega, show v + ((n + 1 : Nat) : Int) = v + 1 + n by omega]
    generalize k + (6 * n + 2) = j at ih
    cases h with
    | nil =>
      have a : runM (j + 1 + 5) ⟨l, ps, none, .cons (.hd e "r" (.op "+" (.name "r") (.num 1)) cs) .nil .nil .nil, .nil, K, M⟩ (.known (.num v)) env = runM (j + 1) ⟨l, ps, none, .nil, .cons (.op "+" (.name "r") (.num 1)) (.cons "r" (.num v) .nil) (.cons (.num v) .nil) .nil, K, M⟩ (.known (.num 1)) (some (.cons "r" (.num v) .nil)) := by kernel_rfl
      rw [a, opStep (m' := ⟨l, ps, none, .nil, .nil, K, M⟩) "+" (.name "r") (.num 1) (.cons "r" (.num v) .nil) v 1 _ _ j rfl rfl rfl hin, e1]
      exact ih
    | @cons n2 e2 cs2 r2 h2' =>
      have a : runM (j + 1 + 5) ⟨l, ps, none, .cons (.hd e "r" (.op "+" (.name "r") (.num 1)) cs) .nil .nil (.cons (.hd e2 "r" (.op "+" (.name "r") (.num 1)) cs2) .nil .nil r2), .nil, K, M⟩ (.known (.num v)) env = runM (j + 1) ⟨l, ps, none, .cons (.hd e2 "r" (.op "+" (.name "r") (.num 1)) cs2) .nil (.cons (.op "+" (.name "r") (.num 1)) (.cons "r" (.num v) .nil) (.cons (.num v) .nil) .nil) r2, .nil, K, M⟩ (.known (.num 1)) (some (.cons "r" (.num v) .nil)) := by kernel_rfl
      rw [a, opStep (m' := ⟨l, ps, none, .cons (.hd e2 "r" (.op "+" (.name "r") (.num 1)) cs2) .nil .nil r2, .nil, K, M⟩) "+" (.name "r") (.num 1) (.cons "r" (.num v) .nil) v 1 _ _ j rfl rfl rfl hin, e1]
      exact ih
theorem stk_form (f s : Nat) (ans : Nat → Int) (F : Frs) : ∀ (n : Nat) (p : Pcs) (m : Nat), EndP m p → ∃ r, (∀ F, stkM f s ans F (n + 1) p = .cons (treeM f s ans 1) .nil F r) ∧ EndP (m + n) r
  | 0, p, m, h => ⟨p, fun _ => rfl, h⟩
  | n + 1, p, m, h => by
    obtain ⟨r, h1, h2⟩ := stk_form f s ans F n (.cons (treeM f s ans (n + 2)) .nil .nil p) (m + 1) (.cons h)
    exact ⟨r, fun F => h1 F, by rw [show m + (n + 1) = m + 1 + n by omega]; exact h2⟩
theorem all21 {c f s : Nat} (h1 : 1 ≤ c) (h6 : c ≤ 6) (hf : f < c) (hs : s < c) (ans : Nat → Int) (hans : ∀ k, 0 ≤ ans k ∧ ans k < 50) (l : Nat) :
    runM (c * 6 + 3 + (c + 24)) (startM (l + 4)) (.ex (treeM f s ans c)) (some .nil) = some ⟨l, [1, 2], some (.val (.int (ans f - ans s + c))), .nil, .nil, f + 1 + s + 1, c + 1⟩ := by
  rw [phaseA h1 h6 hf hs]
  obtain ⟨n, rfl⟩ : ∃ n, c = n + 1 := ⟨c - 1, by omega⟩
  obtain ⟨r, e1, e2⟩ := stk_form f s ans .nil n .nil 0 .nil
  have a1 := hans f
  have a2 := hans s
  have hin : (inRb (ans f) && inRb (ans s)) = true := inR_small (by omega) (by omega) (by omega) (by omega)
  have em : oper "-" (ans f) (ans s) = .num (ans f - ans s) := by
    show Val.num (wrap (ans f - ans s)) = _
    rw [wrap_small (by omega) (by omega)]
  generalize hE : (some (Env.cons "x" (.num 2) (.cons "k" (.kept (takeP (s + 1) (stkM f s ans (opF f s ans) (n + 1) .nil))) .nil))) = en
  rw [e1 (opF f s ans)]
  rw [show (n + 1) * 6 + 3 = (0 + (6 * (n + 1) + 2)) + 1 by omega]
  rw [opStep (m' := ⟨l, [1, 2], none, .cons (treeM f s ans 1) .nil .nil r, .nil, f + 1 + s + 1, n + 1 + 1⟩) "-" (.ask (oS f) (.num 1)) (.ask (oS s) (.num 2)) .nil (ans f) (ans s) _ _ _ rfl rfl rfl hin, em]
  exact endAll (n + 1) _ _ _ _ _ _ _ 0 (.cons (by rw [Nat.zero_add] at e2; exact e2)) (by omega) (by omega)
end Bz


set_option Elab.async false
set_option linter.all false
set_option maxRecDepth 100000
set_option maxHeartbeats 4000000
namespace Bz
open PySem PySem.Spec L2 PyProof.Rows
theorem eqv_self {d : PyData} (h : SeqAt.shaped d = true) : PyData.eqv d d = true := SeqAt.eqv_refl d (SeqAt.canLay_of_shaped h)
theorem mv_same {H H' : Hp} (s : Same H H') : Mv F0 H H H H' := ⟨fun a o h _ => s a o h, fun a o h => ⟨o, s a o h⟩, .refl _, s, fun _ _ h => .inl h⟩
/-- the law's state, apart from all that stands still -/
structure Wd (R H : Hp) (s c : Addr) : Prop where
  sub : Same R H
  rs : R s = none
  rc : R c = none
  st : StAt H s c
theorem Wd.up0 {R H R' H' : Hp} {s c : Addr} (w : Wd R H s c) (m : Mv F0 R H R' H') : Wd R' H' s c := by
  obtain ⟨i, cs, h1, h2, _⟩ := w.st
  exact ⟨m.sub, m.out w.rs h1, m.out w.rc h2, w.st.stay m id id⟩
theorem Wd.took {R H H' : Hp} {s c : Addr} (w : Wd R H s c) (m : Mv (Fst s c) R H R H') (st : StAt H' s c) : Wd R H' s c := ⟨m.sub, w.rs, w.rc, st⟩
/-- a new tuple -/
theorem lit2 {R H : Hp} {vs : List V} {l : List D} (sub : Same R H) (a : Ats R l vs) {p : Addr} (np : H p = none) : ∃ R' : Hp, Mv F0 R H R' (upd H p (.tup vs)) ∧ At R' (.tup l) (.ref p) := ⟨_, mv_new sub np, .ntup sub np a⟩
theorem oS_ok {k : Nat} (h : k < 6) : ((k : Int)).natAbs.log2 < 1920 ∧ ("o" : Str).length + (Str.ofString (toString (k : Int))).length ≤ sizeLine := by
  rcases (by omega : k = 0 ∨ k = 1 ∨ k = 2 ∨ k = 3 ∨ k = 4 ∨ k = 5) with rfl | rfl | rfl | rfl | rfl | rfl <;> decide +kernel
theorem exD_tree (f s : Nat) (ans : Nat → Int) : ∀ n, exD (treeM f s ans n) ≤ 3 + n
  | 0 => by show Nat.max (1 + 1) (1 + 1) + 1 ≤ 3 + 0; decide
  | n + 1 => by
    have ih := exD_tree f s ans n
    show Nat.max (exD (treeM f s ans n)) 3 + 1 ≤ 3 + (n + 1)
    have := Nat.max_le.mpr ⟨ih, (by omega : 3 ≤ 3 + n)⟩
    exact Nat.succ_le_succ this
theorem smE_tree (f s : Nat) (ans : Nat → Int) : ∀ n, smE (treeM f s ans n) = true
  | 0 => rfl
  | n + 1 => by
    have ih := smE_tree f s ans n
    show (decide (1 ≤ 900) && (smE (treeM f s ans n) && (true && (true && true)))) = true
    rw [ih]
    rfl
mutual
def noFn : Ex → Bool
  | .num _ => true | .flag _ => true | .unit => true | .name _ => true
  | .call f e => noFn f && noFn e | .fn _ e => false | .rc _ _ e => false | .lt _ e f => noFn e && noFn f | .ite e f g => noFn e && (noFn f && noFn g)
  | .pair e f => noFn e && noFn f | .fst e => noFn e | .snd e => noFn e | .op _ e f => noFn e && noFn f | .nt e => noFn e | .pr e f => noFn e && noFn f | .ask _ e => noFn e
  | .hd e _ f cs => noFn e && (noFn f && noFnC cs)
def noFnC : Clz → Bool
  | .nil => true
  | .cons _ _ _ g r => noFn g && noFnC r
end
theorem noFn_cl : ∀ {c : Clz}, noFnC c = true → ∀ {g : Ex}, g ∈ c.gs → noFn g = true
  | .nil, _, _, h => by cases h
  | .cons o x k g r, h, g', hm => by
    have h : (noFn g && noFnC r) = true := h
    rw [Bool.and_eq_true] at h
    rcases List.mem_cons.mp hm with e | hm
    · rw [e]; exact h.1
    · exact noFn_cl (c := r) h.2 hm
theorem noFn_ok : ∀ (n : Nat) (e : Ex), noFn e = true → okP n e
  | 0, _, _ => trivial
  | n + 1, e, h => by
    have b2 : ∀ {a b : Bool}, (a && b) = true → a = true ∧ b = true := fun {a b} q => by rw [Bool.and_eq_true] at q; exact q
    refine ⟨fun hf => ?_, fun g hg => noFn_ok n g ?_⟩
    · cases e with
      | fn x b => cases h
      | rc y x b => cases h
      | _ => cases hf
    · cases e with
      | num n => cases hg
      | flag b => cases hg
      | unit => cases hg
      | name x => cases hg
      | fn x e => cases h
      | rc y x e => cases h
      | fst e => rw [List.mem_singleton.mp hg]; exact h
      | snd e => rw [List.mem_singleton.mp hg]; exact h
      | nt e => rw [List.mem_singleton.mp hg]; exact h
      | ask o e => rw [List.mem_singleton.mp hg]; exact h
      | call f e =>
        rcases List.mem_cons.mp hg with q | hg
        · rw [q]; exact (b2 h).1
        · rw [List.mem_singleton.mp hg]; exact (b2 h).2
      | lt x f e =>
        rcases List.mem_cons.mp hg with q | hg
        · rw [q]; exact (b2 h).1
        · rw [List.mem_singleton.mp hg]; exact (b2 h).2
      | pair f e =>
        rcases List.mem_cons.mp hg with q | hg
        · rw [q]; exact (b2 h).1
        · rw [List.mem_singleton.mp hg]; exact (b2 h).2
      | op x f e =>
        rcases List.mem_cons.mp hg with q | hg
        · rw [q]; exact (b2 h).1
        · rw [List.mem_singleton.mp hg]; exact (b2 h).2
      | pr f e =>
        rcases List.mem_cons.mp hg with q | hg
        · rw [q]; exact (b2 h).1
        · rw [List.mem_singleton.mp hg]; exact (b2 h).2
      | ite f e k =>
        rcases List.mem_cons.mp hg with q | hg
        · rw [q]; exact (b2 h).1
        rcases List.mem_cons.mp hg with q | hg
        · rw [q]; exact (b2 (b2 h).2).1
        · rw [List.mem_singleton.mp hg]; exact (b2 (b2 h).2).2
      | hd f x e cs =>
        rcases List.mem_cons.mp hg with q | hg
        · rw [q]; exact (b2 h).1
        rcases List.mem_cons.mp hg with q | hg
        · rw [q]; exact (b2 (b2 h).2).1
        · exact noFn_cl (b2 (b2 h).2).2 hg
theorem noFn_tree (f s : Nat) (ans : Nat → Int) : ∀ n, noFn (treeM f s ans n) = true
  | 0 => rfl
  | n + 1 => by
    have ih := noFn_tree f s ans n
    show (noFn (treeM f s ans n) && (true && (true && true))) = true
    rw [ih]
    rfl
section
variable {P : Program} {w : World} {K : PySem.W.Frag} {mg : Str → Option Value} {base : Heap}
abbrev g_law : Stmt := topS 41
abbrev n_law : List Str := ["_law_script", "_law_state_here", "_law_count", "_law_first", "_law_second", "_law_answers", "_law_k", "_law_tree", "_law_k_here", "_law_body", "_law_told", "_law_value"]
abbrev p_law : List Str := ["_law_script"]
theorem sc_law : FnScope n_law p_law (defScope g_law) := ⟨rfl, rfl, rfl, by decide +kernel, rfl, by decide +kernel, by decide +kernel⟩
def spLaw (K : PySem.W.Frag) : Sp := fun vs H Q _ => ∃ (a : Addr) (ns : List Int), vs = [.ref a] ∧ SqL K H a (ns.map V.int) ∧ ns.length ≤ 63 ∧ ∀ H', Q (.bl true) H'
theorem ok_law {f fS fT fR : Addr} {fd fdS fdT fdR : FuncData} (F : Fun K "law" "law" g_law f fd) (mr : mg "range" = none) (ms : mg "str" = none)
    (GS : Fn P w K mg base CX0 1 "_law_state" p__law_state (spState K) fS fdS) (GT : Fn P w K mg base CX0 1 "_law_take" p__law_take spTake fT fdT)
    (GR : Fn P w K mg base CX0 26 "run_counted" p_run_counted (spRun 10) fR fdR) : FnOk P w K mg base CX0 27 f fd p_law (spLaw K) := by
  refine F.ok (k := 26) sc_law (fun vs H Q E h => ?_) (fun cdv A outer st H vs Q E hr h => ?_)
  · obtain ⟨a, ns, rfl, _⟩ := h
    rfl
  · obtain ⟨a, ns, rfl, hS, hlen, kq⟩ := h
    refine ⟨_, (pss_cons (ps_set (i := 1) sc_law.nd rfl (Or.inr rfl) (pe_call GS.ok (hr.mono (by omega)) (by rfl) GS.g GS.kp GS.b .nil pass0 (pa_cons (pv 0) pa_nil)))
      (pss_cons (ps_set (i := 2) sc_law.nd rfl (Or.inl rfl) (pe_op op_add (pe_int) (pe_call GT.ok (hr.mono (by omega)) (by rfl) GT.g GT.kp GT.b .nil pass0 (pa_cons (pv 1) (pa_cons (pe_int) pa_nil)))))
      (pss_cons (ps_par (i := 3) (j := 4) (by rfl) sc_law.nd rfl rfl (by decide) rfl rfl (pa_cons (pe_call GT.ok (hr.mono (by omega)) (by rfl) GT.g GT.kp GT.b .nil pass0 (pa_cons (pv 1) (pa_cons (pv 2) pa_nil))) (pa_cons (pe_call GT.ok (hr.mono (by omega)) (by rfl) GT.g GT.kp GT.b .nil pass0 (pa_cons (pv 1) (pa_cons (pv 2) pa_nil))) pa_nil)) (by rfl))
      (pss_cons (ps_setLc (i := 5) (own := [("_law_k", 6)]) (g := gName 6) (tt := tYes) (te := tCall spTake [] E0 (tCons (tVar 1) (tCons (tC (.int 50)) tNil))) rfl sc_law.nd rfl rfl (sw_true rfl rfl rfl (by decide +kernel)) (pi_range1 rfl mr (pa_cons (pv 2) pa_nil)) (blkOk_by (N := n_law) (sc := defScope g_law) (by decide +kernel)) (fun _ _ _ _ _ => pg_name (i := 6) sc_law.nd rfl (Or.inl rfl)) (fun _ _ _ _ _ => pts_nil) (fun _ _ _ _ _ => pe_call GT.ok (hr.mono (by omega)) (by rfl) GT.g GT.kp GT.b .nil pass0 (pa_cons (pv 1) (pa_cons pe_int pa_nil))))
      (pss_cons (ps_set (i := 7) sc_law.nd rfl (Or.inl rfl) (pe_tup (pa_cons (pe_str) (pa_cons (pe_str) (pa_cons (pe_tup (pa_cons (pe_str) (pa_cons (pe_op op_add_str (pe_str) (pe_callTy call_str_int (by rfl) ms (by decide +kernel) (pa_cons (pv 3) pa_nil))) (pa_cons (pe_tup (pa_cons (pe_str) (pa_cons (pe_int) pa_nil))) pa_nil)))) (pa_cons (pe_tup (pa_cons (pe_str) (pa_cons (pe_op op_add_str (pe_str) (pe_callTy call_str_int (by rfl) ms (by decide +kernel) (pa_cons (pv 4) pa_nil))) (pa_cons (pe_tup (pa_cons (pe_str) (pa_cons (pe_int) pa_nil))) pa_nil)))) pa_nil))))))
      (pss_cons (ps_for PassesOwn.never rfl (pi_range1 rfl mr (pa_cons (pv 2) pa_nil)) (pg_name (i := 8) sc_law.nd rfl (Or.inl rfl)) (pss_cons (ps_set (i := 9) sc_law.nd rfl (Or.inl rfl) (pe_tup (pa_cons (pe_str) (pa_cons (pe_tup (pa_cons (pe_str) (pa_cons (pe_str) pa_nil))) (pa_cons (pe_tup (pa_cons (pe_str) (pa_cons (pe_tup (pa_cons (pe_str) (pa_cons (pe_str) pa_nil))) (pa_cons (pe_tup (pa_cons (pe_str) (pa_cons (pe_ix ix_list (pv 5) (pv 8) (fun _ _ => rfl)) pa_nil))) pa_nil)))) pa_nil)))))
      (pss_one (ps_set (i := 7) sc_law.nd rfl (Or.inl rfl) (pe_tup (pa_cons (pe_str) (pa_cons (pv 7) (pa_cons (pe_tup (pa_cons (pe_str) (pa_cons (pe_tup (pa_cons (pe_str) (pa_cons (pe_str) (pa_cons (pe_tup (pa_cons (pe_str) (pa_cons (pe_str) pa_nil))) (pa_cons (pe_tup (pa_cons (pe_str) (pa_cons (pe_int) pa_nil))) pa_nil))))) pa_nil))) (pa_cons (pe_tup (pa_cons (pe_tup (pa_cons (pe_op op_add_str (pe_str) (pe_callTy call_str_int (by rfl) ms (by decide +kernel) (pa_cons (pv 8) pa_nil))) (pa_cons (pe_str) (pa_cons (pe_str) (pa_cons (pv 9) pa_nil))))) pa_nil)) pa_nil)))))))))
      (pss_cons (ps_set (i := 10) sc_law.nd rfl (Or.inl rfl) (pe_call GR.ok hr (by rfl) GR.g GR.kp GR.b .nil pass0 (pa_cons (pv 7) (pa_cons (pe_op op_add (pe_int) (pe_call GT.ok (hr.mono (by omega)) (by rfl) GT.g GT.kp GT.b .nil pass0 (pa_cons (pv 1) (pa_cons (pe_int) pa_nil)))) pa_nil))))
      (pss_cons (ps_set (i := 11) sc_law.nd rfl (Or.inl rfl) (pe_op op_add (pe_op op_sub (pe_ix ix_list (pv 5) (pv 3) (fun _ _ => rfl)) (pe_ix ix_list (pv 5) (pv 4) (fun _ _ => rfl))) (pv 2)))
      (pss_one (ps_ret (pe_cmpR (op_eqD hr.units) (pv 10) (pe_tup (pa_cons (pe_tup (pa_cons (pe_int) (pa_cons (pe_int) pa_nil))) (pa_cons (pe_tup (pa_cons (pe_str) (pa_cons (pe_tup (pa_cons (pe_str) (pa_cons (pv 11) pa_nil))) pa_nil))) (pa_cons (pe_tup (pa_cons (pe_op op_add (pe_op op_add (pe_op op_add (pv 3) (pe_int)) (pv 4)) (pe_int)) (pa_cons (pe_op op_add (pv 2) (pe_int)) pa_nil))) pa_nil)))) (nomark _)))))))))))), ?_⟩
    refine ⟨_, rfl, a, ns, rfl, hS, hlen, fun H1 s c st1 s1 hs0 hc0 => ?_⟩
    have w1 : Wd H H1 s c := ⟨s1, hs0, hc0, st1⟩
    refine ⟨_, rfl, H, s, c, 6, rfl, by decide, by decide, w1.sub, w1.rs, w1.rc, w1.st, fun H2 z st2 c2 z0 z1 => ⟨_, _, rfl, rfl, ?_⟩⟩
    have w2 := w1.took c2 st2
    obtain ⟨n, en⟩ : ∃ n : Nat, 1 + z = (n : Int) := ⟨(1 + z).toNat, by omega⟩
    have hn1 : 1 ≤ n := by omega
    have hn6 : n ≤ 6 := by omega
    show gName 2 (.int (1 + z)) _ _ _
    rw [en]
    -- first, second
    refine ⟨_, rfl, _, rfl, H, s, c, n, rfl, by omega, by omega, w2.sub, w2.rs, w2.rc, w2.st, fun H3 y1 st3 c3 y10 y11 => ?_⟩
    have w3 := w2.took c3 st3
    refine ⟨_, rfl, _, rfl, H, s, c, n, rfl, by omega, by omega, w3.sub, w3.rs, w3.rc, w3.st, fun H4 y2 st4 c4 y20 y21 => ?_⟩
    have w4 := w3.took c4 st4
    obtain ⟨fi, rfl⟩ : ∃ f : Nat, y1 = (f : Int) := ⟨y1.toNat, by omega⟩
    obtain ⟨se, rfl⟩ : ∃ f : Nat, y2 = (f : Int) := ⟨y2.toNat, by omega⟩
    have hf : fi < n := by omega
    have hse : se < n := by omega
    refine ⟨_, _, rfl, ?_⟩
    -- the answers
    refine ⟨_, rfl, (n : Int), rfl, by omega, by omega, fun L nL => ?_⟩
    have ent : ((n : Int) - 0).toNat = n := by omega
    refine lc_range (lo := 0) (n := n) (fun i H' => ∃ as : List Int, Wd H H' s c ∧ H' L = some (.lst (as.map V.int)) ∧ as.length = i ∧ ∀ x ∈ as, 0 ≤ x ∧ x < 50) ?_ ?_ ?_
    · have mL : Mv F0 H H4 H _ := mv_mut (o := .lst []) w4.sub nL
      exact ⟨[], w4.up0 mL, upd_same, rfl, fun x h => by cases h⟩
    · rintro i H' hi ⟨as, w5, hL, la, ha⟩
      refine ⟨rfl, _, rfl, H, s, c, 50, rfl, by decide, by decide, w5.sub, w5.rs, w5.rc, w5.st, fun H6 x st6 c6 x0 x1 => ?_⟩
      have w6 := w5.took c6 st6
      obtain ⟨i0, cs0, e1, e2, _⟩ := w4.st
      have nFL : ¬ Fst s c L := fun f => by
        rcases f with f | f
        · rw [f, e1] at nL; cases nL
        · rw [f, e2] at nL; cases nL
      have hL6 := c6.keep _ _ hL nFL
      refine ⟨_, hL6, by rw [List.length_map]; exact small1000 (by omega), as ++ [x], ?_, ?_, by rw [List.length_append]; show as.length + 1 = _; omega, ?_⟩
      · have rL : H L = none := (w4.sub).free nL
        have mset : Mv (fun x => x = L) H H6 H (upd H6 L (.lst (as.map V.int ++ [.int x]))) := mv_at w6.sub rL hL6 rfl
        exact ⟨mset.sub, w6.rs, w6.rc, w6.st.stay mset (fun f => nFL (.inl f.symm)) (fun f => nFL (.inr f.symm))⟩
      · rw [upd_same, List.map_append]
        rfl
      · intro x' hx
        rcases List.mem_append.mp hx with h | h
        · exact ha x' h
        · rw [List.mem_singleton.mp h]; exact ⟨x0, x1⟩
    rintro H5 ⟨as, w5, hL, la, ha⟩
    have rL : H L = none := (w4.sub).free nL
    show gName 5 _ _ _ _
    refine ⟨_, rfl, ?_⟩
    -- the innermost expression
    have oF := oS_ok (k := fi) (by omega)
    have oG := oS_ok (k := se) (by omega)
    refine ⟨_, rfl, oF.1, _, _, rfl, rfl, oF.2, ?_⟩
    refine ⟨by first | decide | (show 3 ≤ sizeLine; decide) | (show 4 ≤ sizeLine; decide), fun p6 n6 => ?_⟩
    obtain ⟨R6, m6, a6⟩ := lit2 w5.sub (l := [.str "num", .int 1]) ⟨_, _, rfl, at_str, _, _, rfl, at_int, rfl⟩ n6
    have w6 := w5.up0 m6
    refine ⟨by first | decide | (show 3 ≤ sizeLine; decide) | (show 4 ≤ sizeLine; decide), fun p7 n7 => ?_⟩
    obtain ⟨R7, m7, a7⟩ := lit2 w6.sub (l := [.str "ask", .str (oS fi), .tup [.str "num", .int 1]]) ⟨_, _, rfl, at_str, _, _, rfl, at_str, _, _, rfl, a6, rfl⟩ n7
    have w7 := w6.up0 m7
    refine ⟨_, rfl, _, rfl, oG.1, _, _, rfl, rfl, oG.2, ?_⟩
    refine ⟨by first | decide | (show 3 ≤ sizeLine; decide) | (show 4 ≤ sizeLine; decide), fun p8 n8 => ?_⟩
    obtain ⟨R8, m8, a8⟩ := lit2 w7.sub (l := [.str "num", .int 2]) ⟨_, _, rfl, at_str, _, _, rfl, at_int, rfl⟩ n8
    have w8 := w7.up0 m8
    refine ⟨by first | decide | (show 3 ≤ sizeLine; decide) | (show 4 ≤ sizeLine; decide), fun p9 n9 => ?_⟩
    obtain ⟨R9, m9, a9⟩ := lit2 w8.sub (l := [.str "ask", .str (oS se), .tup [.str "num", .int 2]]) ⟨_, _, rfl, at_str, _, _, rfl, at_str, _, _, rfl, a8, rfl⟩ n9
    have w9 := w8.up0 m9
    refine ⟨by first | decide | (show 3 ≤ sizeLine; decide) | (show 4 ≤ sizeLine; decide), fun p10 n10 => ?_⟩
    obtain ⟨R10, m10, a10⟩ := lit2 w9.sub (l := [.str "op", .str "-", .tup [.str "ask", .str (oS fi), .tup [.str "num", .int 1]], .tup [.str "ask", .str (oS se), .tup [.str "num", .int 2]]]) ⟨_, _, rfl, at_str, _, _, rfl, at_str, _, _, rfl, a7.up ((m8.tr m9).up), _, _, rfl, a9, rfl⟩ n10
    have w10 := w9.up0 m10
    have m510 := (((m6.tr m7).tr m8).tr m9).tr m10
    have hL10 := m510.keep _ _ hL id
    have rL10 : R10 L = none := m510.out rL hL
    -- the answer of each handler
    let ans : Nat → Int := fun k => as.getD k 0
    have hans : ∀ k, 0 ≤ ans k ∧ ans k < 50 := fun k => by
      show 0 ≤ as.getD k 0 ∧ as.getD k 0 < 50
      rw [List.getD_eq_getElem?_getD]
      cases e : as[k]? with
      | none => exact ⟨by decide, by decide⟩
      | some x => exact ha x (List.mem_of_getElem? e)
    show gName 7 _ _ _ _
    refine ⟨_, rfl, (n : Int), rfl, by omega, by omega, ?_⟩
    refine for_range (lo := 0) (n := n) (fun i σ H' => ∃ (R' : Hp) (v : V) (x8 x9 : Option V), σ = [some (.ref a), some (.ref s), some (.int n), some (.int fi), some (.int se), some (.ref L), none, some v, x8, x9, none, none] ∧ Wd R' H' s c ∧ R' L = none ∧ H' L = some (.lst (as.map V.int)) ∧ At R' ((treeM fi se ans i).d false) v) ?_ ?_ ?_
    · exact ⟨R10, _, none, none, rfl, w10, rL10, hL10, a10⟩
    · rintro i σ H' hi ⟨R', v, x8, x9, rfl, w', rL', hL', av⟩
      show gName 8 _ _ _ _
      rw [Int.zero_add]
      refine ⟨by show 2 ≤ sizeLine; decide, fun p11 n11 => ?_⟩
      obtain ⟨R11, m11, a11⟩ := lit2 w'.sub (l := [.str "name", .str "x"]) ⟨_, _, rfl, at_str, _, _, rfl, at_str, rfl⟩ n11
      have w11 := w'.up0 m11
      refine ⟨by show 2 ≤ sizeLine; decide, fun p12 n12 => ?_⟩
      obtain ⟨R12, m12, a12⟩ := lit2 w11.sub (l := [.str "name", .str "k"]) ⟨_, _, rfl, at_str, _, _, rfl, at_str, rfl⟩ n12
      have w12 := w11.up0 m12
      have hL12 := (m11.tr m12).keep _ _ hL' id
      have hat : atI (as.map V.int) (i : Int) = some (.int (ans i)) := by
        refine atI_nat ?_
        show (as.map V.int)[i]? = some (V.int (as.getD i 0))
        rw [List.getElem?_map, List.getD_eq_getElem?_getD, List.getElem?_eq_getElem (by omega : i < as.length)]
        rfl
      refine ⟨_, rfl, _, rfl, L, _, _, _, rfl, rfl, SqL.of hL12, hat, ?_⟩
      refine ⟨by show 2 ≤ sizeLine; decide, fun p13 n13 => ?_⟩
      obtain ⟨R13, m13, a13⟩ := lit2 w12.sub (l := [.str "num", .int (ans i)]) ⟨_, _, rfl, at_str, _, _, rfl, at_int, rfl⟩ n13
      have w13 := w12.up0 m13
      refine ⟨by show 3 ≤ sizeLine; decide, fun p14 n14 => ?_⟩
      obtain ⟨R14, m14, a14⟩ := lit2 w13.sub (l := [.str "call", .tup [.str "name", .str "k"], .tup [.str "num", .int (ans i)]]) ⟨_, _, rfl, at_str, _, _, rfl, a12.up m13.up, _, _, rfl, a13, rfl⟩ n14
      have w14 := w13.up0 m14
      refine ⟨by show 3 ≤ sizeLine; decide, fun p15 n15 => ?_⟩
      obtain ⟨R15, m15, a15⟩ := lit2 w14.sub (l := [.str "print", .tup [.str "name", .str "x"], .tup [.str "call", .tup [.str "name", .str "k"], .tup [.str "num", .int (ans i)]]]) ⟨_, _, rfl, at_str, _, _, rfl, a11.up (((m12.tr m13).tr m14).up), _, _, rfl, a14, rfl⟩ n15
      have w15 := w14.up0 m15
      show gName 9 _ _ _ _
      refine ⟨_, rfl, ?_⟩
      refine ⟨by show 2 ≤ sizeLine; decide, fun p16 n16 => ?_⟩
      obtain ⟨R16, m16, a16⟩ := lit2 w15.sub (l := [.str "name", .str "r"]) ⟨_, _, rfl, at_str, _, _, rfl, at_str, rfl⟩ n16
      have w16 := w15.up0 m16
      refine ⟨by show 2 ≤ sizeLine; decide, fun p17 n17 => ?_⟩
      obtain ⟨R17, m17, a17⟩ := lit2 w16.sub (l := [.str "num", .int 1]) ⟨_, _, rfl, at_str, _, _, rfl, at_int, rfl⟩ n17
      have w17 := w16.up0 m17
      refine ⟨by show 4 ≤ sizeLine; decide, fun p18 n18 => ?_⟩
      obtain ⟨R18, m18, a18⟩ := lit2 w17.sub (l := [.str "op", .str "+", .tup [.str "name", .str "r"], .tup [.str "num", .int 1]]) ⟨_, _, rfl, at_str, _, _, rfl, at_str, _, _, rfl, a16.up m17.up, _, _, rfl, a17, rfl⟩ n18
      have w18 := w17.up0 m18
      refine ⟨by show 2 ≤ sizeLine; decide, fun p19 n19 => ?_⟩
      obtain ⟨R19, m19, a19⟩ := lit2 w18.sub (l := [.str "r", .tup [.str "op", .str "+", .tup [.str "name", .str "r"], .tup [.str "num", .int 1]]]) ⟨_, _, rfl, at_str, _, _, rfl, a18, rfl⟩ n19
      have w19 := w18.up0 m19
      have oH := oS_ok (k := i) (by omega)
      refine ⟨_, rfl, _, rfl, oH.1, _, _, rfl, rfl, oH.2, _, rfl, ?_⟩
      refine ⟨by show 4 ≤ sizeLine; decide, fun p20 n20 => ?_⟩
      obtain ⟨R20, m20, a20⟩ := lit2 w19.sub (l := [.str (oS i), .str "x", .str "k", .tup [.str "print", .tup [.str "name", .str "x"], .tup [.str "call", .tup [.str "name", .str "k"], .tup [.str "num", .int (ans i)]]]]) ⟨_, _, rfl, at_str, _, _, rfl, at_str, _, _, rfl, at_str, _, _, rfl, a15.up ((((m16.tr m17).tr m18).tr m19).up), rfl⟩ n20
      have w20 := w19.up0 m20
      refine ⟨by show 1 ≤ sizeLine; decide, fun p21 n21 => ?_⟩
      obtain ⟨R21, m21, a21⟩ := lit2 w20.sub (l := [.tup [.str (oS i), .str "x", .str "k", .tup [.str "print", .tup [.str "name", .str "x"], .tup [.str "call", .tup [.str "name", .str "k"], .tup [.str "num", .int (ans i)]]]]]) ⟨_, _, rfl, a20, rfl⟩ n21
      have w21 := w20.up0 m21
      refine ⟨by show 4 ≤ sizeLine; decide, fun p22 n22 => ?_⟩
      obtain ⟨R22, m22, a22⟩ := lit2 w21.sub (l := [.str "handle", (treeM fi se ans i).d false, .tup [.str "r", .tup [.str "op", .str "+", .tup [.str "name", .str "r"], .tup [.str "num", .int 1]]], .tup [.tup [.str (oS i), .str "x", .str "k", .tup [.str "print", .tup [.str "name", .str "x"], .tup [.str "call", .tup [.str "name", .str "k"], .tup [.str "num", .int (ans i)]]]]]]) ⟨_, _, rfl, at_str, _, _, rfl, av.up ((((((((((m11.tr m12).tr m13).tr m14).tr m15).tr m16).tr m17).tr m18).tr m19).tr m20).tr m21).up, _, _, rfl, a19.up (m20.tr m21).up, _, _, rfl, a21, rfl⟩ n22
      have w22 := w21.up0 m22
      have mI := (((((((((((m11.tr m12).tr m13).tr m14).tr m15).tr m16).tr m17).tr m18).tr m19).tr m20).tr m21).tr m22)
      show gName 7 _ _ _ _
      exact ⟨R22, _, _, _, rfl, w22, mI.out rL' hL', mI.keep _ _ hL' id, a22⟩
    rintro σ H' ⟨R', v, x8, x9, rfl, w', rL', hL', av⟩
    -- the run
    refine ⟨_, rfl, _, rfl, R', s, c, 9, rfl, by decide, by decide, w'.sub, w'.rs, w'.rc, w'.st, fun H30 y st30 c30 y0 y1 => ?_⟩
    have w30 := w'.took c30 st30
    obtain ⟨l, rfl⟩ : ∃ l : Nat, y = (l : Int) := ⟨y.toNat, by omega⟩
    refine ⟨_, _, rfl, rfl, R', treeM fi se ans n, v, l + 4, _, _, _, by show [v, V.int (4 + (l : Int))] = _; rw [show (4 : Int) + (l : Int) = ((l + 4 : Nat) : Int) by omega], w30.sub, av, Nat.le_trans (exD_tree fi se ans n) (by omega), smE_tree fi se ans n, noFn_ok 10 _ (noFn_tree fi se ans n), all21 hn1 hn6 hf hse ans hans l, rfl, fun R31 H31 u m31 a31 => ?_⟩
    have w31 := w30.up0 m31
    have nFL : ¬ Fst s c L := fun f => by
      rcases f with f | f
      · obtain ⟨i0, cs0, e1, e2, _⟩ := w4.st
        rw [f, e1] at nL; cases nL
      · obtain ⟨i0, cs0, e1, e2, _⟩ := w4.st
        rw [f, e2] at nL; cases nL
    have hL31 := m31.keep _ _ (c30.keep _ _ hL' nFL) id
    have hat : ∀ k, k < n → atI (as.map V.int) (k : Int) = some (.int (ans k)) := fun k hk => by
      refine atI_nat ?_
      show (as.map V.int)[k]? = some (V.int (as.getD k 0))
      rw [List.getElem?_map, List.getD_eq_getElem?_getD, List.getElem?_eq_getElem (by omega : k < as.length)]
      rfl
    show gName 10 _ _ _ _
    refine ⟨_, rfl, _, rfl, L, _, _, _, rfl, rfl, SqL.of hL31, hat fi hf, _, rfl, _, rfl, L, _, _, _, rfl, rfl, SqL.of hL31, hat se hse, _, _, rfl, rfl, _, rfl, _, _, rfl, rfl, ?_⟩
    show gName 11 _ _ _ _
    refine ⟨_, rfl, ?_⟩
    refine ⟨by show 2 ≤ sizeLine; decide, fun p40 n40 => ?_⟩
    obtain ⟨R40, m40, a40⟩ := lit2 w31.sub (l := [.int 1, .int 2]) ⟨_, _, rfl, at_int, _, _, rfl, at_int, rfl⟩ n40
    have w40 := w31.up0 m40
    refine ⟨_, rfl, ?_⟩
    refine ⟨by show 2 ≤ sizeLine; decide, fun p41 n41 => ?_⟩
    obtain ⟨R41, m41, a41⟩ := lit2 w40.sub (l := [.str "int", .int (ans fi - ans se + n)]) ⟨_, _, rfl, at_str, _, _, rfl, at_int, rfl⟩ n41
    have w41 := w40.up0 m41
    refine ⟨by show 2 ≤ sizeLine; decide, fun p42 n42 => ?_⟩
    obtain ⟨R42, m42, a42⟩ := lit2 w41.sub (l := [.str "value", .tup [.str "int", .int (ans fi - ans se + n)]]) ⟨_, _, rfl, at_str, _, _, rfl, a41, rfl⟩ n42
    have w42 := w41.up0 m42
    refine ⟨_, rfl, _, _, rfl, rfl, _, rfl, _, _, rfl, rfl, _, _, rfl, rfl, _, rfl, _, _, rfl, rfl, ?_⟩
    refine ⟨by show 2 ≤ sizeLine; decide, fun p43 n43 => ?_⟩
    obtain ⟨R43, m43, a43⟩ := lit2 w42.sub (l := [.int ((fi + 1 + se + 1 : Nat) : Int), .int ((n + 1 : Nat) : Int)]) ⟨_, _, rfl, at_int, _, _, rfl, at_int, rfl⟩ n43
    have w43 := w42.up0 m43
    refine ⟨by show 3 ≤ sizeLine; decide, fun p44 n44 => ?_⟩
    obtain ⟨R44, m44, a44⟩ := lit2 w43.sub (l := [.tup [.int 1, .int 2], .tup [.str "value", .tup [.str "int", .int (ans fi - ans se + n)]], .tup [.int ((fi + 1 + se + 1 : Nat) : Int), .int ((n + 1 : Nat) : Int)]]) ⟨_, _, rfl, a40.up ((m41.tr m42).tr m43).up, _, _, rfl, a42.up m43.up, _, _, rfl, a43, rfl⟩ n44
    have w44 := w43.up0 m44
    refine ⟨_, _, (a31.up ((((m40.tr m41).tr m42).tr m43).tr m44).up).dp w44.sub rfl, a44.dp w44.sub rfl, by kernel_rfl, by kernel_rfl, ?_⟩
    show Q (.bl (PyData.eqv (D.py (.tup [.tup [.int 1, .int 2], .tup [.str "value", .tup [.str "int", .int (ans fi - ans se + n)]], .tup [.int ((fi + 1 + se + 1 : Nat) : Int), .int ((n + 1 : Nat) : Int)]])) _)) _
    rw [eqv_self (by kernel_rfl)]
    exact kq _
end
end Bz


set_option Elab.async false
set_option linter.all false
set_option maxRecDepth 100000
set_option maxHeartbeats 4000000
namespace Bz
open PySem PySem.Spec L2 PyProof.Rows
theorem spR_imp {ok ok2 : Ex → Prop} {C : Addr} (h : ∀ e, ok2 e → ok e) : ∀ vs H Q E, spR ok2 C vs H Q E → spR ok C vs H Q E := by
  rintro vs H Q E ⟨a, dx, lp, lh, lf, ext, R, m, e, env, ws, ve, vn, vv, r, h1, h2, h3, h4, h5, h6, h7, h8⟩
  exact ⟨a, dx, lp, lh, lf, ext, R, m, e, env, ws, ve, vn, vv, r, h1, h2, h3, h4, h5, h6, h e h7, h8⟩
theorem note_up {P : Program} {w : World} {K : PySem.W.Frag} {mg : Str → Option Value} {base : Heap} {f fP fB : Addr} {fd fdP fdB : FuncData} (F : Fun K "note_free_names" "note_free_names" g_note_free_names f fd) (mz : mg "zip" = none)
    (GP : Fn P w K mg base CX0 1 "parts" p_parts spParts fP fdP) (GB : Fn P w K mg base CX0 2 "bound_in_parts" p_bound_in_parts spBnd fB fdB)
    (g : mg "note_free_names" = some (.ref f)) (kp : PySem.W.keepIn K (.ref f) = true) (b : Binds K fd p_note_free_names []) : ∀ n, Fn P w K mg base CX0 (n + 3) "note_free_names" p_note_free_names (spNote n) f fd
  | 0 => ⟨ok_note0 F, g, kp, b⟩
  | n + 1 => ⟨ok_note F mz GP GB (note_up F mz GP GB g kp b n), g, kp, b⟩
theorem prep_up {P : Program} {w : World} {K : PySem.W.Frag} {mg : Str → Option Value} {base : Heap} {N : Nat} {f fP fW fF : Addr} {fd fdP fdW fdF : FuncData} (F : Fun K "prepared" "prepared" g_prepared f fd) (hN4 : N ≤ 4000)
    (GP : Fn P w K mg base CX0 1 "parts" p_parts spParts fP fdP) (GW : Fn P w K mg base CX0 1 "with_parts" p_with_parts spWithP fW fdW) (GF : Fn P w K mg base CX0 (N + 4) "free_names" p_free_names (spFree N) fF fdF)
    (g : mg "prepared" = some (.ref f)) (kp : PySem.W.keepIn K (.ref f) = true) (b : Binds K fd p_prepared []) : ∀ n, n ≤ N → Fn P w K mg base CX0 (N + 5 + n) "prepared" p_prepared (spPrep n) f fd
  | 0, _ => ⟨ok_prep0 (k := N + 4) F, g, kp, b⟩
  | n + 1, h => ⟨ok_prep F h hN4 GP GW GF (prep_up F hN4 GP GW GF g kp b n (by omega)), g, kp, b⟩
theorem vals_of {its : List Value} {xs : List V} (h : Paired RelV xs its) : Vals xs its := h
theorem all_mk {l : PySem.W.OpenLaw} {w : World} {K : PySem.W.Frag} {h : Heap} {mg : Str → Option Value} {fa C CR f_Run___init__ f_Run_take_step f_Run_end_with f_Run_end_unhandled f_wrapped f_operated f_negated f_shape f_Stack___init__ f_Stack_wait f_Stack_waiting f_Stack_put f_Stack_put_back f_Stack_take f_Stack_keep f_Stack_answering f_parts f_with_parts f_bound_in_parts f_free_names f_note_free_names f_run_counted f_prepared f_advanced f_go_on f_end_piece f_literal_rule f_name_rule f_function_rule f_call_rule f_let_rule f_choice_rule f_pair_rule f_first_rule f_second_rule f_operator_rule f_not_rule f_print_rule f_ask_rule f_L_law_state f_L_law_take f_law : Addr} (X : K.In h) (G : h.Ns mainGlobals mg) (hfa : mg "law" = some (.ref fa))
    {mcR : Value}
    {od_Run___init__ an_Run___init__ : Option Addr} {sl_Run___init__ : Array (Option Value)} {oc_Run___init__ kV_Run___init__ dc_Run___init__ pm_Run___init__ cd_Run___init__ ct_Run___init__ : Value}
    {od_Run_take_step an_Run_take_step : Option Addr} {sl_Run_take_step : Array (Option Value)} {oc_Run_take_step kV_Run_take_step dc_Run_take_step pm_Run_take_step cd_Run_take_step ct_Run_take_step : Value}
    {od_Run_end_with an_Run_end_with : Option Addr} {sl_Run_end_with : Array (Option Value)} {oc_Run_end_with kV_Run_end_with dc_Run_end_with pm_Run_end_with cd_Run_end_with ct_Run_end_with : Value}
    {od_Run_end_unhandled an_Run_end_unhandled : Option Addr} {sl_Run_end_unhandled : Array (Option Value)} {oc_Run_end_unhandled kV_Run_end_unhandled dc_Run_end_unhandled pm_Run_end_unhandled cd_Run_end_unhandled ct_Run_end_unhandled : Value}
    {od_wrapped an_wrapped : Option Addr} {sl_wrapped : Array (Option Value)} {oc_wrapped kV_wrapped dc_wrapped pm_wrapped cd_wrapped ct_wrapped : Value}
    {od_operated an_operated : Option Addr} {sl_operated : Array (Option Value)} {oc_operated kV_operated dc_operated pm_operated cd_operated ct_operated : Value}
    {od_negated an_negated : Option Addr} {sl_negated : Array (Option Value)} {oc_negated kV_negated dc_negated pm_negated cd_negated ct_negated : Value}
    {od_shape an_shape : Option Addr} {sl_shape : Array (Option Value)} {oc_shape kV_shape dc_shape pm_shape cd_shape ct_shape : Value}
    {od_Stack___init__ an_Stack___init__ : Option Addr} {sl_Stack___init__ : Array (Option Value)} {oc_Stack___init__ kV_Stack___init__ dc_Stack___init__ pm_Stack___init__ cd_Stack___init__ ct_Stack___init__ : Value}
    {od_Stack_wait an_Stack_wait : Option Addr} {sl_Stack_wait : Array (Option Value)} {oc_Stack_wait kV_Stack_wait dc_Stack_wait pm_Stack_wait cd_Stack_wait ct_Stack_wait : Value}
    {od_Stack_waiting an_Stack_waiting : Option Addr} {sl_Stack_waiting : Array (Option Value)} {oc_Stack_waiting kV_Stack_waiting dc_Stack_waiting pm_Stack_waiting cd_Stack_waiting ct_Stack_waiting : Value}
    {od_Stack_put an_Stack_put : Option Addr} {sl_Stack_put : Array (Option Value)} {oc_Stack_put kV_Stack_put dc_Stack_put pm_Stack_put cd_Stack_put ct_Stack_put : Value}
    {od_Stack_put_back an_Stack_put_back : Option Addr} {sl_Stack_put_back : Array (Option Value)} {oc_Stack_put_back kV_Stack_put_back dc_Stack_put_back pm_Stack_put_back cd_Stack_put_back ct_Stack_put_back : Value}
    {od_Stack_take an_Stack_take : Option Addr} {sl_Stack_take : Array (Option Value)} {oc_Stack_take kV_Stack_take dc_Stack_take pm_Stack_take cd_Stack_take ct_Stack_take : Value}
    {od_Stack_keep an_Stack_keep : Option Addr} {sl_Stack_keep : Array (Option Value)} {oc_Stack_keep kV_Stack_keep dc_Stack_keep pm_Stack_keep cd_Stack_keep ct_Stack_keep : Value}
    {od_Stack_answering an_Stack_answering : Option Addr} {sl_Stack_answering : Array (Option Value)} {oc_Stack_answering kV_Stack_answering dc_Stack_answering pm_Stack_answering cd_Stack_answering ct_Stack_answering : Value}
    {od_parts an_parts : Option Addr} {sl_parts : Array (Option Value)} {oc_parts kV_parts dc_parts pm_parts cd_parts ct_parts : Value}
    {od_with_parts an_with_parts : Option Addr} {sl_with_parts : Array (Option Value)} {oc_with_parts kV_with_parts dc_with_parts pm_with_parts cd_with_parts ct_with_parts : Value}
    {od_bound_in_parts an_bound_in_parts : Option Addr} {sl_bound_in_parts : Array (Option Value)} {oc_bound_in_parts kV_bound_in_parts dc_bound_in_parts pm_bound_in_parts cd_bound_in_parts ct_bound_in_parts : Value}
    {od_free_names an_free_names : Option Addr} {sl_free_names : Array (Option Value)} {oc_free_names kV_free_names dc_free_names pm_free_names cd_free_names ct_free_names : Value}
    {od_note_free_names an_note_free_names : Option Addr} {sl_note_free_names : Array (Option Value)} {oc_note_free_names kV_note_free_names dc_note_free_names pm_note_free_names cd_note_free_names ct_note_free_names : Value}
    {od_run_counted an_run_counted : Option Addr} {sl_run_counted : Array (Option Value)} {oc_run_counted kV_run_counted dc_run_counted pm_run_counted cd_run_counted ct_run_counted : Value}
    {od_prepared an_prepared : Option Addr} {sl_prepared : Array (Option Value)} {oc_prepared kV_prepared dc_prepared pm_prepared cd_prepared ct_prepared : Value}
    {od_advanced an_advanced : Option Addr} {sl_advanced : Array (Option Value)} {oc_advanced kV_advanced dc_advanced pm_advanced cd_advanced ct_advanced : Value}
    {od_go_on an_go_on : Option Addr} {sl_go_on : Array (Option Value)} {oc_go_on kV_go_on dc_go_on pm_go_on cd_go_on ct_go_on : Value}
    {od_end_piece an_end_piece : Option Addr} {sl_end_piece : Array (Option Value)} {oc_end_piece kV_end_piece dc_end_piece pm_end_piece cd_end_piece ct_end_piece : Value}
    {od_literal_rule an_literal_rule : Option Addr} {sl_literal_rule : Array (Option Value)} {oc_literal_rule kV_literal_rule dc_literal_rule pm_literal_rule cd_literal_rule ct_literal_rule : Value}
    {od_name_rule an_name_rule : Option Addr} {sl_name_rule : Array (Option Value)} {oc_name_rule kV_name_rule dc_name_rule pm_name_rule cd_name_rule ct_name_rule : Value}
    {od_function_rule an_function_rule : Option Addr} {sl_function_rule : Array (Option Value)} {oc_function_rule kV_function_rule dc_function_rule pm_function_rule cd_function_rule ct_function_rule : Value}
    {od_call_rule an_call_rule : Option Addr} {sl_call_rule : Array (Option Value)} {oc_call_rule kV_call_rule dc_call_rule pm_call_rule cd_call_rule ct_call_rule : Value}
    {od_let_rule an_let_rule : Option Addr} {sl_let_rule : Array (Option Value)} {oc_let_rule kV_let_rule dc_let_rule pm_let_rule cd_let_rule ct_let_rule : Value}
    {od_choice_rule an_choice_rule : Option Addr} {sl_choice_rule : Array (Option Value)} {oc_choice_rule kV_choice_rule dc_choice_rule pm_choice_rule cd_choice_rule ct_choice_rule : Value}
    {od_pair_rule an_pair_rule : Option Addr} {sl_pair_rule : Array (Option Value)} {oc_pair_rule kV_pair_rule dc_pair_rule pm_pair_rule cd_pair_rule ct_pair_rule : Value}
    {od_first_rule an_first_rule : Option Addr} {sl_first_rule : Array (Option Value)} {oc_first_rule kV_first_rule dc_first_rule pm_first_rule cd_first_rule ct_first_rule : Value}
    {od_second_rule an_second_rule : Option Addr} {sl_second_rule : Array (Option Value)} {oc_second_rule kV_second_rule dc_second_rule pm_second_rule cd_second_rule ct_second_rule : Value}
    {od_operator_rule an_operator_rule : Option Addr} {sl_operator_rule : Array (Option Value)} {oc_operator_rule kV_operator_rule dc_operator_rule pm_operator_rule cd_operator_rule ct_operator_rule : Value}
    {od_not_rule an_not_rule : Option Addr} {sl_not_rule : Array (Option Value)} {oc_not_rule kV_not_rule dc_not_rule pm_not_rule cd_not_rule ct_not_rule : Value}
    {od_print_rule an_print_rule : Option Addr} {sl_print_rule : Array (Option Value)} {oc_print_rule kV_print_rule dc_print_rule pm_print_rule cd_print_rule ct_print_rule : Value}
    {od_ask_rule an_ask_rule : Option Addr} {sl_ask_rule : Array (Option Value)} {oc_ask_rule kV_ask_rule dc_ask_rule pm_ask_rule cd_ask_rule ct_ask_rule : Value}
    {od_L_law_state an_L_law_state : Option Addr} {sl_L_law_state : Array (Option Value)} {oc_L_law_state kV_L_law_state dc_L_law_state pm_L_law_state cd_L_law_state ct_L_law_state : Value}
    {od_L_law_take an_L_law_take : Option Addr} {sl_L_law_take : Array (Option Value)} {oc_L_law_take kV_L_law_take dc_L_law_take pm_L_law_take cd_L_law_take ct_L_law_take : Value}
    {od_law an_law : Option Addr} {sl_law : Array (Option Value)} {oc_law kV_law dc_law pm_law cd_law ct_law : Value}
    {tkH : Tok}
    {pS : Addr} {esS : Array DictEntry} {nS : Nat}
    {tdS_num : Tok}
    {tdS_flag : Tok}
    {tdS_unit : Tok}
    {pF : Addr} {esF : Array DictEntry} {nF : Nat}
    {tdF_num : Tok}
    {tdF_flag : Tok}
    {tdF_unit : Tok}
    {tdF_name : Tok}
    {tdF_call : Tok}
    {tdF_fun : Tok}
    {tdF_rec : Tok}
    {tdF_let : Tok}
    {tdF_if : Tok}
    {tdF_pair : Tok}
    {tdF_fst : Tok}
    {tdF_snd : Tok}
    {tdF_op : Tok}
    {tdF_not : Tok}
    {tdF_print : Tok}
    {tdF_ask : Tok}
    {tdF_kept : Tok}
    {tdF_known : Tok}
    {pE : Addr} {esE : Array DictEntry} {nE : Nat}
    {AdE_num : Addr} {dddE_num : Option Addr} {nndE_num : Nat} {ssdE_num : Array (Option Value)}
    {AdE_flag : Addr} {dddE_flag : Option Addr} {nndE_flag : Nat} {ssdE_flag : Array (Option Value)}
    {AdE_unit : Addr} {dddE_unit : Option Addr} {nndE_unit : Nat} {ssdE_unit : Array (Option Value)}
    {AdE_name : Addr} {dddE_name : Option Addr} {nndE_name : Nat} {ssdE_name : Array (Option Value)}
    {AdE_call : Addr} {dddE_call : Option Addr} {nndE_call : Nat} {ssdE_call : Array (Option Value)} {tdE_call_0 : Tok} {tdE_call_1 : Tok}
    {AdE_fun : Addr} {dddE_fun : Option Addr} {nndE_fun : Nat} {ssdE_fun : Array (Option Value)}
    {AdE_rec : Addr} {dddE_rec : Option Addr} {nndE_rec : Nat} {ssdE_rec : Array (Option Value)}
    {AdE_let : Addr} {dddE_let : Option Addr} {nndE_let : Nat} {ssdE_let : Array (Option Value)} {tdE_let_0 : Tok}
    {AdE_if : Addr} {dddE_if : Option Addr} {nndE_if : Nat} {ssdE_if : Array (Option Value)} {tdE_if_0 : Tok}
    {AdE_pair : Addr} {dddE_pair : Option Addr} {nndE_pair : Nat} {ssdE_pair : Array (Option Value)} {tdE_pair_0 : Tok} {tdE_pair_1 : Tok}
    {AdE_fst : Addr} {dddE_fst : Option Addr} {nndE_fst : Nat} {ssdE_fst : Array (Option Value)} {tdE_fst_0 : Tok}
    {AdE_snd : Addr} {dddE_snd : Option Addr} {nndE_snd : Nat} {ssdE_snd : Array (Option Value)} {tdE_snd_0 : Tok}
    {AdE_op : Addr} {dddE_op : Option Addr} {nndE_op : Nat} {ssdE_op : Array (Option Value)} {tdE_op_0 : Tok} {tdE_op_1 : Tok}
    {AdE_not : Addr} {dddE_not : Option Addr} {nndE_not : Nat} {ssdE_not : Array (Option Value)} {tdE_not_0 : Tok}
    {AdE_print : Addr} {dddE_print : Option Addr} {nndE_print : Nat} {ssdE_print : Array (Option Value)} {tdE_print_0 : Tok}
    {AdE_ask : Addr} {dddE_ask : Option Addr} {nndE_ask : Nat} {ssdE_ask : Array (Option Value)} {tdE_ask_0 : Tok}
    {AdE_handle : Addr} {dddE_handle : Option Addr} {nndE_handle : Nat} {ssdE_handle : Array (Option Value)} {tdE_handle_0 : Tok}
    {pR : Addr} {esR : Array DictEntry} {nR : Nat}
    (a_Stack : PySem.W.nsIn K mainGlobals "Stack" = some (some (.ref C)))
    (a_Run : PySem.W.nsIn K mainGlobals "Run" = some (some (.ref CR)))
    (tyR : PySem.W.typeIn K (.ref CR) = some mcR)
    (fiR : PySem.W.findIn K (.ref CR) "__init__" = some (some (.ref f_Run___init__)))
    (rdR : PySem.W.readsIn K CR mcR = true)
    (gaR : PySem.W.specialIn K (.ref CR) "__getattribute__" = some (some (.builtin "type.__getattribute__")))
    (cvR : PySem.W.findCls K (.ref CR) mcR "__init__" = some (.val (.ref f_Run___init__)))
    (l_Run___init__ : K.lookup f_Run___init__ = some ⟨oc_Run___init__, od_Run___init__, .func (PySem.W.fnOf "__init__" "Run.__init__" (defArgs g_Run_init) (defBody g_Run_init) (defScope g_Run_init) .none kV_Run___init__ dc_Run___init__ pm_Run___init__ an_Run___init__ cd_Run___init__ ct_Run___init__), sl_Run___init__⟩)
    (c_Run___init__ : PySem.W.codeIn K cd_Run___init__ "Run.__init__" = true)
    (k_Run___init__ : PySem.W.keepIn K (.ref f_Run___init__) = true)
    (a_Run_take_step : PySem.W.findIn K (.ref C) "take_step" = some (some (.ref f_Run_take_step)))
    (i_Run_take_step : PySem.W.isFn K (.ref f_Run_take_step) = true)
    (l_Run_take_step : K.lookup f_Run_take_step = some ⟨oc_Run_take_step, od_Run_take_step, .func (PySem.W.fnOf "take_step" "Run.take_step" (defArgs g_Run_take_step) (defBody g_Run_take_step) (defScope g_Run_take_step) .none kV_Run_take_step dc_Run_take_step pm_Run_take_step an_Run_take_step cd_Run_take_step ct_Run_take_step), sl_Run_take_step⟩)
    (c_Run_take_step : PySem.W.codeIn K cd_Run_take_step "Run.take_step" = true)
    (k_Run_take_step : PySem.W.keepIn K (.ref f_Run_take_step) = true)
    (a_Run_end_with : PySem.W.findIn K (.ref C) "end_with" = some (some (.ref f_Run_end_with)))
    (i_Run_end_with : PySem.W.isFn K (.ref f_Run_end_with) = true)
    (l_Run_end_with : K.lookup f_Run_end_with = some ⟨oc_Run_end_with, od_Run_end_with, .func (PySem.W.fnOf "end_with" "Run.end_with" (defArgs g_Run_end_with) (defBody g_Run_end_with) (defScope g_Run_end_with) .none kV_Run_end_with dc_Run_end_with pm_Run_end_with an_Run_end_with cd_Run_end_with ct_Run_end_with), sl_Run_end_with⟩)
    (c_Run_end_with : PySem.W.codeIn K cd_Run_end_with "Run.end_with" = true)
    (k_Run_end_with : PySem.W.keepIn K (.ref f_Run_end_with) = true)
    (a_Run_end_unhandled : PySem.W.findIn K (.ref C) "end_unhandled" = some (some (.ref f_Run_end_unhandled)))
    (i_Run_end_unhandled : PySem.W.isFn K (.ref f_Run_end_unhandled) = true)
    (l_Run_end_unhandled : K.lookup f_Run_end_unhandled = some ⟨oc_Run_end_unhandled, od_Run_end_unhandled, .func (PySem.W.fnOf "end_unhandled" "Run.end_unhandled" (defArgs g_Run_end_unhandled) (defBody g_Run_end_unhandled) (defScope g_Run_end_unhandled) .none kV_Run_end_unhandled dc_Run_end_unhandled pm_Run_end_unhandled an_Run_end_unhandled cd_Run_end_unhandled ct_Run_end_unhandled), sl_Run_end_unhandled⟩)
    (c_Run_end_unhandled : PySem.W.codeIn K cd_Run_end_unhandled "Run.end_unhandled" = true)
    (k_Run_end_unhandled : PySem.W.keepIn K (.ref f_Run_end_unhandled) = true)
    (a_wrapped : PySem.W.nsIn K mainGlobals "wrapped" = some (some (.ref f_wrapped)))
    (l_wrapped : K.lookup f_wrapped = some ⟨oc_wrapped, od_wrapped, .func (PySem.W.fnOf "wrapped" "wrapped" (defArgs g_wrapped) (defBody g_wrapped) (defScope g_wrapped) .none kV_wrapped dc_wrapped pm_wrapped an_wrapped cd_wrapped ct_wrapped), sl_wrapped⟩)
    (c_wrapped : PySem.W.codeIn K cd_wrapped "wrapped" = true)
    (k_wrapped : PySem.W.keepIn K (.ref f_wrapped) = true)
    (a_operated : PySem.W.nsIn K mainGlobals "operated" = some (some (.ref f_operated)))
    (l_operated : K.lookup f_operated = some ⟨oc_operated, od_operated, .func (PySem.W.fnOf "operated" "operated" (defArgs g_operated) (defBody g_operated) (defScope g_operated) .none kV_operated dc_operated pm_operated an_operated cd_operated ct_operated), sl_operated⟩)
    (c_operated : PySem.W.codeIn K cd_operated "operated" = true)
    (k_operated : PySem.W.keepIn K (.ref f_operated) = true)
    (a_negated : PySem.W.nsIn K mainGlobals "negated" = some (some (.ref f_negated)))
    (l_negated : K.lookup f_negated = some ⟨oc_negated, od_negated, .func (PySem.W.fnOf "negated" "negated" (defArgs g_negated) (defBody g_negated) (defScope g_negated) .none kV_negated dc_negated pm_negated an_negated cd_negated ct_negated), sl_negated⟩)
    (c_negated : PySem.W.codeIn K cd_negated "negated" = true)
    (k_negated : PySem.W.keepIn K (.ref f_negated) = true)
    (a_shape : PySem.W.nsIn K mainGlobals "shape" = some (some (.ref f_shape)))
    (l_shape : K.lookup f_shape = some ⟨oc_shape, od_shape, .func (PySem.W.fnOf "shape" "shape" (defArgs g_shape) (defBody g_shape) (defScope g_shape) .none kV_shape dc_shape pm_shape an_shape cd_shape ct_shape), sl_shape⟩)
    (c_shape : PySem.W.codeIn K cd_shape "shape" = true)
    (k_shape : PySem.W.keepIn K (.ref f_shape) = true)
    (a_Stack___init__ : PySem.W.findIn K (.ref C) "__init__" = some (some (.ref f_Stack___init__)))
    (i_Stack___init__ : PySem.W.isFn K (.ref f_Stack___init__) = true)
    (l_Stack___init__ : K.lookup f_Stack___init__ = some ⟨oc_Stack___init__, od_Stack___init__, .func (PySem.W.fnOf "__init__" "Stack.__init__" (defArgs g_Stack_init) (defBody g_Stack_init) (defScope g_Stack_init) .none kV_Stack___init__ dc_Stack___init__ pm_Stack___init__ an_Stack___init__ cd_Stack___init__ ct_Stack___init__), sl_Stack___init__⟩)
    (c_Stack___init__ : PySem.W.codeIn K cd_Stack___init__ "Stack.__init__" = true)
    (k_Stack___init__ : PySem.W.keepIn K (.ref f_Stack___init__) = true)
    (a_Stack_wait : PySem.W.findIn K (.ref C) "wait" = some (some (.ref f_Stack_wait)))
    (i_Stack_wait : PySem.W.isFn K (.ref f_Stack_wait) = true)
    (l_Stack_wait : K.lookup f_Stack_wait = some ⟨oc_Stack_wait, od_Stack_wait, .func (PySem.W.fnOf "wait" "Stack.wait" (defArgs g_Stack_wait) (defBody g_Stack_wait) (defScope g_Stack_wait) .none kV_Stack_wait dc_Stack_wait pm_Stack_wait an_Stack_wait cd_Stack_wait ct_Stack_wait), sl_Stack_wait⟩)
    (c_Stack_wait : PySem.W.codeIn K cd_Stack_wait "Stack.wait" = true)
    (k_Stack_wait : PySem.W.keepIn K (.ref f_Stack_wait) = true)
    (a_Stack_waiting : PySem.W.findIn K (.ref C) "waiting" = some (some (.ref f_Stack_waiting)))
    (i_Stack_waiting : PySem.W.isFn K (.ref f_Stack_waiting) = true)
    (l_Stack_waiting : K.lookup f_Stack_waiting = some ⟨oc_Stack_waiting, od_Stack_waiting, .func (PySem.W.fnOf "waiting" "Stack.waiting" (defArgs g_Stack_waiting) (defBody g_Stack_waiting) (defScope g_Stack_waiting) .none kV_Stack_waiting dc_Stack_waiting pm_Stack_waiting an_Stack_waiting cd_Stack_waiting ct_Stack_waiting), sl_Stack_waiting⟩)
    (c_Stack_waiting : PySem.W.codeIn K cd_Stack_waiting "Stack.waiting" = true)
    (k_Stack_waiting : PySem.W.keepIn K (.ref f_Stack_waiting) = true)
    (a_Stack_put : PySem.W.findIn K (.ref C) "put" = some (some (.ref f_Stack_put)))
    (i_Stack_put : PySem.W.isFn K (.ref f_Stack_put) = true)
    (l_Stack_put : K.lookup f_Stack_put = some ⟨oc_Stack_put, od_Stack_put, .func (PySem.W.fnOf "put" "Stack.put" (defArgs g_Stack_put) (defBody g_Stack_put) (defScope g_Stack_put) .none kV_Stack_put dc_Stack_put pm_Stack_put an_Stack_put cd_Stack_put ct_Stack_put), sl_Stack_put⟩)
    (c_Stack_put : PySem.W.codeIn K cd_Stack_put "Stack.put" = true)
    (k_Stack_put : PySem.W.keepIn K (.ref f_Stack_put) = true)
    (a_Stack_put_back : PySem.W.findIn K (.ref C) "put_back" = some (some (.ref f_Stack_put_back)))
    (i_Stack_put_back : PySem.W.isFn K (.ref f_Stack_put_back) = true)
    (l_Stack_put_back : K.lookup f_Stack_put_back = some ⟨oc_Stack_put_back, od_Stack_put_back, .func (PySem.W.fnOf "put_back" "Stack.put_back" (defArgs g_Stack_put_back) (defBody g_Stack_put_back) (defScope g_Stack_put_back) .none kV_Stack_put_back dc_Stack_put_back pm_Stack_put_back an_Stack_put_back cd_Stack_put_back ct_Stack_put_back), sl_Stack_put_back⟩)
    (c_Stack_put_back : PySem.W.codeIn K cd_Stack_put_back "Stack.put_back" = true)
    (k_Stack_put_back : PySem.W.keepIn K (.ref f_Stack_put_back) = true)
    (a_Stack_take : PySem.W.findIn K (.ref C) "take" = some (some (.ref f_Stack_take)))
    (i_Stack_take : PySem.W.isFn K (.ref f_Stack_take) = true)
    (l_Stack_take : K.lookup f_Stack_take = some ⟨oc_Stack_take, od_Stack_take, .func (PySem.W.fnOf "take" "Stack.take" (defArgs g_Stack_take) (defBody g_Stack_take) (defScope g_Stack_take) .none kV_Stack_take dc_Stack_take pm_Stack_take an_Stack_take cd_Stack_take ct_Stack_take), sl_Stack_take⟩)
    (c_Stack_take : PySem.W.codeIn K cd_Stack_take "Stack.take" = true)
    (k_Stack_take : PySem.W.keepIn K (.ref f_Stack_take) = true)
    (a_Stack_keep : PySem.W.findIn K (.ref C) "keep" = some (some (.ref f_Stack_keep)))
    (i_Stack_keep : PySem.W.isFn K (.ref f_Stack_keep) = true)
    (l_Stack_keep : K.lookup f_Stack_keep = some ⟨oc_Stack_keep, od_Stack_keep, .func (PySem.W.fnOf "keep" "Stack.keep" (defArgs g_Stack_keep) (defBody g_Stack_keep) (defScope g_Stack_keep) .none kV_Stack_keep dc_Stack_keep pm_Stack_keep an_Stack_keep cd_Stack_keep ct_Stack_keep), sl_Stack_keep⟩)
    (c_Stack_keep : PySem.W.codeIn K cd_Stack_keep "Stack.keep" = true)
    (k_Stack_keep : PySem.W.keepIn K (.ref f_Stack_keep) = true)
    (a_Stack_answering : PySem.W.findIn K (.ref C) "answering" = some (some (.ref f_Stack_answering)))
    (i_Stack_answering : PySem.W.isFn K (.ref f_Stack_answering) = true)
    (l_Stack_answering : K.lookup f_Stack_answering = some ⟨oc_Stack_answering, od_Stack_answering, .func (PySem.W.fnOf "answering" "Stack.answering" (defArgs g_Stack_answering) (defBody g_Stack_answering) (defScope g_Stack_answering) .none kV_Stack_answering dc_Stack_answering pm_Stack_answering an_Stack_answering cd_Stack_answering ct_Stack_answering), sl_Stack_answering⟩)
    (c_Stack_answering : PySem.W.codeIn K cd_Stack_answering "Stack.answering" = true)
    (k_Stack_answering : PySem.W.keepIn K (.ref f_Stack_answering) = true)
    (a_parts : PySem.W.nsIn K mainGlobals "parts" = some (some (.ref f_parts)))
    (l_parts : K.lookup f_parts = some ⟨oc_parts, od_parts, .func (PySem.W.fnOf "parts" "parts" (defArgs g_parts) (defBody g_parts) (defScope g_parts) .none kV_parts dc_parts pm_parts an_parts cd_parts ct_parts), sl_parts⟩)
    (c_parts : PySem.W.codeIn K cd_parts "parts" = true)
    (k_parts : PySem.W.keepIn K (.ref f_parts) = true)
    (a_with_parts : PySem.W.nsIn K mainGlobals "with_parts" = some (some (.ref f_with_parts)))
    (l_with_parts : K.lookup f_with_parts = some ⟨oc_with_parts, od_with_parts, .func (PySem.W.fnOf "with_parts" "with_parts" (defArgs g_with_parts) (defBody g_with_parts) (defScope g_with_parts) .none kV_with_parts dc_with_parts pm_with_parts an_with_parts cd_with_parts ct_with_parts), sl_with_parts⟩)
    (c_with_parts : PySem.W.codeIn K cd_with_parts "with_parts" = true)
    (k_with_parts : PySem.W.keepIn K (.ref f_with_parts) = true)
    (a_bound_in_parts : PySem.W.nsIn K mainGlobals "bound_in_parts" = some (some (.ref f_bound_in_parts)))
    (l_bound_in_parts : K.lookup f_bound_in_parts = some ⟨oc_bound_in_parts, od_bound_in_parts, .func (PySem.W.fnOf "bound_in_parts" "bound_in_parts" (defArgs g_bound_in_parts) (defBody g_bound_in_parts) (defScope g_bound_in_parts) .none kV_bound_in_parts dc_bound_in_parts pm_bound_in_parts an_bound_in_parts cd_bound_in_parts ct_bound_in_parts), sl_bound_in_parts⟩)
    (c_bound_in_parts : PySem.W.codeIn K cd_bound_in_parts "bound_in_parts" = true)
    (k_bound_in_parts : PySem.W.keepIn K (.ref f_bound_in_parts) = true)
    (a_free_names : PySem.W.nsIn K mainGlobals "free_names" = some (some (.ref f_free_names)))
    (l_free_names : K.lookup f_free_names = some ⟨oc_free_names, od_free_names, .func (PySem.W.fnOf "free_names" "free_names" (defArgs g_free_names) (defBody g_free_names) (defScope g_free_names) .none kV_free_names dc_free_names pm_free_names an_free_names cd_free_names ct_free_names), sl_free_names⟩)
    (c_free_names : PySem.W.codeIn K cd_free_names "free_names" = true)
    (k_free_names : PySem.W.keepIn K (.ref f_free_names) = true)
    (a_note_free_names : PySem.W.nsIn K mainGlobals "note_free_names" = some (some (.ref f_note_free_names)))
    (l_note_free_names : K.lookup f_note_free_names = some ⟨oc_note_free_names, od_note_free_names, .func (PySem.W.fnOf "note_free_names" "note_free_names" (defArgs g_note_free_names) (defBody g_note_free_names) (defScope g_note_free_names) .none kV_note_free_names dc_note_free_names pm_note_free_names an_note_free_names cd_note_free_names ct_note_free_names), sl_note_free_names⟩)
    (c_note_free_names : PySem.W.codeIn K cd_note_free_names "note_free_names" = true)
    (k_note_free_names : PySem.W.keepIn K (.ref f_note_free_names) = true)
    (a_run_counted : PySem.W.nsIn K mainGlobals "run_counted" = some (some (.ref f_run_counted)))
    (l_run_counted : K.lookup f_run_counted = some ⟨oc_run_counted, od_run_counted, .func (PySem.W.fnOf "run_counted" "run_counted" (defArgs g_run_counted) (defBody g_run_counted) (defScope g_run_counted) .none kV_run_counted dc_run_counted pm_run_counted an_run_counted cd_run_counted ct_run_counted), sl_run_counted⟩)
    (c_run_counted : PySem.W.codeIn K cd_run_counted "run_counted" = true)
    (k_run_counted : PySem.W.keepIn K (.ref f_run_counted) = true)
    (a_prepared : PySem.W.nsIn K mainGlobals "prepared" = some (some (.ref f_prepared)))
    (l_prepared : K.lookup f_prepared = some ⟨oc_prepared, od_prepared, .func (PySem.W.fnOf "prepared" "prepared" (defArgs g_prepared) (defBody g_prepared) (defScope g_prepared) .none kV_prepared dc_prepared pm_prepared an_prepared cd_prepared ct_prepared), sl_prepared⟩)
    (c_prepared : PySem.W.codeIn K cd_prepared "prepared" = true)
    (k_prepared : PySem.W.keepIn K (.ref f_prepared) = true)
    (a_advanced : PySem.W.nsIn K mainGlobals "advanced" = some (some (.ref f_advanced)))
    (l_advanced : K.lookup f_advanced = some ⟨oc_advanced, od_advanced, .func (PySem.W.fnOf "advanced" "advanced" (defArgs g_advanced) (defBody g_advanced) (defScope g_advanced) .none kV_advanced dc_advanced pm_advanced an_advanced cd_advanced ct_advanced), sl_advanced⟩)
    (c_advanced : PySem.W.codeIn K cd_advanced "advanced" = true)
    (k_advanced : PySem.W.keepIn K (.ref f_advanced) = true)
    (a_go_on : PySem.W.nsIn K mainGlobals "go_on" = some (some (.ref f_go_on)))
    (l_go_on : K.lookup f_go_on = some ⟨oc_go_on, od_go_on, .func (PySem.W.fnOf "go_on" "go_on" (defArgs g_go_on) (defBody g_go_on) (defScope g_go_on) .none kV_go_on dc_go_on pm_go_on an_go_on cd_go_on ct_go_on), sl_go_on⟩)
    (c_go_on : PySem.W.codeIn K cd_go_on "go_on" = true)
    (k_go_on : PySem.W.keepIn K (.ref f_go_on) = true)
    (a_end_piece : PySem.W.nsIn K mainGlobals "end_piece" = some (some (.ref f_end_piece)))
    (l_end_piece : K.lookup f_end_piece = some ⟨oc_end_piece, od_end_piece, .func (PySem.W.fnOf "end_piece" "end_piece" (defArgs g_end_piece) (defBody g_end_piece) (defScope g_end_piece) .none kV_end_piece dc_end_piece pm_end_piece an_end_piece cd_end_piece ct_end_piece), sl_end_piece⟩)
    (c_end_piece : PySem.W.codeIn K cd_end_piece "end_piece" = true)
    (k_end_piece : PySem.W.keepIn K (.ref f_end_piece) = true)
    (a_literal_rule : PySem.W.nsIn K mainGlobals "literal_rule" = some (some (.ref f_literal_rule)))
    (l_literal_rule : K.lookup f_literal_rule = some ⟨oc_literal_rule, od_literal_rule, .func (PySem.W.fnOf "literal_rule" "literal_rule" (defArgs g_literal_rule) (defBody g_literal_rule) (defScope g_literal_rule) .none kV_literal_rule dc_literal_rule pm_literal_rule an_literal_rule cd_literal_rule ct_literal_rule), sl_literal_rule⟩)
    (c_literal_rule : PySem.W.codeIn K cd_literal_rule "literal_rule" = true)
    (k_literal_rule : PySem.W.keepIn K (.ref f_literal_rule) = true)
    (a_name_rule : PySem.W.nsIn K mainGlobals "name_rule" = some (some (.ref f_name_rule)))
    (l_name_rule : K.lookup f_name_rule = some ⟨oc_name_rule, od_name_rule, .func (PySem.W.fnOf "name_rule" "name_rule" (defArgs g_name_rule) (defBody g_name_rule) (defScope g_name_rule) .none kV_name_rule dc_name_rule pm_name_rule an_name_rule cd_name_rule ct_name_rule), sl_name_rule⟩)
    (c_name_rule : PySem.W.codeIn K cd_name_rule "name_rule" = true)
    (k_name_rule : PySem.W.keepIn K (.ref f_name_rule) = true)
    (a_function_rule : PySem.W.nsIn K mainGlobals "function_rule" = some (some (.ref f_function_rule)))
    (l_function_rule : K.lookup f_function_rule = some ⟨oc_function_rule, od_function_rule, .func (PySem.W.fnOf "function_rule" "function_rule" (defArgs g_function_rule) (defBody g_function_rule) (defScope g_function_rule) .none kV_function_rule dc_function_rule pm_function_rule an_function_rule cd_function_rule ct_function_rule), sl_function_rule⟩)
    (c_function_rule : PySem.W.codeIn K cd_function_rule "function_rule" = true)
    (k_function_rule : PySem.W.keepIn K (.ref f_function_rule) = true)
    (a_call_rule : PySem.W.nsIn K mainGlobals "call_rule" = some (some (.ref f_call_rule)))
    (l_call_rule : K.lookup f_call_rule = some ⟨oc_call_rule, od_call_rule, .func (PySem.W.fnOf "call_rule" "call_rule" (defArgs g_call_rule) (defBody g_call_rule) (defScope g_call_rule) .none kV_call_rule dc_call_rule pm_call_rule an_call_rule cd_call_rule ct_call_rule), sl_call_rule⟩)
    (c_call_rule : PySem.W.codeIn K cd_call_rule "call_rule" = true)
    (k_call_rule : PySem.W.keepIn K (.ref f_call_rule) = true)
    (a_let_rule : PySem.W.nsIn K mainGlobals "let_rule" = some (some (.ref f_let_rule)))
    (l_let_rule : K.lookup f_let_rule = some ⟨oc_let_rule, od_let_rule, .func (PySem.W.fnOf "let_rule" "let_rule" (defArgs g_let_rule) (defBody g_let_rule) (defScope g_let_rule) .none kV_let_rule dc_let_rule pm_let_rule an_let_rule cd_let_rule ct_let_rule), sl_let_rule⟩)
    (c_let_rule : PySem.W.codeIn K cd_let_rule "let_rule" = true)
    (k_let_rule : PySem.W.keepIn K (.ref f_let_rule) = true)
    (a_choice_rule : PySem.W.nsIn K mainGlobals "choice_rule" = some (some (.ref f_choice_rule)))
    (l_choice_rule : K.lookup f_choice_rule = some ⟨oc_choice_rule, od_choice_rule, .func (PySem.W.fnOf "choice_rule" "choice_rule" (defArgs g_choice_rule) (defBody g_choice_rule) (defScope g_choice_rule) .none kV_choice_rule dc_choice_rule pm_choice_rule an_choice_rule cd_choice_rule ct_choice_rule), sl_choice_rule⟩)
    (c_choice_rule : PySem.W.codeIn K cd_choice_rule "choice_rule" = true)
    (k_choice_rule : PySem.W.keepIn K (.ref f_choice_rule) = true)
    (a_pair_rule : PySem.W.nsIn K mainGlobals "pair_rule" = some (some (.ref f_pair_rule)))
    (l_pair_rule : K.lookup f_pair_rule = some ⟨oc_pair_rule, od_pair_rule, .func (PySem.W.fnOf "pair_rule" "pair_rule" (defArgs g_pair_rule) (defBody g_pair_rule) (defScope g_pair_rule) .none kV_pair_rule dc_pair_rule pm_pair_rule an_pair_rule cd_pair_rule ct_pair_rule), sl_pair_rule⟩)
    (c_pair_rule : PySem.W.codeIn K cd_pair_rule "pair_rule" = true)
    (k_pair_rule : PySem.W.keepIn K (.ref f_pair_rule) = true)
    (a_first_rule : PySem.W.nsIn K mainGlobals "first_rule" = some (some (.ref f_first_rule)))
    (l_first_rule : K.lookup f_first_rule = some ⟨oc_first_rule, od_first_rule, .func (PySem.W.fnOf "first_rule" "first_rule" (defArgs g_first_rule) (defBody g_first_rule) (defScope g_first_rule) .none kV_first_rule dc_first_rule pm_first_rule an_first_rule cd_first_rule ct_first_rule), sl_first_rule⟩)
    (c_first_rule : PySem.W.codeIn K cd_first_rule "first_rule" = true)
    (k_first_rule : PySem.W.keepIn K (.ref f_first_rule) = true)
    (a_second_rule : PySem.W.nsIn K mainGlobals "second_rule" = some (some (.ref f_second_rule)))
    (l_second_rule : K.lookup f_second_rule = some ⟨oc_second_rule, od_second_rule, .func (PySem.W.fnOf "second_rule" "second_rule" (defArgs g_second_rule) (defBody g_second_rule) (defScope g_second_rule) .none kV_second_rule dc_second_rule pm_second_rule an_second_rule cd_second_rule ct_second_rule), sl_second_rule⟩)
    (c_second_rule : PySem.W.codeIn K cd_second_rule "second_rule" = true)
    (k_second_rule : PySem.W.keepIn K (.ref f_second_rule) = true)
    (a_operator_rule : PySem.W.nsIn K mainGlobals "operator_rule" = some (some (.ref f_operator_rule)))
    (l_operator_rule : K.lookup f_operator_rule = some ⟨oc_operator_rule, od_operator_rule, .func (PySem.W.fnOf "operator_rule" "operator_rule" (defArgs g_operator_rule) (defBody g_operator_rule) (defScope g_operator_rule) .none kV_operator_rule dc_operator_rule pm_operator_rule an_operator_rule cd_operator_rule ct_operator_rule), sl_operator_rule⟩)
    (c_operator_rule : PySem.W.codeIn K cd_operator_rule "operator_rule" = true)
    (k_operator_rule : PySem.W.keepIn K (.ref f_operator_rule) = true)
    (a_not_rule : PySem.W.nsIn K mainGlobals "not_rule" = some (some (.ref f_not_rule)))
    (l_not_rule : K.lookup f_not_rule = some ⟨oc_not_rule, od_not_rule, .func (PySem.W.fnOf "not_rule" "not_rule" (defArgs g_not_rule) (defBody g_not_rule) (defScope g_not_rule) .none kV_not_rule dc_not_rule pm_not_rule an_not_rule cd_not_rule ct_not_rule), sl_not_rule⟩)
    (c_not_rule : PySem.W.codeIn K cd_not_rule "not_rule" = true)
    (k_not_rule : PySem.W.keepIn K (.ref f_not_rule) = true)
    (a_print_rule : PySem.W.nsIn K mainGlobals "print_rule" = some (some (.ref f_print_rule)))
    (l_print_rule : K.lookup f_print_rule = some ⟨oc_print_rule, od_print_rule, .func (PySem.W.fnOf "print_rule" "print_rule" (defArgs g_print_rule) (defBody g_print_rule) (defScope g_print_rule) .none kV_print_rule dc_print_rule pm_print_rule an_print_rule cd_print_rule ct_print_rule), sl_print_rule⟩)
    (c_print_rule : PySem.W.codeIn K cd_print_rule "print_rule" = true)
    (k_print_rule : PySem.W.keepIn K (.ref f_print_rule) = true)
    (a_ask_rule : PySem.W.nsIn K mainGlobals "ask_rule" = some (some (.ref f_ask_rule)))
    (l_ask_rule : K.lookup f_ask_rule = some ⟨oc_ask_rule, od_ask_rule, .func (PySem.W.fnOf "ask_rule" "ask_rule" (defArgs g_ask_rule) (defBody g_ask_rule) (defScope g_ask_rule) .none kV_ask_rule dc_ask_rule pm_ask_rule an_ask_rule cd_ask_rule ct_ask_rule), sl_ask_rule⟩)
    (c_ask_rule : PySem.W.codeIn K cd_ask_rule "ask_rule" = true)
    (k_ask_rule : PySem.W.keepIn K (.ref f_ask_rule) = true)
    (a_L_law_state : PySem.W.nsIn K mainGlobals "_law_state" = some (some (.ref f_L_law_state)))
    (l_L_law_state : K.lookup f_L_law_state = some ⟨oc_L_law_state, od_L_law_state, .func (PySem.W.fnOf "_law_state" "_law_state" (defArgs g__law_state) (defBody g__law_state) (defScope g__law_state) .none kV_L_law_state dc_L_law_state pm_L_law_state an_L_law_state cd_L_law_state ct_L_law_state), sl_L_law_state⟩)
    (c_L_law_state : PySem.W.codeIn K cd_L_law_state "_law_state" = true)
    (k_L_law_state : PySem.W.keepIn K (.ref f_L_law_state) = true)
    (a_L_law_take : PySem.W.nsIn K mainGlobals "_law_take" = some (some (.ref f_L_law_take)))
    (l_L_law_take : K.lookup f_L_law_take = some ⟨oc_L_law_take, od_L_law_take, .func (PySem.W.fnOf "_law_take" "_law_take" (defArgs g__law_take) (defBody g__law_take) (defScope g__law_take) .none kV_L_law_take dc_L_law_take pm_L_law_take an_L_law_take cd_L_law_take ct_L_law_take), sl_L_law_take⟩)
    (c_L_law_take : PySem.W.codeIn K cd_L_law_take "_law_take" = true)
    (k_L_law_take : PySem.W.keepIn K (.ref f_L_law_take) = true)
    (a_law : PySem.W.nsIn K mainGlobals "law" = some (some (.ref f_law)))
    (l_law : K.lookup f_law = some ⟨oc_law, od_law, .func (PySem.W.fnOf "law" "law" (defArgs g_law) (defBody g_law) (defScope g_law) .none kV_law dc_law pm_law an_law cd_law ct_law), sl_law⟩)
    (c_law : PySem.W.codeIn K cd_law "law" = true)
    (k_law : PySem.W.keepIn K (.ref f_law) = true)
    (pgC : PySem.W.plainGet K C Str.empty = true)
    (hdC : PySem.W.hasDictIn K C = true)
    (poC : PySem.W.plainOver K C = true)
    (saC : PySem.W.findIn K (.ref C) "__setattr__" = some (some (.builtin "object.__setattr__")))
    (mkC : PySem.W.makesIn K C = true)
    (kcC : PySem.W.keepIn K (.ref C) = true)
    (n_left : PySem.W.findIn K (.ref C) "left" = some none)
    (n_prints : PySem.W.findIn K (.ref C) "prints" = some none)
    (n_end : PySem.W.findIn K (.ref C) "end" = some none)
    (n_handlers : PySem.W.findIn K (.ref C) "handlers" = some none)
    (n_frames : PySem.W.findIn K (.ref C) "frames" = some none)
    (n_kept : PySem.W.findIn K (.ref C) "kept" = some none)
    (n_most : PySem.W.findIn K (.ref C) "most" = some none)
    (z_len : PySem.W.nsIn K mainGlobals "len" = some (none))
    (z_max : PySem.W.nsIn K mainGlobals "max" = some (none))
    (z_range : PySem.W.nsIn K mainGlobals "range" = some (none))
    (z_reversed : PySem.W.nsIn K mainGlobals "reversed" = some (none))
    (z_list : PySem.W.nsIn K mainGlobals "list" = some (none))
    (z_tuple : PySem.W.nsIn K mainGlobals "tuple" = some (none))
    (z_zip : PySem.W.nsIn K mainGlobals "zip" = some (none))
    (z_sorted : PySem.W.nsIn K mainGlobals "sorted" = some (none))
    (z_str : PySem.W.nsIn K mainGlobals "str" = some (none))
    (z_abs : PySem.W.nsIn K mainGlobals "abs" = some (none))
    (z_int : PySem.W.nsIn K mainGlobals "int" = some (none))
    (gH : PySem.W.nsIn K mainGlobals "HALF" = some (some (.int 2147483648 tkH)))
    (gS : PySem.W.nsIn K mainGlobals "SHAPES" = some (some (.ref pS)))
    (DS : K.lookup pS = some ⟨.type "dict", none, .dict esS nS, #[]⟩)
    (KS : PySem.W.KeysLit w.params esS.toList)
    (lowS : (pS == sysModules) = false)
    (dS_num : PySem.W.nsIn K pS "num" = some (some (.str "int" tdS_num)))
    (dS_flag : PySem.W.nsIn K pS "flag" = some (some (.str "bool" tdS_flag)))
    (dS_unit : PySem.W.nsIn K pS "unit" = some (some (.str "unit" tdS_unit)))
    (nS_fun : PySem.W.nsIn K pS "fun" = some none)
    (nS_rec : PySem.W.nsIn K pS "rec" = some none)
    (nS_closure : PySem.W.nsIn K pS "closure" = some none)
    (nS_kept : PySem.W.nsIn K pS "kept" = some none)
    (nS_function : PySem.W.nsIn K pS "function" = some none)
    (gF : PySem.W.nsIn K mainGlobals "FIRST_PART" = some (some (.ref pF)))
    (DF : K.lookup pF = some ⟨.type "dict", none, .dict esF nF, #[]⟩)
    (KF : PySem.W.KeysLit w.params esF.toList)
    (dF_num : PySem.W.nsIn K pF "num" = some (some (.int 2 tdF_num)))
    (dF_flag : PySem.W.nsIn K pF "flag" = some (some (.int 2 tdF_flag)))
    (dF_unit : PySem.W.nsIn K pF "unit" = some (some (.int 1 tdF_unit)))
    (dF_name : PySem.W.nsIn K pF "name" = some (some (.int 2 tdF_name)))
    (dF_call : PySem.W.nsIn K pF "call" = some (some (.int 1 tdF_call)))
    (dF_fun : PySem.W.nsIn K pF "fun" = some (some (.int 2 tdF_fun)))
    (dF_rec : PySem.W.nsIn K pF "rec" = some (some (.int 3 tdF_rec)))
    (dF_let : PySem.W.nsIn K pF "let" = some (some (.int 2 tdF_let)))
    (dF_if : PySem.W.nsIn K pF "if" = some (some (.int 1 tdF_if)))
    (dF_pair : PySem.W.nsIn K pF "pair" = some (some (.int 1 tdF_pair)))
    (dF_fst : PySem.W.nsIn K pF "fst" = some (some (.int 1 tdF_fst)))
    (dF_snd : PySem.W.nsIn K pF "snd" = some (some (.int 1 tdF_snd)))
    (dF_op : PySem.W.nsIn K pF "op" = some (some (.int 2 tdF_op)))
    (dF_not : PySem.W.nsIn K pF "not" = some (some (.int 1 tdF_not)))
    (dF_print : PySem.W.nsIn K pF "print" = some (some (.int 1 tdF_print)))
    (dF_ask : PySem.W.nsIn K pF "ask" = some (some (.int 2 tdF_ask)))
    (dF_kept : PySem.W.nsIn K pF "kept" = some (some (.int 2 tdF_kept)))
    (dF_known : PySem.W.nsIn K pF "known" = some (some (.int 2 tdF_known)))
    (gE : PySem.W.nsIn K mainGlobals "FIRST_EVALUATED" = some (some (.ref pE)))
    (DE : K.lookup pE = some ⟨.type "dict", none, .dict esE nE, #[]⟩)
    (KE : PySem.W.KeysLit w.params esE.toList)
    (dE_num : PySem.W.nsIn K pE "num" = some (some (.ref AdE_num)))
    (ldE_num : K.lookup AdE_num = some ⟨.type "tuple", dddE_num, .seq #[] nndE_num, ssdE_num⟩)
    (dE_flag : PySem.W.nsIn K pE "flag" = some (some (.ref AdE_flag)))
    (ldE_flag : K.lookup AdE_flag = some ⟨.type "tuple", dddE_flag, .seq #[] nndE_flag, ssdE_flag⟩)
    (dE_unit : PySem.W.nsIn K pE "unit" = some (some (.ref AdE_unit)))
    (ldE_unit : K.lookup AdE_unit = some ⟨.type "tuple", dddE_unit, .seq #[] nndE_unit, ssdE_unit⟩)
    (dE_name : PySem.W.nsIn K pE "name" = some (some (.ref AdE_name)))
    (ldE_name : K.lookup AdE_name = some ⟨.type "tuple", dddE_name, .seq #[] nndE_name, ssdE_name⟩)
    (dE_call : PySem.W.nsIn K pE "call" = some (some (.ref AdE_call)))
    (ldE_call : K.lookup AdE_call = some ⟨.type "tuple", dddE_call, .seq #[.int 1 tdE_call_0, .int 2 tdE_call_1] nndE_call, ssdE_call⟩)
    (dE_fun : PySem.W.nsIn K pE "fun" = some (some (.ref AdE_fun)))
    (ldE_fun : K.lookup AdE_fun = some ⟨.type "tuple", dddE_fun, .seq #[] nndE_fun, ssdE_fun⟩)
    (dE_rec : PySem.W.nsIn K pE "rec" = some (some (.ref AdE_rec)))
    (ldE_rec : K.lookup AdE_rec = some ⟨.type "tuple", dddE_rec, .seq #[] nndE_rec, ssdE_rec⟩)
    (dE_let : PySem.W.nsIn K pE "let" = some (some (.ref AdE_let)))
    (ldE_let : K.lookup AdE_let = some ⟨.type "tuple", dddE_let, .seq #[.int 2 tdE_let_0] nndE_let, ssdE_let⟩)
    (dE_if : PySem.W.nsIn K pE "if" = some (some (.ref AdE_if)))
    (ldE_if : K.lookup AdE_if = some ⟨.type "tuple", dddE_if, .seq #[.int 1 tdE_if_0] nndE_if, ssdE_if⟩)
    (dE_pair : PySem.W.nsIn K pE "pair" = some (some (.ref AdE_pair)))
    (ldE_pair : K.lookup AdE_pair = some ⟨.type "tuple", dddE_pair, .seq #[.int 1 tdE_pair_0, .int 2 tdE_pair_1] nndE_pair, ssdE_pair⟩)
    (dE_fst : PySem.W.nsIn K pE "fst" = some (some (.ref AdE_fst)))
    (ldE_fst : K.lookup AdE_fst = some ⟨.type "tuple", dddE_fst, .seq #[.int 1 tdE_fst_0] nndE_fst, ssdE_fst⟩)
    (dE_snd : PySem.W.nsIn K pE "snd" = some (some (.ref AdE_snd)))
    (ldE_snd : K.lookup AdE_snd = some ⟨.type "tuple", dddE_snd, .seq #[.int 1 tdE_snd_0] nndE_snd, ssdE_snd⟩)
    (dE_op : PySem.W.nsIn K pE "op" = some (some (.ref AdE_op)))
    (ldE_op : K.lookup AdE_op = some ⟨.type "tuple", dddE_op, .seq #[.int 2 tdE_op_0, .int 3 tdE_op_1] nndE_op, ssdE_op⟩)
    (dE_not : PySem.W.nsIn K pE "not" = some (some (.ref AdE_not)))
    (ldE_not : K.lookup AdE_not = some ⟨.type "tuple", dddE_not, .seq #[.int 1 tdE_not_0] nndE_not, ssdE_not⟩)
    (dE_print : PySem.W.nsIn K pE "print" = some (some (.ref AdE_print)))
    (ldE_print : K.lookup AdE_print = some ⟨.type "tuple", dddE_print, .seq #[.int 1 tdE_print_0] nndE_print, ssdE_print⟩)
    (dE_ask : PySem.W.nsIn K pE "ask" = some (some (.ref AdE_ask)))
    (ldE_ask : K.lookup AdE_ask = some ⟨.type "tuple", dddE_ask, .seq #[.int 2 tdE_ask_0] nndE_ask, ssdE_ask⟩)
    (dE_handle : PySem.W.nsIn K pE "handle" = some (some (.ref AdE_handle)))
    (ldE_handle : K.lookup AdE_handle = some ⟨.type "tuple", dddE_handle, .seq #[.int 1 tdE_handle_0] nndE_handle, ssdE_handle⟩)
    (gR : PySem.W.nsIn K mainGlobals "RULES" = some (some (.ref pR)))
    (DR : K.lookup pR = some ⟨.type "dict", none, .dict esR nR, #[]⟩)
    (KR : PySem.W.KeysLit w.params esR.toList)
    (dR_num : PySem.W.nsIn K pR "num" = some (some (.ref f_literal_rule)))
    (dR_flag : PySem.W.nsIn K pR "flag" = some (some (.ref f_literal_rule)))
    (dR_unit : PySem.W.nsIn K pR "unit" = some (some (.ref f_literal_rule)))
    (dR_name : PySem.W.nsIn K pR "name" = some (some (.ref f_name_rule)))
    (dR_fun : PySem.W.nsIn K pR "fun" = some (some (.ref f_function_rule)))
    (dR_rec : PySem.W.nsIn K pR "rec" = some (some (.ref f_function_rule)))
    (dR_call : PySem.W.nsIn K pR "call" = some (some (.ref f_call_rule)))
    (dR_let : PySem.W.nsIn K pR "let" = some (some (.ref f_let_rule)))
    (dR_if : PySem.W.nsIn K pR "if" = some (some (.ref f_choice_rule)))
    (dR_pair : PySem.W.nsIn K pR "pair" = some (some (.ref f_pair_rule)))
    (dR_fst : PySem.W.nsIn K pR "fst" = some (some (.ref f_first_rule)))
    (dR_snd : PySem.W.nsIn K pR "snd" = some (some (.ref f_second_rule)))
    (dR_op : PySem.W.nsIn K pR "op" = some (some (.ref f_operator_rule)))
    (dR_not : PySem.W.nsIn K pR "not" = some (some (.ref f_not_rule)))
    (dR_print : PySem.W.nsIn K pR "print" = some (some (.ref f_print_rule)))
    (dR_ask : PySem.W.nsIn K pR "ask" = some (some (.ref f_ask_rule))) :
    ∃ fd : FuncData, (∀ (s : Shared) (v : Value), BindsTo s fd ⟨[v], []⟩ [("_law_script", v)]) ∧ ∀ base : Heap, K.In base → base.Ns mainGlobals mg → FnOk l.prog w K mg base CX0 27 fa fd ["_law_script"] (spLaw K) := by
  have e := hfa.symm.trans (PySem.W.mg_of X G a_law)
  cases e
  have F_Run___init__ := fun_mk (st := g_Run_init) l_Run___init__ c_Run___init__ k_Run___init__
  have b_Run___init__ := F_Run___init__.binds (ps := ["self", "steps"]) fun _ _ _ _ _ _ us hl => match us, hl with | [_, _], _ => rfl
  have F_Run_take_step := fun_mk (st := g_Run_take_step) l_Run_take_step c_Run_take_step k_Run_take_step
  have b_Run_take_step := F_Run_take_step.binds (ps := ["self"]) fun _ _ _ _ _ _ us hl => match us, hl with | [_], _ => rfl
  have m_Run_take_step : Meth K C "take_step" f_Run_take_step := ⟨a_Run_take_step, i_Run_take_step, k_Run_take_step⟩
  have F_Run_end_with := fun_mk (st := g_Run_end_with) l_Run_end_with c_Run_end_with k_Run_end_with
  have b_Run_end_with := F_Run_end_with.binds (ps := ["self", "value"]) fun _ _ _ _ _ _ us hl => match us, hl with | [_, _], _ => rfl
  have m_Run_end_with : Meth K C "end_with" f_Run_end_with := ⟨a_Run_end_with, i_Run_end_with, k_Run_end_with⟩
  have F_Run_end_unhandled := fun_mk (st := g_Run_end_unhandled) l_Run_end_unhandled c_Run_end_unhandled k_Run_end_unhandled
  have b_Run_end_unhandled := F_Run_end_unhandled.binds (ps := ["self", "operation"]) fun _ _ _ _ _ _ us hl => match us, hl with | [_, _], _ => rfl
  have m_Run_end_unhandled : Meth K C "end_unhandled" f_Run_end_unhandled := ⟨a_Run_end_unhandled, i_Run_end_unhandled, k_Run_end_unhandled⟩
  have F_wrapped := fun_mk (st := g_wrapped) l_wrapped c_wrapped k_wrapped
  have b_wrapped := F_wrapped.binds (ps := ["number"]) fun _ _ _ _ _ _ us hl => match us, hl with | [_], _ => rfl
  have F_operated := fun_mk (st := g_operated) l_operated c_operated k_operated
  have b_operated := F_operated.binds (ps := ["sign", "left", "right"]) fun _ _ _ _ _ _ us hl => match us, hl with | [_, _, _], _ => rfl
  have F_negated := fun_mk (st := g_negated) l_negated c_negated k_negated
  have b_negated := F_negated.binds (ps := ["value"]) fun _ _ _ _ _ _ us hl => match us, hl with | [_], _ => rfl
  have F_shape := fun_mk (st := g_shape) l_shape c_shape k_shape
  have b_shape := F_shape.binds (ps := ["value"]) fun _ _ _ _ _ _ us hl => match us, hl with | [_], _ => rfl
  have F_Stack___init__ := fun_mk (st := g_Stack_init) l_Stack___init__ c_Stack___init__ k_Stack___init__
  have b_Stack___init__ := F_Stack___init__.binds (ps := ["self", "steps"]) fun _ _ _ _ _ _ us hl => match us, hl with | [_, _], _ => rfl
  have m_Stack___init__ : Meth K C "__init__" f_Stack___init__ := ⟨a_Stack___init__, i_Stack___init__, k_Stack___init__⟩
  have F_Stack_wait := fun_mk (st := g_Stack_wait) l_Stack_wait c_Stack_wait k_Stack_wait
  have b_Stack_wait := F_Stack_wait.binds (ps := ["self", "frame"]) fun _ _ _ _ _ _ us hl => match us, hl with | [_, _], _ => rfl
  have m_Stack_wait : Meth K C "wait" f_Stack_wait := ⟨a_Stack_wait, i_Stack_wait, k_Stack_wait⟩
  have F_Stack_waiting := fun_mk (st := g_Stack_waiting) l_Stack_waiting c_Stack_waiting k_Stack_waiting
  have b_Stack_waiting := F_Stack_waiting.binds (ps := ["self"]) fun _ _ _ _ _ _ us hl => match us, hl with | [_], _ => rfl
  have m_Stack_waiting : Meth K C "waiting" f_Stack_waiting := ⟨a_Stack_waiting, i_Stack_waiting, k_Stack_waiting⟩
  have F_Stack_put := fun_mk (st := g_Stack_put) l_Stack_put c_Stack_put k_Stack_put
  have b_Stack_put := F_Stack_put.binds (ps := ["self", "handler"]) fun _ _ _ _ _ _ us hl => match us, hl with | [_, _], _ => rfl
  have m_Stack_put : Meth K C "put" f_Stack_put := ⟨a_Stack_put, i_Stack_put, k_Stack_put⟩
  have F_Stack_put_back := fun_mk (st := g_Stack_put_back) l_Stack_put_back c_Stack_put_back k_Stack_put_back
  have b_Stack_put_back := F_Stack_put_back.binds (ps := ["self", "pieces"]) fun _ _ _ _ _ _ us hl => match us, hl with | [_, _], _ => rfl
  have m_Stack_put_back : Meth K C "put_back" f_Stack_put_back := ⟨a_Stack_put_back, i_Stack_put_back, k_Stack_put_back⟩
  have F_Stack_take := fun_mk (st := g_Stack_take) l_Stack_take c_Stack_take k_Stack_take
  have b_Stack_take := F_Stack_take.binds (ps := ["self"]) fun _ _ _ _ _ _ us hl => match us, hl with | [_], _ => rfl
  have m_Stack_take : Meth K C "take" f_Stack_take := ⟨a_Stack_take, i_Stack_take, k_Stack_take⟩
  have F_Stack_keep := fun_mk (st := g_Stack_keep) l_Stack_keep c_Stack_keep k_Stack_keep
  have b_Stack_keep := F_Stack_keep.binds (ps := ["self", "place"]) fun _ _ _ _ _ _ us hl => match us, hl with | [_, _], _ => rfl
  have m_Stack_keep : Meth K C "keep" f_Stack_keep := ⟨a_Stack_keep, i_Stack_keep, k_Stack_keep⟩
  have F_Stack_answering := fun_mk (st := g_Stack_answering) l_Stack_answering c_Stack_answering k_Stack_answering
  have b_Stack_answering := F_Stack_answering.binds (ps := ["self", "operation"]) fun _ _ _ _ _ _ us hl => match us, hl with | [_, _], _ => rfl
  have m_Stack_answering : Meth K C "answering" f_Stack_answering := ⟨a_Stack_answering, i_Stack_answering, k_Stack_answering⟩
  have F_parts := fun_mk (st := g_parts) l_parts c_parts k_parts
  have b_parts := F_parts.binds (ps := ["expression"]) fun _ _ _ _ _ _ us hl => match us, hl with | [_], _ => rfl
  have F_with_parts := fun_mk (st := g_with_parts) l_with_parts c_with_parts k_with_parts
  have b_with_parts := F_with_parts.binds (ps := ["expression", "inner"]) fun _ _ _ _ _ _ us hl => match us, hl with | [_, _], _ => rfl
  have F_bound_in_parts := fun_mk (st := g_bound_in_parts) l_bound_in_parts c_bound_in_parts k_bound_in_parts
  have b_bound_in_parts := F_bound_in_parts.binds (ps := ["expression"]) fun _ _ _ _ _ _ us hl => match us, hl with | [_], _ => rfl
  have F_free_names := fun_mk (st := g_free_names) l_free_names c_free_names k_free_names
  have b_free_names := F_free_names.binds (ps := ["expression"]) fun _ _ _ _ _ _ us hl => match us, hl with | [_], _ => rfl
  have F_note_free_names := fun_mk (st := g_note_free_names) l_note_free_names c_note_free_names k_note_free_names
  have b_note_free_names := F_note_free_names.binds (ps := ["expression", "bound", "found"]) fun _ _ _ _ _ _ us hl => match us, hl with | [_, _, _], _ => rfl
  have F_run_counted := fun_mk (st := g_run_counted) l_run_counted c_run_counted k_run_counted
  have b_run_counted := F_run_counted.binds (ps := ["expression", "steps"]) fun _ _ _ _ _ _ us hl => match us, hl with | [_, _], _ => rfl
  have F_prepared := fun_mk (st := g_prepared) l_prepared c_prepared k_prepared
  have b_prepared := F_prepared.binds (ps := ["expression"]) fun _ _ _ _ _ _ us hl => match us, hl with | [_], _ => rfl
  have F_advanced := fun_mk (st := g_advanced) l_advanced c_advanced k_advanced
  have b_advanced := F_advanced.binds (ps := ["machine", "tree", "bindings"]) fun _ _ _ _ _ _ us hl => match us, hl with | [_, _, _], _ => rfl
  have F_go_on := fun_mk (st := g_go_on) l_go_on c_go_on k_go_on
  have b_go_on := F_go_on.binds (ps := ["machine", "expression", "bindings", "values"]) fun _ _ _ _ _ _ us hl => match us, hl with | [_, _, _, _], _ => rfl
  have F_end_piece := fun_mk (st := g_end_piece) l_end_piece c_end_piece k_end_piece
  have b_end_piece := F_end_piece.binds (ps := ["machine", "value"]) fun _ _ _ _ _ _ us hl => match us, hl with | [_, _], _ => rfl
  have F_literal_rule := fun_mk (st := g_literal_rule) l_literal_rule c_literal_rule k_literal_rule
  have b_literal_rule := F_literal_rule.binds (ps := ["machine", "expression", "bindings", "values"]) fun _ _ _ _ _ _ us hl => match us, hl with | [_, _, _, _], _ => rfl
  have F_name_rule := fun_mk (st := g_name_rule) l_name_rule c_name_rule k_name_rule
  have b_name_rule := F_name_rule.binds (ps := ["machine", "expression", "bindings", "values"]) fun _ _ _ _ _ _ us hl => match us, hl with | [_, _, _, _], _ => rfl
  have F_function_rule := fun_mk (st := g_function_rule) l_function_rule c_function_rule k_function_rule
  have b_function_rule := F_function_rule.binds (ps := ["machine", "expression", "bindings", "values"]) fun _ _ _ _ _ _ us hl => match us, hl with | [_, _, _, _], _ => rfl
  have F_call_rule := fun_mk (st := g_call_rule) l_call_rule c_call_rule k_call_rule
  have b_call_rule := F_call_rule.binds (ps := ["machine", "expression", "bindings", "values"]) fun _ _ _ _ _ _ us hl => match us, hl with | [_, _, _, _], _ => rfl
  have F_let_rule := fun_mk (st := g_let_rule) l_let_rule c_let_rule k_let_rule
  have b_let_rule := F_let_rule.binds (ps := ["machine", "expression", "bindings", "values"]) fun _ _ _ _ _ _ us hl => match us, hl with | [_, _, _, _], _ => rfl
  have F_choice_rule := fun_mk (st := g_choice_rule) l_choice_rule c_choice_rule k_choice_rule
  have b_choice_rule := F_choice_rule.binds (ps := ["machine", "expression", "bindings", "values"]) fun _ _ _ _ _ _ us hl => match us, hl with | [_, _, _, _], _ => rfl
  have F_pair_rule := fun_mk (st := g_pair_rule) l_pair_rule c_pair_rule k_pair_rule
  have b_pair_rule := F_pair_rule.binds (ps := ["machine", "expression", "bindings", "values"]) fun _ _ _ _ _ _ us hl => match us, hl with | [_, _, _, _], _ => rfl
  have F_first_rule := fun_mk (st := g_first_rule) l_first_rule c_first_rule k_first_rule
  have b_first_rule := F_first_rule.binds (ps := ["machine", "expression", "bindings", "values"]) fun _ _ _ _ _ _ us hl => match us, hl with | [_, _, _, _], _ => rfl
  have F_second_rule := fun_mk (st := g_second_rule) l_second_rule c_second_rule k_second_rule
  have b_second_rule := F_second_rule.binds (ps := ["machine", "expression", "bindings", "values"]) fun _ _ _ _ _ _ us hl => match us, hl with | [_, _, _, _], _ => rfl
  have F_operator_rule := fun_mk (st := g_operator_rule) l_operator_rule c_operator_rule k_operator_rule
  have b_operator_rule := F_operator_rule.binds (ps := ["machine", "expression", "bindings", "values"]) fun _ _ _ _ _ _ us hl => match us, hl with | [_, _, _, _], _ => rfl
  have F_not_rule := fun_mk (st := g_not_rule) l_not_rule c_not_rule k_not_rule
  have b_not_rule := F_not_rule.binds (ps := ["machine", "expression", "bindings", "values"]) fun _ _ _ _ _ _ us hl => match us, hl with | [_, _, _, _], _ => rfl
  have F_print_rule := fun_mk (st := g_print_rule) l_print_rule c_print_rule k_print_rule
  have b_print_rule := F_print_rule.binds (ps := ["machine", "expression", "bindings", "values"]) fun _ _ _ _ _ _ us hl => match us, hl with | [_, _, _, _], _ => rfl
  have F_ask_rule := fun_mk (st := g_ask_rule) l_ask_rule c_ask_rule k_ask_rule
  have b_ask_rule := F_ask_rule.binds (ps := ["machine", "expression", "bindings", "values"]) fun _ _ _ _ _ _ us hl => match us, hl with | [_, _, _, _], _ => rfl
  have F_L_law_state := fun_mk (st := g__law_state) l_L_law_state c_L_law_state k_L_law_state
  have b_L_law_state := F_L_law_state.binds (ps := ["_law_script"]) fun _ _ _ _ _ _ us hl => match us, hl with | [_], _ => rfl
  have F_L_law_take := fun_mk (st := g__law_take) l_L_law_take c_L_law_take k_L_law_take
  have b_L_law_take := F_L_law_take.binds (ps := ["_law_state_here", "_law_most"]) fun _ _ _ _ _ _ us hl => match us, hl with | [_, _], _ => rfl
  have F_law := fun_mk (st := g_law) l_law c_law k_law
  have b_law := F_law.binds (ps := ["_law_script"]) fun _ _ _ _ _ _ us hl => match us, hl with | [_], _ => rfl
  have cl : L2.Cls K C := ⟨pgC, hdC, poC, saC⟩
  have T : SkTxt K C := ⟨cl, n_left, n_prints, n_end, n_handlers, n_frames, n_kept, n_most⟩
  have TS : ShTxt K w mg pS esS nS := ⟨(PySem.W.mg_of X G gS), ⟨DS, KS, lowS⟩, ⟨_, dS_num⟩, ⟨_, dS_flag⟩, ⟨_, dS_unit⟩, fun x hx => by
    rcases List.mem_cons.mp hx with rfl | hx
    · exact nS_fun
    rcases List.mem_cons.mp hx with rfl | hx
    · exact nS_rec
    rcases List.mem_cons.mp hx with rfl | hx
    · exact nS_closure
    rcases List.mem_cons.mp hx with rfl | hx
    · exact nS_kept
    rw [List.mem_singleton.mp hx]
    exact nS_function⟩
  have TF : FpTxt K w mg pF := ⟨(PySem.W.mg_of X G gF), fun x k hk => by
    have key : ∀ (y : Str) (i : Nat) (tk : Tok), PySem.W.nsIn K pF y = some (some (.int (i : Nat) tk)) → KDct K w pF y (.int (i : Nat)) := fun y i tk hn => ⟨esF, nF, _, DF, KF, hn, ⟨tk, rfl⟩⟩
    unfold fpTab at hk
    rw [List.lookup_cons] at hk
    by_cases e_num : x = "num"
    · rw [e_num] at hk ⊢
      cases (show some 2 = some k from hk)
      exact key _ _ _ dF_num
    rw [show (x == (Str.ofString "num")) = false from beq_false_of_ne e_num] at hk
    simp only [] at hk
    rw [List.lookup_cons] at hk
    by_cases e_flag : x = "flag"
    · rw [e_flag] at hk ⊢
      cases (show some 2 = some k from hk)
      exact key _ _ _ dF_flag
    rw [show (x == (Str.ofString "flag")) = false from beq_false_of_ne e_flag] at hk
    simp only [] at hk
    rw [List.lookup_cons] at hk
    by_cases e_unit : x = "unit"
    · rw [e_unit] at hk ⊢
      cases (show some 1 = some k from hk)
      exact key _ _ _ dF_unit
    rw [show (x == (Str.ofString "unit")) = false from beq_false_of_ne e_unit] at hk
    simp only [] at hk
    rw [List.lookup_cons] at hk
    by_cases e_name : x = "name"
    · rw [e_name] at hk ⊢
      cases (show some 2 = some k from hk)
      exact key _ _ _ dF_name
    rw [show (x == (Str.ofString "name")) = false from beq_false_of_ne e_name] at hk
    simp only [] at hk
    rw [List.lookup_cons] at hk
    by_cases e_call : x = "call"
    · rw [e_call] at hk ⊢
      cases (show some 1 = some k from hk)
      exact key _ _ _ dF_call
    rw [show (x == (Str.ofString "call")) = false from beq_false_of_ne e_call] at hk
    simp only [] at hk
    rw [List.lookup_cons] at hk
    by_cases e_fun : x = "fun"
    · rw [e_fun] at hk ⊢
      cases (show some 2 = some k from hk)
      exact key _ _ _ dF_fun
    rw [show (x == (Str.ofString "fun")) = false from beq_false_of_ne e_fun] at hk
    simp only [] at hk
    rw [List.lookup_cons] at hk
    by_cases e_rec : x = "rec"
    · rw [e_rec] at hk ⊢
      cases (show some 3 = some k from hk)
      exact key _ _ _ dF_rec
    rw [show (x == (Str.ofString "rec")) = false from beq_false_of_ne e_rec] at hk
    simp only [] at hk
    rw [List.lookup_cons] at hk
    by_cases e_let : x = "let"
    · rw [e_let] at hk ⊢
      cases (show some 2 = some k from hk)
      exact key _ _ _ dF_let
    rw [show (x == (Str.ofString "let")) = false from beq_false_of_ne e_let] at hk
    simp only [] at hk
    rw [List.lookup_cons] at hk
    by_cases e_if : x = "if"
    · rw [e_if] at hk ⊢
      cases (show some 1 = some k from hk)
      exact key _ _ _ dF_if
    rw [show (x == (Str.ofString "if")) = false from beq_false_of_ne e_if] at hk
    simp only [] at hk
    rw [List.lookup_cons] at hk
    by_cases e_pair : x = "pair"
    · rw [e_pair] at hk ⊢
      cases (show some 1 = some k from hk)
      exact key _ _ _ dF_pair
    rw [show (x == (Str.ofString "pair")) = false from beq_false_of_ne e_pair] at hk
    simp only [] at hk
    rw [List.lookup_cons] at hk
    by_cases e_fst : x = "fst"
    · rw [e_fst] at hk ⊢
      cases (show some 1 = some k from hk)
      exact key _ _ _ dF_fst
    rw [show (x == (Str.ofString "fst")) = false from beq_false_of_ne e_fst] at hk
    simp only [] at hk
    rw [List.lookup_cons] at hk
    by_cases e_snd : x = "snd"
    · rw [e_snd] at hk ⊢
      cases (show some 1 = some k from hk)
      exact key _ _ _ dF_snd
    rw [show (x == (Str.ofString "snd")) = false from beq_false_of_ne e_snd] at hk
    simp only [] at hk
    rw [List.lookup_cons] at hk
    by_cases e_op : x = "op"
    · rw [e_op] at hk ⊢
      cases (show some 2 = some k from hk)
      exact key _ _ _ dF_op
    rw [show (x == (Str.ofString "op")) = false from beq_false_of_ne e_op] at hk
    simp only [] at hk
    rw [List.lookup_cons] at hk
    by_cases e_not : x = "not"
    · rw [e_not] at hk ⊢
      cases (show some 1 = some k from hk)
      exact key _ _ _ dF_not
    rw [show (x == (Str.ofString "not")) = false from beq_false_of_ne e_not] at hk
    simp only [] at hk
    rw [List.lookup_cons] at hk
    by_cases e_print : x = "print"
    · rw [e_print] at hk ⊢
      cases (show some 1 = some k from hk)
      exact key _ _ _ dF_print
    rw [show (x == (Str.ofString "print")) = false from beq_false_of_ne e_print] at hk
    simp only [] at hk
    rw [List.lookup_cons] at hk
    by_cases e_ask : x = "ask"
    · rw [e_ask] at hk ⊢
      cases (show some 2 = some k from hk)
      exact key _ _ _ dF_ask
    rw [show (x == (Str.ofString "ask")) = false from beq_false_of_ne e_ask] at hk
    simp only [] at hk
    rw [List.lookup_cons] at hk
    by_cases e_kept : x = "kept"
    · rw [e_kept] at hk ⊢
      cases (show some 2 = some k from hk)
      exact key _ _ _ dF_kept
    rw [show (x == (Str.ofString "kept")) = false from beq_false_of_ne e_kept] at hk
    simp only [] at hk
    rw [List.lookup_cons] at hk
    by_cases e_known : x = "known"
    · rw [e_known] at hk ⊢
      cases (show some 2 = some k from hk)
      exact key _ _ _ dF_known
    rw [show (x == (Str.ofString "known")) = false from beq_false_of_ne e_known] at hk
    simp only [] at hk
    cases hk⟩
  have TE : FeTxt K w mg pE := ⟨(PySem.W.mg_of X G gE), fun e => by
    have key : ∀ (y : Str) (a : Addr), PySem.W.nsIn K pE y = some (some (.ref a)) → KDct K w pE y (.ref a) := fun y a hn => ⟨esE, nE, _, DE, KE, hn, rfl⟩
    cases e
    · exact ⟨_, key _ _ dE_num, fun H => .inr ⟨_, _, _, ldE_num, rfl, rfl, by show 0 ≤ sizeLine; decide, .nil⟩⟩
    · exact ⟨_, key _ _ dE_flag, fun H => .inr ⟨_, _, _, ldE_flag, rfl, rfl, by show 0 ≤ sizeLine; decide, .nil⟩⟩
    · exact ⟨_, key _ _ dE_unit, fun H => .inr ⟨_, _, _, ldE_unit, rfl, rfl, by show 0 ≤ sizeLine; decide, .nil⟩⟩
    · exact ⟨_, key _ _ dE_name, fun H => .inr ⟨_, _, _, ldE_name, rfl, rfl, by show 0 ≤ sizeLine; decide, .nil⟩⟩
    · exact ⟨_, key _ _ dE_call, fun H => .inr ⟨_, _, _, ldE_call, rfl, rfl, by show 2 ≤ sizeLine; decide, (.cons ⟨_, rfl⟩ (.cons ⟨_, rfl⟩ .nil))⟩⟩
    · exact ⟨_, key _ _ dE_fun, fun H => .inr ⟨_, _, _, ldE_fun, rfl, rfl, by show 0 ≤ sizeLine; decide, .nil⟩⟩
    · exact ⟨_, key _ _ dE_rec, fun H => .inr ⟨_, _, _, ldE_rec, rfl, rfl, by show 0 ≤ sizeLine; decide, .nil⟩⟩
    · exact ⟨_, key _ _ dE_let, fun H => .inr ⟨_, _, _, ldE_let, rfl, rfl, by show 1 ≤ sizeLine; decide, (.cons ⟨_, rfl⟩ .nil)⟩⟩
    · exact ⟨_, key _ _ dE_if, fun H => .inr ⟨_, _, _, ldE_if, rfl, rfl, by show 1 ≤ sizeLine; decide, (.cons ⟨_, rfl⟩ .nil)⟩⟩
    · exact ⟨_, key _ _ dE_pair, fun H => .inr ⟨_, _, _, ldE_pair, rfl, rfl, by show 2 ≤ sizeLine; decide, (.cons ⟨_, rfl⟩ (.cons ⟨_, rfl⟩ .nil))⟩⟩
    · exact ⟨_, key _ _ dE_fst, fun H => .inr ⟨_, _, _, ldE_fst, rfl, rfl, by show 1 ≤ sizeLine; decide, (.cons ⟨_, rfl⟩ .nil)⟩⟩
    · exact ⟨_, key _ _ dE_snd, fun H => .inr ⟨_, _, _, ldE_snd, rfl, rfl, by show 1 ≤ sizeLine; decide, (.cons ⟨_, rfl⟩ .nil)⟩⟩
    · exact ⟨_, key _ _ dE_op, fun H => .inr ⟨_, _, _, ldE_op, rfl, rfl, by show 2 ≤ sizeLine; decide, (.cons ⟨_, rfl⟩ (.cons ⟨_, rfl⟩ .nil))⟩⟩
    · exact ⟨_, key _ _ dE_not, fun H => .inr ⟨_, _, _, ldE_not, rfl, rfl, by show 1 ≤ sizeLine; decide, (.cons ⟨_, rfl⟩ .nil)⟩⟩
    · exact ⟨_, key _ _ dE_print, fun H => .inr ⟨_, _, _, ldE_print, rfl, rfl, by show 1 ≤ sizeLine; decide, (.cons ⟨_, rfl⟩ .nil)⟩⟩
    · exact ⟨_, key _ _ dE_ask, fun H => .inr ⟨_, _, _, ldE_ask, rfl, rfl, by show 1 ≤ sizeLine; decide, (.cons ⟨_, rfl⟩ .nil)⟩⟩
    · exact ⟨_, key _ _ dE_handle, fun H => .inr ⟨_, _, _, ldE_handle, rfl, rfl, by show 1 ≤ sizeLine; decide, (.cons ⟨_, rfl⟩ .nil)⟩⟩⟩
  refine ⟨PySem.W.fnOf "law" "law" (defArgs g_law) (defBody g_law) (defScope g_law) .none kV_law dc_law pm_law an_law cd_law ct_law, fun s v => .of_eq rfl, fun base _ _ => ?_⟩
  have G_wrapped : Fn l.prog w K mg base CX0 1 "wrapped" p_wrapped spWrapped f_wrapped _ := ⟨ok_wrapped F_wrapped (PySem.W.mg_of X G gH), (PySem.W.mg_of X G a_wrapped), k_wrapped, b_wrapped⟩
  have G_operated : Fn l.prog w K mg base CX0 2 "operated" p_operated spOperated f_operated _ := ⟨ok_operated F_operated G_wrapped, (PySem.W.mg_of X G a_operated), k_operated, b_operated⟩
  have G_negated : Fn l.prog w K mg base CX0 1 "negated" p_negated spNegated f_negated _ := ⟨ok_negated F_negated, (PySem.W.mg_of X G a_negated), k_negated, b_negated⟩
  have G_shape : Fn l.prog w K mg base CX0 1 "shape" p_shape spShape f_shape _ := ⟨ok_shape F_shape TS (PySem.W.mg_none_of X G z_reversed), (PySem.W.mg_of X G a_shape), k_shape, b_shape⟩
  have G_Run_take_step : Mt l.prog w K mg base CX0 C 1 "take_step" p_Run_take_step (spStep C) f_Run_take_step _ := ⟨cl, ok_step F_Run_take_step T, m_Run_take_step, b_Run_take_step⟩
  have G_Run_end_unhandled : Mt l.prog w K mg base CX0 C 1 "end_unhandled" p_Run_end_unhandled (spUnh C) f_Run_end_unhandled _ := ⟨cl, ok_unh F_Run_end_unhandled T, m_Run_end_unhandled, b_Run_end_unhandled⟩
  have G_Stack_wait : Mt l.prog w K mg base CX0 C 1 "wait" p_Stack_wait (spWait C) f_Stack_wait _ := ⟨cl, ok_wait F_Stack_wait T, m_Stack_wait, b_Stack_wait⟩
  have G_Stack_waiting : Mt l.prog w K mg base CX0 C 1 "waiting" p_Stack_waiting (spWaiting C) f_Stack_waiting _ := ⟨cl, ok_waiting F_Stack_waiting T, m_Stack_waiting, b_Stack_waiting⟩
  have G_Stack_put_back : Mt l.prog w K mg base CX0 C 1 "put_back" p_Stack_put_back (spPutBack C) f_Stack_put_back _ := ⟨cl, ok_put_back F_Stack_put_back T (PySem.W.mg_none_of X G z_len) (PySem.W.mg_none_of X G z_max), m_Stack_put_back, b_Stack_put_back⟩
  have G_Stack_put : Mt l.prog w K mg base CX0 C 2 "put" p_Stack_put (spPut C) f_Stack_put _ := ⟨cl, ok_put F_Stack_put G_Stack_put_back, m_Stack_put, b_Stack_put⟩
  have G_Stack_take : Mt l.prog w K mg base CX0 C 1 "take" p_Stack_take (spTakeP C) f_Stack_take _ := ⟨cl, ok_takeP F_Stack_take T, m_Stack_take, b_Stack_take⟩
  have G_Stack_keep : Mt l.prog w K mg base CX0 C 1 "keep" p_Stack_keep (spKeep C) f_Stack_keep _ := ⟨cl, ok_keep F_Stack_keep T (PySem.W.mg_none_of X G z_len), m_Stack_keep, b_Stack_keep⟩
  have G_Stack_answering : Mt l.prog w K mg base CX0 C 1 "answering" p_Stack_answering (spAns C) f_Stack_answering _ := ⟨cl, ok_ans F_Stack_answering T (PySem.W.mg_none_of X G z_len) (PySem.W.mg_none_of X G z_range), m_Stack_answering, b_Stack_answering⟩
  have G_Run_end_with : Mt l.prog w K mg base CX0 C 2 "end_with" p_Run_end_with (spEnd C) f_Run_end_with _ := ⟨cl, ok_end F_Run_end_with T G_shape, m_Run_end_with, b_Run_end_with⟩
  have G_RI : Ci l.prog w K mg base CR mcR 1 "__init__" p_Run_init (spRunInit C) f_Run___init__ _ := ⟨ok_runinit F_Run___init__ T, ⟨rdR, gaR⟩, ⟨cvR, rfl⟩, k_Run___init__, b_Run___init__⟩
  have G_SI : Mi l.prog w K mg base 2 p_Stack_init (spSkInit C) f_Stack___init__ _ := ⟨ok_skinit F_Stack___init__ T (PySem.W.mg_of X G a_Run) G_RI, b_Stack___init__⟩
  have G_parts : Fn l.prog w K mg base CX0 1 "parts" p_parts spParts f_parts _ := ⟨ok_parts F_parts TF (PySem.W.mg_none_of X G z_list), (PySem.W.mg_of X G a_parts), k_parts, b_parts⟩
  have G_with_parts : Fn l.prog w K mg base CX0 1 "with_parts" p_with_parts spWithP f_with_parts _ := ⟨ok_withp F_with_parts TF (PySem.W.mg_none_of X G z_tuple) (PySem.W.mg_none_of X G z_zip), (PySem.W.mg_of X G a_with_parts), k_with_parts, b_with_parts⟩
  have G_bound_in_parts : Fn l.prog w K mg base CX0 2 "bound_in_parts" p_bound_in_parts spBnd f_bound_in_parts _ := ⟨ok_bnd F_bound_in_parts G_parts, (PySem.W.mg_of X G a_bound_in_parts), k_bound_in_parts, b_bound_in_parts⟩
  have G_note := note_up (P := l.prog) (base := base) F_note_free_names (PySem.W.mg_none_of X G z_zip) G_parts G_bound_in_parts (PySem.W.mg_of X G a_note_free_names) k_note_free_names b_note_free_names
  have G_free_names : Fn l.prog w K mg base CX0 (10 + 4) "free_names" p_free_names (spFree 10) f_free_names _ := ⟨ok_free F_free_names (PySem.W.mg_none_of X G z_sorted) (G_note 10), (PySem.W.mg_of X G a_free_names), k_free_names, b_free_names⟩
  have G_prep := prep_up (P := l.prog) (base := base) (N := 10) F_prepared (by decide) G_parts G_with_parts G_free_names (PySem.W.mg_of X G a_prepared) k_prepared b_prepared 10 (Nat.le_refl _)
  have G_end_piece : Fn l.prog w K mg base CX0 3 "end_piece" p_end_piece (spEndP C) f_end_piece _ := ⟨ok_endp F_end_piece T (PySem.W.mg_none_of X G z_len) G_Run_end_with G_Stack_take, (PySem.W.mg_of X G a_end_piece), k_end_piece, b_end_piece⟩
  have G_literal_rule : FnOk l.prog w K mg base CX0 3 f_literal_rule _ p_literal_rule (spR isLit C) := (ok_literal_rule F_literal_rule).mono (by omega)
  have G_name_rule : FnOk l.prog w K mg base CX0 3 f_name_rule _ p_name_rule (spR isName C) := (ok_name_rule F_name_rule).mono (by omega)
  have G_function_rule : FnOk l.prog w K mg base CX0 3 f_function_rule _ p_function_rule (spR isFun C) := (ok_function_rule F_function_rule).mono (by omega)
  have G_call_rule : FnOk l.prog w K mg base CX0 3 f_call_rule _ p_call_rule (spR isCall C) := (ok_call_rule G_Run_take_step G_Stack_put_back F_call_rule).mono (by omega)
  have G_let_rule : FnOk l.prog w K mg base CX0 3 f_let_rule _ p_let_rule (spR isLet C) := (ok_let_rule F_let_rule).mono (by omega)
  have G_choice_rule : FnOk l.prog w K mg base CX0 3 f_choice_rule _ p_choice_rule (spR isIte C) := (ok_choice_rule F_choice_rule).mono (by omega)
  have G_pair_rule : FnOk l.prog w K mg base CX0 3 f_pair_rule _ p_pair_rule (spR isPair C) := (ok_pair_rule F_pair_rule).mono (by omega)
  have G_first_rule : FnOk l.prog w K mg base CX0 3 f_first_rule _ p_first_rule (spR isFst C) := (ok_first_rule F_first_rule).mono (by omega)
  have G_second_rule : FnOk l.prog w K mg base CX0 3 f_second_rule _ p_second_rule (spR isSnd C) := (ok_second_rule F_second_rule).mono (by omega)
  have G_operator_rule : FnOk l.prog w K mg base CX0 3 f_operator_rule _ p_operator_rule (spR isOp C) := (ok_operator_rule G_operated F_operator_rule).mono (by omega)
  have G_not_rule : FnOk l.prog w K mg base CX0 3 f_not_rule _ p_not_rule (spR isNot C) := (ok_not_rule G_negated F_not_rule).mono (by omega)
  have G_print_rule : FnOk l.prog w K mg base CX0 3 f_print_rule _ p_print_rule (spR isPrint C) := (ok_print_rule T F_print_rule).mono (by omega)
  have G_ask_rule : FnOk l.prog w K mg base CX0 3 f_ask_rule _ p_ask_rule (spR isAsk C) := (ok_ask_rule T G_Run_take_step G_Stack_answering G_Run_end_unhandled G_Stack_keep F_ask_rule).mono (by omega)
  have dR : ∀ e : Ex, isHd e = false → KDct K w pR (tagE e) (.ref ((fun e => match e with | .num _ => f_literal_rule | .flag _ => f_literal_rule | .unit => f_literal_rule | .name _ => f_name_rule | .call _ _ => f_call_rule | .fn _ _ => f_function_rule | .rc _ _ _ => f_function_rule | .lt _ _ _ => f_let_rule | .ite _ _ _ => f_choice_rule | .pair _ _ => f_pair_rule | .fst _ => f_first_rule | .snd _ => f_second_rule | .op _ _ _ => f_operator_rule | .nt _ => f_not_rule | .pr _ _ => f_print_rule | .ask _ _ => f_ask_rule | .hd _ _ _ _ => f_ask_rule : Ex → Addr) e)) := fun e he => by
    cases e
    · exact ⟨esR, nR, _, DR, KR, dR_num, rfl⟩
    · exact ⟨esR, nR, _, DR, KR, dR_flag, rfl⟩
    · exact ⟨esR, nR, _, DR, KR, dR_unit, rfl⟩
    · exact ⟨esR, nR, _, DR, KR, dR_name, rfl⟩
    · exact ⟨esR, nR, _, DR, KR, dR_call, rfl⟩
    · exact ⟨esR, nR, _, DR, KR, dR_fun, rfl⟩
    · exact ⟨esR, nR, _, DR, KR, dR_rec, rfl⟩
    · exact ⟨esR, nR, _, DR, KR, dR_let, rfl⟩
    · exact ⟨esR, nR, _, DR, KR, dR_if, rfl⟩
    · exact ⟨esR, nR, _, DR, KR, dR_pair, rfl⟩
    · exact ⟨esR, nR, _, DR, KR, dR_fst, rfl⟩
    · exact ⟨esR, nR, _, DR, KR, dR_snd, rfl⟩
    · exact ⟨esR, nR, _, DR, KR, dR_op, rfl⟩
    · exact ⟨esR, nR, _, DR, KR, dR_not, rfl⟩
    · exact ⟨esR, nR, _, DR, KR, dR_print, rfl⟩
    · exact ⟨esR, nR, _, DR, KR, dR_ask, rfl⟩
    · cases he
  have G_go : Fn l.prog w K mg base CX0 4 "go_on" p_go_on (spGo C) f_go_on _ := ⟨ok_go F_go_on T (PySem.W.mg_none_of X G z_len) TE (PySem.W.mg_of X G gR) dR (fun e => by
    obtain ⟨e, he⟩ := e
    cases e
    · exact ⟨_, _, G_literal_rule.imp (spR_imp fun e q => by rw [q]; trivial), k_literal_rule, b_literal_rule⟩
    · exact ⟨_, _, G_literal_rule.imp (spR_imp fun e q => by rw [q]; trivial), k_literal_rule, b_literal_rule⟩
    · exact ⟨_, _, G_literal_rule.imp (spR_imp fun e q => by rw [q]; trivial), k_literal_rule, b_literal_rule⟩
    · exact ⟨_, _, G_name_rule.imp (spR_imp fun e q => by rw [q]; trivial), k_name_rule, b_name_rule⟩
    · exact ⟨_, _, G_call_rule.imp (spR_imp fun e q => by rw [q]; trivial), k_call_rule, b_call_rule⟩
    · exact ⟨_, _, G_function_rule.imp (spR_imp fun e q => by rw [q]; trivial), k_function_rule, b_function_rule⟩
    · exact ⟨_, _, G_function_rule.imp (spR_imp fun e q => by rw [q]; trivial), k_function_rule, b_function_rule⟩
    · exact ⟨_, _, G_let_rule.imp (spR_imp fun e q => by rw [q]; trivial), k_let_rule, b_let_rule⟩
    · exact ⟨_, _, G_choice_rule.imp (spR_imp fun e q => by rw [q]; trivial), k_choice_rule, b_choice_rule⟩
    · exact ⟨_, _, G_pair_rule.imp (spR_imp fun e q => by rw [q]; trivial), k_pair_rule, b_pair_rule⟩
    · exact ⟨_, _, G_first_rule.imp (spR_imp fun e q => by rw [q]; trivial), k_first_rule, b_first_rule⟩
    · exact ⟨_, _, G_second_rule.imp (spR_imp fun e q => by rw [q]; trivial), k_second_rule, b_second_rule⟩
    · exact ⟨_, _, G_operator_rule.imp (spR_imp fun e q => by rw [q]; trivial), k_operator_rule, b_operator_rule⟩
    · exact ⟨_, _, G_not_rule.imp (spR_imp fun e q => by rw [q]; trivial), k_not_rule, b_not_rule⟩
    · exact ⟨_, _, G_print_rule.imp (spR_imp fun e q => by rw [q]; trivial), k_print_rule, b_print_rule⟩
    · exact ⟨_, _, G_ask_rule.imp (spR_imp fun e q => by rw [q]; trivial), k_ask_rule, b_ask_rule⟩
    · cases he) G_Stack_put G_Stack_wait, (PySem.W.mg_of X G a_go_on), k_go_on, b_go_on⟩
  have G_advanced : Fn l.prog w K mg base CX0 5 "advanced" p_advanced (spAdv C) f_advanced _ := ⟨ok_adv F_advanced G_go G_end_piece G_Stack_waiting, (PySem.W.mg_of X G a_advanced), k_advanced, b_advanced⟩
  have G_run_counted : Fn l.prog w K mg base CX0 26 "run_counted" p_run_counted (spRun 10) f_run_counted _ := ⟨ok_run (N := 10) F_run_counted T (by decide) (PySem.W.mg_none_of X G z_tuple) ⟨mkC, a_Stack___init__, i_Stack___init__, kcC⟩ (PySem.W.mg_of X G a_Stack) G_SI G_prep G_advanced, (PySem.W.mg_of X G a_run_counted), k_run_counted, b_run_counted⟩
  have G_L_law_state : Fn l.prog w K mg base CX0 1 "_law_state" p__law_state (spState K) f_L_law_state _ := ⟨ok_state F_L_law_state (PySem.W.mg_none_of X G z_len) (PySem.W.mg_none_of X G z_abs), (PySem.W.mg_of X G a_L_law_state), k_L_law_state, b_L_law_state⟩
  have G_L_law_take : Fn l.prog w K mg base CX0 1 "_law_take" p__law_take spTake f_L_law_take _ := ⟨ok_take F_L_law_take (PySem.W.mg_none_of X G z_len) (PySem.W.mg_none_of X G z_int), (PySem.W.mg_of X G a_L_law_take), k_L_law_take, b_L_law_take⟩
  exact ok_law F_law (PySem.W.mg_none_of X G z_range) (PySem.W.mg_none_of X G z_str) G_L_law_state G_L_law_take G_run_counted
theorem walk {l : PySem.W.OpenLaw} {q : Program} {loose : List Str} {XP : (Str → Option Value) → Heap → Prop} {YP : World → Heap → Prop} {d : DefRec} {K : Params → PySem.W.Frag} (hn : l.most = some 63) (hdf : d.params.defaults = [])
    (hY : ∀ (w : World) (h : Heap), YP w h → (K w.params).In h)
    (F : ∀ (w : World) (mg : Str → Option Value) (fa : Addr) (h : Heap), (K w.params).In h → h.Ns mainGlobals mg → mg d.name = some (.ref fa) →
      ∃ fd : FuncData, (∀ (s : Shared) (u : Value), BindsTo s fd ⟨[u], []⟩ [("_law_script", u)]) ∧ ∀ base : Heap, (K w.params).In base → base.Ns mainGlobals mg → FnOk l.prog w (K w.params) mg base CX0 27 fa fd ["_law_script"] (spLaw (K w.params))) :
    PySem.W.WalkO q loose XP YP l.row.toRowW d [] (fun f vs => PySem.call f vs) :=
  L2.walk_of (n := 63) (k := 27) (x := "_law_script") (CX := fun _ => CX0) (sp := fun w => spLaw (K w.params)) hn (by decide) hdf ⟨rfl, by decide, by decide⟩ hY F (fun _ _ a ns hl _ hS => ⟨a, ns, rfl, hS, hl, fun _ => rfl⟩) fun _ _ _ _ _ z => z
end Bz


set_option Elab.async false
set_option linter.all false
set_option maxRecDepth 100000
open PySem PySem.W PyProof.Rows in
set_option maxRecDepth 100000 in
set_option maxHeartbeats 0 in
theorem PySem.Challenge.cw_askedfor_k21_pieces_of_nested_handlers_holds : PySem.Challenge.rw_askedfor_k21_pieces_of_nested_handlers.Holds := by
  w_on; o_law; k_head; (case hw => w_witness2)
  k_fill
  refine Bz.walk (l := PySem.Challenge.rw_askedfor_k21_pieces_of_nested_handlers) rfl rfl (fun w h Y => PySem.W.kIn_of Y) ?F
  case F =>
    intro w mg fa h KX G hmg
    refine' Bz.all_mk KX G hmg ?a_Stack ?a_Run ?tyR ?fiR ?rdR ?gaR ?cvR ?l_Run___init__ ?c_Run___init__ ?k_Run___init__ ?a_Run_take_step ?i_Run_take_step ?l_Run_take_step ?c_Run_take_step ?k_Run_take_step ?a_Run_end_with ?i_Run_end_with ?l_Run_end_with ?c_Run_end_with ?k_Run_end_with ?a_Run_end_unhandled ?i_Run_end_unhandled ?l_Run_end_unhandled ?c_Run_end_unhandled ?k_Run_end_unhandled ?a_wrapped ?l_wrapped ?c_wrapped ?k_wrapped ?a_operated ?l_operated ?c_operated ?k_operated ?a_negated ?l_negated ?c_negated ?k_negated ?a_shape ?l_shape ?c_shape ?k_shape ?a_Stack___init__ ?i_Stack___init__ ?l_Stack___init__ ?c_Stack___init__ ?k_Stack___init__ ?a_Stack_wait ?i_Stack_wait ?l_Stack_wait ?c_Stack_wait ?k_Stack_wait ?a_Stack_waiting ?i_Stack_waiting ?l_Stack_waiting ?c_Stack_waiting ?k_Stack_waiting ?a_Stack_put ?i_Stack_put ?l_Stack_put ?c_Stack_put ?k_Stack_put ?a_Stack_put_back ?i_Stack_put_back ?l_Stack_put_back ?c_Stack_put_back ?k_Stack_put_back ?a_Stack_take ?i_Stack_take ?l_Stack_take ?c_Stack_take ?k_Stack_take ?a_Stack_keep ?i_Stack_keep ?l_Stack_keep ?c_Stack_keep ?k_Stack_keep ?a_Stack_answering ?i_Stack_answering ?l_Stack_answering ?c_Stack_answering ?k_Stack_answering ?a_parts ?l_parts ?c_parts ?k_parts ?a_with_parts ?l_with_parts ?c_with_parts ?k_with_parts ?a_bound_in_parts ?l_bound_in_parts ?c_bound_in_parts ?k_bound_in_parts ?a_free_names ?l_free_names ?c_free_names ?k_free_names ?a_note_free_names ?l_note_free_names ?c_note_free_names ?k_note_free_names ?a_run_counted ?l_run_counted ?c_run_counted ?k_run_counted ?a_prepared ?l_prepared ?c_prepared ?k_prepared ?a_advanced ?l_advanced ?c_advanced ?k_advanced ?a_go_on ?l_go_on ?c_go_on ?k_go_on ?a_end_piece ?l_end_piece ?c_end_piece ?k_end_piece ?a_literal_rule ?l_literal_rule ?c_literal_rule ?k_literal_rule ?a_name_rule ?l_name_rule ?c_name_rule ?k_name_rule ?a_function_rule ?l_function_rule ?c_function_rule ?k_function_rule ?a_call_rule ?l_call_rule ?c_call_rule ?k_call_rule ?a_let_rule ?l_let_rule ?c_let_rule ?k_let_rule ?a_choice_rule ?l_choice_rule ?c_choice_rule ?k_choice_rule ?a_pair_rule ?l_pair_rule ?c_pair_rule ?k_pair_rule ?a_first_rule ?l_first_rule ?c_first_rule ?k_first_rule ?a_second_rule ?l_second_rule ?c_second_rule ?k_second_rule ?a_operator_rule ?l_operator_rule ?c_operator_rule ?k_operator_rule ?a_not_rule ?l_not_rule ?c_not_rule ?k_not_rule ?a_print_rule ?l_print_rule ?c_print_rule ?k_print_rule ?a_ask_rule ?l_ask_rule ?c_ask_rule ?k_ask_rule ?a_L_law_state ?l_L_law_state ?c_L_law_state ?k_L_law_state ?a_L_law_take ?l_L_law_take ?c_L_law_take ?k_L_law_take ?a_law ?l_law ?c_law ?k_law ?pgC ?hdC ?poC ?saC ?mkC ?kcC ?n_left ?n_prints ?n_end ?n_handlers ?n_frames ?n_kept ?n_most ?z_len ?z_max ?z_range ?z_reversed ?z_list ?z_tuple ?z_zip ?z_sorted ?z_str ?z_abs ?z_int ?gH ?gS ?DS ?KS ?lowS ?dS_num ?dS_flag ?dS_unit ?nS_fun ?nS_rec ?nS_closure ?nS_kept ?nS_function ?gF ?DF ?KF ?dF_num ?dF_flag ?dF_unit ?dF_name ?dF_call ?dF_fun ?dF_rec ?dF_let ?dF_if ?dF_pair ?dF_fst ?dF_snd ?dF_op ?dF_not ?dF_print ?dF_ask ?dF_kept ?dF_known ?gE ?DE ?KE ?dE_num ?ldE_num ?dE_flag ?ldE_flag ?dE_unit ?ldE_unit ?dE_name ?ldE_name ?dE_call ?ldE_call ?dE_fun ?ldE_fun ?dE_rec ?ldE_rec ?dE_let ?ldE_let ?dE_if ?ldE_if ?dE_pair ?ldE_pair ?dE_fst ?ldE_fst ?dE_snd ?ldE_snd ?dE_op ?ldE_op ?dE_not ?ldE_not ?dE_print ?ldE_print ?dE_ask ?ldE_ask ?dE_handle ?ldE_handle ?gR ?DR ?KR ?dR_num ?dR_flag ?dR_unit ?dR_name ?dR_fun ?dR_rec ?dR_call ?dR_let ?dR_if ?dR_pair ?dR_fst ?dR_snd ?dR_op ?dR_not ?dR_print ?dR_ask
    (case a_Stack => k_is)
    (case a_Run => k_is)
    (case tyR => k_is)
    (case fiR => k_is)
    (case rdR => k_is)
    (case gaR => k_is)
    (case cvR => k_is)
    (case l_Run___init__ => k_is)
    (case c_Run___init__ => k_is)
    (case k_Run___init__ => k_is)
    (case a_Run_take_step => k_is)
    (case i_Run_take_step => k_is)
    (case l_Run_take_step => k_is)
    (case c_Run_take_step => k_is)
    (case k_Run_take_step => k_is)
    (case a_Run_end_with => k_is)
    (case i_Run_end_with => k_is)
    (case l_Run_end_with => k_is)
    (case c_Run_end_with => k_is)
    (case k_Run_end_with => k_is)
    (case a_Run_end_unhandled => k_is)
    (case i_Run_end_unhandled => k_is)
    (case l_Run_end_unhandled => k_is)
    (case c_Run_end_unhandled => k_is)
    (case k_Run_end_unhandled => k_is)
    (case a_wrapped => k_is)
    (case l_wrapped => k_is)
    (case c_wrapped => k_is)
    (case k_wrapped => k_is)
    (case a_operated => k_is)
    (case l_operated => k_is)
    (case c_operated => k_is)
    (case k_operated => k_is)
    (case a_negated => k_is)
    (case l_negated => k_is)
    (case c_negated => k_is)
    (case k_negated => k_is)
    (case a_shape => k_is)
    (case l_shape => k_is)
    (case c_shape => k_is)
    (case k_shape => k_is)
    (case a_Stack___init__ => k_is)
    (case i_Stack___init__ => k_is)
    (case l_Stack___init__ => k_is)
    (case c_Stack___init__ => k_is)
    (case k_Stack___init__ => k_is)
    (case a_Stack_wait => k_is)
    (case i_Stack_wait => k_is)
    (case l_Stack_wait => k_is)
    (case c_Stack_wait => k_is)
    (case k_Stack_wait => k_is)
    (case a_Stack_waiting => k_is)
    (case i_Stack_waiting => k_is)
    (case l_Stack_waiting => k_is)
    (case c_Stack_waiting => k_is)
    (case k_Stack_waiting => k_is)
    (case a_Stack_put => k_is)
    (case i_Stack_put => k_is)
    (case l_Stack_put => k_is)
    (case c_Stack_put => k_is)
    (case k_Stack_put => k_is)
    (case a_Stack_put_back => k_is)
    (case i_Stack_put_back => k_is)
    (case l_Stack_put_back => k_is)
    (case c_Stack_put_back => k_is)
    (case k_Stack_put_back => k_is)
    (case a_Stack_take => k_is)
    (case i_Stack_take => k_is)
    (case l_Stack_take => k_is)
    (case c_Stack_take => k_is)
    (case k_Stack_take => k_is)
    (case a_Stack_keep => k_is)
    (case i_Stack_keep => k_is)
    (case l_Stack_keep => k_is)
    (case c_Stack_keep => k_is)
    (case k_Stack_keep => k_is)
    (case a_Stack_answering => k_is)
    (case i_Stack_answering => k_is)
    (case l_Stack_answering => k_is)
    (case c_Stack_answering => k_is)
    (case k_Stack_answering => k_is)
    (case a_parts => k_is)
    (case l_parts => k_is)
    (case c_parts => k_is)
    (case k_parts => k_is)
    (case a_with_parts => k_is)
    (case l_with_parts => k_is)
    (case c_with_parts => k_is)
    (case k_with_parts => k_is)
    (case a_bound_in_parts => k_is)
    (case l_bound_in_parts => k_is)
    (case c_bound_in_parts => k_is)
    (case k_bound_in_parts => k_is)
    (case a_free_names => k_is)
    (case l_free_names => k_is)
    (case c_free_names => k_is)
    (case k_free_names => k_is)
    (case a_note_free_names => k_is)
    (case l_note_free_names => k_is)
    (case c_note_free_names => k_is)
    (case k_note_free_names => k_is)
    (case a_run_counted => k_is)
    (case l_run_counted => k_is)
    (case c_run_counted => k_is)
    (case k_run_counted => k_is)
    (case a_prepared => k_is)
    (case l_prepared => k_is)
    (case c_prepared => k_is)
    (case k_prepared => k_is)
    (case a_advanced => k_is)
    (case l_advanced => k_is)
    (case c_advanced => k_is)
    (case k_advanced => k_is)
    (case a_go_on => k_is)
    (case l_go_on => k_is)
    (case c_go_on => k_is)
    (case k_go_on => k_is)
    (case a_end_piece => k_is)
    (case l_end_piece => k_is)
    (case c_end_piece => k_is)
    (case k_end_piece => k_is)
    (case a_literal_rule => k_is)
    (case l_literal_rule => k_is)
    (case c_literal_rule => k_is)
    (case k_literal_rule => k_is)
    (case a_name_rule => k_is)
    (case l_name_rule => k_is)
    (case c_name_rule => k_is)
    (case k_name_rule => k_is)
    (case a_function_rule => k_is)
    (case l_function_rule => k_is)
    (case c_function_rule => k_is)
    (case k_function_rule => k_is)
    (case a_call_rule => k_is)
    (case l_call_rule => k_is)
    (case c_call_rule => k_is)
    (case k_call_rule => k_is)
    (case a_let_rule => k_is)
    (case l_let_rule => k_is)
    (case c_let_rule => k_is)
    (case k_let_rule => k_is)
    (case a_choice_rule => k_is)
    (case l_choice_rule => k_is)
    (case c_choice_rule => k_is)
    (case k_choice_rule => k_is)
    (case a_pair_rule => k_is)
    (case l_pair_rule => k_is)
    (case c_pair_rule => k_is)
    (case k_pair_rule => k_is)
    (case a_first_rule => k_is)
    (case l_first_rule => k_is)
    (case c_first_rule => k_is)
    (case k_first_rule => k_is)
    (case a_second_rule => k_is)
    (case l_second_rule => k_is)
    (case c_second_rule => k_is)
    (case k_second_rule => k_is)
    (case a_operator_rule => k_is)
    (case l_operator_rule => k_is)
    (case c_operator_rule => k_is)
    (case k_operator_rule => k_is)
    (case a_not_rule => k_is)
    (case l_not_rule => k_is)
    (case c_not_rule => k_is)
    (case k_not_rule => k_is)
    (case a_print_rule => k_is)
    (case l_print_rule => k_is)
    (case c_print_rule => k_is)
    (case k_print_rule => k_is)
    (case a_ask_rule => k_is)
    (case l_ask_rule => k_is)
    (case c_ask_rule => k_is)
    (case k_ask_rule => k_is)
    (case a_L_law_state => k_is)
    (case l_L_law_state => k_is)
    (case c_L_law_state => k_is)
    (case k_L_law_state => k_is)
    (case a_L_law_take => k_is)
    (case l_L_law_take => k_is)
    (case c_L_law_take => k_is)
    (case k_L_law_take => k_is)
    (case a_law => k_is)
    (case l_law => k_is)
    (case c_law => k_is)
    (case k_law => k_is)
    (case pgC => k_is)
    (case hdC => k_is)
    (case poC => k_is)
    (case saC => k_is)
    (case mkC => k_is)
    (case kcC => k_is)
    (case n_left => k_is)
    (case n_prints => k_is)
    (case n_end => k_is)
    (case n_handlers => k_is)
    (case n_frames => k_is)
    (case n_kept => k_is)
    (case n_most => k_is)
    (case z_len => k_is)
    (case z_max => k_is)
    (case z_range => k_is)
    (case z_reversed => k_is)
    (case z_list => k_is)
    (case z_tuple => k_is)
    (case z_zip => k_is)
    (case z_sorted => k_is)
    (case z_str => k_is)
    (case z_abs => k_is)
    (case z_int => k_is)
    (case gH => k_is)
    (case gS => k_is)
    (case DS => k_is)
    (case KS => (repeat' first | exact True.intro | refine ⟨⟨_, _, rfl, rfl⟩, ?_⟩))
    (case lowS => first | k_is | rfl | decide)
    (case dS_num => k_is)
    (case dS_flag => k_is)
    (case dS_unit => k_is)
    (case nS_fun => k_is)
    (case nS_rec => k_is)
    (case nS_closure => k_is)
    (case nS_kept => k_is)
    (case nS_function => k_is)
    (case gF => k_is)
    (case DF => k_is)
    (case KF => (repeat' first | exact True.intro | refine ⟨⟨_, _, rfl, rfl⟩, ?_⟩))
    (case dF_num => k_is)
    (case dF_flag => k_is)
    (case dF_unit => k_is)
    (case dF_name => k_is)
    (case dF_call => k_is)
    (case dF_fun => k_is)
    (case dF_rec => k_is)
    (case dF_let => k_is)
    (case dF_if => k_is)
    (case dF_pair => k_is)
    (case dF_fst => k_is)
    (case dF_snd => k_is)
    (case dF_op => k_is)
    (case dF_not => k_is)
    (case dF_print => k_is)
    (case dF_ask => k_is)
    (case dF_kept => k_is)
    (case dF_known => k_is)
    (case gE => k_is)
    (case DE => k_is)
    (case KE => (repeat' first | exact True.intro | refine ⟨⟨_, _, rfl, rfl⟩, ?_⟩))
    (case dE_num => k_is)
    (case ldE_num => k_is)
    (case dE_flag => k_is)
    (case ldE_flag => k_is)
    (case dE_unit => k_is)
    (case ldE_unit => k_is)
    (case dE_name => k_is)
    (case ldE_name => k_is)
    (case dE_call => k_is)
    (case ldE_call => k_is)
    (case dE_fun => k_is)
    (case ldE_fun => k_is)
    (case dE_rec => k_is)
    (case ldE_rec => k_is)
    (case dE_let => k_is)
    (case ldE_let => k_is)
    (case dE_if => k_is)
    (case ldE_if => k_is)
    (case dE_pair => k_is)
    (case ldE_pair => k_is)
    (case dE_fst => k_is)
    (case ldE_fst => k_is)
    (case dE_snd => k_is)
    (case ldE_snd => k_is)
    (case dE_op => k_is)
    (case ldE_op => k_is)
    (case dE_not => k_is)
    (case ldE_not => k_is)
    (case dE_print => k_is)
    (case ldE_print => k_is)
    (case dE_ask => k_is)
    (case ldE_ask => k_is)
    (case dE_handle => k_is)
    (case ldE_handle => k_is)
    (case gR => k_is)
    (case DR => k_is)
    (case KR => (repeat' first | exact True.intro | refine ⟨⟨_, _, rfl, rfl⟩, ?_⟩))
    (case dR_num => k_is)
    (case dR_flag => k_is)
    (case dR_unit => k_is)
    (case dR_name => k_is)
    (case dR_fun => k_is)
    (case dR_rec => k_is)
    (case dR_call => k_is)
    (case dR_let => k_is)
    (case dR_if => k_is)
    (case dR_pair => k_is)
    (case dR_fst => k_is)
    (case dR_snd => k_is)
    (case dR_op => k_is)
    (case dR_not => k_is)
    (case dR_print => k_is)
    (case dR_ask => k_is)
#print axioms PySem.Challenge.cw_askedfor_k21_pieces_of_nested_handlers_holds

