import PyProof.Rows.All
import Wide.All
import OpenK.AllK
import Wide.FinOn
import HandS.ForMost
import HandS.ExcInit
import HandS.IsInst
import HandS.ExcIs
import HandS.ExcField
import HandS.ExcOwn
import HandS.Defaults
import HandS.ExcValue
import PyProof.ReprRoads
import HandS.Evl
import PySem.Challenge.RW_lendroads_k96_errors_and_their_fields
set_option Elab.async false
set_option linter.all false
set_option maxRecDepth 100000
set_option maxHeartbeats 4000000
namespace Ev
open PySem PySem.W PySem.Calls PyProof.Rows Builtin Builtin.ObjectAttr
/-- the mro behind an own exception class, as far as making asks it -/
structure Tl (bm : List Value) (B : String) : Prop where
  hasB : bm.contains (.type B) = true
  noA : bm.contains (.type "AttributeError") = false
  noN : bm.contains (.type "NameError") = false
  obj : bm.contains (.type "object") = true
  bex : bm.contains (.type "BaseException") = true
  pass : ∀ self, refuseLoop self "__setattr__" bm = pure ()
section
variable {prog : Program} {w : World} {A : Around} {E : Value → Shared → Prop} {R : Result → Shared → Prop}
  {h : Heap} {g : Array GenState} {d : Drawn} {t : Nat} {os : OsState}
  {nm q : Str} {C N : Addr} {bs bm bmB : List Value} {hdct : Bool} {sn : List Str} {sub : List Value} {ab : Bool}
  {col : Option Bool} {dd : Option Addr} {k0 k1 k2 k3 k5 : Option Value} {B newId initId : String}
local macro_rules | `(tactic| walk_at "evstep") => `(tactic| (first
  | refine wpAny_loadPart_at (by assumption) ?_
  | refine wpAny_staticBase_exc (by assumption) ?_
  | refine wpAny_madeBy_exc (by assumption) ?_
  | simp only [bne_self_eq_false, Bool.false_eq_true, if_false]
  | wp_step))
theorem ckNew (F : ExcBaseFacts B newId initId bmB) (T : Tl bm B) {xs : List Value} {kw : List (Str × Value)} {Q : Unit → Shared → Prop}
    (hC : h.get? C = some (excClassObj nm q C N bs bm hdct sn sub ab col dd k0 k1 k2 k3 k5 newId)) (z : Q () ⟨h, g, d, t, os⟩) :
    wpAny (model prog w) A (checkBuiltinCall newId ⟨.ref C :: xs, kw⟩) Q E ⟨h, g, d, t, os⟩ := by
  have e1 : (Value.ref C :: bm).contains (.type B) = true := by
    rw [List.contains_cons, T.hasB]
    exact Bool.or_true _
  have e2 := F.noStar
  simp only [checkBuiltinCall, F.newKind, F.newSplit, F.newRow]
  repeat (first | (refine wpAny_isSubtype_exc hC ?_; rw [e1]) | walk_at "evstep")
  exact z
theorem mkNew (F : ExcBaseFacts B newId initId bmB) (T : Tl bm B) {xs : List Value} {kw : List (Str × Value)}
    (hC : h.get? C = some (excClassObj nm q C N bs bm hdct sn sub ab col dd k0 k1 k2 k3 k5 newId)) (hl : xs.length ≤ sizeLine)
    (z : R (.ok (.ret (.ref (h.objs.size + 1)))) ⟨(h.push (kdv_tup xs)).push (HandSPX.excO C h.objs.size), g, d, t, os⟩) :
    codeAny (model prog w) A (.builtin newId ⟨.ref C :: xs, kw⟩) R ⟨h, g, d, t, os⟩ := by
  have e0 := F.ends
  have e1 : (Value.ref C :: bm).contains (.type B) = true := by
    rw [List.contains_cons, T.hasB]
    exact Bool.or_true _
  have e2 : (Value.ref C :: bm).contains (.type "AttributeError") = false := by
    rw [List.contains_cons, T.noA]
    rfl
  have e3 : (Value.ref C :: bm).contains (.type "NameError") = false := by
    rw [List.contains_cons, T.noN]
    rfl
  refine codeAny_builtinAt F.entry ?_
  unfold Builtin.«BaseException.__new__»
  refine PySem.wpAt_bind ?_
  show PySem.wpAt _ _ _ (stack >>= _) _ _ _
  refine PySem.wpAt_bind (PySem.wpAt_stack fun _ _ => PySem.wpAt_of_wpAny ?_)
  wp_walk
  refine PySem.wpAt_of_wpAny ?_
  rw [F.owner]
  repeat (first
    | with_reducible refine wpAny_madeHere_exc F.canon hC ?_
    | with_reducible refine wpAny_loadPart_at hC ?_
    | (with_reducible refine wpAny_isSubtype_exc hC ?_; first | rw [e1] | rw [e2] | rw [e3])
    | wp_step)
  show R _ _
  rw [Heap.size_push]
  exact z
theorem tcOwn (F : ExcBaseFacts B newId initId bmB) (T : Tl bm B) {xs : List Value} {kw : List (Str × Value)} {fI : Addr} {Q : Fin → Shared → Prop}
    (hC : h.get? C = some (excClassObj nm q C N bs bm hdct sn sub ab col dd k0 k1 k2 k3 k5 newId)) (hl : xs.length ≤ sizeLine)
    (hi : Looks (model prog w) h (typeLookup (.ref C) "__init__") (some (.ref fI)))
    (hb : ∀ v, Looks (model prog w) h (bindSpecial (.ref fI) v) (.ref fI, [v]))
    (z : codeAny (model prog w) A (.call (.ref fI) ⟨.ref (h.objs.size + 1) :: xs, kw⟩)
      (fun r s' => match r with
        | .ok (.ret v) => v = .none ∧ Q (.done (.ret (.ref (h.objs.size + 1)))) s'
        | .ok _ => False
        | .error e => E e s')
      ⟨(h.push (kdv_tup xs)).push (HandSPX.excO C h.objs.size), g, d, t, os⟩) :
    wpAny (model prog w) A (Builtin.«type.__call__» ⟨.ref C :: xs, kw⟩) Q E ⟨h, g, d, t, os⟩ := by
  repeat (first | with_reducible refine wpAny_loadPart_at hC ?_ | with_reducible refine wpAny_madeBy_exc hC ?_ | wp_step)
  refine codeAny_call_builtin_code (Code.quiet_builtin _ F.quiet) (ckNew F T hC ?_)
  refine mkNew F T hC hl ?_
  show wpAny _ _ _ _ _ _
  have kp : ∀ b o, h.get? b = some o → ((h.push (kdv_tup xs)).push (HandSPX.excO C h.objs.size)).get? b = some o :=
    fun b o e => Heap.get?_push_of_some _ (Heap.get?_push_of_some _ e)
  have hC2 := kp _ _ hC
  have hx : ((h.push (kdv_tup xs)).push (HandSPX.excO C h.objs.size)).get? (h.objs.size + 1) = some (HandSPX.excO C h.objs.size) := by heap_get
  have eC : (Value.ref C :: bm).contains (.ref C) = true := by simp
  have hi2 := hi.keeps kp
  have hb2 := (hb (.ref (h.objs.size + 1))).keeps kp
  unfold isInstance
  repeat (first | with_reducible refine wpAny_loadPart_at hx ?_ | (with_reducible refine wpAny_isSubtype_exc hC2 ?_; rw [eC]) | wp_step)
  show wpAny _ _ (typeLookup (.ref C) _) _ _ _
  refine hi2.at (wpAny_holding (wpAny_bind (hb2.at ?_)))
  refine wpAny_bind (wpAny_call (codeAny_mono z fun r s' y => ?_))
  rcases r with e | (v | _ | _ | _) <;> first | exact y | exact y.elim | skip
  obtain ⟨rfl, y⟩ := y
  first
    | exact wpAny_pure (wpAny_pure y)
    | (wp_walk; exact y)
theorem callOwn (F : ExcBaseFacts B newId initId bmB) (T : Tl bm B) {xs : List Value} {kw : List (Str × Value)} {fI : Addr}
    (hC : h.get? C = some (excClassObj nm q C N bs bm hdct sn sub ab col dd k0 k1 k2 k3 k5 newId)) (hl : xs.length ≤ sizeLine)
    (hi : Looks (model prog w) h (typeLookup (.ref C) "__init__") (some (.ref fI)))
    (hb : ∀ v, Looks (model prog w) h (bindSpecial (.ref fI) v) (.ref fI, [v]))
    (z : codeAny (model prog w) (A.under (.builtin "type.__call__" ⟨.ref C :: xs, kw⟩)) (.call (.ref fI) ⟨.ref (h.objs.size + 1) :: xs, kw⟩)
      (InitBack (h.objs.size + 1) R) ⟨(h.push (kdv_tup xs)).push (HandSPX.excO C h.objs.size), g, d, t, os⟩) :
    codeAny (model prog w) A (.call (.ref C) ⟨xs, kw⟩) R ⟨h, g, d, t, os⟩ := by
  have y1 := tc_lookup
  have y2 := tc_bind (.ref C)
  have y3 : (⟨h, g, d, t, os⟩ : Shared).TypeIs (.ref C) "type" := ⟨_, hC, rfl⟩
  refine codeAny_of_tree (?_ : wpAny _ _ (callAny (.ref C) _) _ _ _)
  repeat (any_goals (first | assumption | with_reducible refine wpAny_loadPart_at hC ?_ | wp_step))
  refine ⟨rfl, codeAny_call_builtin_at (Code.quiet_builtin _ (by decide +kernel)) entry_typeCall ?_⟩
  refine wpAny_check_type_call_sub hC (tcOwn F T hC hl hi hb (codeAny_mono z fun r s' y => ?_))
  rcases r with e | (v | _ | _ | _) <;> exact y
end
end Ev

set_option maxHeartbeats 4000000
namespace Ev
open PySem PySem.W PySem.Calls PyProof.Rows Builtin Builtin.ObjectAttr
section
variable {prog : Program} {w : World} {A : Around} {E : Value → Shared → Prop} {R : Result → Shared → Prop}
  {hp : Heap} {g : Array GenState} {d : Drawn} {t : Nat} {os : OsState}
/-- the first attribute of an exception without a dict -/
theorem putNew {K : Frag} {f : Str} {tk : Tok} {v : Value} {x C : Addr} {fv : Array Value} {cd : ClassData} {bm : List Value} {B : String}
    (X : K.In hp) (hx : hp.get? x = some { cls := .ref C, data := .fields fv }) (hcd : clsIn K C = some cd)
    (hm : cd.mro = .ref C :: bm) (T : Tl bm B) (hh : cd.hasDict = true) (ha : findIn K (.ref C) f = some none)
    (z : ∀ h' tk' dx, (∀ b o, b ≠ x → hp.get? b = some o → h'.get? b = some o) → hp.objs.size ≤ dx → dx ≠ x →
      h'.get? x = some { cls := .ref C, dict := some dx, data := .fields fv } →
      h'.Ns1 dx (fun y => if y = f then some v else none) → R (.ok (.ret .none)) ⟨h', g, d, tk', os⟩) :
    codeAny (model prog w) A (.call (.builtin "object.__setattr__") ⟨[.ref x, .str f tk, v], []⟩) R ⟨hp, g, d, t, os⟩ := by
  have J : InstAt hp x { cls := .ref C, data := .fields fv } C none := ⟨hx, rfl, rfl, trivial⟩
  have SO := F.store_object
  have eo : cd.mro.contains (.type "object") = true := by
    rw [hm, List.contains_cons, T.obj]
    exact Bool.or_true _
  have en : cd.mro.isEmpty = false := by rw [hm]; rfl
  have far : x ≠ hp.objs.size := Nat.ne_of_lt (Heap.lt_size hx)
  have s1 : Looks (model prog w) hp (isInstance (.ref x) (.type "object")) true :=
    J.type.andThen (looks_mroIn X (by unfold mroIn; rw [hcd, Option.bind_some, if_neg (by rw [en]; decide), eo]))
  have hmr : Looks (model prog w) hp (mroOf (.ref C)) cd.mro := (looks_clsIn X hcd).andThen .now
  have hst : Looks (model prog w) hp (storeTaker? none) none := .now
  have hcl : Looks (model prog w) hp (classData C) cd := looks_clsIn X hcd
  refine codeAny_call_builtin SO.slot.plain SO.entry (@check_slot (model prog w) _ _ ⟨hp, g, d, t, os⟩ "object.__setattr__" "object" "__setattr__"
    (.ref x) [.str f tk, v] [] _ SO.kind SO.split s1 (SO.args (.ref x) (.str f tk) v) ?_)
  rw [osa_eq, refuse_eq]
  refine wpAny_bind (wpAny_bind (J.type.at (wpAny_bind (hmr.at ?_))))
  rw [hm, refuseLoop_ref, T.pass]
  refine wpAny_pure (wpAny_bind (J.type.at (wpAny_bind ((looks_findIn X ha).at (wpAny_bind (hst.at ?_))))))
  show wpAny _ _ (storeInOwnDict (.ref x) (.ref C) (.str f tk) f v false) _ _ _
  obtain ⟨n1, n2, n3, n4, n5, hd, n6, n7, n8, n9, n10⟩ := cd
  dsimp only at hh
  subst hh
  unfold storeInOwnDict ownDictForStores
  repeat (first | with_reducible refine HandSPX.store_in_new ?_ ?_ | with_reducible refine wpAny_loadPart_at hx ?_ | with_reducible refine hcl.at ?_ | wp_step)
  · refine ⟨_, #[], _, (Heap.get?_update_ne _ _ _ _ far.symm).trans (Heap.get?_push_at rfl rfl), rfl, ?_, fun _ => rfl⟩
    intro e he
    exact absurd he (by simp)
  · intro h' tk' hn' hs
    have hx2 : (hp.push { cls := .type "dict", data := .dict #[] }).get? x = some { cls := .ref C, data := .fields fv } := Heap.get?_push_of_some _ hx
    refine z h' tk' hp.objs.size ?_ (Nat.le_refl _) far.symm ((hs.2 x far).trans (Heap.get?_update_self _ hx2 rfl)) hn'
    intro b o hb ho
    exact (hs.2 b (Nat.ne_of_lt (Heap.lt_size ho))).trans ((Heap.get?_update_ne _ _ _ _ hb).trans (Heap.get?_push_of_some _ ho))
/-- x.__class__ of an exception -/
theorem clsOf {s : Shared} {K : Frag} {x D : Addr} {ox : Obj} {od : Option Obj} {Q : Option Value → Shared → Prop} (C : L2.ExcC K D)
    (X : K.In s.heap) (I : PySem.W.InstAt s.heap x ox D od) (h : Q (some (.ref D)) { s with toks := s.toks + 1 }) :
    wpAny (model prog w) A (getAttr? (.ref x) "__class__") Q E s := by
  have hf : findObj K D od "__class__" = some (.bind (.builtin "getset_descriptor.__get__") (.builtin "object.__class__")) := by
    have h0 : (clsIn K D).isSome = true := by
      obtain ⟨cd, hc, _⟩ := any_some C.hd
      rw [hc]
      rfl
    cases od with
    | none => exact findObj_dataN h0 C.ha C.hn C.ht
    | some od => exact findObj_data h0 C.ha C.hn C.ht
  obtain ⟨hp, g, d, t, os⟩ := s
  have ty := I.type (M := model prog w)
  have fa := looks_findIn (M := model prog w) X C.hg
  have fb := looks_findIn (M := model prog w) X C.hk
  have fc := looks_find (M := model prog w) X I hf
  have su : Looks (model prog w) hp (isInstance (.ref x) (.type "BaseException")) true := ty.andThen (looks_subIn X C.hs)
  have g1 : (Value.builtin "BaseException.__getattribute__" == Value.builtin "object.__getattribute__") = false := by decide +kernel
  have g2 : (onTheHeap (Value.ref D) && Value.builtin "BaseException.__getattribute__" == Value.builtin "object.__getattribute__") = false := by
    rw [g1]
    rfl
  unfold getAttr? getAttrBy? getAttrBy
  refine wpAny_bind (wpAny_mkText (wpAny_bind (wpAny_attempt (wpAny_holding (wpAny_bind (ty.at (wpAny_bind (fa.at ?_))))))))
  show wpAny _ _ (if (onTheHeap (Value.ref D) && Value.builtin "BaseException.__getattribute__" == Value.builtin "object.__getattribute__") = true then _ else _) _ _ _
  rw [g2, if_neg Bool.false_ne_true]
  unfold getAttrByItsOwn hookBefore
  refine wpAny_bind ?_
  rw [if_pos (show onTheHeap (Value.ref D) = true from rfl)]
  refine fb.at (wpAny_bind (wpAny_attempt (wpAny_holding ?_)))
  unfold callGetattribute
  rw [show (false && onTheHeap (Value.builtin "BaseException.__getattribute__")) = false from rfl, if_neg Bool.false_ne_true]
  unfold boundAndCalled
  rw [F.excAttr_ValueError.ga.bind (.ref x)]
  refine wpAny_bind (wpAny_pure (?_ : wpAny _ _ (call (.builtin "BaseException.__getattribute__") [.ref x, .str "__class__" t]) _ _ _))
  refine wpAny_call (codeAny_call_builtin F.excAttr_ValueError.ga.plain F.entry_bexc_ga ?_)
  refine @check_slot (model prog w) _ _ ⟨hp, g, d, t + 1, os⟩ "BaseException.__getattribute__" "BaseException" "__getattribute__" (.ref x) [.str "__class__" t] [] _
    (by decide +kernel) (by decide +kernel) su (F.args_bexc_ga (.ref x) (.str "__class__" t)) ?_
  unfold Builtin.«object.__getattribute__»
  refine wpAny_bind (wpAny_of_eq (a := ((Value.ref x : Value), [Value.str "__class__" t])) (by first | rfl | (simp only [slotArgs]; rfl)) ?_)
  refine wpAny_bind (wpAny_pure (wpAny_bind (ty.at (wpAny_bind (fc.at ?_)))))
  show wpAny _ _ (holding [Value.builtin "object.__class__"] (call (.builtin "getset_descriptor.__get__") [.builtin "object.__class__", .ref x, .ref D]) >>= ret) _ _ _
  refine wpAny_bind (wpAny_holding (wpAny_call (class_get (s := ⟨hp, g, d, t + 1, os⟩) (ox := ox) (od := od) X I C.hm ?_)))
  refine wpAny_pure (?_ : wpAny _ _ (handedOut (.ref D)) _ _ _)
  rw [handedOut_of (v := .ref D) rfl]
  first
    | exact wpAny_pure (wpAny_pure h)
    | exact wpAny_pure h
    | exact wpAny_pure (wpAny_bind (wpAny_pure (wpAny_pure h)))
theorem kitE {K : Frag} {x D : Addr} {od : Option Obj} (C : L2.ExcC K D) (fv : Array Value) (dx : Option Addr) :
    KitX K (.ref x) (.ref D) (fun h => PySem.W.InstAt h x { cls := .ref D, dict := dx, data := .fields fv } D od) where
  ty := fun _ _ _ I => I.type
  it := fun _ _ X _ => by
    obtain ⟨cd, hc, _⟩ := any_some C.hd
    unfold clsIn at hc
    split at hc
    · rename_i ho
      intro A' Q' E' s' k q
      unfold isType loadHead
      exact wpAny_bind (wpAny_loadPart (k _ _ (X _ _ ho)) (wpAny_pure q))
    · cases hc
  ne := fun h tp dd its n sl X htp => by
    obtain ⟨cd, hc, _⟩ := any_some C.hd
    refine Bool.eq_false_iff.mpr fun q => ?_
    obtain rfl : D = tp := Value.ref.inj (beq_iff_eq.mp q)
    unfold clsIn at hc
    split at hc
    · rename_i ho
      cases (X _ _ ho).symm.trans htp
    · cases hc
  ca := fun X I k => clsOf C X I k
end
end Ev

set_option maxHeartbeats 4000000
namespace Ev
open PySem PySem.Spec PyProof.Rows L2
abbrev St := L2.St
/-- what is told of an own exception class -/
structure XC (K : PySem.W.Frag) (C : Addr) : Prop where
  cls : ∃ nm q N bs bm sn sub ab col dd k0 k1 k2 k3 k5 B newId initId bmB,
    K.lookup C = some (excClassObj nm q C N bs bm true sn sub ab col dd k0 k1 k2 k3 k5 newId) ∧ Tl bm B ∧ ExcBaseFacts B newId initId bmB
  sa : PySem.W.findIn K (.ref C) "__setattr__" = some (some (.builtin "object.__setattr__"))
  e : ExcC K C
  kp : PySem.W.keepIn K (.ref C) = true
/-- a finished exception of the class C at a, its dict at d with the attribute f = v -/
def XAt (H : Hp) (C a : Addr) (f : Str) (v : V) : Prop := ∃ d, H a = some (exo a C (some d)) ∧ H d = some (exd d [(f, v)])
section
variable {X : Cx} {pins : List (Addr × Obj)} {σ : St} {H : Hp} {s : Shared} {a C dx : Addr} {f : Str} {y : V} {u : Value}
  {Q : Unit → Shared → Prop} {E : Value → Shared → Prop}
theorem putF0 (T : XC X.K C) (I : Inv X pins σ H s) (e : H a = some (exo a C none)) (no : PySem.W.findIn X.K (.ref C) f = some none) (r : RelV y u)
    (z : ∀ dx s', H dx = none → dx ≠ a → Inv X pins σ (upd (upd H dx (exd dx [(f, y)])) a (exo a C (some dx))) s' → Q () s') :
    wpAny (model X.prog X.w) X.A (setAttr (.ref a) f u) Q E s := by
  obtain ⟨nm, q, N, bs, bm, sn, sub, ab, col, dd, k0, k1, k2, k3, k5, B, newId, initId, bmB, hC, tl, _⟩ := T.cls
  have hcl : PySem.W.clsIn X.K C = some { name := nm, bases := bs, mro := .ref C :: bm, ns := N, qualname := q, hasDict := true, slotNames := sn, subclasses := sub, abstract := ab, collection := col, hasDel := false } := by
    unfold PySem.W.clsIn
    rw [hC] <;> rfl
  obtain ⟨t1, ho⟩ := exo_at I.hok e
  obtain ⟨hp, g, d, t, os⟩ := s
  refine PySem.W.set_plain I.kIn (ox := { cls := .ref C, dict := none, data := .fields #[.ref t1, .none, .none, .none, .bool false, .none] }) (od := none) ⟨ho, rfl, rfl, trivial⟩ T.sa ?_
  refine putNew I.kIn ho hcl rfl tl rfl no fun h' tk' dx kp big far hx hn => ?_
  have fresh : H dx = none := I.hok.fresh big
  have neD : ∀ b o, hp.get? b = some o → b ≠ dx := fun b o q => Nat.ne_of_lt (Nat.lt_of_lt_of_le (Heap.lt_size q) big)
  have neA : ∀ b, H b = none → b ≠ a := fun b n z => by
    rw [z, e] at n
    cases n
  have other : ∀ b o, o ≠ exo a C none → H b = some o → upd (upd H dx (exd dx [(f, y)])) a (exo a C (some dx)) b = some o := fun b o ne q => by
    rw [upd_ne (at_ne e q (fun z => ne z.symm)), upd_ne (ne_of_none q fresh)]
    exact q
  have U : Un X.fs [] H (upd (upd H dx (exd dx [(f, y)])) a (exo a C (some dx))) hp h' := by
    refine ⟨fun b o q n _ _ => kp b o (neA b n) q, fun b o q n _ _ => ⟨o.slots, kp b o (neA b n) q⟩, fun b o q n _ => ?_, fun b o q _ => ?_, fun b xs q => other b _ (fun z => exo_tup z.symm) q,
      fun b o v q => other b _ (fun z => exo_frz z.symm) q, fun b ps q => ⟨#[], ?_⟩⟩
    · rw [upd_ne (neA b n), upd_ne (neD b o q)]
      exact n
    · by_cases hb : b = a
      · rw [hb]
        exact ⟨_, hx⟩
      · exact ⟨o, kp b o hb q⟩
    · rw [other b _ (fun z => exo_tbl z.symm) q]
      simp
  refine z dx _ fresh far (I.un (t' := tk') U fun b o q => ?_)
  by_cases hb : b = a
  · subst hb
    rw [upd_same] at q
    cases q
    exact exo_ok hx
  · rw [upd_ne hb] at q
    by_cases hd : b = dx
    · subst hd
      rw [upd_same] at q
      cases q
      exact exd_ok hn (relO_put (fs := []) r fun g => True.intro)
    · rw [upd_ne hd] at q
      refine (I.hok b o q).stay (fun c v hc q2 => kp c v ?_ q2) (fun c hc => other c _ (fun z => exo_own z.symm) hc) fun c xs hc => other c _ (fun z => exo_tup z.symm) hc
      rcases hc with hc | hc
      · rw [hc]
        exact hb
      · exact at_ne e hc exo_own
end
/-- self.f = e, the first attribute of an exception that is being made -/
def tPut (K : PySem.W.Frag) (f : Str) (to te : TE) : TS := fun D σ H => te σ H fun y H1 => to σ H1 fun x H2 => ∃ a C : Addr, x = .ref a ∧ XC K C ∧ PySem.W.findIn K (.ref C) f = some none ∧ H2 a = some (exo a C none) ∧
  ∀ dx, H2 dx = none → dx ≠ a → D.nx σ (upd (upd H2 dx (exd dx [(f, y)])) a (exo a C (some dx)))
theorem ps_put {X : Cx} {o e : Expr} {to te : TE} {f : Str} {p' pos : Pos} (ho : PE X o to) (he : PE X e te) (hs : swapsWith e (some (.Attribute o f p')) pos.line X.env = pure false := by rfl) :
    PS X (.Assign [.Attribute o f p'] e pos) (tPut X.K f to te) := by
  refine ⟨fun pins s σ H D I h => ?_⟩
  refine plainObj_wpAny_Assign_Attribute (thn (he.run pins s σ H _ I h) fun v s1 h1 => ?_) hs
  obtain ⟨y, H1, I1, r1, q1⟩ := h1
  refine thn (ho.run pins s1 σ H1 _ I1 q1) fun u s2 h2 => ?_
  obtain ⟨x, H2, I2, r2, a, C, rfl, T, no, ea, q⟩ := h2
  obtain rfl : u = Value.ref a := r2
  exact putF0 T I2 ea no r1 fun dx s' n ne J => ⟨σ, _, J, q dx n ne⟩
/-- the promise of __init__(self, f): self.f = f -/
def spInit (K : PySem.W.Frag) (C : Addr) (f : Str) : Sp := fun vs H Q _ => ∃ (a : Addr) (v : V), vs = [.ref a, v] ∧ XC K C ∧ PySem.W.findIn K (.ref C) f = some none ∧ H a = some (exo a C none) ∧
  ∀ dx, H dx = none → dx ≠ a → Q .non (upd (upd H dx (exd dx [(f, v)])) a (exo a C (some dx)))
section
variable {P : Program} {w : World} {K : PySem.W.Frag} {mg : Str → Option Value} {base : Heap}
theorem ok_init {qual f : Str} {st : Stmt} {fa C : Addr} {fd : FuncData} {p1 p2 p3 p4 : Pos} (F : Fun K "__init__" qual st fa fd) (S : FnScope ["self", f] ["self", f] (defScope st))
    (eb : defBody st = [.Assign [.Attribute (.Name "self" p1) f p2] (.Name f p3) p4]) (vf : ∀ (cdv : Value) (a b : Addr), Vis (envOfC qual (defScope st) a b cdv).scope f) (vs' : ∀ (cdv : Value) (a b : Addr), Vis (envOfC qual (defScope st) a b cdv).scope "self")
    (d1 : (f == ("__debug__" : Str)) = false) (d2 : (f == ("__classdict__" : Str)) = false) :
    FnOk P w K mg base CX0 1 fa fd ["self", f] (spInit K C f) := by
  refine F.ok S (fun vs H Q E h => ?_) (fun cdv A outer s H vs Q E hr h => ?_)
  · obtain ⟨a, v, rfl, _⟩ := h
    rfl
  · obtain ⟨a, v, rfl, T, no, ea, k⟩ := h
    rw [eb]
    refine ⟨_, pss_one (ps_put (pe_var (i := 0) (x := "self") rfl (vs' _ _ _)) (pe_var (i := 1) (x := f) rfl (vf _ _ _) d1 d2)), ?_⟩
    exact ⟨v, rfl, .ref a, rfl, a, C, rfl, T, no, ea, k⟩
end
section
variable {X : Cx} {CX : CXT} {k n : Nat} {fI C : Addr} {fd : FuncData} {ps ks : List Str} {sp : Sp} {x : Str} {p pos : Pos} {e : Expr} {es : List Expr} {kws : List Keyword} {t tk : TA}
/-- a class whose own __init__ is the def at fI -/
structure XMk (K : PySem.W.Frag) (C fI : Addr) : Prop where
  x : XC K C
  ini : PySem.W.findIn K (.ref C) "__init__" = some (some (.ref fI))
  fn : PySem.W.typeIn K (.ref fI) = some (.type "function")
/-- C(.., k = ..) for an exception class: the bare exception, then its __init__ -/
def tMkX (C : Addr) (n m : Nat) (sp : Sp) (t tk : TA) : TE := fun σ H Q => t σ H fun vs H1 => tk σ H1 fun zs H2 => vs.length = n ∧ zs.length = m ∧ n ≤ 100 ∧
  ∀ a, H2 a = none → sp (.ref a :: (vs ++ zs)) (upd H2 a (exo a C none)) (fun v H3 => v = .non ∧ Q (.ref a) H3) E0
theorem run_mkx {pins : List (Addr × Obj)} {σ : St} {H : Hp} {s : Shared} {Q : VK} {us ws : List Value} {vs zs : List V} (M : XMk X.K C fI) (F : FnOk X.prog X.w X.K X.mg X.base CX k fI fd ps sp) (hr : Room (k + 1) X.A)
    (hb : KBn X.K fd ps (n + 1) ks (fun us ws => us ++ ws) (fun us ws => us ++ ws)) (hx : Passes CX X E0) (I : Inv X pins σ H s) (r : Vals vs us) (rz : Vals zs ws) (l1 : vs.length = n) (l2 : zs.length = ks.length) (l3 : n ≤ 100)
    (h : ∀ a, H a = none → sp (.ref a :: (vs ++ zs)) (upd H a (exo a C none)) (fun v H3 => v = .non ∧ Q (.ref a) H3) E0) :
    wpAny (model X.prog X.w) X.A (call (.ref C) us (ks.zip ws)) (EP X pins σ Q) X.xe s := by
  obtain ⟨nm, q, N, bs, bm, sn, sub, ab, col, dd, k0, k1, k2, k3, k5, B, newId, initId, bmB, hC, tl, eb⟩ := M.x.cls
  obtain ⟨hp, g, dr, tok, os⟩ := s
  have big : hp.objs.size ≤ hp.objs.size + 1 := Nat.le_succ _
  have q1 := h (hp.objs.size + 1) (I.hok.fresh big)
  have kk : ∀ b o, hp.get? b = some o → ((hp.push (PySem.W.kdv_tup us)).push (PySem.HandSPX.excO C hp.objs.size)).get? b = some o := fun b o e => Heap.get?_push_of_some _ (Heap.get?_push_of_some _ e)
  have hg : ((hp.push (PySem.W.kdv_tup us)).push (PySem.HandSPX.excO C hp.objs.size)).get? (hp.objs.size + 1) = some (PySem.HandSPX.excO C hp.objs.size) := by heap_get
  have I2 : Inv X pins σ (upd H (hp.objs.size + 1) (exo (hp.objs.size + 1) C none)) ⟨(hp.push (PySem.W.kdv_tup us)).push (PySem.HandSPX.excO C hp.objs.size), g, dr, tok, os⟩ :=
    I.laid (t' := tok) kk big (exo_ok hg)
  have r2 : Vals (V.ref (hp.objs.size + 1) :: (vs ++ zs)) (Value.ref (hp.objs.size + 1) :: (us ++ ws)) := .cons rfl (r.append rz)
  have e1 : (Value.ref (hp.objs.size + 1) :: us).length = n + 1 := congrArg Nat.succ (r.length.symm.trans l1)
  have hus : us.length ≤ sizeLine := by
    rw [← Paired.length r, l1, sizeLine_eq]
    omega
  refine wpAny_call (callOwn eb tl (I.kIn _ _ hC) hus (PySem.W.looks_findIn I.kIn M.ini) (fun self => PySem.W.bind_fn I.kIn self M.fn)
    (codeAny_mono (F.run _ X.stack _ _ ⟨Value.ref (hp.objs.size + 1) :: us, ks.zip ws⟩ (Value.ref (hp.objs.size + 1) :: (us ++ ws)) _ _ E0 (hr.make C us (ks.zip ws)) (I2.env0.make C us (ks.zip ws))
      (hb.to _ (Value.ref (hp.objs.size + 1) :: us) ws I2.kIn e1 (rz.length.symm.trans l2)) r2 q1) fun r s' hq' => ?_))
  cases r with
  | error e => exact hx pins σ _ _ e s' I2 hq'
  | ok fl =>
    cases fl with
    | ret u =>
      obtain ⟨v, H', I3, rv, rfl, q3⟩ := I2.after hq'
      exact ⟨rv, .ref (hp.objs.size + 1), H', I3, rfl, q3⟩
    | next => exact False.elim hq'
    | brk => exact False.elim hq'
    | cont => exact False.elim hq'
/-- C(e, ..) -/
theorem pe_mkx (M : XMk X.K C fI) (F : FnOk X.prog X.w X.K X.mg X.base CX k fI fd ps sp) (hr : Room (k + 1) X.A) (hg : Gl X x) (hm : X.mg x = some (.ref C))
    (hb : KBn X.K fd ps (n + 1) [] (fun us ws => us ++ ws) (fun us ws => us ++ ws)) (hx : Passes CX X E0) (ha : PA X (e :: es) t)
    (hdb : (x == ("__debug__" : Str)) = false := by decide) (he : starEach (e :: es) X.env = (false, eval e X.env) :: starEach es X.env := by rfl) (hpl : (backTo pos (starEach es X.env)).any (·.1) = false := by rfl) :
    PE X (.Call (.Name x p) (e :: es) [] pos) (tMkX C n 0 sp t tNil) := by
  refine ⟨fun pins s σ H Q I h => ?_⟩
  refine wpAny_Call_Name_kw (ld_glob I hg hm ?_ hdb)
  refine PySem.W.callWith_K (h₀ := X.base) I.ok.mod.kin M.x.kp (thn (ha.run pos pins s σ H _ I h) fun us s1 h1 => ?_) he hpl
  obtain ⟨vs, H1, I1, r, l1, l2, l3, q⟩ := h1
  exact ⟨I1.kIn, run_mkx (ks := []) (ws := []) (zs := []) M F hr hb hx I1 r .nil l1 l2 l3 q⟩
/-- C(k = v, ..) -/
theorem pe_mkxK (M : XMk X.K C fI) (F : FnOk X.prog X.w X.K X.mg X.base CX k fI fd ps sp) (hr : Room (k + 1) X.A) (hg : Gl X x) (hm : X.mg x = some (.ref C))
    (hb : KBn X.K fd ps 1 ks (fun us ws => us ++ ws) (fun us ws => us ++ ws)) (hx : Passes CX X E0) (hkw : PK X kws tk)
    (hall : (backToKw pos (keywordEach kws X.env)).all (·.1.isSome) = true := by rfl) (hks : (backToKw pos (keywordEach kws X.env)).filterMap (·.1) = ks := by rfl)
    (hdb : (x == ("__debug__" : Str)) = false := by decide)
    (hpl : ((backTo pos (starEach [] X.env)).any (·.1) || (backToKw pos (keywordEach kws X.env)).any (·.1.isNone)) = false := by rfl) :
    PE X (.Call (.Name x p) [] kws pos) (tMkX C 0 ks.length sp tNil tk) := by
  refine ⟨fun pins s σ H Q I h => ?_⟩
  refine wpAny_Call_Name_kw (ld_glob I hg hm ?_ hdb)
  refine PySem.W.callWith_KW0 (h₀ := X.base) I.ok.mod.kin M.x.kp hall ?_ hpl
  refine thn (hkw.run pos pins s σ H _ I h) fun ws s2 h2 => ?_
  obtain ⟨zs, H2, I2, rz, l1, l2, l3, q2⟩ := h2
  refine ⟨I2.kIn, ?_⟩
  rw [hks]
  exact run_mkx (us := []) (vs := []) M F hr hb hx I2 .nil rz l1 l2 l3 q2
end
end Ev

set_option maxHeartbeats 4000000
namespace Ev
open PySem PySem.Spec PyProof.Rows L2
section
variable {X : Cx}
/-- e.f of a finished exception -/
def tXg (K : PySem.W.Frag) (te : TE) (f : Str) : TE := fun σ H Q => te σ H fun x H1 => ∃ (a C d : Addr) (fs : List (Str × V)) (v : V), x = .ref a ∧ XC K C ∧ PySem.W.findIn K (.ref C) f = some none ∧
  H1 a = some (exo a C (some d)) ∧ H1 d = some (exd d fs) ∧ fs.lookup f = some v ∧ Q v H1
theorem exAt {pins : List (Addr × Obj)} {σ : St} {H : Hp} {s : Shared} {a C d : Addr} {fs : List (Str × V)} (I : Inv X pins σ H s) (ea : H a = some (exo a C (some d))) (ed : H d = some (exd d fs)) :
    ∃ (t1 : Addr) (od : Obj) (mA : Str → Option Value), PySem.W.InstAt s.heap a { cls := .ref C, dict := some d, data := .fields #[.ref t1, .none, .none, .none, .bool false, .none] } C (some od) ∧
      (∀ f, RelO (fs.lookup f) (mA f)) ∧ ∀ n, PySem.W.lookIn n od = some (mA n) := by
  obtain ⟨t1, ha⟩ := exo_at I.hok ea
  obtain ⟨mA, hns, hr⟩ := exd_at I.hok ed
  obtain ⟨od, ho, hl⟩ := lookIn_ns hns
  exact ⟨t1, od, mA, ⟨ha, rfl, rfl, ho⟩, hr, hl⟩
theorem pe_xg {e : Expr} {te : TE} {pos : Pos} {n : Str} (he : PE X e te) (hb : attributeBase e n X.env (eval e X.env) = eval e X.env := by rfl) : PE X (.Attribute e n pos) (tXg X.K te n) := by
  refine ⟨fun pins s σ H Q I h => ?_⟩
  refine attr_of hb (thn (he.run pins s σ H _ I h) fun u s1 hh => ?_)
  obtain ⟨x, H1, I1, rx, a, C, d, fs, v, rfl, T, no, ea, ed, l, q⟩ := hh
  obtain rfl : u = Value.ref a := rx
  obtain ⟨t1, od, mA, J, hr, hl⟩ := exAt I1 ea ed
  obtain ⟨u, hu, ru⟩ := RelO.some_of (v := v) (o := mA n) (by rw [← l]; exact hr n)
  exact HandSPX.exc_get I1.kIn J T.e.hg T.e.hk T.e.hs (PySem.W.findObj_own T.e.hd no rfl (by rw [hl, hu])) (handed_of ru) ⟨v, H1, I1.tok _, ru, q⟩
/-- isinstance(x, c), x an exception of an own class -/
def rIsX (K : PySem.W.Frag) : List V → Hp → VK → Prop := fun xs H Q => ∃ (a C : Addr) (c : V) (u : Value) (b : Bool), xs = [.ref a, c] ∧ ClsV c u ∧ XC K C ∧
  (H a = some (exo a C none) ∨ ∃ d fs, H a = some (exo a C (some d)) ∧ H d = some (exd d fs)) ∧ PySem.W.kitOne K (.ref C) u = some b ∧ Q (.bl b) H
theorem call_isX : CallR X (.builtin "isinstance") (rIsX X.K) := by
  intro pins s σ H xs us Q I r h
  obtain ⟨a, C, c, u, b, rfl, k, T, hc, e, q⟩ := h
  obtain ⟨u1, u2, rfl, r1, r2⟩ := vals2 r
  obtain rfl : u1 = Value.ref a := r1
  have e2 := k.eq r2
  subst e2
  rcases hc with ea | ⟨d, fs, ea, ed⟩
  · obtain ⟨t1, ha⟩ := exo_at I.hok ea
    exact PySem.W.kia_one (kitE (od := none) T.e _ none) I.kIn ⟨ha, rfl, rfl, trivial⟩ e (fun z => nomatch z) fun tk => ⟨.bl b, H, I.tok tk, rfl, q⟩
  · obtain ⟨t1, od, mA, J, _, _⟩ := exAt I ea ed
    exact PySem.W.kia_one (kitE (od := some od) T.e _ (some d)) I.kIn J e (fun z => nomatch z) fun tk => ⟨.bl b, H, I.tok tk, rfl, q⟩
/-- C() for an exception class without an own __init__ -/
def tMk0 (C : Addr) : TE := fun _ H Q => ∀ a, H a = none → Q (.ref a) (upd H a (exo a C none))
theorem pe_mk0 {x : Str} {C : Addr} {p pos : Pos} {bmB : List Value} {B newId initId : String} (F : ExcBaseFacts B newId initId bmB) (q : PySem.W.excIn X.K C bmB newId = true) (hm : X.mg x = some (.ref C)) (kC : PySem.W.keepIn X.K (.ref C) = true) (hg : Gl X x)
    (hdb : (x == ("__debug__" : Str)) = false := by decide) : PE X (.Call (.Name x p) [] [] pos) (tMk0 C) := by
  refine ⟨fun pins s σ H Q I h => ?_⟩
  refine wpAny_Call_Name_kw (ld_glob I hg hm ?_ hdb)
  refine PySem.W.callWith_K0 I.kIn kC ?_
  show wpAny _ _ (call (.ref C) []) _ _ _
  obtain ⟨bm, N, nm, qn, bs, hdct, sn, sub, ab, col, dd, k0, k1, k2, k3, k5, mN, hC, hN, hni, T⟩ := exc_obj I.kIn q
  obtain ⟨hp, g, d, tk, os⟩ := s
  refine wpAny_call_exc_subT F T hC hN hni (fun h' e hm2 => ?_) (by show 0 ≤ sizeLine; exact Nat.zero_le _)
  obtain ⟨t1, he, _, _⟩ := hm2.there
  have hn := I.hok.gone hm2.new
  exact ⟨.ref e, _, I.laidN (t' := tk) hm2.keeps hm2.new hn (exo_ok he), rfl, h e hn⟩
end
end Ev

set_option maxHeartbeats 4000000
/-! defs that may ask for repr of data: the stack bears no repr under way, and the table of modules stands in the base -/
namespace Gd
open PySem PySem.Spec PyProof.Rows L2
abbrev St := L2.St
/-- the table of modules is an object of the base -/
def HasMods (base : Heap) : Prop := ∃ o, base.get? sysModules = some o
/-- as FnOk, where no repr is under way -/
structure FnG (P : Program) (w : World) (K : PySem.W.Frag) (mg : Str → Option Value) (base : Heap) (CX : CXT) (k : Nat) (f : Addr) (fd : FuncData) (ps : List Str) (sp : Sp) : Prop where
  len : ∀ vs H Q E, sp vs H Q E → vs.length = ps.length
  run : ∀ (A : Around) (outer : List Env) (s : Shared) (H : Hp) (args : Args) (us : List Value) (vs : List V) (Q : VK) (E : XK),
    A.guards = some [] → Room k A → Env0 P w K mg base A outer s H → BindsTo s fd args (ps.zip us) → Vals vs us → sp vs H Q E →
    codeAny (model P w) A (.call (.ref f) args) (CR CX outer P w H s Q E) s
theorem FnG.of {P : Program} {w : World} {K : PySem.W.Frag} {mg : Str → Option Value} {base : Heap} {CX : CXT} {k : Nat} {f : Addr} {fd : FuncData} {ps : List Str} {sp : Sp} (F : FnOk P w K mg base CX k f fd ps sp) : FnG P w K mg base CX k f fd ps sp :=
  ⟨F.len, fun A outer s H args us vs Q E _ => F.run A outer s H args us vs Q E⟩
section
variable {P : Program} {w : World} {K : PySem.W.Frag} {mg : Str → Option Value} {base : Heap} {CX : CXT} {k : Nat}
/-- the rule for a def, with what stands around it -/
theorem fnG {f : Addr} {name qual : Str} {params : Arguments} {body : List Stmt} {scope : Scope} {dV kV doc pm cdv ct oc : Value} {an od : Option Addr} {osl : Array (Option Value)} {N ps : List Str} {sp : Sp}
    (lk : K.lookup f = some ⟨oc, od, .func (PySem.W.fnOf name qual params body scope dV kV doc pm an cdv ct), osl⟩) (hcd : PySem.W.codeIn K cdv qual = true) (S : FnScope N ps scope) (len : ∀ vs H Q E, sp vs H Q E → vs.length = ps.length)
    (bd : ∀ (A : Around) (outer : List Env) (s : Shared) (H : Hp) (vs : List V) (Q : VK) (E : XK), (A.deeper (envOfC qual scope s.heap.objs.size f cdv)).guards = some [] → Room k (A.deeper (envOfC qual scope s.heap.objs.size f cdv)) → sp vs H Q E →
      ∃ t, PSs (cxOf CX P w K mg base N qual scope f cdv A outer s H E) body t ∧ t { nx := fun _ H' => Q .non H', rt := Q } (start N vs) H) :
    FnG P w K mg base CX (k + 1) f (PySem.W.fnOf name qual params body scope dV kV doc pm an cdv ct) ps sp where
  len := len
  run := by
    intro A outer s H args us vs Q E gd room env binds rel want
    have old : ∀ b o, base.get? b = some o → s.heap.get? b = some o := fun b o z => (env.bs b o z).1
    have inK := env.mod.kin.keeps old
    have slots : ∀ y ∈ ps.zip us, scope.names.lookup y.1 = some .local ∨ (scope.names.lookup y.1 = some .cell ∧ ((cellsFrom (s.heap.objs.size + 1) scope.names []).lookup y.1).isSome = true) := by
      rintro ⟨n, v⟩ hy
      exact (S.par n (List.of_mem_zip hy).1).elim .inl fun z => .inr ⟨z, PySem.W.cellsFrom_some _ _ _ (.inl z)⟩
    obtain ⟨t, ht, ends⟩ := bd A outer s H vs Q E gd (room.deeper _) want
    refine codeAny_call_function room.depth (inK _ _ lk) rfl S.co S.gen rfl (PySem.W.codeRec_of inK hcd) (binds _ _ _ _ ?_)
    refine wpAny_newFunctionEnv_cells S.kind slots fun e0 he s1 x => ?_
    subst he
    have J := inv_start (CX := CX) (E := E) S room.hd env (len _ _ _ _ want) rel x
    refine ⟨(env.mod.nolimit.keeps old).keeps x.toInCall.keep, codeAny_func (wpAny_mono (ht.run [] s1 _ H _ J ends) (fun fl s' got => ?_) fun _ _ got => got)⟩
    cases fl with
    | ret u =>
      obtain ⟨v, _, H', J', rv, q⟩ := got
      exact ⟨v, H', J'.os, J'.bare, J'.base, J'.hok, rv, q⟩
    | next =>
      obtain ⟨_, H', J', q⟩ := got
      exact ⟨V.non, H', J'.os, J'.bare, J'.base, J'.hok, rfl, q⟩
    | brk =>
      obtain ⟨_, _, _, q⟩ := got
      exact q.elim
    | cont =>
      obtain ⟨_, _, _, q⟩ := got
      exact q.elim
theorem _root_.L2.Fun.okG {x qual : Str} {st : Stmt} {f : Addr} {fd : FuncData} {N ps : List Str} {sp : Sp} (F : Fun K x qual st f fd) (S : FnScope N ps (defScope st)) (len : ∀ vs H Q E, sp vs H Q E → vs.length = ps.length)
    (bd : ∀ (cdv : Value) (A : Around) (outer : List Env) (s : Shared) (H : Hp) (vs : List V) (Q : VK) (E : XK), (A.deeper (envOfC qual (defScope st) s.heap.objs.size f cdv)).guards = some [] → Room k (A.deeper (envOfC qual (defScope st) s.heap.objs.size f cdv)) → sp vs H Q E →
      ∃ t, PSs (cxOf CX P w K mg base N qual (defScope st) f cdv A outer s H E) (defBody st) t ∧ t { nx := fun _ H' => Q .non H', rt := Q } (start N vs) H) : FnG P w K mg base CX (k + 1) f fd ps sp := by
  obtain ⟨oc, od, kV, doc, pm, an, cdv, ct, osl, rfl, lk, hcd⟩ := F.ex
  exact fnG lk hcd S len fun A outer s H vs Q E => bd cdv A outer s H vs Q E
theorem _root_.L2.Fun.okG0 {x qual : Str} {st : Stmt} {f : Addr} {fd : FuncData} {N ps : List Str} {sp : Sp} (F : Fun K x qual st f fd) (S : FnScope N ps (defScope st)) (len : ∀ vs H Q E, sp vs H Q E → vs.length = ps.length)
    (bd : ∀ (cdv : Value) (A : Around) (outer : List Env) (s : Shared) (H : Hp) (vs : List V) (Q : VK) (E : XK), (A.deeper (envOfC qual (defScope st) s.heap.objs.size f cdv)).guards = some [] → Room k (A.deeper (envOfC qual (defScope st) s.heap.objs.size f cdv)) → sp vs H Q E →
      ∃ t, PSs (cxOf CX0 P w K mg base N qual (defScope st) f cdv A outer s H E).nox (defBody st) t ∧ t { nx := fun _ H' => Q .non H', rt := Q } (start N vs) H) : FnG P w K mg base CX0 (k + 1) f fd ps sp :=
  F.okG S len fun cdv A outer s H vs Q E gd hr z => by
    obtain ⟨t, ht, q⟩ := bd cdv A outer s H vs Q E gd hr z
    exact ⟨t, ht.nox, q⟩
end
section
variable {X : Cx} {CX : CXT} {k : Nat} {f : Addr} {fd : FuncData} {ps : List Str} {sp : Sp} {dvs : List V} {ds : List Value} {E : XK} {x : Str} {p pos : Pos} {e : Expr} {es : List Expr} {t : TA}
theorem pe_callG (F : FnG X.prog X.w X.K X.mg X.base CX k f fd ps sp) (gd : X.A.guards = some []) (hr : Room k X.A) (hg : Gl X x) (hm : X.mg x = some (.ref f)) (hk : PySem.W.keepIn X.K (.ref f) = true) (hb : Binds X.K fd ps ds) (hd : Vals dvs ds) (hx : Passes CX X E)
    (ha : PA X (e :: es) t) (hdb : (x == ("__debug__" : Str)) = false := by decide) (he : starEach (e :: es) X.env = (false, eval e X.env) :: starEach es X.env := by rfl) (hpl : (backTo pos (starEach es X.env)).any (·.1) = false := by rfl) :
    PE X (.Call (.Name x p) (e :: es) [] pos) (tCall sp dvs E t) := by
  refine ⟨fun pins s σ H Q I h => wpAny_Call_Name_kw (ld_glob I hg hm ?_ hdb)⟩
  refine PySem.W.callWith_K (h₀ := X.base) I.ok.mod.kin hk (thn (ha.run pos pins s σ H _ I h) fun us s1 got => ?_) he hpl
  obtain ⟨vs, H1, I1, r, q⟩ := got
  have all : Vals (vs ++ dvs) (us ++ ds) := r.append hd
  have many : (us ++ ds).length = ps.length := all.length.symm.trans (F.len _ _ _ _ q)
  refine ⟨I1.kIn, wpAny_call (codeAny_mono (F.run X.A X.stack s1 H1 ⟨us, []⟩ _ _ Q E gd hr I1.env0 (hb s1 us I1.kIn many) all q) fun r s' got => ?_)⟩
  cases r with
  | error e => exact hx pins σ H1 s1 e s' I1 got
  | ok fl =>
    cases fl with
    | ret u => exact I1.after got
    | next => exact got.elim
    | brk => exact got.elim
    | cont => exact got.elim
end
/-! ### data in the abstract heap -/
mutual
/-- v is the value of the data d, over what is tracked -/
inductive RD (H : Hp) : V → PyData → Prop
  | non : RD H .non .none
  | bl (b : Bool) : RD H (.bl b) (.bool b)
  | int (i : Int) : RD H (.int i) (.int i)
  | str (x : Str) : RD H (.str x) (.str x)
  | lst {a : Addr} {xs : List V} {ds : List PyData} : Rd H a (.lst xs) → RDs H xs ds → RD H (.ref a) (.list ds)
  | tup {a : Addr} {xs : List V} {ds : List PyData} : H a = some (.tup xs) → RDs H xs ds → RD H (.ref a) (.tuple ds)
  | dic {a : Addr} {kvs : List (Key × V)} {ps : List (PyData × PyData)} : H a = some (.dK kvs) → RDs H (kvs.map fun p => kV p.1) (ps.map (·.1)) → RDs H (kvs.map (·.2)) (ps.map (·.2)) → RD H (.ref a) (.dict ps)
inductive RDs (H : Hp) : List V → List PyData → Prop
  | nil : RDs H [] []
  | cons {v : V} {vs : List V} {d : PyData} {ds : List PyData} : RD H v d → RDs H vs ds → RDs H (v :: vs) (d :: ds)
end
mutual
theorem RD.mono {H H' : Hp} (k : ∀ b o, H b = some o → H' b = some o) : ∀ {v : V} {d : PyData}, RD H v d → RD H' v d
  | _, _, .non => .non
  | _, _, .bl b => .bl b
  | _, _, .int i => .int i
  | _, _, .str x => .str x
  | _, _, .lst h r => .lst (h.elim (fun z => .inl (k _ _ z)) fun ⟨o, z⟩ => .inr ⟨o, k _ _ z⟩) (RDs.mono k r)
  | _, _, .tup h r => .tup (k _ _ h) (RDs.mono k r)
  | _, _, .dic h r q => .dic (k _ _ h) (RDs.mono k r) (RDs.mono k q)
theorem RDs.mono {H H' : Hp} (k : ∀ b o, H b = some o → H' b = some o) : ∀ {vs : List V} {ds : List PyData}, RDs H vs ds → RDs H' vs ds
  | _, _, .nil => .nil
  | _, _, .cons h r => .cons (RD.mono k h) (RDs.mono k r)
end
theorem pairsV {P : Program} {w : World} : ∀ {kvs : List (Key × V)} {vs : List (Key × Value)} {es : List DictEntry}, KV kvs vs → Pairs (mixKind P w) es vs →
    Vals (kvs.map fun p => kV p.1) (es.map (·.key)) ∧ Vals (kvs.map (·.2)) (es.map (·.val))
  | _, _, _, .nil, .nil => ⟨.nil, .nil⟩
  | p :: _, q :: _, ent :: _, .cons h t, .cons k ev more => by
    obtain ⟨r1, r2⟩ := pairsV t more
    obtain ⟨e1, e2⟩ := h
    have b : RelV p.2 ent.val := by
      rw [ev]
      exact e2
    have a : RelV (kV p.1) ent.key := by
      rw [e1]
      rcases keyIs_shape (show keyIs q.1 ent.key = true from k) with ⟨i, u, x1, x2⟩ | ⟨y, u, x1, x2⟩
      · rw [x1, x2]
        exact ⟨u, rfl⟩
      · rw [x1, x2]
        exact ⟨u, rfl⟩
    exact ⟨.cons a r1, .cons b r2⟩
section
variable {X : Cx} {pins : List (Addr × Obj)} {σ : St} {H : Hp} {s : Shared}
theorem noMods (I : Inv X pins σ H s) (M : HasMods X.base) {a : Addr} {o : HO} (h : H a = some o) : a ≠ sysModules := fun z => by
  obtain ⟨ob, hb⟩ := M
  have n := (I.bs _ _ hb).2
  rw [z, n] at h
  cases h
mutual
theorem RD.reads (I : Inv X pins σ H s) (M : HasMods X.base) : ∀ {v : V} {d : PyData} {u : Value}, RD H v d → RelV v u → ∃ as, Reads s.heap u d as ∧ sysModules ∉ as
  | _, _, _, .non, r => by
    cases r
    exact ⟨_, .none, by simp⟩
  | _, _, _, .bl b, r => by
    cases r
    exact ⟨_, .bool b, by simp⟩
  | _, _, _, .int i, r => by
    obtain ⟨t, rfl⟩ := r
    exact ⟨_, .int i t, by simp⟩
  | _, _, _, .str x, r => by
    obtain ⟨t, rfl⟩ := r
    exact ⟨_, .str x t, by simp⟩
  | _, _, _, .lst (a := a) h q, r => by
    cases r
    obtain ⟨its, rv, ⟨o, n, ho, hc, _, hd⟩, _⟩ := I.list (.inl h)
    obtain ⟨as, hr, hn⟩ := RDs.reads I M q rv
    refine ⟨_, .list ho hc hd hr, fun z => ?_⟩
    rcases List.mem_cons.mp z with z | z
    · rcases h with h | ⟨o2, h⟩
      · exact noMods I M h z.symm
      · exact noMods I M h z.symm
    · exact hn z
  | _, _, _, .tup (a := a) h q, r => by
    cases r
    obtain ⟨_, its, rv, o, ho, hc, n, hd⟩ := (show ObjOk X.prog X.w H s.heap a (.tup _) from I.hok a _ h)
    obtain ⟨as, hr, hn⟩ := RDs.reads I M q rv
    exact ⟨_, .tuple ho hc hd hr, hn⟩
  | _, _, _, .dic (a := a) h q1 q2, r => by
    cases r
    obtain ⟨_, _, vs, kv, o, es, ep, ho, hx, hd, _, pr, _⟩ := (show ObjOk X.prog X.w H s.heap a (.dK _) from I.hok a _ h)
    obtain ⟨r1, r2⟩ := pairsV kv pr
    obtain ⟨as, h1, n1⟩ := RDs.reads I M q1 r1
    obtain ⟨bs, h2, n2⟩ := RDs.reads I M q2 r2
    refine ⟨_, .dict ho hx.1 hd h1 h2, fun z => ?_⟩
    rcases List.mem_append.mp z with z | z
    · rcases List.mem_cons.mp z with z | z
      · exact noMods I M h z.symm
      · exact n1 z
    · exact n2 z
theorem RDs.reads (I : Inv X pins σ H s) (M : HasMods X.base) : ∀ {vs : List V} {ds : List PyData} {us : List Value}, RDs H vs ds → Vals vs us → ∃ as, ReadsAll s.heap us ds as ∧ sysModules ∉ as
  | _, _, _, .nil, r => by
    cases r
    exact ⟨_, .nil, by simp⟩
  | _, _, _, .cons h q, r => by
    cases r with
    | cons r1 r2 =>
      obtain ⟨as, h1, n1⟩ := RD.reads I M h r1
      obtain ⟨bs, h2, n2⟩ := RDs.reads I M q r2
      exact ⟨_, .cons h1 h2, fun z => (List.mem_append.mp z).elim n1 n2⟩
end
/-- repr(x), x a list, a tuple or a dict of data -/
def rRepr : List V → Hp → VK → Prop := fun xs H Q => ∃ (a : Addr) (d : PyData), xs = [.ref a] ∧ RD H (.ref a) d ∧ d.showable = true ∧ d.depth ≤ 50 ∧ d.shown.length ≤ sizeLine ∧ Q (.str d.shown) H
theorem call_reprD {k : Nat} (gd : X.A.guards = some []) (hr : Room k X.A) (M : HasMods X.base) : CallR X (.builtin "repr") rRepr := by
  intro pins s σ H xs us Q I r h
  obtain ⟨a, d, rfl, rd, sh, dp, sz, q⟩ := h
  obtain ⟨u1, rfl, r1⟩ := vals1 r
  obtain ⟨as, re, hn⟩ := RD.reads I M rd r1
  obtain rfl : u1 = Value.ref a := r1
  have room := hr.units
  exact repr_of_reads' re sh (fun _ => hn) gd (by omega) (fun _ _ z => z) (fun h' u tk k => ⟨.str d.shown, H, I.kept (t' := tk) k, ⟨u, rfl⟩, q⟩) sz
end
/-! ### the end of a law over such defs -/
theorem lawG {P : Program} {w : World} {K : PySem.W.Frag} {mg mb : Str → Option Value} {CX : CXT} {k : Nat} {fa a : Addr} {fd : FuncData} {x : Str} {sp : Sp} {s1 : Shared} {vs : List Value} {ns : List Int}
    (inK : K.In s1.heap) (hg : s1.heap.Ns mainGlobals mg) (hb : s1.heap.Ns builtinsNs mb) (hbb : ∀ x : Str, x ≠ "__name__" → mb x = bootBuiltins x) (hlim : s1.heap.NoLimit) (hgen : s1.gens = #[]) (hmod : ∃ mm, s1.heap.Ns sysModules mm)
    (ha : s1.heap.get? a = some { cls := .type "list", data := .seq vs.toArray }) (hi : IntsAre vs ns) (hl : ns.length ≤ sizeLine) (room : Room k callerA)
    (F : ∀ base : Heap, K.In base → base.Ns mainGlobals mg → HasMods base → FnG P w K mg base CX k fa fd [x] sp) (bnd : ∀ (s : Shared) (u : Value), BindsTo s fd ⟨[u], []⟩ [(x, u)])
    (want : ∀ H : Hp, Only H → SqL K H a (ns.map V.int) → sp [.ref a] H (fun v _ => v = .bl true) fun _ _ _ => False) (noX : ∀ H e s', CX [] H s1 (fun _ _ _ => False) e s' → False) :
    codeAny (model P w) callerA (.call (.ref fa) ⟨[.ref a], []⟩) (fun r s' => r = .ok (.ret (.bool true)) ∧ OldK s1.heap s'.heap ∧ s'.os = s1.os ∧ AllBare s'.gens) s1 := by
  have many := hi.length
  have go : ∀ H : Hp, Only H → SqL K H a (ns.map V.int) → HOk P w H s1.heap → (∀ b, b ≠ a → H b = none) → (K.lookup a ≠ none → H a = none) →
      codeAny (model P w) callerA (.call (.ref fa) ⟨[.ref a], []⟩) (fun r s' => r = .ok (.ret (.bool true)) ∧ OldK s1.heap s'.heap ∧ s'.os = s1.os ∧ AllBare s'.gens) s1 := by
    intro H only seq ok off kept
    have nsOf : ∀ {b : Addr} {m : Str → Option Value}, s1.heap.Ns b m → (hidT s1.heap H).Ns b m := by
      rintro b m ⟨o, es, ep, e, d, r⟩
      refine ⟨o, es, ep, hidT_get e (off b fun z => ?_), d, r⟩
      rw [z, ha] at e
      cases e
      cases d
    have inB : K.In (hidT s1.heap H) := fun b o e => by
      refine hidT_get (inK b o e) ?_
      by_cases z : b = a
      · rw [z]
        exact kept (by rw [← z, e]; exact fun q => nomatch q)
      · exact off b z
    obtain ⟨mc, c1, c2⟩ := hlim
    obtain ⟨mm, m1⟩ := hmod
    have M : Mod K mg (hidT s1.heap H) := ⟨inB, nsOf hg, ⟨mb, nsOf hb, hbb⟩, ⟨mc, nsOf c1, c2⟩⟩
    have hm : HasMods (hidT s1.heap H) := by
      obtain ⟨o, _, _, e, _⟩ := nsOf m1
      exact ⟨o, e⟩
    have E0' : Env0 P w K mg (hidT s1.heap H) callerA [] s1 H :=
      ⟨rfl, M, fun b o e => of_hidT e, Nat.le_of_eq (hidT_size _ _), trivial, fun b z => absurd (show b ∈ ([] : List Addr) from z) (by simp), ok, .of_eq hgen⟩
    have R := (F _ inB (nsOf hg) hm).run callerA [] s1 H ⟨[.ref a], []⟩ [.ref a] [.ref a] _ _ rfl room E0' (bnd s1 (.ref a)) (.cons rfl .nil) (want H only seq)
    refine codeAny_mono R fun r s' got => ?_
    cases r with
    | error e => exact (noX H e s' got).elim
    | ok fl =>
      cases fl with
      | next => exact got.elim
      | brk => exact got.elim
      | cont => exact got.elim
      | ret u =>
        obtain ⟨v, H', os, bare, un, ok', rv, rfl⟩ := got
        obtain rfl : u = Value.bool true := rv
        refine ⟨rfl, OldK.of_keep fun b o e => ?_, os, bare⟩
        rcases only b with z | ⟨ob, xs, z⟩
        · exact un.keep b o e z (fun y => absurd (show b ∈ ([] : List Addr) from y) (by simp)) (by simp)
        · obtain ⟨e1, _⟩ := ok b _ z
          obtain ⟨e2, _⟩ := ok' b _ (un.frzs b ob _ z)
          rw [e] at e1
          cases e1
          exact e2
  have rel := vals_ints hi
  by_cases inside : K.lookup a = none
  · let H0 : Hp := fun b => if b = a then some (.frz { cls := .type "list", data := .seq vs.toArray } (.lst (ns.map V.int))) else none
    have at_ : H0 a = some (.frz { cls := .type "list", data := .seq vs.toArray } (.lst (ns.map V.int))) := if_pos rfl
    have out : ∀ b, b ≠ a → H0 b = none := fun b z => if_neg z
    refine go H0 (fun b => ?_) (.inl (.inr ⟨_, at_⟩)) (fun b u z => ?_) out fun z => absurd inside z
    · by_cases z : b = a
      · rw [z]
        exact .inr ⟨_, _, at_⟩
      · exact .inl (out b z)
    · by_cases y : b = a
      · subst y
        rw [at_] at z
        cases z
        exact ⟨ha, by rw [List.length_map]; exact hl, vs, _, rel, ha⟩
      · rw [out b y] at z
        cases z
  · obtain ⟨o, ho⟩ := Option.ne_none_iff_exists'.mp inside
    have same := inK a o ho
    rw [ha] at same
    cases same
    refine go (fun _ => none) (fun _ => .inl rfl) (.inr ⟨_, vs.toArray, _, ho, rfl, rfl, rfl, ?_, by simpa using rel⟩) (fun b u z => ?_) (fun _ _ => rfl) fun _ => rfl
    · rw [List.size_toArray, many]
      exact hl
    · cases (show (none : Option HO) = some u from z)
theorem walkG {l : PySem.W.OpenLaw} {n k : Nat} {q : Program} {loose : List Str} {XP : (Str → Option Value) → Heap → Prop} {YP : World → Heap → Prop} {d : DefRec} {K : Params → PySem.W.Frag} {CX : World → CXT} {sp : World → Sp} {x : Str}
    (hn : l.most = some n) (hn2 : n ≤ sizeLine) (hdf : d.params.defaults = []) (room : Room k callerA) (free : importsNone q = true) (hY : ∀ (w : World) (h : Heap), YP w h → (K w.params).In h)
    (F : ∀ (w : World) (mg : Str → Option Value) (fa : Addr) (h : Heap), (K w.params).In h → h.Ns mainGlobals mg → mg d.name = some (.ref fa) →
      ∃ fd : FuncData, (∀ (s : Shared) (u : Value), BindsTo s fd ⟨[u], []⟩ [(x, u)]) ∧
        ∀ base : Heap, (K w.params).In base → base.Ns mainGlobals mg → HasMods base → FnG l.prog w (K w.params) mg base (CX w) k fa fd [x] (sp w))
    (want : ∀ (w : World) (H : Hp) (a : Addr) (ns : List Int), ns.length ≤ n → Only H → SqL (K w.params) H a (ns.map V.int) → sp w [.ref a] H (fun v _ => v = .bl true) fun _ _ _ => False)
    (noX : ∀ (w : World) (H : Hp) (s : Shared) (e : Value) (s' : Shared), CX w [] H s (fun _ _ _ => False) e s' → False) :
    PySem.W.WalkO q loose XP YP l.row.toRowW d [] (fun f vs => PySem.call f vs) := by
  refine Att.attach_call hn hdf fun w s0 s1 mg mb fa o pm cd doc a vs ns G Y ho hd hcd hmg hobj hints hlen hgen => ?_
  have inK := hY w _ Y
  obtain ⟨fd, bnd, hF⟩ := F w mg fa _ inK G.T.g hmg
  obtain ⟨mm, hm, _⟩ := (G.T.seer free).mods
  exact lawG inK G.T.g G.T.b G.T.builtins G.T.nolimit hgen ⟨mm, hm⟩ hobj hints (Nat.le_trans hlen hn2) room hF bnd (fun H h1 h2 => want w H a ns hlen h1 h2) fun H e s' => noX w H s1 e s'
end Gd

set_option maxHeartbeats 4000000
namespace K96
open PySem PySem.Spec PyProof.Rows L2 Ev Gd
abbrev St := L2.St
theorem pe_imp {X : Cx} {e : Expr} {t t' : TE} (h : PE X e t) (k : ∀ σ H Q, t' σ H Q → t σ H Q) : PE X e t' := ⟨fun pins s σ H Q I q => h.run pins s σ H Q I (k σ H Q q)⟩
theorem op_or {X : Cx} {f : Value → Value → Sem Value} {r1 r2 : R2} (h1 : OpR X f r1) (h2 : OpR X f r2) : OpR X f (fun x y H Q => r1 x y H Q ∨ r2 x y H Q) := fun pins s σ H x y v u Q I rx ry h =>
  h.elim (h1 pins s σ H x y v u Q I rx ry) (h2 pins s σ H x y v u Q I rx ry)
/-- text * number -/
def rMulS : R2 := fun x y H Q => ∃ (z : Str) (i : Int), x = .str z ∧ y = .int i ∧ MulOk z i ∧ Q (.str (Txt.mul z i)) H
theorem op_mulS {X : Cx} : OpR X (binaryOp .Mult) rMulS := by
  intro pins s σ H x y v u Q I rx ry h
  obtain ⟨z, i, rfl, rfl, ok, q⟩ := h
  obtain ⟨t, rfl⟩ := rx
  obtain ⟨t', rfl⟩ := ry
  exact SB.mul ok fun t2 k => ⟨.str _, H, I.tok k, ⟨t2, rfl⟩, q⟩
/-- int(a bool) -/
def rIntB : List V → Hp → VK → Prop := fun xs H Q => ∃ k, xs = [.bl k] ∧ Q (.int (if k = true then 1 else 0)) H
theorem call_intB {X : Cx} : CallR X (.type "int") rIntB := fun pins s σ H xs us Q I r ⟨k, e, q⟩ => call_int1 pins s σ H xs us Q I r (.inr ⟨k, e, q⟩)
theorem xat_mono {H H' : Hp} {C a : Addr} {f : Str} {v : V} (e : Same H H') (h : XAt H C a f v) : XAt H' C a f v := by
  obtain ⟨d, h1, h2⟩ := h
  exact ⟨d, e _ _ h1, e _ _ h2⟩
/-- a class of the module, with its field (or none) -/
structure Cl (P : Program) (w : World) (K : PySem.W.Frag) (mg : Str → Option Value) (base : Heap) (x f : Str) (C fI : Addr) (fd : FuncData) : Prop where
  m : XMk K C fI
  F : FnOk P w K mg base CX0 1 fI fd ["self", f] (spInit K C f)
  b1 : KBn K fd ["self", f] 2 [] (fun us ws => us ++ ws) (fun us ws => us ++ ws)
  b2 : KBn K fd ["self", f] 1 [f] (fun us ws => us ++ ws) (fun us ws => us ++ ws)
  g : mg x = some (.ref C)
  no : PySem.W.findIn K (.ref C) f = some none
/-- C(v), C(f = v), v in slot 0: a new exception with its field -/
def tOne (C : Addr) (f : Str) : TE := fun σ H Q => ∃ v, σ[0]? = some (some v) ∧ ∀ a H2, Same H H2 → XAt H2 C a f v → Q (.ref a) H2
theorem one_of {K : PySem.W.Frag} {C : Addr} {f : Str} (T : XC K C) (no : PySem.W.findIn K (.ref C) f = some none) {v : V} {H1 : Hp} {Q : VK} (h : ∀ a H2, Same H1 H2 → XAt H2 C a f v → Q (.ref a) H2) :
    ∀ a, H1 a = none → spInit K C f [.ref a, v] (upd H1 a (exo a C none)) (fun u H3 => u = .non ∧ Q (.ref a) H3) E0 := by
  intro a na
  refine ⟨a, v, rfl, T, no, upd_same, fun dx nd far => ⟨rfl, h a _ ?_ ⟨dx, upd_same, ?_⟩⟩⟩
  · have nd1 : H1 dx = none := by
      rw [upd_ne far] at nd
      exact nd
    intro b o q
    rw [upd_ne (ne_of_none q na), upd_ne (ne_of_none q nd1), upd_ne (ne_of_none q na)]
    exact q
  · rw [upd_ne far, upd_same]
section
variable {X : Cx} {x f : Str} {C fI : Addr} {fd : FuncData} {e : Expr} {p pos kp : Pos} {k : Nat}
theorem pe_pos (c : Cl X.prog X.w X.K X.mg X.base x f C fI fd) (hr : Room (k + 2) X.A) (hg : Gl X x) (he : PE X e (tVar 0)) (hdb : (x == ("__debug__" : Str)) = false := by decide) (hs : starEach [e] X.env = (false, eval e X.env) :: starEach [] X.env := by rfl)
    (hpl : (backTo pos (starEach [] X.env)).any (·.1) = false := by rfl) : PE X (.Call (.Name x p) [e] [] pos) (tOne C f) := by
  refine pe_imp (pe_mkx (n := 1) c.m c.F (hr.mono (by omega)) hg c.g c.b1 pass0 (pa_cons he pa_nil hs) hdb hs hpl) fun σ H Q h => ?_
  obtain ⟨v, e0, z⟩ := h
  exact ⟨v, e0, rfl, rfl, by decide, one_of c.m.x c.no z⟩
theorem pe_key (c : Cl X.prog X.w X.K X.mg X.base x f C fI fd) (hr : Room (k + 2) X.A) (hg : Gl X x) (he : PE X e (tVar 0))
    (hall : (backToKw pos (keywordEach [⟨some f, e, kp⟩] X.env)).all (·.1.isSome) = true := by rfl) (hks : (backToKw pos (keywordEach [⟨some f, e, kp⟩] X.env)).filterMap (·.1) = [f] := by rfl) (hdb : (x == ("__debug__" : Str)) = false := by decide)
    (hpl : ((backTo pos (starEach [] X.env)).any (·.1) || (backToKw pos (keywordEach [⟨some f, e, kp⟩] X.env)).any (·.1.isNone)) = false := by rfl) :
    PE X (.Call (.Name x p) [] [⟨some f, e, kp⟩] pos) (tOne C f) := by
  refine pe_imp (pe_mkxK c.m c.F (hr.mono (by omega)) hg c.g c.b2 pass0 (pk_cons he pk_nil) hall hks hdb hpl) fun σ H Q h => ?_
  obtain ⟨v, e0, z⟩ := h
  exact ⟨v, e0, rfl, rfl, by decide, one_of c.m.x c.no z⟩
end
/-! ### rows of exceptions -/
/-- as are exceptions: their classes and fields as told, v in the fields -/
inductive XL (H : Hp) (v : V) : List Addr → List (Addr × Option Str) → Prop
  | nil : XL H v [] []
  | fld {a C : Addr} {f : Str} {as : List Addr} {cs : List (Addr × Option Str)} : XAt H C a f v → XL H v as cs → XL H v (a :: as) ((C, some f) :: cs)
  | bare {a C : Addr} {as : List Addr} {cs : List (Addr × Option Str)} : H a = some (exo a C none) → XL H v as cs → XL H v (a :: as) ((C, none) :: cs)
theorem XL.mono {H H' : Hp} {v : V} (e : Same H H') : ∀ {as cs}, XL H v as cs → XL H' v as cs
  | _, _, .nil => .nil
  | _, _, .fld h t => .fld (xat_mono e h) (t.mono e)
  | _, _, .bare h t => .bare (e _ _ h) (t.mono e)
theorem XL.app {H : Hp} {v : V} : ∀ {as cs bs ds}, XL H v as cs → XL H v bs ds → XL H v (as ++ bs) (cs ++ ds)
  | _, _, _, _, .nil, k => k
  | _, _, _, _, .fld h t, k => .fld h (t.app k)
  | _, _, _, _, .bare h t, k => .bare h (t.app k)
theorem XL.len {H : Hp} {v : V} : ∀ {as cs}, XL H v as cs → as.length = cs.length
  | _, _, .nil => rfl
  | _, _, .fld _ t => congrArg Nat.succ t.len
  | _, _, .bare _ t => congrArg Nat.succ t.len
/-- a list of arguments that are all such -/
def AX (ta : TA) (σ : St) (H : Hp) (v : V) (cs : List (Addr × Option Str)) : Prop := ∀ H1, Same H H1 → ∀ Q, (∀ as H2, Same H1 H2 → XL H2 v as cs → Q (as.map V.ref) H2) → ta σ H1 Q
theorem ax_nil {σ : St} {H : Hp} {v : V} : AX tNil σ H v [] := fun H1 _ Q q => q [] H1 (Same.refl _) .nil
theorem ax_one {σ : St} {H : Hp} {v : V} {C : Addr} {f : Str} {ta : TA} {cs : List (Addr × Option Str)} (h0 : σ[0]? = some (some v)) (h : AX ta σ H v cs) : AX (tCons (tOne C f) ta) σ H v ((C, some f) :: cs) :=
  fun H1 e Q q => ⟨v, h0, fun a H2 e2 xa => h H2 (e.trans e2) _ fun as H3 e3 xs => q (a :: as) H3 (e2.trans e3) (.fld (xat_mono e3 xa) xs)⟩
theorem ax_bare {σ : St} {H : Hp} {v : V} {C : Addr} {ta : TA} {cs : List (Addr × Option Str)} (h : AX ta σ H v cs) : AX (tCons (tMk0 C) ta) σ H v ((C, none) :: cs) :=
  fun H1 e Q q a na => by
    have e2 : Same H1 (upd H1 a (exo a C none)) := fun b o z => by
      rw [upd_ne (ne_of_none z na)]
      exact z
    exact h _ (e.trans e2) _ fun as H3 e3 xs => q (a :: as) H3 (e2.trans e3) (.bare (e3 _ _ upd_same) xs)
/-- a new list of such -/
def LX (te : TE) (σ : St) (H : Hp) (v : V) (cs : List (Addr × Option Str)) : Prop := ∀ H1, Same H H1 → ∀ Q, (∀ as p H2, Same H1 H2 → XL H2 v as cs → H2 p = some (.lst (as.map V.ref)) → Q (.ref p) H2) → te σ H1 Q
theorem same_new {H : Hp} {p : Addr} {o : HO} (h : H p = none) : Same H (upd H p o) := fun b u z => by
  rw [upd_ne (ne_of_none z h)]
  exact z
theorem lx_lst {σ : St} {H : Hp} {v : V} {ta : TA} {cs : List (Addr × Option Str)} (h : AX ta σ H v cs) (small : cs.length ≤ 100) : LX (tLst ta) σ H v cs := fun H1 e Q q =>
  h H1 e _ fun as H2 e2 xs => by
    refine ⟨?_, fun p np => q as p _ (e2.trans (same_new np)) (xs.mono (same_new np)) upd_same⟩
    rw [List.length_map, xs.len, sizeLine_eq]
    omega
theorem lx_cat {σ : St} {H : Hp} {v : V} {i : Nat} {l : Addr} {as : List Addr} {tb : TE} {cs ds : List (Addr × Option Str)} (hi : σ[i]? = some (some (.ref l))) (hl : H l = some (.lst (as.map V.ref))) (ha : XL H v as cs) (hb : LX tb σ H v ds)
    (small : cs.length + ds.length ≤ 100) : LX (tOp rCat (tVar i) tb) σ H v (cs ++ ds) := fun H1 e Q q =>
  ⟨_, hi, hb H1 e _ fun bs p H2 e2 xs hp => by
    refine ⟨l, p, _, _, rfl, rfl, e2 _ _ (e _ _ hl), hp, ?_, fun r nr => ?_⟩
    · rw [List.length_map, List.length_map, ha.len, xs.len, sizeLine_eq]
      omega
    · refine q (as ++ bs) r _ (e2.trans (same_new nr)) ((ha.mono (e.trans e2) |>.app xs).mono (same_new nr)) ?_
      rw [upd_same, List.map_append]⟩
theorem set_lx {te : TE} {i : Nat} {D : Ends} {σ : St} {H : Hp} {v : V} {cs : List (Addr × Option Str)} (h : LX te σ H v cs)
    (k : ∀ as p H2, Same H H2 → XL H2 v as cs → H2 p = some (.lst (as.map V.ref)) → D.nx (σ.set i (some (.ref p))) H2) : tAsg te (gName i) D σ H :=
  h H (Same.refl _) _ fun as p H2 e x l => k as p H2 e x l
theorem ret_lx {te : TE} {D : Ends} {σ : St} {H : Hp} {v : V} {cs : List (Addr × Option Str)} (h : LX te σ H v cs)
    (k : ∀ as p H2, Same H H2 → XL H2 v as cs → H2 p = some (.lst (as.map V.ref)) → D.rt (.ref p) H2) : tRet te D σ H :=
  h H (Same.refl _) _ fun as p H2 e x l => k as p H2 e x l
end K96

set_option maxHeartbeats 4000000
namespace K96
open PySem PySem.Spec PyProof.Rows L2 Ev Gd
def top (i : Nat) : Stmt := PySem.Challenge.pw_lendroads_k96_errors_and_their_fields.main.body.getD i (.Pass ⟨0, 0, 0, 0⟩)
def nm (i : Nat) : Str := (["InvalidNode", "InvalidEdge", "InvalidLength", "InvalidNodes", "UnknownNode", "UnknownEdge", "OutOfRange", "InvalidText", "InvalidCommand", "InvalidChange", "NotPath", "NotCalm", "NotLeast", "TooMany",
  "OtherNetwork", "NotJoined", "NothingToUndo", "NothingToRedo", "InTrial"] : List Str).getD i ""
def fl (i : Nat) : Str := (["value", "value", "value", "value", "value", "value", "value", "line", "line", "index", "index", "cycle", "better", "limit"] : List Str).getD i ""
/-- the classes and fields of the rows -/
def rows (c : Nat → Addr) : List (Addr × Option Str) := [(c 0, some "value"), (c 1, some "value"), (c 2, some "value"), (c 3, some "value"), (c 4, some "value"), (c 5, some "value"), (c 6, some "value"), (c 7, some "line"), (c 8, some "line"),
  (c 9, some "index"), (c 10, some "index"), (c 11, some "cycle"), (c 12, some "better"), (c 13, some "limit"), (c 14, none), (c 15, none), (c 16, none), (c 17, none), (c 18, none)]
/-- which Python error a class is: v, k, i, o, r, t -/
def py (j : Nat) : Nat := [0, 0, 0, 0, 1, 1, 2, 0, 0, 0, 0, 0, 0, 3, 0, 0, 4, 4, 4].getD j 0
def pyN (i : Nat) : String := ["ValueError", "KeyError", "IndexError", "OverflowError", "RuntimeError", "TypeError"].getD i ""
/-- what the module holds -/
structure Tx (P : Program) (w : World) (K : PySem.W.Frag) (mg : Str → Option Value) (base : Heap) (c fi : Nat → Addr) (fd : Nat → FuncData) : Prop where
  cl : ∀ i, i < 14 → Cl P w K mg base (nm i) (fl i) (c i) (fi i) (fd i)
  x : ∀ i, i < 19 → XC K (c i)
  g : ∀ i, i < 19 → mg (nm i) = some (.ref (c i))
  e0 : PySem.W.excIn K (c 14) [.type "ValueError", .type "Exception", .type "BaseException", .type "object"] "ValueError.__new__" = true
  e1 : PySem.W.excIn K (c 15) [.type "ValueError", .type "Exception", .type "BaseException", .type "object"] "ValueError.__new__" = true
  e2 : PySem.W.excIn K (c 16) [.type "RuntimeError", .type "Exception", .type "BaseException", .type "object"] "RuntimeError.__new__" = true
  e3 : PySem.W.excIn K (c 17) [.type "RuntimeError", .type "Exception", .type "BaseException", .type "object"] "RuntimeError.__new__" = true
  e4 : PySem.W.excIn K (c 18) [.type "RuntimeError", .type "Exception", .type "BaseException", .type "object"] "RuntimeError.__new__" = true
  kit : ∀ j, j < 19 → ∀ i, i < 19 → PySem.W.kitOne K (.ref (c j)) (.ref (c i)) = some (decide (i = j))
  kip : ∀ j, j < 19 → ∀ i, i < 6 → PySem.W.kitOne K (.ref (c j)) (.type (pyN i)) = some (decide (i = py j))
  isi : mg "isinstance" = none
  pyg : ∀ i, i < 6 → mg (pyN i : String) = none
  int : mg "int" = none
  range : mg "range" = none
  repr : mg "repr" = none
  abs : mg "abs" = none
  sum : mg "sum" = none
  len : mg "len" = none
section
variable {P : Program} {w : World} {K : PySem.W.Frag} {mg : Str → Option Value} {base : Heap} {c fi : Nat → Addr} {fd : Nat → FuncData}
def spMade (c : Nat → Addr) : Sp := fun vs H Q _ => ∃ v, vs = [v] ∧ ∀ as p H', Same H H' → XL H' v as (rows c) → H' p = some (.lst (as.map V.ref)) → Q (.ref p) H'
theorem scMade : FnScope ["_law_thing", "_law_rows"] ["_law_thing"] (defScope (top 22)) := ⟨rfl, rfl, rfl, by decide +kernel, rfl, by decide +kernel, by decide +kernel⟩
theorem ok_made {f : Addr} {fd0 : FuncData} (F : Fun K "_law_made" "_law_made" (top 22) f fd0) (T : Tx P w K mg base c fi fd) : FnOk P w K mg base CX0 3 f fd0 ["_law_thing"] (spMade c) := by
  refine F.ok scMade (fun vs H Q E h => ?_) (fun cdv A outer s H vs Q E hr h => ?_)
  · obtain ⟨v, rfl, _⟩ := h
    rfl
  · obtain ⟨v, rfl, k⟩ := h
    refine ⟨_, pss_cons (ps_set (i := 1) scMade.nd rfl (Or.inl rfl) (pe_lst (pa_cons (pe_pos (T.cl 0 (by decide)) hr rfl (pv 0)) (pa_cons (pe_pos (T.cl 1 (by decide)) hr rfl (pv 0)) (pa_cons (pe_pos (T.cl 2 (by decide)) hr rfl (pv 0)) (pa_cons (pe_pos (T.cl 3 (by decide)) hr rfl (pv 0)) pa_nil))))))
      (pss_cons (ps_set (i := 1) scMade.nd rfl (Or.inl rfl) (pe_op op_cat (pv 1) (pe_lst (pa_cons (pe_pos (T.cl 4 (by decide)) hr rfl (pv 0)) (pa_cons (pe_pos (T.cl 5 (by decide)) hr rfl (pv 0)) (pa_cons (pe_pos (T.cl 6 (by decide)) hr rfl (pv 0)) (pa_cons (pe_pos (T.cl 7 (by decide)) hr rfl (pv 0)) pa_nil)))))))
      (pss_cons (ps_set (i := 1) scMade.nd rfl (Or.inl rfl) (pe_op op_cat (pv 1) (pe_lst (pa_cons (pe_pos (T.cl 8 (by decide)) hr rfl (pv 0)) (pa_cons (pe_pos (T.cl 9 (by decide)) hr rfl (pv 0)) (pa_cons (pe_pos (T.cl 10 (by decide)) hr rfl (pv 0)) (pa_cons (pe_pos (T.cl 11 (by decide)) hr rfl (pv 0)) pa_nil)))))))
      (pss_cons (ps_set (i := 1) scMade.nd rfl (Or.inl rfl) (pe_op op_cat (pv 1) (pe_lst (pa_cons (pe_pos (T.cl 12 (by decide)) hr rfl (pv 0)) (pa_cons (pe_pos (T.cl 13 (by decide)) hr rfl (pv 0)) pa_nil)))))
      (pss_one (ps_ret (pe_op op_cat (pv 1) (pe_lst (pa_cons (pe_mk0 PySem.F.excBase_ValueError T.e0 (T.g 14 (by decide)) (T.x 14 (by decide)).kp rfl) (pa_cons (pe_mk0 PySem.F.excBase_ValueError T.e1 (T.g 15 (by decide)) (T.x 15 (by decide)).kp rfl)
        (pa_cons (pe_mk0 PySem.F.excBase_RuntimeError T.e2 (T.g 16 (by decide)) (T.x 16 (by decide)).kp rfl) (pa_cons (pe_mk0 PySem.F.excBase_RuntimeError T.e3 (T.g 17 (by decide)) (T.x 17 (by decide)).kp rfl) (pa_cons (pe_mk0 PySem.F.excBase_RuntimeError T.e4 (T.g 18 (by decide)) (T.x 18 (by decide)).kp rfl) pa_nil)))))))))))), ?_⟩
    refine set_lx (v := v) (lx_lst (ax_one (by rfl) (ax_one (by rfl) (ax_one (by rfl) (ax_one (by rfl) ax_nil)))) (by simp)) fun a1 p1 H1 s1 x1 l1 => ?_
    refine set_lx (v := v) (lx_cat (by rfl) l1 x1 (lx_lst (ax_one (by rfl) (ax_one (by rfl) (ax_one (by rfl) (ax_one (by rfl) ax_nil)))) (by simp)) (by simp)) fun a2 p2 H2 s2 x2 l2 => ?_
    refine set_lx (v := v) (lx_cat (by rfl) l2 x2 (lx_lst (ax_one (by rfl) (ax_one (by rfl) (ax_one (by rfl) (ax_one (by rfl) ax_nil)))) (by simp)) (by simp)) fun a3 p3 H3 s3 x3 l3 => ?_
    refine set_lx (v := v) (lx_cat (by rfl) l3 x3 (lx_lst (ax_one (by rfl) (ax_one (by rfl) ax_nil)) (by simp)) (by simp)) fun a4 p4 H4 s4 x4 l4 => ?_
    refine ret_lx (v := v) (lx_cat (by rfl) l4 x4 (lx_lst (ax_bare (ax_bare (ax_bare (ax_bare (ax_bare ax_nil))))) (by simp)) (by simp)) fun a5 p5 H5 s5 x5 l5 => ?_
    exact k a5 p5 H5 (s1.trans (s2.trans (s3.trans (s4.trans s5)))) x5 l5
theorem scNamed : FnScope ["_law_thing", "_law_rows"] ["_law_thing"] (defScope (top 23)) := ⟨rfl, rfl, rfl, by decide +kernel, rfl, by decide +kernel, by decide +kernel⟩
theorem ok_named {f : Addr} {fd0 : FuncData} (F : Fun K "_law_named" "_law_named" (top 23) f fd0) (T : Tx P w K mg base c fi fd) : FnOk P w K mg base CX0 3 f fd0 ["_law_thing"] (spMade c) := by
  refine F.ok scNamed (fun vs H Q E h => ?_) (fun cdv A outer s H vs Q E hr h => ?_)
  · obtain ⟨v, rfl, _⟩ := h
    rfl
  · obtain ⟨v, rfl, k⟩ := h
    refine ⟨_, (pss_cons (ps_set (i := 1) scNamed.nd rfl (Or.inl rfl) (pe_lst (pa_cons (pe_key (T.cl 0 (by decide)) hr rfl (pv 0)) (pa_cons (pe_key (T.cl 1 (by decide)) hr rfl (pv 0)) (pa_cons (pe_key (T.cl 2 (by decide)) hr rfl (pv 0)) pa_nil)))))
      (pss_cons (ps_set (i := 1) scNamed.nd rfl (Or.inl rfl) (pe_op op_cat (pv 1) (pe_lst (pa_cons (pe_key (T.cl 3 (by decide)) hr rfl (pv 0)) (pa_cons (pe_key (T.cl 4 (by decide)) hr rfl (pv 0)) (pa_cons (pe_key (T.cl 5 (by decide)) hr rfl (pv 0)) pa_nil))))))
      (pss_cons (ps_set (i := 1) scNamed.nd rfl (Or.inl rfl) (pe_op op_cat (pv 1) (pe_lst (pa_cons (pe_key (T.cl 6 (by decide)) hr rfl (pv 0)) (pa_cons (pe_key (T.cl 7 (by decide)) hr rfl (pv 0)) (pa_cons (pe_key (T.cl 8 (by decide)) hr rfl (pv 0)) pa_nil))))))
      (pss_cons (ps_set (i := 1) scNamed.nd rfl (Or.inl rfl) (pe_op op_cat (pv 1) (pe_lst (pa_cons (pe_key (T.cl 9 (by decide)) hr rfl (pv 0)) (pa_cons (pe_key (T.cl 10 (by decide)) hr rfl (pv 0)) (pa_cons (pe_key (T.cl 11 (by decide)) hr rfl (pv 0)) pa_nil))))))
      (pss_cons (ps_set (i := 1) scNamed.nd rfl (Or.inl rfl) (pe_op op_cat (pv 1) (pe_lst (pa_cons (pe_key (T.cl 12 (by decide)) hr rfl (pv 0)) (pa_cons (pe_key (T.cl 13 (by decide)) hr rfl (pv 0)) pa_nil)))))
      (pss_one (ps_ret (pe_op op_cat (pv 1) (pe_lst (pa_cons (pe_mk0 PySem.F.excBase_ValueError T.e0 (T.g 14 (by decide)) (T.x 14 (by decide)).kp rfl) (pa_cons (pe_mk0 PySem.F.excBase_ValueError T.e1 (T.g 15 (by decide)) (T.x 15 (by decide)).kp rfl) (pa_cons (pe_mk0 PySem.F.excBase_RuntimeError T.e2 (T.g 16 (by decide)) (T.x 16 (by decide)).kp rfl) (pa_cons (pe_mk0 PySem.F.excBase_RuntimeError T.e3 (T.g 17 (by decide)) (T.x 17 (by decide)).kp rfl) (pa_cons (pe_mk0 PySem.F.excBase_RuntimeError T.e4 (T.g 18 (by decide)) (T.x 18 (by decide)).kp rfl) pa_nil)))))))))))))), ?_⟩
    refine set_lx (v := v) (lx_lst (ax_one (by rfl) (ax_one (by rfl) (ax_one (by rfl) ax_nil))) (by simp)) fun a1 p1 H1 s1 x1 l1 => ?_
    refine set_lx (v := v) (lx_cat (by rfl) l1 x1 (lx_lst (ax_one (by rfl) (ax_one (by rfl) (ax_one (by rfl) ax_nil))) (by simp)) (by simp)) fun a2 p2 H2 s2 x2 l2 => ?_
    refine set_lx (v := v) (lx_cat (by rfl) l2 x2 (lx_lst (ax_one (by rfl) (ax_one (by rfl) (ax_one (by rfl) ax_nil))) (by simp)) (by simp)) fun a3 p3 H3 s3 x3 l3 => ?_
    refine set_lx (v := v) (lx_cat (by rfl) l3 x3 (lx_lst (ax_one (by rfl) (ax_one (by rfl) (ax_one (by rfl) ax_nil))) (by simp)) (by simp)) fun a4 p4 H4 s4 x4 l4 => ?_
    refine set_lx (v := v) (lx_cat (by rfl) l4 x4 (lx_lst (ax_one (by rfl) (ax_one (by rfl) ax_nil)) (by simp)) (by simp)) fun a5 p5 H5 s5 x5 l5 => ?_
    refine ret_lx (v := v) (lx_cat (by rfl) l5 x5 (lx_lst (ax_bare (ax_bare (ax_bare (ax_bare (ax_bare ax_nil))))) (by simp)) (by simp)) fun a6 p6 H6 s6 x6 l6 => ?_
    exact k a6 p6 H6 (s1.trans (s2.trans (s3.trans (s4.trans (s5.trans s6))))) x6 l6
end
end K96

set_option maxHeartbeats 4000000
namespace K96
open PySem PySem.Spec PyProof.Rows L2 Ev Gd
open Evl (EvL EvA EvT RC)
theorem el_cat {ta tb : TE} {σ : St} {H : Hp} {l : Addr} {xs ys : List V} (ha : Evl.Ev ta σ H (.ref l)) (hl : H l = some (.lst xs)) (hb : EvL tb σ H ys) (small : xs.length + ys.length ≤ 100000) : EvL (tOp rCat ta tb) σ H (xs ++ ys) := fun H1 e Q q =>
  ha H1 e _ fun H2 e2 => hb H2 (e.trans e2) _ fun p H3 np e3 hp => ⟨l, p, xs, ys, rfl, rfl, e3 _ _ (e2 _ _ (e _ _ hl)), hp, Evl.sz_of small, fun r nr =>
    q r _ (Evl.fresh_back (e2.trans e3) nr) ((e2.trans e3).trans (Evl.Ex.new nr)) upd_same⟩
theorem el_catL {ta tb : TE} {σ : St} {H : Hp} {xs ys : List V} (ha : EvL ta σ H xs) (hb : EvL tb σ H ys) (small : xs.length + ys.length ≤ 100000) : EvL (tOp rCat ta tb) σ H (xs ++ ys) := fun H1 e Q q =>
  ha H1 e _ fun l H2 nl e2 hl => hb H2 (e.trans e2) _ fun p H3 np e3 hp => ⟨l, p, xs, ys, rfl, rfl, e3 _ _ hl, hp, Evl.sz_of small, fun r nr =>
    q r _ (Evl.fresh_back (e2.trans e3) nr) ((e2.trans e3).trans (Evl.Ex.new nr)) upd_same⟩
/-- an exception of the class C stands at a, finished or bare -/
def IsX (H : Hp) (C a : Addr) : Prop := H a = some (exo a C none) ∨ ∃ d fs, H a = some (exo a C (some d)) ∧ H d = some (exd d fs)
theorem IsX.mono {H H' : Hp} {C a : Addr} (e : Evl.Ex H H') (h : IsX H C a) : IsX H' C a := h.elim (fun z => .inl (e _ _ z)) fun ⟨d, fs, z1, z2⟩ => .inr ⟨d, fs, e _ _ z1, e _ _ z2⟩
section
variable {P : Program} {w : World} {K : PySem.W.Frag} {mg : Str → Option Value} {base : Heap} {c fi : Nat → Addr} {fd : Nat → FuncData}
theorem rc_is {H : Hp} {C a : Addr} {cv : V} {u : Value} {b : Bool} (T : XC K C) (h : IsX H C a) (k : ClsV cv u) (e : PySem.W.kitOne K (.ref C) u = some b) : RC (rIsX K) [.ref a, cv] H (.bl b) := fun H1 e1 Q q =>
  ⟨a, C, cv, u, b, rfl, k, T, h.mono e1, e, q H1 (Evl.Ex.refl _)⟩
/-- isinstance(x, C_i), x in slot 0 -/
theorem ev_own {σ : St} {H : Hp} {a : Addr} {i j : Nat} (T : Tx P w K mg base c fi fd) (hj : j < 19) (hi : i < 19) (h : IsX H (c j) a) (h0 : σ[0]? = some (some (.ref a))) :
    Evl.Ev (tCB (rIsX K) (tCons (tVar 0) (tCons (tC (.ref (c i))) tNil))) σ H (.bl (decide (i = j))) :=
  Evl.ev_cb (Evl.ea_cons (Evl.ev_var h0) (Evl.ea_cons Evl.ev_c Evl.ea_nil)) (rc_is (T.x j hj) h (.own _) (T.kit j hj i hi))
theorem ev_pyt {σ : St} {H : Hp} {a : Addr} {i j : Nat} (T : Tx P w K mg base c fi fd) (hj : j < 19) (hi : i < 6) (h : IsX H (c j) a) (h0 : σ[0]? = some (some (.ref a))) :
    Evl.Ev (tCB (rIsX K) (tCons (tVar 0) (tCons (tC (.ty (pyN i))) tNil))) σ H (.bl (decide (i = py j))) :=
  Evl.ev_cb (Evl.ea_cons (Evl.ev_var h0) (Evl.ea_cons Evl.ev_c Evl.ea_nil)) (rc_is (T.x j hj) h (.ty _) (T.kip j hj i hi))
def spKinds (c : Nat → Addr) : Sp := fun vs H Q _ => ∃ a j, vs = [V.ref a] ∧ j < 19 ∧ IsX H (c j) a ∧ ∀ p H', Evl.Ex H H' → H p = none → H' p = some (.lst ((List.range 19).map fun i => V.bl (decide (i = j)))) → Q (.ref p) H'
theorem scKinds : FnScope ["_law_thing", "_law_rows"] ["_law_thing"] (defScope (top 25)) := ⟨rfl, rfl, rfl, by decide +kernel, rfl, by decide +kernel, by decide +kernel⟩
theorem ok_kinds {f : Addr} {fd0 : FuncData} (F : Fun K "_law_kinds" "_law_kinds" (top 25) f fd0) (T : Tx P w K mg base c fi fd) : FnOk P w K mg base CX0 1 f fd0 ["_law_thing"] (spKinds c) := by
  refine F.ok scKinds (fun vs H Q E h => ?_) (fun cdv A outer s H vs Q E hr h => ?_)
  · obtain ⟨a, j, rfl, _⟩ := h
    rfl
  · obtain ⟨a, j, rfl, hj, hx, k⟩ := h
    refine ⟨_, (pss_cons (ps_set (i := 1) scKinds.nd rfl (Or.inl rfl) (pe_lst (pa_cons (pe_callB call_isX (by rfl) T.isi (by decide +kernel) (pa_cons (pv 0) (pa_cons (pe_glob (v := .ref (c 0)) rfl (T.g 0 (by decide)) rfl) pa_nil))) (pa_cons (pe_callB call_isX (by rfl) T.isi (by decide +kernel) (pa_cons (pv 0) (pa_cons (pe_glob (v := .ref (c 1)) rfl (T.g 1 (by decide)) rfl) pa_nil))) (pa_cons (pe_callB call_isX (by rfl) T.isi (by decide +kernel) (pa_cons (pv 0) (pa_cons (pe_glob (v := .ref (c 2)) rfl (T.g 2 (by decide)) rfl) pa_nil))) pa_nil)))))
      (pss_cons (ps_set (i := 1) scKinds.nd rfl (Or.inl rfl) (pe_op op_cat (pv 1) (pe_lst (pa_cons (pe_callB call_isX (by rfl) T.isi (by decide +kernel) (pa_cons (pv 0) (pa_cons (pe_glob (v := .ref (c 3)) rfl (T.g 3 (by decide)) rfl) pa_nil))) (pa_cons (pe_callB call_isX (by rfl) T.isi (by decide +kernel) (pa_cons (pv 0) (pa_cons (pe_glob (v := .ref (c 4)) rfl (T.g 4 (by decide)) rfl) pa_nil))) (pa_cons (pe_callB call_isX (by rfl) T.isi (by decide +kernel) (pa_cons (pv 0) (pa_cons (pe_glob (v := .ref (c 5)) rfl (T.g 5 (by decide)) rfl) pa_nil))) pa_nil))))))
      (pss_cons (ps_set (i := 1) scKinds.nd rfl (Or.inl rfl) (pe_op op_cat (pv 1) (pe_lst (pa_cons (pe_callB call_isX (by rfl) T.isi (by decide +kernel) (pa_cons (pv 0) (pa_cons (pe_glob (v := .ref (c 6)) rfl (T.g 6 (by decide)) rfl) pa_nil))) (pa_cons (pe_callB call_isX (by rfl) T.isi (by decide +kernel) (pa_cons (pv 0) (pa_cons (pe_glob (v := .ref (c 7)) rfl (T.g 7 (by decide)) rfl) pa_nil))) (pa_cons (pe_callB call_isX (by rfl) T.isi (by decide +kernel) (pa_cons (pv 0) (pa_cons (pe_glob (v := .ref (c 8)) rfl (T.g 8 (by decide)) rfl) pa_nil))) pa_nil))))))
      (pss_cons (ps_set (i := 1) scKinds.nd rfl (Or.inl rfl) (pe_op op_cat (pv 1) (pe_lst (pa_cons (pe_callB call_isX (by rfl) T.isi (by decide +kernel) (pa_cons (pv 0) (pa_cons (pe_glob (v := .ref (c 9)) rfl (T.g 9 (by decide)) rfl) pa_nil))) (pa_cons (pe_callB call_isX (by rfl) T.isi (by decide +kernel) (pa_cons (pv 0) (pa_cons (pe_glob (v := .ref (c 10)) rfl (T.g 10 (by decide)) rfl) pa_nil))) (pa_cons (pe_callB call_isX (by rfl) T.isi (by decide +kernel) (pa_cons (pv 0) (pa_cons (pe_glob (v := .ref (c 11)) rfl (T.g 11 (by decide)) rfl) pa_nil))) pa_nil))))))
      (pss_cons (ps_set (i := 1) scKinds.nd rfl (Or.inl rfl) (pe_op op_cat (pv 1) (pe_lst (pa_cons (pe_callB call_isX (by rfl) T.isi (by decide +kernel) (pa_cons (pv 0) (pa_cons (pe_glob (v := .ref (c 12)) rfl (T.g 12 (by decide)) rfl) pa_nil))) (pa_cons (pe_callB call_isX (by rfl) T.isi (by decide +kernel) (pa_cons (pv 0) (pa_cons (pe_glob (v := .ref (c 13)) rfl (T.g 13 (by decide)) rfl) pa_nil))) (pa_cons (pe_callB call_isX (by rfl) T.isi (by decide +kernel) (pa_cons (pv 0) (pa_cons (pe_glob (v := .ref (c 14)) rfl (T.g 14 (by decide)) rfl) pa_nil))) pa_nil))))))
      (pss_cons (ps_set (i := 1) scKinds.nd rfl (Or.inl rfl) (pe_op op_cat (pv 1) (pe_lst (pa_cons (pe_callB call_isX (by rfl) T.isi (by decide +kernel) (pa_cons (pv 0) (pa_cons (pe_glob (v := .ref (c 15)) rfl (T.g 15 (by decide)) rfl) pa_nil))) (pa_cons (pe_callB call_isX (by rfl) T.isi (by decide +kernel) (pa_cons (pv 0) (pa_cons (pe_glob (v := .ref (c 16)) rfl (T.g 16 (by decide)) rfl) pa_nil))) pa_nil)))))
      (pss_one (ps_ret (pe_op op_cat (pv 1) (pe_lst (pa_cons (pe_callB call_isX (by rfl) T.isi (by decide +kernel) (pa_cons (pv 0) (pa_cons (pe_glob (v := .ref (c 17)) rfl (T.g 17 (by decide)) rfl) pa_nil))) (pa_cons (pe_callB call_isX (by rfl) T.isi (by decide +kernel) (pa_cons (pv 0) (pa_cons (pe_glob (v := .ref (c 18)) rfl (T.g 18 (by decide)) rfl) pa_nil))) pa_nil)))))))))))), ?_⟩
    have one := fun (σ : St) (H' : Hp) (e : Evl.Ex H H') (i : Nat) (hi : i < 19) (h0 : σ[0]? = some (some (.ref a))) => ev_own T hj hi (hx.mono e) h0
    refine Evl.q_asgL (Evl.el_lst (Evl.ea_cons (one _ _ (Evl.Ex.refl _) 0 (by decide) (by rfl)) (Evl.ea_cons (one _ _ (Evl.Ex.refl _) 1 (by decide) (by rfl)) (Evl.ea_cons (one _ _ (Evl.Ex.refl _) 2 (by decide) (by rfl)) Evl.ea_nil))) (by simp)) fun p1 H1 n1 e1 l1 => ?_
    have t1 : Evl.Ex H H1 := e1
    refine Evl.q_asgL (el_cat (Evl.ev_var (by rfl)) l1 (Evl.el_lst (Evl.ea_cons (one _ _ t1 3 (by decide) (by rfl)) (Evl.ea_cons (one _ _ t1 4 (by decide) (by rfl)) (Evl.ea_cons (one _ _ t1 5 (by decide) (by rfl)) Evl.ea_nil))) (by simp)) (by simp)) fun p2 H2 n2 e2 l2 => ?_
    have t2 : Evl.Ex H H2 := t1.trans e2
    refine Evl.q_asgL (el_cat (Evl.ev_var (by rfl)) l2 (Evl.el_lst (Evl.ea_cons (one _ _ t2 6 (by decide) (by rfl)) (Evl.ea_cons (one _ _ t2 7 (by decide) (by rfl)) (Evl.ea_cons (one _ _ t2 8 (by decide) (by rfl)) Evl.ea_nil))) (by simp)) (by simp)) fun p3 H3 n3 e3 l3 => ?_
    have t3 : Evl.Ex H H3 := t2.trans e3
    refine Evl.q_asgL (el_cat (Evl.ev_var (by rfl)) l3 (Evl.el_lst (Evl.ea_cons (one _ _ t3 9 (by decide) (by rfl)) (Evl.ea_cons (one _ _ t3 10 (by decide) (by rfl)) (Evl.ea_cons (one _ _ t3 11 (by decide) (by rfl)) Evl.ea_nil))) (by simp)) (by simp)) fun p4 H4 n4 e4 l4 => ?_
    have t4 : Evl.Ex H H4 := t3.trans e4
    refine Evl.q_asgL (el_cat (Evl.ev_var (by rfl)) l4 (Evl.el_lst (Evl.ea_cons (one _ _ t4 12 (by decide) (by rfl)) (Evl.ea_cons (one _ _ t4 13 (by decide) (by rfl)) (Evl.ea_cons (one _ _ t4 14 (by decide) (by rfl)) Evl.ea_nil))) (by simp)) (by simp)) fun p5 H5 n5 e5 l5 => ?_
    have t5 : Evl.Ex H H5 := t4.trans e5
    refine Evl.q_asgL (el_cat (Evl.ev_var (by rfl)) l5 (Evl.el_lst (Evl.ea_cons (one _ _ t5 15 (by decide) (by rfl)) (Evl.ea_cons (one _ _ t5 16 (by decide) (by rfl)) Evl.ea_nil)) (by simp)) (by simp)) fun p6 H6 n6 e6 l6 => ?_
    have t6 : Evl.Ex H H6 := t5.trans e6
    refine Evl.s_retL (el_cat (Evl.ev_var (by rfl)) l6 (Evl.el_lst (Evl.ea_cons (one _ _ t6 17 (by decide) (by rfl)) (Evl.ea_cons (one _ _ t6 18 (by decide) (by rfl)) Evl.ea_nil)) (by simp)) (by simp)) fun p7 H7 n7 e7 l7 => ?_
    exact k p7 H7 (t6.trans e7) (Evl.fresh_back t6 n7) l7
def spPy (c : Nat → Addr) : Sp := fun vs H Q _ => ∃ a j, vs = [V.ref a] ∧ j < 19 ∧ IsX H (c j) a ∧ ∀ H', Evl.Ex H H' → Q (.str ((["v", "k", "i", "o", "r"] : List Str).getD (py j) "")) H'
theorem scPy : FnScope ["_law_thing", "_law_rows"] ["_law_thing"] (defScope (top 26)) := ⟨rfl, rfl, rfl, by decide +kernel, rfl, by decide +kernel, by decide +kernel⟩
theorem mulOk (z : Str) (hz : z.length = 1) (b : Bool) : MulOk z (if b = true then 1 else 0) := by
  cases b
  · exact ⟨by decide, fun h => absurd (by decide) h, fun h => absurd (by decide) h⟩
  · exact ⟨by decide, fun _ h => absurd h (by simp), fun _ h => absurd h (by simp)⟩
theorem pyText : ∀ n, n < 5 → Txt.join "" [Txt.mul "v" (if decide (0 = n) = true then 1 else 0), Txt.mul "k" (if decide (1 = n) = true then 1 else 0), Txt.mul "i" (if decide (2 = n) = true then 1 else 0), Txt.mul "o" (if decide (3 = n) = true then 1 else 0),
    Txt.mul "r" (if decide (4 = n) = true then 1 else 0), Txt.mul "t" (if decide (5 = n) = true then 1 else 0)] = (["v", "k", "i", "o", "r"] : List Str).getD n "" := by decide +kernel
theorem pyLen : ∀ n, n < 5 → ([Txt.mul "v" (if decide (0 = n) = true then 1 else 0), Txt.mul "k" (if decide (1 = n) = true then 1 else 0), Txt.mul "i" (if decide (2 = n) = true then 1 else 0), Txt.mul "o" (if decide (3 = n) = true then 1 else 0),
    Txt.mul "r" (if decide (4 = n) = true then 1 else 0), Txt.mul "t" (if decide (5 = n) = true then 1 else 0)].map (·.length)).sum ≤ 1000 := by decide +kernel
theorem py5 : ∀ j, j < 19 → py j < 5 := by decide +kernel
theorem ok_py {f : Addr} {fd0 : FuncData} (F : Fun K "_law_python" "_law_python" (top 26) f fd0) (T : Tx P w K mg base c fi fd) : FnOk P w K mg base CX0 1 f fd0 ["_law_thing"] (spPy c) := by
  refine F.ok scPy (fun vs H Q E h => ?_) (fun cdv A outer s H vs Q E hr h => ?_)
  · obtain ⟨a, j, rfl, _⟩ := h
    rfl
  · obtain ⟨a, j, rfl, hj, hx, k⟩ := h
    refine ⟨_, (pss_cons (ps_set (i := 1) scPy.nd rfl (Or.inl rfl) (pe_lst (pa_cons (pe_op op_mulS pe_str (pe_callTy call_intB (by rfl) T.int (by decide +kernel) (pa_cons (pe_callB call_isX (by rfl) T.isi (by decide +kernel) (pa_cons (pv 0) (pa_cons (pe_bltn (v := .ty (pyN 0)) (by rfl) (T.pyg 0 (by decide)) (by decide +kernel) rfl) pa_nil))) pa_nil))) (pa_cons (pe_op op_mulS pe_str (pe_callTy call_intB (by rfl) T.int (by decide +kernel) (pa_cons (pe_callB call_isX (by rfl) T.isi (by decide +kernel) (pa_cons (pv 0) (pa_cons (pe_bltn (v := .ty (pyN 1)) (by rfl) (T.pyg 1 (by decide)) (by decide +kernel) rfl) pa_nil))) pa_nil))) pa_nil))))
      (pss_cons (ps_set (i := 1) scPy.nd rfl (Or.inl rfl) (pe_op op_cat (pv 1) (pe_lst (pa_cons (pe_op op_mulS pe_str (pe_callTy call_intB (by rfl) T.int (by decide +kernel) (pa_cons (pe_callB call_isX (by rfl) T.isi (by decide +kernel) (pa_cons (pv 0) (pa_cons (pe_bltn (v := .ty (pyN 2)) (by rfl) (T.pyg 2 (by decide)) (by decide +kernel) rfl) pa_nil))) pa_nil))) (pa_cons (pe_op op_mulS pe_str (pe_callTy call_intB (by rfl) T.int (by decide +kernel) (pa_cons (pe_callB call_isX (by rfl) T.isi (by decide +kernel) (pa_cons (pv 0) (pa_cons (pe_bltn (v := .ty (pyN 3)) (by rfl) (T.pyg 3 (by decide)) (by decide +kernel) rfl) pa_nil))) pa_nil))) pa_nil)))))
      (pss_one (ps_ret (pe_join pe_str (pe_op op_cat (pv 1) (pe_lst (pa_cons (pe_op op_mulS pe_str (pe_callTy call_intB (by rfl) T.int (by decide +kernel) (pa_cons (pe_callB call_isX (by rfl) T.isi (by decide +kernel) (pa_cons (pv 0) (pa_cons (pe_bltn (v := .ty (pyN 4)) (by rfl) (T.pyg 4 (by decide)) (by decide +kernel) rfl) pa_nil))) pa_nil))) (pa_cons (pe_op op_mulS pe_str (pe_callTy call_intB (by rfl) T.int (by decide +kernel) (pa_cons (pe_callB call_isX (by rfl) T.isi (by decide +kernel) (pa_cons (pv 0) (pa_cons (pe_bltn (v := .ty (pyN 5)) (by rfl) (T.pyg 5 (by decide)) (by decide +kernel) rfl) pa_nil))) pa_nil))) pa_nil))))))))), ?_⟩
    have one := fun (σ : St) (H' : Hp) (e : Evl.Ex H H') (z : Str) (hz : z.length = 1) (i : Nat) (hi : i < 6) (h0 : σ[0]? = some (some (.ref a))) =>
      (Evl.ev_op (r := rMulS) Evl.ev_c (Evl.ev_cb (r := rIntB) (Evl.ea_cons (ev_pyt T hj hi (hx.mono e) h0) Evl.ea_nil) fun H1 _ _ q => ⟨_, rfl, q H1 (Evl.Ex.refl _)⟩)
        (fun H1 _ _ q => ⟨z, _, rfl, rfl, mulOk z hz _, q H1 (Evl.Ex.refl _)⟩) : Evl.Ev (tOp rMulS (tC (.str z)) (tCB rIntB (tCons (tCB (rIsX K) (tCons (tVar 0) (tCons (tC (.ty (pyN i))) tNil))) tNil))) σ H' (.str (Txt.mul z (if decide (i = py j) = true then 1 else 0))))
    refine Evl.q_asgL (Evl.el_lst (Evl.ea_cons (one _ _ (Evl.Ex.refl _) "v" rfl 0 (by decide) (by rfl)) (Evl.ea_cons (one _ _ (Evl.Ex.refl _) "k" rfl 1 (by decide) (by rfl)) Evl.ea_nil)) (by simp)) fun p1 H1 n1 e1 l1 => ?_
    refine Evl.q_asgL (el_cat (Evl.ev_var (by rfl)) l1 (Evl.el_lst (Evl.ea_cons (one _ _ e1 "i" rfl 2 (by decide) (by rfl)) (Evl.ea_cons (one _ _ e1 "o" rfl 3 (by decide) (by rfl)) Evl.ea_nil)) (by simp)) (by simp)) fun p2 H2 n2 e2 l2 => ?_
    have t2 := e1.trans e2
    refine ⟨⟨_, rfl⟩, (el_cat (Evl.ev_var (by rfl)) l2 (Evl.el_lst (Evl.ea_cons (one _ _ t2 "r" rfl 4 (by decide) (by rfl)) (Evl.ea_cons (one _ _ t2 "t" rfl 5 (by decide) (by rfl)) Evl.ea_nil)) (by simp)) (by simp) : EvL _ _ H2 _) H2 (Evl.Ex.refl _) _ fun p3 H3 n3 e3 l3 => ?_⟩
    have h5 := py5 j hj
    refine ⟨"", p3, [Txt.mul "v" (if decide (0 = py j) = true then 1 else 0), Txt.mul "k" (if decide (1 = py j) = true then 1 else 0), Txt.mul "i" (if decide (2 = py j) = true then 1 else 0), Txt.mul "o" (if decide (3 = py j) = true then 1 else 0),
      Txt.mul "r" (if decide (4 = py j) = true then 1 else 0), Txt.mul "t" (if decide (5 = py j) = true then 1 else 0)], rfl, rfl, .inl (.inl (.inl l3)), ?_, ?_⟩
    · have := pyLen _ h5
      rw [show (("" : Str).length) = 0 from rfl, Nat.mul_zero]
      omega
    · rw [pyText _ h5]
      exact k _ (t2.trans e3)
end
end K96

set_option maxHeartbeats 4000000
namespace K96
open PySem PySem.Spec PyProof.Rows L2 Ev Gd
open Evl (EvL EvA EvT RC)
/-- the value x is a finished exception with the field f = v -/
def FX (K : PySem.W.Frag) (H : Hp) (f : Str) (v x : V) : Prop := ∃ a C, x = .ref a ∧ XC K C ∧ PySem.W.findIn K (.ref C) f = some none ∧ XAt H C a f v
theorem ev_xg {K : PySem.W.Frag} {te : TE} {σ : St} {H : Hp} {f : Str} {v x : V} (h : Evl.Ev te σ H x) (hx : FX K H f v x) : Evl.Ev (tXg K te f) σ H v := fun H1 e Q q => by
  obtain ⟨a, C, rfl, T, no, d, h1, h2⟩ := hx
  exact h H1 e _ fun H2 e2 => ⟨a, C, d, [(f, v)], v, rfl, T, no, e2 _ _ (e _ _ h1), e2 _ _ (e _ _ h2), by simp [List.lookup], q H2 e2⟩
theorem FX.mono {K : PySem.W.Frag} {H H' : Hp} {f : Str} {v x : V} (e : Evl.Ex H H') (h : FX K H f v x) : FX K H' f v x := by
  obtain ⟨a, C, rfl, T, no, d, h1, h2⟩ := h
  exact ⟨a, C, rfl, T, no, d, e _ _ h1, e _ _ h2⟩
theorem el_fields {K : PySem.W.Frag} {tl : TE} {σ : St} {H : Hp} {f : Str} {v : V} {xs : List V} {i : Nat} (hi : i < σ.length) (h : EvL tl σ H xs) (small : xs.length ≤ 100) (hx : ∀ x ∈ xs, FX K H f v x) :
    EvL (tLc (iList K tl) (gName i) tYes (tXg K (tVar i) f) [i]) σ H (Evl.given xs.length (fun _ => true) fun _ => v) := by
  refine Evl.el_lcNL (fun _ => true) (fun _ => v) h (by omega) (fun x => ?_) (fun j x H1 e1 ex => ?_) (fun j x H1 e1 ex _ => ?_)
  · show ((σ.set i none).set i (some x)).set i none = σ.set i none
    rw [List.set_set, List.set_set]
  · exact fun H2 _ Q q => q H2 (Evl.Ex.refl _)
  · refine ev_xg (Evl.ev_var ?_) ((hx x (List.mem_of_getElem? ex)).mono e1)
    show ((σ.set i none).set i (some x))[i]? = some (some x)
    rw [List.getElem?_set_self (by rw [List.length_set]; exact hi)]
theorem glen (n : Nat) (v : V) : (Evl.given n (fun _ => true) fun _ => v).length = n := by
  unfold Evl.given
  rw [List.length_map, List.filter_eq_self.mpr fun _ _ => rfl, List.length_range]
section
variable {P : Program} {w : World} {K : PySem.W.Frag} {mg : Str → Option Value} {base : Heap} {c fi : Nat → Addr} {fd : Nat → FuncData}
def spFields (c : Nat → Addr) : Sp := fun vs H Q _ => ∃ p as v, vs = [V.ref p] ∧ H p = some (.lst (as.map V.ref)) ∧ XL H v as (rows c) ∧ ∀ q H', Evl.Ex H H' → H q = none → H' q = some (.lst (List.replicate 14 v)) → Q (.ref q) H'
theorem scFields : FnScope ["_law_some", "_law_rows", "_law_one"] ["_law_some"] (defScope (top 24)) := ⟨rfl, rfl, rfl, by decide +kernel, rfl, by decide +kernel, by decide +kernel⟩
theorem XL.at {H : Hp} {v : V} : ∀ {as : List Addr} {cs : List (Addr × Option Str)} {i : Nat} {C : Addr} {o : Option Str}, XL H v as cs → cs[i]? = some (C, o) →
    ∃ a, as[i]? = some a ∧ match o with | some f => XAt H C a f v | none => H a = some (exo a C none)
  | _, _, _, _, _, .nil, e => by simp at e
  | _, _, 0, _, _, .fld h t, e => by
    cases e
    exact ⟨_, rfl, h⟩
  | _, _, 0, _, _, .bare h t, e => by
    cases e
    exact ⟨_, rfl, h⟩
  | _, _, i + 1, _, _, .fld h t, e => t.at (i := i) e
  | _, _, i + 1, _, _, .bare h t, e => t.at (i := i) e
theorem fx_at {H : Hp} {v : V} {as : List Addr} (T : Tx P w K mg base c fi fd) (h : XL H v as (rows c)) {i : Nat} (hi : i < 14) : ∃ a, as[i]? = some a ∧ FX K H (fl i) v (.ref a) := by
  have e : (rows c)[i]? = some (c i, some (fl i)) := by
    match i, hi with
    | 0, _ => rfl
    | 1, _ => rfl
    | 2, _ => rfl
    | 3, _ => rfl
    | 4, _ => rfl
    | 5, _ => rfl
    | 6, _ => rfl
    | 7, _ => rfl
    | 8, _ => rfl
    | 9, _ => rfl
    | 10, _ => rfl
    | 11, _ => rfl
    | 12, _ => rfl
    | 13, _ => rfl
  obtain ⟨a, e1, q⟩ := h.at e
  exact ⟨a, e1, a, c i, rfl, (T.cl i hi).m.x, (T.cl i hi).no, q⟩
theorem ok_fields {f : Addr} {fd0 : FuncData} (F : Fun K "_law_fields" "_law_fields" (top 24) f fd0) (T : Tx P w K mg base c fi fd) : FnOk P w K mg base CX0 1 f fd0 ["_law_some"] (spFields c) := by
  refine F.ok scFields (fun vs H Q E h => ?_) (fun cdv A outer s H vs Q E hr h => ?_)
  · obtain ⟨p, as, v, rfl, _⟩ := h
    rfl
  · obtain ⟨p, as, v, rfl, hp, hx, k⟩ := h
    have nd := scFields.nd
    refine ⟨_, pss_cons (ps_set (i := 1) nd rfl (Or.inl rfl) (pe_op op_cat
        (pe_lc (own := [("_law_one", 2)]) (g := gName 2) (tt := tYes) (te := tXg K (tVar 2) "value") rfl nd (pi_list (pe_slice sl_list (pv 0) po_none (po_some pe_int))) (blkOk_by (N := ["_law_some", "_law_rows", "_law_one"]) (sc := defScope (top 24)) (by decide +kernel)) (fun _ _ _ _ _ => pg_name (i := 2) nd rfl (Or.inl rfl)) (fun _ _ _ _ _ => pts_nil) (fun _ _ _ _ _ => pe_xg (pv 2)))
        (pe_lc (own := [("_law_one", 2)]) (g := gName 2) (tt := tYes) (te := tXg K (tVar 2) "line") rfl nd (pi_list (pe_slice sl_list (pv 0) (po_some pe_int) (po_some pe_int))) (blkOk_by (N := ["_law_some", "_law_rows", "_law_one"]) (sc := defScope (top 24)) (by decide +kernel)) (fun _ _ _ _ _ => pg_name (i := 2) nd rfl (Or.inl rfl)) (fun _ _ _ _ _ => pts_nil) (fun _ _ _ _ _ => pe_xg (pv 2)))))
      (pss_one (ps_ret (pe_op op_cat (pe_op op_cat (pv 1)
        (pe_lc (own := [("_law_one", 2)]) (g := gName 2) (tt := tYes) (te := tXg K (tVar 2) "index") rfl nd (pi_list (pe_slice sl_list (pv 0) (po_some pe_int) (po_some pe_int))) (blkOk_by (N := ["_law_some", "_law_rows", "_law_one"]) (sc := defScope (top 24)) (by decide +kernel)) (fun _ _ _ _ _ => pg_name (i := 2) nd rfl (Or.inl rfl)) (fun _ _ _ _ _ => pts_nil) (fun _ _ _ _ _ => pe_xg (pv 2))))
        (pe_lst (pa_cons (pe_xg (pe_ix ix_list (pv 0) pe_int (fun _ _ => rfl))) (pa_cons (pe_xg (pe_ix ix_list (pv 0) pe_int (fun _ _ => rfl))) (pa_cons (pe_xg (pe_ix ix_list (pv 0) pe_int (fun _ _ => rfl))) pa_nil))))))), ?_⟩
    have many : (as.map V.ref).length = 19 := by
      rw [List.length_map, hx.len]
      rfl
    -- the rows' fields
    have part : ∀ (lo hi : Option Int) (g : Str), (∀ x ∈ cutV (as.map V.ref) lo hi, FX K H g v x) → ∀ x ∈ cutV (as.map V.ref) lo hi, FX K H g v x := fun _ _ _ z => z
    have pick : ∀ (j n : Nat) (lo hi : Option Int) (g : Str), cutV (as.map V.ref) lo hi = ((as.map V.ref).drop j).take n → j + n ≤ 14 → (∀ i, i < n → fl (j + i) = g) → ∀ x ∈ cutV (as.map V.ref) lo hi, FX K H g v x := by
      intro j n lo hi g e hn same x hm
      rw [e] at hm
      obtain ⟨i, hi'⟩ := List.mem_iff_getElem?.mp hm
      by_cases h1 : i < n
      · rw [List.getElem?_take_of_lt h1, List.getElem?_drop, List.getElem?_map] at hi'
        obtain ⟨a, ea, fx⟩ := fx_at T hx (i := j + i) (by omega)
        rw [ea] at hi'
        cases hi'
        rw [← same i h1]
        exact fx
      · rw [List.getElem?_eq_none (by rw [List.length_take]; omega)] at hi'
        cases hi'
    have c1 : cutV (as.map V.ref) none (some 7) = ((as.map V.ref).drop 0).take 7 := by
      unfold cutV
      rw [many]
      rfl
    have c2 : cutV (as.map V.ref) (some 7) (some 9) = ((as.map V.ref).drop 7).take 2 := by
      unfold cutV
      rw [many]
      rfl
    have c3 : cutV (as.map V.ref) (some 9) (some 11) = ((as.map V.ref).drop 9).take 2 := by
      unfold cutV
      rw [many]
      rfl
    have l1 : (cutV (as.map V.ref) none (some 7)).length = 7 := by
      rw [c1, List.length_take, List.length_drop, many]
      rfl
    have l2 : (cutV (as.map V.ref) (some 7) (some 9)).length = 2 := by
      rw [c2, List.length_take, List.length_drop, many]
      rfl
    have l3 : (cutV (as.map V.ref) (some 9) (some 11)).length = 2 := by
      rw [c3, List.length_take, List.length_drop, many]
      rfl
    have f1 := pick 0 7 none (some 7) "value" c1 (by decide) (by decide +kernel)
    have f2 := pick 7 2 (some 7) (some 9) "line" c2 (by decide) (by decide +kernel)
    have f3 := pick 9 2 (some 9) (some 11) "index" c3 (by decide) (by decide +kernel)
    have whole : SqL K H p (as.map V.ref) := .inl (.inl hp)
    refine Evl.q_asgL (el_catL (el_fields (by show 2 < 3; decide) (Evl.el_sl (Evl.ev_var (by rfl)) Evl.eo_none (Evl.eo_some Evl.ev_c) whole) (by omega) f1)
      (el_fields (by show 2 < 3; decide) (Evl.el_sl (Evl.ev_var (by rfl)) (Evl.eo_some Evl.ev_c) (Evl.eo_some Evl.ev_c) whole) (by omega) f2) (by rw [l1, l2, glen, glen]; decide)) fun q1 H1 n1 e1 r1 => ?_
    have whole1 := Evl.ex_l e1 whole
    have ix : ∀ i : Nat, i < 14 → ∃ a, atI (as.map V.ref) (i : Int) = some (V.ref a) ∧ FX K H1 (fl i) v (.ref a) := fun i hi => by
      obtain ⟨a, ea, fx⟩ := fx_at T hx hi
      refine ⟨a, ?_, fx.mono e1⟩
      unfold atI
      rw [Evl.ixN_nat (by rw [many]; omega)]
      show (as.map V.ref)[i]? = _
      rw [List.getElem?_map, ea]
      rfl
    obtain ⟨a11, i11, x11⟩ := ix 11 (by decide)
    obtain ⟨a12, i12, x12⟩ := ix 12 (by decide)
    obtain ⟨a13, i13, x13⟩ := ix 13 (by decide)
    refine Evl.s_retL (el_catL (el_cat (Evl.ev_var (by rfl)) r1 (el_fields (by show 2 < 3; decide) (Evl.el_sl (Evl.ev_var (by rfl)) (Evl.eo_some Evl.ev_c) (Evl.eo_some Evl.ev_c) whole1) (by omega) fun x hm => (f3 x hm).mono e1) (by rw [l1, l2, l3, List.length_append, glen, glen]; decide))
      (Evl.el_lst (Evl.ea_cons (ev_xg (Evl.ev_op (Evl.ev_var (by rfl)) Evl.ev_c (Evl.rv_ixL whole1 i11)) x11) (Evl.ea_cons (ev_xg (Evl.ev_op (Evl.ev_var (by rfl)) Evl.ev_c (Evl.rv_ixL whole1 i12)) x12)
        (Evl.ea_cons (ev_xg (Evl.ev_op (Evl.ev_var (by rfl)) Evl.ev_c (Evl.rv_ixL whole1 i13)) x13) Evl.ea_nil))) (by simp)) (by simp [l1, l2, l3, glen])) fun q2 H2 n2 e2 r2 => ?_
    refine k q2 H2 (e1.trans e2) (Evl.fresh_back e1 n2) ?_
    rw [r2, l1, l2, l3]
    rfl
end
end K96

set_option maxHeartbeats 4000000
namespace K96
open PySem PySem.Spec PyProof.Rows L2 Ev Gd
open Evl (EvL EvA EvT RC)
/-! ### data literals -/
/-- a value that is the data d -/
def EvR (te : TE) (σ : St) (H : Hp) (d : PyData) : Prop := ∀ H1, Evl.Ex H H1 → ∀ Q : VK, (∀ v H2, Evl.Ex H1 H2 → RD H2 v d → Q v H2) → te σ H1 Q
def EvRs (ta : TA) (σ : St) (H : Hp) (ds : List PyData) : Prop := ∀ H1, Evl.Ex H H1 → ∀ Q : List V → Hp → Prop, (∀ vs H2, Evl.Ex H1 H2 → RDs H2 vs ds → Q vs H2) → ta σ H1 Q
/-- a new list of the data ds -/
def LRD (te : TE) (σ : St) (H : Hp) (ds : List PyData) : Prop := ∀ H1, Evl.Ex H H1 → ∀ Q : VK, (∀ p xs H2, Evl.Ex H1 H2 → H2 p = some (.lst xs) → RDs H2 xs ds → Q (.ref p) H2) → te σ H1 Q
section
variable {te : TE} {ta : TA} {σ : St} {H H' : Hp} {d : PyData} {ds : List PyData} {v : V}
theorem RDs.len : ∀ {vs : List V} {ds : List PyData}, RDs H vs ds → vs.length = ds.length
  | _, _, .nil => rfl
  | _, _, .cons _ t => congrArg Nat.succ (RDs.len t)
theorem er_v (h : Evl.Ev te σ H v) (r : ∀ H1, RD H1 v d) : EvR te σ H d := fun H1 e Q q => h H1 e _ fun H2 e2 => q v H2 e2 (r H2)
theorem ers_nil : EvRs tNil σ H [] := fun H1 e Q q => q [] H1 (Evl.Ex.refl _) .nil
theorem ers_cons (h : EvR te σ H d) (t : EvRs ta σ H ds) : EvRs (tCons te ta) σ H (d :: ds) := fun H1 e Q q => h H1 e _ fun v H2 e2 r => t H2 (e.trans e2) _ fun vs H3 e3 rs => q (v :: vs) H3 (e2.trans e3) (.cons (r.mono e3) rs)
theorem lrd_lst (h : EvRs ta σ H ds) (small : ds.length ≤ 1000) : LRD (tLst ta) σ H ds := fun H1 e Q q => h H1 e _ fun vs H2 e2 rs =>
  ⟨by rw [RDs.len rs]; exact Evl.sz_of (by omega), fun p np => q p vs _ (e2.trans (Evl.Ex.new np)) upd_same (rs.mono (Evl.Ex.new np))⟩
theorem er_lst (h : LRD te σ H ds) : EvR te σ H (.list ds) := fun H1 e Q q => h H1 e _ fun p xs H2 e2 hp rs => q (.ref p) H2 e2 (.lst (.inl hp) rs)
theorem er_tup (h : EvRs ta σ H ds) (small : ds.length ≤ 1000) : EvR (tTup ta) σ H (.tuple ds) := fun H1 e Q q => h H1 e _ fun vs H2 e2 rs =>
  ⟨by rw [RDs.len rs]; exact Evl.sz_of (by omega), fun p np => q (.ref p) _ (e2.trans (Evl.Ex.new np)) (.tup upd_same (rs.mono (Evl.Ex.new np)))⟩
theorem er_dnew : EvR tDNewK σ H (.dict []) := fun H1 e Q q p np => q (.ref p) _ (Evl.Ex.new np) (.dic (kvs := []) (ps := []) upd_same .nil .nil)
mutual
theorem rd_other {H : Hp} {p : Addr} {kvs : List (Key × V)} {o : HO} (hp : H p = some (.dK kvs)) : ∀ {v : V} {d : PyData}, RD H v d → d.hasDict = false → RD (upd H p o) v d
  | _, _, .non, _ => .non
  | _, _, .bl b, _ => .bl b
  | _, _, .int i, _ => .int i
  | _, _, .str x, _ => .str x
  | _, _, .lst (a := a) h r, n => by
    have ne : a ≠ p := fun z => by
      rcases h with h | ⟨ob, h⟩
      · rw [z, hp] at h
        cases h
      · rw [z, hp] at h
        cases h
    refine .lst ?_ (rds_other hp r (by simpa [PyData.hasDict] using n))
    rcases h with h | ⟨ob, h⟩
    · exact .inl (by rw [upd_ne ne]; exact h)
    · exact .inr ⟨ob, by rw [upd_ne ne]; exact h⟩
  | _, _, .tup (a := a) h r, n => by
    have ne : a ≠ p := fun z => by
      rw [z, hp] at h
      cases h
    exact .tup (by rw [upd_ne ne]; exact h) (rds_other hp r (by simpa [PyData.hasDict] using n))
  | _, _, .dic h r q, n => by simp [PyData.hasDict] at n
theorem rds_other {H : Hp} {p : Addr} {kvs : List (Key × V)} {o : HO} (hp : H p = some (.dK kvs)) : ∀ {vs : List V} {ds : List PyData}, RDs H vs ds → PyData.hasDictAll ds = false → RDs (upd H p o) vs ds
  | _, _, .nil, _ => .nil
  | _, d :: ds, .cons h r, n => by
    have n' : d.hasDict = false ∧ PyData.hasDictAll ds = false := by simpa [PyData.hasDictAll] using n
    exact .cons (rd_other hp h n'.1) (rds_other hp r n'.2)
end
/-- {text: value} -/
theorem er_disp1 {k : Str} (nd : d.hasDict = false) (h : EvR te σ H d) : EvR (tDisp [(tC (.str k), te)]) σ H (.dict [(.str k, d)]) := fun H1 e Q q p np =>
  h _ (e.trans (Evl.Ex.new np)) _ fun v H2 e2 r => by
    have hp := e2 _ _ (upd_same (H := H1) (a := p) (o := .dK []))
    refine ⟨hp, [(.inr k, v)], rfl, by simp, q (.ref p) _ ?_ (.dic (kvs := [(.inr k, v)]) (ps := [(.str k, d)]) upd_same (.cons (.str k) .nil) (.cons (rd_other hp r nd) .nil))⟩
    intro b o z
    have nb : b ≠ p := ne_of_none z np
    rw [upd_ne nb]
    exact e2 _ _ (by rw [upd_ne nb]; exact z)
theorem el_catR {tb : TE} {xs : List V} (ha : EvL te σ H xs) (hb : LRD tb σ H ds) (small : xs.length + ds.length ≤ 1000) {H1 : Hp} (e : Evl.Ex H H1) {Q : VK}
    (q : ∀ p ys H2, Evl.Ex H1 H2 → H2 p = some (.lst (xs ++ ys)) → RDs H2 ys ds → Q (.ref p) H2) : tOp rCat te tb σ H1 Q :=
  ha H1 e _ fun l H2 nl e2 hl => hb H2 (e.trans e2) _ fun p ys H3 e3 hp rs => ⟨l, p, xs, ys, rfl, rfl, e3 _ _ hl, hp, by rw [RDs.len rs]; exact Evl.sz_of (by omega), fun r nr =>
    q r ys _ ((e2.trans e3).trans (Evl.Ex.new nr)) upd_same (rs.mono (Evl.Ex.new nr))⟩
end
theorem rds_mem {H : Hp} : ∀ {vs : List V} {ds : List PyData} {v : V}, RDs H vs ds → v ∈ vs → ∃ d, d ∈ ds ∧ RD H v d
  | _, _, v, .nil, h => by simp at h
  | _, _, v, .cons r t, h => by
    rcases List.mem_cons.mp h with rfl | h
    · exact ⟨_, List.mem_cons_self, r⟩
    · obtain ⟨d, hd, hr⟩ := rds_mem t h
      exact ⟨d, List.mem_cons_of_mem _ hd, hr⟩
def tenE : Int := 10 ^ 59
/-- the fifteen values of the law -/
def vals15 : List PyData := [.none, .bool true, .bool false, .int 0, .int (-7), PyData.int tenE, .str "", .str "a", .str "A b", .tuple [], .tuple [.str "a", .int 1], .list [], .dict [], .dict [(.str "a", .list [.int 1])], .tuple [.none, .list [.tuple []]]]
def vals2 (t : Nat) : List PyData := [.int ((t : Int) * 1009), .tuple [.str (Txt.mul "a" (t : Int)), .int (t : Int)]]
def okD (d : PyData) : Bool := d.showable && decide (d.depth ≤ 40) && decide (d.shown.length ≤ 1000)
theorem ok15 : vals15.all okD = true := by decide +kernel
theorem ok2 : (List.range 15).all (fun t => (vals2 t).all okD) = true := by decide +kernel
theorem shownRep (d : PyData) : ∀ n, PyData.shownAll (List.replicate n d) = List.replicate n d.shown
  | 0 => rfl
  | n + 1 => by
    rw [List.replicate_succ, List.replicate_succ, PyData.shownAll, shownRep d n]
theorem showRep {d : PyData} (h : d.showable = true) : ∀ n, PyData.showableAll (List.replicate n d) = true
  | 0 => rfl
  | n + 1 => by
    rw [List.replicate_succ, PyData.showableAll, h, showRep h n]
    rfl
theorem depthRep (d : PyData) : ∀ n, PyData.depthAll (List.replicate n d) ≤ d.depth
  | 0 => Nat.zero_le _
  | n + 1 => by
    have := depthRep d n
    rw [List.replicate_succ, PyData.depthAll]
    omega
theorem piledRep (t : Str) : ∀ n, piled (List.replicate n t) = n * (t.length + 2)
  | 0 => by simp [piled]
  | n + 1 => by
    rw [List.replicate_succ, piled_cons, piledRep t n, Nat.succ_mul]
    omega
theorem listTextLen (t : Str) (n : Nat) : (listText (List.replicate (n + 1) t)).length = (n + 1) * (t.length + 2) := by
  have e1 : (listText (List.replicate (n + 1) t)).length = (textFrom 1 (("[" : Str) ++ (if (0 : Nat) > 0 then ", " else "" : String) ++ t) (List.replicate n t)).length + 1 := by
    rw [List.replicate_succ]
    show (textFrom 0 "[" (t :: List.replicate n t) ++ "]").length = _
    rw [strLen_append]
    rfl
  have e2 : ((("[" : Str) ++ (if (0 : Nat) > 0 then ", " else "" : String) ++ t)).length = 1 + t.length := by
    rw [strLen_append, strLen_append]
    rfl
  rw [e1, textFrom_length_pos _ _ _ (by decide), e2, piledRep, Nat.succ_mul]
  omega
theorem okList {d : PyData} (h : okD d = true) : (PyData.list (List.replicate 14 d)).showable = true ∧ (PyData.list (List.replicate 14 d)).depth ≤ 50 ∧ (PyData.list (List.replicate 14 d)).shown.length ≤ sizeLine := by
  unfold okD at h
  simp only [Bool.and_eq_true, decide_eq_true_eq] at h
  obtain ⟨⟨h1, h2⟩, h3⟩ := h
  have k := depthRep d 14
  refine ⟨?_, ?_, ?_⟩
  · rw [PyData.showable]
    exact showRep h1 14
  · rw [PyData.depth]
    omega
  · rw [PyData.shown, shownRep, listTextLen, sizeLine_eq]
    omega
end K96

set_option maxHeartbeats 800000
namespace K96
open PySem PySem.Spec PyProof.Rows L2 Ev Gd
open Evl (EvL EvA EvT RC)
theorem dpInts {K : PySem.W.Frag} {H : Hp} : ∀ ns : List Int, DpAll K H (ns.map V.int) (ns.map PyData.int)
  | [] => .nil
  | n :: ns => .cons (.int n) (dpInts ns)
theorem layInts : ∀ ns : List Int, PyData.canLayAll0 (ns.map PyData.int) = true
  | [] => by simp [PyData.canLayAll0]
  | n :: ns => by simp [PyData.canLayAll0, PyData.canLay0, layInts ns]
theorem depInts : ∀ ns : List Int, PyData.depthAll (ns.map PyData.int) = 0
  | [] => by simp [PyData.depthAll]
  | n :: ns => by simp [PyData.depthAll, PyData.depth, depInts ns]
theorem shInts (ns : List Int) : SeqAt.shaped (.list (ns.map PyData.int)) = true := by
  show (PyData.canLay0 (.list (ns.map .int)) && decide (PyData.depth (.list (ns.map .int)) ≤ 64)) = true
  rw [Bool.and_eq_true]
  refine ⟨by simp only [PyData.canLay0]; exact layInts ns, decide_eq_true ?_⟩
  simp only [PyData.depth]
  rw [depInts]
  decide
theorem tenEq : V.int ((10 : Int) ^ (59 : Int).toNat) = V.int tenE := by
  unfold tenE
  rfl
theorem er_ten {σ : St} {H : Hp} : EvR (tOp (rI CPow fun i j => .int (i ^ j.toNat)) (tC (.int 10)) (tC (.int 59))) σ H (.int tenE) :=
  er_v (v := V.int tenE) (Evl.ev_is (Evl.ev_op Evl.ev_c Evl.ev_c (Evl.rv_I (by unfold CPow; decide))) tenEq) fun _ => .int _
def litA : TA := tCons (tC .non) (tCons (tC (.bl true)) (tCons (tC (.bl false)) (tCons (tC (.int 0)) (tCons (tUn (rU fun i => .int (-i)) (tC (.int 7))) (tCons (tOp (rI CPow fun i j => .int (i ^ j.toNat)) (tC (.int 10)) (tC (.int 59)))
  (tCons (tC (.str "")) (tCons (tC (.str "a")) (tCons (tC (.str "A b")) (tCons (tTup tNil) (tCons (tTup (tCons (tC (.str "a")) (tCons (tC (.int 1)) tNil))) (tCons (tLst tNil) (tCons tDNewK (tCons (tDisp [(tC (.str "a"), tLst (tCons (tC (.int 1)) tNil))])
  (tCons (tTup (tCons (tC .non) (tCons (tLst (tCons (tTup tNil) tNil)) tNil))) tNil))))))))))))))
theorem lit {σ : St} {H : Hp} : EvRs litA σ H vals15 := by
  unfold litA vals15
  refine ers_cons (er_v Evl.ev_c fun _ => .non) ?_
  refine ers_cons (er_v Evl.ev_c fun _ => .bl true) ?_
  refine ers_cons (er_v Evl.ev_c fun _ => .bl false) ?_
  refine ers_cons (er_v Evl.ev_c fun _ => .int 0) ?_
  refine ers_cons (er_v (v := .int (-7)) (Evl.ev_un Evl.ev_c Evl.ru_neg) fun _ => .int (-7)) ?_
  refine ers_cons er_ten ?_
  refine ers_cons (er_v Evl.ev_c fun _ => .str "") ?_
  refine ers_cons (er_v Evl.ev_c fun _ => .str "a") ?_
  refine ers_cons (er_v Evl.ev_c fun _ => .str "A b") ?_
  refine ers_cons (er_tup ers_nil (by simp)) ?_
  refine ers_cons (er_tup (ers_cons (er_v Evl.ev_c fun _ => .str "a") (ers_cons (er_v Evl.ev_c fun _ => .int 1) ers_nil)) (by simp)) ?_
  refine ers_cons (er_lst (lrd_lst ers_nil (by simp))) ?_
  refine ers_cons er_dnew ?_
  refine ers_cons (er_disp1 (by simp [PyData.hasDict, PyData.hasDictAll]) (er_lst (lrd_lst (ers_cons (er_v Evl.ev_c fun _ => .int 1) ers_nil) (by simp)))) ?_
  exact ers_cons (er_tup (ers_cons (er_v Evl.ev_c fun _ => .non) (ers_cons (er_lst (lrd_lst (ers_cons (er_tup ers_nil (by simp)) ers_nil) (by simp))) ers_nil)) (by simp)) ers_nil
theorem q_lrd {te : TE} {i : Nat} {tz : TS} {D : Ends} {σ : St} {H : Hp} {ds : List PyData} (h : LRD te σ H ds)
    (k : ∀ p xs H2, Evl.Ex H H2 → H2 p = some (.lst xs) → RDs H2 xs ds → tz D (σ.set i (some (.ref p))) H2) : tSeq (tAsg te (gName i)) tz D σ H := h H (Evl.Ex.refl _) _ k
theorem mulOkA : ∀ m : Nat, m < 15 → MulOk "a" (m : Int) := by
  unfold MulOk
  decide +kernel
theorem mulSmall {m : Nat} (h : m < 15) : CMul (m : Int) 1009 := by
  unfold CMul
  omega
section
variable {P : Program} {w : World} {K : PySem.W.Frag} {mg : Str → Option Value} {base : Heap} {c fi : Nat → Addr} {fd : Nat → FuncData}
def spVals (K : PySem.W.Frag) : Sp := fun vs H Q _ => ∃ (a : Addr) (ns : List Int), vs = [V.ref a] ∧ SqL K H a (ns.map V.int) ∧ ns.length ≤ 63 ∧
  ∀ p xs H', Evl.Ex H H' → H' p = some (.lst xs) → xs.length ≤ 100 → (∀ x ∈ xs, ∃ d, RD H' x d ∧ okD d = true) → Q (.ref p) H'
theorem scVals : FnScope ["_law_script", "_law_some", "_law_turn"] ["_law_script"] (defScope (top 21)) := ⟨rfl, rfl, rfl, by decide +kernel, rfl, by decide +kernel, by decide +kernel⟩
theorem ok_vals {f : Addr} {fd0 : FuncData} (F : Fun K "_law_values" "_law_values" (top 21) f fd0) (T : Tx P w K mg base c fi fd) : FnOk P w K mg base CX0 1 f fd0 ["_law_script"] (spVals K) := by
  refine F.ok scVals (fun vs H Q E h => ?_) (fun cdv A outer s H vs Q E hr h => ?_)
  · obtain ⟨a, ns, rfl, _⟩ := h
    rfl
  · obtain ⟨a, ns, rfl, hs, small, k⟩ := h
    have nd := scVals.nd
    have hu := hr.units
    refine ⟨_, pss_cons (ps_set (i := 1) nd rfl (Or.inl rfl) (pe_lst (pa_cons pe_non (pa_cons pe_bl (pa_cons pe_bl (pa_cons pe_int (pa_cons (pe_un un_neg pe_int) (pa_cons (pe_op op_pow pe_int pe_int) (pa_cons pe_str (pa_cons pe_str (pa_cons pe_str (pa_cons (pe_tup pa_nil)
        (pa_cons (pe_tup (pa_cons pe_str (pa_cons pe_int pa_nil))) (pa_cons (pe_lst pa_nil) (pa_cons pe_dnewK (pa_cons (pe_disp (pps_cons pe_str (pe_lst (pa_cons pe_int pa_nil)) pps_nil) rfl rfl (by simp) (by decide)) (pa_cons (pe_tup (pa_cons pe_non (pa_cons (pe_lst (pa_cons (pe_tup pa_nil) pa_nil)) pa_nil))) pa_nil)))))))))))))))))
      (pss_cons (ps_set (i := 2) nd rfl (Or.inl rfl) (pe_ifExp (pt_cmpR (op_neD hu) (pv 0) (pe_lst pa_nil) (nomark _))
        (pe_op op_mod (pe_callB call_abs (by rfl) T.abs (by decide +kernel) (pa_cons (pe_callB (cr_sum rfl) (by rfl) T.sum (by decide +kernel) (pa_cons (pe_slice sl_list (pv 0) po_none (po_some pe_int)) pa_nil)) pa_nil)) (pe_callB call_len_seq (by rfl) T.len PySem.boot_len (pa_cons (pv 1) pa_nil))) pe_int))
      (pss_one (ps_ret (pe_op op_cat (pe_op op_cat (pe_slice sl_list (pv 1) (po_some (pv 2)) po_none) (pe_slice sl_list (pv 1) po_none (po_some (pv 2))))
        (pe_lst (pa_cons (pe_op op_mul (pv 2) pe_int) (pa_cons (pe_tup (pa_cons (pe_op op_mulS pe_str (pv 2)) (pa_cons (pv 2) pa_nil))) pa_nil))))))), ?_⟩
    refine q_lrd (ds := vals15) (lrd_lst lit (by decide +kernel)) fun p1 xs H1 e1 l1 r1 => ?_
    have many : xs.length = 15 := RDs.len r1
    have hs1 := Evl.ex_l e1 hs
    have sq1 : SqL K H1 p1 xs := .inl (.inl l1)
    -- the turn
    let sm : Int := ((ns.drop (HT.sIx (ns.map V.int).length 0 none)).take (HT.sIx (ns.map V.int).length (ns.map V.int).length (some 63) - HT.sIx (ns.map V.int).length 0 none)).sum
    let bb : Bool := !PyData.eqv (.list (ns.map PyData.int)) (.list [])
    let t : Int := if bb = true then (if sm < 0 then -sm else sm) % ((xs.length : Nat) : Int) else 0
    have t0 : 0 ≤ t ∧ t < 15 := by
      show 0 ≤ (if bb = true then _ else _ : Int) ∧ (if bb = true then _ else _ : Int) < 15
      rw [many]
      split <;> constructor <;> omega
    refine Evl.q_asg (v := .int t) (Evl.ev_if (b := bb) (Evl.et_test ?hT) ?h1 ?h2) fun H2 e2 => ?_
    case hT =>
      refine Evl.ev_opL (Evl.ev_var (by rfl)) (Evl.el_lst Evl.ea_nil (by simp)) fun q H2 hq e2 => ?_
      intro H3 e3 Q z
      exact ⟨.list (ns.map PyData.int), .list [], .lst (Evl.ex_l e3 (Evl.ex_l e2 hs1)) (dpInts ns), .lst (.inl (.inl (e3 _ _ hq))) .nil, shInts ns, shInts [], z H3 (Evl.Ex.refl _)⟩
    case h1 =>
      intro hb
      rw [show t = (if sm < 0 then -sm else sm) % ((xs.length : Nat) : Int) from if_pos hb]
      refine Evl.ev_op (Evl.ev_cb (Evl.ea_cons (x := .int sm) ?hS Evl.ea_nil) ?hA) (Evl.ev_len (Evl.ev_var (by rfl)) sq1) (Evl.rv_I ?hM)
      case hM =>
        rw [many]
        decide
      case hA =>
        intro H2 e2 Q z
        exact ⟨sm, rfl, z H2 (Evl.Ex.refl _)⟩
      case hS =>
        intro H2 e2 Q z
        refine (Evl.el_sl (Evl.ev_var (by rfl)) Evl.eo_none (Evl.eo_some Evl.ev_c) hs1) H2 e2 _ fun q H3 nq e3 hq => ?_
        refine ⟨q, _, rfl, .inl (.inl ?_), z H3 e3⟩
        rw [hq]
        unfold cutV
        rw [← List.map_drop, ← List.map_take]
    case h2 =>
      intro hb
      rw [show t = 0 from if_neg (by rw [hb]; decide)]
      exact Evl.ev_c
    obtain ⟨m, hm⟩ : ∃ m : Nat, t = (m : Int) := ⟨t.toNat, by omega⟩
    have m15 : m < 15 := by omega
    have sq2 := Evl.ex_l e2 sq1
    rw [hm]
    have len1 := cutV_length xs (some (m : Int)) none
    have len2 := cutV_length xs none (some (m : Int))
    have two : LRD _ (((start ["_law_script", "_law_some", "_law_turn"] [V.ref a]).set 1 (some (V.ref p1))).set 2 (some (V.int (m : Int)))) H2 (vals2 m) :=
      lrd_lst (ers_cons (er_v (Evl.ev_op (Evl.ev_var (i := 2) (by rfl)) Evl.ev_c (Evl.rv_I (C := CMul) (g := fun i j => .int (i * j)) (i := (m : Int)) (j := 1009) (mulSmall m15))) fun _ => .int _)
        (ers_cons (er_tup (ers_cons (er_v (Evl.ev_op (r := rMulS) Evl.ev_c (Evl.ev_var (i := 2) (by rfl)) fun H3 _ Q z => ⟨"a", (m : Int), rfl, rfl, mulOkA m m15, z H3 (Evl.Ex.refl _)⟩) fun _ => .str _) (ers_cons (er_v (Evl.ev_var (i := 2) (by rfl)) fun _ => .int _) ers_nil)) (by simp)) ers_nil)) (by simp [vals2])
    refine el_catR (el_catL (Evl.el_sl (Evl.ev_var (by rfl)) (Evl.eo_some (Evl.ev_var (by rfl))) Evl.eo_none sq2) (Evl.el_sl (Evl.ev_var (by rfl)) Evl.eo_none (Evl.eo_some (Evl.ev_var (by rfl))) sq2) (by omega)) two (by rw [List.length_append]; simp only [vals2, List.length_cons, List.length_nil]; omega) (Evl.Ex.refl _) fun p ys H3 e3 hp rs => ?_
    have e13 := e2.trans e3
    refine k p _ H3 (e1.trans e13) hp ?_ fun x hx => ?_
    · have := RDs.len rs
      simp only [List.length_append, vals2, List.length_cons, List.length_nil] at this ⊢
      omega
    · rcases List.mem_append.mp hx with hx | hx
      · have hx' : x ∈ xs := by
          rcases List.mem_append.mp hx with z | z
          · exact List.mem_of_mem_drop (List.mem_of_mem_take z)
          · exact List.mem_of_mem_drop (List.mem_of_mem_take z)
        obtain ⟨d, hd, rd⟩ := rds_mem r1 hx'
        exact ⟨d, rd.mono e13, List.all_eq_true.mp ok15 d hd⟩
      · obtain ⟨d, hd, rd⟩ := rds_mem rs hx
        exact ⟨d, rd, List.all_eq_true.mp (List.all_eq_true.mp ok2 m (List.mem_range.mpr m15)) d hd⟩
end
end K96

set_option maxHeartbeats 800000
namespace K96
open PySem PySem.Spec PyProof.Rows L2 Ev Gd
open Evl (EvL EvA EvT RC)
theorem rdsRep {H : Hp} {v : V} {d : PyData} (h : RD H v d) : ∀ n, RDs H (List.replicate n v) (List.replicate n d)
  | 0 => .nil
  | n + 1 => .cons h (rdsRep h n)
theorem ev_reprL {tl : TE} {σ : St} {H : Hp} {xs : List V} {ds : List PyData} (h : EvL tl σ H xs) (r : RDs H xs ds) (h1 : (PyData.list ds).showable = true) (h2 : (PyData.list ds).depth ≤ 50) (h3 : (PyData.list ds).shown.length ≤ sizeLine) :
    Evl.Ev (tCB rRepr (tCons tl tNil)) σ H (.str (PyData.list ds).shown) := fun H1 e Q q => h H1 e _ fun p H2 n2 e2 l2 =>
  ⟨p, .list ds, rfl, .lst (.inl l2) (RDs.mono (e.trans e2) r), h1, h2, h3, q H2 e2⟩
theorem el_rep {ta : TE} {σ : St} {H : Hp} {xs : List V} {n : Nat} (h : EvL ta σ H xs) (small : xs.length * n ≤ 100000) (sn : n ≤ 1000) : EvL (tOp rRep ta (tC (.int (n : Int)))) σ H (List.replicate n xs).flatten := fun H1 e Q q =>
  h H1 e _ fun p H2 n2 e2 l2 => ⟨p, (n : Int), xs, rfl, rfl, l2, by omega, by omega, by rw [Int.toNat_natCast]; exact Evl.sz_of small, fun r nr => by
    rw [Int.toNat_natCast]
    exact q r _ (Evl.fresh_back e2 nr) (e2.trans (Evl.Ex.new nr)) upd_same⟩
theorem rowAt {c : Nat → Addr} : ∀ i, i < 19 → ∃ o, (rows c)[i]? = some (c i, o)
  | 0, _ => ⟨_, rfl⟩
  | 1, _ => ⟨_, rfl⟩
  | 2, _ => ⟨_, rfl⟩
  | 3, _ => ⟨_, rfl⟩
  | 4, _ => ⟨_, rfl⟩
  | 5, _ => ⟨_, rfl⟩
  | 6, _ => ⟨_, rfl⟩
  | 7, _ => ⟨_, rfl⟩
  | 8, _ => ⟨_, rfl⟩
  | 9, _ => ⟨_, rfl⟩
  | 10, _ => ⟨_, rfl⟩
  | 11, _ => ⟨_, rfl⟩
  | 12, _ => ⟨_, rfl⟩
  | 13, _ => ⟨_, rfl⟩
  | 14, _ => ⟨_, rfl⟩
  | 15, _ => ⟨_, rfl⟩
  | 16, _ => ⟨_, rfl⟩
  | 17, _ => ⟨_, rfl⟩
  | 18, _ => ⟨_, rfl⟩
  | i + 19, h => absurd h (by omega)
theorem isxAt {c : Nat → Addr} {H : Hp} {v : V} {as : List Addr} (h : XL H v as (rows c)) {i : Nat} (hi : i < 19) : ∃ a, as[i]? = some a ∧ IsX H (c i) a := by
  obtain ⟨o, e⟩ := rowAt (c := c) i hi
  obtain ⟨a, e1, q⟩ := h.at e
  refine ⟨a, e1, ?_⟩
  cases o with
  | none => exact .inl q
  | some f =>
    obtain ⟨d, h1, h2⟩ := q
    exact .inr ⟨d, _, h1, h2⟩
def letters : List Str := ["v", "v", "v", "v", "k", "k", "i", "v", "v", "v", "v", "v", "v", "o", "v", "v", "r", "r", "r"]
theorem dpStrs {K : PySem.W.Frag} {H : Hp} : ∀ ss : List Str, DpAll K H (ss.map V.str) (ss.map PyData.str)
  | [] => .nil
  | n :: ns => .cons (.str n) (dpStrs ns)
theorem dpBools {K : PySem.W.Frag} {H : Hp} : ∀ bs : List Bool, DpAll K H (bs.map V.bl) (bs.map PyData.bool)
  | [] => .nil
  | n :: ns => .cons (.bl n) (dpBools ns)
theorem layBools : ∀ bs : List Bool, PyData.canLayAll0 (bs.map PyData.bool) = true ∧ PyData.depthAll (bs.map PyData.bool) = 0 ∧ PyData.eqvAll (bs.map PyData.bool) (bs.map PyData.bool) = true
  | [] => by simp [PyData.canLayAll0, PyData.depthAll, PyData.eqvAll]
  | b :: bs => by
    obtain ⟨h1, h2, h3⟩ := layBools bs
    simp [PyData.canLayAll0, PyData.canLay0, PyData.depthAll, PyData.depth, PyData.eqvAll, PyData.eqv, h1, h2, h3]
theorem shBools (bs : List Bool) : SeqAt.shaped (.list (bs.map PyData.bool)) = true ∧ PyData.eqv (.list (bs.map PyData.bool)) (.list (bs.map PyData.bool)) = true := by
  obtain ⟨h1, h2, h3⟩ := layBools bs
  constructor
  · show (PyData.canLay0 (.list (bs.map .bool)) && decide (PyData.depth (.list (bs.map .bool)) ≤ 64)) = true
    rw [Bool.and_eq_true]
    refine ⟨by simp only [PyData.canLay0]; exact h1, decide_eq_true ?_⟩
    simp only [PyData.depth]
    omega
  · simp only [PyData.eqv]
    exact h3
theorem shLet : SeqAt.shaped (.list (letters.map PyData.str)) = true := by decide +kernel
theorem eqLet : PyData.eqv (.list (letters.map PyData.str)) (.list (letters.map PyData.str)) = true := by decide +kernel
theorem givenLet : Evl.given 19 (fun _ => true) (fun i => V.str ((["v", "k", "i", "o", "r"] : List Str).getD (py i) "")) = letters.map V.str := by decide +kernel
theorem dueLet : ((((((List.replicate 4 [V.str "v"]).flatten ++ (List.replicate 2 [V.str "k"]).flatten) ++ [V.str "i"]) ++ (List.replicate 6 [V.str "v"]).flatten ++ [V.str "o"]) ++ (List.replicate 2 [V.str "v"]).flatten) ++ (List.replicate 3 [V.str "r"]).flatten) = letters.map V.str := by decide +kernel
/-- two equal lists are not unequal -/
theorem rv_same {K : PySem.W.Frag} {H : Hp} {p q : Addr} {xs : List V} {ds : List PyData} (hp : SqL K H p xs) (hq : SqL K H q xs) (h : ∀ H1, DpAll K H1 xs ds) (sh : SeqAt.shaped (.list ds) = true) (e : PyData.eqv (.list ds) (.list ds) = true) :
    Evl.RV (rNeD K) (.ref p) (.ref q) H (.bl false) := fun H1 ex Q z =>
  ⟨.list ds, .list ds, .lst (Evl.ex_l ex hp) (h H1), .lst (Evl.ex_l ex hq) (h H1), sh, sh, by rw [e]; exact z H1 (Evl.Ex.refl _)⟩
theorem decI (i k : Nat) : decide (V.int (i : Int) = V.int (k : Int)) = decide (i = k) := by
  by_cases h : i = k
  · subst h
    simp
  · rw [decide_eq_false h, decide_eq_false]
    intro z
    exact h (Int.ofNat.inj (V.int.inj z))
end K96

set_option maxHeartbeats 800000
namespace K96
open PySem PySem.Spec PyProof.Rows L2 Ev Gd
open Evl (EvL EvA EvT RC SpL SpV)
section
variable {P : Program} {w : World} {K : PySem.W.Frag} {mg : Str → Option Value} {base : Heap} {c fi : Nat → Addr} {fd : Nat → FuncData}
/-- the defs of the law -/
structure Df (P : Program) (w : World) (K : PySem.W.Frag) (mg : Str → Option Value) (base : Heap) (c : Nat → Addr) (x : Str) (i : Nat) (ps : List Str) (k : Nat) (sp : Sp) (f : Addr) (fd : FuncData) : Prop where
  F : FnOk P w K mg base CX0 k f fd ps sp
  b : Binds K fd ps []
  g : mg x = some (.ref f)
  kp : PySem.W.keepIn K (.ref f) = true
def spLaw (K : PySem.W.Frag) : Sp := fun vs H Q _ => ∃ (a : Addr) (ns : List Int), vs = [V.ref a] ∧ SqL K H a (ns.map V.int) ∧ ns.length ≤ 63 ∧ ∀ H', Q (.bl true) H'
abbrev NL : List Str := ["_law_script", "_law_due", "_law_thing", "_law_some", "_law_spot", "_law_one", "_law_at"]
theorem scLaw : FnScope NL ["_law_script"] (defScope (top 27)) := ⟨rfl, rfl, rfl, by decide +kernel, rfl, by decide +kernel, by decide +kernel⟩
variable {f1 f2 f3 f4 f5 f6 : Addr} {d1 d2 d3 d4 d5 d6 : FuncData}
theorem sp_fields {H : Hp} {p : Addr} {as : List Addr} {v : V} (hp : H p = some (.lst (as.map V.ref))) (h : XL H v as (rows c)) : SpL (spFields c) ([.ref p] ++ []) H (List.replicate 14 v) := fun H1 e Q q E =>
  ⟨p, as, v, rfl, e _ _ hp, h.mono e, fun r H2 e2 n2 l2 => q r H2 n2 e2 l2⟩
theorem sp_py {H : Hp} {a : Addr} {i : Nat} (hi : i < 19) (h : IsX H (c i) a) : SpV (spPy c) ([.ref a] ++ []) H (.str ((["v", "k", "i", "o", "r"] : List Str).getD (py i) "")) := fun H1 e Q q E =>
  ⟨a, i, rfl, hi, h.mono e, fun H2 e2 => q H2 e2⟩
theorem sp_kinds {H : Hp} {a : Addr} {i : Nat} (hi : i < 19) (h : IsX H (c i) a) : SpL (spKinds c) ([.ref a] ++ []) H ((List.range 19).map fun j => V.bl (decide (j = i))) := fun H1 e Q q E =>
  ⟨a, i, rfl, hi, h.mono e, fun p H2 e2 n2 l2 => q p H2 n2 e2 l2⟩
theorem ok_law {f : Addr} {fd0 : FuncData} (F : Fun K "law" "law" (top 27) f fd0) (T : Tx P w K mg base c fi fd) (M : HasMods base)
    (D1 : Df P w K mg base c "_law_values" 21 ["_law_script"] 1 (spVals K) f1 d1) (D2 : Df P w K mg base c "_law_made" 22 ["_law_thing"] 3 (spMade c) f2 d2) (D3 : Df P w K mg base c "_law_named" 23 ["_law_thing"] 3 (spMade c) f3 d3)
    (D4 : Df P w K mg base c "_law_fields" 24 ["_law_some"] 1 (spFields c) f4 d4) (D5 : Df P w K mg base c "_law_kinds" 25 ["_law_thing"] 1 (spKinds c) f5 d5) (D6 : Df P w K mg base c "_law_python" 26 ["_law_thing"] 1 (spPy c) f6 d6) :
    FnG P w K mg base CX0 4 f fd0 ["_law_script"] (spLaw K) := by
  refine F.okG0 scLaw (fun vs H Q E h => ?_) (fun cdv A outer s H vs Q E gd hr h => ?_)
  · obtain ⟨a, ns, rfl, _⟩ := h
    rfl
  · obtain ⟨a, ns, rfl, hs, small, k⟩ := h
    have nd := scLaw.nd
    have hu := hr.units
    have hr1 : Room 1 (A.deeper (envOfC "law" (defScope (top 27)) s.heap.objs.size f cdv)) := hr.mono (by decide)
    refine ⟨_, pss_cons (ps_set (i := 1) nd rfl (Or.inl rfl) (pe_op op_cat (pe_op op_cat (pe_op op_cat (pe_op op_cat (pe_op op_cat (pe_op op_cat
        (pe_op op_rep (pe_lst (pa_cons pe_str pa_nil)) pe_int) (pe_op op_rep (pe_lst (pa_cons pe_str pa_nil)) pe_int)) (pe_lst (pa_cons pe_str pa_nil))) (pe_op op_rep (pe_lst (pa_cons pe_str pa_nil)) pe_int))
        (pe_lst (pa_cons pe_str pa_nil))) (pe_op op_rep (pe_lst (pa_cons pe_str pa_nil)) pe_int)) (pe_op op_rep (pe_lst (pa_cons pe_str pa_nil)) pe_int)))
      (pss_cons (ps_for PassesOwn.never rfl (pi_list (pe_call D1.F hr1 rfl D1.g D1.kp D1.b .nil pass0 (pa_cons (pv 0) pa_nil))) (pg_name (i := 2) nd rfl (Or.inl rfl))
        (pss_one (ps_for PassesOwn.never rfl (pi_tup (pe_tup (pa_cons (pe_call D2.F hr rfl D2.g D2.kp D2.b .nil pass0 (pa_cons (pv 2) pa_nil)) (pa_cons (pe_call D3.F hr rfl D3.g D3.kp D3.b .nil pass0 (pa_cons (pv 2) pa_nil)) pa_nil)))) (pg_name (i := 3) nd rfl (Or.inl rfl))
          (pss_cons (ps_if (PW.pt (pw_or (pt_cmpR op_ne (pe_callB (call_reprD gd hr M) (by rfl) T.repr (by decide +kernel) (pa_cons (pe_call D4.F hr1 rfl D4.g D4.kp D4.b .nil pass0 (pa_cons (pv 3) pa_nil)) pa_nil))
                (pe_callB (call_reprD gd hr M) (by rfl) T.repr (by decide +kernel) (pa_cons (pe_op op_rep (pe_lst (pa_cons (pv 2) pa_nil)) pe_int) pa_nil)) (nomark _))
              (pw_or1 (pt_cmpR (op_neD hu) (pe_lc (own := [("_law_one", 5)]) (g := gName 5) (tt := tYes) (te := tCall (spPy c) [] E0 (tCons (tVar 5) tNil)) rfl nd (pi_list (pv 3)) (blkOk_by (N := NL) (sc := defScope (top 27)) (by decide +kernel)) (fun _ _ _ _ _ => pg_name (i := 5) nd rfl (Or.inl rfl)) (fun _ _ _ _ _ => pts_nil)
                (fun _ _ _ _ _ => pe_call D6.F hr1 rfl D6.g D6.kp D6.b .nil pass0 (pa_cons (pv 5) pa_nil))) (pv 1) (nomark _))))) (pss_one (ps_ret pe_bl)) pss_nil)
          (pss_one (ps_for PassesOwn.never rfl (pi_range1 rfl T.range (pa_cons pe_int pa_nil)) (pg_name (i := 4) nd rfl (Or.inr rfl))
            (pss_one (ps_if (pt_cmpR (op_neD hu) (pe_call D5.F hr1 rfl D5.g D5.kp D5.b .nil pass0 (pa_cons (pe_ix ix_list (pv 3) (pv 4) (fun _ _ => rfl)) pa_nil))
              (pe_lc (own := [("_law_at", 6)]) (g := gName 6) (tt := tYes) (te := tOp rEq (tVar 6) (tVar 4)) rfl nd (pi_range1 rfl T.range (pa_cons pe_int pa_nil)) (blkOk_by (N := NL) (sc := defScope (top 27)) (by decide +kernel)) (fun _ _ _ _ _ => pg_name (i := 6) nd rfl (Or.inl rfl)) (fun _ _ _ _ _ => pts_nil)
                (fun _ _ _ _ _ => pe_cmpR op_eq (pv 6) (pv 4) (nomark _))) (nomark _)) (pss_one (ps_ret pe_bl)) pss_nil))))))))
      (pss_one (ps_ret pe_bl))), ?_⟩
    have str1 : ∀ (z : Str) (H1 : Hp), EvL (tLst (tCons (tC (.str z)) tNil)) (start NL [V.ref a]) H1 [.str z] := fun z H1 => Evl.el_lst (Evl.ea_cons Evl.ev_c Evl.ea_nil) (by simp)
    have strN : ∀ (z : Str) (n : Nat) (H1 : Hp), n ≤ 6 → EvL (tOp rRep (tLst (tCons (tC (.str z)) tNil)) (tC (.int (n : Int)))) (start NL [V.ref a]) H1 (List.replicate n [V.str z]).flatten := fun z n H1 hn => el_rep (str1 z H1) (by simp; omega) (by omega)
    refine Evl.q_asgL (xs := letters.map V.str) ?due fun pd H1 nd1 ed ld => ?_
    case due =>
      rw [← dueLet]
      exact el_catL (el_catL (el_catL (el_catL (el_catL (el_catL (strN "v" 4 H (by decide)) (strN "k" 2 H (by decide)) (by simp)) (str1 "i" H) (by simp)) (strN "v" 6 H (by decide)) (by simp)) (str1 "o" H) (by simp)) (strN "v" 2 H (by decide)) (by simp)) (strN "r" 3 H (by decide)) (by simp)
    have sqd : SqL K H1 pd (letters.map V.str) := .inl (.inl ld)
    refine ⟨_, rfl, a, ns, rfl, Evl.ex_l ed hs, small, fun pv xs H2 e2 lv few good => ⟨pv, rfl, ⟨xs, .inl (.inl lv)⟩, for_list (K := K) (a := pv) (xs := xs)
      (fun i σ H' => ∃ o2 o3 o4 o5 o6 : Option V, σ = [some (.ref a), some (.ref pd), o2, o3, o4, o5, o6] ∧ Evl.Ex H2 H') ⟨none, none, none, none, none, rfl, Evl.Ex.refl _⟩ (fun i σ H' _ ⟨_, _, _, _, _, _, e⟩ => .inl (.inl (e _ _ lv))) ?_ ?_⟩⟩
    case refine_2 =>
      rintro σ H' ⟨o2, o3, o4, o5, o6, rfl, e⟩
      exact k _
    rintro i x σ H3 hx ⟨o2, o3, o4, o5, o6, rfl, e3⟩
    obtain ⟨d, rd, okd⟩ := good x (List.mem_of_getElem? hx)
    obtain ⟨sh1, sh2, sh3⟩ := okList okd
    have sqd3 := Evl.ex_l (e2.trans e3) sqd
    refine ⟨_, rfl, x, rfl, fun as1 p1 H4 s4 x4 l4 => ⟨_, rfl, x, rfl, fun as2 p2 H5 s5 x5 l5 => ⟨by show 2 ≤ sizeLine; decide, fun t nt => ⟨t, rfl, ⟨_, .inl (.inl upd_same)⟩, for_tup (K := K) (a := t) (xs := [.ref p1, .ref p2])
      (fun j σ H' => ∃ o3 o4 o5 o6 : Option V, σ = [some (.ref a), some (.ref pd), some x, o3, o4, o5, o6] ∧ Evl.Ex (upd H5 t (.tup [.ref p1, .ref p2])) H') ⟨o3, o4, o5, o6, rfl, Evl.Ex.refl _⟩
      (fun j σ H' _ ⟨_, _, _, _, _, e⟩ => Evl.st_of (e _ _ upd_same)) ?_ ?_⟩⟩⟩⟩
    case refine_2 =>
      rintro σ H' ⟨o3, o4, o5, o6, rfl, e⟩
      exact ⟨_, _, _, _, _, rfl, e3.trans (Evl.Ex.trans s4 (Evl.Ex.trans s5 (Evl.Ex.trans (Evl.Ex.new nt) e)))⟩
    have e6 : Evl.Ex H5 (upd H5 t (.tup [.ref p1, .ref p2])) := Evl.Ex.new nt
    have rows2 : ∀ (j : Nat) (y : V), ([V.ref p1, V.ref p2] : List V)[j]? = some y → ∃ (p : Addr) (as : List Addr), y = .ref p ∧ H5 p = some (.lst (as.map V.ref)) ∧ XL H5 x as (rows c) := by
      intro j y hy
      match j, hy with
      | 0, hy =>
        cases hy
        exact ⟨p1, as1, rfl, s5 _ _ l4, x4.mono s5⟩
      | 1, hy =>
        cases hy
        exact ⟨p2, as2, rfl, l5, x5⟩
      | j + 2, hy => simp at hy
    rintro j y σ H6 hy ⟨o3', o4', o5', o6', rfl, e7⟩
    obtain ⟨p, as, rfl, lp, xp⟩ := rows2 j y hy
    have e56 : Evl.Ex H5 H6 := e6.trans e7
    have lp6 := e56 _ _ lp
    have xp6 : XL H6 x as (rows c) := xp.mono e56
    have e36 : Evl.Ex H3 H6 := Evl.Ex.trans s4 (Evl.Ex.trans s5 e56)
    have rd6 : RD H6 x d := rd.mono (e3.trans e36)
    have sqd6 := Evl.ex_l e36 sqd3
    have many : (as.map V.ref).length = 19 := by
      rw [List.length_map, xp.len]
      rfl
    have atRow : ∀ i, i < 19 → ∃ a, (as.map V.ref)[i]? = some (V.ref a) ∧ IsX H6 (c i) a := fun i hi => by
      obtain ⟨a, e, q⟩ := isxAt xp6 hi
      exact ⟨a, by rw [List.getElem?_map, e]; rfl, q⟩
    show tSeq _ _ _ _ _
    refine Evl.q_if (b := false) ?test (fun z => nomatch z) fun _ H7 e67 => ?_
    case test =>
      refine Evl.et_or (a := false) (b := false) (Evl.et_test ?t1) fun _ => Evl.et_test ?t2
      case t1 =>
        have A : Evl.Ev _ [some (V.ref a), some (.ref pd), some x, some (.ref p), o4', o5', o6'] H6 (.str (PyData.list (List.replicate 14 d)).shown) :=
          ev_reprL (Evl.el_call (dvs := []) (E := E0) (Evl.ea_cons (Evl.ev_var (i := 3) (by rfl)) Evl.ea_nil) (sp_fields lp6 xp6)) (rdsRep rd6 14) sh1 sh2 sh3
        have B : Evl.Ev _ [some (V.ref a), some (.ref pd), some x, some (.ref p), o4', o5', o6'] H6 (.str (PyData.list (List.replicate 14 d)).shown) :=
          ev_reprL (el_rep (n := 14) (Evl.el_lst (Evl.ea_cons (Evl.ev_var (i := 2) (by rfl)) Evl.ea_nil) (by simp)) (by simp) (by decide)) (by rw [show (List.replicate 14 [x]).flatten = List.replicate 14 x from rfl]; exact rdsRep rd6 14) sh1 sh2 sh3
        refine Evl.ev_is (Evl.ev_op A B (Evl.rv_ne rfl)) ?_
        simp
      case t2 =>
        refine Evl.ev_opL1 (y := .ref pd) (Evl.el_lcL (K := K) (a := p) (xs := as.map V.ref) (fun _ => true) (fun i => V.str ((["v", "k", "i", "o", "r"] : List Str).getD (py i) "")) (Evl.ev_var (by rfl)) (.inl (.inl lp6)) (by rw [many]; decide) (fun _ => rfl) (fun _ _ _ _ _ => fun H2 _ Q q => q H2 (Evl.Ex.refl _)) ?el)
          (fun H7 e67 => Evl.ev_var (by rfl)) fun r H7 hr7 e67 => ?cmp
        case el =>
          intro i y H7 e67 hy _
          have hi : i < 19 := by
            have := (List.getElem?_eq_some_iff.mp hy).1
            omega
          obtain ⟨b, eb, xb⟩ := atRow i hi
          rw [eb] at hy
          cases hy
          exact Evl.ev_call (Evl.ea_cons (Evl.ev_var (by rfl)) Evl.ea_nil) (sp_py hi (xb.mono e67))
        case cmp =>
          rw [many, givenLet] at hr7
          exact rv_same (.inl (.inl hr7)) (Evl.ex_l e67 sqd6) (fun _ => dpStrs letters) shLet eqLet
    refine Evl.s_forR1 (n := 19) (Evl.ea_cons Evl.ev_c Evl.ea_nil) (by decide) (fun i σ H' => ∃ o4 o5 o6 : Option V, σ = [some (.ref a), some (.ref pd), some x, some (.ref p), o4, o5, o6] ∧ Evl.Ex H7 H')
      (fun H8 e8 => ⟨_, _, _, rfl, e8⟩) ?_ ?_
    · rintro i σ H8 hi ⟨o4'', o5'', o6'', rfl, e78⟩
      have hi' : i < 19 := by omega
      have e68 := e67.trans e78
      obtain ⟨b, eb, xb⟩ := atRow i hi'
      have ixb : atI (as.map V.ref) (i : Int) = some (V.ref b) := by
        unfold atI
        rw [Evl.ixN_nat (by rw [many]; exact hi')]
        exact eb
      refine Evl.s_if (b := false) (Evl.et_test ?t3) (fun z => nomatch z) fun _ H9 e89 => ?_
      case t3 =>
        refine Evl.ev_opLL (Evl.el_call (Evl.ea_cons (x := .ref b) (Evl.ev_op (Evl.ev_var (by rfl)) (Evl.ev_var (by rfl)) (Evl.rv_ixL (.inl (.inl (e68 _ _ lp6))) ixb)) Evl.ea_nil) (sp_kinds hi' (xb.mono e68)))
          (Evl.el_lcR1 (n := 19) (fun _ => true) (fun j => V.bl (decide (j = i))) (Evl.ea_cons Evl.ev_c Evl.ea_nil) (by decide) (fun _ => rfl) (fun _ _ _ _ => fun H2 _ Q q => q H2 (Evl.Ex.refl _)) ?el2) fun r1 r2 H9 h1 h2 e89 => ?cmp2
        case el2 =>
          intro j H9 e89 hj _
          refine Evl.ev_is (Evl.ev_op (Evl.ev_var (v := .int (j : Int)) (by rfl)) (Evl.ev_var (v := .int (i : Int)) (by rfl)) (Evl.rv_eq rfl)) ?_
          rw [decI]
        case cmp2 =>
          have g : Evl.given ((19 : Int).toNat) (fun _ => true) (fun j => V.bl (decide (j = i))) = (List.range 19).map fun j => V.bl (decide (j = i)) := by
            unfold Evl.given
            rw [List.filter_eq_self.mpr fun _ _ => rfl]
            rfl
          rw [g] at h2
          have m : ((List.range 19).map fun j => V.bl (decide (j = i))) = ((List.range 19).map fun j => decide (j = i)).map V.bl := by
            rw [List.map_map]
            rfl
          rw [m] at h1 h2
          obtain ⟨sb, eb2⟩ := shBools ((List.range 19).map fun j => decide (j = i))
          exact rv_same (.inl (.inl h1)) (.inl (.inl h2)) (fun _ => dpBools _) sb eb2
      exact ⟨_, _, _, rfl, e78.trans e89⟩
    · rintro σ H8 ⟨o4'', o5'', o6'', rfl, e78⟩
      exact ⟨_, _, _, _, rfl, e7.trans (e67.trans e78)⟩
end
end K96

set_option maxHeartbeats 800000
namespace K96
open PySem PySem.Spec PyProof.Rows L2 Ev Gd
theorem tlV : Tl [.type "ValueError", .type "Exception", .type "BaseException", .type "object"] "ValueError" := ⟨by decide +kernel, by decide +kernel, by decide +kernel, by decide +kernel, by decide +kernel, fun _ => by kernel_rfl⟩
theorem tlK : Tl [.type "KeyError", .type "LookupError", .type "Exception", .type "BaseException", .type "object"] "LookupError" := ⟨by decide +kernel, by decide +kernel, by decide +kernel, by decide +kernel, by decide +kernel, fun _ => by kernel_rfl⟩
theorem tlI : Tl [.type "IndexError", .type "LookupError", .type "Exception", .type "BaseException", .type "object"] "IndexError" := ⟨by decide +kernel, by decide +kernel, by decide +kernel, by decide +kernel, by decide +kernel, fun _ => by kernel_rfl⟩
theorem tlO : Tl [.type "OverflowError", .type "ArithmeticError", .type "Exception", .type "BaseException", .type "object"] "OverflowError" := ⟨by decide +kernel, by decide +kernel, by decide +kernel, by decide +kernel, by decide +kernel, fun _ => by kernel_rfl⟩
theorem tlR : Tl [.type "RuntimeError", .type "Exception", .type "BaseException", .type "object"] "RuntimeError" := ⟨by decide +kernel, by decide +kernel, by decide +kernel, by decide +kernel, by decide +kernel, fun _ => by kernel_rfl⟩
/-- a class as the top has left it -/
structure CFx (K : PySem.W.Frag) (x : Str) (C : Addr) (tl : List Value) (newId : String) : Prop where
  a : PySem.W.nsIn K mainGlobals x = some (some (.ref C))
  l : ∃ nm q N bs sn sub ab col dd k0 k1 k2 k3 k5, K.lookup C = some (excClassObj nm q C N bs tl true sn sub ab col dd k0 k1 k2 k3 k5 newId)
  sa : PySem.W.findIn K (.ref C) "__setattr__" = some (some (.builtin "object.__setattr__"))
  hg : PySem.W.findIn K (.ref C) "__getattribute__" = some (some (.builtin "BaseException.__getattribute__"))
  hk : PySem.W.findIn K (.ref C) "__getattr__" = some none
  hs : PySem.W.subIn K (.ref C) (.type "BaseException") = some true
  hd : PySem.W.hasDictIn K C = true
  ha : PySem.W.findIn K (.ref C) "__class__" = some (some (.builtin "object.__class__"))
  hm : PySem.W.mroIn K C (.type "object") = some true
  kp : PySem.W.keepIn K (.ref C) = true
structure Cm (K : PySem.W.Frag) : Prop where
  hn : PySem.W.specialIn K (.builtin "object.__class__") "__get__" = some (some (.builtin "getset_descriptor.__get__"))
  ht : PySem.W.takesIn K (.builtin "object.__class__") = some true
theorem CFx.x {K : PySem.W.Frag} {x : Str} {C : Addr} {tl bmB : List Value} {newId initId B : String} (h : CFx K x C tl newId) (m : Cm K) (t : Tl tl B) (F : ExcBaseFacts B newId initId bmB) : XC K C := by
  obtain ⟨nm, q, N, bs, sn, sub, ab, col, dd, k0, k1, k2, k3, k5, l⟩ := h.l
  exact ⟨⟨nm, q, N, bs, tl, sn, sub, ab, col, dd, k0, k1, k2, k3, k5, B, newId, initId, bmB, l, t, F⟩, h.sa, ⟨h.hg, h.hk, h.hs, h.hd, h.ha, m.hn, m.ht, h.hm⟩, h.kp⟩
/-- a def as the top has left it -/
def HasFn (K : PySem.W.Frag) (x qual : Str) (st : Stmt) (f : Addr) : Prop := ∃ (oc : Value) (od : Option Addr) (kV doc pm : Value) (an : Option Addr) (cdv ct : Value) (osl : Array (Option Value)),
  K.lookup f = some ⟨oc, od, .func (PySem.W.fnOf x qual (defArgs st) (defBody st) (defScope st) .none kV doc pm an cdv ct), osl⟩ ∧ PySem.W.codeIn K cdv qual = true ∧ PySem.W.keepIn K (.ref f) = true
theorem hasFn_mk {K : PySem.W.Frag} {x qual : Str} {st : Stmt} {f : Addr} {oc : Value} {od : Option Addr} {kV doc pm : Value} {an : Option Addr} {cdv ct : Value} {osl : Array (Option Value)}
    (l : K.lookup f = some ⟨oc, od, .func (PySem.W.fnOf x qual (defArgs st) (defBody st) (defScope st) .none kV doc pm an cdv ct), osl⟩) (c : PySem.W.codeIn K cdv qual = true) (k : PySem.W.keepIn K (.ref f) = true) : HasFn K x qual st f :=
  ⟨oc, od, kV, doc, pm, an, cdv, ct, osl, l, c, k⟩
theorem cls_mk {K : PySem.W.Frag} {C : Addr} {tl : List Value} {newId : String} {nm q : Str} {N : Addr} {bs : List Value} {sn : List Str} {sub : List Value} {ab : Bool} {col : Option Bool} {dd : Option Addr} {k0 k1 k2 k3 k5 : Option Value}
    (l : K.lookup C = some (excClassObj nm q C N bs tl true sn sub ab col dd k0 k1 k2 k3 k5 newId)) : ∃ nm q N bs sn sub ab col dd k0 k1 k2 k3 k5, K.lookup C = some (excClassObj nm q C N bs tl true sn sub ab col dd k0 k1 k2 k3 k5 newId) :=
  ⟨nm, q, N, bs, sn, sub, ab, col, dd, k0, k1, k2, k3, k5, l⟩
theorem HasFn.fn {K : PySem.W.Frag} {x qual : Str} {st : Stmt} {f : Addr} (h : HasFn K x qual st f) : ∃ fd, Fun K x qual st f fd := by
  obtain ⟨oc, od, kV, doc, pm, an, cdv, ct, osl, l, c, k⟩ := h
  exact ⟨_, fun_mk l c k⟩
theorem kbn_of {K : PySem.W.Frag} {qual f : Str} {st : Stmt} {fI : Addr} {fd : FuncData} (F : Fun K "__init__" qual st fI fd)
    (h1 : ∀ (kV doc pm : Value) (an : Option Addr) (cdv ct a b : Value), bindArgs (PySem.W.fnOf "__init__" qual (defArgs st) (defBody st) (defScope st) .none kV doc pm an cdv ct) ⟨[a, b], []⟩ = pure [(("self" : Str), a), (f, b)])
    (h2 : ∀ (kV doc pm : Value) (an : Option Addr) (cdv ct a b : Value), bindArgs (PySem.W.fnOf "__init__" qual (defArgs st) (defBody st) (defScope st) .none kV doc pm an cdv ct) ⟨[a], [(f, b)]⟩ = pure [(("self" : Str), a), (f, b)]) :
    KBn K fd ["self", f] 2 [] (fun us ws => us ++ ws) (fun us ws => us ++ ws) ∧ KBn K fd ["self", f] 1 [f] (fun us ws => us ++ ws) (fun us ws => us ++ ws) := by
  obtain ⟨oc, od, kV, doc, pm, an, cdv, ct, osl, rfl, lk, hcd⟩ := F.ex
  refine ⟨⟨fun s us ws X l1 l2 => ?_, fun r1 r2 => r1.append r2⟩, ⟨fun s us ws X l1 l2 => ?_, fun r1 r2 => r1.append r2⟩⟩
  · match us, ws, l1, l2 with
    | [a, b], [], _, _ => exact .of_eq (h1 kV doc pm an cdv ct a b)
  · match us, ws, l1, l2 with
    | [a], [b], _, _ => exact .of_eq (h2 kV doc pm an cdv ct a b)
/-- an __init__ as the top has left it -/
structure CFi (K : PySem.W.Frag) (qual f : Str) (st : Stmt) (C fI : Addr) : Prop where
  ini : PySem.W.findIn K (.ref C) "__init__" = some (some (.ref fI))
  fn : PySem.W.typeIn K (.ref fI) = some (.type "function")
  no : PySem.W.findIn K (.ref C) f = some none
  h : HasFn K "__init__" qual st fI
theorem cl_of {P : Program} {w : World} {K : PySem.W.Frag} {mg : Str → Option Value} {base : Heap} {x qual f : Str} {st : Stmt} {C fI : Addr} {p1 p2 p3 p4 : Pos} (X : XC K C) (g : mg x = some (.ref C)) (h : CFi K qual f st C fI)
    (S : FnScope ["self", f] ["self", f] (defScope st)) (eb : defBody st = [.Assign [.Attribute (.Name "self" p1) f p2] (.Name f p3) p4]) (vf : Vis (defScope st) f) (vs' : Vis (defScope st) "self")
    (d1 : (f == ("__debug__" : Str)) = false) (d2 : (f == ("__classdict__" : Str)) = false)
    (h1 : ∀ (kV doc pm : Value) (an : Option Addr) (cdv ct a b : Value), bindArgs (PySem.W.fnOf "__init__" qual (defArgs st) (defBody st) (defScope st) .none kV doc pm an cdv ct) ⟨[a, b], []⟩ = pure [(("self" : Str), a), (f, b)])
    (h2 : ∀ (kV doc pm : Value) (an : Option Addr) (cdv ct a b : Value), bindArgs (PySem.W.fnOf "__init__" qual (defArgs st) (defBody st) (defScope st) .none kV doc pm an cdv ct) ⟨[a], [(f, b)]⟩ = pure [(("self" : Str), a), (f, b)]) :
    ∃ fd, Cl P w K mg base x f C fI fd := by
  obtain ⟨fd, F⟩ := h.h.fn
  obtain ⟨b1, b2⟩ := kbn_of F h1 h2
  exact ⟨fd, ⟨X, h.ini, h.fn⟩, ok_init F S eb (fun _ _ _ => vf) (fun _ _ _ => vs') d1 d2, b1, b2, g, h.no⟩
abbrev fst (i : Nat) : Stmt := inClass (top (i + 1)) 0
theorem sc0 : FnScope ["self", "value"] ["self", "value"] (defScope (inClass (top 1) 0)) := ⟨rfl, rfl, rfl, by decide +kernel, rfl, by decide +kernel, by decide +kernel⟩
theorem sc1 : FnScope ["self", "value"] ["self", "value"] (defScope (inClass (top 2) 0)) := ⟨rfl, rfl, rfl, by decide +kernel, rfl, by decide +kernel, by decide +kernel⟩
theorem sc2 : FnScope ["self", "value"] ["self", "value"] (defScope (inClass (top 3) 0)) := ⟨rfl, rfl, rfl, by decide +kernel, rfl, by decide +kernel, by decide +kernel⟩
theorem sc3 : FnScope ["self", "value"] ["self", "value"] (defScope (inClass (top 5) 0)) := ⟨rfl, rfl, rfl, by decide +kernel, rfl, by decide +kernel, by decide +kernel⟩
theorem sc4 : FnScope ["self", "value"] ["self", "value"] (defScope (inClass (top 13) 0)) := ⟨rfl, rfl, rfl, by decide +kernel, rfl, by decide +kernel, by decide +kernel⟩
theorem sc5 : FnScope ["self", "value"] ["self", "value"] (defScope (inClass (top 14) 0)) := ⟨rfl, rfl, rfl, by decide +kernel, rfl, by decide +kernel, by decide +kernel⟩
theorem sc6 : FnScope ["self", "value"] ["self", "value"] (defScope (inClass (top 15) 0)) := ⟨rfl, rfl, rfl, by decide +kernel, rfl, by decide +kernel, by decide +kernel⟩
theorem sc7 : FnScope ["self", "line"] ["self", "line"] (defScope (inClass (top 4) 0)) := ⟨rfl, rfl, rfl, by decide +kernel, rfl, by decide +kernel, by decide +kernel⟩
theorem sc8 : FnScope ["self", "line"] ["self", "line"] (defScope (inClass (top 7) 0)) := ⟨rfl, rfl, rfl, by decide +kernel, rfl, by decide +kernel, by decide +kernel⟩
theorem sc9 : FnScope ["self", "index"] ["self", "index"] (defScope (inClass (top 6) 0)) := ⟨rfl, rfl, rfl, by decide +kernel, rfl, by decide +kernel, by decide +kernel⟩
theorem sc10 : FnScope ["self", "index"] ["self", "index"] (defScope (inClass (top 8) 0)) := ⟨rfl, rfl, rfl, by decide +kernel, rfl, by decide +kernel, by decide +kernel⟩
theorem sc11 : FnScope ["self", "cycle"] ["self", "cycle"] (defScope (inClass (top 9) 0)) := ⟨rfl, rfl, rfl, by decide +kernel, rfl, by decide +kernel, by decide +kernel⟩
theorem sc12 : FnScope ["self", "better"] ["self", "better"] (defScope (inClass (top 10) 0)) := ⟨rfl, rfl, rfl, by decide +kernel, rfl, by decide +kernel, by decide +kernel⟩
theorem sc13 : FnScope ["self", "limit"] ["self", "limit"] (defScope (inClass (top 16) 0)) := ⟨rfl, rfl, rfl, by decide +kernel, rfl, by decide +kernel, by decide +kernel⟩
def cs (l : List Addr) (i : Nat) : Addr := l.getD i 0
def kitB (K : PySem.W.Frag) (l : List Addr) : Bool := (List.range 19).all fun j => (List.range 19).all fun i => decide (PySem.W.kitOne K (.ref (cs l j)) (.ref (cs l i)) = some (decide (i = j)))
def kipB (K : PySem.W.Frag) (l : List Addr) : Bool := (List.range 19).all fun j => (List.range 6).all fun i => decide (PySem.W.kitOne K (.ref (cs l j)) (.type (pyN i)) = some (decide (i = py j)))
theorem all_mk {l : PySem.W.OpenLaw} {w : World} {K : PySem.W.Frag} {h : Heap} {mg : Str → Option Value} {fa : Addr} (X : K.In h) (G : h.Ns mainGlobals mg) (hfa : mg "law" = some (.ref fa)) {C0 C1 C2 C3 C4 C5 C6 C7 C8 C9 C10 C11 C12 C13 C14 C15 C16 C17 C18 f0 f1 f2 f3 f4 f5 f6 f7 f8 f9 f10 f11 f12 f13 g0 g1 g2 g3 g4 g5 g6 : Addr}
    (cm : Cm K)
    (c0 : CFx K "InvalidNode" C0 [.type "ValueError", .type "Exception", .type "BaseException", .type "object"] "ValueError.__new__")
    (c1 : CFx K "InvalidEdge" C1 [.type "ValueError", .type "Exception", .type "BaseException", .type "object"] "ValueError.__new__")
    (c2 : CFx K "InvalidLength" C2 [.type "ValueError", .type "Exception", .type "BaseException", .type "object"] "ValueError.__new__")
    (c3 : CFx K "InvalidNodes" C3 [.type "ValueError", .type "Exception", .type "BaseException", .type "object"] "ValueError.__new__")
    (c4 : CFx K "UnknownNode" C4 [.type "KeyError", .type "LookupError", .type "Exception", .type "BaseException", .type "object"] "LookupError.__new__")
    (c5 : CFx K "UnknownEdge" C5 [.type "KeyError", .type "LookupError", .type "Exception", .type "BaseException", .type "object"] "LookupError.__new__")
    (c6 : CFx K "OutOfRange" C6 [.type "IndexError", .type "LookupError", .type "Exception", .type "BaseException", .type "object"] "IndexError.__new__")
    (c7 : CFx K "InvalidText" C7 [.type "ValueError", .type "Exception", .type "BaseException", .type "object"] "ValueError.__new__")
    (c8 : CFx K "InvalidCommand" C8 [.type "ValueError", .type "Exception", .type "BaseException", .type "object"] "ValueError.__new__")
    (c9 : CFx K "InvalidChange" C9 [.type "ValueError", .type "Exception", .type "BaseException", .type "object"] "ValueError.__new__")
    (c10 : CFx K "NotPath" C10 [.type "ValueError", .type "Exception", .type "BaseException", .type "object"] "ValueError.__new__")
    (c11 : CFx K "NotCalm" C11 [.type "ValueError", .type "Exception", .type "BaseException", .type "object"] "ValueError.__new__")
    (c12 : CFx K "NotLeast" C12 [.type "ValueError", .type "Exception", .type "BaseException", .type "object"] "ValueError.__new__")
    (c13 : CFx K "TooMany" C13 [.type "OverflowError", .type "ArithmeticError", .type "Exception", .type "BaseException", .type "object"] "OverflowError.__new__")
    (c14 : CFx K "OtherNetwork" C14 [.type "ValueError", .type "Exception", .type "BaseException", .type "object"] "ValueError.__new__")
    (c15 : CFx K "NotJoined" C15 [.type "ValueError", .type "Exception", .type "BaseException", .type "object"] "ValueError.__new__")
    (c16 : CFx K "NothingToUndo" C16 [.type "RuntimeError", .type "Exception", .type "BaseException", .type "object"] "RuntimeError.__new__")
    (c17 : CFx K "NothingToRedo" C17 [.type "RuntimeError", .type "Exception", .type "BaseException", .type "object"] "RuntimeError.__new__")
    (c18 : CFx K "InTrial" C18 [.type "RuntimeError", .type "Exception", .type "BaseException", .type "object"] "RuntimeError.__new__")
    (i0 : CFi K "InvalidNode.__init__" "value" (inClass (top 1) 0) C0 f0)
    (i1 : CFi K "InvalidEdge.__init__" "value" (inClass (top 2) 0) C1 f1)
    (i2 : CFi K "InvalidLength.__init__" "value" (inClass (top 3) 0) C2 f2)
    (i3 : CFi K "InvalidNodes.__init__" "value" (inClass (top 5) 0) C3 f3)
    (i4 : CFi K "UnknownNode.__init__" "value" (inClass (top 13) 0) C4 f4)
    (i5 : CFi K "UnknownEdge.__init__" "value" (inClass (top 14) 0) C5 f5)
    (i6 : CFi K "OutOfRange.__init__" "value" (inClass (top 15) 0) C6 f6)
    (i7 : CFi K "InvalidText.__init__" "line" (inClass (top 4) 0) C7 f7)
    (i8 : CFi K "InvalidCommand.__init__" "line" (inClass (top 7) 0) C8 f8)
    (i9 : CFi K "InvalidChange.__init__" "index" (inClass (top 6) 0) C9 f9)
    (i10 : CFi K "NotPath.__init__" "index" (inClass (top 8) 0) C10 f10)
    (i11 : CFi K "NotCalm.__init__" "cycle" (inClass (top 9) 0) C11 f11)
    (i12 : CFi K "NotLeast.__init__" "better" (inClass (top 10) 0) C12 f12)
    (i13 : CFi K "TooMany.__init__" "limit" (inClass (top 16) 0) C13 f13)
    (e14 : PySem.W.excIn K C14 [.type "ValueError", .type "Exception", .type "BaseException", .type "object"] "ValueError.__new__" = true)
    (e15 : PySem.W.excIn K C15 [.type "ValueError", .type "Exception", .type "BaseException", .type "object"] "ValueError.__new__" = true)
    (e16 : PySem.W.excIn K C16 [.type "RuntimeError", .type "Exception", .type "BaseException", .type "object"] "RuntimeError.__new__" = true)
    (e17 : PySem.W.excIn K C17 [.type "RuntimeError", .type "Exception", .type "BaseException", .type "object"] "RuntimeError.__new__" = true)
    (e18 : PySem.W.excIn K C18 [.type "RuntimeError", .type "Exception", .type "BaseException", .type "object"] "RuntimeError.__new__" = true)
    (n0 : PySem.W.nsIn K mainGlobals "_law_values" = some (some (.ref g0))) (h0 : HasFn K "_law_values" "_law_values" (top 21) g0)
    (n1 : PySem.W.nsIn K mainGlobals "_law_made" = some (some (.ref g1))) (h1 : HasFn K "_law_made" "_law_made" (top 22) g1)
    (n2 : PySem.W.nsIn K mainGlobals "_law_named" = some (some (.ref g2))) (h2 : HasFn K "_law_named" "_law_named" (top 23) g2)
    (n3 : PySem.W.nsIn K mainGlobals "_law_fields" = some (some (.ref g3))) (h3 : HasFn K "_law_fields" "_law_fields" (top 24) g3)
    (n4 : PySem.W.nsIn K mainGlobals "_law_kinds" = some (some (.ref g4))) (h4 : HasFn K "_law_kinds" "_law_kinds" (top 25) g4)
    (n5 : PySem.W.nsIn K mainGlobals "_law_python" = some (some (.ref g5))) (h5 : HasFn K "_law_python" "_law_python" (top 26) g5)
    (n6 : PySem.W.nsIn K mainGlobals "law" = some (some (.ref g6))) (h6 : HasFn K "law" "law" (top 27) g6)
    (b0 : PySem.W.nsIn K mainGlobals "isinstance" = some none)
    (b1 : PySem.W.nsIn K mainGlobals "int" = some none)
    (b2 : PySem.W.nsIn K mainGlobals "range" = some none)
    (b3 : PySem.W.nsIn K mainGlobals "repr" = some none)
    (b4 : PySem.W.nsIn K mainGlobals "abs" = some none)
    (b5 : PySem.W.nsIn K mainGlobals "sum" = some none)
    (b6 : PySem.W.nsIn K mainGlobals "len" = some none)
    (b7 : PySem.W.nsIn K mainGlobals "ValueError" = some none)
    (b8 : PySem.W.nsIn K mainGlobals "KeyError" = some none)
    (b9 : PySem.W.nsIn K mainGlobals "IndexError" = some none)
    (b10 : PySem.W.nsIn K mainGlobals "OverflowError" = some none)
    (b11 : PySem.W.nsIn K mainGlobals "RuntimeError" = some none)
    (b12 : PySem.W.nsIn K mainGlobals "TypeError" = some none)
    (kit : kitB K [C0, C1, C2, C3, C4, C5, C6, C7, C8, C9, C10, C11, C12, C13, C14, C15, C16, C17, C18] = true) (kip : kipB K [C0, C1, C2, C3, C4, C5, C6, C7, C8, C9, C10, C11, C12, C13, C14, C15, C16, C17, C18] = true) :
    ∃ fd : FuncData, (∀ (s : Shared) (v : Value), BindsTo s fd ⟨[v], []⟩ [("_law_script", v)]) ∧ ∀ base : Heap, K.In base → base.Ns mainGlobals mg → HasMods base → FnG l.prog w K mg base CX0 4 fa fd ["_law_script"] (spLaw K) := by
  have e := hfa.symm.trans (PySem.W.mg_of X G n6)
  cases e
  have x0 : XC K C0 := c0.x cm tlV PySem.F.excBase_ValueError
  have x1 : XC K C1 := c1.x cm tlV PySem.F.excBase_ValueError
  have x2 : XC K C2 := c2.x cm tlV PySem.F.excBase_ValueError
  have x3 : XC K C3 := c3.x cm tlV PySem.F.excBase_ValueError
  have x4 : XC K C4 := c4.x cm tlK PySem.F.excBase_LookupError
  have x5 : XC K C5 := c5.x cm tlK PySem.F.excBase_LookupError
  have x6 : XC K C6 := c6.x cm tlI PySem.F.excBase_IndexError
  have x7 : XC K C7 := c7.x cm tlV PySem.F.excBase_ValueError
  have x8 : XC K C8 := c8.x cm tlV PySem.F.excBase_ValueError
  have x9 : XC K C9 := c9.x cm tlV PySem.F.excBase_ValueError
  have x10 : XC K C10 := c10.x cm tlV PySem.F.excBase_ValueError
  have x11 : XC K C11 := c11.x cm tlV PySem.F.excBase_ValueError
  have x12 : XC K C12 := c12.x cm tlV PySem.F.excBase_ValueError
  have x13 : XC K C13 := c13.x cm tlO PySem.F.excBase_OverflowError
  have x14 : XC K C14 := c14.x cm tlV PySem.F.excBase_ValueError
  have x15 : XC K C15 := c15.x cm tlV PySem.F.excBase_ValueError
  have x16 : XC K C16 := c16.x cm tlR PySem.F.excBase_RuntimeError
  have x17 : XC K C17 := c17.x cm tlR PySem.F.excBase_RuntimeError
  have x18 : XC K C18 := c18.x cm tlR PySem.F.excBase_RuntimeError
  obtain ⟨d0, F0⟩ := h0.fn
  have B0 := F0.binds (ps := ["_law_script"]) fun _ _ _ _ _ _ us hl => match us, hl with | [_], _ => rfl
  obtain ⟨d1, F1⟩ := h1.fn
  have B1 := F1.binds (ps := ["_law_thing"]) fun _ _ _ _ _ _ us hl => match us, hl with | [_], _ => rfl
  obtain ⟨d2, F2⟩ := h2.fn
  have B2 := F2.binds (ps := ["_law_thing"]) fun _ _ _ _ _ _ us hl => match us, hl with | [_], _ => rfl
  obtain ⟨d3, F3⟩ := h3.fn
  have B3 := F3.binds (ps := ["_law_some"]) fun _ _ _ _ _ _ us hl => match us, hl with | [_], _ => rfl
  obtain ⟨d4, F4⟩ := h4.fn
  have B4 := F4.binds (ps := ["_law_thing"]) fun _ _ _ _ _ _ us hl => match us, hl with | [_], _ => rfl
  obtain ⟨d5, F5⟩ := h5.fn
  have B5 := F5.binds (ps := ["_law_thing"]) fun _ _ _ _ _ _ us hl => match us, hl with | [_], _ => rfl
  obtain ⟨d6, F6⟩ := h6.fn
  have B6 := F6.binds (ps := ["_law_script"]) fun _ _ _ _ _ _ us hl => match us, hl with | [_], _ => rfl
  obtain ⟨oc, od, kV, doc, pm, an, cdv, ct, osl, el, lk, hcd⟩ := F6.ex
  refine ⟨d6, fun s v => ?_, fun base inB nsB M => ?_⟩
  · rw [el]
    exact .of_eq rfl
  obtain ⟨q0, L0⟩ := cl_of (P := l.prog) (w := w) (base := base) (mg := mg) (x := "InvalidNode") x0 (PySem.W.mg_of X G c0.a) i0 sc0 rfl (.inl rfl) (.inl rfl) (by decide) (by decide) (fun _ _ _ _ _ _ _ _ => rfl) (fun _ _ _ _ _ _ _ _ => rfl)
  obtain ⟨q1, L1⟩ := cl_of (P := l.prog) (w := w) (base := base) (mg := mg) (x := "InvalidEdge") x1 (PySem.W.mg_of X G c1.a) i1 sc1 rfl (.inl rfl) (.inl rfl) (by decide) (by decide) (fun _ _ _ _ _ _ _ _ => rfl) (fun _ _ _ _ _ _ _ _ => rfl)
  obtain ⟨q2, L2⟩ := cl_of (P := l.prog) (w := w) (base := base) (mg := mg) (x := "InvalidLength") x2 (PySem.W.mg_of X G c2.a) i2 sc2 rfl (.inl rfl) (.inl rfl) (by decide) (by decide) (fun _ _ _ _ _ _ _ _ => rfl) (fun _ _ _ _ _ _ _ _ => rfl)
  obtain ⟨q3, L3⟩ := cl_of (P := l.prog) (w := w) (base := base) (mg := mg) (x := "InvalidNodes") x3 (PySem.W.mg_of X G c3.a) i3 sc3 rfl (.inl rfl) (.inl rfl) (by decide) (by decide) (fun _ _ _ _ _ _ _ _ => rfl) (fun _ _ _ _ _ _ _ _ => rfl)
  obtain ⟨q4, L4⟩ := cl_of (P := l.prog) (w := w) (base := base) (mg := mg) (x := "UnknownNode") x4 (PySem.W.mg_of X G c4.a) i4 sc4 rfl (.inl rfl) (.inl rfl) (by decide) (by decide) (fun _ _ _ _ _ _ _ _ => rfl) (fun _ _ _ _ _ _ _ _ => rfl)
  obtain ⟨q5, L5⟩ := cl_of (P := l.prog) (w := w) (base := base) (mg := mg) (x := "UnknownEdge") x5 (PySem.W.mg_of X G c5.a) i5 sc5 rfl (.inl rfl) (.inl rfl) (by decide) (by decide) (fun _ _ _ _ _ _ _ _ => rfl) (fun _ _ _ _ _ _ _ _ => rfl)
  obtain ⟨q6, L6⟩ := cl_of (P := l.prog) (w := w) (base := base) (mg := mg) (x := "OutOfRange") x6 (PySem.W.mg_of X G c6.a) i6 sc6 rfl (.inl rfl) (.inl rfl) (by decide) (by decide) (fun _ _ _ _ _ _ _ _ => rfl) (fun _ _ _ _ _ _ _ _ => rfl)
  obtain ⟨q7, L7⟩ := cl_of (P := l.prog) (w := w) (base := base) (mg := mg) (x := "InvalidText") x7 (PySem.W.mg_of X G c7.a) i7 sc7 rfl (.inl rfl) (.inl rfl) (by decide) (by decide) (fun _ _ _ _ _ _ _ _ => rfl) (fun _ _ _ _ _ _ _ _ => rfl)
  obtain ⟨q8, L8⟩ := cl_of (P := l.prog) (w := w) (base := base) (mg := mg) (x := "InvalidCommand") x8 (PySem.W.mg_of X G c8.a) i8 sc8 rfl (.inl rfl) (.inl rfl) (by decide) (by decide) (fun _ _ _ _ _ _ _ _ => rfl) (fun _ _ _ _ _ _ _ _ => rfl)
  obtain ⟨q9, L9⟩ := cl_of (P := l.prog) (w := w) (base := base) (mg := mg) (x := "InvalidChange") x9 (PySem.W.mg_of X G c9.a) i9 sc9 rfl (.inl rfl) (.inl rfl) (by decide) (by decide) (fun _ _ _ _ _ _ _ _ => rfl) (fun _ _ _ _ _ _ _ _ => rfl)
  obtain ⟨q10, L10⟩ := cl_of (P := l.prog) (w := w) (base := base) (mg := mg) (x := "NotPath") x10 (PySem.W.mg_of X G c10.a) i10 sc10 rfl (.inl rfl) (.inl rfl) (by decide) (by decide) (fun _ _ _ _ _ _ _ _ => rfl) (fun _ _ _ _ _ _ _ _ => rfl)
  obtain ⟨q11, L11⟩ := cl_of (P := l.prog) (w := w) (base := base) (mg := mg) (x := "NotCalm") x11 (PySem.W.mg_of X G c11.a) i11 sc11 rfl (.inl rfl) (.inl rfl) (by decide) (by decide) (fun _ _ _ _ _ _ _ _ => rfl) (fun _ _ _ _ _ _ _ _ => rfl)
  obtain ⟨q12, L12⟩ := cl_of (P := l.prog) (w := w) (base := base) (mg := mg) (x := "NotLeast") x12 (PySem.W.mg_of X G c12.a) i12 sc12 rfl (.inl rfl) (.inl rfl) (by decide) (by decide) (fun _ _ _ _ _ _ _ _ => rfl) (fun _ _ _ _ _ _ _ _ => rfl)
  obtain ⟨q13, L13⟩ := cl_of (P := l.prog) (w := w) (base := base) (mg := mg) (x := "TooMany") x13 (PySem.W.mg_of X G c13.a) i13 sc13 rfl (.inl rfl) (.inl rfl) (by decide) (by decide) (fun _ _ _ _ _ _ _ _ => rfl) (fun _ _ _ _ _ _ _ _ => rfl)
  have T : Tx l.prog w K mg base (cs [C0, C1, C2, C3, C4, C5, C6, C7, C8, C9, C10, C11, C12, C13, C14, C15, C16, C17, C18]) (cs [f0, f1, f2, f3, f4, f5, f6, f7, f8, f9, f10, f11, f12, f13]) (fun i => ([q0, q1, q2, q3, q4, q5, q6, q7, q8, q9, q10, q11, q12, q13] : List FuncData).getD i q0) := {
    cl := fun i hi => match i, hi with
      | 0, _ => L0
      | 1, _ => L1
      | 2, _ => L2
      | 3, _ => L3
      | 4, _ => L4
      | 5, _ => L5
      | 6, _ => L6
      | 7, _ => L7
      | 8, _ => L8
      | 9, _ => L9
      | 10, _ => L10
      | 11, _ => L11
      | 12, _ => L12
      | 13, _ => L13
      | i + 14, h => absurd h (by omega)
    x := fun i hi => match i, hi with
      | 0, _ => x0
      | 1, _ => x1
      | 2, _ => x2
      | 3, _ => x3
      | 4, _ => x4
      | 5, _ => x5
      | 6, _ => x6
      | 7, _ => x7
      | 8, _ => x8
      | 9, _ => x9
      | 10, _ => x10
      | 11, _ => x11
      | 12, _ => x12
      | 13, _ => x13
      | 14, _ => x14
      | 15, _ => x15
      | 16, _ => x16
      | 17, _ => x17
      | 18, _ => x18
      | i + 19, h => absurd h (by omega)
    g := fun i hi => match i, hi with
      | 0, _ => PySem.W.mg_of X G c0.a
      | 1, _ => PySem.W.mg_of X G c1.a
      | 2, _ => PySem.W.mg_of X G c2.a
      | 3, _ => PySem.W.mg_of X G c3.a
      | 4, _ => PySem.W.mg_of X G c4.a
      | 5, _ => PySem.W.mg_of X G c5.a
      | 6, _ => PySem.W.mg_of X G c6.a
      | 7, _ => PySem.W.mg_of X G c7.a
      | 8, _ => PySem.W.mg_of X G c8.a
      | 9, _ => PySem.W.mg_of X G c9.a
      | 10, _ => PySem.W.mg_of X G c10.a
      | 11, _ => PySem.W.mg_of X G c11.a
      | 12, _ => PySem.W.mg_of X G c12.a
      | 13, _ => PySem.W.mg_of X G c13.a
      | 14, _ => PySem.W.mg_of X G c14.a
      | 15, _ => PySem.W.mg_of X G c15.a
      | 16, _ => PySem.W.mg_of X G c16.a
      | 17, _ => PySem.W.mg_of X G c17.a
      | 18, _ => PySem.W.mg_of X G c18.a
      | i + 19, h => absurd h (by omega)
    e0 := e14
    e1 := e15
    e2 := e16
    e3 := e17
    e4 := e18
    kit := fun j hj i hi => of_decide_eq_true (List.all_eq_true.mp (List.all_eq_true.mp kit j (List.mem_range.mpr hj)) i (List.mem_range.mpr hi))
    kip := fun j hj i hi => of_decide_eq_true (List.all_eq_true.mp (List.all_eq_true.mp kip j (List.mem_range.mpr hj)) i (List.mem_range.mpr hi))
    isi := PySem.W.mg_none_of X G b0
    int := PySem.W.mg_none_of X G b1
    range := PySem.W.mg_none_of X G b2
    repr := PySem.W.mg_none_of X G b3
    abs := PySem.W.mg_none_of X G b4
    sum := PySem.W.mg_none_of X G b5
    len := PySem.W.mg_none_of X G b6
    pyg := fun i hi => match i, hi with
      | 0, _ => PySem.W.mg_none_of X G b7
      | 1, _ => PySem.W.mg_none_of X G b8
      | 2, _ => PySem.W.mg_none_of X G b9
      | 3, _ => PySem.W.mg_none_of X G b10
      | 4, _ => PySem.W.mg_none_of X G b11
      | 5, _ => PySem.W.mg_none_of X G b12
      | i + 6, h => absurd h (by omega) }
  exact ok_law F6 T M ⟨ok_vals F0 T, B0, PySem.W.mg_of X G n0, F0.kp⟩ ⟨ok_made F1 T, B1, PySem.W.mg_of X G n1, F1.kp⟩ ⟨ok_named F2 T, B2, PySem.W.mg_of X G n2, F2.kp⟩ ⟨ok_fields F3 T, B3, PySem.W.mg_of X G n3, F3.kp⟩ ⟨ok_kinds F4 T, B4, PySem.W.mg_of X G n4, F4.kp⟩ ⟨ok_py F5 T, B5, PySem.W.mg_of X G n5, F5.kp⟩
end K96

open PySem PySem.W PyProof.Rows
set_option maxRecDepth 100000 in
set_option maxHeartbeats 0 in
theorem PySem.Challenge.cw_lendroads_k96_errors_and_their_fields_holds : PySem.Challenge.rw_lendroads_k96_errors_and_their_fields.Holds := by
  w_on; o_law; k_head; (case hw => w_witness2)
  k_fill
  refine Gd.walkG (l := PySem.Challenge.rw_lendroads_k96_errors_and_their_fields) (n := 63) (k := 4) (x := "_law_script") (CX := fun _ => L2.CX0) (sp := fun w => K96.spLaw _) rfl (by decide) rfl ⟨rfl, by decide, by decide⟩ (by decide +kernel) (fun w h Y => PySem.W.kIn_of Y) ?F
    (fun w H a ns hl _ hS => ⟨a, ns, rfl, hS, hl, fun _ => rfl⟩) (fun _ _ _ _ _ z => z)
  case F =>
    intro w mg fa h KX G hmg
    refine' K96.all_mk KX G hmg ?cm ?c0 ?c1 ?c2 ?c3 ?c4 ?c5 ?c6 ?c7 ?c8 ?c9 ?c10 ?c11 ?c12 ?c13 ?c14 ?c15 ?c16 ?c17 ?c18 ?i0 ?i1 ?i2 ?i3 ?i4 ?i5 ?i6 ?i7 ?i8 ?i9 ?i10 ?i11 ?i12 ?i13 ?e14 ?e15 ?e16 ?e17 ?e18 ?n0 ?h0 ?n1 ?h1 ?n2 ?h2 ?n3 ?h3 ?n4 ?h4 ?n5 ?h5 ?n6 ?h6 ?b0 ?b1 ?b2 ?b3 ?b4 ?b5 ?b6 ?b7 ?b8 ?b9 ?b10 ?b11 ?b12 ?kit ?kip
    (case cm => refine' ⟨?x, ?y⟩; (case x => k_is); (case y => k_is))
    (case c0 => refine' ⟨?a, ?l, ?sa, ?hg, ?hk, ?hs, ?hd, ?ha, ?hm, ?kp⟩; (case a => k_is); (case l => refine' K96.cls_mk ?l; (case l => k_is)); (case sa => k_is); (case hg => k_is); (case hk => k_is); (case hs => k_is); (case hd => k_is); (case ha => k_is); (case hm => k_is); (case kp => k_is))
    (case c1 => refine' ⟨?a, ?l, ?sa, ?hg, ?hk, ?hs, ?hd, ?ha, ?hm, ?kp⟩; (case a => k_is); (case l => refine' K96.cls_mk ?l; (case l => k_is)); (case sa => k_is); (case hg => k_is); (case hk => k_is); (case hs => k_is); (case hd => k_is); (case ha => k_is); (case hm => k_is); (case kp => k_is))
    (case c2 => refine' ⟨?a, ?l, ?sa, ?hg, ?hk, ?hs, ?hd, ?ha, ?hm, ?kp⟩; (case a => k_is); (case l => refine' K96.cls_mk ?l; (case l => k_is)); (case sa => k_is); (case hg => k_is); (case hk => k_is); (case hs => k_is); (case hd => k_is); (case ha => k_is); (case hm => k_is); (case kp => k_is))
    (case c3 => refine' ⟨?a, ?l, ?sa, ?hg, ?hk, ?hs, ?hd, ?ha, ?hm, ?kp⟩; (case a => k_is); (case l => refine' K96.cls_mk ?l; (case l => k_is)); (case sa => k_is); (case hg => k_is); (case hk => k_is); (case hs => k_is); (case hd => k_is); (case ha => k_is); (case hm => k_is); (case kp => k_is))
    (case c4 => refine' ⟨?a, ?l, ?sa, ?hg, ?hk, ?hs, ?hd, ?ha, ?hm, ?kp⟩; (case a => k_is); (case l => refine' K96.cls_mk ?l; (case l => k_is)); (case sa => k_is); (case hg => k_is); (case hk => k_is); (case hs => k_is); (case hd => k_is); (case ha => k_is); (case hm => k_is); (case kp => k_is))
    (case c5 => refine' ⟨?a, ?l, ?sa, ?hg, ?hk, ?hs, ?hd, ?ha, ?hm, ?kp⟩; (case a => k_is); (case l => refine' K96.cls_mk ?l; (case l => k_is)); (case sa => k_is); (case hg => k_is); (case hk => k_is); (case hs => k_is); (case hd => k_is); (case ha => k_is); (case hm => k_is); (case kp => k_is))
    (case c6 => refine' ⟨?a, ?l, ?sa, ?hg, ?hk, ?hs, ?hd, ?ha, ?hm, ?kp⟩; (case a => k_is); (case l => refine' K96.cls_mk ?l; (case l => k_is)); (case sa => k_is); (case hg => k_is); (case hk => k_is); (case hs => k_is); (case hd => k_is); (case ha => k_is); (case hm => k_is); (case kp => k_is))
    (case c7 => refine' ⟨?a, ?l, ?sa, ?hg, ?hk, ?hs, ?hd, ?ha, ?hm, ?kp⟩; (case a => k_is); (case l => refine' K96.cls_mk ?l; (case l => k_is)); (case sa => k_is); (case hg => k_is); (case hk => k_is); (case hs => k_is); (case hd => k_is); (case ha => k_is); (case hm => k_is); (case kp => k_is))
    (case c8 => refine' ⟨?a, ?l, ?sa, ?hg, ?hk, ?hs, ?hd, ?ha, ?hm, ?kp⟩; (case a => k_is); (case l => refine' K96.cls_mk ?l; (case l => k_is)); (case sa => k_is); (case hg => k_is); (case hk => k_is); (case hs => k_is); (case hd => k_is); (case ha => k_is); (case hm => k_is); (case kp => k_is))
    (case c9 => refine' ⟨?a, ?l, ?sa, ?hg, ?hk, ?hs, ?hd, ?ha, ?hm, ?kp⟩; (case a => k_is); (case l => refine' K96.cls_mk ?l; (case l => k_is)); (case sa => k_is); (case hg => k_is); (case hk => k_is); (case hs => k_is); (case hd => k_is); (case ha => k_is); (case hm => k_is); (case kp => k_is))
    (case c10 => refine' ⟨?a, ?l, ?sa, ?hg, ?hk, ?hs, ?hd, ?ha, ?hm, ?kp⟩; (case a => k_is); (case l => refine' K96.cls_mk ?l; (case l => k_is)); (case sa => k_is); (case hg => k_is); (case hk => k_is); (case hs => k_is); (case hd => k_is); (case ha => k_is); (case hm => k_is); (case kp => k_is))
    (case c11 => refine' ⟨?a, ?l, ?sa, ?hg, ?hk, ?hs, ?hd, ?ha, ?hm, ?kp⟩; (case a => k_is); (case l => refine' K96.cls_mk ?l; (case l => k_is)); (case sa => k_is); (case hg => k_is); (case hk => k_is); (case hs => k_is); (case hd => k_is); (case ha => k_is); (case hm => k_is); (case kp => k_is))
    (case c12 => refine' ⟨?a, ?l, ?sa, ?hg, ?hk, ?hs, ?hd, ?ha, ?hm, ?kp⟩; (case a => k_is); (case l => refine' K96.cls_mk ?l; (case l => k_is)); (case sa => k_is); (case hg => k_is); (case hk => k_is); (case hs => k_is); (case hd => k_is); (case ha => k_is); (case hm => k_is); (case kp => k_is))
    (case c13 => refine' ⟨?a, ?l, ?sa, ?hg, ?hk, ?hs, ?hd, ?ha, ?hm, ?kp⟩; (case a => k_is); (case l => refine' K96.cls_mk ?l; (case l => k_is)); (case sa => k_is); (case hg => k_is); (case hk => k_is); (case hs => k_is); (case hd => k_is); (case ha => k_is); (case hm => k_is); (case kp => k_is))
    (case c14 => refine' ⟨?a, ?l, ?sa, ?hg, ?hk, ?hs, ?hd, ?ha, ?hm, ?kp⟩; (case a => k_is); (case l => refine' K96.cls_mk ?l; (case l => k_is)); (case sa => k_is); (case hg => k_is); (case hk => k_is); (case hs => k_is); (case hd => k_is); (case ha => k_is); (case hm => k_is); (case kp => k_is))
    (case c15 => refine' ⟨?a, ?l, ?sa, ?hg, ?hk, ?hs, ?hd, ?ha, ?hm, ?kp⟩; (case a => k_is); (case l => refine' K96.cls_mk ?l; (case l => k_is)); (case sa => k_is); (case hg => k_is); (case hk => k_is); (case hs => k_is); (case hd => k_is); (case ha => k_is); (case hm => k_is); (case kp => k_is))
    (case c16 => refine' ⟨?a, ?l, ?sa, ?hg, ?hk, ?hs, ?hd, ?ha, ?hm, ?kp⟩; (case a => k_is); (case l => refine' K96.cls_mk ?l; (case l => k_is)); (case sa => k_is); (case hg => k_is); (case hk => k_is); (case hs => k_is); (case hd => k_is); (case ha => k_is); (case hm => k_is); (case kp => k_is))
    (case c17 => refine' ⟨?a, ?l, ?sa, ?hg, ?hk, ?hs, ?hd, ?ha, ?hm, ?kp⟩; (case a => k_is); (case l => refine' K96.cls_mk ?l; (case l => k_is)); (case sa => k_is); (case hg => k_is); (case hk => k_is); (case hs => k_is); (case hd => k_is); (case ha => k_is); (case hm => k_is); (case kp => k_is))
    (case c18 => refine' ⟨?a, ?l, ?sa, ?hg, ?hk, ?hs, ?hd, ?ha, ?hm, ?kp⟩; (case a => k_is); (case l => refine' K96.cls_mk ?l; (case l => k_is)); (case sa => k_is); (case hg => k_is); (case hk => k_is); (case hs => k_is); (case hd => k_is); (case ha => k_is); (case hm => k_is); (case kp => k_is))
    (case i0 => refine' ⟨?ini, ?fn, ?no, ?h⟩; (case ini => k_is); (case fn => k_is); (case no => k_is); (case h => refine' K96.hasFn_mk ?l ?c ?k; (case l => k_is); (case c => k_is); (case k => k_is)))
    (case i1 => refine' ⟨?ini, ?fn, ?no, ?h⟩; (case ini => k_is); (case fn => k_is); (case no => k_is); (case h => refine' K96.hasFn_mk ?l ?c ?k; (case l => k_is); (case c => k_is); (case k => k_is)))
    (case i2 => refine' ⟨?ini, ?fn, ?no, ?h⟩; (case ini => k_is); (case fn => k_is); (case no => k_is); (case h => refine' K96.hasFn_mk ?l ?c ?k; (case l => k_is); (case c => k_is); (case k => k_is)))
    (case i3 => refine' ⟨?ini, ?fn, ?no, ?h⟩; (case ini => k_is); (case fn => k_is); (case no => k_is); (case h => refine' K96.hasFn_mk ?l ?c ?k; (case l => k_is); (case c => k_is); (case k => k_is)))
    (case i4 => refine' ⟨?ini, ?fn, ?no, ?h⟩; (case ini => k_is); (case fn => k_is); (case no => k_is); (case h => refine' K96.hasFn_mk ?l ?c ?k; (case l => k_is); (case c => k_is); (case k => k_is)))
    (case i5 => refine' ⟨?ini, ?fn, ?no, ?h⟩; (case ini => k_is); (case fn => k_is); (case no => k_is); (case h => refine' K96.hasFn_mk ?l ?c ?k; (case l => k_is); (case c => k_is); (case k => k_is)))
    (case i6 => refine' ⟨?ini, ?fn, ?no, ?h⟩; (case ini => k_is); (case fn => k_is); (case no => k_is); (case h => refine' K96.hasFn_mk ?l ?c ?k; (case l => k_is); (case c => k_is); (case k => k_is)))
    (case i7 => refine' ⟨?ini, ?fn, ?no, ?h⟩; (case ini => k_is); (case fn => k_is); (case no => k_is); (case h => refine' K96.hasFn_mk ?l ?c ?k; (case l => k_is); (case c => k_is); (case k => k_is)))
    (case i8 => refine' ⟨?ini, ?fn, ?no, ?h⟩; (case ini => k_is); (case fn => k_is); (case no => k_is); (case h => refine' K96.hasFn_mk ?l ?c ?k; (case l => k_is); (case c => k_is); (case k => k_is)))
    (case i9 => refine' ⟨?ini, ?fn, ?no, ?h⟩; (case ini => k_is); (case fn => k_is); (case no => k_is); (case h => refine' K96.hasFn_mk ?l ?c ?k; (case l => k_is); (case c => k_is); (case k => k_is)))
    (case i10 => refine' ⟨?ini, ?fn, ?no, ?h⟩; (case ini => k_is); (case fn => k_is); (case no => k_is); (case h => refine' K96.hasFn_mk ?l ?c ?k; (case l => k_is); (case c => k_is); (case k => k_is)))
    (case i11 => refine' ⟨?ini, ?fn, ?no, ?h⟩; (case ini => k_is); (case fn => k_is); (case no => k_is); (case h => refine' K96.hasFn_mk ?l ?c ?k; (case l => k_is); (case c => k_is); (case k => k_is)))
    (case i12 => refine' ⟨?ini, ?fn, ?no, ?h⟩; (case ini => k_is); (case fn => k_is); (case no => k_is); (case h => refine' K96.hasFn_mk ?l ?c ?k; (case l => k_is); (case c => k_is); (case k => k_is)))
    (case i13 => refine' ⟨?ini, ?fn, ?no, ?h⟩; (case ini => k_is); (case fn => k_is); (case no => k_is); (case h => refine' K96.hasFn_mk ?l ?c ?k; (case l => k_is); (case c => k_is); (case k => k_is)))
    (case e14 => k_exc)
    (case e15 => k_exc)
    (case e16 => k_exc)
    (case e17 => k_exc)
    (case e18 => k_exc)
    (case n0 => k_is)
    (case h0 => refine' K96.hasFn_mk ?l ?c ?k; (case l => k_is); (case c => k_is); (case k => k_is))
    (case n1 => k_is)
    (case h1 => refine' K96.hasFn_mk ?l ?c ?k; (case l => k_is); (case c => k_is); (case k => k_is))
    (case n2 => k_is)
    (case h2 => refine' K96.hasFn_mk ?l ?c ?k; (case l => k_is); (case c => k_is); (case k => k_is))
    (case n3 => k_is)
    (case h3 => refine' K96.hasFn_mk ?l ?c ?k; (case l => k_is); (case c => k_is); (case k => k_is))
    (case n4 => k_is)
    (case h4 => refine' K96.hasFn_mk ?l ?c ?k; (case l => k_is); (case c => k_is); (case k => k_is))
    (case n5 => k_is)
    (case h5 => refine' K96.hasFn_mk ?l ?c ?k; (case l => k_is); (case c => k_is); (case k => k_is))
    (case n6 => k_is)
    (case h6 => refine' K96.hasFn_mk ?l ?c ?k; (case l => k_is); (case c => k_is); (case k => k_is))
    (case b0 => k_is)
    (case b1 => k_is)
    (case b2 => k_is)
    (case b3 => k_is)
    (case b4 => k_is)
    (case b5 => k_is)
    (case b6 => k_is)
    (case b7 => k_is)
    (case b8 => k_is)
    (case b9 => k_is)
    (case b10 => k_is)
    (case b11 => k_is)
    (case b12 => k_is)
    (case kit => kernel_rfl)
    (case kip => kernel_rfl)

