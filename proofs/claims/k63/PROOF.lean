import PyProof.Rows.All
import Wide.All
import OpenK.AllK
import Wide.FinOn
import HandS.ForMost
import HandS.Evl
import HandS.TupAny
import HandS.StrMore
import KE.SortData
import HandS.Property
import HandS.DictComp
import HandS.Defaults
import HandS.OwnEq
import HandS.IsInst
import HandS.Sort
import KE.KDictList
import PyProof.ReprRoads
import HandS.Codes
import HandS.Head0
import HandS.Head1
import HandS.Head2
import HandS.Head3
import HandS.HeadEnd
import HandS.HeadHook1
import HandS.HeadHook2
import HandS.HeadNt
import HandS.FStr
import HandS.Flow
import HandS.TryOnly
import KE.BitLaws
import HandS.Struct
import KE.DataCmp
import HandS.Style
import KE.KDictDisplayH
import HandS.Dict
import HandS.SetFor
import HandS.Iter
import HandS.Star
import PyProof.CallFns
import HandS.RaiseMore
import HandS.More
import KE.DataMinMax
import HandS.Set
import HandS.SetTxt0
import HandS.ClsMeth
import OpenK.KOps
import OpenK.KMeth
import HandS.Small
import PySem.Challenge.RW_lendroads_k63_nearest_nodes
set_option Elab.async false
set_option linter.all false
set_option maxRecDepth 100000
set_option maxHeartbeats 4000000
/-! the source of drawn numbers of a law, as a demon: the one object that a draw changes -/
namespace Lw
open PySem PySem.Spec PyProof.Rows L2
abbrev St := L2.St
/-- the built-in names that the module leaves alone -/
structure Bs (mg : Str → Option Value) (l : List Str) : Prop where
  b : ∀ x, x ∈ l → mg x = none
/-- a def of the module that lets nothing out -/
structure Cf (P : Program) (w : World) (K : PySem.W.Frag) (mg : Str → Option Value) (base : Heap) (x : Str) (ps : List Str) (k : Nat) (sp : Sp) (f : Addr) (fd : FuncData) : Prop where
  F : FnOk P w K mg base CX0 k f fd ps sp
  b : Binds K fd ps []
  g : mg x = some (.ref f)
  kp : PySem.W.keepIn K (.ref f) = true
def noE : XK := fun _ _ _ => False
section
variable {X : Cx} {k n : Nat} {f : Addr} {fd : FuncData} {ps : List Str} {sp : Sp} {x : Str} {p pos : Pos} {e : Expr} {es : List Expr} {t : TA}
theorem pe_cf (C : Cf X.prog X.w X.K X.mg X.base x ps k sp f fd) (hr : Room k X.A) (hg : Gl X x) (ha : PA X (e :: es) t) (hdb : (x == ("__debug__" : Str)) = false := by decide)
    (he : starEach (e :: es) X.env = (false, eval e X.env) :: starEach es X.env := by rfl) (hpl : (backTo pos (starEach es X.env)).any (·.1) = false := by rfl) : PE X (.Call (.Name x p) (e :: es) [] pos) (tCall sp [] noE t) :=
  pe_call C.F hr hg C.g C.kp C.b .nil pass0 ha hdb he hpl
end
theorem hu64 {A : Around} {k : Nat} (hr : Room k A) : A.units + 64 < cLine := hr.units
/-! ### all but one object are kept -/
def But (p : Addr) (H H' : Hp) : Prop := ∀ b o, b ≠ p → H b = some o → H' b = some o
theorem But.refl (p : Addr) (H : Hp) : But p H H := fun _ _ _ h => h
theorem But.trans {p : Addr} {H H1 H2 : Hp} (a : But p H H1) (b : But p H1 H2) : But p H H2 := fun x o n h => b x o n (a x o n h)
theorem But.of {p : Addr} {H H' : Hp} (e : Evl.Ex H H') : But p H H' := fun b o _ h => e b o h
theorem But.put {p : Addr} {H : Hp} {o : HO} : But p H (upd H p o) := fun b u n h => by
  rw [upd_ne n]
  exact h
/-- an object that was not there may change -/
theorem But.mut {p q : Addr} {H H' : Hp} {o : HO} (e : But p H H') (h : H q = none) : But p H (upd H' q o) := fun b u n hb => by
  rw [upd_ne (ne_of_none hb h)]
  exact e b u n hb
theorem But.back {p q : Addr} {H H' : Hp} (e : But p H H') (n : q ≠ p) (h : H' q = none) : H q = none := by
  cases h1 : H q with
  | none => rfl
  | some o =>
    rw [e q o n h1] at h
    cases h
abbrev kC : Key := .inr "cells"
abbrev kU : Key := .inr "used"
abbrev kL : Key := .inr "left"
def penO (c : Addr) (u l : Int) : HO := .dK [(kC, .ref c), (kU, .int u), (kL, .int l)]
/-- a source of drawn numbers stands at p, its cells at c, used at most n times -/
def Pen (p c : Addr) (n : Nat) (H : Hp) : Prop := ∃ (cs : List Int) (u l : Int), H p = some (penO c u l) ∧ H c = some (.lst (cs.map V.int)) ∧ cs.length ≤ 63 ∧ 0 ≤ u ∧ u ≤ n
theorem Pen.le {p c : Addr} {n m : Nat} {H : Hp} (h : Pen p c n H) (q : n ≤ m) : Pen p c m H := by
  obtain ⟨cs, u, l, h1, h2, h3, h4, h5⟩ := h
  exact ⟨cs, u, l, h1, h2, h3, h4, by omega⟩
theorem Pen.ex {p c : Addr} {n : Nat} {H H' : Hp} (h : Pen p c n H) (e : Evl.Ex H H') : Pen p c n H' := by
  obtain ⟨cs, u, l, h1, h2, h3, h4, h5⟩ := h
  exact ⟨cs, u, l, e _ _ h1, e _ _ h2, h3, h4, h5⟩
/-- what is new is neither -/
theorem Pen.far {p c q : Addr} {n : Nat} {H : Hp} (h : Pen p c n H) (e : H q = none) : q ≠ p ∧ q ≠ c := by
  obtain ⟨cs, u, l, h1, h2, _⟩ := h
  refine ⟨fun z => ?_, fun z => ?_⟩
  · rw [z, h1] at e
    exact nomatch e
  · rw [z, h2] at e
    exact nomatch e
theorem Pen.mut {p c q : Addr} {n : Nat} {H : Hp} {o : HO} (h : Pen p c n H) (hq : q ≠ p ∧ q ≠ c) : Pen p c n (upd H q o) := by
  obtain ⟨cs, u, l, h1, h2, h3, h4, h5⟩ := h
  refine ⟨cs, u, l, ?_, ?_, h3, h4, h5⟩
  · rw [upd_ne hq.1.symm]
    exact h1
  · rw [upd_ne hq.2.symm]
    exact h2
/-- an object that was not there stands apart from what was -/
theorem apart {p q : Addr} {H : Hp} {o : HO} (h : H p = some o) (e : H q = none) : q ≠ p := fun z => by
  rw [z, h] at e
  exact nomatch e
theorem s1 : ("cells" : Str) ≠ "used" := by decide +kernel
theorem s2 : ("cells" : Str) ≠ "left" := by decide +kernel
theorem s3 : ("used" : Str) ≠ "left" := by decide +kernel
theorem k1 : kC ≠ kU := by decide +kernel
theorem k2 : kC ≠ kL := by decide +kernel
theorem k3 : kU ≠ kL := by decide +kernel
section
variable {σ : St} {H : Hp} {p c : Addr} {u l : Int} {td ty tv : TE} {tz : TS} {D : Ends}
theorem ev_dget {kvs : List (Key × V)} {k : Key} {v : V} (hp : H p = some (.dK kvs)) (hv : valV kvs k = some v) (ha : Evl.Ev td σ H (.ref p)) (hb : Evl.Ev ty σ H (kV k)) : Evl.Ev (tDGet td ty) σ H v := fun H1 e Q q =>
  ha H1 e _ fun H2 e2 => hb H2 (e.trans e2) _ fun H3 e3 => ⟨p, v, rfl, .inl ⟨kvs, k, .inl (e3 _ _ (e2 _ _ (e _ _ hp))), rfl, hv.symm⟩, q H3 (e2.trans e3)⟩
theorem ev_cells (hp : H p = some (penO c u l)) (ha : Evl.Ev td σ H (.ref p)) : Evl.Ev (tDGet td (tC (.str "cells"))) σ H (.ref c) := ev_dget (k := kC) hp (valV_pos rfl) ha Evl.ev_c
theorem ev_used (hp : H p = some (penO c u l)) (ha : Evl.Ev td σ H (.ref p)) : Evl.Ev (tDGet td (tC (.str "used"))) σ H (.int u) := ev_dget (k := kU) hp ((valV_neg k1).trans (valV_pos rfl)) ha Evl.ev_c
theorem ev_left (hp : H p = some (penO c u l)) (ha : Evl.Ev td σ H (.ref p)) : Evl.Ev (tDGet td (tC (.str "left"))) σ H (.int l) :=
  ev_dget (k := kL) hp ((valV_neg k2).trans ((valV_neg k3).trans (valV_pos rfl))) ha Evl.ev_c
/-- d[k] = v, d at p, the rest as it was -/
theorem q_dput {kvs : List (Key × V)} {k : Key} {v : V} (hp : H p = some (.dK kvs)) (hl : kvs.length < 100000) (hv : Evl.Ev tv σ H v) (ha : Evl.Ev td σ H (.ref p)) (hb : Evl.Ev ty σ H (kV k))
    (q : ∀ H1, Evl.Ex H H1 → tz D σ (upd H1 p (.dK (putK kvs k v)))) : tSeq (sDPut td ty tv) tz D σ H :=
  hv H (Evl.Ex.refl _) _ fun H1 e1 => ha H1 e1 _ fun H2 e2 => hb H2 (e1.trans e2) _ fun H3 e3 => ⟨p, _, rfl, .inl ⟨kvs, k, ((e1.trans e2).trans e3) _ _ hp, rfl, Evl.sz_lt hl, rfl⟩, q H3 ((e1.trans e2).trans e3)⟩
theorem put_used {v : V} : putK [(kC, V.ref c), (kU, .int u), (kL, .int l)] kU v = [(kC, V.ref c), (kU, v), (kL, .int l)] := by
  simp [putK, s1, s3.symm]
theorem put_left {v : V} : putK [(kC, V.ref c), (kU, .int u), (kL, .int l)] kL v = [(kC, V.ref c), (kU, .int u), (kL, v)] := by
  simp [putK, s2, s3]
theorem q_used {v : Int} (hp : H p = some (penO c u l)) (hv : Evl.Ev tv σ H (.int v)) (ha : Evl.Ev td σ H (.ref p)) (q : ∀ H1, Evl.Ex H H1 → tz D σ (upd H1 p (penO c v l))) : tSeq (sDPut td (tC (.str "used")) tv) tz D σ H :=
  q_dput (k := kU) hp (by simp) hv ha Evl.ev_c fun H1 e1 => by
    rw [put_used]
    exact q H1 e1
theorem q_left {v : Int} (hp : H p = some (penO c u l)) (hv : Evl.Ev tv σ H (.int v)) (ha : Evl.Ev td σ H (.ref p)) (q : ∀ H1, Evl.Ex H H1 → tz D σ (upd H1 p (penO c u v))) : tSeq (sDPut td (tC (.str "left")) tv) tz D σ H :=
  q_dput (k := kL) hp (by simp) hv ha Evl.ev_c fun H1 e1 => by
    rw [put_left]
    exact q H1 e1
end
def big : Int := 10 ^ (18 : Int).toNat
theorem rv_big {H : Hp} : Evl.RV (rI CPow fun i j => .int (i ^ j.toNat)) (.int 10) (.int 18) H (.int big) := Evl.rv_I ⟨by decide, by decide, by decide⟩
/-- a draw from 0 to m - 1 -/
def spDraw : Sp := fun vs H Q _ => ∃ (p c : Addr) (m : Int) (n : Nat), vs = [V.ref p, .int m] ∧ Pen p c n H ∧ n ≤ 1000000 ∧ 0 < m ∧ m < 1073741824 ∧ ∀ d H', 0 ≤ d → d < m → But p H H' → Pen p c (n + 1) H' → Q (.int d) H'
end Lw

set_option maxHeartbeats 1000000
namespace Lw
open PySem PySem.Spec PyProof.Rows L2
section
variable {X : Cx}
/-- a list of anything != a list without items -/
def rNeNil (K : PySem.W.Frag) : R2 := fun x y H Q => ∃ a b xs, x = .ref a ∧ y = .ref b ∧ SqL K H a xs ∧ SqL K H b [] ∧ Q (.bl (!xs.isEmpty)) H
theorem op_neNil (hu : X.A.units + 64 < cLine) : OpR X (compareOp .NotEq) (rNeNil X.K) := by
  intro pins s σ H x y v u Q I rx ry h
  obtain ⟨a, b, xs, rfl, rfl, ha, hb, q⟩ := h
  obtain rfl : v = Value.ref a := rx
  obtain rfl : u = Value.ref b := ry
  obtain ⟨us, r1, p1, -⟩ := I.list ha
  obtain ⟨ws, r2, p2, -⟩ := I.list hb
  have e2 : ws = [] := by
    have := r2.length
    exact List.eq_nil_of_length_eq_zero this.symm
  subst e2
  cases xs with
  | nil =>
    have e1 : us = [] := List.eq_nil_of_length_eq_zero r1.length.symm
    subst e1
    refine (SeqAt.RcNeAt.lists (e := fun _ => true) p1.isList p2.isList rfl (by omega) (fun j h1 _ => absurd h1 (Nat.not_lt_zero j))) X.prog X.w _ _ ⟨.bl false, H, I, rfl, q⟩
  | cons z zs =>
    have n1 : us.toArray.size ≠ 0 := by
      rw [List.size_toArray, ← r1.length]
      exact Nat.succ_ne_zero _
    exact (SeqAt.RcNeAt.lists_lengths p1.isList p2.isList (by simpa using n1) (by omega)) X.prog X.w _ _ ⟨.bl true, H, I, rfl, q⟩
end
/-- a while, its test on a list -/
theorem et_neNil {K : PySem.W.Frag} {σ : St} {H : Hp} {ta : TE} {a : Addr} {xs : List V} (h : Evl.Ev ta σ H (.ref a)) (hs : SqL K H a xs) : Evl.EvT (tTest (tOp (rNeNil K) ta (tLst tNil))) σ H (!xs.isEmpty) :=
  Evl.et_test (Evl.ev_opL h (Evl.el_lst Evl.ea_nil (by simp)) fun p H1 hp e H2 e2 Q q => ⟨a, p, xs, rfl, rfl, Evl.ex_l (e.trans e2) hs, .inl (.inl (e2 _ _ hp)), q H2 (Evl.Ex.refl _)⟩)
end Lw
namespace Lw
open PySem PySem.Spec PyProof.Rows L2
/-- if t: x = e, x having a value before -/
theorem q_whenAsg {σ : St} {H : Hp} {D : Ends} {tz : TS} {t : TT} {te : TE} {b : Bool} {i : Nat} (Pv : V → Prop) (h : Evl.EvT t σ H b) (h1 : b = true → ∃ v, Evl.Ev te σ H v ∧ Pv v) (h2 : b = false → ∃ v, σ.set i (some v) = σ ∧ Pv v)
    (k : ∀ v, Pv v → ∀ H1, Evl.Ex H H1 → tz D (σ.set i (some v)) H1) : tSeq (tIfS t (tAsg te (gName i)) tNext) tz D σ H :=
  Evl.q_when h (fun hb H1 e1 => by
    obtain ⟨v, hv, pv⟩ := h1 hb
    exact Evl.s_asg (D := { D with nx := tz D }) (hv.mono e1) fun H2 e2 => k v pv H2 (e1.trans e2)) (fun hb H1 e1 => by
    obtain ⟨v, hs, pv⟩ := h2 hb
    have g := k v pv H1 e1
    rw [hs] at g
    exact g)
/-- an item at a place that is there -/
theorem atI_some {α : Type} {xs : List α} {i : Int} {x : α} (h0 : 0 ≤ i) (h : xs[i.toNat]? = some x) : atI xs i = some x := by
  have hl : i.toNat < xs.length := (List.getElem?_eq_some_iff.mp h).1
  have e : i = (i.toNat : Int) := (Int.toNat_of_nonneg h0).symm
  unfold atI
  rw [e, Evl.ixN_nat hl]
  exact h
end Lw

set_option maxHeartbeats 1000000
namespace Lw
open PySem PySem.Spec PyProof.Rows L2
def rAddS : R2 := fun x y H Q => ∃ i j, x = .str i ∧ y = .str j ∧ i.length + j.length ≤ sizeLine ∧ Q (.str (i ++ j)) H
/-- a comprehension over range(m) whose items may draw, kk times each -/
theorem lcP {p c : Addr} {n kk m : Nat} {σ : St} {H1 : Hp} {te : TE} {j : Nat} {vs : List Nat} {Q : VK} (lo : Int) (Pv : Nat → List V → Hp → Prop) (hP : Pen p c n H1) (hm : m ≤ 1000) (p0 : ∀ H', Evl.Ex H1 H' → Pv 0 [] H') (hw : ∀ x, wipe ((wipe σ vs).set j (some x)) vs = wipe σ vs)
    (pm : ∀ i acc D ys H', (H' D = none ∨ ∃ xs, H' D = some (.lst xs)) → Pv i acc H' → Pv i acc (upd H' D (.lst ys)))
    (hs : ∀ i acc H', i < m → acc.length = i → Pv i acc H' → But p H1 H' → Pen p c (n + kk * i) H' → ∀ Q' : VK, (∀ y H'', Pv (i + 1) (acc ++ [y]) H'' → But p H' H'' → Pen p c (n + kk * (i + 1)) H'' → Q' y H'') → te ((wipe σ vs).set j (some (.int (lo + (i : Nat))))) H' Q')
    (hd : ∀ D acc H', H1 D = none → acc.length = m → Pv m acc H' → But p H1 H' → H' D = some (.lst acc) → Pen p c (n + kk * m) H' → Q (.ref D) H') :
    ∀ D, H1 D = none → ∃ W : Nat → Nat → Hp → Prop, (∃ m, W 0 m (upd H1 D (.lst []))) ∧ ∀ i m' H, W i m' H →
      ((Itr lo m).stop i H ∧ Q (.ref D) H) ∨ ((Itr lo m).go i H ∧ ∃ Nx : Hp → Prop, (∀ H', Nx H' → ∃ m2, m2 < m' ∧ W (i + 1) m2 H') ∧ ∀ x H', (Itr lo m).yld i H x H' → gName j x (wipe σ vs) H' fun σ2 H2 => wipe σ2 vs = wipe σ vs ∧ tYes σ2 H2 fun b H3 => if b = true then te σ2 H3 fun y H4 => ∃ acc, H4 D = some (.lst acc) ∧ acc.length < sizeLine ∧ Nx (upd H4 D (.lst (acc ++ [y]))) else Nx H3) := by
  intro D hD
  have far := hP.far hD
  refine lc_range (lo := lo) (n := m) (fun i H' => ∃ acc : List V, acc.length = i ∧ Pv i acc H' ∧ But p H1 H' ∧ H' D = some (.lst acc) ∧ Pen p c (n + kk * i) H') ⟨[], rfl, pm _ _ _ _ _ (.inl hD) (p0 _ (Evl.Ex.refl _)), (But.refl p H1).mut hD, upd_same, hP.mut far⟩ (fun i H' hi w => ?_)
    (fun H' w => ?_)
  · obtain ⟨acc, la, pa, ba, ha, Pa⟩ := w
    refine ⟨hw _, ?_⟩
    show te ((wipe σ vs).set j (some (.int (lo + (i : Nat))))) H' fun y H4 => ∃ acc, H4 D = some (.lst acc) ∧ acc.length < sizeLine ∧ ∃ acc' : List V, acc'.length = i + 1 ∧ Pv (i + 1) acc' (upd H4 D (.lst (acc ++ [y]))) ∧ But p H1 (upd H4 D (.lst (acc ++ [y]))) ∧ (upd H4 D (.lst (acc ++ [y]))) D = some (.lst acc') ∧ Pen p c (n + kk * (i + 1)) (upd H4 D (.lst (acc ++ [y])))
    refine hs i acc H' hi la pa ba Pa _ fun y H4 p4 b4 P4 => ?_
    exact ⟨acc, b4 _ _ far.1 ha, Evl.sz_lt (by omega), acc ++ [y], by simp [la], pm _ _ _ _ _ (.inr ⟨acc, b4 _ _ far.1 ha⟩) p4, (ba.trans b4).mut hD, upd_same, P4.mut far⟩
  · obtain ⟨acc, la, pa, ba, ha, Pa⟩ := w
    exact hd D acc H' hD la pa ba ha Pa
/-- if t: u, what holds behind it said once -/
theorem q_ifVia {t : TT} {tu tz : TS} {D : Ends} {σ : St} {H : Hp} {b : Bool} (M : St → Hp → Prop) (h : Evl.EvT t σ H b) (h1 : b = true → ∀ H1, Evl.Ex H H1 → ∀ D' : Ends, (∀ σ' H', M σ' H' → D'.nx σ' H') → tu D' σ H1)
    (h2 : b = false → ∀ H1, Evl.Ex H H1 → M σ H1) (k : ∀ σ' H', M σ' H' → tz D σ' H') : tSeq (tIfS t tu tNext) tz D σ H := Evl.q_when h (fun hb H1 e => h1 hb H1 e _ k) (fun hb H1 e => k _ _ (h2 hb H1 e))
/-- a reading cut off from what follows it -/
theorem via {te : TE} {σ : St} {H : Hp} {Q : VK} (S : V → Hp → Prop) (h1 : ∀ Q' : VK, (∀ v H', S v H' → Q' v H') → te σ H Q') (h2 : ∀ v H', S v H' → Q v H') : te σ H Q := h1 Q h2
/-- text * number -/
def rMulS : R2 := fun x y H Q => ∃ (z : Str) (i : Int), x = .str z ∧ y = .int i ∧ MulOk z i ∧ Q (.str (Txt.mul z i)) H
theorem op_mulS {X : Cx} : OpR X (binaryOp .Mult) rMulS := by
  intro pins s σ H x y v u Q I rx ry h
  obtain ⟨z, i, rfl, rfl, ok, q⟩ := h
  obtain ⟨t, rfl⟩ := rx
  obtain ⟨t', rfl⟩ := ry
  exact SB.mul ok fun t2 k => ⟨.str _, H, I.tok k, ⟨t2, rfl⟩, q⟩
/-- int(a bool) -/
def rIntB : List V → Hp → VK → Prop := fun xs H Q => ∃ k, xs = [.bl k] ∧ Q (.int (if k = true then 1 else 0)) H
theorem call_intB {X : Cx} : CallR X (.type "int") rIntB := fun pins s σ H xs us Q I r ⟨k, e, q⟩ => call_int1 pins s σ H xs us Q I r (.inr ⟨k, e, q⟩)
theorem mulOk1 (z : Str) (hz : z.length = 1) (b : Bool) : MulOk z (if b = true then 1 else 0) := by
  cases b
  · exact ⟨by decide, fun h => absurd (by decide) h, fun h => absurd (by decide) h⟩
  · exact ⟨by decide, fun _ h => absurd h (by simp), fun _ h => absurd h (by simp)⟩
/-- a new source of drawn numbers -/
def spPen (K : PySem.W.Frag) : Sp := fun vs H Q _ => ∃ (a : Addr) (ns : List Int), vs = [V.ref a] ∧ SqL K H a (ns.map V.int) ∧ ns.length ≤ 63 ∧ ∀ p c H', Evl.Ex H H' → H p = none → Pen p c 0 H' → Q (.ref p) H'
end Lw

set_option maxHeartbeats 1000000
/-! names: texts of one to eight small letters -/
namespace Lw
open PySem PySem.Spec PyProof.Rows L2
def Low (z : Str) : Prop := ∀ c ∈ z.cps.toList, 97 ≤ c ∧ c ≤ 122
def IsNm (z : Str) : Prop := 0 < z.length ∧ z.length ≤ 8 ∧ Low z
theorem app_cps (a b : Str) : (a ++ b).cps.toList = a.cps.toList ++ b.cps.toList := by
  show (a.cps ++ b.cps).toList = _
  simp
theorem len_cps (a : Str) : a.length = a.cps.toList.length := by
  show a.cps.size = _
  simp
theorem len_app (a b : Str) : (a ++ b).length = a.length + b.length := by
  rw [len_cps, app_cps, List.length_append, ← len_cps, ← len_cps]
theorem ext_cps {a b : Str} (h : a.cps.toList = b.cps.toList) : a = b := by
  cases a
  cases b
  congr 1
  exact Array.toList_inj.mp h
theorem low_app {a b : Str} (ha : Low a) (hb : Low b) : Low (a ++ b) := fun c h => by
  rw [app_cps] at h
  exact (List.mem_append.mp h).elim (ha c) (hb c)
def chr1 (c : Nat) : Str := ⟨#[c]⟩
theorem chr1_cps (c : Nat) : (chr1 c).cps.toList = [c] := rfl
theorem low_chr1 {c : Nat} (h : 97 ≤ c ∧ c ≤ 122) : Low (chr1 c) := fun d hd => by
  rw [chr1_cps] at hd
  rw [List.mem_singleton.mp hd]
  exact h
theorem join_len : ∀ cs : List Nat, (Txt.join "" (cs.map chr1)).cps.toList = cs := by
  intro cs
  rw [show Txt.join "" (cs.map chr1) = Str.join "" (cs.map chr1) from PySem.StrLaws.glued_eq_join _ _]
  induction cs with
  | nil => rfl
  | cons c r ih =>
    cases r with
    | nil => rfl
    | cons d r =>
      show (chr1 c ++ "" ++ Str.join "" ((d :: r).map chr1)).cps.toList = _
      rw [app_cps, app_cps, ih, chr1_cps]
      rfl
theorem cut_to (z : Str) (k : Nat) (h : k ≤ z.length) : (cutS z none (some (k : Int))).cps.toList = z.cps.toList.take k := by
  unfold cutS
  rw [HT.sIx_none, HT.sIx_nat, Nat.min_eq_left h]
  simp
theorem cut_from (z : Str) (k : Nat) (h : k ≤ z.length) : (cutS z (some (k : Int)) none).cps.toList = z.cps.toList.drop k := by
  unfold cutS
  rw [HT.sIx_none, HT.sIx_nat, Nat.min_eq_left h]
  have : (z.cps.toList.drop k).length = z.length - k := by rw [List.length_drop, ← len_cps]
  simp only [← this, List.take_length]
theorem cut_to' (z : Str) (k : Nat) : (cutS z none (some (k : Int))).cps.toList = z.cps.toList.take (min k z.length) := by
  unfold cutS
  rw [HT.sIx_none, HT.sIx_nat]
  simp
theorem mul01 (z : Str) (b : Bool) : (Txt.mul z (if b = true then 1 else 0)).cps.toList = if b = true then z.cps.toList else [] := by
  cases b
  · rfl
  · rfl
theorem mul_len (e : Nat) (b : Bool) : (Txt.mul (chr1 e) (if b = true then 1 else 0)).length ≤ 1 := by
  rw [len_cps, mul01]
  split <;> simp [chr1_cps]
abbrev abc : Str := "abcdefghijklmnopqrstuvwxyz"
theorem abc_at : ∀ i, i < 26 → abc.cps.toList[i]? = some (97 + i) := by decide +kernel
theorem abc_low : ∀ c ∈ abc.cps.toList, 97 ≤ c ∧ c ≤ 122 := by decide +kernel
theorem abc_len : abc.length = 26 := by decide +kernel
/-- the k-th name -/
def told (first step : Int) (many : Int) (k : Nat) : Str := chr1 (97 + ((first + step * k) % 26).toNat) ++ Txt.mul (chr1 (97 + k / 26)) (if decide (26 < many) = true then 1 else 0)
def tail (stem : Str) (at' : Nat) (cut : Int) (k : Nat) : Str := if cut = 0 then cutS stem (some (at' : Int)) none else cutS (cutS stem (some (at' : Int)) none) none (some ((k % 3 : Nat) : Int))
def nameK (stem : Str) (at' : Nat) (cut first step many : Int) (k : Nat) : Str := cutS stem none (some (at' : Int)) ++ told first step many k ++ tail stem at' cut k
theorem told_cps (first step many : Int) (k : Nat) : (told first step many k).cps.toList = (97 + ((first + step * k) % 26).toNat) :: (if decide (26 < many) = true then [97 + k / 26] else []) := by
  unfold told
  rw [app_cps, mul01, chr1_cps, chr1_cps]
  rfl
theorem tail_low {stem : Str} {at' : Nat} {cut : Int} {k : Nat} (h : Low stem) (ha : at' ≤ stem.length) : Low (tail stem at' cut k) ∧ (tail stem at' cut k).length ≤ stem.length - at' := by
  have base : (cutS stem (some (at' : Int)) none).cps.toList = stem.cps.toList.drop at' := cut_from _ _ ha
  unfold tail
  split
  · refine ⟨fun c hc => ?_, ?_⟩
    · rw [base] at hc
      exact h c (List.mem_of_mem_drop hc)
    · rw [len_cps, base, List.length_drop, ← len_cps]
      exact Nat.le_refl _
  · refine ⟨fun c hc => ?_, ?_⟩
    · rw [cut_to', base] at hc
      exact h c (List.mem_of_mem_drop (List.mem_of_mem_take hc))
    · rw [len_cps, cut_to', base, List.length_take, List.length_drop, ← len_cps]
      exact Nat.min_le_right _ _
theorem name_nm {stem : Str} {at' k : Nat} {cut first step many : Int} (h : Low stem) (h6 : stem.length ≤ 6) (ha : at' ≤ stem.length) (hk : k < 52) : IsNm (nameK stem at' cut first step many k) := by
  obtain ⟨t1, t2⟩ := tail_low (cut := cut) (k := k) h ha
  have p1 : (cutS stem none (some (at' : Int))).cps.toList = stem.cps.toList.take at' := cut_to _ _ ha
  have p2 : (cutS stem none (some (at' : Int))).length = at' := by
    rw [len_cps, p1, List.length_take, ← len_cps, Nat.min_eq_left ha]
  have m0 := Int.emod_nonneg (first + step * k) (b := 26) (by decide)
  have m1 := Int.emod_lt_of_pos (first + step * k) (b := 26) (by decide)
  have q2 : 1 ≤ (told first step many k).length ∧ (told first step many k).length ≤ 2 := by
    rw [len_cps, told_cps]
    split <;> simp
  refine ⟨?_, ?_, ?_⟩
  · unfold nameK
    rw [len_app, len_app]
    omega
  · unfold nameK
    rw [len_app, len_app]
    omega
  · unfold nameK
    refine low_app (low_app (fun c hc => ?_) (fun c hc => ?_)) t1
    · rw [p1] at hc
      exact h c (List.mem_of_mem_take hc)
    · rw [told_cps] at hc
      rcases List.mem_cons.mp hc with hc | hc
      · omega
      · split at hc
        · rw [List.mem_singleton.mp hc]
          omega
        · exact absurd hc (by simp)
theorem step_inj {step first : Int} (hs : step ∈ ([1, 3, 5, 7, 9, 11, 15, 17, 19, 21, 23, 25] : List Int)) {j k : Nat} (h : (first + step * j) % 26 = (first + step * k) % 26) : j % 26 = k % 26 := by
  simp only [List.mem_cons, List.mem_nil_iff, or_false] at hs
  rcases hs with rfl | rfl | rfl | rfl | rfl | rfl | rfl | rfl | rfl | rfl | rfl | rfl <;> omega
theorem name_inj {stem : Str} {at' j k : Nat} {cut first step many : Int} (ha : at' ≤ stem.length) (hs : step ∈ ([1, 3, 5, 7, 9, 11, 15, 17, 19, 21, 23, 25] : List Int)) (hj : j < many) (hk : k < many)
    (h : nameK stem at' cut first step many j = nameK stem at' cut first step many k) : j = k := by
  have e := congrArg (fun z : Str => z.cps.toList) h
  simp only [nameK, app_cps, told_cps, List.append_assoc, List.cons_append] at e
  have e2 := List.append_cancel_left e
  have m0 := Int.emod_nonneg (first + step * j) (b := 26) (by decide)
  have m1 := Int.emod_nonneg (first + step * k) (b := 26) (by decide)
  have c1 : 97 + ((first + step * j) % 26).toNat = 97 + ((first + step * k) % 26).toNat := (List.cons.inj e2).1
  have c2 : j % 26 = k % 26 := step_inj hs (first := first) (by omega)
  by_cases hm : 26 < many
  · rw [if_pos (decide_eq_true hm), if_pos (decide_eq_true hm)] at e2
    have c3 := (List.cons.inj (List.cons.inj e2).2).1
    omega
  · omega
theorem names_nodup {stem : Str} {at' : Nat} {cut first step : Int} (m : Nat) (ha : at' ≤ stem.length) (hs : step ∈ ([1, 3, 5, 7, 9, 11, 15, 17, 19, 21, 23, 25] : List Int)) : ((List.range m).map (nameK stem at' cut first step m)).Nodup := by
  rw [List.nodup_iff_pairwise_ne, List.pairwise_map]
  refine List.Pairwise.imp_of_mem ?_ (List.nodup_iff_pairwise_ne.mp List.nodup_range)
  intro j k hj hk hne h
  exact hne (name_inj ha hs (by have := List.mem_range.mp hj; omega) (by have := List.mem_range.mp hk; omega) h)
/-- many different names -/
def spNames : Sp := fun vs H Q _ => ∃ (p c : Addr) (m n : Nat), vs = [V.ref p, .int (m : Int)] ∧ Pen p c n H ∧ n ≤ 900000 ∧ m ≤ 52 ∧
  ∀ q (ys : List Str) H', ys.length = m → ys.Nodup → (∀ y ∈ ys, IsNm y) → H q = none → But p H H' → H' q = some (.lst (ys.map V.str)) → Pen p c (n + 11) H' → Q (.ref q) H'
end Lw
namespace Lw
open PySem PySem.Spec PyProof.Rows L2
section
variable {σ : St} {H : Hp} {ta tb : TE} {tl th : TO} {lo hi : Option Int} {a b : Str}
theorem ev_slS (h : Evl.Ev ta σ H (.str a)) (h1 : Evl.EvO tl σ H lo) (h2 : Evl.EvO th σ H hi) (hz : a.length ≤ 100000) : Evl.Ev (tSl rSlS ta tl th) σ H (.str (cutS a lo hi)) := fun H1 e _ q =>
  h H1 e _ fun H2 e2 => h1 H2 (e.trans e2) _ fun H3 e3 => h2 H3 ((e.trans e2).trans e3) _ fun H4 e4 => ⟨a, rfl, Evl.sz_of hz, q H4 ((e2.trans e3).trans e4)⟩
theorem ev_addS (h : Evl.Ev ta σ H (.str a)) (h1 : Evl.Ev tb σ H (.str b)) (hz : a.length + b.length ≤ 100000) : Evl.Ev (tOp (fun x y H Q => ∃ i j, x = .str i ∧ y = .str j ∧ i.length + j.length ≤ sizeLine ∧ Q (.str (i ++ j)) H) ta tb) σ H (.str (a ++ b)) :=
  Evl.ev_op h h1 fun H1 _ _ q => ⟨a, b, rfl, rfl, Evl.sz_of hz, q H1 (Evl.Ex.refl _)⟩
theorem ev_intB {c : Bool} (h : Evl.Ev ta σ H (.bl c)) : Evl.Ev (tCB rIntB (tCons ta tNil)) σ H (.int (if c = true then 1 else 0)) := Evl.ev_cb (Evl.ea_cons h Evl.ea_nil) fun H1 _ _ q => ⟨c, rfl, q H1 (Evl.Ex.refl _)⟩
theorem ev_mulS {c : Bool} (h : Evl.Ev ta σ H (.str a)) (h1 : Evl.Ev tb σ H (.int (if c = true then 1 else 0))) (hz : a.length = 1) : Evl.Ev (tOp rMulS ta tb) σ H (.str (Txt.mul a (if c = true then 1 else 0))) :=
  Evl.ev_op h h1 fun H1 _ _ q => ⟨a, _, rfl, rfl, mulOk1 a hz c, q H1 (Evl.Ex.refl _)⟩
/-- a letter by its place -/
theorem ev_abc {i : Int} (h : Evl.Ev ta σ H (.str abc)) (h1 : Evl.Ev tb σ H (.int i)) (h0 : 0 ≤ i) (hi : i < 26) : Evl.Ev (tOp rIxS ta tb) σ H (.str (chr1 (97 + i.toNat))) :=
  Evl.ev_op h h1 (Evl.rv_ixS (by rw [abc_len]; decide) (atI_some h0 (abc_at _ (by omega))))
end
end Lw

set_option maxHeartbeats 1000000
/-! sorted of a list or a tuple whose items read as data -/
namespace Lw
open PySem PySem.Calls PyProof.Rows
section
variable {prog : Program} {w : World} {A : Around} {E : Value → Shared → Prop} {s : Shared}
/-- the items of a list or a tuple -/
theorem gather {a : Addr} {T : String} {o : Obj} {n : Nat} {vs : List Value} {Q : List Value → Shared → Prop} (hT : T = "list" ∨ T = "tuple") (ho : s.heap.get? a = some o) (hc : o.cls = .type T) (hd : o.data = .seq vs.toArray n) (hz : vs.length ≤ sizeLine)
    (k : Q vs { s with heap := (s.heap.push (seqObj "list" #[] 0)).update s.heap.objs.size (Obj.mapSeq (· ++ vs.toArray)) }) : wpAny (model prog w) A (collect (.ref a)) Q E s := by
  have zero : (s.heap.push (seqObj "list" #[] 0)).get? s.heap.objs.size = some (seqObj "list" #[] 0) := Heap.get?_push_size _ rfl
  have old : (s.heap.push (seqObj "list" #[] 0)).get? a = some o := Heap.get?_push_of_some _ ho
  unfold collect
  refine wpAny_bind (wpAny_runValue ?run)
  case run =>
    refine codeAny_builtin entry_proto_collect' ?_
    show wpAny _ _ (newList [] >>= fun fresh => again (.builtin "list.__iadd__" ⟨[fresh, .ref a], []⟩)) _ _ s
    refine wpAny_bind (wpAny_newList (wpAny_pure (And.intro (Code.quiet_builtin _ (by decide +kernel)) ?more)))
    refine codeAny_builtin entry_list_iadd' ?_
    show wpAny _ _ (Builtin.List.listExtendWith (.ref s.heap.objs.size) (.ref a) (.ref s.heap.objs.size)) _ _ (Shared.mk (s.heap.push (seqObj "list" #[] 0)) _ _ _ _)
    unfold Builtin.List.listExtendWith; skip
    refine wpAny_bind (wpAny_typeOf (T := T) (Exists.intro o (And.intro old hc)) ?_)
    have yes : (Builtin.List.listSameRef (.ref s.heap.objs.size) (.ref a) || Value.type T == Value.type "list" || Value.type T == Value.type "tuple") = true := by
      cases hT with
      | inl z => subst z; simp
      | inr z => subst z; simp
    rw [if_pos yes]
    refine wpAny_bind (listItems_at old hd ?_)
    refine wpAny_bind (listItems_at (n := 0) (xs := #[]) zero rfl ?_)
    rw [if_neg (show ¬ _ from by simp)]
    have few : ((#[] : Array Value) ++ vs.toArray).size ≤ sizeLine + 1 := by
      simp only [List.size_toArray, Array.size_append, List.length_nil]
      omega
    refine wpAny_bind (listUpdate_at (n := 0) (xs := #[]) zero rfl ?_ (Nat.zero_le _) few)
    refine wpAny_pure ?_
    refine wpAny_bind (wpAny_load (get?_update_seq zero _) ?_)
    have same : ((#[] : Array Value) ++ vs.toArray).toList = vs := by simp
    show wpAny (model prog w) _ (pure ((#[] : Array Value) ++ vs.toArray).toList) Q E _
    rw [same]
    exact wpAny_pure k
open PySem.W in
/-- sorted of it: a new list, in the order of the data -/
theorem sorted_seq {β : Type} {a : Addr} {T : String} {o : Obj} {n : Nat} {vs : List Value} {bs : List β} {enc : β → PyData} {R : Value → β → Prop} {Q : Value → Shared → Prop} (hT : T = "list" ∨ T = "tuple") (ho : s.heap.get? a = some o) (hc : o.cls = .type T)
    (hd : o.data = .seq vs.toArray n) (e : EachIs R vs bs) (er : EachIs (fun v b => ∃ as, Reads s.heap v (enc b) as) vs bs) (hal : AllAlike (bs.map enc)) (hk : Sortable (bs.map enc)) (hL : bs.length ≤ sizeLine) (hu : ∀ b, b ∈ bs → A.units + 2 + (enc b).depth < cLine)
    (k : ∀ out, out.length = bs.length → EachIs R out (bs.mergeSort (dataLe false enc)) → Q (.ref (s.heap.objs.size + 1)) { s with heap := sortedAll s.heap vs (List.toArray out) }) : wpAny (model prog w) A (call (.builtin "sorted") [.ref a]) Q E s := by
  have er' : EachIs (fun v b => ∃ as, Reads (sortingHeap (copyHeap s.heap vs) (s.heap.objs.size + 1) vs) v (enc b) as) vs bs := er.mono fun _ _ h => by
    obtain ⟨as, r⟩ := h
    exact ⟨as, PyProof.Rows.Reads.keeps (fun _ _ => sorting_copy_old) r⟩
  have few : vs.length ≤ sizeLine := by
    rw [e.length]
    exact hL
  have S := SortsAt.data (prog := prog) (w := w) (A := A.in1.in1) (s := { s with heap := sortingHeap (copyHeap s.heap vs) (s.heap.objs.size + 1) vs }) (each_map (R := fun v d => ∃ as, Reads (sortingHeap (copyHeap s.heap vs) (s.heap.objs.size + 1) vs) v d as) enc er') hal hk (bound_map hu)
  have got := k _ (by rw [sortVals_length false rfl]; exact e.length) (sortVals_data false e er' hal)
  refine call_function_entry_kw kind_sorted plain_sorted entry_sorted (args_sorted1 _) ?_
  unfold Builtin.«sorted»
  refine wpAny_bind (m := checkCount "sorted" 1 1 _) (wpAny_pure ?_) |> id
  refine wpAny_bind (gather hT ho hc hd few ?_)
  refine wpAny_bind (wpAny_newList ?_ few)
  have next : ((s.heap.push (seqObj "list" #[] 0)).update s.heap.objs.size (Obj.mapSeq (· ++ vs.toArray))).objs.size = s.heap.objs.size + 1 := (Heap.size_update _ _ _).trans (size_push' _ _)
  show wpAny _ _ _ _ _ (Shared.mk (copyHeap s.heap vs) _ _ _ _)
  rw [next]
  refine wpAny_bind (wpAny_holding (wpAny_call_entry_kw slot_list_sort (Exists.intro _ (And.intro (copyHeap_at s.heap vs) rfl)) entry_list_sort ?run (args_list_sort _)))
  case run =>
    refine wpAny_mono (list_sort_vals (s := { s with heap := copyHeap s.heap vs }) (P := fun f s' => f = .done (.ret .none) ∧ Q (.ref (s.heap.objs.size + 1)) s') (copyHeap_at s.heap vs) S few ⟨rfl, got⟩) (fun f s' hf => ?_) fun _ _ z => z
    obtain ⟨rfl, hq⟩ := hf
    exact Exists.intro _ (And.intro rfl (wpAny_pure (Exists.intro _ (And.intro rfl hq))))
end
end Lw
namespace Lw
open PySem PySem.Spec PyProof.Rows L2
/-- sorted(xs) of a list or a tuple of data: the items in the order of the data -/
def rSortedD (K : PySem.W.Frag) : List V → Hp → VK → Prop := fun vs H Q => ∃ (β : Type) (enc : β → PyData) (a : Addr) (ps : List (V × β)), vs = [V.ref a] ∧ (SqL K H a (ps.map (·.1)) ∨ SqT K H a (ps.map (·.1))) ∧ (∀ q ∈ ps, Dp K H q.1 (enc q.2)) ∧
  PySem.W.AllAlike (ps.map fun q => enc q.2) ∧ PySem.W.Sortable (ps.map fun q => enc q.2) ∧ (∀ q ∈ ps, (enc q.2).depth ≤ 20) ∧ ps.length ≤ 100000 ∧
  ∀ p, H p = none → Q (.ref p) (upd H p (.lst ((ps.mergeSort (PySem.W.dataLe false fun q => enc q.2)).map (·.1))))
theorem each_vals {β : Type} : ∀ {ps : List (V × β)} {its : List Value}, Vals (ps.map (·.1)) its → PySem.W.EachIs (fun (v : Value) (q : V × β) => RelV q.1 v) its ps
  | [], _, h => by
    cases h
    exact .nil
  | _ :: _, _, h => by
    cases h with
    | cons h1 h2 => exact .cons h1 (each_vals h2)
theorem vals_each {β : Type} : ∀ {ps : List (V × β)} {its : List Value}, PySem.W.EachIs (fun (v : Value) (q : V × β) => RelV q.1 v) its ps → Vals (ps.map (·.1)) its
  | _, _, .nil => .nil
  | _, _, .cons h1 h2 => .cons h1 (vals_each h2)
theorem each_all {α β : Type} {R S : α → β → Prop} : ∀ {as : List α} {bs : List β}, PySem.W.EachIs R as bs → (∀ a b, b ∈ bs → R a b → S a b) → PySem.W.EachIs S as bs
  | _, _, .nil, _ => .nil
  | _, _, .cons h t, k => .cons (k _ _ List.mem_cons_self h) (each_all t fun a b hb => k a b (List.mem_cons_of_mem _ hb))
theorem cr_sortedD {X : Cx} {k : Nat} (hr : Room k X.A) : CallR X (.builtin "sorted") (rSortedD X.K) := by
  intro pins s σ H vs us Q I r h
  obtain ⟨β, enc, a, ps, rfl, hs, hd, hal, hk, hdep, hz, q⟩ := h
  rw [Vals.ref1 r]
  have room := hr.units
  have sz : ps.length ≤ sizeLine := Evl.sz_of hz
  have fin : ∀ (its : List Value) (T : String) (o : Obj) (n : Nat), (T = "list" ∨ T = "tuple") → s.heap.get? a = some o → o.cls = .type T → o.data = .seq its.toArray n → Vals (ps.map (·.1)) its →
      wpAny (model X.prog X.w) X.A (call (.builtin "sorted") [.ref a]) (EP X pins σ Q) X.xe s := fun its T o n hT ho hc hdt rv => by
    have e := each_vals rv
    refine sorted_seq (enc := fun q : V × β => enc q.2) hT ho hc hdt e (each_all e fun v b hb rb => Dp.reads I _ _ _ (hd b hb) rb) hal hk sz (fun b hb => by have := hdep b hb; omega) fun out lo eo => ?_
    obtain ⟨ep, he⟩ := PyProof.Rows.sortedAll_at s.heap its (List.toArray out)
    have vo := vals_each eo
    have few : ((ps.mergeSort (PySem.W.dataLe false fun q => enc q.2)).map (·.1)).length ≤ sizeLine := by
      rw [List.length_map, List.length_mergeSort]
      exact sz
    have J := I.laid (a := s.heap.objs.size + 1) (o := .lst ((ps.mergeSort (PySem.W.dataLe false fun q => enc q.2)).map (·.1))) (t' := s.toks) (fun _ _ => PyProof.Rows.sortedAll_old) (Nat.le_succ _) ⟨few, out, ep, vo, he⟩
    exact ⟨.ref (s.heap.objs.size + 1), _, J, rfl, q _ (I.hok.fresh (Nat.le_succ _))⟩
  rcases hs with hs | hs
  · obtain ⟨its, rv, ⟨o, n, ho, hc, _, hdt⟩, _⟩ := I.list hs
    exact fin its "list" o n (.inl rfl) ho hc hdt rv
  · obtain ⟨its, rv, ⟨o, ho, hc, n, hdt⟩, _⟩ := I.tuple hs
    exact fin its "tuple" o n (.inr rfl) ho hc hdt rv
end Lw

set_option maxHeartbeats 1000000
/-! nodes and edges as data of the heap -/
namespace Lw
open PySem PySem.Spec PyProof.Rows L2
abbrev Eg := Str × Str × Str × Int
/-- an edge as a tuple -/
def egV (e : Eg) : List V := [.str e.1, .str e.2.1, .str e.2.2.1, .int e.2.2.2]
/-- the edges es stand at as -/
def EgsAt (H : Hp) (as : List Addr) (es : List Eg) : Prop := Paired (fun a e => H a = some (.tup (egV e))) as es
/-- nodes and edges as the document wants them -/
structure IsNet (ns : List Str) (es : List Eg) : Prop where
  nm : ∀ y ∈ ns, IsNm y
  nd : ns.Nodup
  em : ∀ e ∈ es, IsNm e.1 ∧ e.2.1 ∈ ns ∧ e.2.2.1 ∈ ns ∧ e.2.1 ≠ e.2.2.1 ∧ -1000000 ≤ e.2.2.2 ∧ e.2.2.2 ≤ 1000000
  ed : (es.map (·.1)).Nodup
/-- tuples stay -/
def TK (H H' : Hp) : Prop := ∀ a xs, H a = some (.tup xs) → H' a = some (.tup xs)
theorem TK.trans {H H1 H2 : Hp} (a : TK H H1) (b : TK H1 H2) : TK H H2 := fun x xs h => b x xs (a x xs h)
theorem TK.but {p c : Addr} {n : Nat} {H H' : Hp} (hP : Pen p c n H) (b : But p H H') : TK H H' := fun a xs h => b a _ (fun z => by
  obtain ⟨cs, u, l, h1, _⟩ := hP
  rw [z, h1] at h
  exact nomatch h) h
theorem TK.ex {H H' : Hp} (e : Evl.Ex H H') : TK H H' := fun a xs h => e a _ h
theorem TK.put {q : Addr} {H : Hp} {ys : List V} (h : H q = none ∨ ∃ xs, H q = some (.lst xs)) : TK H (upd H q (.lst ys)) := fun a xs ha => by
  have n : a ≠ q := fun z => by
    rcases h with h | ⟨zs, h⟩
    · rw [z, h] at ha
      exact nomatch ha
    · rw [z, h] at ha
      exact nomatch ha
  rw [upd_ne n]
  exact ha
theorem paired_imp {α β : Type} {R S : α → β → Prop} (k : ∀ a b, R a b → S a b) : ∀ {as : List α} {bs : List β}, Paired R as bs → Paired S as bs
  | _, _, .nil => .nil
  | _, _, .cons h t => .cons (k _ _ h) (paired_imp k t)
theorem paired_snoc {α β : Type} {R : α → β → Prop} {a : α} {b : β} : ∀ {as : List α} {bs : List β}, Paired R as bs → R a b → Paired R (as ++ [a]) (bs ++ [b])
  | _, _, .nil, h => .cons h .nil
  | _, _, .cons x t, h => .cons x (paired_snoc t h)
theorem EgsAt.tk {H H' : Hp} {as : List Addr} {es : List Eg} (k : TK H H') (h : EgsAt H as es) : EgsAt H' as es := paired_imp (fun a e z => k _ _ z) h
def PairAt (ns : List Str) (H : Hp) (x : Addr) : Prop := ∃ u v, H x = some (.tup [.str u, .str v]) ∧ u ∈ ns ∧ v ∈ ns ∧ u ≠ v
theorem PairAt.tk {ns : List Str} {H H' : Hp} {x : Addr} (k : TK H H') (h : PairAt ns H x) : PairAt ns H' x := by
  obtain ⟨u, v, h1, h2⟩ := h
  exact ⟨u, v, k _ _ h1, h2⟩
/-- what stands between the steps: nodes at a, edges at eo, pairs of ends at no -/
structure Md (p c a eo no : Addr) (H : Hp) (n : Nat) (ns : List Str) (ed : List V) (as : List Addr) (H' : Hp) : Prop where
  b : But p H H'
  P : Pen p c n H'
  ha : H' a = some (.lst (ns.map V.str))
  he : H' eo = some (.lst ed)
  hn : H' no = some (.lst (as.map V.ref))
  pr : ∀ x ∈ as, PairAt ns H' x
  na : a ≠ p
  ne : eo ≠ p
  nn : no ≠ p
  fe : H eo = none
  fn : H no = none
  d1 : no ≠ a
  d2 : no ≠ eo
  d3 : a ≠ eo
theorem Md.but {p c a eo no : Addr} {H H' H'' : Hp} {n n' : Nat} {ns : List Str} {ed : List V} {as : List Addr} (h : Md p c a eo no H n ns ed as H') (b : But p H' H'') (P : Pen p c n' H'') : Md p c a eo no H n' ns ed as H'' :=
  ⟨h.b.trans b, P, b _ _ h.na h.ha, b _ _ h.ne h.he, b _ _ h.nn h.hn, fun x hx => (h.pr x hx).tk (TK.but h.P b), h.na, h.ne, h.nn, h.fe, h.fn, h.d1, h.d2, h.d3⟩
theorem Md.ex {p c a eo no : Addr} {H H' H'' : Hp} {n : Nat} {ns : List Str} {ed : List V} {as : List Addr} (h : Md p c a eo no H n ns ed as H') (e : Evl.Ex H' H'') : Md p c a eo no H n ns ed as H'' := h.but (But.of e) (h.P.ex e)
/-- one more couple of ends -/
theorem Md.app {p c a eo no l : Addr} {H H' : Hp} {n : Nat} {ns : List Str} {ed : List V} {as : List Addr} (h : Md p c a eo no H n ns ed as H') (hl : PairAt ns H' l) (hc : no ≠ c) : Md p c a eo no H n ns ed (as ++ [l]) (upd H' no (.lst (as.map V.ref ++ [.ref l]))) := by
  have k : TK H' (upd H' no (.lst (as.map V.ref ++ [.ref l]))) := TK.put (.inr ⟨_, h.hn⟩)
  refine ⟨h.b.mut h.fn, h.P.mut ⟨h.nn, hc⟩, ?_, ?_, ?_, fun x hx => ?_, h.na, h.ne, h.nn, h.fe, h.fn, h.d1, h.d2, h.d3⟩
  · rw [upd_ne h.d1.symm]
    exact h.ha
  · rw [upd_ne h.d2.symm]
    exact h.he
  · rw [upd_same, List.map_append]
    rfl
  · rcases List.mem_append.mp hx with hx | hx
    · exact (h.pr x hx).tk k
    · rw [List.mem_singleton.mp hx]
      exact hl.tk k
/-- one more edge -/
theorem Md.appE {p c a eo no : Addr} {v : V} {H H' : Hp} {n : Nat} {ns : List Str} {ed : List V} {as : List Addr} (h : Md p c a eo no H n ns ed as H') (hc : eo ≠ c) : Md p c a eo no H n ns (ed ++ [v]) as (upd H' eo (.lst (ed ++ [v]))) := by
  have k : TK H' (upd H' eo (.lst (ed ++ [v]))) := TK.put (.inr ⟨_, h.he⟩)
  refine ⟨h.b.mut h.fe, h.P.mut ⟨h.ne, hc⟩, ?_, upd_same, ?_, fun x hx => (h.pr x hx).tk k, h.na, h.ne, h.nn, h.fe, h.fn, h.d1, h.d2, h.d3⟩
  · rw [upd_ne h.d3]
    exact h.ha
  · rw [upd_ne h.d2]
    exact h.hn
/-- the permuted nodes are nodes -/
theorem perm_strs {ys : List V} {ns : List Str} (h : ys.Perm (ns.map V.str)) : ∃ ms : List Str, ms.Perm ns ∧ ys = ms.map V.str := by
  let g : V → Str := fun v => match v with
    | .str z => z
    | _ => Str.empty
  refine ⟨ys.map g, ?_, ?_⟩
  · have := h.map g
    rw [List.map_map] at this
    have e : ns.map (g ∘ V.str) = ns := by
      rw [show (g ∘ V.str) = id from rfl, List.map_id]
    rw [e] at this
    exact this
  · rw [List.map_map]
    have : ∀ y ∈ ys, (V.str ∘ g) y = y := fun y hy => by
      obtain ⟨z, _, rfl⟩ := List.mem_map.mp (h.mem_iff.mp hy)
      rfl
    exact (List.map_id ys).symm.trans (List.map_congr_left fun y hy => (this y hy).symm)
theorem cut2 (xs : List V) : cutV xs none (some 2) = xs.take 2 := by
  unfold cutV
  rw [HT.sIx_none, show (2 : Int) = ((2 : Nat) : Int) from rfl, HT.sIx_nat, List.drop_zero, Nat.sub_zero]
  rcases Nat.le_total 2 xs.length with h | h
  · rw [Nat.min_eq_left h]
  · rw [Nat.min_eq_right h, List.take_length, List.take_of_length_le h]
/-- nodes and edges of a small network, as a tuple of two lists -/
def spSmall : Sp := fun vs H Q _ => ∃ (p c : Addr) (least most wide n : Nat), vs = [V.ref p, .int (least : Int), .int (most : Int), .int (wide : Int)] ∧ Pen p c n H ∧ n ≤ 800000 ∧ 1 ≤ least ∧ least ≤ most ∧ most ≤ 40 ∧ wide ≤ 40 ∧
  ∀ t a b ns as es H', IsNet ns es → least ≤ ns.length → ns.length ≤ most → es.length ≤ wide → H t = none → H a = none → H b = none → (∀ x ∈ as, H x = none) → But p H H' → H' t = some (.tup [.ref a, .ref b]) → H' a = some (.lst (ns.map V.str)) →
    H' b = some (.lst (as.map V.ref)) → EgsAt H' as es → Pen p c (n + 10000) H' → Q (.ref t) H'
end Lw
namespace Lw
open PySem PySem.Spec PyProof.Rows L2
theorem asgVia {te : TE} {i : Nat} {D : Ends} {σ : St} {H : Hp} (S : V → Hp → Prop) (h1 : ∀ Q' : VK, (∀ v H', S v H' → Q' v H') → te σ H Q') (h2 : ∀ v H', S v H' → D.nx (σ.set i (some v)) H') : tAsg te (gName i) D σ H := h1 _ h2
theorem q_asgVia {te : TE} {i : Nat} {tz : TS} {D : Ends} {σ : St} {H : Hp} (S : V → Hp → Prop) (h1 : ∀ Q' : VK, (∀ v H', S v H' → Q' v H') → te σ H Q') (h2 : ∀ v H', S v H' → tz D (σ.set i (some v)) H') : tSeq (tAsg te (gName i)) tz D σ H := h1 _ h2
theorem g_name {i : Nat} {v : V} {σ : St} {H : Hp} {Q : St → Hp → Prop} (h : Q (σ.set i (some v)) H) : gName i v σ H Q := h
theorem get_str {ns : List Str} {i : Nat} (h : i < ns.length) : (ns.map V.str)[i]? = some (.str ns[i]) := by
  rw [List.getElem?_map, List.getElem?_eq_getElem h]
  rfl
theorem at_str {ns : List Str} {i : Int} (h0 : 0 ≤ i) (h : i.toNat < ns.length) : atI (ns.map V.str) i = some (.str ns[i.toNat]) := atI_some h0 (get_str h)
theorem at_last {ns : List Str} (h : ns.length - 1 < ns.length) : atI (ns.map V.str) (-1) = some (.str ns[ns.length - 1]) := by
  unfold atI
  have hl : (ns.map V.str).length = ns.length := List.length_map _
  have : ixN (ns.map V.str).length (-1) = some (ns.length - 1) := by
    unfold ixN
    rw [if_neg (by omega), if_pos (by omega), hl]
    congr 1
    omega
  rw [this]
  exact get_str h
theorem nd_ne {ns : List Str} (h : ns.Nodup) {i j : Nat} (hi : i < ns.length) (hj : j < ns.length) (n : i ≠ j) : ns[i] ≠ ns[j] := by
  rcases Nat.lt_or_gt_of_ne n with k | k
  · exact List.pairwise_iff_getElem.mp h i j hi hj k
  · exact fun e => List.pairwise_iff_getElem.mp h j i hj hi k e.symm
end Lw

set_option maxHeartbeats 1000000
/-! the order of names -/
namespace Lw
open PySem PySem.Spec PyProof.Rows
abbrev sk (z : Str) : List Nat := z.cps.toList
/-- ascending by name, no name twice -/
def Asc {α : Type} (f : α → Str) (xs : List α) : Prop := xs.Pairwise fun a b => sk (f a) < sk (f b)
theorem asc_unique {α : Type} {f : α → Str} : ∀ {xs ys : List α}, xs.Perm ys → Asc f xs → Asc f ys → xs = ys
  | [], ys, h, _, _ => (List.nil_perm.mp h).symm
  | x :: xs, [], h, _, _ => absurd (List.perm_nil.mp h) (by simp)
  | x :: xs, y :: ys, h, hx, hy => by
    obtain ⟨x1, x2⟩ := List.pairwise_cons.mp hx
    obtain ⟨y1, y2⟩ := List.pairwise_cons.mp hy
    have e : x = y := by
      have mx : x ∈ y :: ys := h.mem_iff.mp List.mem_cons_self
      have my : y ∈ x :: xs := h.mem_iff.mpr List.mem_cons_self
      rcases List.mem_cons.mp mx with mx | mx
      · exact mx
      · rcases List.mem_cons.mp my with my | my
        · exact my.symm
        · exact absurd (x1 y my) (List.lt_asymm (y1 x mx))
    subst e
    rw [asc_unique (List.Perm.cons_inv h) x2 y2]
/-- sorted, the keys compared first by a name that is no other's -/
theorem asc_sort {α : Type} {f : α → Str} {enc : α → PyData} (he : ∀ a b, f a ≠ f b → PySem.W.dataLt (enc a) (enc b) = decide (sk (f a) < sk (f b))) (xs : List α) (nd : (xs.map f).Nodup) : Asc f (xs.mergeSort (PySem.W.dataLe false enc)) := by
  have pm := List.mergeSort_perm xs (PySem.W.dataLe false enc)
  have pw : (xs.mergeSort (PySem.W.dataLe false enc)).Pairwise fun a b => PySem.W.dataLe false enc a b = true := PySem.W.sort_pairwise (PySem.W.sortLe_total _ false _) xs
  have nd2 : ((xs.mergeSort (PySem.W.dataLe false enc)).map f).Nodup := (pm.map f).nodup_iff.mpr nd
  have ne : (xs.mergeSort (PySem.W.dataLe false enc)).Pairwise fun a b => f a ≠ f b := List.pairwise_map.mp (List.nodup_iff_pairwise_ne.mp nd2)
  refine (List.Pairwise.and pw ne).imp fun {a b} h => ?_
  have h1 : PySem.W.dataLt (enc b) (enc a) = false := by
    have z : (!PySem.W.dataLt (enc b) (enc a)) = true := h.1
    simpa using z
  rw [he b a (Ne.symm h.2)] at h1
  have h2 := of_decide_eq_false h1
  refine Decidable.byContradiction fun k => ?_
  exact h.2 (ext_cps (List.le_antisymm (List.not_lt.mp h2) (List.not_lt.mp k)))
/-- nodes and edges in order -/
def leN : Str → Str → Bool := PySem.W.dataLe false fun z => .str z
abbrev egD (e : Eg) : PyData := .tuple [.str e.1, .str e.2.1, .str e.2.2.1, .int e.2.2.2]
def leE : Eg → Eg → Bool := PySem.W.dataLe false egD
theorem lt_str (a b : Str) : PySem.W.dataLt (.str a) (.str b) = decide (sk a < sk b) := PySem.W.dataLt_str a b
theorem lt_eg (a b : Eg) (h : a.1 ≠ b.1) : PySem.W.dataLt (egD a) (egD b) = decide (sk a.1 < sk b.1) := by
  have n : ¬ PyData.eqv (.str a.1) (.str b.1) = true := fun z => by
    simp only [PyData.eqv, beq_iff_eq] at z
    exact h z
  rw [egD, egD, PySem.W.dataLt_tuple, PySem.W.dataLt_cons (by simp [PySem.W.alike]), if_neg n]
  exact lt_str _ _
def srtN (ns : List Str) : List Str := ns.mergeSort leN
def srtE (es : List Eg) : List Eg := es.mergeSort leE
theorem srtN_asc {ns : List Str} (h : ns.Nodup) : Asc id (srtN ns) := asc_sort (f := id) (fun a b _ => lt_str a b) ns (by rw [List.map_id]; exact h)
theorem srtE_asc {es : List Eg} (h : (es.map (·.1)).Nodup) : Asc (·.1) (srtE es) := asc_sort (f := fun e : Eg => e.1) (fun a b n => lt_eg a b n) es h
theorem srtN_perm (ns : List Str) : (srtN ns).Perm ns := List.mergeSort_perm ns _
theorem srtE_perm (es : List Eg) : (srtE es).Perm es := List.mergeSort_perm es _
theorem srtN_eq {ns ms : List Str} (h : ns.Nodup) (p : ms.Perm ns) : srtN ms = srtN ns :=
  asc_unique (((srtN_perm ms).trans p).trans (srtN_perm ns).symm) (srtN_asc (p.nodup_iff.mpr h)) (srtN_asc h)
theorem srtE_eq {es fs : List Eg} (h : (es.map (·.1)).Nodup) (p : fs.Perm es) : srtE fs = srtE es :=
  asc_unique (((srtE_perm fs).trans p).trans (srtE_perm es).symm) (srtE_asc ((p.map _).nodup_iff.mpr h)) (srtE_asc h)
/-- the lesser end first -/
def minS (a b : Str) : Str := if sk b < sk a then b else a
def maxS (a b : Str) : Str := if sk a < sk b then b else a
def norm (e : Eg) : Eg := (e.1, minS e.2.1 e.2.2.1, maxS e.2.1 e.2.2.1, e.2.2.2)
theorem norm_names (es : List Eg) : (es.map norm).map (·.1) = es.map (·.1) := by
  rw [List.map_map]
  rfl
/-- the ends turned before or behind the sorting -/
theorem srtE_norm {es : List Eg} (h : (es.map (·.1)).Nodup) : srtE (es.map norm) = (srtE es).map norm := by
  refine asc_unique (((srtE_perm _).trans ((srtE_perm es).symm.map norm))) (srtE_asc (by rw [norm_names]; exact h)) ?_
  exact List.pairwise_map.mpr (srtE_asc h)
end Lw

set_option maxHeartbeats 1000000
/-! the lesser and the greater of two texts -/
namespace Lw
open PySem PySem.Spec PyProof.Rows L2
section
variable {prog : Program} {w : World} {A : Around} {E : Value → Shared → Prop} {s : Shared}
theorem pair_best {op : CmpOp} {x y : Value} {bt : Nat → Nat → Bool} {Q : Value → Shared → Prop} (hh : A.handled = none) (hc : CmpOf prog w A.in1 op (fun i v => (#[x, y] : Array Value)[i]? = some v) bt)
    (k : ∀ h' tk, (∀ c o, s.heap.get? c = some o → h'.get? c = some o) → Q (if bt 1 0 = true then y else x) { s with heap := h', toks := tk }) :
    wpAny (model prog w) A.in1 (pyIter (.ref s.heap.objs.size)) (fun it s₂ => ∃ I fp wr n P St bt, it = .ref I ∧ Walks prog w A.in1 I fp wr n P St ∧ St 0 s₂.heap ∧ (∀ b ∈ fp, b < s₂.heap.objs.size) ∧ 0 < n ∧ CmpOf prog w A.in1 op P bt ∧
      ∀ v h' tk, P (argBest bt (n - 1)) v → (∀ b o, b ∉ wr → s₂.heap.get? b = some o → h'.get? b = some o) → Q v { s₂ with heap := h', toks := tk }) E { s with heap := s.heap.push { cls := .type "tuple", data := .seq #[x, y] } } := by
  have tup : (s.heap.push { cls := .type "tuple", data := .seq #[x, y] }).IsTuple s.heap.objs.size #[x, y] := ⟨_, Heap.get?_push_size _ rfl, rfl, 0, rfl⟩
  have more : (s.heap.push { cls := .type "tuple", data := .seq #[x, y] }).objs.size = s.heap.objs.size + 1 := Heap.size_push ..
  refine wpAny_pyIter_tuple tup ?_
  refine ⟨_, [_, s.heap.objs.size], [_], _, _, _, bt, rfl, Walks.tuple (A := A.in1) hh _ s.heap.objs.size (by rw [more]; exact Nat.ne_of_lt (Nat.lt_succ_self _)) #[x, y], ⟨⟨_, Heap.get?_push_size _ rfl, rfl, rfl⟩, tup.push _⟩, fun c m => ?_, by simp, hc, fun v h' tk hP hk => ?_⟩
  · show (c : Nat) < ((s.heap.push _).push _).objs.size
    rw [Heap.size_push, more]
    simp only [List.mem_cons, List.mem_nil_iff, or_false] at m
    rcases m with m | m
    · rw [m, more]
      exact Nat.lt_succ_self _
    · rw [m]
      exact Nat.lt_succ_of_lt (Nat.lt_succ_self _)
  · have old : ∀ c o, s.heap.get? c = some o → h'.get? c = some o := fun c o z => by
      refine hk c o (fun m => ?_) (Heap.get?_push_of_some _ (Heap.get?_push_of_some _ z))
      have lt := Heap.lt_size z
      rw [List.mem_singleton.mp m, more] at lt
      exact absurd lt (Nat.not_lt_of_le (Nat.le_succ _))
    have got := k h' tk old
    have best : argBest bt 1 = if bt 1 0 = true then 1 else 0 := rfl
    have at1 : (#[x, y] : Array Value)[argBest bt 1]? = some v := hP
    rw [best] at at1
    by_cases z : bt 1 0 = true
    · rw [if_pos z] at at1 got
      cases at1
      exact got
    · rw [if_neg z] at at1 got
      cases at1
      exact got
end
section
variable {X : Cx}
theorem strs_at {a b : Str} {t u : Tok} {i : Nat} {v : Value} (h : (#[Value.str a t, Value.str b u] : Array Value)[i]? = some v) : ∃ t', v = .str (if i = 0 then a else b) t' := by
  match i, h with
  | 0, h => exact ⟨t, (Option.some.inj h).symm⟩
  | 1, h => exact ⟨u, (Option.some.inj h).symm⟩
theorem call_min2S (hc : X.calm = true) : CallR X (.builtin "min") (fun xs H Q => ∃ a b, xs = [V.str a, .str b] ∧ Q (.str (minS a b)) H) := by
  intro pins s σ H xs us Q I r h
  obtain ⟨a, b, rfl, q⟩ := h
  obtain ⟨u, w', rfl, ⟨t, rfl⟩, ⟨t', rfl⟩⟩ := vals2 r
  refine call_min_two (pair_best (I.ok.hd hc) (bt := fun i j => decide (sk (if i = 0 then a else b) < sk (if j = 0 then a else b))) (fun i j vi vj s Q E hi hj h => ?_) fun h' tk k => ⟨_, H, I.kept k, ?_, q⟩)
  · obtain ⟨t1, rfl⟩ := strs_at hi
    obtain ⟨t2, rfl⟩ := strs_at hj
    exact PySem.P.lt_str h
  · unfold minS
    by_cases z : sk b < sk a
    · rw [if_pos z, if_pos (by simpa using z)]
      exact ⟨_, rfl⟩
    · rw [if_neg z, if_neg (by simpa using z)]
      exact ⟨_, rfl⟩
theorem call_max2S (hc : X.calm = true) : CallR X (.builtin "max") (fun xs H Q => ∃ a b, xs = [V.str a, .str b] ∧ Q (.str (maxS a b)) H) := by
  intro pins s σ H xs us Q I r h
  obtain ⟨a, b, rfl, q⟩ := h
  obtain ⟨u, w', rfl, ⟨t, rfl⟩, ⟨t', rfl⟩⟩ := vals2 r
  refine call_max_two (pair_best (I.ok.hd hc) (bt := fun i j => decide (sk (if j = 0 then a else b) < sk (if i = 0 then a else b))) (fun i j vi vj s Q E hi hj h => ?_) fun h' tk k => ⟨_, H, I.kept k, ?_, q⟩)
  · obtain ⟨t1, rfl⟩ := strs_at hi
    obtain ⟨t2, rfl⟩ := strs_at hj
    exact PySem.P.gt_str h
  · unfold maxS
    by_cases z : sk a < sk b
    · rw [if_pos z, if_pos (by simpa using z)]
      exact ⟨_, rfl⟩
    · rw [if_neg z, if_neg (by simpa using z)]
      exact ⟨_, rfl⟩
end
end Lw

set_option maxHeartbeats 1000000
/-! the text of a network -/
namespace Lw
open PySem PySem.Spec PyProof.Rows L2
def isz (l : Int) : Str := Str.ofString (toString l)
theorem isz_len {l : Int} (h0 : -1000000 ≤ l) (h1 : l ≤ 1000000) : (isz l).length ≤ 8 := by
  unfold isz
  rw [PySem.ofString_length]
  exact int_text_length_le10 (k := 7) (by decide) (by omega)
theorem isz_log {l : Int} (h0 : -1000000 ≤ l) (h1 : l ≤ 1000000) : l.natAbs.log2 < 1920 := by
  have h : l.natAbs < 2 ^ 20 := by omega
  rcases Nat.eq_zero_or_pos l.natAbs with z | z
  · rw [z]
    decide
  · have := (Nat.log2_lt (Nat.ne_of_gt z)).mpr h
    omega
theorem emp_app (z : Str) : Str.empty ++ z = z := ext_cps (by rw [app_cps]; rfl)
theorem app_assoc (a b c : Str) : a ++ b ++ c = a ++ (b ++ c) := ext_cps (by rw [app_cps, app_cps, app_cps, app_cps, List.append_assoc])
def nodeLine (z : Str) : Str := "node " ++ z
def edgeLine (e : Eg) : Str := "edge " ++ e.1 ++ " " ++ e.2.1 ++ " " ++ e.2.2.1 ++ " " ++ isz e.2.2.2
theorem edge_sp : ("edge " : Str) = ("edge" : Str) ++ (" " : Str) := by decide +kernel
theorem edge_join (n u v s : Str) : Txt.join " " ["edge", n, u, v, s] = "edge " ++ n ++ " " ++ u ++ " " ++ v ++ " " ++ s := by
  rw [show Txt.join " " (["edge", n, u, v, s] : List Str) = Str.join " " ["edge", n, u, v, s] from PySem.StrLaws.glued_eq_join _ _, edge_sp]
  show ("edge" : Str) ++ " " ++ (n ++ " " ++ (u ++ " " ++ (v ++ " " ++ s))) = _
  simp only [app_assoc]
def linesOf (ns : List Str) (es : List Eg) : List Str := (srtN ns).map nodeLine ++ (srtE (es.map norm)).map edgeLine
def netText (ns : List Str) (es : List Eg) : Str := Txt.join "\n" (linesOf ns es)
theorem five : (("edge " : Str)).length = 5 ∧ (("node " : Str)).length = 5 ∧ ((" " : Str)).length = 1 ∧ (("\n" : Str)).length = 1 ∧ (("edge" : Str)).length = 4 := by decide +kernel
theorem node_len {z : Str} (h : z.length ≤ 8) : (nodeLine z).length ≤ 13 := by
  unfold nodeLine
  rw [len_app, five.2.1]
  omega
/-- an edge as short as those of networks are -/
def Short (e : Eg) : Prop := e.1.length ≤ 8 ∧ e.2.1.length ≤ 8 ∧ e.2.2.1.length ≤ 8 ∧ -1000000 ≤ e.2.2.2 ∧ e.2.2.2 ≤ 1000000
theorem edge_len {e : Eg} (h : Short e) : (edgeLine e).length ≤ 40 := by
  obtain ⟨h1, h2, h3, h4, h5⟩ := h
  have := isz_len h4 h5
  unfold edgeLine
  simp only [len_app, five.1, five.2.2.1]
  omega
theorem min_or (a b : Str) : minS a b = a ∨ minS a b = b := by
  unfold minS
  split
  · exact .inr rfl
  · exact .inl rfl
theorem max_or (a b : Str) : maxS a b = a ∨ maxS a b = b := by
  unfold maxS
  split
  · exact .inr rfl
  · exact .inl rfl
theorem IsNet.short {ns : List Str} {es : List Eg} (h : IsNet ns es) {e : Eg} (he : e ∈ es) : Short e := by
  obtain ⟨h1, h2, h3, h4, h5, h6⟩ := h.em e he
  exact ⟨h1.2.1, (h.nm _ h2).2.1, (h.nm _ h3).2.1, h5, h6⟩
theorem Short.norm {e : Eg} (h : Short e) : Short (norm e) := by
  obtain ⟨h1, h2, h3, h4, h5⟩ := h
  refine ⟨h1, ?_, ?_, h4, h5⟩
  · show (minS e.2.1 e.2.2.1).length ≤ 8
    rcases min_or e.2.1 e.2.2.1 with z | z <;> rw [z] <;> assumption
  · show (maxS e.2.1 e.2.2.1).length ≤ 8
    rcases max_or e.2.1 e.2.2.1 with z | z <;> rw [z] <;> assumption
/-- other orders, the ends turned: the same text -/
theorem netText_eq {ns ms : List Str} {es fs : List Eg} (h : IsNet ns es) (p : ms.Perm ns) (q : (fs.map norm).Perm (es.map norm)) : netText ms fs = netText ns es := by
  unfold netText linesOf
  rw [srtN_eq h.nd p, srtE_eq (by rw [norm_names]; exact h.ed) q]
/-! sorted of names, of edges -/
theorem dp_names {K : PySem.W.Frag} {H : Hp} (z : Str) : Dp K H (.str z) (.str z) := .str z
theorem rc_sortN {K : PySem.W.Frag} {H : Hp} {a : Addr} {ns : List Str} (hs : SqL K H a (ns.map V.str) ∨ SqT K H a (ns.map V.str)) (hz : ns.length ≤ 1000) : Evl.RCL (rSortedD K) [.ref a] H ((srtN ns).map V.str) := fun H1 e Q q => by
  have e1 : (ns.map fun z => (V.str z, z)).map (·.1) = ns.map V.str := by
    rw [List.map_map]
    rfl
  refine ⟨Str, fun z => .str z, a, ns.map fun z => (V.str z, z), rfl, ?_, fun p hp => ?_, ?_, ?_, fun p _ => by simp [PyData.depth], by rw [List.length_map]; omega, fun p hp => ?_⟩
  · rw [e1]
    exact hs.elim (fun z => .inl (Evl.ex_l e z)) fun z => .inr (Evl.ex_t e z)
  · obtain ⟨z, _, rfl⟩ := List.mem_map.mp hp
    exact .str z
  · exact PySem.W.AllAlike.of (enc := fun q : V × Str => .str q.2) fun b b' => by simp [PySem.W.alike]
  · exact PySem.W.Sortable.others (enc := fun q : V × Str => .str q.2) fun b => ⟨nofun, nofun⟩
  · have e2 : ((ns.map fun z => (V.str z, z)).mergeSort (PySem.W.dataLe false fun q => .str q.2)).map (·.1) = (srtN ns).map V.str := by
      have m2 : (srtN ns).map (fun z => (V.str z, z)) = (ns.map fun z => (V.str z, z)).mergeSort (PySem.W.dataLe false fun q => .str q.2) := PySem.W.sort_maps _ fun _ _ _ _ => rfl
      rw [← m2, List.map_map]
      rfl
    rw [e2]
    exact q p _ hp (Evl.Ex.new hp) upd_same
theorem egs_pairs {H : Hp} : ∀ {as : List Addr} {es : List Eg}, EgsAt H as es → ∃ ps : List (V × Eg), ps.map (·.1) = as.map V.ref ∧ ps.map (·.2) = es ∧ ∀ q ∈ ps, ∃ a, q.1 = .ref a ∧ H a = some (.tup (egV q.2))
  | _, _, .nil => ⟨[], rfl, rfl, fun q hq => absurd hq (by simp)⟩
  | a :: _, e :: _, .cons h t => by
    obtain ⟨ps, h1, h2, h3⟩ := egs_pairs t
    refine ⟨(.ref a, e) :: ps, by rw [List.map_cons, h1]; rfl, by rw [List.map_cons, h2], fun q hq => ?_⟩
    rcases List.mem_cons.mp hq with z | z
    · rw [z]
      exact ⟨a, rfl, h⟩
    · exact h3 q z
theorem pairs_egs {H : Hp} : ∀ {ps : List (V × Eg)}, (∀ q ∈ ps, ∃ a, q.1 = .ref a ∧ H a = some (.tup (egV q.2))) → ∃ as : List Addr, ps.map (·.1) = as.map V.ref ∧ EgsAt H as (ps.map (·.2))
  | [], _ => ⟨[], rfl, .nil⟩
  | q :: ps, h => by
    obtain ⟨as, h1, h2⟩ := pairs_egs (ps := ps) fun q hq => h q (List.mem_cons_of_mem _ hq)
    obtain ⟨a, e1, e2⟩ := h q List.mem_cons_self
    exact ⟨a :: as, by rw [List.map_cons, List.map_cons, e1, h1], .cons e2 h2⟩
theorem rc_sortE {K : PySem.W.Frag} {H : Hp} {a : Addr} {as : List Addr} {es : List Eg} {Q : VK} (hs : SqL K H a (as.map V.ref) ∨ SqT K H a (as.map V.ref)) (he : EgsAt H as es) (hz : as.length ≤ 1000)
    (q : ∀ p bs, H p = none → EgsAt H bs (srtE es) → Q (.ref p) (upd H p (.lst (bs.map V.ref)))) : rSortedD K [.ref a] H Q := by
  obtain ⟨ps, h1, h2, h3⟩ := egs_pairs he
  have len : ps.length = as.length := by
    have := congrArg List.length h1
    rwa [List.length_map, List.length_map] at this
  refine ⟨Eg, egD, a, ps, rfl, by rw [h1]; exact hs, fun p hp => ?_, ?_, ?_, fun p _ => by simp [egD, PyData.depth, PyData.depthAll], by omega, fun p hp => ?_⟩
  · obtain ⟨b, e1, e2⟩ := h3 p hp
    rw [e1]
    exact .tup (.inl (.inl e2)) (.cons (.str _) (.cons (.str _) (.cons (.str _) (.cons (.int _) .nil))))
  · exact PySem.W.AllAlike.of (enc := fun q : V × Eg => egD q.2) fun b b' => by simp [egD, PySem.W.alike, PySem.W.alikeAll]
  · exact PySem.W.Sortable.tuples (enc := fun q : V × Eg => egD q.2) fun b => ⟨_, _, rfl⟩
  · have pm := List.mergeSort_perm ps (PySem.W.dataLe false fun q => egD q.2)
    have m2 : (ps.mergeSort (PySem.W.dataLe false fun q => egD q.2)).map (·.2) = srtE es := by
      rw [← h2]
      exact PySem.W.sort_maps (fun q : V × Eg => q.2) fun _ _ _ _ => rfl
    obtain ⟨bs, b1, b2⟩ := pairs_egs (H := H) (ps := ps.mergeSort (PySem.W.dataLe false fun q => egD q.2)) fun q hq => h3 q (pm.mem_iff.mp hq)
    rw [b1]
    rw [m2] at b2
    exact q p bs hp b2
end Lw
namespace Lw
open PySem PySem.Spec PyProof.Rows L2
theorem et_yes {σ : St} {H : Hp} : Evl.EvT tYes σ H true := fun H1 _ _ q => q H1 (Evl.Ex.refl _)
theorem given_all {n : Nat} {v : Nat → V} : Evl.given n (fun _ => true) v = (List.range n).map v := by
  unfold Evl.given
  rw [List.filter_eq_self.mpr fun _ _ => rfl]
/-- [g(x) for x in a new list] -/
theorem el_lcMap {K : PySem.W.Frag} {σ : St} {H : Hp} {xs : List V} {tl te : TE} {j : Nat} {vs : List Nat} (g : V → V) (h : Evl.EvL tl σ H xs) (hz : xs.length ≤ 40000) (hw : ∀ x, wipe ((wipe σ vs).set j (some x)) vs = wipe σ vs)
    (he : ∀ x ∈ xs, ∀ H1, Evl.Ex H H1 → Evl.Ev te ((wipe σ vs).set j (some x)) H1 (g x)) : Evl.EvL (tLc (iList K tl) (gName j) tYes te vs) σ H (xs.map g) := by
  have k := Evl.el_lcNL (K := K) (te := te) (t := tYes) (fun _ => true) (fun i => g (xs.getD i .non)) h hz hw (fun _ _ _ _ _ => et_yes) fun i x H1 e hx _ => by
    have hm : x ∈ xs := List.mem_of_getElem? hx
    have hg : xs.getD i .non = x := by rw [List.getD_eq_getElem?_getD, hx]; rfl
    rw [hg]
    exact he x hm H1 e
  rw [given_all] at k
  have e : (List.range xs.length).map (fun i => g (xs.getD i .non)) = xs.map g := by
    refine List.ext_getElem (by simp) fun i h1 h2 => ?_
    rw [List.getElem_map, List.getElem_map, List.getElem_range]
    congr 1
    rw [List.length_map] at h2
    rw [List.getD_eq_getElem?_getD, List.getElem?_eq_getElem h2]
    rfl
  rw [e] at k
  exact k
end Lw
namespace Lw
open PySem PySem.Spec PyProof.Rows L2
/-- a for over a new list of which only something is known -/
theorem q_forVia {K : PySem.W.Frag} {tl : TE} {g : TG} {tu tz : TS} {D : Ends} {σ : St} {H : Hp} (S : Addr → List V → Hp → Prop) (h1 : ∀ Q' : VK, (∀ p xs H', S p xs H' → Q' (.ref p) H') → tl σ H Q') (Pv : Addr → List V → Nat → St → Hp → Prop)
    (h0 : ∀ p xs H', S p xs H' → Pv p xs 0 σ H') (hl : ∀ p xs i σ' H', Pv p xs i σ' H' → SqL K H' p xs)
    (hs : ∀ p xs i x σ' H', xs[i]? = some x → Pv p xs i σ' H' → g x σ' H' fun σ2 H2 => tu { D with nx := Pv p xs (i + 1), ct := Pv p xs (i + 1), bk := tz D } σ2 H2) (hd : ∀ p xs σ' H', Pv p xs xs.length σ' H' → tz D σ' H') :
    tSeq (tFor (iList K tl) g tu) tz D σ H :=
  h1 _ fun p xs H' hS => ⟨p, rfl, ⟨xs, hl _ _ _ _ _ (h0 _ _ _ hS)⟩, for_list (D := { D with nx := tz D }) (Pv p xs) (h0 _ _ _ hS) (fun i σ' H' _ z => hl _ _ _ _ _ z) (fun i x σ' H' hx z => hs p xs i x σ' H' hx z) (fun σ' H' z => hd p xs σ' H' z)⟩
theorem egs_get {H : Hp} : ∀ {as : List Addr} {es : List Eg}, EgsAt H as es → ∀ {i : Nat} {a : Addr}, as[i]? = some a → ∃ e, es[i]? = some e ∧ H a = some (.tup (egV e))
  | _, _, .nil, i, a, h => by simp at h
  | b :: _, e :: _, .cons x t, 0, a, h => ⟨e, rfl, by
    have : b = a := Option.some.inj h
    rw [← this]
    exact x⟩
  | _ :: _, _ :: _, .cons _ t, i + 1, a, h => egs_get t (i := i) h
theorem EgsAt.len {H : Hp} {as : List Addr} {es : List Eg} (h : EgsAt H as es) : as.length = es.length := Paired.length h
theorem lines_sum {ys : List Str} {n k : Nat} (h : ys.length ≤ n) (hk : ∀ y ∈ ys, y.length ≤ k) : (ys.map (·.length)).sum ≤ n * k := by
  have : ∀ l : List Str, (∀ y ∈ l, y.length ≤ k) → (l.map (·.length)).sum ≤ l.length * k := fun l => by
    induction l with
    | nil => exact fun _ => Nat.zero_le _
    | cons x r ih =>
      intro hx
      have h1 := ih fun y hy => hx y (List.mem_cons_of_mem _ hy)
      have h2 := hx x List.mem_cons_self
      rw [List.map_cons, List.sum_cons, List.length_cons, Nat.succ_mul]
      omega
  exact Nat.le_trans (this ys hk) (Nat.mul_le_mul_right _ h)
/-- the text of nodes and edges in any order -/
def spText (K : PySem.W.Frag) : Sp := fun vs H Q _ => ∃ (a b : Addr) (ns : List Str) (as : List Addr) (es : List Eg), vs = [V.ref a, .ref b] ∧ (SqL K H a (ns.map V.str) ∨ SqT K H a (ns.map V.str)) ∧ (SqL K H b (as.map V.ref) ∨ SqT K H b (as.map V.ref)) ∧
  EgsAt H as es ∧ IsNet ns es ∧ ns.length ≤ 100 ∧ es.length ≤ 200 ∧ ∀ H', Evl.Ex H H' → Q (.str (netText ns es)) H'
end Lw

set_option maxHeartbeats 1000000
/-! list(d.values()); what networks are made of -/
namespace Lw
open PySem PySem.Spec PyProof.Rows L2
theorem kv_vals {κ : Type} {kvs : List (κ × V)} {vs : List (κ × Value)} (r : KV kvs vs) : Vals (kvs.map (·.2)) (vs.map (·.2)) := by
  unfold KV at r
  induction r with
  | nil => exact .nil
  | cons h t ih => exact .cons h.2 ih
/-- a new list of the values of a dict -/
def tListVals (td : TE) : TE := fun σ H Q => td σ H fun x H1 => ∃ a kvs, x = V.ref a ∧ H1 a = some (.dK kvs) ∧ ∀ p, H1 p = none → Q (.ref p) (upd H1 p (.lst (kvs.map (·.2))))
section
variable {X : Cx} {o : Expr} {p pos apos mpos : Pos} {td : TE}
theorem pe_listVals (hc : X.calm = true) (hg : Gl X "list") (hm : X.mg "list" = none) (hd : PE X o td) (hbase : attributeBase o "values" X.env (eval o X.env) = eval o X.env := by rfl) (hline : (apos.endLine == mpos.line) = true := by rfl)
    (hse : starEach [Expr.Call (.Attribute o "values" apos) [] [] mpos] X.env = [(false, eval (Expr.Call (.Attribute o "values" apos) [] [] mpos) X.env)] := by rfl) :
    PE X (.Call (.Name "list" p) [.Call (.Attribute o "values" apos) [] [] mpos] [] pos) (tListVals td) := by
  refine ⟨fun pins s σ H Q I h => ?_⟩
  refine wpAny_Call_Name_kw (ld_blt I hg hm (u := .type "list") (by first | rfl | decide +kernel) ?_ (by first | decide +kernel | decide) (by first | decide +kernel | decide))
  rw [hse]
  refine PySem.callWith_type1 (wpAny_Call_method0_late hbase hline (thn (hd.run pins s σ H _ I h) fun v s1 ⟨x, H1, I1, r1, a, kvs, ex, ha, q⟩ => ?_))
  subst ex
  obtain rfl : v = Value.ref a := r1
  obtain ⟨hz, hsys, vs, rel, dof⟩ := dk_of I1.hok ha
  obtain ⟨ep, dat⟩ := dof.dictAt
  have dat' := dat
  obtain ⟨ob, es, ho, ex, hdat, hko, hpr, hnd⟩ := dat'
  refine ⟨"dict", "dict.values", F.plainAttrs_dict, F.slot_dict_values, F.type_dict_values, ⟨ob, ho, ex.1⟩, fun b e => ?_, Calls.callWith_builtin rfl (PySem.evalArgs_none ?_)⟩
  · cases e
    exact ⟨ob, ho, ex.2.1⟩
  refine call_meetsIn F.slot_dict_values ⟨ob, ho, ex.1⟩ F.entry_dict_values (F.args_dict_values_1 _) (meets_dict_values (mixKind X.prog X.w) a hsys) ⟨⟨vs, dof⟩, ?_⟩
  have k1 : ∀ b u, s1.heap.get? b = some u → (s1.heap.push { cls := .type "dict_values", data := .fields #[.ref a] }).get? b = some u := fun b u e => Heap.get?_push_of_some _ e
  have dat1 : (s1.heap.push { cls := .type "dict_values", data := .fields #[.ref a] }).DictAt (mixKind X.prog X.w) a vs ep := dat.keep k1
  have hn : vs.length ≤ sizeLine := by
    rw [← KV.length rel]
    exact hz
  refine PySem.W.kdl_call (PySem.W.kdl_values (knd := mixKind X.prog X.w) (kvs := vs) (ep := ep) (r := s1.heap.objs.size) (d := a)) (I1.ok.hd hc) ⟨⟨_, Heap.get?_push_size _ rfl, rfl, rfl⟩, dat1⟩ hn fun h' tk acc c' hk hD hacc => ?_
  have ev : acc.toList = vs.map (·.2) := PySem.W.kdl_vals_eq acc.toList (by rw [Array.length_toList]; exact hacc.1) fun j v e => hacc.2 j v (by rw [← Array.getElem?_toList]; exact e)
  have sz : s1.heap.objs.size ≤ (s1.heap.push { cls := .type "dict_values", data := .fields #[.ref a] }).objs.size := by
    rw [Heap.size_push]
    exact Nat.le_succ _
  refine ⟨.ref _, _, I1.laid (t' := tk) (fun b o e => hk b o (k1 b o e)) sz (show ObjOk X.prog X.w _ h' _ (.lst (kvs.map (·.2))) from ⟨by rw [List.length_map]; exact hz, vs.map (·.2), c', kv_vals rel, ?_⟩), rfl, q _ (I1.hok.fresh sz)⟩
  rw [← ev, Array.toArray_toList]
  exact hD
end
/-- sorted(d), the keys texts, of any number: ascending -/
def rSortedDA : List V → Hp → VK → Prop := fun xs H Q => ∃ (a : Addr) (kvs : List (Key × V)) (ks : List Str), xs = [.ref a] ∧ Rd H a (.dK kvs) ∧ kvs.map (·.1) = ks.map Sum.inr ∧ ks.length ≤ 100000 ∧ ∀ p, H p = none → Q (.ref p) (upd H p (.lst ((srtN ks).map V.str)))
theorem each_strs : ∀ {ks : List Str} {vs : List Value}, vs.length = ks.length → (∀ (j : Nat) (v : Value), vs[j]? = some v → ∃ y t, ks[j]? = some y ∧ v = Value.str y t) → PySem.W.EachIs (fun (v : Value) (z : Str) => RelV (.str z) v) vs ks
  | [], [], _, _ => .nil
  | z :: ks, v :: vs, hl, h => by
    obtain ⟨y, t, e1, e2⟩ := h 0 v rfl
    have e1 : z = y := Option.some.inj e1
    subst e1
    exact .cons ⟨t, e2⟩ (each_strs (by simpa using hl) fun j u hu => h (j + 1) u (by simpa using hu))
  | [], _ :: _, hl, _ => by simp at hl
  | _ :: _, [], hl, _ => by simp at hl
theorem strs_vals : ∀ {ks : List Str} {vs : List Value}, PySem.W.EachIs (fun (v : Value) (z : Str) => RelV (.str z) v) vs ks → Vals (ks.map V.str) vs
  | _, _, .nil => .nil
  | _, _, .cons h t => .cons h (strs_vals t)
theorem call_sortedDA {X : Cx} {k : Nat} (hr : Room k X.A) (hcalm : X.calm = true) : CallR X (.builtin "sorted") rSortedDA := by
  intro pins s σ H xs us Q I r q
  obtain ⟨a, kvs, ks, ex, hd, hks, hz, q⟩ := q
  subst ex
  obtain ⟨u, eu, rx⟩ := vals1 r
  subst eu
  cases rx
  obtain ⟨z, lo, vs, rel, dd⟩ := dk_rd I.hok hd
  obtain ⟨ep, hat⟩ := dd.dictAt
  have room := hr.units
  have sz : ks.length ≤ sizeLine := Evl.sz_of hz
  have hkeys : vs.map (·.1) = ks.map Sum.inr := rel.keys.symm.trans hks
  have hl : vs.length = ks.length := by
    have e := congrArg List.length hkeys
    rw [List.length_map, List.length_map] at e
    exact e
  refine Calls.call_function_entry PyProof.Rows.kind_sorted PyProof.Rows.plain_sorted PyProof.Rows.entry_sorted (PyProof.Rows.args_sorted1 _) ?_
  unfold Builtin.«sorted»
  refine wpAny_bind (m := checkCount "sorted" 1 1 _) (wpAny_pure ?_)
  refine wpAny_bind (PySem.W.kdu_collect (A := X.A.in1) (PySem.W.kdl_dict (knd := mixKind X.prog X.w) (kvs := vs) (ep := ep) lo) (I.ok.hd hcalm) hat (by rw [hl]; exact sz) fun h' tk acc hk hacc => ?_)
  have hal : acc.toList.length = ks.length := by rw [Array.length_toList, hacc.1, hl]
  have hS : PySem.W.EachIs (fun (v : Value) (z : Str) => RelV (.str z) v) acc.toList ks := each_strs hal fun j v e => by
    obtain ⟨k, x, e1, e2⟩ := hacc.2 j v (by rw [← Array.getElem?_toList]; exact e)
    have e3 : (vs.map (·.1))[j]? = some k := by rw [List.getElem?_map, e1]; all_goals rfl
    rw [hkeys, List.getElem?_map] at e3
    cases e4 : ks[j]? with
    | none => rw [e4] at e3; cases e3
    | some y =>
      rw [e4] at e3
      have e5 : Sum.inr y = k := Option.some.inj e3
      subst e5
      obtain ⟨t, ev⟩ := Value.isStrOf_shape (x := y) (v := v) e2
      exact ⟨y, t, rfl, ev⟩
  have I1 : Inv X pins σ H { s with heap := h', toks := tk } := I.kept hk
  refine wpAny_bind (wpAny_newList ?_ (by rw [hal]; exact sz))
  have hoL : (h'.push (seqObj "list" acc.toList.toArray 0)).get? h'.objs.size = some (seqObj "list" acc.toList.toArray 0) := Heap.get?_push_size _ rfl
  have er : PySem.W.EachIs (fun v z => ∃ as, PySem.Reads (PySem.W.sortingHeap (h'.push (seqObj "list" acc.toList.toArray 0)) h'.objs.size acc.toList) v (PyData.str z) as) acc.toList ks := each_all hS fun v b _ rb => by
    obtain ⟨as, g⟩ := Dp.reads I1 _ _ _ (Dp.str b) rb
    exact ⟨as, PyProof.Rows.Reads.keeps (fun c o e => PySem.W.sortingHeap_old (Nat.ne_of_lt (Heap.lt_size e)) (Heap.get?_push_of_some _ e)) g⟩
  have hal2 : PySem.W.AllAlike (ks.map fun z => PyData.str z) := PySem.W.AllAlike.of (enc := fun z : Str => .str z) fun b b' => by simp [PySem.W.alike]
  have S := PySem.W.SortsAt.data (prog := X.prog) (w := X.w) (A := X.A.in1.in1) (s := { s with heap := PySem.W.sortingHeap (h'.push (seqObj "list" acc.toList.toArray 0)) h'.objs.size acc.toList, toks := tk }) (PySem.W.each_map (R := fun v d => ∃ as, PySem.Reads (PySem.W.sortingHeap (h'.push (seqObj "list" acc.toList.toArray 0)) h'.objs.size acc.toList) v d as) (fun z => PyData.str z) er) hal2
    (PySem.W.Sortable.others (enc := fun z : Str => .str z) fun b => ⟨nofun, nofun⟩) (PySem.W.bound_map fun b _ => by
      have : (PyData.str b).depth = 0 := by simp [PyData.depth]
      have u2 : X.A.in1.in1.units = X.A.units + 2 := rfl
      rw [this, u2]
      omega)
  have so := PySem.W.sortVals_data false hS er hal2
  have hlen : ((srtN ks).map V.str).length ≤ sizeLine := by
    rw [List.length_map, (srtN_perm ks).length_eq]
    exact sz
  show wpAny _ _ _ _ _ { s with heap := h'.push (seqObj "list" acc.toList.toArray 0), toks := tk }
  have fin : ∀ out : List Value, PySem.W.EachIs (fun (v : Value) (z : Str) => RelV (.str z) v) out (srtN ks) → EP X pins σ Q (.ref h'.objs.size) { s with heap := sortedHeap (h'.push (seqObj "list" acc.toList.toArray 0)) h'.objs.size acc.toList out.toArray, toks := tk } := fun out eo => by
    obtain ⟨e', he'⟩ := PyProof.Rows.sortedHeap_at (vs := acc.toList) (out := out.toArray) hoL
    refine ⟨.ref h'.objs.size, upd H h'.objs.size (.lst ((srtN ks).map V.str)), I1.laid (t' := tk) (fun b u e => ?_) (Nat.le_refl _) (show ObjOk X.prog X.w _ _ _ (.lst ((srtN ks).map V.str)) from ⟨hlen, out, e', strs_vals eo, he'⟩), rfl, q _ (I1.hok.fresh (Nat.le_refl _))⟩
    have hb : b < h'.objs.size := Heap.lt_size e
    rw [PyProof.Rows.sortedHeap_old (Nat.ne_of_lt hb) (by rw [size_push']; exact Nat.lt_succ_of_lt hb)]
    exact Heap.get?_push_of_some _ e
  refine wpAny_bind (wpAny_holding (wpAny_call_entry_kw PyProof.Rows.slot_list_sort ⟨_, hoL, rfl⟩ PyProof.Rows.entry_list_sort ?run (PyProof.Rows.args_list_sort _)))
  case run =>
    refine wpAny_mono (PySem.W.list_sort_vals (s := { s with heap := h'.push (seqObj "list" acc.toList.toArray 0), toks := tk }) (P := fun f s' => f = .done (.ret .none) ∧ EP X pins σ Q (.ref h'.objs.size) s') hoL S (by rw [hal]; exact sz) ⟨rfl, fin _ so⟩) (fun f s' hf => ?_) fun _ _ z => z
    obtain ⟨rfl, hq⟩ := hf
    exact Exists.intro _ (And.intro rfl (wpAny_pure (Exists.intro _ (And.intro rfl hq))))
/-! a dict from the names of edges to the edges -/
def edKv : List Eg → List Addr → List (Key × V)
  | e :: es, a :: as => (Sum.inr e.1, .ref a) :: edKv es as
  | _, _ => []
theorem edKv_len : ∀ {es : List Eg} {as : List Addr}, as.length = es.length → (edKv es as).length = es.length
  | [], [], _ => rfl
  | _ :: _, _ :: _, h => by
    rw [edKv, List.length_cons, List.length_cons, edKv_len (by simpa using h)]
  | [], _ :: _, h => by simp at h
  | _ :: _, [], h => by simp at h
theorem edKv_keys : ∀ {es : List Eg} {as : List Addr}, as.length = es.length → (edKv es as).map (·.1) = (es.map (·.1)).map Sum.inr
  | [], [], _ => rfl
  | _ :: _, _ :: _, h => by
    rw [edKv, List.map_cons, List.map_cons, List.map_cons, edKv_keys (by simpa using h)]
  | [], _ :: _, h => by simp at h
  | _ :: _, [], h => by simp at h
theorem edKv_vals : ∀ {es : List Eg} {as : List Addr}, as.length = es.length → (edKv es as).map (·.2) = as.map V.ref
  | [], [], _ => rfl
  | _ :: _, _ :: _, h => by
    rw [edKv, List.map_cons, List.map_cons, edKv_vals (by simpa using h)]
  | [], _ :: _, h => by simp at h
  | _ :: _, [], h => by simp at h
theorem edKv_none {n : Str} : ∀ {es : List Eg} {as : List Addr}, ¬ n ∈ es.map (·.1) → valV (edKv es as) (Sum.inr n) = none
  | [], _, _ => by
    rw [edKv]
    · rfl
    · exact fun _ _ _ _ z => absurd z (by simp)
  | _ :: _, [], _ => by
    rw [edKv]
    · rfl
    · exact fun _ _ _ _ _ z => absurd z (by simp)
  | e :: es, a :: as, h => by
    rw [edKv, valV_neg (fun z => h (by rw [List.map_cons]; exact List.mem_cons.mpr (.inl (Sum.inr.inj z).symm))), edKv_none fun z => h (by rw [List.map_cons]; exact List.mem_cons_of_mem _ z)]
theorem edKv_snoc {e : Eg} {a : Addr} : ∀ {es : List Eg} {as : List Addr}, as.length = es.length → edKv (es ++ [e]) (as ++ [a]) = edKv es as ++ [(Sum.inr e.1, .ref a)]
  | [], [], _ => rfl
  | _ :: _, _ :: _, h => by
    rw [List.cons_append, List.cons_append, edKv, edKv, edKv_snoc (by simpa using h), List.cons_append]
  | [], _ :: _, h => by simp at h
  | _ :: _, [], h => by simp at h
/-- what stands there under a name -/
theorem edKv_get {H : Hp} {n : Str} : ∀ {es : List Eg} {as : List Addr}, EgsAt H as es → n ∈ es.map (·.1) → ∃ e a, e ∈ es ∧ e.1 = n ∧ a ∈ as ∧ H a = some (.tup (egV e)) ∧ valV (edKv es as) (Sum.inr n) = some (.ref a)
  | [], _, _, h => absurd h (by simp)
  | e :: es, a :: as, .cons x t, h => by
    by_cases z : e.1 = n
    · exact ⟨e, a, List.mem_cons_self, z, List.mem_cons_self, x, valV_pos (by rw [z])⟩
    · have hm : n ∈ es.map (·.1) := by
        rcases List.mem_cons.mp (by rw [List.map_cons] at h; exact h) with q | q
        · exact absurd q.symm z
        · exact q
      obtain ⟨e', a', h1, h2, h3, h4, h5⟩ := edKv_get t hm
      exact ⟨e', a', List.mem_cons_of_mem _ h1, h2, List.mem_cons_of_mem _ h3, h4, by rw [edKv, valV_neg fun q => z (Sum.inr.inj q)]; exact h5⟩
theorem srt_names {es : List Eg} (nd : (es.map (·.1)).Nodup) : srtN (es.map (·.1)) = (srtE es).map (·.1) := by
  have p : ((srtE es).map (·.1)).Perm (es.map (·.1)) := (srtE_perm es).map _
  refine asc_unique (f := id) ((srtN_perm _).trans p.symm) (srtN_asc nd) ?_
  exact List.pairwise_map.mpr (srtE_asc nd)
theorem mem_uniq {es : List Eg} (nd : (es.map (·.1)).Nodup) {e f : Eg} (he : e ∈ es) (hf : f ∈ es) (h : e.1 = f.1) : e = f := by
  obtain ⟨i, hi, rfl⟩ := List.getElem_of_mem he
  obtain ⟨j, hj, rfl⟩ := List.getElem_of_mem hf
  by_cases ij : i = j
  · subst ij
    rfl
  · exact absurd (by rw [List.getElem_map, List.getElem_map]; exact h) (nd_ne nd (i := i) (j := j) (by rw [List.length_map]; exact hi) (by rw [List.length_map]; exact hj) ij)
/-- the values under the names, ascending -/
def edAt (kvs : List (Key × V)) (x : V) : V := match x with
  | .str z => (valV kvs (Sum.inr z)).getD .non
  | v => v
theorem edAt_some {H : Hp} {cs : List Addr} {fs : List Eg} (h : EgsAt H cs fs) (nd : (fs.map (·.1)).Nodup) : ∀ {l : List Eg}, (∀ e ∈ l, e ∈ fs) → ∃ bs : List Addr, ((l.map (·.1)).map V.str).map (edAt (edKv fs cs)) = bs.map V.ref ∧ EgsAt H bs l
  | [], _ => ⟨[], rfl, .nil⟩
  | e :: l, k => by
    obtain ⟨bs, h1, h2⟩ := edAt_some h nd (l := l) fun f hf => k f (List.mem_cons_of_mem _ hf)
    have me := k e List.mem_cons_self
    obtain ⟨e', a, m1, m2, m3, m4, m5⟩ := edKv_get h (n := e.1) (List.mem_map.mpr ⟨e, me, rfl⟩)
    have ee : e' = e := mem_uniq nd m1 me m2
    subst ee
    refine ⟨a :: bs, ?_, .cons m4 h2⟩
    rw [List.map_cons, List.map_cons, List.map_cons, List.map_cons, h1]
    show (valV (edKv fs cs) (Sum.inr e'.1)).getD .non :: _ = _
    rw [m5]
    rfl
theorem rc_sortDA {H : Hp} {d : Addr} {kvs : List (Key × V)} {ks : List Str} (hd : H d = some (.dK kvs)) (hk : kvs.map (·.1) = ks.map Sum.inr) (hz : ks.length ≤ 100000) : Evl.RCL rSortedDA [.ref d] H ((srtN ks).map V.str) := fun H1 e Q q =>
  ⟨d, kvs, ks, rfl, .inl (e _ _ hd), hk, hz, fun p hp => q p _ hp (Evl.Ex.new hp) upd_same⟩
theorem g_next {D : Ends} {σ : St} {H : Hp} (h : D.nx σ H) : tNext D σ H := h
theorem g_ret {te : TE} {D : Ends} {σ : St} {H : Hp} (h : te σ H D.rt) : tRet te D σ H := h
theorem g_cb1 {r : List V → Hp → VK → Prop} {te : TE} {σ : St} {H : Hp} {Q : VK} (h : te σ H fun x H1 => r [x] H1 Q) : tCB r (tCons te tNil) σ H Q := h
end Lw

set_option maxHeartbeats 4000000
/-! defs that may ask for repr of data: the stack bears no repr under way, and the table of modules stands in the base -/
namespace Gd
open PySem PySem.Spec PyProof.Rows L2
abbrev St := L2.St
/-- the table of modules is an object of the base -/
def HasMods (base : Heap) : Prop := ∃ o, base.get? sysModules = some o
/-- as FnOk, where no repr is under way -/
structure FnG (P : Program) (w : World) (K : PySem.W.Frag) (mg : Str → Option Value) (base : Heap) (CX : CXT) (k : Nat) (f : Addr) (fd : FuncData) (ps : List Str) (sp : Sp) : Prop where
  len : ∀ vs H Q E, sp vs H Q E → vs.length = ps.length
  run : ∀ (A : Around) (outer : List Env) (s : Shared) (H : Hp) (args : Args) (us : List Value) (vs : List V) (Q : VK) (E : XK),
    A.guards = some [] → Room k A → Env0 P w K mg base A outer s H → BindsTo s fd args (ps.zip us) → Vals vs us → sp vs H Q E →
    codeAny (model P w) A (.call (.ref f) args) (CR CX outer P w H s Q E) s
theorem FnG.of {P : Program} {w : World} {K : PySem.W.Frag} {mg : Str → Option Value} {base : Heap} {CX : CXT} {k : Nat} {f : Addr} {fd : FuncData} {ps : List Str} {sp : Sp} (F : FnOk P w K mg base CX k f fd ps sp) : FnG P w K mg base CX k f fd ps sp :=
  ⟨F.len, fun A outer s H args us vs Q E _ => F.run A outer s H args us vs Q E⟩
section
variable {P : Program} {w : World} {K : PySem.W.Frag} {mg : Str → Option Value} {base : Heap} {CX : CXT} {k : Nat}
/-- the rule for a def, with what stands around it -/
theorem fnG {f : Addr} {name qual : Str} {params : Arguments} {body : List Stmt} {scope : Scope} {dV kV doc pm cdv ct oc : Value} {an od : Option Addr} {osl : Array (Option Value)} {N ps : List Str} {sp : Sp}
    (lk : K.lookup f = some ⟨oc, od, .func (PySem.W.fnOf name qual params body scope dV kV doc pm an cdv ct), osl⟩) (hcd : PySem.W.codeIn K cdv qual = true) (S : FnScope N ps scope) (len : ∀ vs H Q E, sp vs H Q E → vs.length = ps.length)
    (bd : ∀ (A : Around) (outer : List Env) (s : Shared) (H : Hp) (vs : List V) (Q : VK) (E : XK), (A.deeper (envOfC qual scope s.heap.objs.size f cdv)).guards = some [] → Room k (A.deeper (envOfC qual scope s.heap.objs.size f cdv)) → sp vs H Q E →
      ∃ t, PSs (cxOf CX P w K mg base N qual scope f cdv A outer s H E) body t ∧ t { nx := fun _ H' => Q .non H', rt := Q } (start N vs) H) :
    FnG P w K mg base CX (k + 1) f (PySem.W.fnOf name qual params body scope dV kV doc pm an cdv ct) ps sp where
  len := len
  run := by
    intro A outer s H args us vs Q E gd room env binds rel want
    have old : ∀ b o, base.get? b = some o → s.heap.get? b = some o := fun b o z => (env.bs b o z).1
    have inK := env.mod.kin.keeps old
    have slots : ∀ y ∈ ps.zip us, scope.names.lookup y.1 = some .local ∨ (scope.names.lookup y.1 = some .cell ∧ ((cellsFrom (s.heap.objs.size + 1) scope.names []).lookup y.1).isSome = true) := by
      rintro ⟨n, v⟩ hy
      exact (S.par n (List.of_mem_zip hy).1).elim .inl fun z => .inr ⟨z, PySem.W.cellsFrom_some _ _ _ (.inl z)⟩
    obtain ⟨t, ht, ends⟩ := bd A outer s H vs Q E gd (room.deeper _) want
    refine codeAny_call_function room.depth (inK _ _ lk) rfl S.co S.gen rfl (PySem.W.codeRec_of inK hcd) (binds _ _ _ _ ?_)
    refine wpAny_newFunctionEnv_cells S.kind slots fun e0 he s1 x => ?_
    subst he
    have J := inv_start (CX := CX) (E := E) S room.hd env (len _ _ _ _ want) rel x
    refine ⟨(env.mod.nolimit.keeps old).keeps x.toInCall.keep, codeAny_func (wpAny_mono (ht.run [] s1 _ H _ J ends) (fun fl s' got => ?_) fun _ _ got => got)⟩
    cases fl with
    | ret u =>
      obtain ⟨v, _, H', J', rv, q⟩ := got
      exact ⟨v, H', J'.os, J'.bare, J'.base, J'.hok, rv, q⟩
    | next =>
      obtain ⟨_, H', J', q⟩ := got
      exact ⟨V.non, H', J'.os, J'.bare, J'.base, J'.hok, rfl, q⟩
    | brk =>
      obtain ⟨_, _, _, q⟩ := got
      exact q.elim
    | cont =>
      obtain ⟨_, _, _, q⟩ := got
      exact q.elim
theorem _root_.L2.Fun.okG {x qual : Str} {st : Stmt} {f : Addr} {fd : FuncData} {N ps : List Str} {sp : Sp} (F : Fun K x qual st f fd) (S : FnScope N ps (defScope st)) (len : ∀ vs H Q E, sp vs H Q E → vs.length = ps.length)
    (bd : ∀ (cdv : Value) (A : Around) (outer : List Env) (s : Shared) (H : Hp) (vs : List V) (Q : VK) (E : XK), (A.deeper (envOfC qual (defScope st) s.heap.objs.size f cdv)).guards = some [] → Room k (A.deeper (envOfC qual (defScope st) s.heap.objs.size f cdv)) → sp vs H Q E →
      ∃ t, PSs (cxOf CX P w K mg base N qual (defScope st) f cdv A outer s H E) (defBody st) t ∧ t { nx := fun _ H' => Q .non H', rt := Q } (start N vs) H) : FnG P w K mg base CX (k + 1) f fd ps sp := by
  obtain ⟨oc, od, kV, doc, pm, an, cdv, ct, osl, rfl, lk, hcd⟩ := F.ex
  exact fnG lk hcd S len fun A outer s H vs Q E => bd cdv A outer s H vs Q E
theorem _root_.L2.Fun.okG0 {x qual : Str} {st : Stmt} {f : Addr} {fd : FuncData} {N ps : List Str} {sp : Sp} (F : Fun K x qual st f fd) (S : FnScope N ps (defScope st)) (len : ∀ vs H Q E, sp vs H Q E → vs.length = ps.length)
    (bd : ∀ (cdv : Value) (A : Around) (outer : List Env) (s : Shared) (H : Hp) (vs : List V) (Q : VK) (E : XK), (A.deeper (envOfC qual (defScope st) s.heap.objs.size f cdv)).guards = some [] → Room k (A.deeper (envOfC qual (defScope st) s.heap.objs.size f cdv)) → sp vs H Q E →
      ∃ t, PSs (cxOf CX0 P w K mg base N qual (defScope st) f cdv A outer s H E).nox (defBody st) t ∧ t { nx := fun _ H' => Q .non H', rt := Q } (start N vs) H) : FnG P w K mg base CX0 (k + 1) f fd ps sp :=
  F.okG S len fun cdv A outer s H vs Q E gd hr z => by
    obtain ⟨t, ht, q⟩ := bd cdv A outer s H vs Q E gd hr z
    exact ⟨t, ht.nox, q⟩
end
section
variable {X : Cx} {CX : CXT} {k : Nat} {f : Addr} {fd : FuncData} {ps : List Str} {sp : Sp} {dvs : List V} {ds : List Value} {E : XK} {x : Str} {p pos : Pos} {e : Expr} {es : List Expr} {t : TA}
theorem pe_callG (F : FnG X.prog X.w X.K X.mg X.base CX k f fd ps sp) (gd : X.A.guards = some []) (hr : Room k X.A) (hg : Gl X x) (hm : X.mg x = some (.ref f)) (hk : PySem.W.keepIn X.K (.ref f) = true) (hb : Binds X.K fd ps ds) (hd : Vals dvs ds) (hx : Passes CX X E)
    (ha : PA X (e :: es) t) (hdb : (x == ("__debug__" : Str)) = false := by decide) (he : starEach (e :: es) X.env = (false, eval e X.env) :: starEach es X.env := by rfl) (hpl : (backTo pos (starEach es X.env)).any (·.1) = false := by rfl) :
    PE X (.Call (.Name x p) (e :: es) [] pos) (tCall sp dvs E t) := by
  refine ⟨fun pins s σ H Q I h => wpAny_Call_Name_kw (ld_glob I hg hm ?_ hdb)⟩
  refine PySem.W.callWith_K (h₀ := X.base) I.ok.mod.kin hk (thn (ha.run pos pins s σ H _ I h) fun us s1 got => ?_) he hpl
  obtain ⟨vs, H1, I1, r, q⟩ := got
  have all : Vals (vs ++ dvs) (us ++ ds) := r.append hd
  have many : (us ++ ds).length = ps.length := all.length.symm.trans (F.len _ _ _ _ q)
  refine ⟨I1.kIn, wpAny_call (codeAny_mono (F.run X.A X.stack s1 H1 ⟨us, []⟩ _ _ Q E gd hr I1.env0 (hb s1 us I1.kIn many) all q) fun r s' got => ?_)⟩
  cases r with
  | error e => exact hx pins σ H1 s1 e s' I1 got
  | ok fl =>
    cases fl with
    | ret u => exact I1.after got
    | next => exact got.elim
    | brk => exact got.elim
    | cont => exact got.elim
end
/-! ### data in the abstract heap -/
mutual
/-- v is the value of the data d, over what is tracked -/
inductive RD (H : Hp) : V → PyData → Prop
  | non : RD H .non .none
  | bl (b : Bool) : RD H (.bl b) (.bool b)
  | int (i : Int) : RD H (.int i) (.int i)
  | str (x : Str) : RD H (.str x) (.str x)
  | lst {a : Addr} {xs : List V} {ds : List PyData} : Rd H a (.lst xs) → RDs H xs ds → RD H (.ref a) (.list ds)
  | tup {a : Addr} {xs : List V} {ds : List PyData} : H a = some (.tup xs) → RDs H xs ds → RD H (.ref a) (.tuple ds)
  | dic {a : Addr} {kvs : List (Key × V)} {ps : List (PyData × PyData)} : H a = some (.dK kvs) → RDs H (kvs.map fun p => kV p.1) (ps.map (·.1)) → RDs H (kvs.map (·.2)) (ps.map (·.2)) → RD H (.ref a) (.dict ps)
inductive RDs (H : Hp) : List V → List PyData → Prop
  | nil : RDs H [] []
  | cons {v : V} {vs : List V} {d : PyData} {ds : List PyData} : RD H v d → RDs H vs ds → RDs H (v :: vs) (d :: ds)
end
mutual
theorem RD.mono {H H' : Hp} (k : ∀ b o, H b = some o → H' b = some o) : ∀ {v : V} {d : PyData}, RD H v d → RD H' v d
  | _, _, .non => .non
  | _, _, .bl b => .bl b
  | _, _, .int i => .int i
  | _, _, .str x => .str x
  | _, _, .lst h r => .lst (h.elim (fun z => .inl (k _ _ z)) fun ⟨o, z⟩ => .inr ⟨o, k _ _ z⟩) (RDs.mono k r)
  | _, _, .tup h r => .tup (k _ _ h) (RDs.mono k r)
  | _, _, .dic h r q => .dic (k _ _ h) (RDs.mono k r) (RDs.mono k q)
theorem RDs.mono {H H' : Hp} (k : ∀ b o, H b = some o → H' b = some o) : ∀ {vs : List V} {ds : List PyData}, RDs H vs ds → RDs H' vs ds
  | _, _, .nil => .nil
  | _, _, .cons h r => .cons (RD.mono k h) (RDs.mono k r)
end
theorem pairsV {P : Program} {w : World} : ∀ {kvs : List (Key × V)} {vs : List (Key × Value)} {es : List DictEntry}, KV kvs vs → Pairs (mixKind P w) es vs →
    Vals (kvs.map fun p => kV p.1) (es.map (·.key)) ∧ Vals (kvs.map (·.2)) (es.map (·.val))
  | _, _, _, .nil, .nil => ⟨.nil, .nil⟩
  | p :: _, q :: _, ent :: _, .cons h t, .cons k ev more => by
    obtain ⟨r1, r2⟩ := pairsV t more
    obtain ⟨e1, e2⟩ := h
    have b : RelV p.2 ent.val := by
      rw [ev]
      exact e2
    have a : RelV (kV p.1) ent.key := by
      rw [e1]
      rcases keyIs_shape (show keyIs q.1 ent.key = true from k) with ⟨i, u, x1, x2⟩ | ⟨y, u, x1, x2⟩
      · rw [x1, x2]
        exact ⟨u, rfl⟩
      · rw [x1, x2]
        exact ⟨u, rfl⟩
    exact ⟨.cons a r1, .cons b r2⟩
section
variable {X : Cx} {pins : List (Addr × Obj)} {σ : St} {H : Hp} {s : Shared}
theorem noMods (I : Inv X pins σ H s) (M : HasMods X.base) {a : Addr} {o : HO} (h : H a = some o) : a ≠ sysModules := fun z => by
  obtain ⟨ob, hb⟩ := M
  have n := (I.bs _ _ hb).2
  rw [z, n] at h
  cases h
mutual
theorem RD.reads (I : Inv X pins σ H s) (M : HasMods X.base) : ∀ {v : V} {d : PyData} {u : Value}, RD H v d → RelV v u → ∃ as, Reads s.heap u d as ∧ sysModules ∉ as
  | _, _, _, .non, r => by
    cases r
    exact ⟨_, .none, by simp⟩
  | _, _, _, .bl b, r => by
    cases r
    exact ⟨_, .bool b, by simp⟩
  | _, _, _, .int i, r => by
    obtain ⟨t, rfl⟩ := r
    exact ⟨_, .int i t, by simp⟩
  | _, _, _, .str x, r => by
    obtain ⟨t, rfl⟩ := r
    exact ⟨_, .str x t, by simp⟩
  | _, _, _, .lst (a := a) h q, r => by
    cases r
    obtain ⟨its, rv, ⟨o, n, ho, hc, _, hd⟩, _⟩ := I.list (.inl h)
    obtain ⟨as, hr, hn⟩ := RDs.reads I M q rv
    refine ⟨_, .list ho hc hd hr, fun z => ?_⟩
    rcases List.mem_cons.mp z with z | z
    · rcases h with h | ⟨o2, h⟩
      · exact noMods I M h z.symm
      · exact noMods I M h z.symm
    · exact hn z
  | _, _, _, .tup (a := a) h q, r => by
    cases r
    obtain ⟨_, its, rv, o, ho, hc, n, hd⟩ := (show ObjOk X.prog X.w H s.heap a (.tup _) from I.hok a _ h)
    obtain ⟨as, hr, hn⟩ := RDs.reads I M q rv
    exact ⟨_, .tuple ho hc hd hr, hn⟩
  | _, _, _, .dic (a := a) h q1 q2, r => by
    cases r
    obtain ⟨_, _, vs, kv, o, es, ep, ho, hx, hd, _, pr, _⟩ := (show ObjOk X.prog X.w H s.heap a (.dK _) from I.hok a _ h)
    obtain ⟨r1, r2⟩ := pairsV kv pr
    obtain ⟨as, h1, n1⟩ := RDs.reads I M q1 r1
    obtain ⟨bs, h2, n2⟩ := RDs.reads I M q2 r2
    refine ⟨_, .dict ho hx.1 hd h1 h2, fun z => ?_⟩
    rcases List.mem_append.mp z with z | z
    · rcases List.mem_cons.mp z with z | z
      · exact noMods I M h z.symm
      · exact n1 z
    · exact n2 z
theorem RDs.reads (I : Inv X pins σ H s) (M : HasMods X.base) : ∀ {vs : List V} {ds : List PyData} {us : List Value}, RDs H vs ds → Vals vs us → ∃ as, ReadsAll s.heap us ds as ∧ sysModules ∉ as
  | _, _, _, .nil, r => by
    cases r
    exact ⟨_, .nil, by simp⟩
  | _, _, _, .cons h q, r => by
    cases r with
    | cons r1 r2 =>
      obtain ⟨as, h1, n1⟩ := RD.reads I M h r1
      obtain ⟨bs, h2, n2⟩ := RDs.reads I M q r2
      exact ⟨_, .cons h1 h2, fun z => (List.mem_append.mp z).elim n1 n2⟩
end
/-- repr(x), x a list, a tuple or a dict of data -/
def rRepr : List V → Hp → VK → Prop := fun xs H Q => ∃ (a : Addr) (d : PyData), xs = [.ref a] ∧ RD H (.ref a) d ∧ d.showable = true ∧ d.depth ≤ 50 ∧ d.shown.length ≤ sizeLine ∧ Q (.str d.shown) H
theorem call_reprD {k : Nat} (gd : X.A.guards = some []) (hr : Room k X.A) (M : HasMods X.base) : CallR X (.builtin "repr") rRepr := by
  intro pins s σ H xs us Q I r h
  obtain ⟨a, d, rfl, rd, sh, dp, sz, q⟩ := h
  obtain ⟨u1, rfl, r1⟩ := vals1 r
  obtain ⟨as, re, hn⟩ := RD.reads I M rd r1
  obtain rfl : u1 = Value.ref a := r1
  have room := hr.units
  exact repr_of_reads' re sh (fun _ => hn) gd (by omega) (fun _ _ z => z) (fun h' u tk k => ⟨.str d.shown, H, I.kept (t' := tk) k, ⟨u, rfl⟩, q⟩) sz
end
/-! ### the end of a law over such defs -/
theorem lawG {P : Program} {w : World} {K : PySem.W.Frag} {mg mb : Str → Option Value} {CX : CXT} {k : Nat} {fa a : Addr} {fd : FuncData} {x : Str} {sp : Sp} {s1 : Shared} {vs : List Value} {ns : List Int}
    (inK : K.In s1.heap) (hg : s1.heap.Ns mainGlobals mg) (hb : s1.heap.Ns builtinsNs mb) (hbb : ∀ x : Str, x ≠ "__name__" → mb x = bootBuiltins x) (hlim : s1.heap.NoLimit) (hgen : s1.gens = #[]) (hmod : ∃ mm, s1.heap.Ns sysModules mm)
    (ha : s1.heap.get? a = some { cls := .type "list", data := .seq vs.toArray }) (hi : IntsAre vs ns) (hl : ns.length ≤ sizeLine) (room : Room k callerA)
    (F : ∀ base : Heap, K.In base → base.Ns mainGlobals mg → HasMods base → FnG P w K mg base CX k fa fd [x] sp) (bnd : ∀ (s : Shared) (u : Value), BindsTo s fd ⟨[u], []⟩ [(x, u)])
    (want : ∀ H : Hp, Only H → SqL K H a (ns.map V.int) → sp [.ref a] H (fun v _ => v = .bl true) fun _ _ _ => False) (noX : ∀ H e s', CX [] H s1 (fun _ _ _ => False) e s' → False) :
    codeAny (model P w) callerA (.call (.ref fa) ⟨[.ref a], []⟩) (fun r s' => r = .ok (.ret (.bool true)) ∧ OldK s1.heap s'.heap ∧ s'.os = s1.os ∧ AllBare s'.gens) s1 := by
  have many := hi.length
  have go : ∀ H : Hp, Only H → SqL K H a (ns.map V.int) → HOk P w H s1.heap → (∀ b, b ≠ a → H b = none) → (K.lookup a ≠ none → H a = none) →
      codeAny (model P w) callerA (.call (.ref fa) ⟨[.ref a], []⟩) (fun r s' => r = .ok (.ret (.bool true)) ∧ OldK s1.heap s'.heap ∧ s'.os = s1.os ∧ AllBare s'.gens) s1 := by
    intro H only seq ok off kept
    have nsOf : ∀ {b : Addr} {m : Str → Option Value}, s1.heap.Ns b m → (hidT s1.heap H).Ns b m := by
      rintro b m ⟨o, es, ep, e, d, r⟩
      refine ⟨o, es, ep, hidT_get e (off b fun z => ?_), d, r⟩
      rw [z, ha] at e
      cases e
      cases d
    have inB : K.In (hidT s1.heap H) := fun b o e => by
      refine hidT_get (inK b o e) ?_
      by_cases z : b = a
      · rw [z]
        exact kept (by rw [← z, e]; exact fun q => nomatch q)
      · exact off b z
    obtain ⟨mc, c1, c2⟩ := hlim
    obtain ⟨mm, m1⟩ := hmod
    have M : Mod K mg (hidT s1.heap H) := ⟨inB, nsOf hg, ⟨mb, nsOf hb, hbb⟩, ⟨mc, nsOf c1, c2⟩⟩
    have hm : HasMods (hidT s1.heap H) := by
      obtain ⟨o, _, _, e, _⟩ := nsOf m1
      exact ⟨o, e⟩
    have E0' : Env0 P w K mg (hidT s1.heap H) callerA [] s1 H :=
      ⟨rfl, M, fun b o e => of_hidT e, Nat.le_of_eq (hidT_size _ _), trivial, fun b z => absurd (show b ∈ ([] : List Addr) from z) (by simp), ok, .of_eq hgen⟩
    have R := (F _ inB (nsOf hg) hm).run callerA [] s1 H ⟨[.ref a], []⟩ [.ref a] [.ref a] _ _ rfl room E0' (bnd s1 (.ref a)) (.cons rfl .nil) (want H only seq)
    refine codeAny_mono R fun r s' got => ?_
    cases r with
    | error e => exact (noX H e s' got).elim
    | ok fl =>
      cases fl with
      | next => exact got.elim
      | brk => exact got.elim
      | cont => exact got.elim
      | ret u =>
        obtain ⟨v, H', os, bare, un, ok', rv, rfl⟩ := got
        obtain rfl : u = Value.bool true := rv
        refine ⟨rfl, OldK.of_keep fun b o e => ?_, os, bare⟩
        rcases only b with z | ⟨ob, xs, z⟩
        · exact un.keep b o e z (fun y => absurd (show b ∈ ([] : List Addr) from y) (by simp)) (by simp)
        · obtain ⟨e1, _⟩ := ok b _ z
          obtain ⟨e2, _⟩ := ok' b _ (un.frzs b ob _ z)
          rw [e] at e1
          cases e1
          exact e2
  have rel := vals_ints hi
  by_cases inside : K.lookup a = none
  · let H0 : Hp := fun b => if b = a then some (.frz { cls := .type "list", data := .seq vs.toArray } (.lst (ns.map V.int))) else none
    have at_ : H0 a = some (.frz { cls := .type "list", data := .seq vs.toArray } (.lst (ns.map V.int))) := if_pos rfl
    have out : ∀ b, b ≠ a → H0 b = none := fun b z => if_neg z
    refine go H0 (fun b => ?_) (.inl (.inr ⟨_, at_⟩)) (fun b u z => ?_) out fun z => absurd inside z
    · by_cases z : b = a
      · rw [z]
        exact .inr ⟨_, _, at_⟩
      · exact .inl (out b z)
    · by_cases y : b = a
      · subst y
        rw [at_] at z
        cases z
        exact ⟨ha, by rw [List.length_map]; exact hl, vs, _, rel, ha⟩
      · rw [out b y] at z
        cases z
  · obtain ⟨o, ho⟩ := Option.ne_none_iff_exists'.mp inside
    have same := inK a o ho
    rw [ha] at same
    cases same
    refine go (fun _ => none) (fun _ => .inl rfl) (.inr ⟨_, vs.toArray, _, ho, rfl, rfl, rfl, ?_, by simpa using rel⟩) (fun b u z => ?_) (fun _ _ => rfl) fun _ => rfl
    · rw [List.size_toArray, many]
      exact hl
    · cases (show (none : Option HO) = some u from z)
theorem walkG {l : PySem.W.OpenLaw} {n k : Nat} {q : Program} {loose : List Str} {XP : (Str → Option Value) → Heap → Prop} {YP : World → Heap → Prop} {d : DefRec} {K : Params → PySem.W.Frag} {CX : World → CXT} {sp : World → Sp} {x : Str}
    (hn : l.most = some n) (hn2 : n ≤ sizeLine) (hdf : d.params.defaults = []) (room : Room k callerA) (free : importsNone q = true) (hY : ∀ (w : World) (h : Heap), YP w h → (K w.params).In h)
    (F : ∀ (w : World) (mg : Str → Option Value) (fa : Addr) (h : Heap), (K w.params).In h → h.Ns mainGlobals mg → mg d.name = some (.ref fa) →
      ∃ fd : FuncData, (∀ (s : Shared) (u : Value), BindsTo s fd ⟨[u], []⟩ [(x, u)]) ∧
        ∀ base : Heap, (K w.params).In base → base.Ns mainGlobals mg → HasMods base → FnG l.prog w (K w.params) mg base (CX w) k fa fd [x] (sp w))
    (want : ∀ (w : World) (H : Hp) (a : Addr) (ns : List Int), ns.length ≤ n → Only H → SqL (K w.params) H a (ns.map V.int) → sp w [.ref a] H (fun v _ => v = .bl true) fun _ _ _ => False)
    (noX : ∀ (w : World) (H : Hp) (s : Shared) (e : Value) (s' : Shared), CX w [] H s (fun _ _ _ => False) e s' → False) :
    PySem.W.WalkO q loose XP YP l.row.toRowW d [] (fun f vs => PySem.call f vs) := by
  refine Att.attach_call hn hdf fun w s0 s1 mg mb fa o pm cd doc a vs ns G Y ho hd hcd hmg hobj hints hlen hgen => ?_
  have inK := hY w _ Y
  obtain ⟨fd, bnd, hF⟩ := F w mg fa _ inK G.T.g hmg
  obtain ⟨mm, hm, _⟩ := (G.T.seer free).mods
  exact lawG inK G.T.g G.T.b G.T.builtins G.T.nolimit hgen ⟨mm, hm⟩ hobj hints (Nat.le_trans hlen hn2) room hF bnd (fun H h1 h2 => want w H a ns hlen h1 h2) fun H e s' => noX w H s1 e s'
end Gd

set_option maxHeartbeats 1000000
/-! small data, for repr; a comprehension over a list whose items draw -/
namespace Lw
open PySem PySem.Spec PyProof.Rows L2
theorem name_ok {z : Str} (h : IsNm z) : PyData.strOk z = true := by
  obtain ⟨_, _, hl⟩ := h
  unfold PyData.strOk
  rw [← Array.all_toList, List.all_eq_true]
  exact fun c hc => decide_eq_true (by have := hl c hc; omega)
/-- data of at most this weight and depth, that repr can show -/
structure Sm (w dp : Nat) (d : PyData) : Prop where
  c : d.canLay0 = true
  s : d.showable = true
  i : d.intsShort 13 = true
  w : d.weight ≤ w
  d : d.depth ≤ dp
structure SmAll (w dp : Nat) (ds : List PyData) : Prop where
  c : PyData.canLayAll0 ds = true
  s : PyData.showableAll ds = true
  i : PyData.intsShortAll 13 ds = true
  w : PyData.weightAll ds ≤ w
  d : PyData.depthAll ds ≤ dp
theorem SmAll.nil {w dp : Nat} : SmAll w dp [] := ⟨by simp [PyData.canLayAll0], by simp [PyData.showableAll], by simp [PyData.intsShortAll], by simp [PyData.weightAll], by simp [PyData.depthAll]⟩
theorem SmAll.cons {w1 w2 w dp : Nat} {d : PyData} {ds : List PyData} (h : Sm w1 dp d) (t : SmAll w2 dp ds) (q : w1 + 1 + w2 ≤ w) : SmAll w dp (d :: ds) := by
  obtain ⟨a1, a2, a3, a4, a5⟩ := h
  obtain ⟨b1, b2, b3, b4, b5⟩ := t
  refine ⟨by simp [PyData.canLayAll0, a1, b1], by simp [PyData.showableAll, a2, b2], by simp [PyData.intsShortAll, a3, b3], ?_, ?_⟩
  · rw [PyData.weightAll]
    omega
  · rw [PyData.depthAll]
    omega
theorem SmAll.each {w dp n : Nat} : ∀ {ds : List PyData}, (∀ d ∈ ds, Sm w dp d) → ds.length ≤ n → SmAll (n * (w + 1)) dp ds
  | [], _, _ => .nil
  | d :: ds, h, l => by
    cases n with
    | zero => exact absurd l (by simp)
    | succ n =>
      refine SmAll.cons (h d List.mem_cons_self) (SmAll.each (n := n) (fun e he => h e (List.mem_cons_of_mem _ he)) (by simpa using l)) ?_
      rw [Nat.succ_mul]
      omega
theorem Sm.list {w dp : Nat} {ds : List PyData} (h : SmAll w dp ds) : Sm w (dp + 1) (.list ds) := by
  obtain ⟨b1, b2, b3, b4, b5⟩ := h
  exact ⟨by simpa [PyData.canLay0] using b1, by simpa [PyData.showable] using b2, by simpa [PyData.intsShort] using b3, by simpa [PyData.weight] using b4, by simp only [PyData.depth]; omega⟩
theorem Sm.tup {w dp : Nat} {ds : List PyData} (h : SmAll w dp ds) : Sm w (dp + 1) (.tuple ds) := by
  obtain ⟨b1, b2, b3, b4, b5⟩ := h
  exact ⟨by simpa [PyData.canLay0] using b1, by simpa [PyData.showable] using b2, by simpa [PyData.intsShort] using b3, by simpa [PyData.weight] using b4, by simp only [PyData.depth]; omega⟩
theorem Sm.str {z : Str} (h : IsNm z) : Sm 8 1 (.str z) := by
  refine ⟨by simpa [PyData.canLay0] using name_ok h, by simp [PyData.showable], by simp [PyData.intsShort], ?_, by simp [PyData.depth]⟩
  have := h.2.1
  simp only [PyData.weight]
  exact this
theorem Sm.int {l : Int} (h0 : -1000000 ≤ l) (h1 : l ≤ 1000000) : Sm 20 1 (.int l) := by
  refine ⟨by simp [PyData.canLay0], by simpa [PyData.showable] using isz_log h0 h1, ?_, ?_, by simp [PyData.depth]⟩
  · rw [PyData.intsShort]
    refine decide_eq_true ?_
    have := isz_len h0 h1
    rw [PyData.shown]
    show (isz l).length ≤ 13
    omega
  · simp only [PyData.weight]
    split
    · exact Nat.zero_le _
    · have h : l.natAbs < 2 ^ 20 := by omega
      rcases Nat.eq_zero_or_pos l.natAbs with z | z
      · rw [z]
        decide
      · have := (Nat.log2_lt (Nat.ne_of_gt z)).mpr h
        omega
theorem Sm.mono {w dp w' dp' : Nat} {d : PyData} (h : Sm w dp d) (a : w ≤ w') (b : dp ≤ dp') : Sm w' dp' d := ⟨h.c, h.s, h.i, Nat.le_trans h.w a, Nat.le_trans h.d b⟩
/-- what repr asks -/
theorem Sm.rep {w dp : Nat} {d : PyData} (h : Sm w dp d) (a : w ≤ 1000000) (b : dp ≤ 50) : d.showable = true ∧ d.depth ≤ 50 ∧ d.shown.length ≤ sizeLine := by
  obtain ⟨b1, b2, b3, b4, b5⟩ := h
  refine ⟨b2, Nat.le_trans b5 b, ?_⟩
  have l : PyData.layable0 d = true := by
    show (d.canLay0 && decide (d.depth ≤ 64) && decide (d.weight ≤ 2 ^ 20)) = true
    rw [b1, decide_eq_true (by omega), decide_eq_true (by omega)]
    rfl
  have := shown_le13 l b3
  rw [sizeLine_eq]
  omega
theorem sm_eg {e : Eg} (a : IsNm e.1) (b : IsNm e.2.1) (c : IsNm e.2.2.1) (h0 : -1000000 ≤ e.2.2.2) (h1 : e.2.2.2 ≤ 1000000) : Sm 50 2 (egD e) :=
  Sm.tup (SmAll.cons (w2 := 39) (Sm.str a) (SmAll.cons (w2 := 30) (Sm.str b) (SmAll.cons (w2 := 21) (Sm.str c) (SmAll.cons (w2 := 0) (Sm.int h0 h1) .nil (by decide)) (by decide)) (by decide)) (by decide))
theorem sm_strs {ns : List Str} (h : ∀ y ∈ ns, IsNm y) {n : Nat} (l : ns.length ≤ n) : SmAll (n * 9) 1 (ns.map PyData.str) := SmAll.each (w := 8) (fun d hd => by
  obtain ⟨z, hz, rfl⟩ := List.mem_map.mp hd
  exact Sm.str (h z hz)) (by rwa [List.length_map])
theorem sm_egs {ns : List Str} {es : List Eg} (h : IsNet ns es) {n : Nat} (l : es.length ≤ n) : SmAll (n * 51) 2 (es.map egD) := SmAll.each (w := 50) (fun d hd => by
  obtain ⟨e, he, rfl⟩ := List.mem_map.mp hd
  obtain ⟨h1, h2, h3, h4, h5, h6⟩ := h.em e he
  exact sm_eg h1 (h.nm _ h2) (h.nm _ h3) h5 h6) (by rwa [List.length_map])
theorem rd_strs {H : Hp} : ∀ ns : List Str, Gd.RDs H (ns.map V.str) (ns.map PyData.str)
  | [] => .nil
  | n :: ns => .cons (.str n) (rd_strs ns)
theorem rd_egs {H : Hp} : ∀ {as : List Addr} {es : List Eg}, EgsAt H as es → Gd.RDs H (as.map V.ref) (es.map egD)
  | _, _, .nil => .nil
  | _, _, .cons h t => .cons (.tup h (.cons (.str _) (.cons (.str _) (.cons (.str _) (.cons (.int _) .nil))))) (rd_egs t)
/-! orders -/
theorem perm_map_inv {α β : Type} {f : α → β} : ∀ {xs : List α} {ys : List β}, ys.Perm (xs.map f) → ∃ zs : List α, zs.Perm xs ∧ ys = zs.map f
  | [], ys, h => ⟨[], .nil, List.perm_nil.mp h⟩
  | x :: xs, ys, h => by
    have m : f x ∈ ys := h.mem_iff.mpr List.mem_cons_self
    obtain ⟨l1, l2, rfl⟩ := List.append_of_mem m
    have h2 : (l1 ++ l2).Perm (xs.map f) := List.Perm.cons_inv (a := f x) (List.perm_middle.symm.trans h)
    obtain ⟨zs, p, e⟩ := perm_map_inv h2
    obtain ⟨z1, z2, rfl, e1, e2⟩ := List.map_eq_append_iff.mp e.symm
    exact ⟨z1 ++ x :: z2, List.perm_middle.trans (p.cons x), by rw [List.map_append, List.map_cons, e1, e2]⟩
theorem perm_egs {H : Hp} {as : List Addr} {es : List Eg} {ys : List V} (h : EgsAt H as es) (p : ys.Perm (as.map V.ref)) : ∃ ds gs, ys = ds.map V.ref ∧ EgsAt H ds gs ∧ gs.Perm es := by
  obtain ⟨ps, h1, h2, h3⟩ := egs_pairs h
  rw [← h1] at p
  obtain ⟨zs, pz, rfl⟩ := perm_map_inv p
  obtain ⟨ds, d1, d2⟩ := pairs_egs (H := H) (ps := zs) fun q hq => h3 q (pz.mem_iff.mp hq)
  exact ⟨ds, zs.map (·.2), d1, d2, by rw [← h2]; exact pz.map _⟩
theorem norm_flip {e f : Eg} (h : f.1 = e.1) (l : f.2.2.2 = e.2.2.2) (k : f.2.1 = e.2.1 ∧ f.2.2.1 = e.2.2.1 ∨ f.2.1 = e.2.2.1 ∧ f.2.2.1 = e.2.1) : norm f = norm e := by
  obtain ⟨n, u, v, m⟩ := e
  obtain ⟨n', u', v', m'⟩ := f
  simp only at h l k
  subst h l
  rcases k with ⟨rfl, rfl⟩ | ⟨rfl, rfl⟩
  · rfl
  · have key : ∀ a b : Str, minS a b = minS b a ∧ maxS a b = maxS b a := fun a b => by
      unfold minS maxS
      by_cases h1 : sk b < sk a
      · have h2 : ¬ sk a < sk b := List.lt_asymm h1
        rw [if_pos h1, if_neg h2, if_neg h2, if_pos h1]
        exact ⟨rfl, rfl⟩
      · by_cases h2 : sk a < sk b
        · rw [if_neg h1, if_pos h2, if_pos h2, if_neg h1]
          exact ⟨rfl, rfl⟩
        · have e : a = b := ext_cps (List.le_antisymm (List.not_lt.mp h1) (List.not_lt.mp h2))
          subst e
          exact ⟨rfl, rfl⟩
    obtain ⟨e1, e2⟩ := key u' v'
    unfold norm
    simp only
    rw [e1, e2]
abbrev tri (e : Eg) : Str × Str × Str := (e.1, e.2.1, e.2.2.1)
theorem tri_names (es : List Eg) : (es.map tri).map (·.1) = es.map (·.1) := by
  rw [List.map_map]
  rfl
theorem net_tri {ns : List Str} {es fs : List Eg} (net : IsNet ns es) (h : fs.map tri = es.map tri) (b : ∀ f ∈ fs, -1000000 ≤ f.2.2.2 ∧ f.2.2.2 ≤ 1000000) : IsNet ns fs := by
  refine ⟨net.nm, net.nd, fun f hf => ?_, ?_⟩
  · have m : tri f ∈ es.map tri := by
      rw [← h]
      exact List.mem_map.mpr ⟨f, hf, rfl⟩
    obtain ⟨e, he, q⟩ := List.mem_map.mp m
    obtain ⟨h1, h2, h3, h4, _⟩ := net.em e he
    have q1 : e.1 = f.1 := congrArg (·.1) q
    have q2 : e.2.1 = f.2.1 := congrArg (·.2.1) q
    have q3 : e.2.2.1 = f.2.2.1 := congrArg (·.2.2) q
    rw [q1] at h1
    rw [q2] at h2 h4
    rw [q3] at h3 h4
    exact ⟨h1, h2, h3, h4, b f hf⟩
  · rw [← tri_names, h, tri_names]
    exact net.ed
theorem net_perm {ns : List Str} {es gs : List Eg} (net : IsNet ns es) (p : gs.Perm es) : IsNet ns gs := ⟨net.nm, net.nd, fun e he => net.em e (p.mem_iff.mp he), (p.map _).nodup_iff.mpr net.ed⟩
/-- the same edge, its ends exchanged perhaps -/
def Flip (e f : Eg) : Prop := f.1 = e.1 ∧ f.2.2.2 = e.2.2.2 ∧ (f.2.1 = e.2.1 ∧ f.2.2.1 = e.2.2.1 ∨ f.2.1 = e.2.2.1 ∧ f.2.2.1 = e.2.1)
theorem flip_norm : ∀ {es fs : List Eg}, Paired Flip es fs → fs.map norm = es.map norm
  | _, _, .nil => rfl
  | _, _, .cons h t => by
    rw [List.map_cons, List.map_cons, flip_norm t, norm_flip h.1 h.2.1 h.2.2]
theorem flip_names : ∀ {es fs : List Eg}, Paired Flip es fs → fs.map (·.1) = es.map (·.1)
  | _, _, .nil => rfl
  | _, _, .cons h t => by
    rw [List.map_cons, List.map_cons, flip_names t, h.1]
theorem flip_mem : ∀ {es fs : List Eg}, Paired Flip es fs → ∀ f ∈ fs, ∃ e ∈ es, Flip e f
  | _, _, .nil => fun f hf => absurd hf (by simp)
  | e :: _, f' :: _, .cons h t => fun f hf => by
    rcases List.mem_cons.mp hf with z | z
    · exact ⟨e, List.mem_cons_self, by rw [z]; exact h⟩
    · obtain ⟨e', m, q⟩ := flip_mem t f z
      exact ⟨e', List.mem_cons_of_mem _ m, q⟩
theorem net_flip {ns : List Str} {es fs : List Eg} (net : IsNet ns es) (h : Paired Flip es fs) : IsNet ns fs := by
  refine ⟨net.nm, net.nd, fun f hf => ?_, by rw [flip_names h]; exact net.ed⟩
  obtain ⟨e, he, q1, q2, q3⟩ := flip_mem h f hf
  obtain ⟨h1, h2, h3, h4, h5, h6⟩ := net.em e he
  rw [q1, q2]
  rcases q3 with ⟨a, b⟩ | ⟨a, b⟩
  · rw [a, b]
    exact ⟨h1, h2, h3, h4, h5, h6⟩
  · rw [a, b]
    exact ⟨h1, h3, h2, Ne.symm h4, h5, h6⟩
theorem perm_two {α : Type} {u v : α} {zs : List α} (h : zs.Perm [u, v]) : zs = [u, v] ∨ zs = [v, u] := by
  have l := h.length_eq
  match zs, l with
  | [x, y], _ =>
    have m : x ∈ [u, v] := h.mem_iff.mp List.mem_cons_self
    simp only [List.mem_cons, List.mem_nil_iff, or_false] at m
    rcases m with rfl | rfl
    · exact .inl (by rw [List.perm_singleton.mp (List.Perm.cons_inv h)])
    · exact .inr (by rw [List.perm_singleton.mp (List.Perm.cons_inv (h.trans (List.Perm.swap _ _ _)))])
theorem min_max (a b : Str) : minS a b = a ∧ maxS a b = b ∨ minS a b = b ∧ maxS a b = a := by
  unfold minS maxS
  by_cases h1 : sk b < sk a
  · have h2 : ¬ sk a < sk b := List.lt_asymm h1
    rw [if_pos h1, if_neg h2]
    exact .inr ⟨rfl, rfl⟩
  · by_cases h2 : sk a < sk b
    · rw [if_neg h1, if_pos h2]
      exact .inl ⟨rfl, rfl⟩
    · have e : a = b := ext_cps (List.le_antisymm (List.not_lt.mp h1) (List.not_lt.mp h2))
      subst e
      rw [if_neg h1]
      exact .inl ⟨rfl, rfl⟩
theorem flip_self (e : Eg) : Flip e (norm e) := ⟨rfl, rfl, min_max e.2.1 e.2.2.1⟩
theorem norm_norm (e : Eg) : norm (norm e) = norm e := norm_flip rfl rfl (flip_self e).2.2
theorem norms_norms (es : List Eg) : (es.map norm).map norm = es.map norm := by
  rw [List.map_map]
  exact List.map_congr_left fun e _ => norm_norm e
theorem flips_self : ∀ es : List Eg, Paired Flip es (es.map norm)
  | [] => .nil
  | e :: es => .cons (flip_self e) (flips_self es)
theorem net_permN {ns ms : List Str} {es : List Eg} (p : ms.Perm ns) (net : IsNet ns es) : IsNet ms es := ⟨fun y hy => net.nm y (p.mem_iff.mp hy), p.nodup_iff.mpr net.nd, fun e he => by
  obtain ⟨h1, h2, h3, h⟩ := net.em e he
  exact ⟨h1, p.mem_iff.mpr h2, p.mem_iff.mpr h3, h⟩, net.ed⟩
/-- the canonical nodes and edges are a network -/
theorem net_canon {ns : List Str} {es : List Eg} (net : IsNet ns es) : IsNet (srtN ns) (srtE (es.map norm)) := net_permN (srtN_perm ns) (net_perm (net_flip net (flips_self es)) (srtE_perm _))
theorem canon_canon {ns : List Str} {es : List Eg} (net : IsNet ns es) : srtN (srtN ns) = srtN ns ∧ srtE ((srtE (es.map norm)).map norm) = srtE (es.map norm) := by
  refine ⟨srtN_eq net.nd (srtN_perm ns), ?_⟩
  refine srtE_eq (by rw [norm_names]; exact net.ed) ?_
  have := (srtE_perm (es.map norm)).map norm
  rwa [norms_norms] at this
theorem text_canon {ns : List Str} {es : List Eg} (net : IsNet ns es) : netText (srtN ns) (srtE (es.map norm)) = netText ns es := by
  refine netText_eq net (srtN_perm ns) ?_
  have := (srtE_perm (es.map norm)).map norm
  rwa [norms_norms] at this
theorem nmEg_of {ns : List Str} {es : List Eg} (net : IsNet ns es) : ∀ e ∈ es, IsNm e.1 ∧ IsNm e.2.1 ∧ IsNm e.2.2.1 := fun e he => by
  obtain ⟨h1, h2, h3, _⟩ := net.em e he
  exact ⟨h1, net.nm _ h2, net.nm _ h3⟩
/-- behind the making of an object -/
theorem ex_make {H1 H2 : Hp} {x dx : Addr} {o o' : HO} (nx : H1 x = none) (nd : H1 dx = none) (b : But x (upd (upd H1 dx o) x o') H2) : Evl.Ex H1 H2 := fun c u hc => by
  have c1 : c ≠ x := fun z => by
    rw [z, nx] at hc
    exact nomatch hc
  have c2 : c ≠ dx := fun z => by
    rw [z, nd] at hc
    exact nomatch hc
  refine b c u c1 ?_
  rw [upd_ne c1, upd_ne c2]
  exact hc
/-- what repr shows of nodes and edges -/
def netL (ns : List Str) (es : List Eg) : PyData := .tuple [.list (ns.map PyData.str), .list (es.map egD)]
def netU (ns : List Str) (es : List Eg) : PyData := .tuple [.tuple (ns.map PyData.str), .tuple (es.map egD)]
theorem sm_netL {ns : List Str} {es : List Eg} (net : IsNet ns es) (h1 : ns.length ≤ 40) (h2 : es.length ≤ 100) : (netL ns es).showable = true ∧ (netL ns es).depth ≤ 50 ∧ (netL ns es).shown.length ≤ sizeLine :=
  Sm.rep (w := 10000) (dp := 4) (Sm.tup (SmAll.cons (w1 := 40 * 9) (w2 := 8000) ((Sm.list (sm_strs net.nm h1)).mono (Nat.le_refl _) (by decide)) (SmAll.cons (w1 := 100 * 51) (w2 := 0) (Sm.list (sm_egs net h2)) .nil (by decide)) (by decide))) (by decide) (by decide)
theorem sm_netU {ns : List Str} {es : List Eg} (net : IsNet ns es) (h1 : ns.length ≤ 40) (h2 : es.length ≤ 100) : (netU ns es).showable = true ∧ (netU ns es).depth ≤ 50 ∧ (netU ns es).shown.length ≤ sizeLine :=
  Sm.rep (w := 10000) (dp := 4) (Sm.tup (SmAll.cons (w1 := 40 * 9) (w2 := 8000) ((Sm.tup (sm_strs net.nm h1)).mono (Nat.le_refl _) (by decide)) (SmAll.cons (w1 := 100 * 51) (w2 := 0) (Sm.tup (sm_egs net h2)) .nil (by decide)) (by decide))) (by decide) (by decide)
theorem rd_netL {H : Hp} {t a b : Addr} {ns : List Str} {as : List Addr} {es : List Eg} (ht : H t = some (.tup [.ref a, .ref b])) (ha : H a = some (.lst (ns.map V.str))) (hb : H b = some (.lst (as.map V.ref))) (he : EgsAt H as es) : Gd.RD H (.ref t) (netL ns es) :=
  .tup ht (.cons (.lst (.inl ha) (rd_strs ns)) (.cons (.lst (.inl hb) (rd_egs he)) .nil))
theorem rd_netU {H : Hp} {t a b : Addr} {ns : List Str} {as : List Addr} {es : List Eg} (ht : H t = some (.tup [.ref a, .ref b])) (ha : H a = some (.tup (ns.map V.str))) (hb : H b = some (.tup (as.map V.ref))) (he : EgsAt H as es) : Gd.RD H (.ref t) (netU ns es) :=
  .tup ht (.cons (.tup ha (rd_strs ns)) (.cons (.tup hb (rd_egs he)) .nil))
/-- repr((nodes, edges)), both lists -/
theorem ev_reprL {σ : St} {H : Hp} {ta tb : TE} {a b : Addr} {ns : List Str} {as : List Addr} {es : List Eg} (h1 : Evl.Ev ta σ H (.ref a)) (h2 : Evl.Ev tb σ H (.ref b)) (ha : H a = some (.lst (ns.map V.str))) (hb : H b = some (.lst (as.map V.ref))) (he : EgsAt H as es) (net : IsNet ns es) (l1 : ns.length ≤ 40) (l2 : es.length ≤ 100) :
    Evl.Ev (tCB Gd.rRepr (tCons (tTup (tCons ta (tCons tb tNil))) tNil)) σ H (.str (netL ns es).shown) := fun H1 e Q q => h1 H1 e _ fun H2 e2 => h2 H2 (e.trans e2) _ fun H3 e3 => ⟨by simp [sizeLine_eq], fun t nt => by
  have eA := ((e.trans e2).trans e3).trans (Evl.Ex.new (o := .tup [.ref a, .ref b]) nt)
  obtain ⟨s1, s2, s3⟩ := sm_netL net l1 l2
  exact ⟨t, _, rfl, rd_netL upd_same (eA _ _ ha) (eA _ _ hb) (he.tk (TK.ex eA)), s1, s2, s3, q _ ((e2.trans e3).trans (Evl.Ex.new nt))⟩⟩
/-- a comprehension over a list that stays, whose items may draw, kk times each -/
theorem lcL {K : PySem.W.Frag} {p c a : Addr} {n kk : Nat} {xs : List V} {σ : St} {H1 : Hp} {te : TE} {j : Nat} {vs : List Nat} {Q : VK} (Pv : Nat → List V → Hp → Prop) (hP : Pen p c n H1) (ha : H1 a = some (.lst xs)) (hap : a ≠ p) (hm : xs.length ≤ 1000) (p0 : ∀ H', Evl.Ex H1 H' → Pv 0 [] H')
    (hw : ∀ x, wipe ((wipe σ vs).set j (some x)) vs = wipe σ vs) (pm : ∀ i acc D ys H', (H' D = none ∨ ∃ xs, H' D = some (.lst xs)) → Pv i acc H' → Pv i acc (upd H' D (.lst ys)))
    (hs : ∀ i x acc H', xs[i]? = some x → acc.length = i → Pv i acc H' → But p H1 H' → Pen p c (n + kk * i) H' → ∀ Q' : VK, (∀ y H'', Pv (i + 1) (acc ++ [y]) H'' → But p H' H'' → Pen p c (n + kk * (i + 1)) H'' → Q' y H'') → te ((wipe σ vs).set j (some x)) H' Q')
    (hd : ∀ D acc H', H1 D = none → acc.length = xs.length → Pv xs.length acc H' → But p H1 H' → H' D = some (.lst acc) → Pen p c (n + kk * xs.length) H' → Q (.ref D) H') :
    ∀ D, H1 D = none → ∃ W : Nat → Nat → Hp → Prop, (∃ m, W 0 m (upd H1 D (.lst []))) ∧ ∀ i m' H, W i m' H →
      ((Itl K a).stop i H ∧ Q (.ref D) H) ∨ ((Itl K a).go i H ∧ ∃ Nx : Hp → Prop, (∀ H', Nx H' → ∃ m2, m2 < m' ∧ W (i + 1) m2 H') ∧ ∀ x H', (Itl K a).yld i H x H' → gName j x (wipe σ vs) H' fun σ2 H2 => wipe σ2 vs = wipe σ vs ∧ tYes σ2 H2 fun b H3 => if b = true then te σ2 H3 fun y H4 => ∃ acc, H4 D = some (.lst acc) ∧ acc.length < sizeLine ∧ Nx (upd H4 D (.lst (acc ++ [y]))) else Nx H3) := by
  intro D hD
  have far := hP.far hD
  refine lc_list (K := K) (a := a) (xs := xs) (fun i H' => ∃ acc : List V, acc.length = i ∧ Pv i acc H' ∧ But p H1 H' ∧ H' D = some (.lst acc) ∧ Pen p c (n + kk * i) H') ⟨[], rfl, pm _ _ _ _ _ (.inl hD) (p0 _ (Evl.Ex.refl _)), (But.refl p H1).mut hD, upd_same, hP.mut far⟩ (fun i H' hi w => ?_) (fun i x H' hx w => ?_)
    (fun H' w => ?_)
  · obtain ⟨acc, la, pa, ba, hacc, Pa⟩ := w
    exact Evl.sq_of (ba _ _ hap ha)
  · obtain ⟨acc, la, pa, ba, hacc, Pa⟩ := w
    have hi : i < xs.length := (List.getElem?_eq_some_iff.mp hx).1
    refine ⟨hw _, ?_⟩
    show te ((wipe σ vs).set j (some x)) H' fun y H4 => ∃ acc, H4 D = some (.lst acc) ∧ acc.length < sizeLine ∧ ∃ acc' : List V, acc'.length = i + 1 ∧ Pv (i + 1) acc' (upd H4 D (.lst (acc ++ [y]))) ∧ But p H1 (upd H4 D (.lst (acc ++ [y]))) ∧ (upd H4 D (.lst (acc ++ [y]))) D = some (.lst acc') ∧ Pen p c (n + kk * (i + 1)) (upd H4 D (.lst (acc ++ [y])))
    refine hs i x acc H' hx la pa ba Pa _ fun y H4 p4 b4 P4 => ?_
    exact ⟨acc, b4 _ _ far.1 hacc, Evl.sz_lt (by omega), acc ++ [y], by simp [la], pm _ _ _ _ _ (.inr ⟨acc, b4 _ _ far.1 hacc⟩) p4, (ba.trans b4).mut hD, upd_same, P4.mut far⟩
  · obtain ⟨acc, la, pa, ba, hacc, Pa⟩ := w
    exact hd D acc H' hD la pa ba hacc Pa
end Lw

set_option maxHeartbeats 1000000
/-! what the top has written, told for the end of a law -/
namespace Lw
open PySem PySem.Spec PyProof.Rows L2
/-- a def of the program, where it stands -/
def FnIs (K : PySem.W.Frag) (x qual : Str) (st : Stmt) (f : Addr) : Prop := ∃ (oc : Value) (od : Option Addr) (kV doc pm : Value) (an : Option Addr) (cdv ct : Value) (osl : Array (Option Value)),
  K.lookup f = some ⟨oc, od, .func (PySem.W.fnOf x qual (defArgs st) (defBody st) (defScope st) .none kV doc pm an cdv ct), osl⟩ ∧ PySem.W.codeIn K cdv qual = true ∧ PySem.W.keepIn K (.ref f) = true
theorem fnIs {K : PySem.W.Frag} {x qual : Str} {st : Stmt} {f : Addr} {oc : Value} {od : Option Addr} {kV doc pm : Value} {an : Option Addr} {cdv ct : Value} {osl : Array (Option Value)}
    (l : K.lookup f = some ⟨oc, od, .func (PySem.W.fnOf x qual (defArgs st) (defBody st) (defScope st) .none kV doc pm an cdv ct), osl⟩) (c : PySem.W.codeIn K cdv qual = true) (k : PySem.W.keepIn K (.ref f) = true) : FnIs K x qual st f :=
  ⟨oc, od, kV, doc, pm, an, cdv, ct, osl, l, c, k⟩
theorem FnIs.fn {K : PySem.W.Frag} {x qual : Str} {st : Stmt} {f : Addr} (h : FnIs K x qual st f) : ∃ fd, Fun K x qual st f fd := by
  obtain ⟨oc, od, kV, doc, pm, an, cdv, ct, osl, l, c, k⟩ := h
  exact ⟨_, fun_mk l c k⟩
/-- a def with one default, an object of the top -/
def FnIs1 (K : PySem.W.Frag) (x qual : Str) (st : Stmt) (f : Addr) : Prop := ∃ (oc : Value) (od : Option Addr) (kV doc pm : Value) (an : Option Addr) (cdv ct : Value) (osl : Array (Option Value)) (E T : Addr) (o : Obj) (n : Nat),
  K.lookup f = some ⟨oc, od, .func (PySem.W.fnOf x qual (defArgs st) (defBody st) (defScope st) (.ref T) kV doc pm an cdv ct), osl⟩ ∧ K.lookup T = some o ∧ o.data = .seq #[.ref E] n ∧ PySem.W.codeIn K cdv qual = true ∧ PySem.W.keepIn K (.ref f) = true
theorem fnIs1 {K : PySem.W.Frag} {x qual : Str} {st : Stmt} {f : Addr} {oc : Value} {od : Option Addr} {kV doc pm : Value} {an : Option Addr} {cdv ct : Value} {osl : Array (Option Value)} {E T : Addr} {oT : Value} {dT : Option Addr} {n : Nat} {sl : Array (Option Value)}
    (l : K.lookup f = some ⟨oc, od, .func (PySem.W.fnOf x qual (defArgs st) (defBody st) (defScope st) (.ref T) kV doc pm an cdv ct), osl⟩) (lT : K.lookup T = some ⟨oT, dT, .seq #[.ref E] n, sl⟩) (c : PySem.W.codeIn K cdv qual = true) (k : PySem.W.keepIn K (.ref f) = true) : FnIs1 K x qual st f :=
  ⟨oc, od, kV, doc, pm, an, cdv, ct, osl, E, T, _, n, l, lT, rfl, c, k⟩
theorem FnIs1.fn {K : PySem.W.Frag} {x qual : Str} {st : Stmt} {f : Addr} (h : FnIs1 K x qual st f) : ∃ fd E, FunD K x qual (defArgs st) (defBody st) (defScope st) [V.ref E] [] f fd := by
  obtain ⟨oc, od, kV, doc, pm, an, cdv, ct, osl, E, T, o, n, l, lT, oT, c, k⟩ := h
  exact ⟨_, E, ⟨⟨oc, od, .ref T, kV, doc, pm, an, cdv, ct, osl, rfl, l, c, .inr ⟨by simp, T, o, [.ref E], n, rfl, lT, oT, .cons rfl .nil⟩, .inl rfl⟩, k⟩⟩
section
variable {P : Program} {w : World} {K : PySem.W.Frag} {mg : Str → Option Value} {base h : Heap} {x : Str} {ps : List Str} {k j : Nat} {sp : Sp} {f : Addr} {fd : FuncData}
theorem Cf.up (C : Cf P w K mg base x ps j sp f fd) (q : j ≤ k) : Cf P w K mg base x ps k sp f fd := ⟨C.F.mono q, C.b, C.g, C.kp⟩
theorem cf_mk {st : Stmt} (X : K.In h) (G : h.Ns mainGlobals mg) (n : PySem.W.nsIn K mainGlobals x = some (some (.ref f))) (F : Fun K x x st f fd) (b : Binds K fd ps []) (q : FnOk P w K mg base CX0 k f fd ps sp) : Cf P w K mg base x ps k sp f fd :=
  ⟨q, b, PySem.W.mg_of X G n, F.kp⟩
end
end Lw

set_option maxHeartbeats 2000000
/-! the head of a law by kernel runs, its facts as tests over the objects at given addresses -/
namespace Hx
open PySem PySem.Spec PyProof.Rows L2
abbrev Ft := PySem.W.Frag → Bool
def look (fs : List Ft) (ds : List He5.DefA) (K : PySem.W.Frag) : He.AlD := (fs.all (fun f => f K) && ds.all (fun d => d.ok K), ds.map fun d => He5.fnA K (d.at_ K))
def due (ds : List He5.DefA) : He.AlD := (true, ds.map He5.DefA.val)
def Told (fs : List Ft) (ds : List He5.DefA) (K : PySem.W.Frag) : Prop := look fs ds K = due ds
def hk (as : List Addr) (fs : List Ft) (ds : List He5.DefA) : PySem.W.Hook where
  α := He.AlD
  obs := fun s => look fs ds (He.frG s.heap.get? as)
  val := fun _ => due ds
  says := fun _ h => ∃ K : PySem.W.Frag, K.In h ∧ Told fs ds K
  of := fun _ s e => ⟨He.frG s.heap.get? as, He.frG_in, e⟩
  keeps := fun _ _ _ ⟨K, inK, t⟩ keep => ⟨K, PySem.W.Frag.In.keeps inK keep, t⟩
/-- off the tree -/
def ob (as : List Addr) (fs : List Ft) (ds : List He5.DefA) (s : PySem.W.SharedT) : He.AlD := look fs ds (He.frG (HandSHeadRun.getT s) as)
theorem ob_eq (as : List Addr) (fs : List Ft) (ds : List He5.DefA) (s : PySem.W.SharedT) : ob as fs ds s = (hk as fs ds).obs s.abs := by
  have : HandSHeadRun.getT s = s.abs.heap.get? := funext (HandSHeadRun.getT_eq s)
  unfold ob
  rw [this]
  rfl
section
variable {fs : List Ft} {ds : List He5.DefA} {K : PySem.W.Frag}
theorem Told.fact (c : Told fs ds K) (i : Nat) {f : Ft} (h : fs[i]? = some f) : f K = true := by
  have e : (look fs ds K).1 = true := by rw [c]; rfl
  exact List.all_eq_true.mp (He.ba e).1 f (List.mem_of_getElem? h)
theorem Told.fn (c : Told fs ds K) (i : Nat) {d : He5.DefA} (h : ds[i]? = some d) : ∃ fd, FunD K d.name d.qual d.params d.body d.scope (d.dvs K) (d.kws K) (d.at_ K) fd := by
  have e : (look fs ds K).1 = true := by rw [c]; rfl
  have ok := List.all_eq_true.mp (He.ba e).2 d (List.mem_of_getElem? h)
  have v : (look fs ds K).2[i]? = (due ds).2[i]? := by rw [c]
  have v : (ds.map fun d => He5.fnA K (d.at_ K))[i]? = (ds.map He5.DefA.val)[i]? := v
  rw [List.getElem?_map, List.getElem?_map, h] at v
  exact He5.DefA.funD (Option.some.inj v) ok
end
theorem fnIs_of {K : PySem.W.Frag} {x q : Str} {st : Stmt} {f : Addr} (h : ∃ fd, FunD K x q (defArgs st) (defBody st) (defScope st) [] [] f fd) : Lw.FnIs K x q st f := by
  obtain ⟨fd, F⟩ := h
  have kp := F.kp
  obtain ⟨oc, od, dV, kV, doc, pm, an, cdv, ct, osl, rfl, l, c, hd, _⟩ := F.ex
  rcases hd with ⟨_, rfl⟩ | ⟨z, _⟩
  · exact ⟨oc, od, kV, doc, pm, an, cdv, ct, osl, l, c, kp⟩
  · exact absurd rfl z
theorem fnIs1_of {K : PySem.W.Frag} {x q : Str} {st : Stmt} {f : Addr} {E : Addr} (h : ∃ fd, FunD K x q (defArgs st) (defBody st) (defScope st) [V.ref E] [] f fd) : Lw.FnIs1 K x q st f := by
  obtain ⟨fd, F⟩ := h
  have kp := F.kp
  obtain ⟨oc, od, dV, kV, doc, pm, an, cdv, ct, osl, rfl, l, c, hd, _⟩ := F.ex
  rcases hd with ⟨z, _⟩ | ⟨_, T, o, its, n, rfl, lT, oT, hv⟩
  · exact absurd z (by simp)
  · cases hv with
    | cons r t =>
      cases t
      cases r
      exact ⟨oc, od, kV, doc, pm, an, cdv, ct, osl, E, T, o, n, l, lT, oT, c, kp⟩
/-! ### tests -/
def intB (K : PySem.W.Frag) (x : Str) (i : Int) : Bool := match PySem.W.nsIn K mainGlobals x with
  | some (some (.int j _)) => decide (j = i)
  | _ => false
theorem intB_ok {K : PySem.W.Frag} {x : Str} {i : Int} (h : intB K x i = true) : ∃ t, PySem.W.nsIn K mainGlobals x = some (some (.int i t)) := by
  unfold intB at h
  split at h
  · rename_i j t e
    exact ⟨t, by rw [e, of_decide_eq_true h]⟩
  · exact nomatch h
/-- the def of a property, a staticmethod: what the record at p holds -/
def recF (K : PySem.W.Frag) (p : Addr) (T : String) : Addr := match PySem.W.recIn K p T with
  | some (.ref f :: _) => f
  | _ => 0
def recB (K : PySem.W.Frag) (p : Addr) (T : String) : Bool := match PySem.W.recIn K p T with
  | some (.ref _ :: _) => true
  | _ => false
theorem recB_ok {K : PySem.W.Frag} {p : Addr} {T : String} (h : recB K p T = true) : ∃ rest, PySem.W.recIn K p T = some (.ref (recF K p T) :: rest) := by
  unfold recF
  unfold recB at h
  split at h
  · rename_i f r e
    exact ⟨r, by rw [e]⟩
  · exact nomatch h
def clsB (K : PySem.W.Frag) (C : Addr) (gid : String) (m : Str) (p : Addr) : Bool := match PySem.W.findCls K (.ref C) (.type "type") m with
  | some (.get (.builtin g) (.ref q) .none (.ref D)) => decide (g = gid) && (decide (q = p) && decide (D = C))
  | _ => false
theorem clsB_ok {K : PySem.W.Frag} {C : Addr} {gid : String} {m : Str} {p : Addr} (h : clsB K C gid m p = true) : PySem.W.findCls K (.ref C) (.type "type") m = some (.get (.builtin gid) (.ref p) .none (.ref C)) := by
  unfold clsB at h
  split at h
  · rename_i g q D e
    obtain ⟨h1, h2⟩ := He.ba h
    obtain ⟨h2, h3⟩ := He.ba h2
    rw [e, of_decide_eq_true h1, of_decide_eq_true h2, of_decide_eq_true h3]
  · exact nomatch h
/-- the first default of the def at a -/
def dfl0 (a : PySem.W.Frag → Addr) (K : PySem.W.Frag) : Addr := match K.lookup (a K) with
  | some ⟨_, _, .func fd, _⟩ => (match fd.defaults with
    | .ref T => (match K.lookup T with
      | some ⟨_, _, .seq its _, _⟩ => (match its.toList with
        | .ref b :: _ => b
        | _ => 0)
      | _ => 0)
    | _ => 0)
  | _ => 0
def boB (a b : Option Bool) : Bool := decide (a = b)
theorem boB_ok {a b : Option Bool} (h : boB a b = true) : a = b := of_decide_eq_true h
/-! ### runs in parts -/
theorem both {γ α β : Type} {o : Option γ} {f : γ → α} {g : γ → β} {a : α} {b : β} (h1 : o.map f = some a) (h2 : o.map g = some b) : o.map (fun x => (f x, g x)) = some (a, b) := by
  cases o with
  | none => exact nomatch h1
  | some x => exact congrArg some (Prod.ext (Option.some.inj h1) (Option.some.inj h2))
theorem both3 {γ α β δ : Type} {o : Option γ} {f : γ → α} {g : γ → β} {k : γ → δ} {a : α} {b : β} {c : δ} (h1 : o.map (fun x => (f x, g x)) = some (a, b)) (h2 : o.map k = some c) : o.map (fun x => (f x, g x, k x)) = some (a, b, c) := by
  cases o with
  | none => exact nomatch h1
  | some x =>
    obtain ⟨e1, e2⟩ := Prod.mk.inj (Option.some.inj h1)
    exact congrArg some (Prod.ext e1 (Prod.ext e2 (Option.some.inj h2)))
/-! ### the end -/
theorem walk {l : PySem.W.OpenLaw} {n k : Nat} {q : Program} {loose : List Str} {XP : (Str → Option Value) → Heap → Prop} {d : DefRec} {as : List Addr} {fs : List Ft} {ds : List He5.DefA} {sp : PySem.W.Frag → World → Sp} {x : Str}
    (hn : l.most = some n) (hn2 : n ≤ sizeLine) (hdf : d.params.defaults = []) (room : Room k callerA) (free : importsNone q = true)
    (F : ∀ (K : PySem.W.Frag) (w : World) (mg : Str → Option Value) (fa : Addr) (h : Heap), K.In h → Told fs ds K → h.Ns mainGlobals mg → mg d.name = some (.ref fa) →
      ∃ fd : FuncData, (∀ (s : Shared) (u : Value), BindsTo s fd ⟨[u], []⟩ [(x, u)]) ∧ ∀ base : Heap, K.In base → base.Ns mainGlobals mg → Gd.HasMods base → Gd.FnG l.prog w K mg base CX0 k fa fd [x] (sp K w))
    (want : ∀ (K : PySem.W.Frag) (w : World) (H : Hp) (a : Addr) (ns : List Int), ns.length ≤ n → Only H → SqL K H a (ns.map V.int) → sp K w [.ref a] H (fun v _ => v = .bl true) fun _ _ _ => False) :
    PySem.W.WalkO q loose XP (hk as fs ds).says l.row.toRowW d [] (fun f vs => PySem.call f vs) := by
  refine Att.attach_call hn hdf fun w s0 s1 mg mb fa o pm cd doc a vs ns G Y ho hd hcd hmg hobj hints hlen hgen => ?_
  obtain ⟨K, inK, c⟩ := Y
  obtain ⟨fd, bnd, hF⟩ := F K w mg fa _ inK c G.T.g hmg
  obtain ⟨mm, hm, _⟩ := (G.T.seer free).mods
  exact Gd.lawG inK G.T.g G.T.b G.T.builtins G.T.nolimit hgen ⟨mm, hm⟩ hobj hints (Nat.le_trans hlen hn2) room hF bnd (fun H h1 h2 => want K w H a ns hlen h1 h2) fun H e s' z => z
end Hx

namespace Lw
open PySem L2
def top (i : Nat) : Stmt := PySem.Challenge.pw_lendroads_k63_nearest_nodes.main.body.getD i (.Pass ⟨0, 0, 0, 0⟩)
end Lw

set_option maxHeartbeats 0
namespace Hv
open PySem PySem.Spec PyProof.Rows L2 Lw
def a_C (K : PySem.W.Frag) : Addr := He.ga K "Network"
def a_L (K : PySem.W.Frag) : Addr := He.ga K "LeastJoins"
def a_p_Network_nodes (K : PySem.W.Frag) : Addr := He.ma K (a_C K) "nodes"
def a_f_Network_nodes (K : PySem.W.Frag) : Addr := Hx.recF K (a_p_Network_nodes K) "property"
def a_p_Network_edges (K : PySem.W.Frag) : Addr := He.ma K (a_C K) "edges"
def a_f_Network_edges (K : PySem.W.Frag) : Addr := Hx.recF K (a_p_Network_edges K) "property"
def a_f_law_pen (K : PySem.W.Frag) : Addr := He.ga K "_law_pen"
def a_f_law_draw (K : PySem.W.Frag) : Addr := He.ga K "_law_draw"
def a_f_law_pick (K : PySem.W.Frag) : Addr := He.ga K "_law_pick"
def a_f_law_names (K : PySem.W.Frag) : Addr := He.ga K "_law_names"
def a_f_law_shuffled (K : PySem.W.Frag) : Addr := He.ga K "_law_shuffled"
def a_f_law_small (K : PySem.W.Frag) : Addr := He.ga K "_law_small"
def a_f_law_walks (K : PySem.W.Frag) : Addr := He.ga K "_law_walks"
def a_f_law_cycles (K : PySem.W.Frag) : Addr := He.ga K "_law_cycles"
def a_f_law_rows (K : PySem.W.Frag) : Addr := He.ga K "_law_rows"
def a_f_law_total (K : PySem.W.Frag) : Addr := He.ga K "_law_total"
def a_f_law_sunk_cycles (K : PySem.W.Frag) : Addr := He.ga K "_law_sunk_cycles"
def a_f_law_calm (K : PySem.W.Frag) : Addr := He.ga K "_law_calm"
def a_f_is_name (K : PySem.W.Frag) : Addr := He.ga K "is_name"
def a_f_checked_nodes (K : PySem.W.Frag) : Addr := He.ga K "checked_nodes"
def a_f_is_whole (K : PySem.W.Frag) : Addr := He.ga K "is_whole"
def a_f_is_length (K : PySem.W.Frag) : Addr := He.ga K "is_length"
def a_f_is_edge (K : PySem.W.Frag) : Addr := He.ga K "_is_edge"
def a_f_edge_in_order (K : PySem.W.Frag) : Addr := He.ga K "edge_in_order"
def a_f_odd_nodes (K : PySem.W.Frag) : Addr := He.ga K "odd_nodes"
def a_f_negative_edges (K : PySem.W.Frag) : Addr := He.ga K "negative_edges"
def a_f_checked_edges (K : PySem.W.Frag) : Addr := He.ga K "checked_edges"
def a_f_Network__init (K : PySem.W.Frag) : Addr := He.ma K (a_C K) "__init__"
def a_f_law_made (K : PySem.W.Frag) : Addr := He.ga K "_law_made"
def a_f_law_gap (K : PySem.W.Frag) : Addr := He.ga K "_law_gap"
def a_f_check_known_node (K : PySem.W.Frag) : Addr := He.ga K "check_known_node"
def a_f_edges_by_node (K : PySem.W.Frag) : Addr := He.ga K "edges_by_node"
def a_f_LeastJoins__init (K : PySem.W.Frag) : Addr := He.ma K (a_L K) "__init__"
def a_f_names_of (K : PySem.W.Frag) : Addr := He.ga K "names_of"
def a_f_joins_of (K : PySem.W.Frag) : Addr := He.ga K "joins_of"
def a_f_other_end (K : PySem.W.Frag) : Addr := He.ga K "other_end"
def a_f_routes_from (K : PySem.W.Frag) : Addr := He.ga K "routes_from"
def a_f_LeastJoins__routes_from (K : PySem.W.Frag) : Addr := He.ma K (a_L K) "_routes_from"
def a_f_without (K : PySem.W.Frag) : Addr := He.ga K "_without"
def a_f_LeastJoins__searched_pairing (K : PySem.W.Frag) : Addr := He.ma K (a_L K) "_searched_pairing"
def a_f_LeastJoins__best_pairing (K : PySem.W.Frag) : Addr := He.ma K (a_L K) "_best_pairing"
def a_f_LeastJoins__points (K : PySem.W.Frag) : Addr := He.ma K (a_L K) "_points"
def a_f_LeastJoins_least_length (K : PySem.W.Frag) : Addr := He.ma K (a_L K) "least_length"
def a_f_calm_joins (K : PySem.W.Frag) : Addr := He.ga K "calm_joins"
def a_f_nearest (K : PySem.W.Frag) : Addr := He.ga K "nearest"
def a_f_law_first_of (K : PySem.W.Frag) : Addr := He.ga K "_law_first_of"
def a_f_law (K : PySem.W.Frag) : Addr := He.ga K "law"
def fs : List Hx.Ft := [
  fun K => He.eqO (PySem.W.nsIn K mainGlobals "_law_pen") (some (some (.ref (a_f_law_pen K)))),
  fun K => He.eqO (PySem.W.nsIn K mainGlobals "_law_draw") (some (some (.ref (a_f_law_draw K)))),
  fun K => He.eqO (PySem.W.nsIn K mainGlobals "_law_pick") (some (some (.ref (a_f_law_pick K)))),
  fun K => He.eqO (PySem.W.nsIn K mainGlobals "_law_names") (some (some (.ref (a_f_law_names K)))),
  fun K => He.eqO (PySem.W.nsIn K mainGlobals "_law_shuffled") (some (some (.ref (a_f_law_shuffled K)))),
  fun K => He.eqO (PySem.W.nsIn K mainGlobals "_law_small") (some (some (.ref (a_f_law_small K)))),
  fun K => He.eqO (PySem.W.nsIn K mainGlobals "_law_walks") (some (some (.ref (a_f_law_walks K)))),
  fun K => He.eqO (PySem.W.nsIn K mainGlobals "_law_cycles") (some (some (.ref (a_f_law_cycles K)))),
  fun K => He.eqO (PySem.W.nsIn K mainGlobals "_law_rows") (some (some (.ref (a_f_law_rows K)))),
  fun K => He.eqO (PySem.W.nsIn K mainGlobals "_law_total") (some (some (.ref (a_f_law_total K)))),
  fun K => He.eqO (PySem.W.nsIn K mainGlobals "_law_sunk_cycles") (some (some (.ref (a_f_law_sunk_cycles K)))),
  fun K => He.eqO (PySem.W.nsIn K mainGlobals "_law_calm") (some (some (.ref (a_f_law_calm K)))),
  fun K => He.eqO (PySem.W.nsIn K mainGlobals "is_name") (some (some (.ref (a_f_is_name K)))),
  fun K => He.eqO (PySem.W.nsIn K mainGlobals "checked_nodes") (some (some (.ref (a_f_checked_nodes K)))),
  fun K => He.eqO (PySem.W.nsIn K mainGlobals "is_whole") (some (some (.ref (a_f_is_whole K)))),
  fun K => He.eqO (PySem.W.nsIn K mainGlobals "is_length") (some (some (.ref (a_f_is_length K)))),
  fun K => He.eqO (PySem.W.nsIn K mainGlobals "_is_edge") (some (some (.ref (a_f_is_edge K)))),
  fun K => He.eqO (PySem.W.nsIn K mainGlobals "edge_in_order") (some (some (.ref (a_f_edge_in_order K)))),
  fun K => He.eqO (PySem.W.nsIn K mainGlobals "odd_nodes") (some (some (.ref (a_f_odd_nodes K)))),
  fun K => He.eqO (PySem.W.nsIn K mainGlobals "negative_edges") (some (some (.ref (a_f_negative_edges K)))),
  fun K => He.eqO (PySem.W.nsIn K mainGlobals "checked_edges") (some (some (.ref (a_f_checked_edges K)))),
  fun K => He.eqO (PySem.W.nsIn K mainGlobals "_law_made") (some (some (.ref (a_f_law_made K)))),
  fun K => He.eqO (PySem.W.nsIn K mainGlobals "_law_gap") (some (some (.ref (a_f_law_gap K)))),
  fun K => He.eqO (PySem.W.nsIn K mainGlobals "check_known_node") (some (some (.ref (a_f_check_known_node K)))),
  fun K => He.eqO (PySem.W.nsIn K mainGlobals "edges_by_node") (some (some (.ref (a_f_edges_by_node K)))),
  fun K => He.eqO (PySem.W.nsIn K mainGlobals "names_of") (some (some (.ref (a_f_names_of K)))),
  fun K => He.eqO (PySem.W.nsIn K mainGlobals "joins_of") (some (some (.ref (a_f_joins_of K)))),
  fun K => He.eqO (PySem.W.nsIn K mainGlobals "other_end") (some (some (.ref (a_f_other_end K)))),
  fun K => He.eqO (PySem.W.nsIn K mainGlobals "routes_from") (some (some (.ref (a_f_routes_from K)))),
  fun K => He.eqO (PySem.W.nsIn K mainGlobals "_without") (some (some (.ref (a_f_without K)))),
  fun K => He.eqO (PySem.W.nsIn K mainGlobals "calm_joins") (some (some (.ref (a_f_calm_joins K)))),
  fun K => He.eqO (PySem.W.nsIn K mainGlobals "nearest") (some (some (.ref (a_f_nearest K)))),
  fun K => He.eqO (PySem.W.nsIn K mainGlobals "_law_first_of") (some (some (.ref (a_f_law_first_of K)))),
  fun K => He.eqO (PySem.W.nsIn K mainGlobals "law") (some (some (.ref (a_f_law K)))),
  fun K => He.eqO (PySem.W.nsIn K mainGlobals "len") (some none),
  fun K => He.eqO (PySem.W.nsIn K mainGlobals "abs") (some none),
  fun K => He.eqO (PySem.W.nsIn K mainGlobals "range") (some none),
  fun K => He.eqO (PySem.W.nsIn K mainGlobals "list") (some none),
  fun K => He.eqO (PySem.W.nsIn K mainGlobals "tuple") (some none),
  fun K => He.eqO (PySem.W.nsIn K mainGlobals "int") (some none),
  fun K => He.eqO (PySem.W.nsIn K mainGlobals "min") (some none),
  fun K => He.eqO (PySem.W.nsIn K mainGlobals "max") (some none),
  fun K => He.eqO (PySem.W.nsIn K mainGlobals "sorted") (some none),
  fun K => He.eqO (PySem.W.nsIn K mainGlobals "str") (some none),
  fun K => He.eqO (PySem.W.nsIn K mainGlobals "repr") (some none),
  fun K => He.eqO (PySem.W.nsIn K mainGlobals "isinstance") (some none),
  fun K => He.eqO (PySem.W.nsIn K mainGlobals "bool") (some none),
  fun K => He.eqO (PySem.W.nsIn K mainGlobals "enumerate") (some none),
  fun K => He.eqO (PySem.W.nsIn K mainGlobals "zip") (some none),
  fun K => He.eqO (PySem.W.nsIn K mainGlobals "dict") (some none),
  fun K => He.eqO (PySem.W.nsIn K mainGlobals "set") (some none),
  fun K => He.eqO (PySem.W.nsIn K mainGlobals "any") (some none),
  fun K => He.eqO (PySem.W.nsIn K mainGlobals "all") (some none),
  fun K => He.eqO (PySem.W.nsIn K mainGlobals "sum") (some none),
  fun K => He.eqO (PySem.W.nsIn K mainGlobals "type") (some none),
  fun K => He.eqO (PySem.W.nsIn K mainGlobals "Network") (some (some (.ref (a_C K)))),
  fun K => PySem.W.plainGet K (a_C K) Str.empty,
  fun K => PySem.W.hasDictIn K (a_C K),
  fun K => PySem.W.plainOver K (a_C K),
  fun K => He.eqO (PySem.W.findIn K (.ref (a_C K)) "__setattr__") (some (some (.builtin "object.__setattr__"))),
  fun K => He.eqO (PySem.W.findIn K (.ref (a_C K)) "_nodes") (some none),
  fun K => He.eqO (PySem.W.findIn K (.ref (a_C K)) "_edges") (some none),
  fun K => He.eqO (PySem.W.findIn K (.ref (a_C K)) "_by_name") (some none),
  fun K => PySem.W.makesIn K (a_C K),
  fun K => He.eqO (PySem.W.findIn K (.ref (a_C K)) "__init__") (some (some (.ref (a_f_Network__init K)))),
  fun K => PySem.W.isFn K (.ref (a_f_Network__init K)),
  fun K => PySem.W.keepIn K (.ref (a_C K)),
  fun K => He.eqO (PySem.W.nsIn K mainGlobals "LeastJoins") (some (some (.ref (a_L K)))),
  fun K => PySem.W.plainGet K (a_L K) Str.empty,
  fun K => PySem.W.hasDictIn K (a_L K),
  fun K => PySem.W.plainOver K (a_L K),
  fun K => He.eqO (PySem.W.findIn K (.ref (a_L K)) "__setattr__") (some (some (.builtin "object.__setattr__"))),
  fun K => He.eqO (PySem.W.findIn K (.ref (a_L K)) "_edge_of") (some none),
  fun K => He.eqO (PySem.W.findIn K (.ref (a_L K)) "_steps") (some none),
  fun K => He.eqO (PySem.W.findIn K (.ref (a_L K)) "_counted") (some none),
  fun K => He.eqO (PySem.W.findIn K (.ref (a_L K)) "_odd") (some none),
  fun K => He.eqO (PySem.W.findIn K (.ref (a_L K)) "_base") (some none),
  fun K => He.eqO (PySem.W.findIn K (.ref (a_L K)) "_routes") (some none),
  fun K => He.eqO (PySem.W.findIn K (.ref (a_L K)) "_best") (some none),
  fun K => PySem.W.makesIn K (a_L K),
  fun K => He.eqO (PySem.W.findIn K (.ref (a_L K)) "__init__") (some (some (.ref (a_f_LeastJoins__init K)))),
  fun K => PySem.W.isFn K (.ref (a_f_LeastJoins__init K)),
  fun K => PySem.W.keepIn K (.ref (a_L K)),
  fun K => Hx.intB K "LONGEST_NAME" 8,
  fun K => Hx.boB (PySem.W.kitOne K (.type "str") (.type "str")) (some true),
  fun K => Hx.intB K "MAX_NODES" 40,
  fun K => Hx.boB (PySem.W.kitAny K (.type "list") [.type "list", .type "tuple"]) (some true),
  fun K => Hx.boB (PySem.W.kitAny K (.type "tuple") [.type "list", .type "tuple"]) (some true),
  fun K => Hx.intB K "MAX_LENGTH" 1000000,
  fun K => Hx.boB (PySem.W.kitOne K (.type "int") (.type "int")) (some true),
  fun K => Hx.boB (PySem.W.kitOne K (.type "int") (.type "bool")) (some false),
  fun K => Hx.boB (PySem.W.kitOne K (.type "tuple") (.type "tuple")) (some true),
  fun K => Hx.intB K "MAX_EDGES" 100,
  fun K => Hx.intB K "MAX_ODD" 10,
  fun K => He.eqO (PySem.W.findIn K (.ref (a_C K)) "nodes") (some (some (.ref (a_p_Network_nodes K)))),
  fun K => He.eqO (PySem.W.specialIn K (.ref (a_p_Network_nodes K)) "__get__") (some (some (.builtin "property.__get__"))),
  fun K => Hx.boB (PySem.W.takesIn K (.ref (a_p_Network_nodes K))) (some true),
  fun K => Hx.recB K (a_p_Network_nodes K) "property",
  fun K => He.eqO (PySem.W.nsIn K mainGlobals "heappop") (some (some (.builtin "_heapq.heappop"))),
  fun K => He.eqO (PySem.W.nsIn K mainGlobals "heappush") (some (some (.builtin "_heapq.heappush"))),
  fun K => He.eqO (PySem.W.findIn K (.ref (a_L K)) "_best_pairing") (some (some (.ref (a_f_LeastJoins__best_pairing K)))),
  fun K => PySem.W.isFn K (.ref (a_f_LeastJoins__best_pairing K)),
  fun K => PySem.W.keepIn K (.ref (a_f_LeastJoins__best_pairing K)),
  fun K => He.eqO (PySem.W.findIn K (.ref (a_L K)) "_searched_pairing") (some (some (.ref (a_f_LeastJoins__searched_pairing K)))),
  fun K => PySem.W.isFn K (.ref (a_f_LeastJoins__searched_pairing K)),
  fun K => PySem.W.keepIn K (.ref (a_f_LeastJoins__searched_pairing K)),
  fun K => He.eqO (PySem.W.findIn K (.ref (a_L K)) "_routes_from") (some (some (.ref (a_f_LeastJoins__routes_from K)))),
  fun K => PySem.W.isFn K (.ref (a_f_LeastJoins__routes_from K)),
  fun K => PySem.W.keepIn K (.ref (a_f_LeastJoins__routes_from K)),
  fun K => He.eqO (PySem.W.findIn K (.ref (a_L K)) "_best_pairing") (some (some (.ref (a_f_LeastJoins__best_pairing K)))),
  fun K => PySem.W.isFn K (.ref (a_f_LeastJoins__best_pairing K)),
  fun K => PySem.W.keepIn K (.ref (a_f_LeastJoins__best_pairing K)),
  fun K => He.eqO (PySem.W.findIn K (.ref (a_L K)) "_points") (some (some (.ref (a_f_LeastJoins__points K)))),
  fun K => PySem.W.isFn K (.ref (a_f_LeastJoins__points K)),
  fun K => PySem.W.keepIn K (.ref (a_f_LeastJoins__points K)),
  fun K => He.eqO (PySem.W.findIn K (.ref (a_L K)) "least_length") (some (some (.ref (a_f_LeastJoins_least_length K)))),
  fun K => PySem.W.isFn K (.ref (a_f_LeastJoins_least_length K)),
  fun K => PySem.W.keepIn K (.ref (a_f_LeastJoins_least_length K)),
  fun K => He.eqO (PySem.W.findIn K (.ref (a_C K)) "edges") (some (some (.ref (a_p_Network_edges K)))),
  fun K => He.eqO (PySem.W.specialIn K (.ref (a_p_Network_edges K)) "__get__") (some (some (.builtin "property.__get__"))),
  fun K => Hx.boB (PySem.W.takesIn K (.ref (a_p_Network_edges K))) (some true),
  fun K => Hx.recB K (a_p_Network_edges K) "property",
  fun K => PySem.W.keepIn K (.ref (a_f_calm_joins K)),
  fun K => PySem.W.keepIn K (.ref (a_f_nearest K))]
def ds : List He5.DefA := [
  ⟨a_f_law_pen, "_law_pen", "_law_pen", defArgs (top 61), defBody (top 61), defScope (top 61), [], []⟩,
  ⟨a_f_law_draw, "_law_draw", "_law_draw", defArgs (top 62), defBody (top 62), defScope (top 62), [], []⟩,
  ⟨a_f_law_pick, "_law_pick", "_law_pick", defArgs (top 63), defBody (top 63), defScope (top 63), [], []⟩,
  ⟨a_f_law_names, "_law_names", "_law_names", defArgs (top 65), defBody (top 65), defScope (top 65), [], []⟩,
  ⟨a_f_law_shuffled, "_law_shuffled", "_law_shuffled", defArgs (top 64), defBody (top 64), defScope (top 64), [], []⟩,
  ⟨a_f_law_small, "_law_small", "_law_small", defArgs (top 66), defBody (top 66), defScope (top 66), [], []⟩,
  ⟨a_f_law_walks, "_law_walks", "_law_walks", defArgs (top 70), defBody (top 70), defScope (top 70), [], []⟩,
  ⟨a_f_law_cycles, "_law_cycles", "_law_cycles", defArgs (top 71), defBody (top 71), defScope (top 71), [], []⟩,
  ⟨a_f_law_rows, "_law_rows", "_law_rows", defArgs (top 68), defBody (top 68), defScope (top 68), [], []⟩,
  ⟨a_f_law_total, "_law_total", "_law_total", defArgs (top 69), defBody (top 69), defScope (top 69), [], []⟩,
  ⟨a_f_law_sunk_cycles, "_law_sunk_cycles", "_law_sunk_cycles", defArgs (top 73), defBody (top 73), defScope (top 73), [], []⟩,
  ⟨a_f_law_calm, "_law_calm", "_law_calm", defArgs (top 74), defBody (top 74), defScope (top 74), [], []⟩,
  ⟨a_f_is_name, "is_name", "is_name", defArgs (top 9), defBody (top 9), defScope (top 9), [], []⟩,
  ⟨a_f_checked_nodes, "checked_nodes", "checked_nodes", defArgs (top 31), defBody (top 31), defScope (top 31), [], []⟩,
  ⟨a_f_is_whole, "is_whole", "is_whole", defArgs (top 8), defBody (top 8), defScope (top 8), [], []⟩,
  ⟨a_f_is_length, "is_length", "is_length", defArgs (top 10), defBody (top 10), defScope (top 10), [], []⟩,
  ⟨a_f_is_edge, "_is_edge", "_is_edge", defArgs (top 33), defBody (top 33), defScope (top 33), [], []⟩,
  ⟨a_f_edge_in_order, "edge_in_order", "edge_in_order", defArgs (top 11), defBody (top 11), defScope (top 11), [], []⟩,
  ⟨a_f_odd_nodes, "odd_nodes", "odd_nodes", defArgs (top 16), defBody (top 16), defScope (top 16), [], []⟩,
  ⟨a_f_negative_edges, "negative_edges", "negative_edges", defArgs (top 15), defBody (top 15), defScope (top 15), [], []⟩,
  ⟨a_f_checked_edges, "checked_edges", "checked_edges", defArgs (top 32), defBody (top 32), defScope (top 32), [], []⟩,
  ⟨a_f_law_made, "_law_made", "_law_made", defArgs (top 67), defBody (top 67), defScope (top 67), [], []⟩,
  ⟨a_f_law_gap, "_law_gap", "_law_gap", defArgs (top 72), defBody (top 72), defScope (top 72), [], []⟩,
  ⟨a_f_check_known_node, "check_known_node", "check_known_node", defArgs (top 34), defBody (top 34), defScope (top 34), [], []⟩,
  ⟨a_f_edges_by_node, "edges_by_node", "edges_by_node", defArgs (top 17), defBody (top 17), defScope (top 17), [], []⟩,
  ⟨a_f_names_of, "names_of", "names_of", defArgs (top 12), defBody (top 12), defScope (top 12), [], []⟩,
  ⟨a_f_joins_of, "joins_of", "joins_of", defArgs (top 42), defBody (top 42), defScope (top 42), [], []⟩,
  ⟨a_f_other_end, "other_end", "other_end", defArgs (top 14), defBody (top 14), defScope (top 14), [], []⟩,
  ⟨a_f_routes_from, "routes_from", "routes_from", defArgs (top 43), defBody (top 43), defScope (top 43), [], []⟩,
  ⟨a_f_without, "_without", "_without", defArgs (top 44), defBody (top 44), defScope (top 44), [], []⟩,
  ⟨a_f_calm_joins, "calm_joins", "calm_joins", defArgs (top 47), defBody (top 47), defScope (top 47), [], []⟩,
  ⟨a_f_nearest, "nearest", "nearest", defArgs (top 57), defBody (top 57), defScope (top 57), [], []⟩,
  ⟨a_f_law_first_of, "_law_first_of", "_law_first_of", defArgs (top 75), defBody (top 75), defScope (top 75), [], []⟩,
  ⟨a_f_law, "law", "law", defArgs (top 76), defBody (top 76), defScope (top 76), [], []⟩,
  ⟨a_f_Network__init, "__init__", "Network.__init__", defArgs (inClass (top 59) 3), defBody (inClass (top 59) 3), defScope (inClass (top 59) 3), [.adr (Hx.dfl0 a_f_Network__init)], []⟩,
  ⟨a_f_Network_nodes, "nodes", "Network.nodes", defArgs (inClass (top 59) 7), defBody (inClass (top 59) 7), defScope (inClass (top 59) 7), [], []⟩,
  ⟨a_f_LeastJoins__init, "__init__", "LeastJoins.__init__", defArgs (inClass (top 41) 0), defBody (inClass (top 41) 0), defScope (inClass (top 41) 0), [], []⟩,
  ⟨a_f_LeastJoins__routes_from, "_routes_from", "LeastJoins._routes_from", defArgs (inClass (top 41) 7), defBody (inClass (top 41) 7), defScope (inClass (top 41) 7), [], []⟩,
  ⟨a_f_LeastJoins__searched_pairing, "_searched_pairing", "LeastJoins._searched_pairing", defArgs (inClass (top 41) 6), defBody (inClass (top 41) 6), defScope (inClass (top 41) 6), [], []⟩,
  ⟨a_f_LeastJoins__best_pairing, "_best_pairing", "LeastJoins._best_pairing", defArgs (inClass (top 41) 5), defBody (inClass (top 41) 5), defScope (inClass (top 41) 5), [], []⟩,
  ⟨a_f_LeastJoins__points, "_points", "LeastJoins._points", defArgs (inClass (top 41) 4), defBody (inClass (top 41) 4), defScope (inClass (top 41) 4), [], []⟩,
  ⟨a_f_LeastJoins_least_length, "least_length", "LeastJoins.least_length", defArgs (inClass (top 41) 1), defBody (inClass (top 41) 1), defScope (inClass (top 41) 1), [], []⟩,
  ⟨a_f_Network_edges, "edges", "Network.edges", defArgs (inClass (top 59) 8), defBody (inClass (top 59) 8), defScope (inClass (top 59) 8), [], []⟩]
def as : List Addr := [2, 3, 43, 45, 46, 48, 49, 50, 52, 53, 55, 56, 57, 59, 60, 62, 63, 64, 66, 67, 69, 70, 71, 73, 74, 76, 77, 78, 81, 82, 83, 86, 87, 88, 90, 91, 93, 94, 95, 98, 99, 100, 103, 104, 105, 107, 108, 110, 111, 112, 114, 115, 117, 118, 119, 121, 122, 124, 125, 126, 133, 135, 136, 138, 139, 140, 141, 142, 143, 146, 153, 155, 156, 158, 159, 160, 161, 162, 163, 166, 173, 175, 176, 178, 179, 180, 181, 182, 183, 186, 193, 195, 196, 198, 199, 200, 201, 202, 203, 206, 213, 214, 215, 216, 219, 226, 228, 229, 231, 232, 233, 234, 235, 236, 239, 246, 248, 249, 251, 252, 253, 254, 255, 256, 259, 266, 268, 269, 271, 272, 273, 274, 275, 276, 279, 281, 282, 284, 285, 286, 289, 290, 291, 293, 294, 296, 297, 298, 300, 301, 303, 304, 305, 307, 308, 310, 311, 319, 322, 323, 324, 326, 327, 329, 330, 331, 332, 333, 334, 336, 337, 339, 340, 341, 342, 343, 344, 346, 347, 349, 350, 351, 352, 354, 355, 357, 358, 359, 360, 362, 363, 365, 366, 367, 368, 370, 371, 373, 374, 375, 376, 378, 379, 381, 382, 383, 385, 386, 388, 389, 390, 392, 393, 395, 396, 397, 399, 400, 402, 403, 404, 406, 407, 409, 410, 411, 414, 415, 416, 418, 419, 421, 422, 423, 425, 426, 428, 429, 430, 432, 433, 435, 436, 437, 439, 440, 442, 443, 444, 447, 448, 449, 450, 451, 452, 453, 456, 458, 459, 461, 462, 463, 466, 467, 475, 478, 479, 480, 482, 483, 485, 486, 487, 490, 491, 492, 494, 495, 497, 498, 499, 501, 502, 504, 505, 506, 508, 509, 511, 512, 513, 515, 516, 518, 519, 520, 522, 523, 525, 526, 527, 529, 530, 532, 533, 534, 535, 536, 537, 538, 541, 543, 544, 546, 547, 548, 550, 551, 553, 554, 555, 558, 559, 560, 562, 563, 565, 566, 567, 569, 570, 572, 573, 574, 577, 578, 579, 581, 582, 584, 585, 586, 588, 589, 591, 592, 593, 595, 596, 598, 599, 600, 602, 603, 605, 606, 607, 609, 610, 612, 613, 614, 617, 618, 626, 627, 628, 631, 632, 633, 635, 636, 638, 639, 640, 641, 642, 643, 645, 646, 648, 649, 650, 651, 652, 653, 655, 656, 658, 659, 660, 661, 662, 663, 665, 666, 668, 669, 670, 671, 673, 674, 676, 677, 678, 679, 681, 682, 684, 685, 686, 687, 689, 690, 692, 693, 694, 695, 697, 698, 700, 701, 702, 703, 705, 706, 708, 709, 710, 712, 713, 715, 716, 717, 719, 720, 722, 723, 724, 726, 727, 729, 730, 731, 733, 734, 736, 737, 738, 740, 741, 743, 744, 745, 747, 748, 750, 751, 752, 754, 755, 757, 758, 759, 761, 762, 764, 765, 766, 768, 769, 771, 772, 773, 775, 776, 778, 779, 780, 782, 783, 785, 786, 787, 789, 790, 792, 793, 794, 795, 796, 797, 798, 801, 803, 804, 806, 807, 808, 810, 811, 813, 814, 815, 817, 818, 820, 821, 822, 824, 825, 827, 828, 829, 832, 833, 834, 837, 838, 839, 841, 842, 844, 845, 846, 849, 850, 851, 854, 855, 856, 858, 859, 861, 862, 863, 866, 867, 868, 871, 872, 873, 876, 877, 878, 881, 882, 883, 885, 886, 888, 889, 890, 893, 894]
abbrev R : PySem.W.OpenRow := PySem.W.OpenLaw.row PySem.Challenge.rw_lendroads_k63_nearest_nodes
def nm0 : List Str := ["_wall", "MAX_NODES", "MAX_EDGES", "MAX_LENGTH", "MAX_ODD", "LONGEST_NAME", "is_whole", "is_name", "is_length", "edge_in_order", "names_of", "sum_of_lengths", "other_end", "negative_edges", "odd_nodes", "edges_by_node", "split_edges", "_walk", "InvalidNode", "InvalidEdge", "InvalidText", "NotCalm", "OtherNetwork", "UnknownNode", "UnknownEdge", "TooMany", "checked_nodes", "checked_edges", "_is_edge", "check_known_node"]
def nm1 : List Str := ["check_known_edge", "EdgeSet", "_check_same_network", "_left_out", "LeastJoins", "joins_of", "routes_from", "_without", "negative_cycle", "calm_joins", "LONGEST_LENGTH", "network_text", "read_parts", "is_number", "_can_be_node", "_can_be_edge", "_is_length_word", "nearest", "Network", "_law_pen", "_law_draw", "_law_pick", "_law_shuffled", "_law_names", "_law_small", "_law_made", "_law_rows", "_law_total", "_law_walks", "_law_cycles"]
def nm2 : List Str := ["_law_gap", "_law_sunk_cycles", "_law_calm", "_law_first_of"]
def names : List Str := nm0 ++ nm1 ++ nm2
abbrev qv : Program := PySem.W.view R.prog [0, 76]
theorem runA (w : World) : (HandSHeadRun.wholeF (fun p => HandSHeadRun.stepQ (HandSHeadRun.denQ HandSHeadRun.tabQ) p w) HandSHeadRun.fenceQ 30000 R.prog).map (fun x => (HandSHeadRun.looksF R.prog x.1.heap x.2.abs, HandSHeadRun.seenQ qv names (PySem.importedModules R.prog.main.body) (fun s => PySem.W.xlAt qv [] s && PySem.W.recOk R.toRowW.records s) x.2.abs)) = some (true, PySem.W.openGood qv names) := by
  kernel_rfl
theorem runB (w : World) : (HandSHeadRun.wholeF (fun p => HandSHeadRun.stepQ (HandSHeadRun.denQ HandSHeadRun.tabQ) p w) HandSHeadRun.fenceQ 30000 R.prog).map (fun x => Hx.ob as fs ds x.2) = some (Hx.due ds) := by
  kernel_rfl
theorem run (w : World) : HandSHeadRun.RunEqI R qv (Hx.hk as fs ds) (Hx.ob as fs ds) 30000 names w := Hx.both3 (runA w) (runB w)
end Hv

set_option maxHeartbeats 2000000
namespace Lw
open PySem PySem.Spec PyProof.Rows L2
open Evl (EvL EvA EvT RC)
abbrev nm__law_draw : List Str := ["_law_pen_here", "_law_many", "_law_digit", "_law_used", "_law_cell", "_law_mixed"]
theorem sc__law_draw : FnScope nm__law_draw ["_law_pen_here", "_law_many"] (defScope (top 62)) := ⟨rfl, rfl, rfl, by decide +kernel, rfl, by decide +kernel, by decide +kernel⟩
abbrev nm__law_pick : List Str := ["_law_pen_here", "_law_options"]
theorem sc__law_pick : FnScope nm__law_pick ["_law_pen_here", "_law_options"] (defScope (top 63)) := ⟨rfl, rfl, rfl, by decide +kernel, rfl, by decide +kernel, by decide +kernel⟩
abbrev nm__law_shuffled : List Str := ["_law_pen_here", "_law_items", "_law_rest", "_law_found"]
theorem sc__law_shuffled : FnScope nm__law_shuffled ["_law_pen_here", "_law_items"] (defScope (top 64)) := ⟨rfl, rfl, rfl, by decide +kernel, rfl, by decide +kernel, by decide +kernel⟩
section
variable {P : Program} {w : World} {K : PySem.W.Frag} {mg : Str → Option Value} {base : Heap}
theorem ev_abs {σ : St} {H : Hp} {ta : TE} {i : Int} (h : Evl.Ev ta σ H (.int i)) : Evl.Ev (tCB (fun xs H Q => ∃ i, xs = [V.int i] ∧ Q (.int (if i < 0 then -i else i)) H) (tCons ta tNil)) σ H (.int (if i < 0 then -i else i)) :=
  Evl.ev_cb (Evl.ea_cons h Evl.ea_nil) fun H1 _ _ q => ⟨i, rfl, q H1 (Evl.Ex.refl _)⟩
theorem ev_lenT {σ : St} {H : Hp} {ta : TE} {a : Addr} {xs : List V} (h : Evl.Ev ta σ H (.ref a)) (hs : SqL K H a xs ∨ SqT K H a xs) :
    Evl.Ev (tCB (fun xs H Q => ∃ p ys, xs = [V.ref p] ∧ (SqL K H p ys ∨ SqT K H p ys) ∧ Q (.int ys.length) H) (tCons ta tNil)) σ H (.int xs.length) :=
  Evl.ev_cb (Evl.ea_cons h Evl.ea_nil) fun H1 e _ q => ⟨a, xs, rfl, hs.elim (fun z => .inl (Evl.ex_l e z)) (fun z => .inr (Evl.ex_t e z)), q H1 (Evl.Ex.refl _)⟩
abbrev bl : List Str := ["len", "abs", "range", "list", "tuple", "int", "min", "max", "sorted", "str", "repr", "isinstance", "bool", "enumerate", "zip", "dict", "set", "any", "all", "sum", "type"]
theorem ok_draw {f : Addr} {fd : FuncData} {k : Nat} (F : Fun K "_law_draw" "_law_draw" (top 62) f fd) (T : Bs mg bl) : FnOk P w K mg base CX0 (k + 1) f fd ["_law_pen_here", "_law_many"] spDraw := by
  refine F.ok sc__law_draw (fun vs H Q E h => ?_) (fun cdv A outer s H vs Q E hr h => ?_)
  · obtain ⟨p, c, m, n, rfl, _⟩ := h
    rfl
  · obtain ⟨p, c, m, n, rfl, hP, hn, m0, m1, q⟩ := h
    refine ⟨_, (pss_cons (ps_if (pt_cmpR op_gt (pe_dget (hu_of hr) (pv 0) pe_str (fun _ _ => rfl)) pe_int (nomark _)) (pss_cons (ps_set (i := 2) sc__law_draw.nd rfl (Or.inl rfl) (pe_op op_mod (pe_dget (hu_of hr) (pv 0) pe_str (fun _ _ => rfl)) (pv 1)))
      (pss_cons (ps_dput (hu_of hr) (pv 0) pe_str (pe_op op_fdiv (pe_dget (hu_of hr) (pv 0) pe_str (fun _ _ => rfl)) (pv 1)) rfl)
      (pss_one (ps_ret (pv 2))))) pss_nil)
      (pss_cons (ps_set (i := 3) sc__law_draw.nd rfl (Or.inl rfl) (pe_dget (hu_of hr) (pv 0) pe_str (fun _ _ => rfl)))
      (pss_cons (ps_dput (hu_of hr) (pv 0) pe_str (pe_op op_add (pv 3) pe_int) rfl)
      (pss_cons (ps_set (i := 4) sc__law_draw.nd rfl (Or.inl rfl) (pe_op op_add (pe_op op_mul pe_int (pv 3)) pe_int))
      (pss_cons (ps_if (pt_cmpR (op_neNil (hu64 hr)) (pe_dget (hu_of hr) (pv 0) pe_str (fun _ _ => rfl)) (pe_lst pa_nil) (nomark _)) (pss_one (ps_set (i := 4) sc__law_draw.nd rfl (Or.inl rfl) (pe_ix ix_list (pe_dget (hu_of hr) (pv 0) pe_str (fun _ _ => rfl)) (pe_op op_mod (pv 3) (pe_callB call_len_seq (by rfl) (T.b "len" (by decide)) (by decide +kernel) (pa_cons (pe_dget (hu_of hr) (pv 0) pe_str (fun _ _ => rfl)) pa_nil))) (fun _ _ => rfl)))) pss_nil)
      (pss_cons (ps_if (PW.pt (pw_and (pt_cmpR op_lt (pv 3) (pe_callB call_len_seq (by rfl) (T.b "len" (by decide)) (by decide +kernel) (pa_cons (pe_dget (hu_of hr) (pv 0) pe_str (fun _ _ => rfl)) pa_nil)) (nomark _)) (pw_and1 (pt_cmpR op_ge (pe_callB call_abs (by rfl) (T.b "abs" (by decide)) (by decide +kernel) (pa_cons (pv 4) pa_nil)) (pe_op op_pow pe_int pe_int) (nomark _))))) (pss_cons (ps_dput (hu_of hr) (pv 0) pe_str (pe_op op_fdiv (pe_op op_sub (pe_callB call_abs (by rfl) (T.b "abs" (by decide)) (by decide +kernel) (pa_cons (pv 4) pa_nil)) (pe_op op_pow pe_int pe_int)) (pv 1)) rfl)
      (pss_one (ps_ret (pe_op op_mod (pe_op op_sub (pe_callB call_abs (by rfl) (T.b "abs" (by decide)) (by decide +kernel) (pa_cons (pv 4) pa_nil)) (pe_op op_pow pe_int pe_int)) (pv 1))))) pss_nil)
      (pss_cons (ps_set (i := 5) sc__law_draw.nd rfl (Or.inl rfl) (pe_op op_mod (pe_op op_add (pe_op op_add (pe_op op_add (pe_op op_mul (pe_op op_mod (pv 4) pe_int) pe_int) (pe_op op_mul (pe_op op_mul pe_int (pv 3)) (pv 3))) (pe_op op_mul pe_int (pv 3))) pe_int) pe_int))
      (pss_cons (ps_set (i := 5) sc__law_draw.nd rfl (Or.inl rfl) (pe_op op_mod (pe_op op_add (pe_op op_add (pe_op op_add (pe_op op_mul (pv 5) (pv 5)) (pe_op op_mul pe_int (pv 5))) (pe_op op_mul pe_int (pv 3))) pe_int) pe_int))
      (pss_one (ps_ret (pe_op op_mod (pe_op op_fdiv (pe_op op_mod (pe_op op_mul (pv 5) (pe_op op_add (pv 5) pe_int)) pe_int) pe_int) (pv 1)))))))))))), ?_⟩
    obtain ⟨cs, u, l, hp, hc, hcs, u0, un⟩ := hP
    have far : c ≠ p := fun z => by
      rw [z, hp] at hc
      exact nomatch hc
    have done : ∀ (u' l' : Int) (H3 H4 : Hp), But p H H3 → H3 c = some (.lst (cs.map V.int)) → Evl.Ex (upd H3 p (penO c u' l')) H4 → 0 ≤ u' → u' ≤ (n + 1 : Nat) → But p H H4 ∧ Pen p c (n + 1) H4 := fun u' l' H3 H4 b1 h3 e4 z1 z2 =>
      ⟨(b1.trans But.put).trans (But.of e4), cs, u', l', e4 _ _ upd_same, e4 _ _ (by rw [upd_ne far]; exact h3), hcs, z1, z2⟩
    have cell : ∀ j : Int, 0 ≤ j → j < cs.length → ∃ x, (cs.map V.int)[j.toNat]? = some (.int x) := fun j j0 j1 => by
      have hj : j.toNat < cs.length := by omega
      exact ⟨cs[j.toNat], by rw [List.getElem?_map, List.getElem?_eq_getElem hj]; rfl⟩
    refine Evl.q_when (b := decide (0 < l)) (Evl.et_test (Evl.ev_op (ev_left hp (Evl.ev_var rfl)) Evl.ev_c Evl.rv_I0)) (fun hb H1 e1 => ?_) (fun hb H1 e1 => ?_)
    · refine Evl.q_asg (Evl.ev_op (ev_left (e1 _ _ hp) (Evl.ev_var rfl)) (Evl.ev_var rfl) (Evl.rv_I m0)) fun H2 e2 => ?_
      refine q_left (e2 _ _ (e1 _ _ hp)) (Evl.ev_op (ev_left (e2 _ _ (e1 _ _ hp)) (Evl.ev_var rfl)) (Evl.ev_var rfl) (Evl.rv_I ⟨m0, m1⟩)) (Evl.ev_var rfl) fun H3 e3 => ?_
      have e13 := (e1.trans e2).trans e3
      refine Evl.s_ret (Evl.ev_var rfl) fun H4 e4 => ?_
      obtain ⟨d1, d2⟩ := done u (l / m) H3 H4 (But.of e13) (e13 _ _ hc) e4 u0 (by omega)
      exact q _ H4 (Int.emod_nonneg _ (by omega)) (Int.emod_lt_of_pos _ m0) d1 d2
    · refine Evl.q_asg (ev_used (e1 _ _ hp) (Evl.ev_var rfl)) fun H2 e2 => ?_
      have e12 := e1.trans e2
      refine q_used (e12 _ _ hp) (Evl.ev_op (Evl.ev_var rfl) Evl.ev_c Evl.rv_I0) (Evl.ev_var rfl) fun H3 e3 => ?_
      have e13 := e12.trans e3
      generalize hH : upd H3 p (penO c (u + 1) l) = H3'
      have hp3 : H3' p = some (penO c (u + 1) l) := by
        rw [← hH]
        exact upd_same
      have hc3 : H3' c = some (.lst (cs.map V.int)) := by
        rw [← hH, upd_ne far]
        exact e13 _ _ hc
      have b3 : But p H H3' := by
        rw [← hH]
        exact (But.of e13).trans But.put
      refine Evl.q_asg (Evl.ev_op (Evl.ev_op Evl.ev_c (Evl.ev_var rfl) (Evl.rv_I (Or.inl (by decide)))) Evl.ev_c Evl.rv_I0) fun H4 e4 => ?_
      refine q_whenAsg (fun v => ∃ x, v = V.int x) (et_neNil (ev_cells (e4 _ _ hp3) (Evl.ev_var rfl)) (Evl.sq_of (e4 _ _ hc3))) (fun hb => ?_) (fun hb => ⟨_, rfl, _, rfl⟩) ?_
      · have len0 : 0 < cs.length := by
          cases cs with
          | nil => exact absurd hb (by simp)
          | cons z zs => exact Nat.succ_pos _
        have j0 : 0 ≤ u % ((cs.map V.int).length : Int) := Int.emod_nonneg _ (by rw [List.length_map]; omega)
        have j1 : u % ((cs.map V.int).length : Int) < cs.length := by
          rw [List.length_map]
          exact Int.emod_lt_of_pos _ (by omega)
        obtain ⟨x, hx⟩ := cell _ j0 j1
        exact ⟨_, Evl.ev_op (ev_cells (e4 _ _ hp3) (Evl.ev_var rfl)) (Evl.ev_op (Evl.ev_var rfl) (ev_lenT (ev_cells (e4 _ _ hp3) (Evl.ev_var rfl)) (.inl (Evl.sq_of (e4 _ _ hc3)))) (Evl.rv_I (by rw [List.length_map]; omega)))
          (Evl.rv_ixL (Evl.sq_of (e4 _ _ hc3)) (atI_some j0 hx)), x, rfl⟩
      · rintro v ⟨x, rfl⟩ H5 e5
        have e35 := e4.trans e5
        generalize hx : (if x < 0 then -x else x) = y
        refine Evl.q_when (Evl.et_and (Evl.et_test (Evl.ev_op (Evl.ev_var rfl) (ev_lenT (ev_cells (e35 _ _ hp3) (Evl.ev_var rfl)) (.inl (Evl.sq_of (e35 _ _ hc3)))) Evl.rv_I0)) fun _ =>
          Evl.et_test (Evl.ev_op (ev_abs (i := x) (Evl.ev_var rfl)) (Evl.ev_op Evl.ev_c Evl.ev_c rv_big) Evl.rv_I0)) (fun hb H6 e6 => ?_) (fun hb H6 e6 => ?_)
        · have e36 := e35.trans e6
          refine q_left (e36 _ _ hp3) (Evl.ev_op (Evl.ev_op (ev_abs (i := x) (Evl.ev_var rfl)) (Evl.ev_op Evl.ev_c Evl.ev_c rv_big) Evl.rv_I0) (Evl.ev_var rfl) (Evl.rv_I ⟨m0, m1⟩)) (Evl.ev_var rfl) fun H7 e7 => ?_
          refine Evl.s_ret (Evl.ev_op (Evl.ev_op (ev_abs (i := x) (Evl.ev_var rfl)) (Evl.ev_op Evl.ev_c Evl.ev_c rv_big) Evl.rv_I0) (Evl.ev_var rfl) (Evl.rv_I m0)) fun H8 e8 => ?_
          obtain ⟨d1, d2⟩ := done (u + 1) _ H7 H8 (b3.trans (But.of (e36.trans e7))) ((e36.trans e7) _ _ hc3) e8 (by omega) (by omega)
          exact q _ H8 (Int.emod_nonneg _ (by omega)) (Int.emod_lt_of_pos _ m0) d1 d2
        · have e36 := e35.trans e6
          have ub : -(2 ^ 64) < u ∧ u < 2 ^ 64 := ⟨by omega, by omega⟩
          refine Evl.q_asg (Evl.ev_op (Evl.ev_op (Evl.ev_op (Evl.ev_op (Evl.ev_op (Evl.ev_op (x := .int x) (Evl.ev_var rfl) Evl.ev_c (Evl.rv_I (by decide))) Evl.ev_c (Evl.rv_I (Or.inr (by decide)))) (Evl.ev_op (Evl.ev_op Evl.ev_c (Evl.ev_var rfl) (Evl.rv_I (Or.inl (by decide)))) (Evl.ev_var rfl) (Evl.rv_I (Or.inr ub))) Evl.rv_I0)
            (Evl.ev_op Evl.ev_c (Evl.ev_var rfl) (Evl.rv_I (Or.inl (by decide)))) Evl.rv_I0) Evl.ev_c Evl.rv_I0) Evl.ev_c (Evl.rv_I (by decide))) fun H7 e7 => ?_
          have z0 := Int.emod_nonneg (x % 2147483647 * 39373 + 52501 * u * u + 8117 * u + 23) (b := 2147483629) (by decide)
          have z1 := Int.emod_lt_of_pos (x % 2147483647 * 39373 + 52501 * u * u + 8117 * u + 23) (b := 2147483629) (by decide)
          generalize (x % 2147483647 * 39373 + 52501 * u * u + 8117 * u + 23) % 2147483629 = z at z0 z1 ⊢
          have zb : -(2 ^ 64) < z ∧ z < 2 ^ 64 := ⟨by omega, by omega⟩
          refine Evl.q_asg (Evl.ev_op (Evl.ev_op (Evl.ev_op (Evl.ev_op (Evl.ev_op (x := .int z) (Evl.ev_var rfl) (Evl.ev_var rfl) (Evl.rv_I (Or.inl zb))) (Evl.ev_op Evl.ev_c (Evl.ev_var rfl) (Evl.rv_I (Or.inl (by decide)))) Evl.rv_I0) (Evl.ev_op Evl.ev_c (Evl.ev_var rfl) (Evl.rv_I (Or.inl (by decide)))) Evl.rv_I0) Evl.ev_c Evl.rv_I0) Evl.ev_c
            (Evl.rv_I (by decide))) fun H8 e8 => ?_
          have y0 := Int.emod_nonneg (z * z + 28411 * z + 11 * u + 5) (b := 2147483587) (by decide)
          have y1 := Int.emod_lt_of_pos (z * z + 28411 * z + 11 * u + 5) (b := 2147483587) (by decide)
          generalize (z * z + 28411 * z + 11 * u + 5) % 2147483587 = v at y0 y1 ⊢
          have vb : -(2 ^ 64) < v ∧ v < 2 ^ 64 := ⟨by omega, by omega⟩
          refine Evl.s_ret (Evl.ev_op (Evl.ev_op (Evl.ev_op (Evl.ev_op (x := .int v) (Evl.ev_var rfl) (Evl.ev_op (Evl.ev_var rfl) Evl.ev_c Evl.rv_I0) (Evl.rv_I (Or.inl vb))) Evl.ev_c (Evl.rv_I (by decide))) Evl.ev_c (Evl.rv_I ⟨by decide, by decide⟩)) (Evl.ev_var rfl) (Evl.rv_I m0)) fun H9 e9 => ?_
          have e39 := ((e36.trans e7).trans e8).trans e9
          refine q _ H9 (Int.emod_nonneg _ (by omega)) (Int.emod_lt_of_pos _ m0) (b3.trans (But.of e39)) ⟨cs, u + 1, l, e39 _ _ hp3, e39 _ _ hc3, hcs, by omega, by omega⟩
/-- one of the items of a list or a tuple -/
def spPick (K : PySem.W.Frag) : Sp := fun vs H Q _ => ∃ (p c a : Addr) (xs : List V) (n : Nat), vs = [V.ref p, .ref a] ∧ Pen p c n H ∧ n ≤ 1000000 ∧ (SqL K H a xs ∨ SqT K H a xs) ∧ a ≠ p ∧ 0 < xs.length ∧ xs.length < 100000 ∧
  ∀ v H', v ∈ xs → But p H H' → Pen p c (n + 1) H' → Q v H'
/-- one of the signs of a text -/
def spPickS : Sp := fun vs H Q _ => ∃ (p c : Addr) (z : Str) (n : Nat), vs = [V.ref p, .str z] ∧ Pen p c n H ∧ n ≤ 1000000 ∧ 0 < z.length ∧ z.length < 100000 ∧
  ∀ e H', e ∈ z.cps.toList → But p H H' → Pen p c (n + 1) H' → Q (.str ⟨#[e]⟩) H'
def spPicks (K : PySem.W.Frag) : Sp := fun vs H Q E => spPick K vs H Q E ∨ spPickS vs H Q E
theorem But.rd {p a : Addr} {H H' : Hp} {u : HO} (e : But p H H') (n : a ≠ p) (h : Rd H a u) : Rd H' a u := h.elim (fun z => .inl (e _ _ n z)) fun ⟨o, z⟩ => .inr ⟨o, e _ _ n z⟩
theorem But.seq {p a : Addr} {H H' : Hp} {xs : List V} (e : But p H H') (n : a ≠ p) (h : SqL K H a xs) : SqL K H' a xs := h.elim (fun z => .inl (e.rd n z)) .inr
theorem But.tup {p a : Addr} {H H' : Hp} {xs : List V} (e : But p H H') (n : a ≠ p) (h : SqT K H a xs) : SqT K H' a xs := h.elim (fun z => .inl (e.rd n z)) .inr
theorem ok_pick {f fD : Addr} {fd dD : FuncData} {k : Nat} (F : Fun K "_law_pick" "_law_pick" (top 63) f fd) (T : Bs mg bl) (F_law_draw : Cf P w K mg base "_law_draw" ["_law_pen_here", "_law_many"] k spDraw fD dD) :
    FnOk P w K mg base CX0 (k + 1) f fd ["_law_pen_here", "_law_options"] (spPicks K) := by
  refine F.ok sc__law_pick (fun vs H Q E h => ?_) (fun cdv A outer s H vs Q E hr h => ?_)
  · rcases h with ⟨p, c, a, xs, n, rfl, _⟩ | ⟨p, c, z, n, rfl, _⟩ <;> rfl
  · refine ⟨_, (pss_one (ps_ret (pe_ix ix_seq (pv 1) (pe_cf F_law_draw (hr.mono (by omega)) (by rfl) (pa_cons (pv 0) (pa_cons (pe_callB (CallR.or call_len_seq call_len_str) (by rfl) (T.b "len" (by decide)) (by decide +kernel) (pa_cons (pv 1) pa_nil)) pa_nil))) (fun _ _ => rfl)))), ?_⟩
    rcases h with ⟨p, c, a, xs, n, rfl, hP, hn, ha, far, l0, l1, q⟩ | ⟨p, c, z, n, rfl, hP, hn, l0, l1, q⟩
    · refine ⟨.ref a, rfl, .ref p, rfl, .ref a, rfl, .inl ⟨a, xs, rfl, ha, p, c, xs.length, n, rfl, hP, hn, by omega, by omega, fun d H1 d0 d1 b1 P1 => ?_⟩⟩
      have hd : d.toNat < xs.length := by omega
      have hx : xs[d.toNat]? = some xs[d.toNat] := List.getElem?_eq_getElem hd
      have hm : xs[d.toNat] ∈ xs := List.getElem_mem hd
      rcases ha with ha | ha
      · exact .inl ⟨a, xs, d, _, rfl, rfl, b1.seq far ha, atI_some d0 hx, q _ H1 hm b1 P1⟩
      · exact .inr (.inl ⟨a, xs, d, _, rfl, rfl, b1.tup far ha, atI_some d0 hx, q _ H1 hm b1 P1⟩)
    · refine ⟨.str z, rfl, .ref p, rfl, .str z, rfl, .inr ⟨z, rfl, Evl.sz_of (by omega), p, c, z.length, n, rfl, hP, hn, by omega, by omega, fun d H1 d0 d1 b1 P1 => ?_⟩⟩
      have hd : d.toNat < z.cps.toList.length := by
        have : z.length = z.cps.toList.length := rfl
        omega
      have hx : z.cps.toList[d.toNat]? = some z.cps.toList[d.toNat] := List.getElem?_eq_getElem hd
      exact .inr (.inr ⟨z, d, _, rfl, rfl, Evl.sz_of (by omega), atI_some d0 hx, q _ H1 (List.getElem_mem hd) b1 P1⟩)
end
end Lw

set_option maxHeartbeats 2000000
namespace Lw
open PySem PySem.Spec PyProof.Rows L2
open Evl (EvL EvA EvT RC)
section
variable {P : Program} {w : World} {K : PySem.W.Frag} {mg : Str → Option Value} {base : Heap}
/-- the items in some order -/
def spShuf (K : PySem.W.Frag) : Sp := fun vs H Q _ => ∃ (p c a : Addr) (xs : List V) (n : Nat), vs = [V.ref p, .ref a] ∧ Pen p c n H ∧ n ≤ 900000 ∧ (SqL K H a xs ∨ SqT K H a xs) ∧ a ≠ p ∧ xs.length ≤ 1000 ∧
  ∀ q ys H', ys.Perm xs → H q = none → But p H H' → H' q = some (.lst ys) → Pen p c (n + xs.length) H' → Q (.ref q) H'
theorem seqIndex_nat {i : Int} {n : Nat} (h0 : 0 ≤ i) (h1 : i < n) : seqIndex? i n = some i.toNat := by
  simp [seqIndex?, show ¬ i < 0 by omega, h0, h1]
theorem cut_perm {α : Type} : ∀ (xs : List α) (i : Nat) (h : i < xs.length), (xs[i] :: xs.eraseIdx i).Perm xs
  | x :: xs, 0, _ => List.Perm.refl _
  | x :: xs, i + 1, h => (List.Perm.swap x _ _).trans ((cut_perm xs i (Nat.lt_of_succ_lt_succ h)).cons x)
theorem ok_shuffled {f fD : Addr} {fd dD : FuncData} {k : Nat} (F : Fun K "_law_shuffled" "_law_shuffled" (top 64) f fd) (T : Bs mg bl) (F_law_draw : Cf P w K mg base "_law_draw" ["_law_pen_here", "_law_many"] k spDraw fD dD) :
    FnOk P w K mg base CX0 (k + 1) f fd ["_law_pen_here", "_law_items"] (spShuf K) := by
  refine F.ok sc__law_shuffled (fun vs H Q E h => ?_) (fun cdv A outer s H vs Q E hr h => ?_)
  · obtain ⟨p, c, a, xs, n, rfl, _⟩ := h
    rfl
  · obtain ⟨p, c, a, xs, n, rfl, hP, hn, ha, far, l1, q⟩ := h
    refine ⟨_, (pss_cons (ps_par (i := 2) (j := 3) rfl sc__law_shuffled.nd rfl rfl (by decide) rfl rfl (pa_cons (pe_callTy call_list_of (by rfl) (T.b "list" (by decide)) (by decide +kernel) (pa_cons (pv 1) pa_nil)) (pa_cons (pe_lst pa_nil) pa_nil)) (by rfl))
      (pss_cons (ps_while PassesOwn.never (pt_cmpR (op_neNil (hu64 hr)) (pv 2) (pe_lst pa_nil) (nomark _)) (pss_one (ps_expr (pe_bm PySem.F.plainAttrs_list PySem.F.slot_list_append PySem.F.type_list_append mt_append (pv 3) (pa_cons (pe_bm PySem.F.plainAttrs_list PySem.F.slot_list_pop PySem.F.type_list_pop mt_popAt (pv 2) (pa_cons (pe_cf F_law_draw (hr.mono (by omega)) (by rfl) (pa_cons (pv 0) (pa_cons (pe_callB call_len_seq (by rfl) (T.b "len" (by decide)) (by decide +kernel) (pa_cons (pv 2) pa_nil)) pa_nil))) pa_nil)) pa_nil)))))
      (pss_one (ps_ret (pv 3))))), ?_⟩
    refine ⟨.ref a, rfl, a, xs, rfl, ha, fun ro nro => ?_⟩
    generalize hH1 : upd H ro (.lst xs) = H1
    have e1 : Evl.Ex H H1 := by
      rw [← hH1]
      exact Evl.Ex.new nro
    have l1ro : H1 ro = some (.lst xs) := by
      rw [← hH1]
      exact upd_same
    refine ⟨Nat.zero_le _, fun fo nfo => ?_⟩
    have nfo0 : H fo = none := Evl.fresh_back e1 nfo
    have rofo : ro ≠ fo := fun z => by
      rw [z, nfo] at l1ro
      exact nomatch l1ro
    refine ⟨_, _, rfl, ?_⟩
    have P0 : Pen p c n (upd H1 fo (.lst [])) := (hP.ex e1).mut (hP.far nfo0)
    refine Evl.q_while (fun m σ' H' => ∃ rest found, m = rest.length ∧ σ' = [some (.ref p), some (.ref a), some (.ref ro), some (.ref fo)] ∧ But p H H' ∧ H' ro = some (.lst rest) ∧ H' fo = some (.lst found) ∧ (found ++ rest).Perm xs ∧ Pen p c (n + found.length) H')
      xs.length ⟨xs, [], rfl, rfl, (But.of e1).mut nfo0, ?_, upd_same, List.Perm.refl _, P0⟩ ?_
    · rw [upd_ne rofo]
      exact l1ro
    · rintro m σ' H' ⟨rest, found, rfl, rfl, b1, hr1, hf1, pm, P1⟩
      refine ⟨!rest.isEmpty, et_neNil (Evl.ev_var rfl) (Evl.sq_of hr1), fun hb H2 e2 => ?_, fun hb H2 e2 => ?_⟩
      · have len0 : 0 < rest.length := by
          cases rest with
          | nil => exact absurd hb (by simp)
          | cons z zs => exact Nat.succ_pos _
        have lens : found.length + rest.length = xs.length := by
          rw [← List.length_append]
          exact pm.length_eq
        refine ⟨fun σ3 H3 => ∃ m', m' < rest.length ∧ ∃ rest found, m' = rest.length ∧ σ3 = [some (.ref p), some (.ref a), some (.ref ro), some (.ref fo)] ∧ But p H H3 ∧ H3 ro = some (.lst rest) ∧ H3 fo = some (.lst found) ∧ (found ++ rest).Perm xs ∧ Pen p c (n + found.length) H3, fun _ _ z => z, ?_⟩
        refine ⟨.ref fo, rfl, .inl ⟨rfl, _, Evl.sq_of (e2 _ _ hf1)⟩, .ref ro, rfl, .inl ⟨rfl, _, Evl.sq_of (e2 _ _ hr1)⟩, .ref p, rfl, .ref ro, rfl, ro, rest, rfl, .inl (Evl.sq_of (e2 _ _ hr1)), p, c, rest.length, n + found.length, rfl, P1.ex e2, by omega, by omega, by omega, fun d H3 d0 d1 b3 P3 => ?_⟩
        have hd : d.toNat < rest.length := by omega
        have nro1 : ro ≠ p := (hP.far nro).1
        have nfo1 : fo ≠ p := (hP.far nfo0).1
        have hr3 : H3 ro = some (.lst rest) := b3 _ _ nro1 (e2 _ _ hr1)
        have hf3 : H3 fo = some (.lst found) := b3 _ _ nfo1 (e2 _ _ hf1)
        refine ⟨ro, rest, d, d.toNat, rest[d.toNat], rfl, rfl, hr3, by omega, by omega, seqIndex_nat d0 d1, List.getElem?_eq_getElem hd, ?_⟩
        refine ⟨fo, found, _, rfl, rfl, ?_, ?_, ?_⟩
        · rw [upd_ne rofo.symm]
          exact hf3
        · exact Evl.sz_lt (by omega)
        · refine ⟨_, ?_, rest.eraseIdx d.toNat, found ++ [rest[d.toNat]], rfl, rfl, ?_, ?_, upd_same, ?_, ?_⟩
          · rw [List.length_eraseIdx_of_lt hd]
            omega
          · exact (((b1.trans (But.of e2)).trans b3).mut nro).mut nfo0
          · rw [upd_ne rofo, upd_same]
          · refine List.Perm.trans ?_ pm
            rw [List.append_assoc]
            refine List.Perm.append_left _ ?_
            exact cut_perm rest d.toNat hd
          · have : n + (found ++ [rest[d.toNat]]).length = n + found.length + 1 := by simp; omega
            rw [this]
            exact (P3.mut (hP.far nro)).mut (hP.far nfo0)
      · have r0 : rest = [] := by
          cases rest with
          | nil => rfl
          | cons z zs => exact absurd hb (by simp)
        subst r0
        rw [List.append_nil] at pm
        refine Evl.s_ret (Evl.ev_var rfl) fun H3 e3 => ?_
        have e23 := e2.trans e3
        refine q fo found H3 pm nfo0 (b1.trans (But.of e23)) (e23 _ _ hf1) ?_
        rw [← pm.length_eq]
        exact P1.ex e23
end
end Lw

set_option maxHeartbeats 2000000
namespace Lw
open PySem PySem.Spec PyProof.Rows L2
open Evl (EvL EvA EvT RC)
theorem pi_or {X : Cx} {tg it : Expr} {wi wi' : TI} (h : PI X tg it wi) (h' : PI X tg it wi') : PI X tg it (fun σ H R => wi σ H R ∨ wi' σ H R) := ⟨fun pins s σ H R I z => z.elim (h.run pins s σ H R I) (h'.run pins s σ H R I)⟩
abbrev nm_edge_in_order : List Str := ["edge", "name", "u", "v", "length"]
theorem sc_edge_in_order : FnScope nm_edge_in_order ["edge"] (defScope (top 11)) := ⟨rfl, rfl, rfl, by decide +kernel, rfl, by decide +kernel, by decide +kernel⟩
abbrev nm_network_text : List Str := ["nodes", "edges", "lines", "name", "u", "v", "length", "node", "edge"]
theorem sc_network_text : FnScope nm_network_text ["nodes", "edges"] (defScope (top 50)) := ⟨rfl, rfl, rfl, by decide +kernel, rfl, by decide +kernel, by decide +kernel⟩
section
variable {P : Program} {w : World} {K : PySem.W.Frag} {mg : Str → Option Value} {base : Heap}
/-- an edge, the lesser end first -/
def spOrd : Sp := fun vs H Q _ => ∃ (a : Addr) (e : Eg), vs = [V.ref a] ∧ H a = some (.tup (egV e)) ∧ ∀ t H', Evl.Ex H H' → H t = none → H' t = some (.tup (egV (norm e))) → Q (.ref t) H'
theorem ok_ord {f : Addr} {fd : FuncData} {k : Nat} (F : Fun K "edge_in_order" "edge_in_order" (top 11) f fd) (T : Bs mg bl) : FnOk P w K mg base CX0 (k + 1) f fd ["edge"] spOrd := by
  refine F.ok sc_edge_in_order (fun vs H Q E h => ?_) (fun cdv A outer s H vs Q E hr h => ?_)
  · obtain ⟨a, e, rfl, _⟩ := h
    rfl
  · obtain ⟨a, ⟨n, u, v, l⟩, rfl, ha, q⟩ := h
    refine ⟨_, (pss_cons (ps_asg (pv 0) (pg_tup rfl (pgs_cons (pg_name (i := 1) sc_edge_in_order.nd rfl (Or.inl rfl)) (pgs_cons (pg_name (i := 2) sc_edge_in_order.nd rfl (Or.inl rfl)) (pgs_cons (pg_name (i := 3) sc_edge_in_order.nd rfl (Or.inl rfl)) (pgs_cons (pg_name (i := 4) sc_edge_in_order.nd rfl (Or.inl rfl)) pgs_nil))))))
      (pss_one (ps_ret (pe_tup (pa_cons (pv 1) (pa_cons (pe_callB (call_min2S rfl) (by rfl) (T.b "min" (by decide)) (by decide +kernel) (pa_cons (pv 2) (pa_cons (pv 3) pa_nil))) (pa_cons (pe_callB (call_max2S rfl) (by rfl) (T.b "max" (by decide)) (by decide +kernel) (pa_cons (pv 2) (pa_cons (pv 3) pa_nil))) (pa_cons (pv 4) pa_nil)))))))), ?_⟩
    refine ⟨.ref a, rfl, a, _, rfl, .inl (.inl ha), rfl, _, _, rfl, _, _, rfl, _, _, rfl, _, _, rfl, rfl, ?_⟩
    refine ⟨.str n, rfl, .str u, rfl, .str v, rfl, u, v, rfl, .str u, rfl, .str v, rfl, u, v, rfl, .int l, rfl, by simp [sizeLine_eq], fun t nt => ?_⟩
    exact q t _ (Evl.Ex.new nt) nt upd_same
theorem ok_ntext {f fO : Addr} {fd dO : FuncData} {k : Nat} (F : Fun K "network_text" "network_text" (top 50) f fd) (T : Bs mg bl) (F_edge_in_order : Cf P w K mg base "edge_in_order" ["edge"] k spOrd fO dO) :
    FnOk P w K mg base CX0 (k + 1) f fd ["nodes", "edges"] (spText K) := by
  refine F.ok sc_network_text (fun vs H Q E h => ?_) (fun cdv A outer s H vs Q E hr h => ?_)
  · obtain ⟨a, b, ns, as, es, rfl, _⟩ := h
    rfl
  · obtain ⟨a, b, ns, as, es, rfl, ha, hb, he, net, l0, l1, q⟩ := h
    refine ⟨_, (pss_cons (ps_setLc (i := 2) (own := [("node", 7)]) (g := (gName 7)) (tt := tYes) (te := (fun σ H Q => tJs [tC (.str "node "), tFmt (tVar 7)] Str.empty σ H fun out H1 => Q (.str out) H1)) rfl sc_network_text.nd rfl rfl (by rfl) (pi_list (pe_callB (cr_sortedD hr) (by rfl) (T.b "sorted" (by decide)) (by decide +kernel) (pa_cons (pv 0) pa_nil))) (blkOk_by (N := nm_network_text) (sc := defScope (top 50)) (by decide +kernel)) (fun _ _ _ _ _ => pg_name (i := 7) sc_network_text.nd rfl (Or.inl rfl)) (fun _ _ _ _ _ => pts_nil) (fun _ _ _ _ _ => (pe_joined (PJ.cons pe_str (PJ.cons (pe_fmt (pv 7)) PJ.nil)))))
      (pss_cons (ps_for PassesOwn.never rfl (pi_list (pe_callB (cr_sortedD hr) (by rfl) (T.b "sorted" (by decide)) (by decide +kernel) (pa_cons (pe_lc (own := [("edge", 8)]) (g := (gName 8)) (tt := tYes) (te := (tCall spOrd [] noE (tCons (tVar 8) tNil))) rfl sc_network_text.nd (pi_or (pi_list (pv 1)) (pi_tup (pv 1))) (blkOk_by (N := nm_network_text) (sc := defScope (top 50)) (by decide +kernel)) (fun _ _ _ _ _ => pg_name (i := 8) sc_network_text.nd rfl (Or.inl rfl)) (fun _ _ _ _ _ => pts_nil) (fun _ _ _ _ _ => (pe_cf F_edge_in_order (hr.mono (by omega)) (by rfl) (pa_cons (pv 8) pa_nil)))) pa_nil))) (pg_tup rfl (pgs_cons (pg_name (i := 3) sc_network_text.nd rfl (Or.inl rfl)) (pgs_cons (pg_name (i := 4) sc_network_text.nd rfl (Or.inl rfl)) (pgs_cons (pg_name (i := 5) sc_network_text.nd rfl (Or.inl rfl)) (pgs_cons (pg_name (i := 6) sc_network_text.nd rfl (Or.inl rfl)) pgs_nil))))) (pss_one (ps_expr (pe_bm PySem.F.plainAttrs_list PySem.F.slot_list_append PySem.F.type_list_append mt_append (pv 2) (pa_cons (pe_joined (PJ.cons pe_str (PJ.cons (pe_fmt (pv 3)) (PJ.cons pe_str (PJ.cons (pe_fmt (pv 4)) (PJ.cons pe_str (PJ.cons (pe_fmt (pv 5)) (PJ.cons pe_str (PJ.cons (pe_fmt (pv 6)) PJ.nil))))))))) pa_nil)))))
      (pss_one (ps_ret (pe_join pe_str (pv 2)))))), ?_⟩
    have g0 := five
    -- the lines of the nodes
    refine Evl.q_asgL (el_lcMap (fun x => match x with | .str z => .str (nodeLine z) | v => v) (Evl.el_cb (Evl.ea_cons (Evl.ev_var rfl) Evl.ea_nil) (rc_sortN ha (by omega))) (by rw [List.length_map, (srtN_perm ns).length_eq]; omega) (fun _ => rfl) (fun x hx H1 e1 => ?_)) fun lo H1 nlo e1 hlo => ?_
    · obtain ⟨z, hz, rfl⟩ := List.mem_map.mp hx
      have zl := (net.nm z ((srtN_perm ns).mem_iff.mp hz)).2.1
      intro H2 e2 Q2 k
      refine ⟨"node ", rfl, Evl.sz_of (by rw [emp_app]; omega), .str z, rfl, .inl ⟨z, rfl, Evl.sz_of (by omega), z, rfl, Evl.sz_of (by rw [emp_app, len_app]; omega), ?_⟩⟩
      show Q2 (.str (Str.empty ++ "node " ++ z)) _
      rw [emp_app]
      exact k _ (Evl.Ex.refl _)
    · have hlo : H1 lo = some (.lst (((srtN ns).map nodeLine).map V.str)) := by
        rw [hlo, List.map_map, List.map_map]
        rfl
      have he1 : EgsAt H1 as es := he.tk (TK.ex e1)
      have lae := he.len
      -- the edges in order
      refine q_forVia (fun p xs H' => ∃ bs, xs = bs.map V.ref ∧ Evl.Ex H1 H' ∧ H' p = some (.lst xs) ∧ H1 p = none ∧ EgsAt H' bs (srtE (es.map norm))) (fun Q' hQ' => ?_)
        (fun p xs i σ' H' => ∃ bs x3 x4 x5 x6, xs = bs.map V.ref ∧ σ' = [some (.ref a), some (.ref b), some (.ref lo), x3, x4, x5, x6, none, none] ∧ But lo H1 H' ∧ p ≠ lo ∧ H' p = some (.lst xs) ∧ EgsAt H' bs (srtE (es.map norm)) ∧
          H' lo = some (.lst (((srtN ns).map nodeLine ++ ((srtE (es.map norm)).take i).map edgeLine).map V.str)))
        (fun p xs H' ⟨bs, e, e2, hp, np, hbs⟩ => ⟨bs, none, none, none, none, e, rfl, But.of e2, apart hlo np, hp, hbs, by rw [e2 _ _ hlo, List.take_zero, List.map_nil, List.append_nil]⟩) (fun p xs i σ' H' ⟨_, _, _, _, _, _, _, _, _, hp, _⟩ => Evl.sq_of hp) (fun p xs i x σ' H' hx z => ?_) (fun p xs σ' H' z => ?_)
      · have turn : ∀ (D i : Addr) (x : V) (H' : Hp), H1 D = none → (as.map V.ref)[i]? = some x → (∃ cs : List Addr, EgsAt H' cs ((es.take i).map norm) ∧ Evl.Ex H1 H' ∧ H' D = some (.lst (cs.map V.ref))) →
            tCall spOrd [] noE (tCons (tVar 8) tNil) ((wipe [some (.ref a), some (.ref b), some (.ref lo), none, none, none, none, none, none] [8]).set 8 (some x)) H' fun y H4 => ∃ acc, H4 D = some (.lst acc) ∧ acc.length < sizeLine ∧
              ∃ cs : List Addr, EgsAt (upd H4 D (.lst (acc ++ [y]))) cs ((es.take (i + 1)).map norm) ∧ Evl.Ex H1 (upd H4 D (.lst (acc ++ [y]))) ∧ (upd H4 D (.lst (acc ++ [y]))) D = some (.lst (cs.map V.ref)) := fun D i x H' nD hx ⟨cs, hcs, e2, hD⟩ => by
          rw [List.getElem?_map] at hx
          obtain ⟨a', ha', rfl⟩ := Option.map_eq_some_iff.mp hx
          obtain ⟨e, hei, hae⟩ := egs_get he1 ha'
          have lc : cs.length ≤ 200 := by
            have := hcs.len
            rw [List.length_map, List.length_take] at this
            omega
          refine ⟨.ref a', rfl, a', e, rfl, e2 _ _ hae, fun t H4 e4 nt ht => ⟨_, e4 _ _ hD, by rw [List.length_map]; exact Evl.sz_lt (by omega), cs ++ [t], ?_, ?_, ?_⟩⟩
          · have k : TK H4 (upd H4 D (.lst (cs.map V.ref ++ [.ref t]))) := TK.put (.inr ⟨_, e4 _ _ hD⟩)
            rw [List.take_add_one, hei, List.map_append]
            exact paired_snoc ((hcs.tk (TK.ex e4)).tk k) (k _ _ ht)
          · exact (e2.trans e4).mut nD
          · rw [upd_same, List.map_append]
            rfl
        have last : ∀ (D : Addr) (H' : Hp), (∃ cs : List Addr, EgsAt H' cs ((es.take (as.map V.ref).length).map norm) ∧ Evl.Ex H1 H' ∧ H' D = some (.lst (cs.map V.ref))) → rSortedD K [.ref D] H' Q' := fun D H' ⟨cs, hcs, e2, hD⟩ => by
          rw [List.length_map, lae, List.take_length] at hcs
          have lc := hcs.len
          rw [List.length_map] at lc
          exact rc_sortE (.inl (Evl.sq_of hD)) hcs (by omega) fun p bs np hbs => hQ' p _ _ ⟨bs, rfl, e2.trans (Evl.Ex.new np), upd_same, Evl.fresh_back e2 np, hbs.tk (TK.ex (Evl.Ex.new np))⟩
        have first : ∀ D : Addr, H1 D = none → ∃ cs : List Addr, EgsAt (upd H1 D (.lst [])) cs ((es.take 0).map norm) ∧ Evl.Ex H1 (upd H1 D (.lst [])) ∧ (upd H1 D (.lst [])) D = some (.lst (cs.map V.ref)) := fun D nD => ⟨[], .nil, Evl.Ex.new nD, upd_same⟩
        rcases hb with hb | hb
        · exact .inl ⟨.ref b, rfl, b, rfl, ⟨_, Evl.ex_l e1 hb⟩, fun D nD => lc_list (fun i H' => ∃ cs : List Addr, EgsAt H' cs ((es.take i).map norm) ∧ Evl.Ex H1 H' ∧ H' D = some (.lst (cs.map V.ref))) (first D nD) (fun i H' _ ⟨_, _, e2, _⟩ => Evl.ex_l (e1.trans e2) hb)
            (fun i x H' hx z => ⟨rfl, turn D i x H' nD hx z⟩) (fun H' z => last D H' z)⟩
        · exact .inr ⟨.ref b, rfl, b, rfl, ⟨_, Evl.ex_t e1 hb⟩, fun D nD => lc_tup (fun i H' => ∃ cs : List Addr, EgsAt H' cs ((es.take i).map norm) ∧ Evl.Ex H1 H' ∧ H' D = some (.lst (cs.map V.ref))) (first D nD) (fun i H' _ ⟨_, _, e2, _⟩ => Evl.ex_t (e1.trans e2) hb)
            (fun i x H' hx z => ⟨rfl, turn D i x H' nD hx z⟩) (fun H' z => last D H' z)⟩
      · obtain ⟨bs, x3, x4, x5, x6, rfl, rfl, b2, plo, hp, hbs, hl⟩ := z
        rw [List.getElem?_map] at hx
        obtain ⟨a', ha', rfl⟩ := Option.map_eq_some_iff.mp hx
        obtain ⟨⟨n, u, v, l⟩, hei, hae⟩ := egs_get hbs ha'
        obtain ⟨s1, s2, s3, s4, s5⟩ : Short (n, u, v, l) := by
          have hm : (n, u, v, l) ∈ es.map norm := (srtE_perm _).mem_iff.mp (List.mem_of_getElem? hei)
          obtain ⟨e, h1, h2⟩ := List.mem_map.mp hm
          rw [← h2]
          exact (net.short h1).norm
        have s1 : n.length ≤ 8 := s1
        have s2 : u.length ≤ 8 := s2
        have s3 : v.length ≤ 8 := s3
        have s6 : (isz l).length ≤ 8 := isz_len s4 s5
        have ll : ((srtN ns).map nodeLine ++ ((srtE (es.map norm)).take i).map edgeLine).length ≤ 300 := by
          rw [List.length_append, List.length_map, List.length_map, List.length_take, (srtN_perm ns).length_eq, (srtE_perm _).length_eq, List.length_map]
          omega
        refine ⟨a', _, rfl, .inl (.inl hae), rfl, _, _, rfl, _, _, rfl, _, _, rfl, _, _, rfl, rfl, ?_⟩
        refine ⟨.ref lo, rfl, .inl ⟨rfl, _, Evl.sq_of hl⟩, "edge ", rfl, Evl.sz_of (by simp only [emp_app, len_app]; omega), .str n, rfl, .inl ⟨n, rfl, Evl.sz_of (by omega), n, rfl, Evl.sz_of (by simp only [emp_app, len_app]; omega), " ", rfl, Evl.sz_of (by simp only [emp_app, len_app]; omega), .str u, rfl,
          .inl ⟨u, rfl, Evl.sz_of (by omega), u, rfl, Evl.sz_of (by simp only [emp_app, len_app]; omega), " ", rfl, Evl.sz_of (by simp only [emp_app, len_app]; omega), .str v, rfl, .inl ⟨v, rfl, Evl.sz_of (by omega), v, rfl, Evl.sz_of (by simp only [emp_app, len_app]; omega), " ", rfl, Evl.sz_of (by simp only [emp_app, len_app]; omega),
          .int l, rfl, .inr ⟨l, rfl, isz_log s4 s5, isz l, rfl, Evl.sz_of (by simp only [emp_app, len_app]; omega), ?_⟩⟩⟩⟩⟩
        refine ⟨lo, _, _, rfl, rfl, hl, by rw [List.length_map]; exact Evl.sz_lt (by omega), bs, _, _, _, _, rfl, rfl, b2.trans But.put, plo, ?_, hbs.tk (TK.put (.inr ⟨_, hl⟩)), ?_⟩
        · rw [upd_ne plo]
          exact hp
        · rw [upd_same, emp_app, List.take_add_one, hei]
          simp only [Option.toList, List.map_append, ← List.append_assoc]
          rfl
      · obtain ⟨bs, x3, x4, x5, x6, rfl, rfl, b2, plo, hp, hbs, hl⟩ := z
        have lb := hbs.len
        rw [List.length_map, lb, List.take_length] at hl
        have lz : (linesOf ns es).length ≤ 300 := by
          unfold linesOf
          rw [List.length_append, List.length_map, List.length_map, (srtN_perm ns).length_eq, (srtE_perm _).length_eq, List.length_map]
          omega
        have sum := lines_sum lz (k := 40) fun y hy => by
          rcases List.mem_append.mp hy with hy | hy
          · obtain ⟨z, hz, rfl⟩ := List.mem_map.mp hy
            have := node_len (net.nm z ((srtN_perm ns).mem_iff.mp hz)).2.1
            omega
          · obtain ⟨e, h1, rfl⟩ := List.mem_map.mp hy
            obtain ⟨f, h2, rfl⟩ := List.mem_map.mp ((srtE_perm _).mem_iff.mp h1)
            exact edge_len (net.short h2).norm
        refine ⟨⟨_, rfl⟩, .ref lo, rfl, "\n", lo, linesOf ns es, rfl, rfl, .inl (.inl (.inl hl)), ?_, ?_⟩
        · rw [g0.2.2.2.1]
          omega
        · refine q H' (fun c o hc => b2 _ _ (fun z => ?_) (e1 _ _ hc))
          rw [z, nlo] at hc
          exact nomatch hc
end
end Lw

set_option maxHeartbeats 2000000
namespace Lw
open PySem PySem.Spec PyProof.Rows L2
open Evl (EvL EvA EvT RC)
abbrev nm_is_whole : List Str := ["value"]
theorem sc_is_whole : FnScope nm_is_whole ["value"] (defScope (top 8)) := ⟨rfl, rfl, rfl, by decide +kernel, rfl, by decide +kernel, by decide +kernel⟩
abbrev nm_is_name : List Str := ["value"]
theorem sc_is_name : FnScope nm_is_name ["value"] (defScope (top 9)) := ⟨rfl, rfl, rfl, by decide +kernel, rfl, by decide +kernel, by decide +kernel⟩
abbrev nm_is_length : List Str := ["value"]
theorem sc_is_length : FnScope nm_is_length ["value"] (defScope (top 10)) := ⟨rfl, rfl, rfl, by decide +kernel, rfl, by decide +kernel, by decide +kernel⟩
theorem tyOf_ex {K : PySem.W.Frag} {H H' : Hp} {x : V} {t : Value} (e : Evl.Ex H H') (h : TyOf K H x t) : TyOf K H' x t := by
  cases h <;> first
    | exact .non
    | exact .bl _
    | exact .int _
    | exact .str _
    | exact .flt _
    | exact .lst (e _ _ (by assumption))
    | exact .frz (e _ _ (by assumption))
    | exact .tup (e _ _ (by assumption))
    | exact .dK (e _ _ (by assumption))
    | exact .dT (e _ _ (by assumption))
    | exact .ins (e _ _ (by assumption)) (by assumption) (by assumption) (by assumption) (by assumption) (by assumption)
theorem tyX_ex {K : PySem.W.Frag} {H H' : Hp} {x : V} {t : Value} (e : Evl.Ex H H') (h : TyX K H x t) : TyX K H' x t := by
  cases h <;> first
    | exact .base (tyOf_ex e (by assumption))
    | exact .byt _
    | exact .set (e _ _ (by assumption))
    | exact .kList (by assumption) (by assumption)
    | exact .kTuple (by assumption) (by assumption)
    | exact .kDict (by assumption) (by assumption)
    | exact .fTuple (e _ _ (by assumption))
    | exact .fDict (e _ _ (by assumption))
def nameB (z : Str) : Bool := !decide (8 < (z.length : Int)) && (Txt.isascii z && (Txt.isalpha z && Txt.islower z))
section
variable {P : Program} {w : World} {K : PySem.W.Frag} {mg : Str → Option Value} {base : Heap} {uN uL : Value}
theorem ev_isi {σ : St} {H : Hp} {ta : TE} {x : V} {t : Value} {n : String} {b : Bool} (ht : TyX K H x t) (hk : PySem.W.kitOne K t (.type n) = some b) (h : Evl.Ev ta σ H x) : Evl.Ev (tCB (rIsi K) (tCons ta (tCons (tC (.ty n)) tNil))) σ H (.bl b) :=
  Evl.ev_cb (Evl.ea_cons h (Evl.ea_cons Evl.ev_c Evl.ea_nil)) fun H1 e _ q => ⟨x, .ty n, t, .type n, b, rfl, .ty n, tyX_ex e ht, hk, q H1 (Evl.Ex.refl _)⟩
theorem ev_m0 {σ : St} {H : Hp} {to : TE} {z : Str} {g : Str → Bool} (h : Evl.Ev to σ H (.str z)) : Evl.Ev (tM0 (fun x xs H Q => ∃ a, x = .str a ∧ xs = [] ∧ True ∧ Q (.bl (g a)) H) to) σ H (.bl (g z)) := fun H1 e Q q =>
  h H1 e _ fun H2 e2 => ⟨⟨z, rfl⟩, z, rfl, rfl, trivial, q H2 e2⟩
/-- a text, or no text -/
def spName (K : PySem.W.Frag) : Sp := fun vs H Q _ => (∃ z : Str, vs = [V.str z] ∧ z.length ≤ 100000 ∧ ∀ H', Evl.Ex H H' → Q (.bl (nameB z)) H') ∨ ∃ (x : V) (t : Value), vs = [x] ∧ TyX K H x t ∧ PySem.W.kitOne K t (.type "str") = some false ∧ ∀ H', Evl.Ex H H' → Q (.bl false) H'
theorem ok_isname {f : Addr} {fd : FuncData} {k : Nat} (F : Fun K "is_name" "is_name" (top 9) f fd) (T : Bs mg bl) (c_LONGEST_NAME : mg "LONGEST_NAME" = some uN) (r_LONGEST_NAME : RelV (.int 8) uN)
    (kss : PySem.W.kitOne K (.type "str") (.type "str") = some true) : FnOk P w K mg base CX0 (k + 1) f fd ["value"] (spName K) := by
  refine F.ok sc_is_name (fun vs H Q E h => ?_) (fun cdv A outer s H vs Q E hr h => ?_)
  · rcases h with ⟨z, rfl, _⟩ | ⟨x, t, rfl, _⟩ <;> rfl
  · refine ⟨_, (pss_cons (ps_if (PW.pt (pw_or (pt_not (pt_val (pe_callB call_isi (by rfl) (T.b "isinstance" (by decide)) (by decide +kernel) (pa_cons (pv 0) (pa_cons (pe_bltn (v := .ty "str") (by rfl) (T.b "str" (by decide)) (by decide +kernel) rfl) pa_nil))))) (pw_or1 (pt_cmpR op_gt (pe_callB call_len_str (by rfl) (T.b "len" (by decide)) (by decide +kernel) (pa_cons (pv 0) pa_nil)) (pe_glob rfl c_LONGEST_NAME r_LONGEST_NAME) (nomark _))))) (pss_one (ps_ret pe_bl)) pss_nil)
      (pss_one (ps_ret (pe_and (pe_m0 PySem.F.slot_str_isascii PySem.F.type_str_isascii mt_isascii (pv 0)) (pe_and (pe_m0 PySem.F.slot_str_isalpha PySem.F.type_str_isalpha mt_isalpha (pv 0)) (pe_one (pe_m0 PySem.F.slot_str_islower PySem.F.type_str_islower mt_islower (pv 0)))))))), ?_⟩
    rcases h with ⟨z, rfl, zl, q⟩ | ⟨x, t, rfl, ht, hk, q⟩
    · refine Evl.q_when (Evl.et_or (Evl.et_not (Evl.et_B (ev_isi (.base (.str z)) kss (Evl.ev_var rfl)))) fun _ => Evl.et_test (Evl.ev_op (Evl.ev_cb (r := fun xs H Q => ∃ z, xs = [.str z] ∧ z.length ≤ sizeLine ∧ Q (.int z.length) H) (Evl.ea_cons (Evl.ev_var rfl) Evl.ea_nil) fun H1 _ _ q => ⟨z, rfl, Evl.sz_of zl, q H1 (Evl.Ex.refl _)⟩) (Evl.ev_c (v := .int 8)) Evl.rv_I0)) (fun hb H1 e1 => ?_) (fun hb H1 e1 => ?_)
      · rw [Bool.not_true, Bool.false_or] at hb
        refine Evl.s_ret Evl.ev_c fun H2 e2 => ?_
        have := q H2 (e1.trans e2)
        unfold nameB at this
        rwa [hb, Bool.not_true, Bool.false_and] at this
      · rw [Bool.not_true, Bool.false_or] at hb
        refine Evl.s_ret (Evl.ev_andV (ev_m0 (Evl.ev_var rfl)) fun _ => Evl.ev_andV (ev_m0 (Evl.ev_var rfl)) fun _ => ev_m0 (Evl.ev_var rfl)) fun H2 e2 => ?_
        have := q H2 (e1.trans e2)
        unfold nameB at this
        rwa [hb, Bool.not_false, Bool.true_and] at this
    · refine Evl.q_when (b := true) (Evl.et_is (Evl.et_or (b := true) (Evl.et_not (Evl.et_B (ev_isi ht hk (Evl.ev_var rfl)))) fun z => absurd z (by decide)) rfl) (fun hb H1 e1 => ?_) (fun hb => absurd hb (by decide))
      exact Evl.s_ret Evl.ev_c fun H2 e2 => q H2 (e1.trans e2)
/-- an integer that is no bool -/
def spWhole (K : PySem.W.Frag) : Sp := fun vs H Q _ => ∃ (x : V) (t : Value) (b1 b2 : Bool), vs = [x] ∧ TyX K H x t ∧ PySem.W.kitOne K t (.type "int") = some b1 ∧ PySem.W.kitOne K t (.type "bool") = some b2 ∧ ∀ H', Evl.Ex H H' → Q (.bl (b1 && !b2)) H'
theorem ok_iswhole {f : Addr} {fd : FuncData} {k : Nat} (F : Fun K "is_whole" "is_whole" (top 8) f fd) (T : Bs mg bl) : FnOk P w K mg base CX0 (k + 1) f fd ["value"] (spWhole K) := by
  refine F.ok sc_is_whole (fun vs H Q E h => ?_) (fun cdv A outer s H vs Q E hr h => ?_)
  · obtain ⟨x, t, b1, b2, rfl, _⟩ := h
    rfl
  · obtain ⟨x, t, b1, b2, rfl, ht, h1, h2, q⟩ := h
    refine ⟨_, (pss_one (ps_ret (pe_and (pe_callB call_isi (by rfl) (T.b "isinstance" (by decide)) (by decide +kernel) (pa_cons (pv 0) (pa_cons (pe_bltn (v := .ty "int") (by rfl) (T.b "int" (by decide)) (by decide +kernel) rfl) pa_nil))) (pe_one (pe_not (pe_callB call_isi (by rfl) (T.b "isinstance" (by decide)) (by decide +kernel) (pa_cons (pv 0) (pa_cons (pe_bltn (v := .ty "bool") (by rfl) (T.b "bool" (by decide)) (by decide +kernel) rfl) pa_nil)))))))), ?_⟩
    exact Evl.s_ret (Evl.ev_andV (ev_isi ht h1 (Evl.ev_var rfl)) fun _ => Evl.ev_notV (ev_isi ht h2 (Evl.ev_var rfl))) q
def lenB (i : Int) : Bool := decide (-1000000 ≤ i) && decide (i ≤ 1000000)
/-- a whole number, or none -/
def spLen (K : PySem.W.Frag) : Sp := fun vs H Q _ => (∃ i : Int, vs = [.int i] ∧ ∀ H', Evl.Ex H H' → Q (.bl (lenB i)) H') ∨
  ∃ (x : V) (t : Value) (b1 b2 : Bool), vs = [x] ∧ TyX K H x t ∧ PySem.W.kitOne K t (.type "int") = some b1 ∧ PySem.W.kitOne K t (.type "bool") = some b2 ∧ (b1 && !b2) = false ∧ ∀ H', Evl.Ex H H' → Q (.bl false) H'
theorem ok_islength {f fW : Addr} {fd dW : FuncData} {k : Nat} (F : Fun K "is_length" "is_length" (top 10) f fd) (T : Bs mg bl) (c_MAX_LENGTH : mg "MAX_LENGTH" = some uL) (r_MAX_LENGTH : RelV (.int 1000000) uL)
    (F_is_whole : Cf P w K mg base "is_whole" ["value"] k (spWhole K) fW dW) (kii : PySem.W.kitOne K (.type "int") (.type "int") = some true) (kib : PySem.W.kitOne K (.type "int") (.type "bool") = some false) : FnOk P w K mg base CX0 (k + 1) f fd ["value"] (spLen K) := by
  refine F.ok sc_is_length (fun vs H Q E h => ?_) (fun cdv A outer s H vs Q E hr h => ?_)
  · rcases h with ⟨i, rfl, _⟩ | ⟨x, t, b1, b2, rfl, _⟩ <;> rfl
  · refine ⟨_, (pss_one (ps_ret (pe_and (pe_cf F_is_whole (hr.mono (by omega)) (by rfl) (pa_cons (pv 0) pa_nil)) (pe_one (pe_chain op_le op_le (pe_un un_neg (pe_glob rfl c_MAX_LENGTH r_MAX_LENGTH)) (pv 0) (pe_glob rfl c_MAX_LENGTH r_MAX_LENGTH)))))), ?_⟩
    rcases h with ⟨i, rfl, q⟩ | ⟨x, t, b1, b2, rfl, ht, h1, h2, h3, q⟩
    · refine ⟨.int i, rfl, .int i, .type "int", true, false, rfl, .base (.int i), kii, kib, fun H1 e1 => ⟨_, rfl, ?_⟩⟩
      refine ⟨1000000, rfl, .int i, rfl, _, _, rfl, rfl, _, rfl, ?_⟩
      have h := q H1 e1
      unfold lenB at h
      refine ite2 (fun hc => ?_) (fun hc => ?_)
      · have hc : decide (-1000000 ≤ i) = true := hc
        rw [hc, Bool.true_and] at h
        exact ⟨_, _, rfl, rfl, h⟩
      · have hc : ¬ decide (-1000000 ≤ i) = true := hc
        rw [Bool.not_eq_true] at hc
        rw [hc, Bool.false_and] at h
        exact h
    · refine ⟨x, rfl, x, t, b1, b2, rfl, ht, h1, h2, fun H1 e1 => ⟨_, rfl, ?_⟩⟩
      rw [h3]
      exact q H1 e1
end
end Lw

set_option maxHeartbeats 1000000
/-! numbers as words -/
namespace Lw
open PySem PySem.Spec PyProof.Rows L2
theorem isz_nat (n : Nat) : (isz (n : Int)).cps.toList = TL.numL n := TL.tl_num n
theorem isz_neg {l : Int} (h : l < 0) : (isz l).cps.toList = 45 :: TL.numL l.natAbs := by
  unfold isz
  rw [toString_neg h, show (0 : Int) - l = (l.natAbs : Int) by omega, signs_ofString, String.toList_append, List.map_append, ← signs_ofString (toString ((l.natAbs : Nat) : Int))]
  rw [show (Str.ofString (toString ((l.natAbs : Nat) : Int))).cps.toList = TL.numL l.natAbs from TL.tl_num _]
  rfl
theorem isz_cases (l : Int) : (0 ≤ l ∧ (isz l).cps.toList = TL.numL l.natAbs) ∨ (l < 0 ∧ (isz l).cps.toList = 45 :: TL.numL l.natAbs) := by
  by_cases h : l < 0
  · exact .inr ⟨h, isz_neg h⟩
  · refine .inl ⟨by omega, ?_⟩
    have e : l = (l.natAbs : Int) := by omega
    rw [e, isz_nat]
    rfl
theorem numL_head : ∀ n : Nat, 0 < n → ∃ d r, TL.numL n = d :: r ∧ d ≠ 48 := by
  intro n
  induction n using Nat.strongRecOn with
  | _ n ih =>
    intro h
    by_cases z : n < 10
    · exact ⟨48 + n, [], TL.numL_lt z, by omega⟩
    · obtain ⟨d, r, e, hd⟩ := ih (n / 10) (by omega) (by omega)
      exact ⟨d, r ++ [48 + n % 10], by rw [TL.numL_step (by omega), e]; rfl, hd⟩
theorem isz_reads {l : Int} (h0 : -1000000 ≤ l) (h1 : l ≤ 1000000) : intText? (isz l) = some l := by
  have hl := isz_len h0 h1
  rcases isz_cases l with ⟨h, e⟩ | ⟨h, e⟩
  · have := PySem.intText_digits (x := isz l) (by rw [e]; exact TL.numL_digits _) (by rw [e]; exact TL.numL_ne _) (by omega)
    rw [this, e, TL.numL_val]
    congr 1
    omega
  · have := PySem.intText_neg (x := isz l) e (TL.numL_digits _) (TL.numL_ne _) (by omega)
    rw [this, TL.numL_val]
    congr 1
    omega
/-- without the sign -/
theorem rp_neg {w : Str} {cs : List Nat} (h : w.cps.toList = 45 :: cs) : (Txt.removeprefix w "-").cps.toList = cs := by
  have l1 : (("-" : String) : Str).length = 1 := by decide +kernel
  have c1 : (("-" : String) : Str).cps = #[45] := by decide +kernel
  have wl : w.length = cs.length + 1 := by
    rw [len_cps, h]
    rfl
  have yes : (decide (0 + (("-" : String) : Str).length ≤ w.length) && Builtin.Str.subAt w ("-" : String) 0) = true := by
    rw [l1, wl, Bool.and_eq_true]
    refine ⟨decide_eq_true (by omega), ?_⟩
    unfold Builtin.Str.subAt
    rw [l1, c1, beq_iff_eq]
    apply Array.toList_inj.mp
    rw [Array.toList_extract, h]
    rfl
  rw [StrLaws.removeprefix_eq, if_pos yes]
  show ((w.cps.toList.drop _).take _) = cs
  rw [l1, wl, h]
  simp
theorem rp_none {w : Str} (h : ∀ cs, w.cps.toList ≠ 45 :: cs) : Txt.removeprefix w "-" = w := by
  have l1 : (("-" : String) : Str).length = 1 := by decide +kernel
  have c1 : (("-" : String) : Str).cps = #[45] := by decide +kernel
  rw [StrLaws.removeprefix_eq, if_neg]
  rw [Bool.and_eq_true]
  rintro ⟨_, z⟩
  unfold Builtin.Str.subAt at z
  rw [l1, c1, beq_iff_eq] at z
  have := congrArg Array.toList z
  rw [Array.toList_extract] at this
  cases e : w.cps.toList with
  | nil =>
    rw [e] at this
    simp at this
  | cons c cs =>
    rw [e] at this
    have : c = 45 := by simpa using this
    exact h cs (by rw [e, this])
end Lw

set_option maxHeartbeats 2000000
namespace Lw
open PySem PySem.Spec PyProof.Rows L2
open Evl (EvL EvA EvT RC)
abbrev nm_is_number : List Str := ["word", "digits"]
theorem sc_is_number : FnScope nm_is_number ["word"] (defScope (top 52)) := ⟨rfl, rfl, rfl, by decide +kernel, rfl, by decide +kernel, by decide +kernel⟩
abbrev nm__is_length_word : List Str := ["word"]
theorem sc__is_length_word : FnScope nm__is_length_word ["word"] (defScope (top 55)) := ⟨rfl, rfl, rfl, by decide +kernel, rfl, by decide +kernel, by decide +kernel⟩
abbrev nm__can_be_node : List Str := ["words", "nodes", "edges"]
theorem sc__can_be_node : FnScope nm__can_be_node ["words", "nodes", "edges"] (defScope (top 53)) := ⟨rfl, rfl, rfl, by decide +kernel, rfl, by decide +kernel, by decide +kernel⟩
abbrev nm__can_be_edge : List Str := ["words", "nodes", "edges", "_", "name", "u", "v", "length"]
theorem sc__can_be_edge : FnScope nm__can_be_edge ["words", "nodes", "edges"] (defScope (top 54)) := ⟨rfl, rfl, rfl, by decide +kernel, rfl, by decide +kernel, by decide +kernel⟩
section
variable {P : Program} {w : World} {K : PySem.W.Frag} {mg : Str → Option Value} {base : Heap} {uN uL : Value}
theorem digs : ∀ c, c < 10 → Unicode.isDigit (48 + c) = true := by decide +kernel
/-- the word of a length is a number -/
def spNum : Sp := fun vs H Q _ => ∃ l : Int, vs = [.str (isz l)] ∧ -1000000 ≤ l ∧ l ≤ 1000000 ∧ ∀ H', Evl.Ex H H' → Q (.bl true) H'
theorem ok_isnumber {f : Addr} {fd : FuncData} {k : Nat} (F : Fun K "is_number" "is_number" (top 52) f fd) (T : Bs mg bl) : FnOk P w K mg base CX0 (k + 1) f fd ["word"] spNum := by
  refine F.ok sc_is_number (fun vs H Q E h => ?_) (fun cdv A outer s H vs Q E hr h => ?_)
  · obtain ⟨l, rfl, _⟩ := h
    rfl
  · obtain ⟨l, rfl, l0, l1, q⟩ := h
    refine ⟨_, (pss_cons (ps_set (i := 1) sc_is_number.nd rfl (Or.inl rfl) (pe_m1 PySem.F.slot_str_removeprefix PySem.F.type_str_removeprefix mt_removeprefix (pv 0) pe_str))
      (pss_cons (ps_if (PW.pt (pw_or (pt_not (pt_val (pe_m0 PySem.F.slot_str_isascii PySem.F.type_str_isascii mt_isascii (pv 1)))) (pw_or1 (pt_not (pt_val (pe_m0 PySem.F.slot_str_isdigit PySem.F.type_str_isdigit mt_isdigit (pv 1))))))) (pss_one (ps_ret pe_bl)) pss_nil)
      (pss_one (ps_ret (pe_or (pe_cmpR op_eq (pv 0) pe_str (nomark _)) (pe_one (pe_cmpR op_ne (pe_ix ix_str (pv 1) pe_int (fun _ _ => rfl)) pe_str (nomark _)))))))), ?_⟩
    have wl := isz_len l0 l1
    have hd : (Txt.removeprefix (isz l) "-").cps.toList = TL.numL l.natAbs := by
      rcases isz_cases l with ⟨h, e⟩ | ⟨h, e⟩
      · rw [rp_none fun cs z => ?_]
        · exact e
        · rw [e] at z
          have := TL.numL_digits l.natAbs 45 (by rw [z]; exact List.mem_cons_self)
          omega
      · exact rp_neg e
    refine Evl.q_asg (v := .str (Txt.removeprefix (isz l) "-")) (fun H1 e1 Q1 k => ⟨.str (isz l), rfl, ⟨_, rfl⟩, isz l, "-", rfl, rfl, Evl.sz_of (by omega), k H1 (Evl.Ex.refl _)⟩) fun H1 e1 => ?_
    generalize Txt.removeprefix (isz l) "-" = d at hd ⊢
    have dg : ∀ c ∈ d.cps.toList, 48 ≤ c ∧ c ≤ 57 := fun c hc => TL.numL_digits _ c (by rw [← hd]; exact hc)
    have dl : 0 < d.length := by
      rw [len_cps, hd]
      exact List.length_pos_iff.mpr (TL.numL_ne _)
    have dl2 : d.length ≤ 8 := by
      have : d.length ≤ (isz l).length := by
        rw [len_cps, len_cps, hd]
        rcases isz_cases l with ⟨_, e⟩ | ⟨_, e⟩ <;> rw [e] <;> simp
      omega
    have a1 : Txt.isascii d = true := by
      unfold Txt.isascii
      rw [← Array.all_toList, List.all_eq_true]
      exact fun c hc => decide_eq_true (by have := dg c hc; omega)
    have a2 : Txt.isdigit d = true := by
      unfold Txt.isdigit
      rw [Bool.and_eq_true, ← Array.all_toList, List.all_eq_true]
      refine ⟨decide_eq_true dl, fun c hc => ?_⟩
      have h := dg c hc
      have := digs (c - 48) (by omega)
      rwa [show 48 + (c - 48) = c by omega] at this
    refine Evl.q_when (b := false) (Evl.et_is (Evl.et_or (Evl.et_not (Evl.et_B (ev_m0 (Evl.ev_var rfl)))) fun _ => Evl.et_not (Evl.et_B (ev_m0 (Evl.ev_var rfl)))) (by rw [a1, a2]; rfl)) (fun hb => absurd hb (by decide)) (fun hb H2 e2 => ?_)
    obtain ⟨c, r, hc⟩ : ∃ c r, d.cps.toList = c :: r := by
      cases z : d.cps.toList with
      | nil => exact absurd (hd.symm.trans z) (TL.numL_ne _)
      | cons c r => exact ⟨c, r, rfl⟩
    have fin : (decide (V.str (isz l) = V.str "0") || !decide (V.str ⟨#[c]⟩ = V.str "0")) = true := by
      by_cases z : l = 0
      · rw [z]
        have : isz 0 = "0" := by decide +kernel
        rw [this]
        simp
      · obtain ⟨x, r', e, hx⟩ := numL_head l.natAbs (by omega)
        have : c = x := by
          have := hc.symm.trans (hd.trans e)
          exact (List.cons.inj this).1
        have ne : ¬ V.str ⟨#[c]⟩ = V.str "0" := fun z => by
          have z1 := V.str.inj z
          have z2 : (⟨#[c]⟩ : Str).cps.toList = (("0" : String) : Str).cps.toList := by rw [z1]
          have z3 : (("0" : String) : Str).cps.toList = [48] := by decide +kernel
          rw [z3] at z2
          have : c = 48 := (List.cons.inj z2).1
          omega
        rw [decide_eq_false ne]
        simp
    refine Evl.s_ret (Evl.ev_is (Evl.ev_orV (Evl.ev_op (Evl.ev_var rfl) Evl.ev_c (Evl.rv_eq rfl)) fun _ => Evl.ev_op (Evl.ev_op (Evl.ev_var rfl) Evl.ev_c (Evl.rv_ixS (by omega) (atI_some (i := 0) (Int.le_refl 0) (by rw [hc]; rfl)))) Evl.ev_c (Evl.rv_ne rfl)) (by rw [fin])) fun H3 e3 => q H3 ((e1.trans e2).trans e3)
/-- the word of a length, read -/
def spLWord : Sp := fun vs H Q _ => ∃ l : Int, vs = [.str (isz l)] ∧ -1000000 ≤ l ∧ l ≤ 1000000 ∧ ∀ H', Evl.Ex H H' → Q (.bl true) H'
theorem ok_lword {f fN fL : Addr} {fd dN dL : FuncData} {k : Nat} {uG : Value} (F : Fun K "_is_length_word" "_is_length_word" (top 55) f fd) (T : Bs mg bl) (c_LONGEST_LENGTH : mg "LONGEST_LENGTH" = some uG) (r_LONGEST_LENGTH : RelV (.int 8) uG)
    (F_is_number : Cf P w K mg base "is_number" ["word"] k spNum fN dN) (F_is_length : Cf P w K mg base "is_length" ["value"] k (spLen K) fL dL) : FnOk P w K mg base CX0 (k + 1) f fd ["word"] spLWord := by
  refine F.ok sc__is_length_word (fun vs H Q E h => ?_) (fun cdv A outer s H vs Q E hr h => ?_)
  · obtain ⟨l, rfl, _⟩ := h
    rfl
  · obtain ⟨l, rfl, l0, l1, q⟩ := h
    have wl := isz_len l0 l1
    refine ⟨_, (pss_one (ps_ret (pe_and (pe_cmpR op_le (pe_callB call_len_str (by rfl) (T.b "len" (by decide)) (by decide +kernel) (pa_cons (pv 0) pa_nil)) (pe_glob rfl c_LONGEST_LENGTH r_LONGEST_LENGTH) (nomark _)) (pe_and (pe_cf F_is_number (hr.mono (by omega)) (by rfl) (pa_cons (pv 0) pa_nil)) (pe_one (pe_cf F_is_length (hr.mono (by omega)) (by rfl) (pa_cons (pe_callTy call_int_str (by rfl) (T.b "int" (by decide)) (by decide +kernel) (pa_cons (pv 0) pa_nil)) pa_nil))))))), ?_⟩
    have lb : lenB l = true := by
      unfold lenB
      rw [decide_eq_true l0, decide_eq_true l1]
      rfl
    have wb : decide (((isz l).length : Int) ≤ 8) = true := decide_eq_true (by omega)
    refine Evl.s_ret (Evl.ev_is (Evl.ev_andV (Evl.ev_op (Evl.ev_cb (vs := [.str (isz l)]) (z := .int (isz l).length) (Evl.ea_cons (Evl.ev_var rfl) Evl.ea_nil) fun H1 _ _ q => ⟨isz l, rfl, Evl.sz_of (by omega), q H1 (Evl.Ex.refl _)⟩) (Evl.ev_c (v := .int 8)) Evl.rv_I0) fun _ =>
      Evl.ev_andV (a := true) (b := true) (Evl.ev_call (vs := [.str (isz l)]) (Evl.ea_cons (Evl.ev_var rfl) Evl.ea_nil) fun H1 _ _ q _ => ⟨l, rfl, l0, l1, fun H2 e2 => q H2 e2⟩) fun _ =>
        Evl.ev_call (vs := [.int l]) (Evl.ea_cons (Evl.ev_cb (vs := [.str (isz l)]) (Evl.ea_cons (Evl.ev_var rfl) Evl.ea_nil) fun H1 _ _ q => ⟨isz l, l, rfl, isz_reads l0 l1, by omega, q H1 (Evl.Ex.refl _)⟩) Evl.ea_nil) fun H1 _ _ q _ => .inl ⟨l, rfl, fun H2 e2 => by rw [lb]; exact q H2 e2⟩) (by rw [wb]; rfl)) q
end
end Lw

set_option maxHeartbeats 2000000
namespace Lw
open PySem PySem.Spec PyProof.Rows L2
open Evl (EvL EvA EvT RC)
theorem lets : ∀ c, c < 26 → Unicode.isAlpha (97 + c) = true ∧ Unicode.isLower (97 + c) = true ∧ (Unicode.isUpper (97 + c) || Unicode.isTitle (97 + c)) = false := by decide +kernel
theorem nm_yes {z : Str} (h : IsNm z) : nameB z = true := by
  obtain ⟨h0, h8, hl⟩ := h
  have ne : z.cps.toList ≠ [] := fun e => by
    rw [len_cps, e] at h0
    exact absurd h0 (by simp)
  have a1 : Txt.isascii z = true := by
    unfold Txt.isascii
    rw [← Array.all_toList, List.all_eq_true]
    exact fun c hc => decide_eq_true (by have := hl c hc; omega)
  have at' : ∀ c ∈ z.cps.toList, Unicode.isAlpha c = true ∧ Unicode.isLower c = true ∧ (Unicode.isUpper c || Unicode.isTitle c) = false := fun c hc => by
    have h := hl c hc
    have := lets (c - 97) (by omega)
    rwa [show 97 + (c - 97) = c by omega] at this
  have a2 : Txt.isalpha z = true := by
    unfold Txt.isalpha
    rw [Bool.and_eq_true, ← Array.all_toList, List.all_eq_true]
    exact ⟨decide_eq_true h0, fun c hc => (at' c hc).1⟩
  have a3 : Txt.islower z = true := by
    unfold Txt.islower
    rw [Bool.and_eq_true, ← Array.any_toList, ← Array.any_toList]
    refine ⟨?_, ?_⟩
    · rw [List.any_eq_true]
      obtain ⟨c, hc⟩ := List.exists_mem_of_ne_nil _ ne
      exact ⟨c, hc, (at' c hc).2.1⟩
    · rw [Bool.not_eq_true', List.any_eq_false]
      exact fun c hc => by rw [(at' c hc).2.2]; exact Bool.false_ne_true
  unfold nameB
  rw [a1, a2, a3, decide_eq_false (by omega)]
  rfl
section
variable {P : Program} {w : World} {K : PySem.W.Frag} {mg : Str → Option Value} {base : Heap} {uM uE : Value}
theorem et_tru {σ : St} {H : Hp} {ta : TE} {a : Addr} {xs : List V} (h : Evl.Ev ta σ H (.ref a)) (hs : H a = some (.lst xs)) : Evl.EvT (fun σ H Q => ta σ H fun x H' => ∃ k, TruV K x H' k ∧ Q k H') σ H (!xs.isEmpty) := fun H1 e Q q =>
  h H1 e _ fun H2 e2 => ⟨_, .inl ⟨xs, Evl.sq_of (e2 _ _ (e _ _ hs)), rfl⟩, q H2 e2⟩
theorem ev_notT {σ : St} {H : Hp} {ta : TE} {a : Addr} {xs : List V} (h : Evl.Ev ta σ H (.ref a)) (hs : H a = some (.lst xs)) : Evl.Ev (tNotT K ta) σ H (.bl (!(!xs.isEmpty))) := fun H1 e Q q =>
  h H1 e _ fun H2 e2 => ⟨_, .inl ⟨xs, Evl.sq_of (e2 _ _ (e _ _ hs)), rfl⟩, q H2 e2⟩
theorem ev_ixS {σ : St} {H : Hp} {ta tb : TE} {a : Addr} {ws : List Str} {i : Int} {z : Str} (h : Evl.Ev ta σ H (.ref a)) (hs : H a = some (.lst (ws.map V.str))) (h1 : Evl.Ev tb σ H (.int i)) (hz : atI (ws.map V.str) i = some (.str z)) : Evl.Ev (tOp (rIxL K) ta tb) σ H (.str z) :=
  Evl.ev_op h h1 (Evl.rv_ixL (Evl.sq_of hs) hz)
theorem ev_name {σ : St} {H : Hp} {ta : TE} {z : Str} (h : Evl.Ev ta σ H (.str z)) (hz : IsNm z) : Evl.Ev (tCall (spName K) [] noE (tCons ta tNil)) σ H (.bl true) :=
  Evl.ev_call (vs := [.str z]) (Evl.ea_cons h Evl.ea_nil) fun H1 _ Q q _ => .inl ⟨z, rfl, by have := hz.2.1; omega, fun H2 e2 => by rw [nm_yes hz]; exact q H2 e2⟩
/-- the words of a line, where a node may stand -/
def spCanN : Sp := fun vs H Q _ => ∃ (wl nl el : Addr) (ws ns : List Str) (ed : List V), vs = [.ref wl, .ref nl, .ref el] ∧ H wl = some (.lst (ws.map V.str)) ∧ H nl = some (.lst (ns.map V.str)) ∧ H el = some (.lst ed) ∧ ws.length ≤ 1000 ∧
  ((∃ z : Str, ws = [("node" : Str), z] ∧ IsNm z ∧ ed = [] ∧ ns.length < 40 ∧ (∀ y ∈ ns, sk y < sk z) ∧ ∀ H', Evl.Ex H H' → Q (.bl true) H') ∨ (ws.length ≠ 2 ∧ ∀ H', Evl.Ex H H' → Q (.bl false) H'))
theorem ok_canNode {f fN : Addr} {fd dN : FuncData} {k : Nat} (F : Fun K "_can_be_node" "_can_be_node" (top 53) f fd) (T : Bs mg bl) (c_MAX_NODES : mg "MAX_NODES" = some uM) (r_MAX_NODES : RelV (.int 40) uM)
    (F_is_name : Cf P w K mg base "is_name" ["value"] k (spName K) fN dN) : FnOk P w K mg base CX0 (k + 1) f fd ["words", "nodes", "edges"] spCanN := by
  refine F.ok sc__can_be_node (fun vs H Q E h => ?_) (fun cdv A outer s H vs Q E hr h => ?_)
  · obtain ⟨wl, nl, el, ws, ns, ed, rfl, _⟩ := h
    rfl
  · obtain ⟨wl, nl, el, ws, ns, ed, rfl, hw, hn, he, l0, h⟩ := h
    refine ⟨_, (pss_cons (ps_if (PW.pt (pw_or (pt_cmpR op_ne (pe_callB call_len_seq (by rfl) (T.b "len" (by decide)) (by decide +kernel) (pa_cons (pv 0) pa_nil)) pe_int (nomark _)) (pw_or (pt_cmpR op_ne (pe_ix ix_list (pv 0) pe_int (fun _ _ => rfl)) pe_str (nomark _)) (pw_or1 (pt_not (pt_val (pe_cf F_is_name (hr.mono (by omega)) (by rfl) (pa_cons (pe_ix ix_list (pv 0) pe_int (fun _ _ => rfl)) pa_nil)))))))) (pss_one (ps_ret pe_bl)) pss_nil)
      (pss_cons (ps_if (PW.pt (pw_or (pt_truth (pv 2) (fun _ => rfl)) (pw_or1 (pt_cmpR op_eq (pe_callB call_len_seq (by rfl) (T.b "len" (by decide)) (by decide +kernel) (pa_cons (pv 1) pa_nil)) (pe_glob rfl c_MAX_NODES r_MAX_NODES) (nomark _))))) (pss_one (ps_ret pe_bl)) pss_nil)
      (pss_one (ps_ret (pe_or (pe_notT (pv 1)) (pe_one (pe_cmpR op_lt_str (pe_ix ix_list (pv 1) (pe_un un_neg pe_int) (fun _ _ => rfl)) (pe_ix ix_list (pv 0) pe_int (fun _ _ => rfl)) (nomark _)))))))), ?_⟩
    rcases h with ⟨z, rfl, hz, rfl, l1, lt, q⟩ | ⟨l1, q⟩
    · refine Evl.q_when (b := false) (Evl.et_is (Evl.et_or (Evl.et_test (Evl.ev_op (ev_lenT (Evl.ev_var rfl) (.inl (Evl.sq_of hw))) Evl.ev_c (Evl.rv_ne rfl))) fun _ => Evl.et_or (Evl.et_test (Evl.ev_op (ev_ixS (z := "node") (i := 0) (Evl.ev_var rfl) hw Evl.ev_c rfl) Evl.ev_c (Evl.rv_ne rfl))) fun _ =>
        Evl.et_not (Evl.et_B (ev_name (ev_ixS (i := 1) (Evl.ev_var rfl) hw Evl.ev_c rfl) hz))) (by simp)) (fun hb => absurd hb (by decide)) (fun hb H1 e1 => ?_)
      refine Evl.q_when (b := false) (Evl.et_is (Evl.et_or (et_tru (Evl.ev_var rfl) (e1 _ _ he)) fun _ => Evl.et_test (Evl.ev_op (ev_lenT (Evl.ev_var rfl) (.inl (Evl.sq_of (e1 _ _ hn)))) (Evl.ev_c (v := .int 40)) (Evl.rv_eq rfl))) ?_) (fun hb => absurd hb (by decide)) (fun hb H2 e2 => ?_)
      · rw [List.length_map]
        have : ¬ V.int (ns.length : Int) = V.int 40 := fun z => by
          have := V.int.inj z
          omega
        rw [decide_eq_false this]
        rfl
      · have e12 := e1.trans e2
        by_cases n0 : ns = []
        · subst n0
          exact Evl.s_ret (Evl.ev_is (Evl.ev_orV (a := true) (b := true) (ev_notT (Evl.ev_var rfl) (e12 _ _ hn)) fun z => absurd z (by decide)) rfl) fun H3 e3 => q H3 (e12.trans e3)
        · have nl0 : ns.length - 1 < ns.length := by
            have := List.length_pos_iff.mpr n0
            omega
          have ll := lt _ (List.getElem_mem nl0)
          refine Evl.s_ret (Evl.ev_is (Evl.ev_orV (ev_notT (Evl.ev_var rfl) (e12 _ _ hn)) fun _ => Evl.ev_op (ev_ixS (Evl.ev_var rfl) (e12 _ _ hn) (Evl.ev_un Evl.ev_c Evl.ru_neg) (at_last nl0)) (ev_ixS (z := z) (i := 1) (Evl.ev_var rfl) (e12 _ _ hw) Evl.ev_c rfl) fun H3 _ _ q => ⟨_, _, rfl, rfl, q H3 (Evl.Ex.refl _)⟩) ?_) fun H3 e3 => q H3 (e12.trans e3)
          rw [decide_eq_true ll, Bool.or_true]
    · refine Evl.q_when (b := true) (Evl.et_is (Evl.et_or (a := true) (b := true) (Evl.et_is (Evl.et_test (Evl.ev_op (ev_lenT (Evl.ev_var rfl) (.inl (Evl.sq_of hw))) Evl.ev_c (Evl.rv_ne rfl))) ?_) fun z => absurd z (by decide)) rfl) (fun hb H1 e1 => Evl.s_ret Evl.ev_c fun H2 e2 => q H2 (e1.trans e2)) (fun hb => absurd hb (by decide))
      rw [List.length_map]
      have : ¬ V.int (ws.length : Int) = V.int 2 := fun z => by
        have := V.int.inj z
        omega
      rw [decide_eq_false this]
      rfl
theorem in_strs {u : Str} {ns : List Str} (h : u ∈ ns) : inV (.str u) (ns.map V.str) = true := by
  unfold inV
  rw [List.any_eq_true]
  exact ⟨.str u, List.mem_map.mpr ⟨u, h, rfl⟩, by simp [eqV]⟩
theorem flat_strs (ns : List Str) : (ns.map V.str).all flatV = true := by
  rw [List.all_eq_true]
  intro x hx
  obtain ⟨z, _, rfl⟩ := List.mem_map.mp hx
  rfl
theorem ev_lword {σ : St} {H : Hp} {ta : TE} {l : Int} (h : Evl.Ev ta σ H (.str (isz l))) (l0 : -1000000 ≤ l) (l1 : l ≤ 1000000) : Evl.Ev (tCall spLWord [] noE (tCons ta tNil)) σ H (.bl true) :=
  Evl.ev_call (vs := [.str (isz l)]) (Evl.ea_cons h Evl.ea_nil) fun H1 _ Q q _ => ⟨l, rfl, l0, l1, fun H2 e2 => q H2 e2⟩
/-- the words of the line of an edge, where it may stand -/
def spCanE : Sp := fun vs H Q _ => ∃ (wl nl el : Addr) (ns : List Str) (as : List Addr) (es : List Eg) (e : Eg), vs = [.ref wl, .ref nl, .ref el] ∧ H wl = some (.lst (([("edge" : Str), e.1, e.2.1, e.2.2.1, isz e.2.2.2]).map V.str)) ∧ H nl = some (.lst (ns.map V.str)) ∧ H el = some (.lst (as.map V.ref)) ∧ EgsAt H as es ∧
  IsNm e.1 ∧ e.2.1 ∈ ns ∧ e.2.2.1 ∈ ns ∧ sk e.2.1 < sk e.2.2.1 ∧ -1000000 ≤ e.2.2.2 ∧ e.2.2.2 ≤ 1000000 ∧ es.length < 100 ∧ (∀ f ∈ es, sk f.1 < sk e.1) ∧ ∀ H', Evl.Ex H H' → Q (.bl true) H'
theorem ok_canEdge {f fN fL : Addr} {fd dN dL : FuncData} {k : Nat} (F : Fun K "_can_be_edge" "_can_be_edge" (top 54) f fd) (T : Bs mg bl) (c_MAX_EDGES : mg "MAX_EDGES" = some uE) (r_MAX_EDGES : RelV (.int 100) uE)
    (F_is_name : Cf P w K mg base "is_name" ["value"] k (spName K) fN dN) (F_is_length_word : Cf P w K mg base "_is_length_word" ["word"] k spLWord fL dL) : FnOk P w K mg base CX0 (k + 1) f fd ["words", "nodes", "edges"] spCanE := by
  refine F.ok sc__can_be_edge (fun vs H Q E h => ?_) (fun cdv A outer s H vs Q E hr h => ?_)
  · obtain ⟨wl, nl, el, ns, as, es, e, rfl, _⟩ := h
    rfl
  · obtain ⟨wl, nl, el, ns, as, es, ⟨n, u, v, l⟩, rfl, hw, hn, he, hes, hz, hu, hv, uv, l0, l1, le, lt, q⟩ := h
    have hz : IsNm n := hz
    have hu : u ∈ ns := hu
    have hv : v ∈ ns := hv
    have uv : sk u < sk v := uv
    have l0 : -1000000 ≤ l := l0
    have l1 : l ≤ 1000000 := l1
    refine ⟨_, (pss_cons (ps_if (PW.pt (pw_or (pt_cmpR op_ne (pe_callB call_len_seq (by rfl) (T.b "len" (by decide)) (by decide +kernel) (pa_cons (pv 0) pa_nil)) pe_int (nomark _)) (pw_or (pt_cmpR op_ne (pe_ix ix_list (pv 0) pe_int (fun _ _ => rfl)) pe_str (nomark _)) (pw_or1 (pt_not (pt_val (pe_cf F_is_name (hr.mono (by omega)) (by rfl) (pa_cons (pe_ix ix_list (pv 0) pe_int (fun _ _ => rfl)) pa_nil)))))))) (pss_one (ps_ret pe_bl)) pss_nil)
      (pss_cons (ps_asg (pv 0) (pg_lst rfl (pgs_cons (pg_name (i := 3) sc__can_be_edge.nd rfl (Or.inl rfl)) (pgs_cons (pg_name (i := 4) sc__can_be_edge.nd rfl (Or.inl rfl)) (pgs_cons (pg_name (i := 5) sc__can_be_edge.nd rfl (Or.inl rfl)) (pgs_cons (pg_name (i := 6) sc__can_be_edge.nd rfl (Or.inl rfl)) (pgs_cons (pg_name (i := 7) sc__can_be_edge.nd rfl (Or.inl rfl)) pgs_nil)))))))
      (pss_cons (ps_if (PW.pt (pw_or (pt_cmpR op_notIn_seq (pv 5) (pv 1) rfl) (pw_or (pt_cmpR op_notIn_seq (pv 6) (pv 1) rfl) (pw_or1 (pt_cmpR op_ge_str (pv 5) (pv 6) (nomark _)))))) (pss_one (ps_ret pe_bl)) pss_nil)
      (pss_cons (ps_if (PW.pt (pw_or (pt_not (pt_val (pe_cf F_is_length_word (hr.mono (by omega)) (by rfl) (pa_cons (pv 7) pa_nil)))) (pw_or1 (pt_cmpR op_eq (pe_callB call_len_seq (by rfl) (T.b "len" (by decide)) (by decide +kernel) (pa_cons (pv 2) pa_nil)) (pe_glob rfl c_MAX_EDGES r_MAX_EDGES) (nomark _))))) (pss_one (ps_ret pe_bl)) pss_nil)
      (pss_one (ps_ret (pe_or (pe_notT (pv 2)) (pe_one (pe_cmpR op_lt_str (pe_ix ix_tup (pe_ix ix_list (pv 2) (pe_un un_neg pe_int) (fun _ _ => rfl)) pe_int (fun _ _ => rfl)) (pv 4) (nomark _)))))))))), ?_⟩
    refine Evl.q_when (b := false) (Evl.et_is (Evl.et_or (Evl.et_test (Evl.ev_op (ev_lenT (Evl.ev_var rfl) (.inl (Evl.sq_of hw))) Evl.ev_c (Evl.rv_ne rfl))) fun _ => Evl.et_or (Evl.et_test (Evl.ev_op (ev_ixS (z := "edge") (i := 0) (Evl.ev_var rfl) hw Evl.ev_c rfl) Evl.ev_c (Evl.rv_ne rfl))) fun _ =>
      Evl.et_not (Evl.et_B (ev_name (ev_ixS (i := 1) (Evl.ev_var rfl) hw Evl.ev_c rfl) hz))) (by simp)) (fun hb => absurd hb (by decide)) (fun hb H1 e1 => ?_)
    refine ⟨.ref wl, rfl, wl, _, rfl, Evl.sq_of (e1 _ _ hw), rfl, _, _, rfl, _, _, rfl, _, _, rfl, _, _, rfl, _, _, rfl, rfl, ?_⟩
    refine Evl.q_when (b := false) (Evl.et_is (Evl.et_or (Evl.et_test (Evl.ev_op (x := .str u) (Evl.ev_var rfl) (Evl.ev_var rfl) (Evl.rv_niL (Evl.sq_of (e1 _ _ hn)) rfl (flat_strs ns)))) fun _ => Evl.et_or (Evl.et_test (Evl.ev_op (x := .str v) (Evl.ev_var rfl) (Evl.ev_var rfl) (Evl.rv_niL (Evl.sq_of (e1 _ _ hn)) rfl (flat_strs ns)))) fun _ =>
      Evl.et_test (Evl.ev_op (x := .str u) (y := .str v) (z := .bl (!decide (sk u < sk v))) (Evl.ev_var rfl) (Evl.ev_var rfl) fun H3 _ _ q => ⟨_, _, rfl, rfl, q H3 (Evl.Ex.refl _)⟩)) (by rw [in_strs hu, in_strs hv, decide_eq_true uv]; rfl)) (fun hb => absurd hb (by decide)) (fun hb H2 e2 => ?_)
    have e12 := e1.trans e2
    refine Evl.q_when (b := false) (Evl.et_is (Evl.et_or (Evl.et_not (Evl.et_B (ev_lword (Evl.ev_var rfl) l0 l1))) fun _ => Evl.et_test (Evl.ev_op (ev_lenT (Evl.ev_var rfl) (.inl (Evl.sq_of (e12 _ _ he)))) (Evl.ev_c (v := .int 100)) (Evl.rv_eq rfl))) ?_) (fun hb => absurd hb (by decide)) (fun hb H3 e3 => ?_)
    · rw [List.length_map, hes.len]
      have : ¬ V.int (es.length : Int) = V.int 100 := fun z => by
        have := V.int.inj z
        omega
      rw [decide_eq_false this]
      rfl
    · have e13 := e12.trans e3
      by_cases n0 : as = []
      · subst n0
        exact Evl.s_ret (Evl.ev_is (Evl.ev_orV (a := true) (b := true) (ev_notT (Evl.ev_var rfl) (e13 _ _ he)) fun z => absurd z (by decide)) rfl) fun H4 e4 => q H4 (e13.trans e4)
      · have nl0 : as.length - 1 < as.length := by
          have := List.length_pos_iff.mpr n0
          omega
        obtain ⟨f, hf, hfa⟩ := egs_get hes (List.getElem?_eq_getElem nl0)
        have ll := lt f (List.mem_of_getElem? hf)
        have at1 : atI (as.map V.ref) (-1) = some (.ref as[as.length - 1]) := by
          have hl : (as.map V.ref).length = as.length := List.length_map _
          unfold atI
          have : ixN (as.map V.ref).length (-1) = some (as.length - 1) := by
            unfold ixN
            rw [if_neg (by omega), if_pos (by omega), hl]
            congr 1
            omega
          rw [this]
          show (as.map V.ref)[as.length - 1]? = _
          rw [List.getElem?_map, List.getElem?_eq_getElem nl0]
          rfl
        refine Evl.s_ret (Evl.ev_is (Evl.ev_orV (ev_notT (Evl.ev_var rfl) (e13 _ _ he)) fun _ => Evl.ev_op (x := .str f.1) (y := .str n) (z := .bl (decide (sk f.1 < sk n))) (Evl.ev_op (Evl.ev_op (Evl.ev_var rfl) (Evl.ev_un Evl.ev_c Evl.ru_neg) (Evl.rv_ixL (Evl.sq_of (e13 _ _ he)) at1)) Evl.ev_c (Evl.rv_ixT (.inl (.inl (e13 _ _ hfa))) rfl)) (Evl.ev_var rfl) fun H4 _ _ q => ⟨_, _, rfl, rfl, q H4 (Evl.Ex.refl _)⟩) ?_) fun H4 e4 => q H4 (e13.trans e4)
        rw [decide_eq_true ll, Bool.or_true]
end
end Lw

set_option maxHeartbeats 1000000
/-! how many edges end at a node; a for over a list or a tuple -/
namespace Lw
open PySem PySem.Spec PyProof.Rows L2
theorem nd_le : ∀ {ys ns : List Str}, ys.Nodup → (∀ y ∈ ys, y ∈ ns) → ys.length ≤ ns.length
  | [], _, _, _ => Nat.zero_le _
  | y :: ys, ns, h, k => by
    obtain ⟨h1, h2⟩ := List.nodup_cons.mp h
    have m := k y List.mem_cons_self
    have := nd_le (ns := ns.erase y) h2 fun z hz => (List.mem_erase_of_ne (fun (e : z = y) => h1 (by rw [← e]; exact hz))).mpr (k z (List.mem_cons_of_mem _ hz))
    rw [List.length_erase_of_mem m] at this
    have := List.length_pos_of_mem m
    rw [List.length_cons]
    omega
def ends (e : Eg) (z : Str) : Nat := (if e.2.1 = z then 1 else 0) + (if e.2.2.1 = z then 1 else 0)
def cnt (es : List Eg) (z : Str) : Nat := (es.map fun e => ends e z).sum
theorem cnt_nil (z : Str) : cnt [] z = 0 := rfl
theorem cnt_snoc (es : List Eg) (e : Eg) (z : Str) : cnt (es ++ [e]) z = cnt es z + ends e z := by
  unfold cnt
  rw [List.map_append, List.sum_append]
  simp
theorem cnt_cons (es : List Eg) (e : Eg) (z : Str) : cnt (e :: es) z = ends e z + cnt es z := by
  unfold cnt
  rw [List.map_cons, List.sum_cons]
theorem cnt_perm {es fs : List Eg} (p : es.Perm fs) (z : Str) : cnt es z = cnt fs z := (p.map _).sum_nat
theorem ends_norm (e : Eg) (z : Str) : ends (norm e) z = ends e z := by
  obtain ⟨n, u, v, l⟩ := e
  show (if minS u v = z then 1 else 0) + (if maxS u v = z then 1 else 0) = (if u = z then 1 else 0) + (if v = z then 1 else 0)
  rcases min_max u v with ⟨a, b⟩ | ⟨a, b⟩ <;> rw [a, b]
  exact Nat.add_comm _ _
theorem cnt_norm (es : List Eg) (z : Str) : cnt (es.map norm) z = cnt es z := by
  unfold cnt
  rw [List.map_map]
  congr 1
  exact List.map_congr_left fun e _ => ends_norm e z
theorem cnt_pos {es : List Eg} {z : Str} (h : 0 < cnt es z) : ∃ e ∈ es, e.2.1 = z ∨ e.2.2.1 = z := by
  induction es with
  | nil => exact absurd h (by simp [cnt])
  | cons e es ih =>
    rw [cnt_cons] at h
    by_cases q : e.2.1 = z
    · exact ⟨e, List.mem_cons_self, .inl q⟩
    · by_cases r : e.2.2.1 = z
      · exact ⟨e, List.mem_cons_self, .inr r⟩
      · have : ends e z = 0 := by
          unfold ends
          rw [if_neg q, if_neg r]
        obtain ⟨f, hf, k⟩ := ih (by omega)
        exact ⟨f, List.mem_cons_of_mem _ hf, k⟩
def isOdd (es : List Eg) (z : Str) : Prop := cnt es z % 2 = 1
instance (es : List Eg) (z : Str) : Decidable (isOdd es z) := inferInstanceAs (Decidable (_ = _))
def negs (es : List Eg) : List Eg := es.filter fun e => decide (e.2.2.2 < 0)
/-- at most ten nodes at which an odd number of the negative edges end -/
def Few (es : List Eg) : Prop := ∀ ys : List Str, ys.Nodup → (∀ y ∈ ys, isOdd (negs es) y) → ys.length ≤ 10
theorem negs_norm (es : List Eg) : negs (es.map norm) = (negs es).map norm := by
  unfold negs
  rw [List.filter_map]
  rfl
theorem negs_perm {es fs : List Eg} (p : es.Perm fs) : (negs es).Perm (negs fs) := p.filter _
theorem Few.perm {es fs : List Eg} (p : fs.Perm es) (h : Few es) : Few fs := fun ys nd k => h ys nd fun y hy => by
  have := k y hy
  unfold isOdd at this ⊢
  rwa [cnt_perm (negs_perm p)] at this
theorem Few.norms {es : List Eg} (h : Few es) : Few (es.map norm) := fun ys nd k => h ys nd fun y hy => by
  have := k y hy
  unfold isOdd at this ⊢
  rwa [negs_norm, cnt_norm] at this
theorem Few.canon {es : List Eg} (h : Few es) : Few (srtE (es.map norm)) := h.norms.perm (srtE_perm _)
theorem Few.small {ns : List Str} {es : List Eg} (net : IsNet ns es) (l : ns.length ≤ 10) : Few es := fun ys nd k => by
  refine Nat.le_trans ?_ l
  have sub : ∀ y ∈ ys, y ∈ ns := fun y hy => by
    have := k y hy
    unfold isOdd at this
    obtain ⟨e, he, q⟩ := cnt_pos (es := negs es) (z := y) (by omega)
    obtain ⟨_, h2, h3, _⟩ := net.em e (List.mem_filter.mp he).1
    rcases q with q | q
    · rw [← q]
      exact h2
    · rw [← q]
      exact h3
  exact nd_le nd sub
section
variable {K : PySem.W.Frag}
/-- a for over a list or tuple that stays -/
theorem q_forSeq {tl : TE} {g : TG} {tu tz : TS} {D : Ends} {σ : St} {H0 H : Hp} {a : Addr} {xs : List V} (e0 : Evl.Ex H0 H) (h : Evl.Ev tl σ H (.ref a)) (hx : H0 a = some (.lst xs) ∨ H0 a = some (.tup xs)) (Pv : Nat → St → Hp → Prop) (h0 : ∀ H1, Evl.Ex H H1 → Pv 0 σ H1) (hl : ∀ i σ' H', Pv i σ' H' → Evl.Ex H0 H')
    (hs : ∀ i x σ' H', xs[i]? = some x → Pv i σ' H' → g x σ' H' fun σ2 H2 => tu { D with nx := Pv (i + 1), ct := Pv (i + 1), bk := tz D } σ2 H2) (hd : ∀ σ' H', Pv xs.length σ' H' → tz D σ' H') :
    tSeq (tFor (fun σ H R => iList K tl σ H R ∨ iTup K tl σ H R) g tu) tz D σ H :=
  hx.elim (fun hx => .inl (Evl.q_forL h (Evl.sq_of (e0 _ _ hx)) Pv h0 (fun i σ' H' _ z => Evl.sq_of (hl i σ' H' z _ _ hx)) hs hd)) fun hx => .inr (Evl.q_forT h (Evl.st_of (e0 _ _ hx)) Pv h0 (fun i σ' H' _ z => Evl.st_of (hl i σ' H' z _ _ hx)) hs hd)
end
end Lw

set_option maxHeartbeats 2000000
namespace Lw
open PySem PySem.Spec PyProof.Rows L2
open Evl (EvL EvA EvT RC)
abbrev nm_odd_nodes : List Str := ["edges", "counts", "edge", "node"]
theorem sc_odd_nodes : FnScope nm_odd_nodes ["edges"] (defScope (top 16)) := ⟨rfl, rfl, rfl, by decide +kernel, rfl, by decide +kernel, by decide +kernel⟩
section
variable {P : Program} {w : World} {K : PySem.W.Frag} {mg : Str → Option Value} {base : Heap}
/-- the nodes at which an odd number of edges end, ascending -/
def spOdd : Sp := fun vs H Q _ => ∃ (b : Addr) (as : List Addr) (es : List Eg) (ns : List Str), vs = [.ref b] ∧ (H b = some (.lst (as.map V.ref)) ∨ H b = some (.tup (as.map V.ref))) ∧ EgsAt H as es ∧ es.length ≤ 1000 ∧ ns.length ≤ 1000 ∧ (∀ e ∈ es, e.2.1 ∈ ns ∧ e.2.2.1 ∈ ns) ∧
  ∀ p (ys : List Str) H', Evl.Ex H H' → H p = none → H' p = some (.tup (ys.map V.str)) → ys.Nodup → (∀ y, y ∈ ys ↔ isOdd es y) → Asc id ys → Q (.ref p) H'
def num (n : Nat) : Option V := if n = 0 then none else some (.int (n : Nat))
/-- counts by name -/
def Cn (ns : List Str) (kvs : List (Key × V)) : Prop := ∃ ps : List (Str × Int), kvs = ps.map (fun q => (Sum.inr q.1, V.int q.2)) ∧ (ps.map (·.1)).Nodup ∧ ∀ q ∈ ps, q.1 ∈ ns
theorem cn_get {ns : List Str} {kvs : List (Key × V)} (h : Cn ns kvs) (z : Str) : valV kvs (Sum.inr z) = none ∨ ∃ k, valV kvs (Sum.inr z) = some (.int k) := by
  obtain ⟨ps, rfl, h2⟩ := h
  clear h2
  induction ps with
  | nil => exact .inl rfl
  | cons q r ih =>
    by_cases e : (Sum.inr q.1 : Key) = Sum.inr z
    · exact .inr ⟨q.2, valV_pos e⟩
    · rw [List.map_cons, valV_neg e]
      exact ih
theorem cn_at {ns : List Str} {kvs : List (Key × V)} (h : Cn ns kvs) {z : Str} {v : V} (hm : (Sum.inr z, v) ∈ kvs) : ∃ k, valV kvs (Sum.inr z) = some (.int k) := by
  rcases cn_get h z with n | n
  · unfold valV at n
    rw [Option.map_eq_none_iff, List.find?_eq_none] at n
    exact absurd (n _ hm) (by simp)
  · exact n
theorem cn_len {ns : List Str} {kvs : List (Key × V)} (h : Cn ns kvs) : kvs.length ≤ ns.length := by
  obtain ⟨ps, rfl, nd, hm⟩ := h
  have := nd_le nd fun y hy => by
    obtain ⟨q, hq, rfl⟩ := List.mem_map.mp hy
    exact hm q hq
  rw [List.length_map] at this ⊢
  exact this
theorem cn_put {ns : List Str} {kvs : List (Key × V)} (h : Cn ns kvs) {z : Str} (hz : z ∈ ns) (n : Int) : Cn ns (putK kvs (Sum.inr z) (.int n)) := by
  obtain ⟨ps, rfl, nd, hm⟩ := h
  unfold putK
  split
  · refine ⟨ps.map fun q => if q.1 = z then (q.1, n) else q, ?_, ?_, fun q hq => ?_⟩
    · rw [List.map_map, List.map_map]
      refine List.map_congr_left fun q _ => ?_
      by_cases e : q.1 = z
      · simp [e]
      · simp [e]
    · rw [List.map_map]
      have : ps.map ((fun x : Str × Int => x.1) ∘ fun q => if q.1 = z then (q.1, n) else q) = ps.map (·.1) := List.map_congr_left fun q _ => by
        by_cases e : q.1 = z
        · simp [e]
        · simp [e]
      rw [this]
      exact nd
    · obtain ⟨q', hq', rfl⟩ := List.mem_map.mp hq
      by_cases e : q'.1 = z
      · simp [e, hz]
      · simp [e, hm q' hq']
  · rename_i no
    refine ⟨ps ++ [(z, n)], ?_, ?_, fun q hq => ?_⟩
    · rw [List.map_append]
      rfl
    · rw [List.map_append, List.nodup_append]
      refine ⟨nd, by simp, fun a ha b hb => ?_⟩
      obtain ⟨q, hq, rfl⟩ := List.mem_map.mp ha
      rw [List.map_cons, List.map_nil, List.mem_singleton] at hb
      rw [hb]
      intro e
      exact no (List.any_eq_true.mpr ⟨_, List.mem_map.mpr ⟨q, hq, rfl⟩, decide_eq_true (by show (Sum.inr q.1 : Key) = Sum.inr z; rw [e])⟩)
    · rcases List.mem_append.mp hq with h | h
      · exact hm q h
      · rw [List.mem_singleton.mp h]
        exact hz
/-- a for over a new tuple of which the items are known -/
theorem s_forTupVia {tl : TE} {g : TG} {tu : TS} {D : Ends} {σ : St} {H : Hp} (S : Addr → Hp → Prop) (xs : List V) (h1 : ∀ Q' : VK, (∀ p H', S p H' → Q' (.ref p) H') → tl σ H Q') (Pv : Addr → Nat → St → Hp → Prop) (h0 : ∀ p H', S p H' → Pv p 0 σ H') (hl : ∀ p i σ' H', Pv p i σ' H' → SqT K H' p xs)
    (hs : ∀ p i x σ' H', xs[i]? = some x → Pv p i σ' H' → g x σ' H' fun σ2 H2 => tu { D with nx := Pv p (i + 1), ct := Pv p (i + 1), bk := D.nx } σ2 H2) (hd : ∀ p σ' H', Pv p xs.length σ' H' → D.nx σ' H') : tFor (iTup K tl) g tu D σ H :=
  h1 _ fun p H' hS => ⟨p, rfl, ⟨xs, hl _ _ _ _ (h0 _ _ hS)⟩, for_tup (Pv p) (h0 _ _ hS) (fun i σ' H' _ z => hl _ _ _ _ z) (fun i x σ' H' hx z => hs p i x σ' H' hx z) (fun σ' H' z => hd p σ' H' z)⟩
theorem g_nil {σ : St} {H : Hp} {Q : List V → Hp → Prop} (h : Q [] H) : tNil σ H Q := h
theorem ok_odd {f : Addr} {fd : FuncData} {k : Nat} (F : Fun K "odd_nodes" "odd_nodes" (top 16) f fd) (T : Bs mg bl) : FnOk P w K mg base CX0 (k + 1) f fd ["edges"] spOdd := by
  refine F.ok sc_odd_nodes (fun vs H Q E h => ?_) (fun cdv A outer s H vs Q E hr h => ?_)
  · obtain ⟨b, as, es, ns, rfl, _⟩ := h
    rfl
  · obtain ⟨b, as, es, ns, rfl, hb, he, l0, l1, inn, q⟩ := h
    refine ⟨_, (pss_cons (ps_set (i := 1) sc_odd_nodes.nd rfl (Or.inr rfl) pe_dnewK)
      (pss_cons (ps_for PassesOwn.never rfl (pi_or (pi_list (pv 0)) (pi_tup (pv 0))) (pg_name (i := 2) sc_odd_nodes.nd rfl (Or.inl rfl)) (pss_one (ps_for PassesOwn.never rfl (pi_tup (pe_slice sl_tupA (pv 2) (po_some pe_int) (po_some pe_int))) (pg_name (i := 3) sc_odd_nodes.nd rfl (Or.inl rfl)) (pss_one (ps_dput (hu_of hr) (pv 1) (pv 3) (pe_op op_add (pe_dget2 (hu_of hr) (pv 1) (pv 3) pe_int ⟨by rfl, by rfl, by rfl, by rfl⟩) pe_int) rfl)))))
      (pss_one (ps_ret (pe_callTy call_tuple_of (by rfl) (T.b "tuple" (by decide)) (by decide +kernel) (pa_cons (pe_callB (cr_sortedD hr) (by rfl) (T.b "sorted" (by decide)) (by decide +kernel) (pa_cons (pe_lock (pe_lc (own := [("node", 3)]) (g := (gName 3)) (tt := (fun σ H Q => (tOp (rI0 fun i j => .int (Builtin.bitAnd i j)) (tDGet (tVar 1) (tVar 3)) (tC (.int 1))) σ H fun x H' => ∃ k, TruV K x H' k ∧ Q k H')) (te := (tVar 3)) rfl sc_odd_nodes.nd (pi_keys (pv 1)) (blkOk_by (N := nm_odd_nodes) (sc := defScope (top 16)) (by decide +kernel)) (fun _ _ _ _ _ => pg_name (i := 3) sc_odd_nodes.nd rfl (Or.inl rfl)) (fun _ _ _ _ _ => (pts_one (pt_truth (pe_op op_and (pe_dget (hu_of hr) (pv 1) (pv 3) (fun _ _ => rfl)) pe_int) (fun _ => rfl)))) (fun _ _ _ _ _ => (pv 3)))) pa_nil)) pa_nil)))))), ?_⟩
    refine fun c nc => ?_
    refine g_name ?_
    dsimp only
    refine q_forSeq (xs := as.map V.ref) (Evl.Ex.new nc) (Evl.ev_var rfl) hb (fun i σ' H' => ∃ x2 x3 kvs, σ' = [some (.ref b), some (.ref c), x2, x3] ∧ Evl.Ex H H' ∧ H' c = some (.dK kvs) ∧ Cn ns kvs ∧ ∀ z, valV kvs (Sum.inr z) = num (cnt (es.take i) z)) (fun H1 e1 => ⟨none, none, [], rfl, (Evl.Ex.new nc).trans e1, e1 _ _ upd_same, ⟨[], rfl, by simp, fun q hq => absurd hq (by simp)⟩, fun z => rfl⟩)
      (fun i σ' H' ⟨_, _, _, _, e, _⟩ => e) (fun i x σ' H' hx z => ?_) (fun σ' H' z => ?_)
    · obtain ⟨x2, x3, kvs, rfl, eH, hc, cn, vv⟩ := z
      rw [List.getElem?_map] at hx
      obtain ⟨a', ha', rfl⟩ := Option.map_eq_some_iff.mp hx
      obtain ⟨e, hei, hae⟩ := egs_get he ha'
      obtain ⟨i2, i3⟩ := inn e (List.mem_of_getElem? hei)
      have tk : es.take (i + 1) = es.take i ++ [e] := by
        rw [List.take_add_one, hei]
        rfl
      let part : Nat → Str → Nat := fun j z => match j with
        | 0 => 0
        | 1 => if e.2.1 = z then 1 else 0
        | _ => ends e z
      refine s_forTupVia (fun p H2 => H' p = none ∧ H2 = upd H' p (.tup [V.str e.2.1, V.str e.2.2.1])) [V.str e.2.1, V.str e.2.2.1] (fun Q' hQ' => ⟨.ref a', rfl, 1, rfl, 3, rfl, a', egV e, rfl, .inl (.inl (eH _ _ hae)), fun z => absurd z.1 (by show ¬ HT.sIx 4 0 (some 1) = 0; decide), fun _ p np => hQ' p _ ⟨np, rfl⟩⟩)
        (fun p j σ2 H2 => ∃ x3 kvs, σ2 = [some (.ref b), some (.ref c), some (.ref a'), x3] ∧ Evl.Ex H H2 ∧ H2 c = some (.dK kvs) ∧ Cn ns kvs ∧ p ≠ c ∧ H2 p = some (.tup [V.str e.2.1, V.str e.2.2.1]) ∧ ∀ z, valV kvs (Sum.inr z) = num (cnt (es.take i) z + part j z))
        (fun p H2 ⟨np, e2⟩ => ⟨x3, kvs, rfl, by rw [e2]; exact eH.trans (Evl.Ex.new np), by rw [e2]; exact Evl.Ex.new np _ _ hc, cn, apart hc np, by rw [e2]; exact upd_same, vv⟩) (fun _ _ _ _ ⟨_, _, _, _, _, _, _, h, _⟩ => .inl (.inl h)) (fun p j x σ2 H2 hx z => ?_) (fun p σ2 H2 z => ?_)
      · obtain ⟨x3, kvs, rfl, eH2, hc2, cn2, pc, hp2, vv2⟩ := z
        obtain ⟨z, rfl, hz, step⟩ : ∃ z, x = V.str z ∧ z ∈ ns ∧ ∀ y, part (j + 1) y = part j y + (if z = y then 1 else 0) := by
          match j, hx with
          | 0, hx => exact ⟨e.2.1, (Option.some.inj hx).symm, i2, fun y => (Nat.zero_add _).symm⟩
          | 1, hx => exact ⟨e.2.2.1, (Option.some.inj hx).symm, i3, fun y => rfl⟩
          | j + 2, hx => exact absurd hx (by simp)
        have small : kvs.length < sizeLine := Evl.sz_lt (by have := cn_len cn2; omega)
        have nxt : ∀ n : Nat, valV kvs (Sum.inr z) = num n → ∃ x3 kvs', [some (V.ref b), some (V.ref c), some (V.ref a'), some (V.str z)] = [some (.ref b), some (.ref c), some (.ref a'), x3] ∧ Evl.Ex H (upd H2 c (.dK (putK kvs (Sum.inr z) (.int ((n : Nat) + 1 : Int))))) ∧ (upd H2 c (.dK (putK kvs (Sum.inr z) (.int ((n : Nat) + 1 : Int))))) c = some (.dK kvs') ∧ Cn ns kvs' ∧ p ≠ c ∧
            (upd H2 c (.dK (putK kvs (Sum.inr z) (.int ((n : Nat) + 1 : Int))))) p = some (.tup [V.str e.2.1, V.str e.2.2.1]) ∧ ∀ y, valV kvs' (Sum.inr y) = num (cnt (es.take i) y + part (j + 1) y) := fun n hn => by
          refine ⟨_, _, rfl, eH2.mut nc, upd_same, cn_put cn2 hz _, pc, by rw [upd_ne pc]; exact hp2, fun y => ?_⟩
          rw [valV_put, step]
          by_cases e1 : z = y
          · subst e1
            rw [if_pos rfl, if_pos rfl]
            have hv := vv2 z
            rw [hn] at hv
            have hn' : n = cnt (es.take i) z + part j z := by
              unfold num at hv
              by_cases h0 : n = 0
              · by_cases h1 : cnt (es.take i) z + part j z = 0
                · omega
                · rw [if_pos h0, if_neg h1] at hv
                  exact absurd hv (by simp)
              · by_cases h1 : cnt (es.take i) z + part j z = 0
                · rw [if_neg h0, if_pos h1] at hv
                  exact absurd hv (by simp)
                · rw [if_neg h0, if_neg h1] at hv
                  have := V.int.inj (Option.some.inj hv)
                  omega
            unfold num
            rw [if_neg (by omega)]
            congr 2
            omega
          · rw [if_neg (fun q => e1 (Sum.inr.inj q).symm), if_neg e1, Nat.add_zero]
            exact vv2 y
        refine ⟨.ref c, rfl, c, rfl, .inl ⟨kvs, .inl hc2⟩, .str z, rfl, valV kvs (Sum.inr z), .inl ⟨kvs, Sum.inr z, .inl hc2, rfl, rfl⟩, ?_⟩
        by_cases h0 : cnt (es.take i) z + part j z = 0
        · have hv : valV kvs (Sum.inr z) = none := by
            rw [vv2 z]
            unfold num
            rw [if_pos h0]
          rw [hv]
          exact ⟨0, 1, rfl, rfl, .ref c, rfl, .str z, rfl, c, _, rfl, .inl ⟨kvs, Sum.inr z, hc2, rfl, small, rfl⟩, nxt 0 (by rw [hv]; rfl)⟩
        · have hv : valV kvs (Sum.inr z) = some (.int ((cnt (es.take i) z + part j z : Nat) : Int)) := by
            rw [vv2 z]
            unfold num
            rw [if_neg h0]
          rw [hv]
          exact ⟨_, 1, rfl, rfl, .ref c, rfl, .str z, rfl, c, _, rfl, .inl ⟨kvs, Sum.inr z, hc2, rfl, small, rfl⟩, nxt _ (vv2 z)⟩
      · obtain ⟨x3, kvs, rfl, eH2, hc2, cn2, pc, hp2, vv2⟩ := z
        exact ⟨_, _, kvs, rfl, eH2, hc2, cn2, fun z => by rw [tk, cnt_snoc]; exact vv2 z⟩
    · obtain ⟨x2, x3, kvs, rfl, eH, hc, cn, vv⟩ := z
      rw [List.length_map, he.len, List.take_length] at vv
      obtain ⟨ps, rfl, nd, hm⟩ := cn
      have cn : Cn ns (ps.map fun q => ((Sum.inr q.1 : Key), V.int q.2)) := ⟨ps, rfl, nd, hm⟩
      generalize hk : (ps.map fun q => ((Sum.inr q.1 : Key), V.int q.2)) = kvs at hc cn vv
      have lk : kvs.length = ps.length := by
        rw [← hk, List.length_map]
      have small : ps.length ≤ 1000 := by
        have := cn_len cn
        omega
      have keys : ∀ (i : Nat) (kk : Key) (v : V), kvs[i]? = some (kk, v) → ∃ z, kk = Sum.inr z ∧ (ps.map (·.1))[i]? = some z := fun i kk v h => by
        rw [← hk, List.getElem?_map] at h
        obtain ⟨p, hp, e⟩ := Option.map_eq_some_iff.mp h
        refine ⟨p.1, (congrArg Prod.fst e).symm, ?_⟩
        rw [List.getElem?_map, hp]
        rfl
      have has : ∀ y, isOdd es y → y ∈ ps.map (·.1) := fun y hy => by
        have hv := vv y
        unfold isOdd at hy
        unfold num at hv
        rw [if_neg (by omega)] at hv
        have := valV_in hv
        rw [← hk, List.map_map] at this
        obtain ⟨q, hq, e⟩ := List.mem_map.mp this
        exact List.mem_map.mpr ⟨q, hq, Sum.inr.inj e⟩
      refine ⟨c, .dK kvs, hc, trivial, fun od => ⟨.ref c, rfl, c, od, rfl, .inl ⟨kvs, upd_same, fun D nD => ?_⟩⟩⟩
      have eF : Evl.Ex H (upd H' c (.frz od (.dK kvs))) := eH.mut nc
      have cF : (upd H' c (.frz od (.dK kvs))) c = some (.frz od (.dK kvs)) := upd_same
      generalize (upd H' c (.frz od (.dK kvs))) = HF at eF cF nD
      have Dc : D ≠ c := apart cF nD
      refine ⟨fun i m H2 => m = kvs.length - i ∧ i ≤ kvs.length ∧ Evl.Ex HF H2 ∧ H2 D = some (.lst ((((ps.map (·.1)).take i).filter fun z => decide (isOdd es z)).map V.str)), ⟨_, rfl, Nat.zero_le _, Evl.Ex.new nD, upd_same⟩, fun i m H2 z => ?_⟩
      obtain ⟨rfl, li, e2, hD⟩ := z
      have c2 := e2 _ _ cF
      have yl : (((ps.map (·.1)).take i).filter fun z => decide (isOdd es z)).length ≤ ps.length := by
        have h1 := List.length_filter_le (fun z => decide (isOdd es z)) ((ps.map (·.1)).take i)
        rw [List.length_take, List.length_map] at h1
        omega
      by_cases lt : i < kvs.length
      · refine .inr ⟨⟨c2, lt⟩, fun H3 => i + 1 ≤ kvs.length ∧ Evl.Ex HF H3 ∧ H3 D = some (.lst ((((ps.map (·.1)).take (i + 1)).filter fun z => decide (isOdd es z)).map V.str)), fun H3 ⟨a1, a2, a3⟩ => ⟨kvs.length - (i + 1), by omega, rfl, a1, a2, a3⟩, fun x H3 y => ?_⟩
        obtain ⟨rfl, kk, v, hkv, rfl⟩ := y
        obtain ⟨z, rfl, hz⟩ := keys i kk v hkv
        have hv := vv z
        obtain ⟨n, hn⟩ := cn_at cn (List.mem_of_getElem? hkv)
        have tk : (ps.map (·.1)).take (i + 1) = (ps.map (·.1)).take i ++ [z] := by
          rw [List.take_add_one, hz]
          rfl
        have en : n = (cnt es z : Int) := by
          rw [hn] at hv
          unfold num at hv
          by_cases h1 : cnt es z = 0
          · rw [if_pos h1] at hv
            exact absurd hv (by simp)
          · rw [if_neg h1] at hv
            exact V.int.inj (Option.some.inj hv)
        refine ⟨rfl, .ref c, rfl, .str z, rfl, c, .int n, rfl, .inl ⟨kvs, Sum.inr z, .inr ⟨od, c2⟩, rfl, hn.symm⟩, _, _, rfl, rfl, _, rfl, ?_⟩
        have key : (decide (isOdd es z) = true) ↔ ¬ (Builtin.bitAnd n 1 = 0) := by
          rw [bitAnd_m1, en, decide_eq_true_iff]
          unfold isOdd
          omega
        rw [tk, List.filter_append]
        refine ite2 (fun h1 => ?_) (fun h1 => ?_)
        · have h1 : (Builtin.bitAnd n 1 != 0) = true := h1
          have od : decide (isOdd es z) = true := key.mpr (by simpa using h1)
          have f1 : [z].filter (fun z => decide (isOdd es z)) = [z] := by
            rw [List.filter_cons, if_pos od]
            rfl
          rw [f1]
          refine ⟨.str z, rfl, _, hD, ?_, lt, e2.mut nD, ?_⟩
          · rw [List.length_map]
            exact Evl.sz_lt (by omega)
          · rw [upd_same, List.map_append]
            rfl
        · have h1 : ¬ (Builtin.bitAnd n 1 != 0) = true := h1
          have od : ¬ decide (isOdd es z) = true := fun q => h1 (by simpa using key.mp q)
          have f1 : [z].filter (fun z => decide (isOdd es z)) = [] := by
            rw [List.filter_cons, if_neg od]
            rfl
          rw [f1, List.append_nil]
          exact ⟨lt, e2, hD⟩
      · refine .inl ⟨⟨c2, by omega⟩, c2, ?_⟩
        rw [List.take_of_length_le (by rw [List.length_map]; omega)] at hD yl
        have hD4 : (upd H2 c (.dK kvs)) D = some (.lst (((ps.map (·.1)).filter fun z => decide (isOdd es z)).map V.str)) := by
          rw [upd_ne Dc]
          exact hD
        have e4 : Evl.Ex H (upd H2 c (.dK kvs)) := (eF.trans e2).mut nc
        have nodup : ((ps.map (·.1)).filter fun z => decide (isOdd es z)).Nodup := List.Sublist.nodup List.filter_sublist nd
        refine g_nil ?_
        dsimp only
        refine rc_sortN (.inl (Evl.sq_of hD4)) (by omega) _ (Evl.Ex.refl _) _ fun p H5 np e5 hp => ⟨p, _, rfl, .inl ⟨Evl.sq_of hp, fun r nr => ?_⟩⟩
        refine q r (srtN _) _ ((e4.trans e5).trans (Evl.Ex.new nr)) (Evl.fresh_back (e4.trans e5) nr) upd_same ((srtN_perm _).nodup_iff.mpr nodup) (fun y => ?_) (srtN_asc nodup)
        rw [(srtN_perm _).mem_iff, List.mem_filter, decide_eq_true_iff]
        exact ⟨fun h => h.2, fun h => ⟨has y h, h⟩⟩
end
end Lw

set_option maxHeartbeats 1000000
/-! heappush and heappop of lists of tuples (an int, a text, a text) -/
namespace Hq
open PySem PySem.Calls PyProof.Rows PySem.W
theorem entry_sift : entryFor table "_heapq.heapify.sift" = some Builtin.«_heapq.heapify.sift» := entryFor_of_fast (by kernel_rfl)
theorem entry_push : entryFor table "_heapq.heappush" = some Builtin.«_heapq.heappush» := entryFor_of_fast (by kernel_rfl)
theorem entry_pop : entryFor table "_heapq.heappop" = some Builtin.«_heapq.heappop» := entryFor_of_fast (by kernel_rfl)
theorem kind_push : builtinKind "_heapq.heappush" = none := by decide +kernel
theorem kind_pop : builtinKind "_heapq.heappop" = none := by decide +kernel
theorem plain_push : plainId "_heapq.heappush" = true := by decide +kernel
theorem plain_pop : plainId "_heapq.heappop" = true := by decide +kernel
theorem args_push (a b : Value) : argsOk "_heapq.heappush" ⟨[a, b], []⟩ := by unfold argsOk; kernel_rfl
theorem args_pop (a : Value) : argsOk "_heapq.heappop" ⟨[a], []⟩ := by unfold argsOk; kernel_rfl
/-! ### the order -/
abbrev T3 := Int × Str × Str
def enc (t : T3) : PyData := .tuple [.int t.1, .str t.2.1, .str t.2.2]
def lt (x y : T3) : Bool := dataLt (enc x) (enc y)
def le (x y : T3) : Prop := lt y x = false
theorem al (x y : T3) : alike (enc x) (enc y) = true := by simp [enc, alike, alikeAll]
theorem le_refl (x : T3) : le x x := lex_irrefl _
theorem le_trans {x y z : T3} (a : le x y) (b : le y z) : le x z := by
  cases h : lt z x with
  | false => exact h
  | true =>
    rcases lex_negTrans (O := itemOrd) (keyToks (enc z)) (keyToks (enc y)) (keyToks (enc x)) h with q | q
    · exact absurd (show lt z y = true from q) (by rw [show lt z y = false from b]; decide)
    · exact absurd (show lt y x = true from q) (by rw [show lt y x = false from a]; decide)
theorem le_of_lt {x y : T3} (h : lt x y = true) : le x y := by
  cases q : lt y x with
  | false => exact q
  | true =>
    have := lex_trans (O := itemOrd) (keyToks (enc x)) (keyToks (enc y)) (keyToks (enc x)) h q
    rw [lex_irrefl] at this
    exact absurd this (by decide)
/-- the first part decides -/
theorem le_fst {x y : T3} (h : le x y) : x.1 ≤ y.1 := by
  have e : lt y x = if PyData.eqv (.int y.1) (.int x.1) = true then PyProof.Rows.lexLt itemOrd (keyToksAll [.str y.2.1, .str y.2.2]) (keyToksAll [.str x.2.1, .str x.2.2]) else dataLt (.int y.1) (.int x.1) := by
    show dataLt (enc y) (enc x) = _
    unfold enc
    rw [dataLt_tuple]
    exact dataLt_cons (by simp [alike]) _ _
  have h : lt y x = false := h
  rw [e] at h
  by_cases q : y.1 = x.1
  · omega
  · have : PyData.eqv (.int y.1) (.int x.1) = false := by
      simp [PyData.eqv, q]
    rw [this, if_neg (by decide), dataLt_int] at h
    have := of_decide_eq_false h
    omega
/-! ### heaps as lists -/
abbrev Pr := Value × T3
def up (i : Nat) : Nat := (i - 1) / 2
def HeapL (ps : List Pr) : Prop := ∀ (i : Nat) (x y : Pr), 0 < i → ps[up i]? = some x → ps[i]? = some y → le x.2 y.2
/-- in order but at p, whose value may be too small -/
def Up (ps : List Pr) (p : Nat) : Prop := (∀ (i : Nat) (x y : Pr), 0 < i → i ≠ p → ps[up i]? = some x → ps[i]? = some y → le x.2 y.2) ∧ ∀ (i : Nat) (x y : Pr), 0 < i → up i = p → 0 < p → ps[up p]? = some x → ps[i]? = some y → le x.2 y.2
/-- in order but around p -/
def Dn (ps : List Pr) (p : Nat) : Prop := (∀ (i : Nat) (x y : Pr), 0 < i → i ≠ p → up i ≠ p → ps[up i]? = some x → ps[i]? = some y → le x.2 y.2) ∧ ∀ (i : Nat) (x y : Pr), 0 < i → up i = p → 0 < p → ps[up p]? = some x → ps[i]? = some y → le x.2 y.2
def swp (ps : List Pr) (i j : Nat) (x y : Pr) : List Pr := (ps.set i y).set j x
section
variable {ps : List Pr} {i j : Nat} {x y : Pr}
theorem lt_of {k : Nat} {z : Pr} (h : ps[k]? = some z) : k < ps.length := (List.getElem?_eq_some_iff.mp h).1
theorem sw_j (hi : ps[i]? = some x) (hj : ps[j]? = some y) : (swp ps i j x y)[j]? = some x := by
  unfold swp
  rw [List.getElem?_set_self (by simpa using lt_of hj)]
theorem sw_i (hi : ps[i]? = some x) (hj : ps[j]? = some y) (n : i ≠ j) : (swp ps i j x y)[i]? = some y := by
  unfold swp
  rw [List.getElem?_set_ne n.symm, List.getElem?_set_self (lt_of hi)]
theorem sw_o {k : Nat} (ni : k ≠ i) (nj : k ≠ j) : (swp ps i j x y)[k]? = ps[k]? := by
  unfold swp
  rw [List.getElem?_set_ne nj.symm, List.getElem?_set_ne ni.symm]
theorem sw_len : (swp ps i j x y).length = ps.length := by simp [swp]
theorem split_at {α : Type} {xs : List α} {k : Nat} {z : α} (h : xs[k]? = some z) : ∃ A B, xs = A ++ z :: B ∧ A.length = k := by
  obtain ⟨hk, e⟩ := List.getElem?_eq_some_iff.mp h
  refine ⟨xs.take k, xs.drop (k + 1), ?_, by rw [List.length_take]; omega⟩
  rw [← e, ← List.drop_eq_getElem_cons hk, List.take_append_drop]
theorem sw_perm (hi : ps[i]? = some x) (hj : ps[j]? = some y) (n : i ≠ j) : (swp ps i j x y).Perm ps := by
  have key : ∀ {i j : Nat} {x y : Pr}, i < j → ps[i]? = some x → ps[j]? = some y → ∃ A B C, ps = A ++ x :: (B ++ y :: C) ∧ A.length = i ∧ A.length + 1 + B.length = j := fun {i j x y} l hi hj => by
    obtain ⟨A, R, e, la⟩ := split_at hi
    rw [e, List.getElem?_append_right (by omega), la] at hj
    have : j - i = (j - i - 1) + 1 := by omega
    rw [this, List.getElem?_cons_succ] at hj
    obtain ⟨B, C, e2, lb⟩ := split_at hj
    exact ⟨A, B, C, by rw [e, e2], la, by omega⟩
  have pm : ∀ (A B C : List Pr) (x y : Pr), (A ++ y :: (B ++ x :: C)).Perm (A ++ x :: (B ++ y :: C)) := fun A B C x y =>
    List.Perm.append_left A ((List.Perm.cons y List.perm_middle).trans ((List.Perm.swap x y _).trans (List.Perm.cons x List.perm_middle.symm)))
  have s1 : ∀ (A B C : List Pr) (x y z : Pr), (A ++ x :: (B ++ y :: C)).set A.length z = A ++ z :: (B ++ y :: C) := fun A B C x y z => by simp [List.set_append]
  have s2 : ∀ (A B C : List Pr) (x y z : Pr), (A ++ x :: (B ++ y :: C)).set (A.length + 1 + B.length) z = A ++ x :: (B ++ z :: C) := fun A B C x y z => by
    rw [List.set_append_right _ _ (by omega), show A.length + 1 + B.length - A.length = B.length + 1 by omega, List.set_cons_succ, List.set_append_right _ _ (Nat.le_refl _), Nat.sub_self, List.set_cons_zero]
  unfold swp
  rcases Nat.lt_or_gt_of_ne n with l | l
  · obtain ⟨A, B, C, e, la, lb⟩ := key l hi hj
    subst la lb
    rw [e, s1, s2]
    exact pm A B C x y
  · obtain ⟨A, B, C, e, la, lb⟩ := key l hj hi
    subst la lb
    rw [e, s2, s1]
    exact pm A B C y x
theorem up_lt {k : Nat} (h : 0 < k) : up k < k := by
  unfold up
  omega
/-- the one at p goes up -/
theorem Up.step {p : Nat} (h : Up ps p) (hp : 0 < p) (hx : ps[p]? = some x) (hy : ps[up p]? = some y) (l : lt x.2 y.2 = true) : Up (swp ps (up p) p y x) (up p) := by
  have nq : up p ≠ p := Nat.ne_of_lt (up_lt hp)
  have lxy : le x.2 y.2 := le_of_lt l
  have ai := sw_i hy hx nq
  have aj := sw_j hy hx
  refine ⟨fun i u v hi ni hu hv => ?_, fun i u v hi e h0 hu hv => ?_⟩
  · by_cases ip : i = p
    · subst ip
      rw [ai] at hu
      rw [aj] at hv
      cases hu
      cases hv
      exact lxy
    · rw [sw_o ni ip] at hv
      by_cases u1 : up i = up p
      · rw [u1, ai] at hu
        cases hu
        exact le_trans lxy (h.1 i y v hi ip (by rw [u1]; exact hy) hv)
      · by_cases u2 : up i = p
        · rw [u2, aj] at hu
          cases hu
          exact h.2 i y v hi u2 hp hy hv
        · rw [sw_o u1 u2] at hu
          exact h.1 i u v hi ip hu hv
  · have n1 : up (up p) ≠ up p := Nat.ne_of_lt (up_lt h0)
    have n2 : up (up p) ≠ p := fun z => by
      have a := up_lt h0
      have b := up_lt hp
      omega
    rw [sw_o n1 n2] at hu
    have huy := h.1 (up p) u y h0 nq hu hy
    by_cases ip : i = p
    · subst ip
      rw [aj] at hv
      cases hv
      exact huy
    · have iq : i ≠ up p := fun z => by
        have := up_lt hi
        omega
      rw [sw_o iq ip] at hv
      exact le_trans huy (h.1 i y v hi ip (by rw [e]; exact hy) hv)
theorem Up.stop {p : Nat} (h : Up ps p) (hp : 0 < p) (hx : ps[p]? = some x) (hy : ps[up p]? = some y) (l : lt x.2 y.2 = false) : HeapL ps := fun i u v hi hu hv => by
  by_cases ip : i = p
  · subst ip
    rw [hy] at hu
    rw [hx] at hv
    cases hu
    cases hv
    exact l
  · exact h.1 i u v hi ip hu hv
theorem Up.top (h : Up ps 0) : HeapL ps := fun i u v hi hu hv => h.1 i u v hi (by omega) hu hv
/-- the least child goes up -/
theorem Dn.step {p c : Nat} (h : Dn ps p) (hc : 0 < c) (e : up c = p) (hx : ps[c]? = some x) (hy : ps[p]? = some y) (least : ∀ (i : Nat) (v : Pr), 0 < i → up i = p → ps[i]? = some v → le x.2 v.2) : Dn (swp ps c p x y) c := by
  have nq : c ≠ p := fun z => by
    have := up_lt hc
    omega
  have ai := sw_i hx hy nq
  have aj := sw_j hx hy
  refine ⟨fun i u v hi ni nu hu hv => ?_, fun i u v hi eu h0 hu hv => ?_⟩
  · by_cases ip : i = p
    · subst ip
      rw [aj] at hv
      cases hv
      have n1 : up i ≠ i := Nat.ne_of_lt (up_lt hi)
      rw [sw_o nu n1] at hu
      exact h.2 c u x hc e hi hu hx
    · rw [sw_o ni ip] at hv
      by_cases u2 : up i = p
      · rw [u2, aj] at hu
        cases hu
        exact least i v hi u2 hv
      · rw [sw_o nu u2] at hu
        exact h.1 i u v hi ip u2 hu hv
  · rw [e, aj] at hu
    cases hu
    have i1 : i ≠ c := fun z => by
      have := up_lt hi
      omega
    have i2 : i ≠ p := fun z => by
      have a := up_lt hi
      have b := up_lt hc
      omega
    rw [sw_o i1 i2] at hv
    exact h.1 i x v hi i2 (by rw [eu]; exact nq) (by rw [eu]; exact hx) hv
theorem Dn.stop {p : Nat} (h : Dn ps p) (l : ps.length / 2 ≤ p) : Up ps p := by
  refine ⟨fun i u v hi ni hu hv => h.1 i u v hi ni (fun z => ?_) hu hv, h.2⟩
  have := lt_of hv
  unfold up at z
  omega
end
end Hq

set_option maxHeartbeats 1000000
namespace Hq
open PySem PySem.Calls PyProof.Rows PySem.W
section
variable {prog : Program} {w : World} {A : Around} {E : Value → Shared → Prop} {s : Shared}
/-- a list of such tuples stands at a -/
structure At (h : Heap) (a : Addr) (ps : List Pr) : Prop where
  o : ∃ n, h.get? a = some ({ cls := .type "list", data := .seq (ps.map (·.1)).toArray n } : Obj)
  r : ∀ p ∈ ps, ∃ as, Reads h p.1 (enc p.2) as
/-- all but the object at a is kept -/
structure Kp (a : Addr) (s s' : Shared) : Prop where
  e : s' = { s with heap := s'.heap }
  k : ∀ b o, b ≠ a → s.heap.get? b = some o → s'.heap.get? b = some o
theorem Kp.refl (a : Addr) (s : Shared) : Kp a s s := ⟨rfl, fun _ _ _ h => h⟩
theorem Kp.trans {a : Addr} {s s1 s2 : Shared} (x : Kp a s s1) (y : Kp a s1 s2) : Kp a s s2 := ⟨by
  rw [y.e, x.e], fun b o n h => y.k b o n (x.k b o n h)⟩
theorem keep_read {h h' : Heap} {a : Addr} (k : ∀ b o, b ≠ a → h.get? b = some o → h'.get? b = some o) (ha : ∀ o, h.get? a = some o → o.cls = .type "list") {v : Value} {t : T3} (r : ∃ as, Reads h v (enc t) as) : ∃ as, Reads h' v (enc t) as := by
  obtain ⟨as, r⟩ := r
  have e : as = [] := by
    cases r with
    | tuple h1 h2 h3 h4 =>
      generalize (Array.toList _) = l at h4
      cases h4 with
      | cons a1 t1 => cases t1 with
        | cons a2 t2 => cases t2 with
          | cons a3 t3 =>
            cases t3
            cases a1
            cases a2
            cases a3
            rfl
  exact ⟨as, Reads.keepBut k ha _ _ _ (al t t) r (by rw [e]; simp)⟩
/-- other items -/
theorem At.put {a : Addr} {ps qs : List Pr} {f : Array Value → Array Value} (h : At s.heap a ps) (hf : f (ps.map (·.1)).toArray = (qs.map (·.1)).toArray) (hq : ∀ q ∈ qs, ∃ as, Reads s.heap q.1 (enc q.2) as) : At (s.heap.update a (Obj.mapSeq f)) a qs ∧ Kp a s { s with heap := s.heap.update a (Obj.mapSeq f) } := by
  obtain ⟨n, e⟩ := h.o
  have q := PySem.IsL.update e f
  rw [hf] at q
  have k : ∀ b o, b ≠ a → s.heap.get? b = some o → (s.heap.update a (Obj.mapSeq f)).get? b = some o := fun b o nb hb => (Heap.get?_update_other s.heap (Obj.mapSeq f) (Ne.symm nb)).trans hb
  refine ⟨⟨⟨_, q⟩, fun x hx => keep_read k (fun o ho => ?_) (hq x hx)⟩, rfl, k⟩
  rw [e] at ho
  cases ho
  rfl
theorem less_core {x y : Pr} {Q : Bool → Shared → Prop} (rx : ∃ as, Reads s.heap x.1 (enc x.2) as) (ry : ∃ as, Reads s.heap y.1 (enc y.2) as) (hu : A.units + 2 < cLine) (hq : Q (lt x.2 y.2) s) :
    wpAny (model prog w) A (holding [x.1, y.1] (richCompare .Lt x.1 y.1 >>= fun r => truthOfDropped r)) Q E s := by
  obtain ⟨as, rx⟩ := rx
  obtain ⟨bs, ry⟩ := ry
  refine wpAny_holding (wpAny_bind ?_)
  refine (show wpAny (model prog w) A (compareOp .Lt x.1 y.1) _ E s from lt_data rx ry (al _ _) (fun z => nomatch z) (by simp only [enc, PyData.depth, PyData.depthAll]; omega) ?_)
  exact wpAny_truthy_bool hq
theorem units_sift (args : Args) : (A.under (.builtin "_heapq.heapify.sift" args)).units ≤ A.units + 1 := by
  show A.units + Code.cUnits _ ≤ A.units + 1
  exact Nat.add_le_add_left (by first | decide | (simp [Code.cUnits, Code.frames, Code.isFrame]) ) _
theorem at_core {z : String} {xs : Array Value} {i : Nat} {v : Value} {Q : Value → Shared → Prop} (h : xs[i]? = some v) (hq : Q v s) : wpAny (model prog w) A (match xs[i]? with | some v => pure v | none => unsupported z) Q E s := by
  rw [h]
  exact wpAny_pure hq
/-- sift, upwards -/
theorem sift_up {a : Addr} {res : Value} {R : Result → Shared → Prop} (hu : A.units + 3 < cLine) : ∀ (m pos : Nat) (s : Shared) (ps : List Pr), pos ≤ m → At s.heap a ps → pos < ps.length → ps.length ≤ sizeLine → Up ps pos → (∀ s' qs, qs.Perm ps → HeapL qs → At s'.heap a qs → Kp a s s' → R (.ok (.ret res)) s') →
    codeAny (model prog w) A (.builtin "_heapq.heapify.sift" ⟨[.ref a, .bool false, .bool false, rawInt pos, rawInt 0, res, rawInt (-1)], []⟩) R s := by
  intro m
  induction m with
  | zero =>
    intro pos s ps hm h hl hz hU k
    obtain ⟨n, e⟩ := h.o
    have p0 : pos = 0 := by omega
    subst p0
    refine codeAny_builtin entry_sift ?_
    unfold Builtin.«_heapq.heapify.sift»
    unfold rawInt
    dsimp only
    refine wpAny_bind (wpAny_bind (wpAny_seqItems e rfl ?_))
    refine wpAny_pure ?_
    rw [if_neg (by decide), if_neg (by decide), if_pos (by decide)]
    exact wpAny_pure (k s ps (List.Perm.refl _) hU.top h (Kp.refl a s))
  | succ m ih =>
    intro pos s ps hm h hl hz hU k
    obtain ⟨n, e⟩ := h.o
    refine codeAny_builtin entry_sift ?_
    unfold Builtin.«_heapq.heapify.sift»
    unfold rawInt
    dsimp only
    refine wpAny_bind (wpAny_bind (wpAny_seqItems e rfl ?_))
    refine wpAny_pure ?_
    rw [if_neg (by decide), if_pos (c := (-1 : Int) < 0) (by decide)]
    by_cases p0 : pos = 0
    · subst p0
      rw [if_neg (by decide)]
      exact wpAny_pure (k s ps (List.Perm.refl _) hU.top h (Kp.refl a s))
    · have hp : 0 < pos := Nat.pos_of_ne_zero p0
      rw [if_pos (by simpa using hp)]
      have hq := up_lt hp
      obtain ⟨x, hx⟩ : ∃ x, ps[pos]? = some x := ⟨_, List.getElem?_eq_getElem hl⟩
      obtain ⟨y, hy⟩ : ∃ y, ps[up pos]? = some y := ⟨_, List.getElem?_eq_getElem (by omega)⟩
      have ex : (ps.map (·.1)).toArray[pos]? = some x.1 := by simp [hx]
      have ey : (ps.map (·.1)).toArray[up pos]? = some y.1 := by simp [hy]
      have rx := h.r x (List.mem_of_getElem? hx)
      have ry := h.r y (List.mem_of_getElem? hy)
      refine wpAny_bind (at_core (i := pos) ex ?_)
      refine wpAny_bind (at_core (i := up pos) ey ?_)
      rw [if_neg (by decide)]
      refine wpAny_bind (wpAny_bind (less_core rx ry (by have := units_sift (A := A) ⟨[.ref a, .bool false, .bool false, .int pos 0, .int 0 0, res, .int (-1) 0], []⟩; omega) ?_))
      refine wpAny_bind (wpAny_bind (wpAny_seqItems e rfl (wpAny_pure ?_)))
      rw [if_neg (by simp)]
      refine wpAny_pure ?_
      cases l : lt x.2 y.2 with
      | false =>
        rw [if_neg (by decide)]
        exact wpAny_pure (k s ps (List.Perm.refl _) (hU.stop hp hx hy l) h (Kp.refl a s))
      | true =>
        rw [if_pos rfl]
        have P := h.put (qs := swp ps (up pos) pos y x) (f := fun xs => (xs.setIfInBounds (up pos) x.1).setIfInBounds pos y.1) (by simp [swp, List.map_set]) fun q hq => h.r q ((sw_perm hy hx (Nat.ne_of_lt (up_lt hp))).mem_iff.mp hq)
        refine wpAny_bind (wpAny_bind (wpAny_bind (wpAny_seqItems e rfl (wpAny_pure ?_))))
        refine wpAny_bind (at_core (i := up pos) ey ?_)
        refine wpAny_bind (at_core (i := pos) ex ?_)
        refine wpAny_updateSeq e rfl ?_ (by simpa using hz) (by simp; omega)
        refine wpAny_pure ⟨Code.quiet_builtin _ (by decide +kernel), ?_⟩
        refine ih (up pos) _ (swp ps (up pos) pos y x) (by omega) P.1 (by rw [sw_len]; omega) (by rw [sw_len]; exact hz) (hU.step hp hx hy l) fun s' qs pm hh hat hk => k s' qs (pm.trans (sw_perm hy hx (Nat.ne_of_lt (up_lt hp)))) hh hat (P.2.trans hk)
/-- sift, downwards, then up -/
theorem sift_dn {a : Addr} {res : Value} {R : Result → Shared → Prop} (hu : A.units + 3 < cLine) : ∀ (m pos : Nat) (s : Shared) (ps : List Pr), ps.length ≤ m + pos → At s.heap a ps → pos < ps.length → ps.length ≤ sizeLine → Dn ps pos → (∀ s' qs, qs.Perm ps → HeapL qs → At s'.heap a qs → Kp a s s' → R (.ok (.ret res)) s') →
    codeAny (model prog w) A (.builtin "_heapq.heapify.sift" ⟨[.ref a, .bool false, .bool true, rawInt pos, rawInt 0, res, rawInt (-1)], []⟩) R s := by
  intro m
  induction m with
  | zero => intro pos s ps hm h hl; omega
  | succ m ih =>
    intro pos s ps hm h hl hz hD k
    obtain ⟨n, e⟩ := h.o
    refine codeAny_builtin entry_sift ?_
    unfold Builtin.«_heapq.heapify.sift»
    unfold rawInt
    dsimp only
    refine wpAny_bind (wpAny_bind (wpAny_seqItems e rfl (wpAny_pure ?_)))
    rw [if_pos rfl]
    by_cases hp : pos < ps.length / 2
    · rw [if_pos (by simpa using hp)]
      -- the swap with a child, and on
      have go : ∀ (c : Nat) (x : Pr), up c = pos → 0 < c → c < ps.length → ps[c]? = some x → (∀ (i : Nat) (v : Pr), 0 < i → up i = pos → ps[i]? = some v → le x.2 v.2) → ∀ (y : Pr), ps[pos]? = some y →
          At (s.heap.update a (Obj.mapSeq fun xs => (xs.setIfInBounds c y.1).setIfInBounds pos x.1)) a (swp ps c pos x y) ∧
          codeAny (model prog w) A (.builtin "_heapq.heapify.sift" ⟨[.ref a, .bool false, .bool true, rawInt c, rawInt 0, res, rawInt (-1)], []⟩) R { s with heap := s.heap.update a (Obj.mapSeq fun xs => (xs.setIfInBounds c y.1).setIfInBounds pos x.1) } := fun c x ec c0 cl hx least y hy => by
        have nq : c ≠ pos := fun z => by
          have := up_lt c0
          omega
        have P := h.put (qs := swp ps c pos x y) (f := fun xs => (xs.setIfInBounds c y.1).setIfInBounds pos x.1) (by simp [swp, List.map_set]) fun q hq => h.r q ((sw_perm hx hy nq).mem_iff.mp hq)
        have lc := up_lt c0
        exact ⟨P.1, ih c _ (swp ps c pos x y) (by rw [sw_len]; omega) P.1 (by rw [sw_len]; exact cl) (by rw [sw_len]; exact hz) (hD.step c0 ec hx hy least) fun s' qs pm hh hat hk => k s' qs (pm.trans (sw_perm hx hy nq)) hh hat (P.2.trans hk)⟩
      obtain ⟨y, hy⟩ : ∃ y, ps[pos]? = some y := ⟨_, List.getElem?_eq_getElem hl⟩
      have ey : (ps.map (·.1)).toArray[pos]? = some y.1 := by simp [hy]
      obtain ⟨l, hl1⟩ : ∃ x, ps[2 * pos + 1]? = some x := ⟨_, List.getElem?_eq_getElem (by omega)⟩
      have el : (ps.map (·.1)).toArray[2 * pos + 1]? = some l.1 := by simp [hl1]
      have kids : ∀ {i : Nat}, 0 < i → up i = pos → i = 2 * pos + 1 ∨ i = 2 * pos + 1 + 1 := fun {i} i0 u => by
        unfold up at u
        omega
      have u1 : up (2 * pos + 1) = pos := by
        unfold up
        omega
      have u2 : up (2 * pos + 1 + 1) = pos := by
        unfold up
        omega
      have quiet : ∀ args, (Code.builtin "_heapq.heapify.sift" args).quiet = true := fun args => Code.quiet_builtin _ (by decide +kernel)
      by_cases hr : 2 * pos + 1 + 1 < ps.length
      · rw [if_pos (by simpa using hr)]
        obtain ⟨r, hr1⟩ : ∃ x, ps[2 * pos + 1 + 1]? = some x := ⟨_, List.getElem?_eq_getElem hr⟩
        have er : (ps.map (·.1)).toArray[2 * pos + 1 + 1]? = some r.1 := by simp [hr1]
        refine wpAny_bind (at_core (i := 2 * pos + 1) el ?_)
        refine wpAny_bind (at_core (i := 2 * pos + 1 + 1) er ?_)
        rw [if_neg (by decide)]
        refine wpAny_bind (wpAny_bind (less_core (h.r l (List.mem_of_getElem? hl1)) (h.r r (List.mem_of_getElem? hr1)) (by have := units_sift (A := A) ⟨[.ref a, .bool false, .bool true, .int pos 0, .int 0 0, res, .int (-1) 0], []⟩; omega) ?_))
        refine wpAny_bind (wpAny_bind (wpAny_seqItems e rfl (wpAny_pure ?_)))
        rw [if_neg (by simp)]
        refine wpAny_pure ?_
        cases lr : lt l.2 r.2 with
        | false =>
          rw [if_pos (by decide)]
          have G := go (2 * pos + 1 + 1) r u2 (by omega) hr hr1 (fun i v i0 ui hv => by
            rcases kids i0 ui with z | z
            · rw [z, hl1] at hv
              cases hv
              exact lr
            · rw [z, hr1] at hv
              cases hv
              exact le_refl _) y hy
          refine wpAny_bind (wpAny_bind (wpAny_bind (wpAny_seqItems e rfl (wpAny_pure ?_))))
          refine wpAny_bind (at_core (i := 2 * pos + 1 + 1) er ?_)
          refine wpAny_bind (at_core (i := pos) ey ?_)
          refine wpAny_updateSeq e rfl ?_ (by simpa using hz) (by simp; omega)
          exact wpAny_pure ⟨quiet _, G.2⟩
        | true =>
          rw [if_neg (by decide)]
          have G := go (2 * pos + 1) l u1 (by omega) (by omega) hl1 (fun i v i0 ui hv => by
            rcases kids i0 ui with z | z
            · rw [z, hl1] at hv
              cases hv
              exact le_refl _
            · rw [z, hr1] at hv
              cases hv
              exact le_of_lt lr) y hy
          refine wpAny_bind (wpAny_bind (wpAny_bind (wpAny_seqItems e rfl (wpAny_pure ?_))))
          refine wpAny_bind (at_core (i := 2 * pos + 1) el ?_)
          refine wpAny_bind (at_core (i := pos) ey ?_)
          refine wpAny_updateSeq e rfl ?_ (by simpa using hz) (by simp; omega)
          exact wpAny_pure ⟨quiet _, G.2⟩
      · rw [if_neg (by simpa using hr)]
        have G := go (2 * pos + 1) l u1 (by omega) (by omega) hl1 (fun i v i0 ui hv => by
          rcases kids i0 ui with z | z
          · rw [z, hl1] at hv
            cases hv
            exact le_refl _
          · rw [z] at hv
            have := lt_of hv
            omega) y hy
        refine wpAny_bind (wpAny_bind (wpAny_bind (wpAny_seqItems e rfl (wpAny_pure ?_))))
        refine wpAny_bind (at_core (i := 2 * pos + 1) el ?_)
        refine wpAny_bind (at_core (i := pos) ey ?_)
        refine wpAny_updateSeq e rfl ?_ (by simpa using hz) (by simp; omega)
        exact wpAny_pure ⟨quiet _, G.2⟩
    · rw [if_neg (by simpa using hp)]
      exact wpAny_pure ⟨Code.quiet_builtin _ (by decide +kernel), sift_up hu pos pos s ps (Nat.le_refl _) h hl hz (hD.stop (by omega)) k⟩
theorem call_fn {id : String} {b : Builtin} {args : List Value} {Q : Value → Shared → Prop} (hk : builtinKind id = none) (hp : plainId id = true) (hb : entryFor table id = some b) (ha : argsOk id ⟨args, []⟩)
    (hc : wpAny (model prog w) A.in1 (b ⟨args, []⟩) (fun fin s' => match fin with
      | .done f => ∃ v, f = .ret v ∧ Q v s'
      | .again c' => c'.quiet = true ∧ codeAny (model prog w) A c' (fun r s' => ∃ v, r = .ok (.ret v) ∧ Q v s') s') E s) : wpAny (model prog w) A (call (.builtin id) args) Q E s := by
  refine wpAny_call (codeAny_call_builtin hp hb ?_)
  have hfin := wpAny_mono hc (Q' := fun fin s' => match fin with
      | .done f => (match (Except.ok f : Result) with | .ok (.ret v) => Q v s' | .ok _ => False | .error e => E e s')
      | .again c' => c'.quiet = true ∧ codeAny (model prog w) A c' (fun r s' => match r with | .ok (.ret v) => Q v s' | .ok _ => False | .error e => E e s') s')
    (fun fin s' h' => by
      cases fin with
      | done f =>
        obtain ⟨v, rfl, hv⟩ := h'
        exact hv
      | again c =>
        exact ⟨h'.1, codeAny_mono h'.2 fun r s2 ⟨v, e, hv⟩ => by
          rw [e]
          exact hv⟩) fun _ _ h' => h'
  simp only [checkBuiltinCall, hk]
  cases hsig : Manifest.signature? id with
  | none => exact wpAny_pure hfin
  | some sig =>
    have ha' : Bind.checkArgs id sig ⟨args, []⟩ = pure () := by simpa only [argsOk, hsig] using ha
    simp only [ha']
    exact wpAny_pure hfin
theorem sub_list : isSubtype (.type "list") (.type "list") = pure true := by rw [isSubtype_type]; kernel_rfl
/-- heappush -/
theorem push_ok {a : Addr} {x : Value} {t : T3} {ps : List Pr} {Q : Value → Shared → Prop} (hu : A.units + 6 < cLine) (h : At s.heap a ps) (hx : ∃ as, Reads s.heap x (enc t) as) (hH : HeapL ps) (hz : ps.length < sizeLine)
    (k : ∀ s' qs, qs.Perm ((x, t) :: ps) → HeapL qs → At s'.heap a qs → Kp a s s' → Q .none s') : wpAny (model prog w) A (call (.builtin "_heapq.heappush") [.ref a, x]) Q E s := by
  obtain ⟨n, e⟩ := h.o
  refine call_fn kind_push plain_push entry_push (args_push _ _) ?_
  unfold Builtin.«_heapq.heappush»
  refine wpAny_bind (wpAny_bind (m := noKeywords _ _) (wpAny_pure ?_))
  refine wpAny_bind (m := checkCount _ _ _ _) (wpAny_pure ?_)
  dsimp only
  refine wpAny_bind (wpAny_bind (wpAny_isInstance (T := "list") ⟨_, e, rfl⟩ sub_list ?_))
  show wpAny (model prog w) A.in1 (pure a) _ _ _
  refine wpAny_pure (wpAny_pure ?_)
  have hq : ∀ q ∈ ps ++ [(x, t)], ∃ as, Reads s.heap q.1 (enc q.2) as := fun q hq => by
    rcases List.mem_append.mp hq with z | z
    · exact h.r q z
    · rw [List.mem_singleton.mp z]
      exact hx
  have P := h.put (qs := ps ++ [(x, t)]) (f := fun xs => xs.push x) (by simp) hq
  refine wpAny_bind (wpAny_updateSeq e rfl ?_ (by simpa using Nat.le_of_lt hz) (by simp; omega))
  obtain ⟨n2, e2⟩ := P.1.o
  refine wpAny_bind (wpAny_bind (wpAny_seqItems e2 rfl (wpAny_pure ?_)))
  have lz : ((ps ++ [(x, t)]).map (·.1)).toArray.size - 1 = ps.length := by simp
  dsimp only
  rw [lz]
  refine wpAny_pure ⟨Code.quiet_builtin _ (by decide +kernel), ?_⟩
  have hU : Up (ps ++ [(x, t)]) ps.length := by
    refine ⟨fun i u v i0 ni hu hv => ?_, fun i u v i0 ui _ hu hv => ?_⟩
    · have li : i < ps.length := by
        have := lt_of hv
        simp at this
        omega
      rw [List.getElem?_append_left (by have := up_lt i0; omega)] at hu
      rw [List.getElem?_append_left li] at hv
      exact hH i u v i0 hu hv
    · have h1 := lt_of hv
      have h2 := up_lt i0
      rw [List.length_append, List.length_singleton] at h1
      omega
  refine sift_up (prog := prog) (w := w) (A := A) (a := a) (res := .none) (by omega) ps.length ps.length { s with heap := s.heap.update a (Obj.mapSeq fun xs => xs.push x) } (ps ++ [(x, t)]) (Nat.le_refl _) P.1 (by simp) (by simp; omega) hU fun s' qs pm hh hat hk => ⟨_, rfl, k s' qs (pm.trans (List.perm_append_comm (l₂ := [(x, t)]))) hh hat (P.2.trans hk)⟩
theorem root_least {ps : List Pr} {x : Pr} (h : HeapL ps) (h0 : ps[0]? = some x) : ∀ (i : Nat) (y : Pr), ps[i]? = some y → le x.2 y.2 := by
  intro i
  induction i using Nat.strongRecOn with
  | _ i ih =>
    intro y hy
    by_cases z : i = 0
    · subst z
      rw [h0] at hy
      cases hy
      exact le_refl _
    · have i0 : 0 < i := Nat.pos_of_ne_zero z
      have hu := up_lt i0
      obtain ⟨u, hu1⟩ : ∃ u, ps[up i]? = some u := ⟨_, List.getElem?_eq_getElem (by have := lt_of hy; omega)⟩
      exact le_trans (ih (up i) hu u hu1) (h i u y i0 hu1 hy)
/-- heappop: a least one, the rest -/
theorem pop_ok {a : Addr} {ps : List Pr} {Q : Value → Shared → Prop} (hu : A.units + 6 < cLine) (h : At s.heap a ps) (hH : HeapL ps) (hz : ps.length ≤ sizeLine) (h0 : ps ≠ [])
    (k : ∀ s' v t qs, (∀ q ∈ ps, le t q.2) → ((v, t) :: qs).Perm ps → HeapL qs → At s'.heap a qs → Kp a s s' → Q v s') : wpAny (model prog w) A (call (.builtin "_heapq.heappop") [.ref a]) Q E s := by
  obtain ⟨n, e⟩ := h.o
  refine call_fn kind_pop plain_pop entry_pop (args_pop _) ?_
  unfold Builtin.«_heapq.heappop»
  refine wpAny_bind (wpAny_bind (m := oneArg _ _) (wpAny_pure ?_))
  refine wpAny_bind (wpAny_bind (wpAny_isInstance (T := "list") ⟨_, e, rfl⟩ sub_list ?_))
  show wpAny (model prog w) A.in1 (pure a) _ _ _
  refine wpAny_pure (wpAny_pure ?_)
  refine wpAny_bind (wpAny_bind (wpAny_seqItems e rfl (wpAny_pure ?_)))
  cases ps with
  | nil => exact absurd rfl h0
  | cons p0 rest =>
    have least : ∀ q ∈ p0 :: rest, le p0.2 q.2 := fun q hq => by
      obtain ⟨i, hi⟩ := List.mem_iff_getElem?.mp hq
      exact root_least hH rfl i q hi
    by_cases hr : rest = []
    · subst hr
      have P := h.put (qs := []) (f := fun xs => xs.pop) (by simp) (fun q hq => absurd hq (by simp))
      show wpAny (model prog w) A.in1 (updateSeq a _ >>= _) _ _ _
      refine wpAny_bind (wpAny_updateSeq e rfl ?_ (by simpa using hz) (by simp))
      rw [if_pos (by simp)]
      exact wpAny_pure ⟨_, rfl, k _ p0.1 p0.2 [] least (List.Perm.refl _) (fun i u v _ hu _ => by simp at hu) P.1 P.2⟩
    · obtain ⟨mid, l, er⟩ : ∃ mid l, rest = mid ++ [l] := ⟨rest.dropLast, rest.getLast hr, (List.dropLast_concat_getLast hr).symm⟩
      subst er
      have eb : ((p0 :: (mid ++ [l])).map (·.1)).toArray.back? = some l.1 := by simp [Array.back?_eq_getElem?]
      rw [eb]
      have hz' : mid.length + 2 ≤ sizeLine := by simpa using hz
      have P := h.put (qs := p0 :: mid) (f := fun xs => xs.pop) (by
        rw [List.map_cons, List.map_append, ← List.cons_append]
        simp only [List.pop_toArray, List.map_cons, List.map_nil, List.dropLast_concat]) (fun q hq => h.r q (by
        rcases List.mem_cons.mp hq with z | z
        · rw [z]
          exact List.mem_cons_self
        · exact List.mem_cons_of_mem _ (List.mem_append_left _ z)))
      show wpAny (model prog w) A.in1 (updateSeq a _ >>= _) _ _ _
      refine wpAny_bind (wpAny_updateSeq e rfl ?_ (by simpa using hz) (by simp; omega))
      rw [if_neg (by simp)]
      refine wpAny_bind (at_core (z := "") (xs := ((p0 :: (mid ++ [l])).map (·.1)).toArray) (i := 0) (v := p0.1) (by simp) ?_)
      obtain ⟨n2, e2⟩ := P.1.o
      have hl : ∃ as, Reads (s.heap.update a (Obj.mapSeq fun xs => xs.pop)) l.1 (enc l.2) as := keep_read P.2.k (fun o ho => by
        rw [e] at ho
        cases ho
        rfl) (h.r l (by simp))
      have P2 := At.put (s := { s with heap := s.heap.update a (Obj.mapSeq fun xs => xs.pop) }) (qs := l :: mid) (f := fun xs => xs.setIfInBounds 0 l.1) P.1 (by simp) (fun q hq => by
        rcases List.mem_cons.mp hq with z | z
        · rw [z]
          exact hl
        · exact P.1.r q (List.mem_cons_of_mem _ z))
      refine wpAny_bind (wpAny_updateSeq e2 rfl ?_ (by simp; omega) (by simp; omega))
      refine wpAny_pure ⟨Code.quiet_builtin _ (by decide +kernel), ?_⟩
      have hD : Dn (l :: mid) 0 := by
        refine ⟨fun i u v i0 _ nu hu hv => ?_, fun i u v _ _ z => absurd z (by decide)⟩
        have go : ∀ {j : Nat} {z : Pr}, j ≠ 0 → (l :: mid)[j]? = some z → (p0 :: (mid ++ [l]))[j]? = some z := fun {j z} nj hz => by
          cases j with
          | zero => exact absurd rfl nj
          | succ j =>
            rw [List.getElem?_cons_succ] at hz ⊢
            rw [List.getElem?_append_left (List.getElem?_eq_some_iff.mp hz).1]
            exact hz
        exact hH i u v i0 (go nu hu) (go (by omega) hv)
      refine sift_dn (prog := prog) (w := w) (A := A) (a := a) (res := p0.1) (by omega) (l :: mid).length 0 { s with heap := (s.heap.update a (Obj.mapSeq fun xs => xs.pop)).update a (Obj.mapSeq fun xs => xs.setIfInBounds 0 l.1) } (l :: mid) (by simp) P2.1 (by simp) (by simp; omega) hD fun s' qs pm hh hat hk => ⟨_, rfl, k s' p0.1 p0.2 qs least (List.Perm.cons p0 (pm.trans (List.perm_append_comm (l₁ := [l]) (l₂ := mid)))) hh hat ((P.2.trans P2.2).trans hk)⟩
end
end Hq

set_option maxHeartbeats 1000000
/-! heappush and heappop as rules of the layer -/
namespace Hq
open PySem PySem.Spec PyProof.Rows L2
/-- a tuple (int, text, text) -/
def Tri (H : Hp) (v : V) (t : T3) : Prop := ∃ a, v = .ref a ∧ H a = some (.tup [.int t.1, .str t.2.1, .str t.2.2])
abbrev Pv := V × T3
def HeapV (ps : List Pv) : Prop := ∀ (i : Nat) (x y : Pv), 0 < i → ps[up i]? = some x → ps[i]? = some y → le x.2 y.2
def rPush : List V → Hp → VK → Prop := fun vs H Q => ∃ (l : Addr) (y : V) (t : T3) (ps : List Pv), vs = [V.ref l, y] ∧ H l = some (.lst (ps.map (·.1))) ∧ (∀ p ∈ ps, Tri H p.1 p.2) ∧ Tri H y t ∧ HeapV ps ∧ ps.length < 100000 ∧
  ∀ qs, qs.Perm ((y, t) :: ps) → HeapV qs → Q .non (upd H l (.lst (qs.map (·.1))))
def rPop : List V → Hp → VK → Prop := fun vs H Q => ∃ (l : Addr) (ps : List Pv), vs = [V.ref l] ∧ H l = some (.lst (ps.map (·.1))) ∧ (∀ p ∈ ps, Tri H p.1 p.2) ∧ HeapV ps ∧ ps ≠ [] ∧ ps.length < 100000 ∧
  ∀ v t qs, (∀ q ∈ ps, le t q.2) → ((v, t) :: qs).Perm ps → HeapV qs → Q v (upd H l (.lst (qs.map (·.1))))
abbrev Tr := V × Value × T3
def tv (t : Tr) : Pv := (t.1, t.2.2)
def tm (t : Tr) : Pr := (t.2.1, t.2.2)
section
variable {X : Cx} {pins : List (Addr × Obj)} {σ : L2.St} {H : Hp} {s : Shared}
theorem tri_reads (I : Inv X pins σ H s) {v : V} {u : Value} {t : T3} (h : Tri H v t) (r : RelV v u) : ∃ as, Reads s.heap u (enc t) as := by
  obtain ⟨a, rfl, ha⟩ := h
  exact Dp.reads I (enc t) (.ref a) u (.tup (Evl.st_of ha) (.cons (.int _) (.cons (.str _) (.cons (.str _) .nil)))) r
theorem trip : ∀ {ps : List Pv} {us : List Value}, Vals (ps.map (·.1)) us → ∃ ts : List Tr, ts.map tv = ps ∧ ts.map (·.2.1) = us ∧ ∀ t ∈ ts, RelV t.1 t.2.1
  | [], _, h => by
    cases h
    exact ⟨[], rfl, rfl, fun t ht => absurd ht (by simp)⟩
  | p :: ps, _, h => by
    cases h with
    | cons h1 h2 =>
      rename_i u us
      obtain ⟨ts, e1, e2, e3⟩ := trip h2
      refine ⟨(p.1, u, p.2) :: ts, by rw [List.map_cons, e1]; rfl, by rw [List.map_cons, e2], fun t ht => ?_⟩
      rcases List.mem_cons.mp ht with rfl | ht
      · exact h1
      · exact e3 t ht
theorem heap_tm {ts : List Tr} (h : HeapV (ts.map tv)) : HeapL (ts.map tm) := fun i x y i0 hx hy => by
  rw [List.getElem?_map] at hx hy
  obtain ⟨a, ha, rfl⟩ := Option.map_eq_some_iff.mp hx
  obtain ⟨b, hb, rfl⟩ := Option.map_eq_some_iff.mp hy
  exact h i (tv a) (tv b) i0 (by rw [List.getElem?_map, ha]; rfl) (by rw [List.getElem?_map, hb]; rfl)
theorem heap_tv {ts : List Tr} (h : HeapL (ts.map tm)) : HeapV (ts.map tv) := fun i x y i0 hx hy => by
  rw [List.getElem?_map] at hx hy
  obtain ⟨a, ha, rfl⟩ := Option.map_eq_some_iff.mp hx
  obtain ⟨b, hb, rfl⟩ := Option.map_eq_some_iff.mp hy
  exact h i (tm a) (tm b) i0 (by rw [List.getElem?_map, ha]; rfl) (by rw [List.getElem?_map, hb]; rfl)
theorem vals_ts : ∀ {ts : List Tr}, (∀ t ∈ ts, RelV t.1 t.2.1) → Vals ((ts.map tv).map (·.1)) ((ts.map tm).map (·.1))
  | [], _ => .nil
  | t :: ts, h => .cons (h t List.mem_cons_self) (vals_ts fun u hu => h u (List.mem_cons_of_mem _ hu))
theorem fst_tm (ts : List Tr) : (ts.map tm).map (·.1) = ts.map (·.2.1) := by
  rw [List.map_map]
  rfl
/-- the list rewritten -/
theorem inv_at {l : Addr} {ts us : List Tr} {s' : Shared} (I : Inv X pins σ H s) (hH : H l = some (.lst ((ts.map tv).map (·.1)))) (hv : ∀ t ∈ us, RelV t.1 t.2.1) (hz : us.length ≤ sizeLine) (h : At s'.heap l (us.map tm)) (k : Kp l s s') : Inv X pins σ (upd H l (.lst ((us.map tv).map (·.1)))) s' := by
  obtain ⟨n, e⟩ := h.o
  rw [k.e]
  refine I.write (x := l) (e := l) (by rw [hH]; exact trivial) (.inl rfl) k.k ⟨_, e⟩ ?_
  exact ⟨by simpa using hz, _, n, vals_ts hv, e⟩
theorem call_push {k : Nat} (hr : Room k X.A) : CallR X (.builtin "_heapq.heappush") rPush := by
  intro pins s σ H vs us Q I r h
  obtain ⟨l, y, t, ps, rfl, hH, hT, hy, hh, hz, q⟩ := h
  obtain ⟨u1, u2, rfl, r1, r2⟩ := vals2 r
  cases r1
  obtain ⟨z, its, n, rv, hl, e⟩ := I.lstM hH
  obtain ⟨ts, e1, e2, e3⟩ := trip rv
  subst e1
  have room := hr.units
  have hat : At s.heap l (ts.map tm) := ⟨⟨n, by rw [fst_tm, e2]; exact e⟩, fun p hp => by
    obtain ⟨t', ht, rfl⟩ := List.mem_map.mp hp
    exact tri_reads I (hT (tv t') (List.mem_map_of_mem ht)) (e3 t' ht)⟩
  have lz : (ts.map tm).length < sizeLine := by
    rw [List.length_map] at hz ⊢
    exact Evl.sz_lt hz
  refine push_ok (by omega) hat (tri_reads I hy r2) (heap_tm hh) lz fun s' qs pm hq hat' kp => ?_
  have pm' : qs.Perm (((y, u2, t) :: ts : List Tr).map tm) := pm
  obtain ⟨zs, pz, rfl⟩ := Lw.perm_map_inv pm'
  have rel : ∀ x ∈ zs, RelV x.1 x.2.1 := fun x hx => by
    rcases List.mem_cons.mp (pz.mem_iff.mp hx) with rfl | hx
    · exact r2
    · exact e3 x hx
  refine ⟨.non, _, inv_at I hH rel ?_ hat' kp, rfl, q (zs.map tv) (pz.map tv) (heap_tv hq)⟩
  have := pz.length_eq
  rw [List.length_cons] at this
  rw [List.length_map] at hz
  exact Evl.sz_of (by omega)
theorem call_pop {k : Nat} (hr : Room k X.A) : CallR X (.builtin "_heapq.heappop") rPop := by
  intro pins s σ H vs us Q I r h
  obtain ⟨l, ps, rfl, hH, hT, hh, h0, hz, q⟩ := h
  obtain ⟨u1, rfl, r1⟩ := vals1 r
  cases r1
  obtain ⟨z, its, n, rv, hl, e⟩ := I.lstM hH
  obtain ⟨ts, e1, e2, e3⟩ := trip rv
  subst e1
  have room := hr.units
  have hat : At s.heap l (ts.map tm) := ⟨⟨n, by rw [fst_tm, e2]; exact e⟩, fun p hp => by
    obtain ⟨t', ht, rfl⟩ := List.mem_map.mp hp
    exact tri_reads I (hT (tv t') (List.mem_map_of_mem ht)) (e3 t' ht)⟩
  have lz : (ts.map tm).length ≤ sizeLine := by
    rw [List.length_map] at hz ⊢
    exact Nat.le_of_lt (Evl.sz_lt hz)
  refine pop_ok (by omega) hat (heap_tm hh) lz (fun z => h0 (by cases ts with | nil => rfl | cons _ _ => exact nomatch z)) fun s' u t qs least pm hq hat' kp => ?_
  obtain ⟨zs, pz, ez⟩ := Lw.perm_map_inv pm
  cases zs with
  | nil => exact nomatch ez
  | cons z0 zs =>
    rw [List.map_cons] at ez
    injection ez with e4 e5
    subst e5
    have rel : ∀ x ∈ z0 :: zs, RelV x.1 x.2.1 := fun x hx => e3 x (pz.mem_iff.mp hx)
    have e6 : z0.2.1 = u ∧ z0.2.2 = t := by
      have a := congrArg Prod.fst e4
      have b := congrArg Prod.snd e4
      exact ⟨a.symm, b.symm⟩
    refine ⟨z0.1, _, inv_at I hH (fun x hx => rel x (List.mem_cons_of_mem _ hx)) ?_ hat' kp, by rw [← e6.1]; exact rel z0 List.mem_cons_self, q z0.1 t (zs.map tv) (fun p hp => ?_) ?_ (heap_tv hq)⟩
    · have := pz.length_eq
      rw [List.length_cons] at this
      rw [List.length_map] at hz
      exact Evl.sz_of (by omega)
    · obtain ⟨t', ht, rfl⟩ := List.mem_map.mp hp
      exact least (tm t') (List.mem_map_of_mem ht)
    · have := pz.map tv
      rw [List.map_cons] at this
      have e7 : tv z0 = (z0.1, t) := by
        rw [← e6.2]
        rfl
      rwa [e7] at this
end
end Hq

set_option maxHeartbeats 1000000
namespace Lw
open PySem PySem.Spec PyProof.Rows L2
/-! the data of nodes and edges -/
theorem dp_strs {K : PySem.W.Frag} {H : Hp} : ∀ ns : List Str, DpAll K H (ns.map V.str) (ns.map PyData.str)
  | [] => .nil
  | n :: ns => .cons (.str n) (dp_strs ns)
theorem dp_eg {K : PySem.W.Frag} {H : Hp} {a : Addr} {e : Eg} (h : H a = some (.tup (egV e))) : Dp K H (.ref a) (egD e) := .tup (Evl.st_of h) (.cons (.str _) (.cons (.str _) (.cons (.str _) (.cons (.int _) .nil))))
theorem dp_egs {K : PySem.W.Frag} {H : Hp} : ∀ {as : List Addr} {es : List Eg}, EgsAt H as es → DpAll K H (as.map V.ref) (es.map egD)
  | _, _, .nil => .nil
  | _, _, .cons h t => .cons (dp_eg h) (dp_egs t)
theorem nm_ok {z : Str} (h : IsNm z) : PyData.strOk z = true := by
  obtain ⟨_, _, hl⟩ := h
  unfold PyData.strOk
  rw [← Array.all_toList, List.all_eq_true]
  exact fun c hc => decide_eq_true (by have := hl c hc; omega)
def NmEg (e : Eg) : Prop := IsNm e.1 ∧ IsNm e.2.1 ∧ IsNm e.2.2.1
theorem lay_strs : ∀ {ns : List Str}, (∀ y ∈ ns, IsNm y) → PyData.canLayAll0 (ns.map PyData.str) = true ∧ PyData.depthAll (ns.map PyData.str) ≤ 1
  | [], _ => by simp [PyData.canLayAll0, PyData.depthAll]
  | n :: ns, h => by
    obtain ⟨h1, h2⟩ := lay_strs (ns := ns) fun y hy => h y (List.mem_cons_of_mem _ hy)
    simp [PyData.canLayAll0, PyData.canLay0, PyData.depthAll, PyData.depth, h1, h2, nm_ok (h n List.mem_cons_self)]
theorem lay_egs : ∀ {es : List Eg}, (∀ e ∈ es, NmEg e) → PyData.canLayAll0 (es.map egD) = true ∧ PyData.depthAll (es.map egD) ≤ 2
  | [], _ => by simp [PyData.canLayAll0, PyData.depthAll]
  | e :: es, h => by
    obtain ⟨h1, h2⟩ := lay_egs (es := es) fun y hy => h y (List.mem_cons_of_mem _ hy)
    obtain ⟨a, b, c⟩ := h e List.mem_cons_self
    simp [egD, PyData.canLayAll0, PyData.canLay0, PyData.depthAll, PyData.depth, nm_ok a, nm_ok b, nm_ok c] at h1 h2 ⊢
    exact ⟨h1, by omega⟩
theorem sh_of {d : PyData} (c : d.canLay0 = true) (h : d.depth ≤ 64) : SeqAt.shaped d = true ∧ PyData.eqv d d = true := by
  refine ⟨?_, PySem.SeqAt.eqv_refl _ c⟩
  show (d.canLay0 && decide (d.depth ≤ 64)) = true
  rw [c, Bool.true_and]
  exact decide_eq_true h
theorem sh_strs {ns : List Str} (h : ∀ y ∈ ns, IsNm y) : SeqAt.shaped (.tuple (ns.map PyData.str)) = true ∧ PyData.eqv (.tuple (ns.map PyData.str)) (.tuple (ns.map PyData.str)) = true := by
  obtain ⟨h1, h2⟩ := lay_strs h
  exact sh_of (by simpa [PyData.canLay0] using h1) (by simp only [PyData.depth]; omega)
theorem sh_egs {es : List Eg} (h : ∀ e ∈ es, NmEg e) : SeqAt.shaped (.tuple (es.map egD)) = true ∧ PyData.eqv (.tuple (es.map egD)) (.tuple (es.map egD)) = true := by
  obtain ⟨h1, h2⟩ := lay_egs h
  exact sh_of (by simpa [PyData.canLay0] using h1) (by simp only [PyData.depth]; omega)
theorem lay_lists : ∀ {gs : List (List Str)}, (∀ g ∈ gs, ∀ y ∈ g, IsNm y) → PyData.canLayAll0 (gs.map fun g => PyData.list (g.map PyData.str)) = true ∧ PyData.depthAll (gs.map fun g => PyData.list (g.map PyData.str)) ≤ 2
  | [], _ => by simp [PyData.canLayAll0, PyData.depthAll]
  | g :: gs, h => by
    obtain ⟨h1, h2⟩ := lay_lists (gs := gs) fun y hy => h y (List.mem_cons_of_mem _ hy)
    obtain ⟨h3, h4⟩ := lay_strs (h g List.mem_cons_self)
    refine ⟨by simp [PyData.canLayAll0, PyData.canLay0, h1, h3], ?_⟩
    simp only [List.map_cons, PyData.depthAll, PyData.depth]
    omega
theorem sh_listS {ns : List Str} (h : ∀ y ∈ ns, IsNm y) : SeqAt.shaped (.list (ns.map PyData.str)) = true ∧ PyData.eqv (.list (ns.map PyData.str)) (.list (ns.map PyData.str)) = true := by
  obtain ⟨h1, h2⟩ := lay_strs h
  exact sh_of (by simpa [PyData.canLay0] using h1) (by simp only [PyData.depth]; omega)
theorem sh_lists {gs : List (List Str)} (h : ∀ g ∈ gs, ∀ y ∈ g, IsNm y) : SeqAt.shaped (.list (gs.map fun g => PyData.list (g.map PyData.str))) = true := by
  obtain ⟨h1, h2⟩ := lay_lists h
  exact (sh_of (by simpa [PyData.canLay0] using h1) (by simp only [PyData.depth]; omega)).1
end Lw

set_option maxHeartbeats 1000000
/-! lists of lists of names; readings cut off from what follows them -/
namespace Lw
open PySem PySem.Spec PyProof.Rows L2
theorem hu65 {k : Nat} {A : Around} (hr : Room k A) : A.units + 65 < cLine := by
  have := hr.un
  omega
theorem q_par2Via {i j : Nat} {ta : TA} {tz : TS} {D : Ends} {σ : St} {H : Hp} (S : V → V → Hp → Prop) (h1 : ∀ Q' : List V → Hp → Prop, (∀ u v H', S u v H' → Q' [u, v] H') → ta σ H Q') (h2 : ∀ u v H', S u v H' → tz D ((σ.set i (some u)).set j (some v)) H') : tSeq (tPar i j ta) tz D σ H :=
  h1 _ fun u v H' s => ⟨u, v, rfl, h2 u v H' s⟩
theorem q_par3Via {i j l : Nat} {ta : TA} {tz : TS} {D : Ends} {σ : St} {H : Hp} (S : V → V → V → Hp → Prop) (h1 : ∀ Q' : List V → Hp → Prop, (∀ u v w H', S u v w H' → Q' [u, v, w] H') → ta σ H Q') (h2 : ∀ u v w H', S u v w H' → tz D (((σ.set i (some u)).set j (some v)).set l (some w)) H') : tSeq (tPar3 i j l ta) tz D σ H :=
  h1 _ fun u v w H' s => ⟨u, v, w, rfl, h2 u v w H' s⟩
/-- if t: u, the test of any kind, what holds behind it said once -/
theorem q_ifM {t : TT} {tu tz : TS} {D : Ends} {σ : St} {H : Hp} (S : Bool → Hp → Prop) (M : St → Hp → Prop) (h : ∀ Q' : Bool → Hp → Prop, (∀ b H', S b H' → Q' b H') → t σ H Q') (h1 : ∀ H', S true H' → ∀ D' : Ends, (∀ σ' H', M σ' H' → D'.nx σ' H') → tu D' σ H') (h2 : ∀ H', S false H' → M σ H') (k : ∀ σ' H', M σ' H' → tz D σ' H') : tSeq (tIfS t tu tNext) tz D σ H :=
  h _ fun b H' s => by
    cases b with
    | true => exact ite2 (fun _ => h1 H' s _ k) (fun z => absurd rfl z)
    | false => exact ite2 (fun z => absurd z (by decide)) (fun _ => k _ _ (h2 H' s))
theorem s_ifM {t : TT} {tu : TS} {D : Ends} {σ : St} {H : Hp} (S : Bool → Hp → Prop) (h : ∀ Q' : Bool → Hp → Prop, (∀ b H', S b H' → Q' b H') → t σ H Q') (h1 : ∀ H', S true H' → tu D σ H') (h2 : ∀ H', S false H' → D.nx σ H') : tIfS t tu tNext D σ H :=
  h _ fun b H' s => by
    cases b with
    | true => exact ite2 (fun _ => h1 H' s) (fun z => absurd rfl z)
    | false => exact ite2 (fun z => absurd z (by decide)) (fun _ => h2 H' s)
/-- t and u, of any kind -/
theorem t_andM {t u : TT} {σ : St} {H : Hp} {Q : Bool → Hp → Prop} (S : Bool → Hp → Prop) (h : ∀ Q' : Bool → Hp → Prop, (∀ b H', S b H' → Q' b H') → t σ H Q') (h1 : ∀ H', S true H' → u σ H' Q) (h2 : ∀ H', S false H' → Q false H') : tAnd t u σ H Q :=
  h _ fun b H' s => by
    cases b with
    | true => exact ite2 (fun _ => h1 H' s) (fun z => absurd rfl z)
    | false => exact ite2 (fun z => absurd z (by decide)) (fun _ => h2 H' s)
theorem pen_ne {p c x : Addr} {n : Nat} {H : Hp} {o : HO} (h : Pen p c n H) (hx : H x = some o) (k : ∀ kvs, o ≠ .dK kvs) : x ≠ p := fun z => by
  obtain ⟨_, _, _, hp, _⟩ := h
  rw [z, hp] at hx
  exact k _ (Option.some.inj hx).symm
theorem pen_neL {p c x : Addr} {n : Nat} {H : Hp} {xs : List V} (h : Pen p c n H) (hx : H x = some (.lst xs)) : x ≠ p := pen_ne h hx fun _ z => nomatch z
theorem pen_neU {p c x : Addr} {n : Nat} {H : Hp} {xs : List V} (h : Pen p c n H) (hx : H x = some (.tup xs)) : x ≠ p := pen_ne h hx fun _ z => nomatch z
/-! groups of names -/
def GAt (H : Hp) (as : List Addr) (gs : List (List Str)) : Prop := Paired (fun a (g : List Str) => H a = some (.lst (g.map V.str))) as gs
theorem GAt.len {H : Hp} {as : List Addr} {gs : List (List Str)} (h : GAt H as gs) : as.length = gs.length := Paired.length h
/-- all lists but the one at fo are kept -/
theorem GAt.keep {H H' : Hp} {fo : Addr} (k : ∀ b xs, b ≠ fo → H b = some (.lst xs) → H' b = some (.lst xs)) : ∀ {as : List Addr} {gs : List (List Str)}, GAt H as gs → (∀ x ∈ as, x ≠ fo) → GAt H' as gs
  | _, _, .nil, _ => .nil
  | a :: _, _ :: _, .cons h t, n => .cons (k _ _ (n a List.mem_cons_self) h) (GAt.keep k t fun x hx => n x (List.mem_cons_of_mem _ hx))
theorem g_pairs {H : Hp} : ∀ {as : List Addr} {gs : List (List Str)}, GAt H as gs → ∃ ps : List (Addr × List Str), ps.map (·.1) = as ∧ ps.map (·.2) = gs ∧ ∀ q ∈ ps, H q.1 = some (.lst (q.2.map V.str))
  | _, _, .nil => ⟨[], rfl, rfl, fun q hq => absurd hq (by simp)⟩
  | a :: _, g :: _, .cons h t => by
    obtain ⟨ps, h1, h2, h3⟩ := g_pairs t
    refine ⟨(a, g) :: ps, by rw [List.map_cons, h1], by rw [List.map_cons, h2], fun q hq => ?_⟩
    rcases List.mem_cons.mp hq with z | z
    · rw [z]
      exact h
    · exact h3 q z
theorem pairs_g {H : Hp} : ∀ {ps : List (Addr × List Str)}, (∀ q ∈ ps, H q.1 = some (.lst (q.2.map V.str))) → GAt H (ps.map (·.1)) (ps.map (·.2))
  | [], _ => .nil
  | q :: ps, h => .cons (h q List.mem_cons_self) (pairs_g fun r hr => h r (List.mem_cons_of_mem _ hr))
theorem perm_groups {H : Hp} {as : List Addr} {gs : List (List Str)} {ys : List V} (h : GAt H as gs) (p : ys.Perm (as.map V.ref)) : ∃ bs hs, ys = bs.map V.ref ∧ GAt H bs hs ∧ hs.Perm gs ∧ bs.Perm as := by
  obtain ⟨ps, h1, h2, h3⟩ := g_pairs h
  have e : as.map V.ref = ps.map fun q => V.ref q.1 := by
    rw [← h1, List.map_map]
    rfl
  rw [e] at p
  obtain ⟨zs, pz, rfl⟩ := perm_map_inv p
  refine ⟨zs.map (·.1), zs.map (·.2), by rw [List.map_map]; rfl, pairs_g fun q hq => h3 q (pz.mem_iff.mp hq), by rw [← h2]; exact pz.map _, by rw [← h1]; exact pz.map _⟩
abbrev Rw := List Str × Int
/-- sets of nodes with their amounts -/
def RowsAt (H : Hp) (ts : List Addr) (rows : List Rw) : Prop := Paired (fun t (r : Rw) => ∃ q, H t = some (.tup [.ref q, .int r.2]) ∧ H q = some (.lst (r.1.map V.str))) ts rows
def RowsF (fo : Addr) (H : Hp) (ts : List Addr) (rows : List Rw) : Prop := Paired (fun t (r : Rw) => ∃ q, H t = some (.tup [.ref q, .int r.2]) ∧ H q = some (.lst (r.1.map V.str)) ∧ q ≠ fo) ts rows
theorem RowsF.keep {fo : Addr} {H H' : Hp} {ts : List Addr} {rows : List Rw} (k : ∀ b xs, b ≠ fo → H b = some (.lst xs) → H' b = some (.lst xs)) (u : TK H H') (h : RowsF fo H ts rows) : RowsF fo H' ts rows :=
  paired_imp (fun t r ⟨q, h1, h2, h3⟩ => ⟨q, u _ _ h1, k _ _ h3 h2, h3⟩) h
theorem RowsF.at {fo : Addr} {H : Hp} {ts : List Addr} {rows : List Rw} (h : RowsF fo H ts rows) : RowsAt H ts rows := paired_imp (fun t r ⟨q, h1, h2, _⟩ => ⟨q, h1, h2⟩) h
theorem fl_single : ∀ ms : List Str, (ms.map fun z => [z]).flatten = ms
  | [] => rfl
  | z :: zs => by
    rw [List.map_cons, List.flatten_cons, fl_single zs]
    rfl
/-- what stands between the turns -/
structure Nst (p c fo g : Addr) (H : Hp) (n : Nat) (ns : List Str) (as : List Addr) (gs : List (List Str)) (ts : List Addr) (rows : List Rw) (H' : Hp) : Prop where
  b : But p H H'
  P : Pen p c n H'
  hg : H' g = some (.lst (as.map V.ref))
  ga : GAt H' as gs
  gf : g ≠ fo
  af : ∀ x ∈ as, x ≠ fo
  hf : H' fo = some (.lst (ts.map V.ref))
  ra : RowsF fo H' ts rows
  ff : H fo = none
  pm : gs.flatten.Perm ns
  ok : ∀ r ∈ rows, (∀ y ∈ r.1, y ∈ ns) ∧ 2 ≤ r.2 ∧ r.2 ≤ 2000 ∧ r.2 % 2 = 0
  l1 : gs.length ≤ 40
theorem Nst.but {p c fo g : Addr} {H H' H'' : Hp} {n m : Nat} {ns : List Str} {as : List Addr} {gs : List (List Str)} {ts : List Addr} {rows : List Rw} (h : Nst p c fo g H n ns as gs ts rows H') (b : But p H' H'') (P : Pen p c m H'') : Nst p c fo g H m ns as gs ts rows H'' := by
  have k : ∀ b xs, b ≠ fo → H' b = some (.lst xs) → H'' b = some (.lst xs) := fun x xs _ hx => b x _ (pen_neL h.P hx) hx
  exact ⟨h.b.trans b, P, b _ _ (pen_neL h.P h.hg) h.hg, GAt.keep k h.ga h.af, h.gf, h.af, b _ _ (pen_neL h.P h.hf) h.hf, h.ra.keep k (TK.but h.P b), h.ff, h.pm, h.ok, h.l1⟩
theorem Nst.ex {p c fo g : Addr} {H H' H'' : Hp} {n : Nat} {ns : List Str} {as : List Addr} {gs : List (List Str)} {ts : List Addr} {rows : List Rw} (h : Nst p c fo g H n ns as gs ts rows H') (e : Evl.Ex H' H'') : Nst p c fo g H n ns as gs ts rows H'' := h.but (But.of e) (h.P.ex e)
/-- other groups -/
theorem Nst.grp {p c fo g g' : Addr} {H H' : Hp} {n : Nat} {ns : List Str} {as bs : List Addr} {gs hs : List (List Str)} {ts : List Addr} {rows : List Rw} (h : Nst p c fo g H n ns as gs ts rows H') (hg : H' g' = some (.lst (bs.map V.ref))) (ga : GAt H' bs hs) (gf : g' ≠ fo) (af : ∀ x ∈ bs, x ≠ fo) (pm : hs.flatten.Perm ns) (l1 : hs.length ≤ 40) : Nst p c fo g' H n ns bs hs ts rows H' :=
  ⟨h.b, h.P, hg, ga, gf, af, h.hf, h.ra, h.ff, pm, h.ok, l1⟩
/-- one more row -/
theorem Nst.row {p c fo g t q : Addr} {H H' : Hp} {n : Nat} {ns : List Str} {as : List Addr} {gs : List (List Str)} {ts : List Addr} {rows : List Rw} {r : Rw} (h : Nst p c fo g H n ns as gs ts rows H') (hc : fo ≠ c) (ht : H' t = some (.tup [.ref q, .int r.2])) (hq : H' q = some (.lst (r.1.map V.str))) (qf : q ≠ fo)
    (k : (∀ y ∈ r.1, y ∈ ns) ∧ 2 ≤ r.2 ∧ r.2 ≤ 2000 ∧ r.2 % 2 = 0) : Nst p c fo g H n ns as gs (ts ++ [t]) (rows ++ [r]) (upd H' fo (.lst (ts.map V.ref ++ [.ref t]))) := by
  have u : TK H' (upd H' fo (.lst (ts.map V.ref ++ [.ref t]))) := TK.put (.inr ⟨_, h.hf⟩)
  have kl : ∀ b xs, b ≠ fo → H' b = some (.lst xs) → (upd H' fo (.lst (ts.map V.ref ++ [.ref t]))) b = some (.lst xs) := fun b xs n hb => by
    rw [upd_ne n]
    exact hb
  refine ⟨h.b.mut h.ff, h.P.mut ⟨pen_neL h.P h.hf, hc⟩, kl _ _ h.gf h.hg, GAt.keep kl h.ga h.af, h.gf, h.af, by rw [upd_same, List.map_append]; rfl, paired_snoc (h.ra.keep kl u) ⟨q, u _ _ ht, kl _ _ qf hq, qf⟩, h.ff, h.pm, fun r' hr => ?_, h.l1⟩
  rcases List.mem_append.mp hr with hr | hr
  · exact h.ok r' hr
  · rw [List.mem_singleton.mp hr]
    exact k
/-- for i in range(n), n drawn -/
theorem q_forRVia {ta : TA} {j : Nat} {tu tz : TS} {D : Ends} {σ : St} {H : Hp} (S : Int → Hp → Prop) (h1 : ∀ Q' : List V → Hp → Prop, (∀ n H', S n H' → Q' [.int n] H') → ta σ H Q') (hn : ∀ n H', S n H' → 0 ≤ n ∧ n ≤ 100000) (Pv : Int → Nat → St → Hp → Prop) (h0 : ∀ n H', S n H' → Pv n 0 σ H')
    (hs : ∀ (n : Int) (i : Nat) σ' H', (i : Int) < n → Pv n i σ' H' → tu { D with nx := Pv n (i + 1), ct := Pv n (i + 1), bk := tz D } (σ'.set j (some (.int (i : Int)))) H') (hd : ∀ n σ' H', Pv n n.toNat σ' H' → tz D σ' H') : tSeq (tFor (iRng1 ta) (gName j) tu) tz D σ H :=
  h1 _ fun n H1 s => by
    obtain ⟨n0, n1⟩ := hn n H1 s
    exact ⟨n, rfl, by omega, by omega, for_range (D := { D with nx := tz D }) (lo := 0) (n := n.toNat) (Pv n) (h0 n H1 s) (fun i σ' H' hi p => by
      have e0 : (0 : Int) + (i : Int) = (i : Int) := Int.zero_add _
      show tu { D with nx := Pv n (i + 1), ct := Pv n (i + 1), bk := tz D } (σ'.set j (some (.int ((0 : Int) + (i : Int))))) H'
      rw [e0]
      exact hs n i σ' H' (by omega) p) (hd n)⟩
theorem cut_fromL (xs : List V) (k : Nat) : cutV xs (some (k : Int)) none = xs.drop k := by
  unfold cutV
  rw [HT.sIx_none, HT.sIx_nat]
  rcases Nat.le_total k xs.length with h | h
  · rw [Nat.min_eq_left h]
    exact List.take_of_length_le (by rw [List.length_drop]; omega)
  · rw [Nat.min_eq_right h, Nat.sub_self, List.take_zero, List.drop_of_length_le h]
theorem cut_uptoL (xs : List V) (k : Nat) : cutV xs none (some (k : Int)) = xs.take k := by
  unfold cutV
  rw [HT.sIx_none, HT.sIx_nat, List.drop_zero, Nat.sub_zero]
  rcases Nat.le_total k xs.length with h | h
  · rw [Nat.min_eq_left h]
  · rw [Nat.min_eq_right h, List.take_length, List.take_of_length_le h]
theorem GAt.two {H : Hp} : ∀ {as : List Addr} {gs : List (List Str)}, GAt H as gs → 2 < gs.length → ∃ a0 a1 ar g0 g1 gr, as = a0 :: a1 :: ar ∧ gs = g0 :: g1 :: gr ∧ H a0 = some (.lst (g0.map V.str)) ∧ H a1 = some (.lst (g1.map V.str))
  | _, _, .nil, l => absurd l (by simp)
  | _, _, .cons _ .nil, l => absurd l (by simp)
  | a0 :: a1 :: ar, g0 :: g1 :: gr, .cons h0 (.cons h1 _), _ => ⟨a0, a1, ar, g0, g1, gr, rfl, rfl, h0, h1⟩
theorem GAt.one {H : Hp} : ∀ {as : List Addr} {gs : List (List Str)}, GAt H as gs → 1 < gs.length → ∃ a0 ar g0 gr, as = a0 :: ar ∧ gs = g0 :: gr ∧ H a0 = some (.lst (g0.map V.str))
  | _, _, .nil, l => absurd l (by simp)
  | a0 :: ar, g0 :: gr, .cons h0 _, _ => ⟨a0, ar, g0, gr, rfl, rfl, h0⟩
theorem GAt.tail2 {H : Hp} {a0 a1 : Addr} {ar : List Addr} {g0 g1 : List Str} {gr : List (List Str)} (h : GAt H (a0 :: a1 :: ar) (g0 :: g1 :: gr)) : GAt H ar gr := match h with
  | .cons _ (.cons _ t) => t
theorem paired_get {α β : Type} {R : α → β → Prop} : ∀ {as : List α} {bs : List β}, Paired R as bs → ∀ {i : Nat} {a : α}, as[i]? = some a → ∃ b, bs[i]? = some b ∧ R a b
  | _, _, .nil, i, a, h => by simp at h
  | x :: _, y :: _, .cons h t, 0, a, e => ⟨y, rfl, by
    have : x = a := Option.some.inj e
    rw [← this]
    exact h⟩
  | _ :: _, _ :: _, .cons _ t, i + 1, a, e => paired_get t (i := i) e
theorem dp_lists {K : PySem.W.Frag} {H : Hp} : ∀ {as : List Addr} {gs : List (List Str)}, GAt H as gs → DpAll K H (as.map V.ref) (gs.map fun g => PyData.list (g.map PyData.str))
  | _, _, .nil => .nil
  | _, _, .cons h t => .cons (.lst (Evl.sq_of h) (dp_strs _)) (dp_lists t)
theorem q_tup3Via {K : PySem.W.Frag} {i j l m : Nat} {ta : TA} {tz : TS} {D : Ends} {σ : St} {H : Hp} (S : V → V → V → Hp → Prop) (h1 : ∀ Q' : List V → Hp → Prop, (∀ u v w H', S u v w H' → Q' [u, v, w] H') → ta σ H Q') (hm : m = 3 := by rfl)
    (h2 : ∀ u v w H' t, S u v w H' → H' t = none → tz D (((σ.set i (some u)).set j (some v)).set l (some w)) (upd H' t (.tup [u, v, w]))) : tSeq (tAsg (tTup ta) (gTup K m (gCons (gName i) (gCons (gName j) (gCons (gName l) gNil))))) tz D σ H :=
  h1 _ fun u v w H' s => ⟨by simp [sizeLine_eq], fun t nt => ⟨t, _, rfl, .inl (.inl upd_same), hm.symm, _, _, rfl, _, _, rfl, _, _, rfl, rfl, h2 u v w H' t s nt⟩⟩
end Lw

set_option maxHeartbeats 1000000
/-! for large networks that are made around sets of nodes -/
namespace Lw
open PySem PySem.Spec PyProof.Rows L2
theorem v_andM {ta tb : TE} {σ : St} {H : Hp} {Q : VK} {b : Bool} (h : Evl.Ev ta σ H (.bl b)) (h1 : ∀ H', Evl.Ex H H' → tb σ H' Q) (h2 : ∀ H', Evl.Ex H H' → Q (.bl false) H') : tAndV ta tb σ H Q := h H (Evl.Ex.refl _) _ fun H1 e => ⟨b, rfl, by
  cases b with
  | true => exact h1 H1 e
  | false => exact h2 H1 e⟩
theorem dp_ints {K : PySem.W.Frag} {H : Hp} : ∀ l : List Int, DpAll K H (l.map V.int) (l.map PyData.int)
  | [] => .nil
  | n :: l => .cons (.int n) (dp_ints l)
theorem lay_ints : ∀ l : List Int, PyData.canLayAll0 (l.map PyData.int) = true ∧ PyData.depthAll (l.map PyData.int) ≤ 1
  | [] => by simp [PyData.canLayAll0, PyData.depthAll]
  | n :: l => by
    obtain ⟨h1, h2⟩ := lay_ints l
    simp [PyData.canLayAll0, PyData.canLay0, PyData.depthAll, PyData.depth, h1, h2]
theorem sh_ints (l : List Int) : SeqAt.shaped (.list (l.map PyData.int)) = true := by
  obtain ⟨h1, h2⟩ := lay_ints l
  exact (sh_of (by simpa [PyData.canLay0] using h1) (by simp only [PyData.depth]; omega)).1
theorem given_ints (n : Nat) (f : Nat → Bool) (m : Nat → Int) : Evl.given n f (fun i => .int (m i)) = (((List.range n).filter f).map m).map V.int := by
  unfold Evl.given
  rw [List.map_map]
  rfl
theorem flat_ints (l : List Int) : (l.map V.int).all flatV = true := by
  rw [List.all_eq_true]
  intro x hx
  obtain ⟨z, _, rfl⟩ := List.mem_map.mp hx
  rfl
theorem sum_bound : ∀ {l : List Int}, (∀ x ∈ l, 0 ≤ x ∧ x ≤ 2000) → 0 ≤ l.sum ∧ l.sum ≤ 2000 * l.length
  | [], _ => by simp
  | x :: l, h => by
    obtain ⟨h1, h2⟩ := sum_bound (l := l) fun y hy => h y (List.mem_cons_of_mem _ hy)
    obtain ⟨h3, h4⟩ := h x List.mem_cons_self
    rw [List.sum_cons, List.length_cons]
    omega
theorem rows_getD {rows : List Rw} {k : Nat} (hk : k < rows.length) : rows.getD k ([], 0) = rows[k] := by
  rw [List.getD_eq_getElem?_getD, List.getElem?_eq_getElem hk]
  rfl
theorem rows_get {H : Hp} {ts : List Addr} {rows : List Rw} (h : RowsAt H ts rows) {i : Nat} (hi : i < rows.length) : ∃ t q, ts[i]? = some t ∧ H t = some (.tup [.ref q, .int rows[i].2]) ∧ H q = some (.lst (rows[i].1.map V.str)) := by
  have lt : i < ts.length := by
    rw [Paired.length h]
    exact hi
  obtain ⟨r, h1, q, h2, h3⟩ := paired_get h (List.getElem?_eq_getElem lt)
  have e : rows[i] = r := by
    rw [List.getElem?_eq_getElem hi] at h1
    exact Option.some.inj h1
  exact ⟨_, q, List.getElem?_eq_getElem lt, by rw [e]; exact h2, by rw [e]; exact h3⟩
theorem at_ref {as : List Addr} {i : Int} {a : Addr} (h0 : 0 ≤ i) (h : as[i.toNat]? = some a) : atI (as.map V.ref) i = some (.ref a) := atI_some h0 (by rw [List.getElem?_map, h]; rfl)
theorem RowsAt.but {p c : Addr} {n : Nat} {H H' : Hp} {ts : List Addr} {rows : List Rw} (hP : Pen p c n H) (b : But p H H') (h : RowsAt H ts rows) : RowsAt H' ts rows := paired_imp (fun t r ⟨q, h1, h2⟩ => ⟨q, b _ _ (pen_neU hP h1) h1, b _ _ (pen_neL hP h2) h2⟩) h
theorem RowsAt.ex {H H' : Hp} {ts : List Addr} {rows : List Rw} (e : Evl.Ex H H') (h : RowsAt H ts rows) : RowsAt H' ts rows := paired_imp (fun t r ⟨q, h1, h2⟩ => ⟨q, e _ _ h1, e _ _ h2⟩) h
/-- what stands between the edges -/
structure Plt (p c eo nb : Addr) (H3 : Hp) (n : Nat) (ns : List Str) (as : List Addr) (es : List Eg) (en : List Str) (H' : Hp) : Prop where
  b : But p H3 H'
  P : Pen p c n H'
  he : H' eo = some (.lst (as.map V.ref))
  hes : EgsAt H' as es
  hn : H' nb = some (.lst (en.map V.str))
  fe : H3 eo = none
  fb : H3 nb = none
  d : eo ≠ nb
  ec : eo ≠ c
  bc : nb ≠ c
  em : ∀ e ∈ es, IsNm e.1 ∧ e.2.1 ∈ ns ∧ e.2.2.1 ∈ ns ∧ e.2.1 ≠ e.2.2.1 ∧ -1000000 ≤ e.2.2.2 ∧ e.2.2.2 ≤ 1000000
  nd : (es.map (·.1) ++ en).Nodup
  nn : ∀ y ∈ en, IsNm y
  fw : Few es
theorem Plt.but {p c eo nb : Addr} {H3 H' H'' : Hp} {n m : Nat} {ns : List Str} {as : List Addr} {es : List Eg} {en : List Str} (h : Plt p c eo nb H3 n ns as es en H') (b : But p H' H'') (P : Pen p c m H'') : Plt p c eo nb H3 m ns as es en H'' :=
  ⟨h.b.trans b, P, b _ _ (pen_neL h.P h.he) h.he, h.hes.tk (TK.but h.P b), b _ _ (pen_neL h.P h.hn) h.hn, h.fe, h.fb, h.d, h.ec, h.bc, h.em, h.nd, h.nn, h.fw⟩
theorem Plt.ex {p c eo nb : Addr} {H3 H' H'' : Hp} {n : Nat} {ns : List Str} {as : List Addr} {es : List Eg} {en : List Str} (h : Plt p c eo nb H3 n ns as es en H') (e : Evl.Ex H' H'') : Plt p c eo nb H3 n ns as es en H'' := h.but (But.of e) (h.P.ex e)
/-- a name is taken -/
theorem Plt.pop {p c eo nb : Addr} {H3 H' : Hp} {n : Nat} {ns : List Str} {as : List Addr} {es : List Eg} {en : List Str} {y : Str} (h : Plt p c eo nb H3 n ns as es (en ++ [y]) H') : Plt p c eo nb H3 n ns as es en (upd H' nb (.lst (en.map V.str))) ∧ IsNm y ∧ ((es.map (·.1) ++ [y]) ++ en).Nodup := by
  have nd2 : ((es.map (·.1) ++ [y]) ++ en).Nodup := by
    refine (List.Perm.nodup_iff ?_).mpr h.nd
    rw [List.append_assoc]
    exact List.Perm.append_left _ List.perm_append_comm
  refine ⟨⟨h.b.mut h.fb, h.P.mut ⟨pen_neL h.P h.hn, h.bc⟩, by rw [upd_ne h.d]; exact h.he, h.hes.tk (TK.put (.inr ⟨_, h.hn⟩)), upd_same, h.fe, h.fb, h.d, h.ec, h.bc, h.em, ?_, fun z hz => h.nn z (List.mem_append_left _ hz), h.fw⟩, h.nn y (by simp), nd2⟩
  have := h.nd
  rw [← List.append_assoc] at this
  exact (List.nodup_append.mp this).1
/-- one more edge -/
theorem Plt.app {p c eo nb t : Addr} {H3 H' : Hp} {n : Nat} {ns : List Str} {as : List Addr} {es : List Eg} {en : List Str} {e : Eg} (h : Plt p c eo nb H3 n ns as es en H') (ht : H' t = some (.tup (egV e))) (k : IsNm e.1 ∧ e.2.1 ∈ ns ∧ e.2.2.1 ∈ ns ∧ e.2.1 ≠ e.2.2.1 ∧ -1000000 ≤ e.2.2.2 ∧ e.2.2.2 ≤ 1000000)
    (nd : ((es.map (·.1) ++ [e.1]) ++ en).Nodup) (fw : Few (es ++ [e])) : Plt p c eo nb H3 n ns (as ++ [t]) (es ++ [e]) en (upd H' eo (.lst (as.map V.ref ++ [.ref t]))) := by
  have u : TK H' (upd H' eo (.lst (as.map V.ref ++ [.ref t]))) := TK.put (.inr ⟨_, h.he⟩)
  refine ⟨h.b.mut h.fe, h.P.mut ⟨pen_neL h.P h.he, h.ec⟩, by rw [upd_same, List.map_append]; rfl, paired_snoc (h.hes.tk u) (u _ _ ht), by rw [upd_ne h.d.symm]; exact h.hn, h.fe, h.fb, h.d, h.ec, h.bc, fun f hf => ?_, by rw [List.map_append]; exact nd, h.nn, fw⟩
  rcases List.mem_append.mp hf with hf | hf
  · exact h.em f hf
  · rw [List.mem_singleton.mp hf]
    exact k
theorem Few.nil : Few [] := fun ys _ k => by
  cases ys with
  | nil => exact Nat.zero_le _
  | cons y _ =>
    have := k y List.mem_cons_self
    exact absurd this (by unfold isOdd negs; simp [cnt])
theorem Few.nonneg {es : List Eg} {e : Eg} (h : Few es) (k : 0 ≤ e.2.2.2) : Few (es ++ [e]) := fun ys nd q => h ys nd fun y hy => by
  have := q y hy
  have en : negs (es ++ [e]) = negs es := by
    unfold negs
    rw [List.filter_append, List.filter_cons, if_neg (by simp; omega)]
    exact List.append_nil _
  rwa [en] at this
end Lw

set_option maxHeartbeats 1000000
/-! walks in a network by absolute lengths, and the search for the least ones -/
namespace Lj
open PySem Lw Hq
def ew (e : Eg) : Int := if e.2.2.2 < 0 then -e.2.2.2 else e.2.2.2
theorem ew_pos (e : Eg) : 0 ≤ ew e := by
  unfold ew
  split <;> omega
def oth (e : Eg) (x : Str) : Str := if e.2.1 = x then e.2.2.1 else e.2.1
def tch (e : Eg) (x : Str) : Bool := decide (e.2.1 = x) || decide (e.2.2.1 = x)
def atN (es : List Eg) (x : Str) : List Eg := es.filter fun e => tch e x
/-- the ends differ -/
def Prop2 (es : List Eg) : Prop := ∀ e ∈ es, e.2.1 ≠ e.2.2.1
theorem oth_oth {e : Eg} {x : Str} (n : e.2.1 ≠ e.2.2.1) (t : tch e x = true) : oth e (oth e x) = x ∧ tch e (oth e x) = true := by
  unfold tch oth at *
  rw [Bool.or_eq_true, decide_eq_true_iff, decide_eq_true_iff] at t
  by_cases h : e.2.1 = x
  · subst h
    rw [if_pos rfl, if_neg n]
    simp
  · rw [if_neg h]
    rcases t with t | t
    · exact absurd t h
    · rw [if_pos rfl]
      simp [t]
inductive Wk (es : List Eg) (s : Str) : Str → Int → Prop
  | nil : Wk es s s 0
  | snoc {x : Str} {d : Int} {e : Eg} : Wk es s x d → e ∈ es → tch e x = true → Wk es s (oth e x) (d + ew e)
theorem Wk.pos {es : List Eg} {s x : Str} {d : Int} (h : Wk es s x d) : 0 ≤ d := by
  induction h with
  | nil => exact Int.le_refl _
  | snoc h _ _ ih => have := ew_pos (by assumption : Eg); rename_i e _ _; have := ew_pos e; omega
theorem Wk.trans {es : List Eg} {a b c : Str} {d d' : Int} (h : Wk es a b d) (k : Wk es b c d') : Wk es a c (d + d') := by
  induction k with
  | nil => rwa [Int.add_zero]
  | snoc k he ht ih =>
    rw [← Int.add_assoc]
    exact .snoc ih he ht
theorem Wk.back {es : List Eg} (p : Prop2 es) {a b : Str} {d : Int} (h : Wk es a b d) : Wk es b a d := by
  induction h with
  | nil => exact .nil
  | snoc h he ht ih =>
    rename_i x d e
    have o := oth_oth (p e he) ht
    have one : Wk es (oth e x) x (0 + ew e) := by
      have := Wk.snoc (e := e) (Wk.nil (es := es) (s := oth e x)) he o.2
      rwa [o.1] at this
    have := one.trans ih
    rwa [Int.zero_add, Int.add_comm] at this
abbrev Tr3 := Str × Int × Str
abbrev nds (ord : List Tr3) : List Str := ord.map (·.1)
/-- how nodes are found -/
def Tree (es : List Eg) (s : Str) (ord : List Tr3) : Prop := ∀ (i : Nat) (t : Tr3), ord[i]? = some t → (i = 0 → t = ((s, (0 : Int), ("" : Str)) : Tr3)) ∧ (0 < i → ∃ (e : Eg) (j : Nat) (u : Tr3), e ∈ es ∧ j < i ∧ ord[j]? = some u ∧ tch e u.1 = true ∧ t = ((oth e u.1, u.2.1 + ew e, e.1) : Tr3))
theorem Tree.walk {es : List Eg} {s : Str} {ord : List Tr3} (h : Tree es s ord) : ∀ (i : Nat) (t : Tr3), ord[i]? = some t → Wk es s t.1 t.2.1 := by
  intro i
  induction i using Nat.strongRecOn with
  | _ i ih =>
    intro t ht
    by_cases z : i = 0
    · rw [(h i t ht).1 z]
      exact .nil
    · obtain ⟨e, j, u, he, hj, hu, tu, rfl⟩ := (h i t ht).2 (Nat.pos_of_ne_zero z)
      exact .snoc (ih j hj u hu) he tu
structure Dij (es : List Eg) (s : Str) (ord : List Tr3) (qs : List T3) (v : Str) (todo : List Eg) : Prop where
  nd : (nds ord).Nodup
  tr : Tree es s ord
  i0 : ord = [] → qs = [(((0 : Int), s, ("" : Str)) : T3)]
  qw : ord ≠ [] → ∀ q ∈ qs, ∃ u ∈ ord, ∃ e ∈ es, tch e u.1 = true ∧ q = ((u.2.1 + ew e, oth e u.1, e.1) : T3)
  i3 : ∀ u ∈ ord, ∀ e ∈ es, tch e u.1 = true → oth e u.1 ∈ nds ord ∨ ((u.2.1 + ew e, oth e u.1, e.1) : T3) ∈ qs ∨ (u.1 = v ∧ e ∈ todo)
  i4 : ∀ u ∈ ord, ∀ q ∈ qs, u.2.1 ≤ q.1
  i6 : ∀ u ∈ ord, ∀ x ∈ ord, ∀ e ∈ es, tch e u.1 = true → oth e u.1 = x.1 → x.2.1 ≤ u.2.1 + ew e
  i7 : ∀ u ∈ ord, u.1 = v → (∀ w ∈ ord, w.2.1 ≤ u.2.1) ∨ todo = []
section
variable {es : List Eg} {s v : Str} {ord : List Tr3} {qs qs' : List T3} {todo : List Eg}
theorem Dij.perm (h : Dij es s ord qs v todo) (p : qs'.Perm qs) : Dij es s ord qs' v todo :=
  ⟨h.nd, h.tr, fun z => by
    rw [h.i0 z] at p
    exact List.perm_singleton.mp p, fun z q hq => h.qw z q (p.mem_iff.mp hq), fun u hu e he t => (h.i3 u hu e he t).imp id fun z => z.imp p.mem_iff.mpr id, fun u hu q hq => h.i4 u hu q (p.mem_iff.mp hq), h.i6, h.i7⟩
theorem Dij.start (s v : Str) : Dij es s [] [(((0 : Int), s, ("" : Str)) : T3)] v [] :=
  ⟨List.nodup_nil, fun i t h => by simp at h, fun _ => rfl, fun z => absurd rfl z, fun u hu => absurd hu (by simp), fun u hu => absurd hu (by simp), fun u hu => absurd hu (by simp), fun u hu => absurd hu (by simp)⟩
/-- a node that was found before -/
theorem Dij.skip {q : T3} (h : Dij es s ord (q :: qs) v []) (m : q.2.1 ∈ nds ord) : Dij es s ord qs v [] := by
  refine ⟨h.nd, h.tr, fun z => by rw [z] at m; exact absurd m (by simp), fun z p hp => h.qw z p (List.mem_cons_of_mem _ hp), fun u hu e he t => ?_, fun u hu p hp => h.i4 u hu p (List.mem_cons_of_mem _ hp), h.i6, h.i7⟩
  rcases h.i3 u hu e he t with z | z | ⟨_, z⟩
  · exact .inl z
  · rcases List.mem_cons.mp z with y | y
    · rw [← y] at m
      exact .inl m
    · exact .inr (.inl y)
  · exact absurd z (by simp)
/-- a new node -/
theorem Dij.take {q : T3} (p2 : Prop2 es) (h : Dij es s ord (q :: qs) v []) (least : ∀ p ∈ q :: qs, q.1 ≤ p.1) (m : q.2.1 ∉ nds ord) (k : ∀ e ∈ todo, e ∈ es) (kt : ∀ e ∈ es, tch e q.2.1 = true → e ∈ todo) : Dij es s (ord ++ [(q.2.1, q.1, q.2.2)]) qs q.2.1 todo := by
  have at_ : ∀ {i : Nat} {t : Tr3}, (ord ++ [(q.2.1, q.1, q.2.2)])[i]? = some t → ord[i]? = some t ∨ (i = ord.length ∧ t = (q.2.1, q.1, q.2.2)) := fun {i t} e => by
    by_cases lt : i < ord.length
    · rw [List.getElem?_append_left lt] at e
      exact .inl e
    · rw [List.getElem?_append_right (by omega)] at e
      have l := (List.getElem?_eq_some_iff.mp e).1
      rw [List.length_singleton] at l
      have z : i = ord.length := by omega
      rw [z, Nat.sub_self] at e
      exact .inr ⟨z, (Option.some.inj e).symm⟩
  have mem : ∀ {u : Tr3}, u ∈ ord ++ [(q.2.1, q.1, q.2.2)] → u ∈ ord ∨ u = (q.2.1, q.1, q.2.2) := fun {u} hu => (List.mem_append.mp hu).imp id List.mem_singleton.mp
  have nn : nds (ord ++ [(q.2.1, q.1, q.2.2)]) = nds ord ++ [q.2.1] := by simp [nds]
  have old : ∀ u ∈ ord, u.2.1 ≤ q.1 := fun u hu => h.i4 u hu q List.mem_cons_self
  refine ⟨?_, fun i t e => ?_, fun z => absurd z (by simp), fun _ p hp => ?_, fun u hu e he t => ?_, fun u hu p hp => ?_, fun u hu x hx e he t o => ?_, fun u hu e => ?_⟩
  · rw [nn]
    exact List.nodup_append.mpr ⟨h.nd, by simp, fun a ha b hb z => by
      rw [List.mem_singleton.mp hb] at z
      exact m (z ▸ ha)⟩
  · rcases at_ e with e | ⟨rfl, rfl⟩
    · refine ⟨(h.tr i t e).1, fun i0 => ?_⟩
      obtain ⟨f, j, u, h1, h2, h3, h4, h5⟩ := (h.tr i t e).2 i0
      exact ⟨f, j, u, h1, h2, by rw [List.getElem?_append_left (List.getElem?_eq_some_iff.mp h3).1]; exact h3, h4, h5⟩
    · refine ⟨fun z => ?_, fun i0 => ?_⟩
      · have := h.i0 (List.length_eq_zero_iff.mp z)
        rw [List.cons.injEq] at this
        rw [this.1]
      · obtain ⟨u, hu, e', he', te, y⟩ := h.qw (fun z => by rw [z] at i0; exact absurd i0 (by simp)) q List.mem_cons_self
        obtain ⟨j, hj⟩ := List.mem_iff_getElem?.mp hu
        have lj := (List.getElem?_eq_some_iff.mp hj).1
        exact ⟨e', j, u, he', lj, by rw [List.getElem?_append_left lj]; exact hj, te, by rw [y]⟩
  · by_cases z : ord = []
    · have := h.i0 z
      rw [List.cons.injEq] at this
      rw [this.2] at hp
      exact absurd hp (by simp)
    · obtain ⟨u, hu, r⟩ := h.qw z p (List.mem_cons_of_mem _ hp)
      exact ⟨u, List.mem_append_left _ hu, r⟩
  · rw [nn]
    rcases mem hu with hu | rfl
    · rcases h.i3 u hu e he t with z | z | ⟨_, z⟩
      · exact .inl (List.mem_append_left _ z)
      · rcases List.mem_cons.mp z with y | y
        · left
          rw [← y]
          simp
        · exact .inr (.inl y)
      · exact absurd z (by simp)
    · exact .inr (.inr ⟨rfl, kt e he t⟩)
  · rcases mem hu with hu | rfl
    · exact h.i4 u hu p (List.mem_cons_of_mem _ hp)
    · exact least p (List.mem_cons_of_mem _ hp)
  · rcases mem hu with hu | rfl
    · rcases mem hx with hx | rfl
      · exact h.i6 u hu x hx e he t o
      · rcases h.i3 u hu e he t with z | z | ⟨_, z⟩
        · rw [o] at z
          exact absurd z m
        · exact least _ z
        · exact absurd z (by simp)
    · rcases mem hx with hx | rfl
      · have := old x hx
        have := ew_pos e
        show x.2.1 ≤ q.1 + ew e
        omega
      · have := ew_pos e
        show q.1 ≤ q.1 + ew e
        omega
  · refine .inl fun w hw => ?_
    rcases mem hw with hw | rfl
    · rcases mem hu with hu | rfl
      · exact absurd (List.mem_map_of_mem (f := (·.1)) hu) (by rw [show u.1 = q.2.1 from e]; exact m)
      · exact old w hw
    · rcases mem hu with hu | rfl
      · exact absurd (List.mem_map_of_mem (f := (·.1)) hu) (by rw [show u.1 = q.2.1 from e]; exact m)
      · exact Int.le_refl _
/-- an edge of the new node -/
theorem Dij.push {e : Eg} {u0 : Tr3} (h : Dij es s ord qs v (e :: todo)) (hu0 : u0 ∈ ord) (ev : u0.1 = v) (he : e ∈ es) (ht : tch e v = true) : Dij es s ord (((u0.2.1 + ew e, oth e v, e.1) : T3) :: qs) v todo := by
  have uniq : ∀ u ∈ ord, u.1 = v → u = u0 := fun u hu eu => by
    obtain ⟨i, hi, rfl⟩ := List.mem_iff_getElem.mp hu
    obtain ⟨j, hj, rfl⟩ := List.mem_iff_getElem.mp hu0
    have n := h.nd
    have q : i = j := (List.getElem_inj (h₀ := by simpa using hi) (h₁ := by simpa using hj) n).mp (by simp [eu, ev])
    subst q
    rfl
  have top : ∀ w ∈ ord, w.2.1 ≤ u0.2.1 := by
    rcases h.i7 u0 hu0 ev with z | z
    · exact z
    · exact absurd z (by simp)
  refine ⟨h.nd, h.tr, fun z => by rw [z] at hu0; exact absurd hu0 (by simp), fun z q hq => ?_, fun u hu f hf t => ?_, fun u hu q hq => ?_, h.i6, fun u hu eu => ?_⟩
  · rcases List.mem_cons.mp hq with rfl | hq
    · exact ⟨u0, hu0, e, he, by rw [ev]; exact ht, by rw [ev]⟩
    · exact h.qw z q hq
  · rcases h.i3 u hu f hf t with z | z | ⟨z1, z2⟩
    · exact .inl z
    · exact .inr (.inl (List.mem_cons_of_mem _ z))
    · rcases List.mem_cons.mp z2 with rfl | z2
      · have := uniq u hu z1
        subst this
        right
        left
        rw [← ev]
        exact List.mem_cons_self
      · exact .inr (.inr ⟨z1, z2⟩)
  · rcases List.mem_cons.mp hq with rfl | hq
    · have := top u hu
      have := ew_pos e
      show u.2.1 ≤ u0.2.1 + ew e
      omega
    · exact h.i4 u hu q hq
  · rw [uniq u hu eu]
    exact .inl top
/-- all has been found, and the least sums -/
theorem Dij.done (h : Dij es s ord [] v []) : (∀ x d, Wk es s x d → ∃ u ∈ ord, u.1 = x ∧ u.2.1 ≤ d) ∧ ∀ u ∈ ord, Wk es s u.1 u.2.1 := by
  have ne : ord ≠ [] := fun z => by
    have := h.i0 z
    exact nomatch this
  refine ⟨fun x d w => ?_, fun u hu => ?_⟩
  · induction w with
    | nil =>
      cases ord with
      | nil => exact absurd rfl ne
      | cons t ts =>
        have := (h.tr 0 t rfl).1 rfl
        exact ⟨t, List.mem_cons_self, by rw [this], by rw [this]; exact Int.le_refl _⟩
    | snoc w he ht ih =>
      rename_i x d e
      obtain ⟨u, hu, rfl, l⟩ := ih
      rcases h.i3 u hu e he ht with z | z | ⟨_, z⟩
      · obtain ⟨y, hy, ey⟩ := List.mem_map.mp z
        have := h.i6 u hu y hy e he ht ey.symm
        exact ⟨y, hy, ey, by omega⟩
      · exact absurd z (by simp)
      · exact absurd z (by simp)
  · obtain ⟨i, hi⟩ := List.mem_iff_getElem?.mp hu
    exact h.tr.walk i u hi
def pot : List Eg → List Str → Nat
  | [], _ => 0
  | e :: es, ns => (if e.2.1 ∈ ns then 0 else 1) + (if e.2.2.1 ∈ ns then 0 else 1) + pot es ns
theorem pot_le : ∀ (es : List Eg) (ns : List Str), pot es ns ≤ 2 * es.length
  | [], _ => Nat.le_refl _
  | e :: es, ns => by
    have := pot_le es ns
    simp only [pot, List.length_cons]
    split <;> split <;> omega
theorem pot_new : ∀ {es : List Eg} {ns : List Str} {v : Str}, Prop2 es → v ∉ ns → pot es (ns ++ [v]) + (atN es v).length = pot es ns
  | [], _, _, _, _ => rfl
  | e :: es, ns, v, p, h => by
    have ih := pot_new (es := es) (fun f hf => p f (List.mem_cons_of_mem _ hf)) h
    have n := p e List.mem_cons_self
    have one : ∀ x : Str, (if x ∈ ns ++ [v] then 0 else 1) + (if x = v then 1 else 0) = (if x ∈ ns then 0 else 1) := fun x => by
      by_cases q : x = v
      · subst q
        simp [h]
      · simp [q]
    have a := one e.2.1
    have b := one e.2.2.1
    unfold atN at ih ⊢
    rw [List.filter_cons]
    simp only [pot]
    by_cases q : e.2.1 = v
    · have t : tch e v = true := by simp [tch, q]
      have q2 : e.2.2.1 ≠ v := fun z => n (q.trans z.symm)
      rw [if_pos t, List.length_cons]
      rw [if_pos q] at a
      rw [if_neg q2] at b
      omega
    · rw [if_neg q] at a
      by_cases q2 : e.2.2.1 = v
      · have t : tch e v = true := by simp [tch, q2]
        rw [if_pos t, List.length_cons]
        rw [if_pos q2] at b
        omega
      · have t : ¬ tch e v = true := by simp [tch, q, q2]
        rw [if_neg t]
        rw [if_neg q2] at b
        omega
end
end Lj

set_option maxHeartbeats 1000000
/-! {k: v}, the key a tuple -/
namespace Lw
open PySem PySem.Spec PyProof.Rows L2
def tDispT1 (tk tv : TE) : TE := fun σ H Q => ∀ p, H p = none → tk σ (upd H p (.dT [])) fun x H1 => tv σ H1 fun y H2 => H2 p = some (.dT []) ∧ ∃ (b : Addr) (k : List Key), x = .ref b ∧ H2 b = some (.tup (k.map kV)) ∧ Q (.ref p) (upd H2 p (.dT [(k, y)]))
theorem pe_dispT1 {X : Cx} {pos : Pos} {ek ev : Expr} {tk tv : TE} (hu : X.A.units + 1 < cLine) (hk : PE X ek tk) (hv : PE X ev tv) : PE X (.Dict [some ek] [ev] pos) (tDispT1 tk tv) := by
  refine ⟨fun pins s σ H Q I q => ?_⟩
  have hn := I.hok.fresh (Nat.le_refl s.heap.objs.size)
  have I1 := I.laid (a := s.heap.objs.size) (o := .dT []) (h' := s.heap.push { cls := .type "dict", data := .dict #[] }) (t' := s.toks) (fun _ _ q => Heap.get?_push_of_some _ q) (Nat.le_refl _) (dt_empty s.heap I.big)
  have hsh := zip_pairTrees [some ek] [ev] X.env pos (by rfl) (by rfl)
  have hlen := pairTrees_length [some ek] [ev] X.env pos (by rfl) (by rfl)
  have h0 : pairTrees [some ek] [ev] X.env pos ≠ [] := fun z => by
    rw [z] at hlen
    exact nomatch hlen
  rw [arm_eval_Dict, hsh, dictDisplay_pairs _ h0 (by rw [hlen]; exact Nat.le_of_ble_eq_true rfl)]
  refine wpAny_bind (wpAny_standAt (wpAny_bind (wpAny_subDictH (knd := tupleKind (mixKind X.prog X.w)) (Q := fun d s' => wpAny (model X.prog X.w) X.A (pure (Value.ref d)) (EP X pins σ Q) X.xe s') (by show _ < _; omega) (by rw [hlen]; exact Nat.le_of_ble_eq_true rfl) ?_)))
  refine pairTrees_cons_walk (thn (hk.run pins _ σ _ _ I1 (q _ hn)) fun u s1 ⟨x, H1, I2, rx, q1⟩ => thn (hv.run pins s1 σ H1 _ I2 q1) fun w2 s2 ⟨y, H2, I3, ry, e, b, k, ex, eb, q2⟩ => pairTrees_nil_walk ?_)
  subst ex
  cases (show u = Value.ref b from rx)
  obtain ⟨z, hd, xs, rel, dd⟩ := dt_of I3.hok e
  cases rel
  refine ⟨[(k, b, w2)], ⟨rfl, rfl, key_of I3.hok eb, trivial⟩, dd, fun h' tk dd' hs => wpAny_pure ?_⟩
  obtain ⟨o, es, ep, ho, h2, h3, h4, _, h5⟩ := dd'
  refine ⟨.ref s.heap.objs.size, _, d_write (ob := .dT [(k, y)]) I3 (by rw [e]; exact True.intro) hs ⟨o, ho⟩ ⟨Evl.sz_of (by show 1 ≤ 100000; decide), hd, [(k, b, w2)], .cons ⟨rfl, ?_, ry⟩ .nil, o, es, ep, ho, h2, h3, h4, h5⟩, rfl, q2⟩
  rw [upd_ne (ne_of eb e (fun z => nomatch z))]
  exact eb
end Lw

set_option maxHeartbeats 2000000
namespace Lj
open PySem PySem.Spec PyProof.Rows L2 Lw Hq
open Evl (EvL EvA EvT RC)
abbrev nm_other_end : List Str := ["edge", "node"]
theorem sc_other_end : FnScope nm_other_end ["edge", "node"] (defScope (top 14)) := ⟨rfl, rfl, rfl, by decide +kernel, rfl, by decide +kernel, by decide +kernel⟩
abbrev nm_edges_by_node : List Str := ["edges", "found", "edge", "node"]
theorem sc_edges_by_node : FnScope nm_edges_by_node ["edges"] (defScope (top 17)) := ⟨rfl, rfl, rfl, by decide +kernel, rfl, by decide +kernel, by decide +kernel⟩
abbrev nm_routes_from : List Str := ["steps", "start", "far", "last", "queue", "total", "node", "name", "edge"]
theorem sc_routes_from : FnScope nm_routes_from ["steps", "start"] (defScope (top 43)) := ⟨rfl, rfl, rfl, by decide +kernel, rfl, by decide +kernel, by decide +kernel⟩
section
variable {P : Program} {w : World} {K : PySem.W.Frag} {mg : Str → Option Value} {base : Heap}
def spOther : Sp := fun vs H Q _ => ∃ (a : Addr) (e : Eg) (x : Str), vs = [V.ref a, .str x] ∧ H a = some (.tup (egV e)) ∧ ∀ H', Evl.Ex H H' → Q (.str (oth e x)) H'
theorem ok_other {f : Addr} {fd : FuncData} {k : Nat} (F : Fun K "other_end" "other_end" (top 14) f fd) (T : Bs mg bl) : FnOk P w K mg base CX0 (k + 1) f fd ["edge", "node"] spOther := by
  refine F.ok sc_other_end (fun vs H Q E h => ?_) (fun cdv A outer s H vs Q E hr h => ?_)
  · obtain ⟨a, e, x, rfl, _⟩ := h
    rfl
  · obtain ⟨a, e, x, rfl, ha, q⟩ := h
    refine ⟨_, (pss_one (ps_ret (pe_ifExp (pt_cmpR op_eq (pe_ix ix_tup (pv 0) pe_int (fun _ _ => rfl)) (pv 1) (nomark _)) (pe_ix ix_tup (pv 0) pe_int (fun _ _ => rfl)) (pe_ix ix_tup (pv 0) pe_int (fun _ _ => rfl))))), ?_⟩
    have ix : ∀ (i : Nat) (v : V), (egV e)[i]? = some v → Evl.Ev (tOp (rIxT K) (tVar 0) (tC (.int i))) [some (.ref a), some (.str x)] H v := fun i v hv =>
      Evl.ev_op (Evl.ev_var rfl) Evl.ev_c (Evl.rv_ixT (Evl.st_of ha) (atI_some (Int.natCast_nonneg i) (by rw [Int.toNat_natCast]; exact hv)))
    refine Evl.s_ret (Evl.ev_if (b := decide (e.2.1 = x)) (Evl.et_is (Evl.et_test (Evl.ev_op (ix 1 _ rfl) (Evl.ev_var rfl) (Evl.rv_eq rfl))) (by simp)) (v := .str (oth e x)) (fun hb => ?_) (fun hb => ?_)) fun H1 e1 => q H1 e1
    · have : oth e x = e.2.2.1 := by
        unfold oth
        rw [if_pos (of_decide_eq_true hb)]
      rw [this]
      exact ix 2 _ rfl
    · have : oth e x = e.2.1 := by
        unfold oth
        rw [if_neg (of_decide_eq_false hb)]
      rw [this]
      exact ix 1 _ rfl
/-- lists of edges by name, new ones -/
def Bk (H0 H' : Hp) (d : Addr) (kvs : List (Key × V)) (g : Str → List Eg) : Prop :=
  (∀ z : Str, (valV kvs (Sum.inr z) = none ∧ g z = []) ∨ ∃ l bs, valV kvs (Sum.inr z) = some (.ref l) ∧ H0 l = none ∧ l ≠ d ∧ H' l = some (.lst (bs.map V.ref)) ∧ EgsAt H' bs (g z)) ∧ ∀ (y z : Str) l, valV kvs (Sum.inr y) = some (.ref l) → valV kvs (Sum.inr z) = some (.ref l) → y = z
theorem Bk.ex {H0 H H' : Hp} {d : Addr} {kvs : List (Key × V)} {g : Str → List Eg} (e : Evl.Ex H H') (h : Bk H0 H d kvs g) : Bk H0 H' d kvs g := ⟨fun z => (h.1 z).imp id fun ⟨l, bs, h1, h2, h3, h4, h5⟩ => ⟨l, bs, h1, h2, h3, e _ _ h4, h5.tk (TK.ex e)⟩, h.2⟩
/-- a name that is new -/
theorem Bk.name {H0 H : Hp} {d l : Addr} {kvs : List (Key × V)} {g : Str → List Eg} {z : Str} (h : Bk H0 H d kvs g) (hz : valV kvs (Sum.inr z) = none) (hd : H d = some (.dK kvs)) (e0 : Evl.Ex H0 H) (nl : H l = none) : Bk H0 (upd (upd H l (.lst [])) d (.dK (putK kvs (Sum.inr z) (.ref l)))) d (putK kvs (Sum.inr z) (.ref l)) g := by
  have ld : l ≠ d := apart hd nl
  have keep : ∀ {a : Addr} {o : HO}, H a = some o → a ≠ d → (upd (upd H l (.lst [])) d (.dK (putK kvs (Sum.inr z) (.ref l)))) a = some o := fun {a o} ha n => by
    rw [upd_ne n, upd_ne (ne_of_none ha nl)]
    exact ha
  have tk : TK H (upd (upd H l (.lst [])) d (.dK (putK kvs (Sum.inr z) (.ref l)))) := fun a xs ha => keep ha fun q => by
    rw [q, hd] at ha
    exact nomatch ha
  have old : ∀ {y : Str} {m : Addr}, valV kvs (Sum.inr y) = some (.ref m) → m ≠ l := fun {y m} hy q => by
    rcases h.1 y with ⟨h1, _⟩ | ⟨m', bs, h1, _, _, h4, _⟩
    · rw [h1] at hy
      exact nomatch hy
    · rw [h1] at hy
      cases hy
      rw [q, nl] at h4
      exact nomatch h4
  refine ⟨fun y => ?_, fun y y' m hy hy' => ?_⟩
  · rw [valV_put]
    by_cases e : z = y
    · subst e
      right
      refine ⟨l, [], by rw [if_pos rfl], Evl.fresh_back e0 nl, ld, ?_, ?_⟩
      · rw [upd_ne ld, upd_same]
        rfl
      · rcases h.1 z with ⟨_, h2⟩ | ⟨m, bs, h1, _⟩
        · rw [h2]
          exact .nil
        · rw [hz] at h1
          exact nomatch h1
    · have en : ¬ ((Sum.inr y : Key) = Sum.inr z) := fun q => e (Sum.inr.inj q).symm
      rw [if_neg en]
      refine (h.1 y).imp id fun ⟨m, bs, h1, h2, h3, h4, h5⟩ => ⟨m, bs, h1, h2, h3, keep h4 h3, h5.tk tk⟩
  · rw [valV_put] at hy hy'
    by_cases e : (Sum.inr y : Key) = Sum.inr z
    · rw [if_pos e] at hy
      by_cases e' : (Sum.inr y' : Key) = Sum.inr z
      · exact Sum.inr.inj (e.trans e'.symm)
      · rw [if_neg e'] at hy'
        cases hy
        exact absurd rfl (old hy')
    · rw [if_neg e] at hy
      by_cases e' : (Sum.inr y' : Key) = Sum.inr z
      · rw [if_pos e'] at hy'
        cases hy'
        exact absurd rfl (old hy)
      · rw [if_neg e'] at hy'
        exact h.2 y y' m hy hy'
/-- an edge more -/
theorem Bk.add {H0 H : Hp} {d l a : Addr} {kvs : List (Key × V)} {g g' : Str → List Eg} {z : Str} {bs : List Addr} {e : Eg} (h : Bk H0 H d kvs g) (hz : valV kvs (Sum.inr z) = some (.ref l)) (hl : H l = some (.lst (bs.map V.ref))) (hb : EgsAt H bs (g z)) (ha : H a = some (.tup (egV e))) (g1 : g' z = g z ++ [e]) (g2 : ∀ y, y ≠ z → g' y = g y) :
    Bk H0 (upd H l (.lst (bs.map V.ref ++ [.ref a]))) d kvs g' := by
  have tk : TK H (upd H l (.lst (bs.map V.ref ++ [.ref a]))) := TK.put (.inr ⟨_, hl⟩)
  refine ⟨fun y => ?_, h.2⟩
  by_cases q : y = z
  · subst q
    right
    rcases h.1 y with ⟨h1, _⟩ | ⟨m, cs, h1, h2, h3, h4, h5⟩
    · rw [hz] at h1
      exact nomatch h1
    · rw [hz] at h1
      cases h1
      refine ⟨l, bs ++ [a], hz, h2, h3, by rw [upd_same, List.map_append]; rfl, ?_⟩
      rw [g1]
      exact paired_snoc (hb.tk tk) (tk _ _ ha)
  · rw [g2 y q]
    refine (h.1 y).imp id fun ⟨m, cs, h1, h2, h3, h4, h5⟩ => ⟨m, cs, h1, h2, h3, ?_, h5.tk tk⟩
    rw [upd_ne (fun w => q (h.2 y z l (by rw [← w]; exact h1) hz))]
    exact h4
/-- edges by node -/
def StepsAt (H : Hp) (d : Addr) (es : List Eg) : Prop := ∃ kvs, H d = some (.dK kvs) ∧ ∀ z : Str, (valV kvs (Sum.inr z) = none ∧ atN es z = []) ∨ ∃ l bs, valV kvs (Sum.inr z) = some (.ref l) ∧ H l = some (.lst (bs.map V.ref)) ∧ EgsAt H bs (atN es z)
theorem StepsAt.ex {H H' : Hp} {d : Addr} {es : List Eg} (e : Evl.Ex H H') (h : StepsAt H d es) : StepsAt H' d es := by
  obtain ⟨kvs, h1, h2⟩ := h
  exact ⟨kvs, e _ _ h1, fun z => (h2 z).imp id fun ⟨l, bs, h3, h4, h5⟩ => ⟨l, bs, h3, e _ _ h4, h5.tk (TK.ex e)⟩⟩
def spByNode : Sp := fun vs H Q _ => ∃ (b : Addr) (as : List Addr) (es : List Eg), vs = [V.ref b] ∧ (H b = some (.lst (as.map V.ref)) ∨ H b = some (.tup (as.map V.ref))) ∧ EgsAt H as es ∧ es.length ≤ 1000 ∧ Prop2 es ∧ ∀ d H', Evl.Ex H H' → H d = none → StepsAt H' d es → Q (.ref d) H'
theorem ok_bynode {f : Addr} {fd : FuncData} {k : Nat} (F : Fun K "edges_by_node" "edges_by_node" (top 17) f fd) (T : Bs mg bl) : FnOk P w K mg base CX0 (k + 1) f fd ["edges"] spByNode := by
  refine F.ok sc_edges_by_node (fun vs H Q E h => ?_) (fun cdv A outer s H vs Q E hr h => ?_)
  · obtain ⟨b, as, es, rfl, _⟩ := h
    rfl
  · obtain ⟨b, as, es, rfl, hb, he, l0, p2, q⟩ := h
    refine ⟨_, (pss_cons (ps_set (i := 1) sc_edges_by_node.nd rfl (Or.inl rfl) pe_dnewK)
      (pss_cons (ps_for PassesOwn.never rfl (pi_or (pi_list (pv 0)) (pi_tup (pv 0))) (pg_name (i := 2) sc_edges_by_node.nd rfl (Or.inl rfl)) (pss_one (ps_for PassesOwn.never rfl (pi_tup (pe_slice sl_tupA (pv 2) (po_some pe_int) (po_some pe_int))) (pg_name (i := 3) sc_edges_by_node.nd rfl (Or.inl rfl)) (pss_cons (ps_if (pt_cmp (pc_dnotin (hu_of hr) (pv 3) (pv 1))) (pss_one (ps_dput (hu_of hr) (pv 1) (pv 3) (pe_lst pa_nil) rfl)) pss_nil)
      (pss_one (ps_expr (pe_bm PySem.F.plainAttrs_list PySem.F.slot_list_append PySem.F.type_list_append mt_append (pe_dget (hu_of hr) (pv 1) (pv 3) (fun _ _ => rfl)) (pa_cons (pv 2) pa_nil))))))))
      (pss_one (ps_ret (pv 1))))), ?_⟩
    refine fun d nd => ?_
    refine g_name ?_
    dsimp only
    refine q_forSeq (xs := as.map V.ref) (Evl.Ex.new nd) (Evl.ev_var rfl) hb (fun i σ' H' => ∃ x2 x3 kvs, σ' = [some (.ref b), some (.ref d), x2, x3] ∧ Evl.Ex H H' ∧ H' d = some (.dK kvs) ∧ kvs.length ≤ 2 * i ∧ Bk H H' d kvs fun z => atN (es.take i) z) (fun H1 e1 => ⟨none, none, [], rfl, (Evl.Ex.new nd).trans e1, e1 _ _ upd_same, by simp, fun z => .inl ⟨rfl, rfl⟩, fun _ _ _ z => nomatch z⟩)
      (fun i σ' H' ⟨_, _, _, _, e, _⟩ => e) (fun i x σ' H' hx z => ?_) (fun σ' H' z => ?_)
    · obtain ⟨x2, x3, kvs, rfl, eH, hd, lk, bk⟩ := z
      rw [List.getElem?_map] at hx
      obtain ⟨a', ha', rfl⟩ := Option.map_eq_some_iff.mp hx
      obtain ⟨e, hei, hae⟩ := egs_get he ha'
      have li : i < es.length := (List.getElem?_eq_some_iff.mp hei).1
      have tk : es.take (i + 1) = es.take i ++ [e] := by
        rw [List.take_add_one, hei]
        rfl
      have nuv := p2 e (List.mem_of_getElem? hei)
      have hae0 : H a' = some (.tup (egV e)) := hae
      let g : Nat → Str → List Eg := fun j z => atN (es.take i) z ++ (match j with
        | 0 => []
        | 1 => if z = e.2.1 then [e] else []
        | _ => if tch e z = true then [e] else [])
      have lgg : ∀ (j : Nat) (z : Str), (g j z).length ≤ 2000 := fun j z => by
        have a1 : (atN (es.take i) z).length ≤ es.length := Nat.le_trans (List.length_filter_le _ _) (by rw [List.length_take]; omega)
        show (atN (es.take i) z ++ _).length ≤ 2000
        rw [List.length_append]
        match j with
        | 0 => exact Nat.le_trans (Nat.add_le_add a1 (Nat.le_refl 0)) (by omega)
        | 1 =>
          have : (if z = e.2.1 then [e] else [] : List Eg).length ≤ 1 := by split <;> simp
          exact Nat.le_trans (Nat.add_le_add a1 this) (by omega)
        | j + 2 =>
          have : (if tch e z = true then [e] else [] : List Eg).length ≤ 1 := by split <;> simp
          exact Nat.le_trans (Nat.add_le_add a1 this) (by omega)
      refine s_forTupVia (fun p H2 => H' p = none ∧ H2 = upd H' p (.tup [V.str e.2.1, V.str e.2.2.1])) [V.str e.2.1, V.str e.2.2.1] (fun Q' hQ' => ⟨.ref a', rfl, 1, rfl, 3, rfl, a', egV e, rfl, .inl (.inl (eH _ _ hae)), fun z => absurd z.1 (by show ¬ HT.sIx 4 0 (some 1) = 0; decide), fun _ p np => hQ' p _ ⟨np, rfl⟩⟩)
        (fun p j σ2 H2 => ∃ x3 kvs, σ2 = [some (.ref b), some (.ref d), some (.ref a'), x3] ∧ Evl.Ex H H2 ∧ H2 d = some (.dK kvs) ∧ kvs.length ≤ 2 * i + j ∧ p ≠ d ∧ H2 p = some (.tup [V.str e.2.1, V.str e.2.2.1]) ∧ Bk H H2 d kvs (g j))
        (fun p H2 ⟨np, e2⟩ => ⟨x3, kvs, rfl, by rw [e2]; exact eH.trans (Evl.Ex.new np), by rw [e2]; exact Evl.Ex.new np _ _ hd, lk, apart hd np, by rw [e2]; exact upd_same, by
          rw [e2]
          have := bk.ex (Evl.Ex.new (o := .tup [V.str e.2.1, V.str e.2.2.1]) np)
          refine ⟨fun z => ?_, this.2⟩
          have := this.1 z
          simpa [g] using this⟩) (fun _ _ _ _ ⟨_, _, _, _, _, _, _, h, _⟩ => .inl (.inl h)) (fun p j x σ2 H2 hx z => ?_) (fun p σ2 H2 z => ?_)
      · obtain ⟨x3, kvs, rfl, eH2, hd2, lk2, pd, hp2, bk2⟩ := z
        obtain ⟨z, rfl, g1, g2, lj⟩ : ∃ z, x = V.str z ∧ g (j + 1) z = g j z ++ [e] ∧ (∀ y, y ≠ z → g (j + 1) y = g j y) ∧ j < 2 := by
          match j, hx with
          | 0, hx => exact ⟨e.2.1, (Option.some.inj hx).symm, by simp [g], fun y hy => by simp [g, hy], by decide⟩
          | 1, hx => exact ⟨e.2.2.1, (Option.some.inj hx).symm, by simp [g, tch, nuv.symm], fun y hy => by
              by_cases q1 : y = e.2.1
              · subst q1
                simp [g, tch]
              · simp [g, tch, q1, Ne.symm q1, Ne.symm hy], by decide⟩
          | j + 2, hx => exact absurd hx (by simp)
        have ha2 : H2 a' = some (.tup (egV e)) := eH2 _ _ hae
        have small : kvs.length < sizeLine := Evl.sz_lt (by omega)
        have fin : ∀ (H3 : Hp) (kvs3 : List (Key × V)) (l : Addr) (bs : List Addr) (D : Ends), H3 d = some (.dK kvs3) → Bk H H3 d kvs3 (g j) → valV kvs3 (Sum.inr z) = some (.ref l) → H3 l = some (.lst (bs.map V.ref)) → EgsAt H3 bs (g j z) → bs.length ≤ 2000 → Evl.Ex H H3 → H3 p = some (.tup [V.str e.2.1, V.str e.2.2.1]) → kvs3.length ≤ 2 * i + (j + 1) → l ≠ d →
            (∀ σ2 H2, (∃ x3 kvs, σ2 = [some (V.ref b), some (V.ref d), some (V.ref a'), x3] ∧ Evl.Ex H H2 ∧ H2 d = some (.dK kvs) ∧ kvs.length ≤ 2 * i + (j + 1) ∧ p ≠ d ∧ H2 p = some (.tup [V.str e.2.1, V.str e.2.2.1]) ∧ Bk H H2 d kvs (g (j + 1))) → D.nx σ2 H2) →
            tDrop (tBM K "list" rAppend (tDGet (tVar 1) (tVar 3)) (tCons (tVar 2) tNil)) D [some (V.ref b), some (V.ref d), some (V.ref a'), some (V.str z)] H3 := fun H3 kvs3 l bs D h3 bk3 hv hl hb lb e3 hp3 lk3 ld k => by
          refine ⟨.ref d, rfl, .str z, rfl, d, .ref l, rfl, .inl ⟨kvs3, Sum.inr z, .inl h3, rfl, hv.symm⟩, .inl ⟨rfl, _, Evl.sq_of hl⟩, .ref a', rfl, l, _, _, rfl, rfl, hl, Evl.sz_lt (by rw [List.length_map]; omega), ?_⟩
          refine k _ _ ⟨some (.str z), kvs3, rfl, e3.mut ?_, by rw [upd_ne ld.symm]; exact h3, lk3, pd, ?_, bk3.add hv hl hb (e3 _ _ hae0) g1 g2⟩
          · rcases bk3.1 z with ⟨h1, _⟩ | ⟨m, cs, h1, h2, _⟩
            · rw [hv] at h1
              exact nomatch h1
            · rw [hv] at h1
              cases h1
              exact h2
          · rw [upd_ne (fun w => by rw [w, hl] at hp3; exact nomatch hp3)]
            exact hp3
        have lg := lgg j z
        refine g_name ?_
        refine ⟨.str z, rfl, .ref d, rfl, d, _, rfl, .inl ⟨kvs, Sum.inr z, .inl hd2, rfl, rfl⟩, _, rfl, ?_⟩
        rcases bk2.1 z with ⟨h1, h2⟩ | ⟨l, bs, h1, h2, h3, h4, h5⟩
        · rw [h1]
          refine ite2 (fun _ => ?_) (fun z => absurd rfl z)
          refine ⟨Nat.zero_le _, fun l nl => ⟨.ref d, rfl, .str z, rfl, d, _, rfl, DPut.k (k := Sum.inr z) (by rw [upd_ne (apart hd2 nl).symm]; exact hd2) small, ?_⟩⟩
          have nb := bk2.name h1 hd2 eH2 nl
          have ld : l ≠ d := apart hd2 nl
          refine fin _ _ l [] _ upd_same nb (by rw [valV_put, if_pos rfl]) (by rw [upd_ne ld, upd_same]; rfl) (by rw [h2]; exact .nil) (by simp) (fun a o ha => ?_) ?_ ?_ ld (fun _ _ z => z)
          · rw [upd_ne (fun w => by rw [w, nd] at ha; exact nomatch ha), upd_ne (fun w => by rw [w, Evl.fresh_back eH2 nl] at ha; exact nomatch ha)]
            exact eH2 _ _ ha
          · rw [upd_ne pd, upd_ne (ne_of_none hp2 nl)]
            exact hp2
          · have := length_putK kvs (Sum.inr z) (V.ref l)
            omega
        · rw [h1]
          refine ite2 (fun z => nomatch z) (fun _ => ?_)
          exact fin H2 kvs l bs _ hd2 bk2 h1 h4 h5 (by rw [h5.len]; exact lg) eH2 hp2 (by omega) h3 (fun _ _ z => z)
      · obtain ⟨x3, kvs, rfl, eH2, hd2, lk2, pd, hp2, bk2⟩ := z
        refine ⟨_, _, kvs, rfl, eH2, hd2, by simp at lk2; omega, fun z => ?_, bk2.2⟩
        have : g 2 z = atN (es.take (i + 1)) z := by
          rw [tk]
          simp only [g, atN, List.filter_append, List.filter_cons, List.filter_nil]
        show (_ ∧ atN (es.take (i + 1)) z = []) ∨ ∃ l bs, _ ∧ _ ∧ _ ∧ _ ∧ EgsAt H2 bs (atN (es.take (i + 1)) z)
        rw [← this]
        exact bk2.1 z
    · obtain ⟨x2, x3, kvs, rfl, eH, hd, lk, bk⟩ := z
      refine Evl.s_ret (v := .ref d) (Evl.ev_var rfl) fun H1 e1 => q d H1 (eH.trans e1) nd ⟨kvs, e1 _ _ hd, fun z => ?_⟩
      have he2 : es.take (as.map V.ref).length = es := by
        rw [List.length_map, he.len, List.take_length]
      have := (bk.ex e1).1 z
      rw [he2] at this
      exact this.imp id fun ⟨l, bs, h1, _, _, h4, h5⟩ => ⟨l, bs, h1, h4, h5⟩
end
end Lj

set_option maxHeartbeats 2000000
/-! routes_from: the least sums of absolute lengths -/
namespace Lj
open PySem PySem.Spec PyProof.Rows L2 Lw Hq
open Evl (EvL EvA EvT EvU RC)
abbrev mapK (g : Tr3 → V) (ord : List Tr3) : List (Key × V) := ord.map fun t => (Sum.inr t.1, g t)
abbrev gFar : Tr3 → V := fun t => .int t.2.1
abbrev gLast : Tr3 → V := fun t => .str t.2.2
theorem mapK_none {g : Tr3 → V} : ∀ {ord : List Tr3} {z : Str}, z ∉ nds ord → valV (mapK g ord) (Sum.inr z) = none
  | [], _, _ => rfl
  | t :: ord, z, h => by
    have h1 : ¬ z = t.1 := fun q => h (by rw [q]; exact List.mem_cons_self)
    refine (valV_neg (p := ((Sum.inr t.1 : Key), g t)) (k := (Sum.inr z : Key)) fun q => h1 (Sum.inr.inj q).symm).trans (mapK_none fun q => h (List.mem_cons_of_mem _ q))
theorem mapK_some {g : Tr3 → V} : ∀ {ord : List Tr3} {t : Tr3}, (nds ord).Nodup → t ∈ ord → valV (mapK g ord) (Sum.inr t.1) = some (g t)
  | [], _, _, h => absurd h (by simp)
  | u :: ord, t, nd, h => by
    have nd' := List.nodup_cons.mp (show (u.1 :: nds ord).Nodup from nd)
    rcases List.mem_cons.mp h with rfl | h
    · exact valV_pos (p := ((Sum.inr t.1 : Key), g t)) rfl
    · refine (valV_neg (p := ((Sum.inr u.1 : Key), g u)) (k := (Sum.inr t.1 : Key)) fun q => nd'.1 (by rw [Sum.inr.inj q]; exact List.mem_map_of_mem h)).trans (mapK_some nd'.2 h)
theorem mapK_put {g : Tr3 → V} {ord : List Tr3} {t : Tr3} (h : t.1 ∉ nds ord) : putK (mapK g ord) (Sum.inr t.1) (g t) = mapK g (ord ++ [t]) := by
  rw [putK_new _ (mapK_none h)]
  simp [mapK]
def Routed (es : List Eg) (s : Str) (ord : List Tr3) : Prop := (nds ord).Nodup ∧ Tree es s ord ∧ ∀ x d, Wk es s x d → ∃ u ∈ ord, u.1 = x ∧ u.2.1 ≤ d
theorem Routed.walk {es : List Eg} {s : Str} {ord : List Tr3} (h : Routed es s ord) {u : Tr3} (hu : u ∈ ord) : Wk es s u.1 u.2.1 := by
  obtain ⟨i, hi⟩ := List.mem_iff_getElem?.mp hu
  exact h.2.1.walk i u hi
theorem g_seqAsg {te : TE} {g : TG} {tz : TS} {D : Ends} {σ : L2.St} {H : Hp} (h : te σ H fun x H1 => g x σ H1 (tz D)) : tSeq (tAsg te g) tz D σ H := h
theorem g_lst {ta : TA} {σ : L2.St} {H : Hp} {Q : VK} (h : ta σ H fun xs H1 => xs.length ≤ sizeLine ∧ ∀ p, H1 p = none → Q (.ref p) (upd H1 p (.lst xs))) : tLst ta σ H Q := h
theorem g_cons {te : TE} {tr : TA} {σ : L2.St} {H : Hp} {Q : List V → Hp → Prop} (h : te σ H fun x H1 => tr σ H1 fun xs H2 => Q (x :: xs) H2) : tCons te tr σ H Q := h
theorem g_nil {σ : L2.St} {H : Hp} {Q : List V → Hp → Prop} (h : Q [] H) : tNil σ H Q := h
theorem g_tup {ta : TA} {σ : L2.St} {H : Hp} {vs : List V} {Q : VK} (h : EvA ta σ H vs) (hl : vs.length ≤ 100000) (k : ∀ p H1, H p = none → Evl.Ex H H1 → H1 p = some (.tup vs) → Q (.ref p) H1) : tTup ta σ H Q := Evl.eu_tup h hl H (Evl.Ex.refl H) Q k
structure RI (H H' : Hp) (far last q : Addr) (s : Str) (es : List Eg) (ord : List Tr3) (ps : List Pv) (v : Str) (todo : List Eg) : Prop where
  ex : Evl.Ex H H'
  f : H' far = some (.dK (mapK gFar ord))
  l : H' last = some (.dK (mapK gLast ord))
  q : H' q = some (.lst (ps.map (·.1)))
  t : ∀ p ∈ ps, Tri H' p.1 p.2
  h : HeapV ps
  j : Dij es s ord (ps.map (·.2)) v todo
theorem _root_.Hq.Tri.ex {H H' : Hp} {v : V} {t : T3} (e : Evl.Ex H H') (h : Tri H v t) : Tri H' v t := by
  obtain ⟨a, h1, h2⟩ := h
  exact ⟨a, h1, e _ _ h2⟩
/-- an object that is no tuple changes -/
theorem _root_.Hq.Tri.upd {H : Hp} {v : V} {t : T3} {a : Addr} {o o' : HO} (h : Tri H v t) (ha : H a = some o) (n : ∀ xs, o ≠ .tup xs) : Tri (upd H a o') v t := by
  obtain ⟨b, h1, h2⟩ := h
  refine ⟨b, h1, ?_⟩
  rw [upd_ne fun q => by rw [q, ha] at h2; exact n _ (Option.some.inj h2)]
  exact h2
theorem RI.mono {H H' H'' : Hp} {far last q : Addr} {s : Str} {es : List Eg} {ord : List Tr3} {ps : List Pv} {v : Str} {todo : List Eg} (h : RI H H' far last q s es ord ps v todo) (e : Evl.Ex H' H'') : RI H H'' far last q s es ord ps v todo :=
  ⟨h.ex.trans e, e _ _ h.f, e _ _ h.l, e _ _ h.q, fun p hp => (h.t p hp).ex e, h.h, h.j⟩
/-- a for over a new list or tuple -/
theorem s_forSeqVia {K : PySem.W.Frag} {tl : TE} {g : TG} {tu : TS} {D : Ends} {σ : L2.St} {H : Hp} {o : HO} {xs : List V} (ho : o = .lst xs ∨ o = .tup xs) (S : Addr → Hp → Prop) (h1 : ∀ Q' : VK, (∀ p H', S p H' → Q' (.ref p) H') → tl σ H Q') (Pv : Addr → Nat → L2.St → Hp → Prop) (h0 : ∀ p H', S p H' → Pv p 0 σ H') (hl : ∀ p i σ' H', Pv p i σ' H' → H' p = some o)
    (hs : ∀ p i x σ' H', xs[i]? = some x → Pv p i σ' H' → g x σ' H' fun σ2 H2 => tu { D with nx := Pv p (i + 1), ct := Pv p (i + 1), bk := D.nx } σ2 H2) (hd : ∀ p σ' H', Pv p xs.length σ' H' → D.nx σ' H') : tFor (fun σ H R => iList K tl σ H R ∨ iTup K tl σ H R) g tu D σ H := by
  rcases ho with rfl | rfl
  · exact .inl (h1 _ fun p H' hS => ⟨p, rfl, ⟨xs, Evl.sq_of (hl _ _ _ _ (h0 _ _ hS))⟩, for_list (Pv p) (h0 _ _ hS) (fun i σ' H' _ z => Evl.sq_of (hl _ _ _ _ z)) (fun i x σ' H' hx z => hs p i x σ' H' hx z) (fun σ' H' z => hd p σ' H' z)⟩)
  · exact .inr (h1 _ fun p H' hS => ⟨p, rfl, ⟨xs, Evl.st_of (hl _ _ _ _ (h0 _ _ hS))⟩, for_tup (Pv p) (h0 _ _ hS) (fun i σ' H' _ z => Evl.st_of (hl _ _ _ _ z)) (fun i x σ' H' hx z => hs p i x σ' H' hx z) (fun σ' H' z => hd p σ' H' z)⟩)
section
variable {P : Program} {w : World} {K : PySem.W.Frag} {mg : Str → Option Value} {base : Heap}
def spRoutes : Sp := fun vs H Q _ => ∃ (d : Addr) (s : Str) (es : List Eg), vs = [V.ref d, .str s] ∧ StepsAt H d es ∧ es.length ≤ 1000 ∧ Prop2 es ∧
  ∀ t far last ord H', Evl.Ex H H' → H t = none → H far = none → H last = none → H' t = some (.tup [.ref far, .ref last]) → H' far = some (.dK (mapK gFar ord)) → H' last = some (.dK (mapK gLast ord)) → Routed es s ord → Q (.ref t) H'
theorem ok_routes {f fO : Addr} {fd dO : FuncData} {k : Nat} (F : Fun K "routes_from" "routes_from" (top 43) f fd) (T : Bs mg bl) (g_heappop : mg "heappop" = some (.builtin "_heapq.heappop")) (g_heappush : mg "heappush" = some (.builtin "_heapq.heappush"))
    (F_other_end : Cf P w K mg base "other_end" ["edge", "node"] k spOther fO dO) : FnOk P w K mg base CX0 (k + 1) f fd ["steps", "start"] spRoutes := by
  refine F.ok sc_routes_from (fun vs H Q E h => ?_) (fun cdv A outer s H vs Q E hr h => ?_)
  · obtain ⟨d, z, es, rfl, _⟩ := h
    rfl
  · obtain ⟨d, z, es, rfl, hS, l0, p2, q⟩ := h
    refine ⟨_, (pss_cons (ps_set (i := 2) sc_routes_from.nd rfl (Or.inl rfl) pe_dnewK)
      (pss_cons (ps_set (i := 3) sc_routes_from.nd rfl (Or.inl rfl) pe_dnewK)
      (pss_cons (ps_set (i := 4) sc_routes_from.nd rfl (Or.inl rfl) (pe_lst (pa_cons (pe_tup (pa_cons pe_int (pa_cons (pv 1) (pa_cons pe_str pa_nil)))) pa_nil)))
      (pss_cons (ps_while PassesOwn.never (pt_truth (pv 4) (fun _ => rfl)) (pss_cons (ps_asg (StS.pe_callG (Hq.call_pop hr) (by rfl) g_heappop (pa_cons (pv 4) pa_nil)) (pg_tup rfl (pgs_cons (pg_name (i := 5) sc_routes_from.nd rfl (Or.inl rfl)) (pgs_cons (pg_name (i := 6) sc_routes_from.nd rfl (Or.inl rfl)) (pgs_cons (pg_name (i := 7) sc_routes_from.nd rfl (Or.inl rfl)) pgs_nil)))))
      (pss_one (ps_if (pt_cmp (pc_dnotin (hu_of hr) (pv 6) (pv 2))) (pss_cons (ps_dput (hu_of hr) (pv 2) (pv 6) (pv 5) rfl)
      (pss_cons (ps_dput (hu_of hr) (pv 3) (pv 6) (pv 7) rfl)
      (pss_one (ps_for PassesOwn.never rfl (pi_or (pi_list (pe_dget2 (hu_of hr) (pv 0) (pv 6) (pe_tup pa_nil) ⟨by rfl, by rfl, by rfl, by rfl⟩)) (pi_tup (pe_dget2 (hu_of hr) (pv 0) (pv 6) (pe_tup pa_nil) ⟨by rfl, by rfl, by rfl, by rfl⟩))) (pg_name (i := 8) sc_routes_from.nd rfl (Or.inl rfl)) (pss_one (ps_expr (StS.pe_callG (Hq.call_push hr) (by rfl) g_heappush (pa_cons (pv 4) (pa_cons (pe_tup (pa_cons (pe_op op_add (pv 5) (pe_callB call_abs (by rfl) (T.b "abs" (by decide)) (by decide +kernel) (pa_cons (pe_ix ix_tup (pv 8) pe_int (fun _ _ => rfl)) pa_nil))) (pa_cons (pe_cf F_other_end (hr.mono (by omega)) (by rfl) (pa_cons (pv 8) (pa_cons (pv 6) pa_nil))) (pa_cons (pe_ix ix_tup (pv 8) pe_int (fun _ _ => rfl)) pa_nil)))) pa_nil))))))))) pss_nil))))
      (pss_one (ps_ret (pe_tup (pa_cons (pv 2) (pa_cons (pv 3) pa_nil))))))))), ?_⟩
    refine fun far nf => ?_
    refine g_name ?_
    dsimp only
    refine fun last nl => ?_
    refine g_name ?_
    dsimp only
    have lf : last ≠ far := apart upd_same nl
    have nl0 : H last = none := Evl.fresh_back (Evl.Ex.new nf) nl
    refine g_seqAsg (g_lst (g_cons ?_))
    refine g_tup (vs := [.int 0, .str z, .str ""]) (Evl.ea_cons Evl.ev_c (Evl.ea_cons (Evl.ev_var rfl) (Evl.ea_cons Evl.ev_c Evl.ea_nil))) (by simp) fun a0 H1 na0 e1 ha0 => ?_
    refine ⟨Evl.sz_of (by simp), fun qa nq => ?_⟩
    refine g_name ?_
    have hf1 : H1 far = some (.dK []) := e1 _ _ (Evl.Ex.new nl _ _ upd_same)
    have hl1 : H1 last = some (.dK []) := e1 _ _ upd_same
    have eH1 : Evl.Ex H H1 := ((Evl.Ex.new nf).trans (Evl.Ex.new nl)).trans e1
    have nq0 : H qa = none := Evl.fresh_back eH1 nq
    have fq : qa ≠ far := apart hf1 nq
    have lq : qa ≠ last := apart hl1 nq
    let W : Nat → L2.St → Hp → Prop := fun m σ' H' => ∃ x5 x6 x7 x8 ord ps v, σ' = [some (.ref d), some (.str z), some (.ref far), some (.ref last), some (.ref qa), x5, x6, x7, x8] ∧ RI H H' far last qa z es ord ps v [] ∧ m = ps.length + pot es (nds ord) ∧ m + ord.length ≤ 2 * es.length + 1
    refine Evl.q_while W (1 + pot es []) ⟨none, none, none, none, [], [(.ref a0, ((0 : Int), z, ("" : Str)))], "", rfl, ⟨eH1.trans (Evl.Ex.new nq), Evl.Ex.new nq _ _ hf1, Evl.Ex.new nq _ _ hl1, upd_same, fun p hp => ?_, fun i x y i0 hx hy => ?_, Dij.start z ""⟩, rfl, by have := pot_le es []; simp; omega⟩ (fun m σ' H' w => ?_)
    · rw [List.mem_singleton.mp hp]
      exact ⟨a0, rfl, Evl.Ex.new nq _ _ ha0⟩
    · have := (List.getElem?_eq_some_iff.mp hy).1
      simp at this
      omega
    · obtain ⟨x5, x6, x7, x8, ord, ps, v, rfl, R, rfl, lm⟩ := w
      refine ⟨!(ps.map (·.1)).isEmpty, fun H2 e2 Q' hQ' => ⟨_, rfl, _, .inl ⟨_, Evl.sq_of (e2 _ _ R.q), rfl⟩, hQ' H2 (Evl.Ex.refl _)⟩, fun hb H2 e2 => ?_, fun hb H2 e2 => ?_⟩
      · refine ⟨fun σ2 H3 => ∃ m', m' < ps.length + pot es (nds ord) ∧ W m' σ2 H3, fun σ2 H3 h => h, ?_⟩
        have R2 := R.mono e2
        have ne : ps ≠ [] := fun e => by
          rw [e] at hb
          exact nomatch hb
        refine ⟨.ref qa, rfl, qa, ps, rfl, R2.q, R2.t, R2.h, ne, by omega, fun u t qs least pm hh => ?_⟩
        have tu : Tri H2 u t := R2.t (u, t) (pm.mem_iff.mp List.mem_cons_self)
        have notup : ∀ (xs ys : List V), (HO.lst xs) ≠ .tup ys := fun _ _ => by simp
        have tu3 := tu.upd (o' := .lst (qs.map (·.1))) R2.q (notup _)
        obtain ⟨b, rfl, hb3⟩ := tu3
        have e3 : Evl.Ex H (upd H2 qa (.lst (qs.map (·.1)))) := R2.ex.mut nq0
        have ls : qs.length + 1 = ps.length := pm.length_eq
        have dj : Dij es z ord (t :: qs.map (·.2)) v [] := R2.j.perm (by have := pm.map (·.2); rwa [List.map_cons] at this)
        have R3 : ∀ p ∈ qs, Tri (upd H2 qa (.lst (qs.map (·.1)))) p.1 p.2 := fun p hp => (R2.t p (pm.mem_iff.mp (List.mem_cons_of_mem _ hp))).upd R2.q (notup _)
        have hf3 : (upd H2 qa (.lst (qs.map (·.1)))) far = some (.dK (mapK gFar ord)) := by rw [upd_ne fq.symm]; exact R2.f
        have hl3 : (upd H2 qa (.lst (qs.map (·.1)))) last = some (.dK (mapK gLast ord)) := by rw [upd_ne lq.symm]; exact R2.l
        have hq3 : (upd H2 qa (.lst (qs.map (·.1)))) qa = some (.lst (qs.map (·.1))) := upd_same
        generalize upd H2 qa (.lst (qs.map (·.1))) = H3 at hb3 e3 R3 hf3 hl3 hq3
        refine ⟨b, _, rfl, Evl.st_of hb3, rfl, ?_⟩
        refine ⟨_, _, rfl, _, _, rfl, _, _, rfl, rfl, ?_⟩
        by_cases mm : t.2.1 ∈ nds ord
        · obtain ⟨u, hu, eu⟩ := List.mem_map.mp mm
          refine ⟨.str t.2.1, rfl, .ref far, rfl, far, _, rfl, DGet.k (k := Sum.inr t.2.1) hf3, _, rfl, ?_⟩
          have hv := mapK_some (g := gFar) R2.j.nd hu
          rw [eu] at hv
          rw [hv]
          refine ite2 (fun z => nomatch z) (fun _ => ?_)
          exact ⟨qs.length + pot es (nds ord), by omega, some (.int t.1), some (.str t.2.1), some (.str t.2.2), x8, ord, qs, v, rfl, ⟨e3, hf3, hl3, hq3, R3, hh, dj.skip mm⟩, rfl, by omega⟩
        · refine ⟨.str t.2.1, rfl, .ref far, rfl, far, _, rfl, DGet.k (k := Sum.inr t.2.1) hf3, _, rfl, ?_⟩
          rw [mapK_none (g := gFar) mm]
          refine ite2 (fun _ => ?_) (fun z => absurd rfl z)
          have lo : ord.length < 100000 := by omega
          have small : ∀ g, (mapK g ord).length < sizeLine := fun g => Evl.sz_lt (by rw [List.length_map]; exact lo)
          refine ⟨.int t.1, rfl, .ref far, rfl, .str t.2.1, rfl, far, _, rfl, DPut.k (k := Sum.inr t.2.1) hf3 (small _), ?_⟩
          have hl4 : (upd H3 far (.dK (putK (mapK gFar ord) (Sum.inr t.2.1) (.int t.1)))) last = some (.dK (mapK gLast ord)) := by rw [upd_ne lf]; exact hl3
          refine ⟨.str t.2.2, rfl, .ref last, rfl, .str t.2.1, rfl, last, _, rfl, DPut.k (k := Sum.inr t.2.1) hl4 (small _), ?_⟩
          let nw : Tr3 := (t.2.1, t.1, t.2.2)
          have pf : putK (mapK gFar ord) (Sum.inr t.2.1) (.int t.1) = mapK gFar (ord ++ [nw]) := mapK_put (g := gFar) (t := nw) mm
          have pl : putK (mapK gLast ord) (Sum.inr t.2.1) (.str t.2.2) = mapK gLast (ord ++ [nw]) := mapK_put (g := gLast) (t := nw) mm
          rw [pf, pl]
          have e5 : Evl.Ex H (upd (upd H3 far (.dK (mapK gFar (ord ++ [nw])))) last (.dK (mapK gLast (ord ++ [nw])))) := (e3.mut nf).mut nl0
          have hf5 : (upd (upd H3 far (.dK (mapK gFar (ord ++ [nw])))) last (.dK (mapK gLast (ord ++ [nw])))) far = some (.dK (mapK gFar (ord ++ [nw]))) := by rw [upd_ne lf.symm, upd_same]
          have hl5 : (upd (upd H3 far (.dK (mapK gFar (ord ++ [nw])))) last (.dK (mapK gLast (ord ++ [nw])))) last = some (.dK (mapK gLast (ord ++ [nw]))) := upd_same
          have hq5 : (upd (upd H3 far (.dK (mapK gFar (ord ++ [nw])))) last (.dK (mapK gLast (ord ++ [nw])))) qa = some (.lst (qs.map (·.1))) := by rw [upd_ne lq, upd_ne fq]; exact hq3
          have R5 : ∀ p ∈ qs, Tri (upd (upd H3 far (.dK (mapK gFar (ord ++ [nw])))) last (.dK (mapK gLast (ord ++ [nw])))) p.1 p.2 := fun p hp => ((R3 p hp).upd hf3 (fun _ => by simp)).upd (by rw [upd_ne lf]; exact hl3) (fun _ => by simp)
          generalize upd (upd H3 far (.dK (mapK gFar (ord ++ [nw])))) last (.dK (mapK gLast (ord ++ [nw]))) = H5 at e5 hf5 hl5 hq5 R5
          obtain ⟨kvs, hd, hst⟩ := hS
          obtain ⟨bs, o, ho, hbs, key⟩ : ∃ (bs : List Addr) (o : HO), (o = .lst (bs.map V.ref) ∨ o = .tup (bs.map V.ref)) ∧ EgsAt H bs (atN es t.2.1) ∧ ((valV kvs (Sum.inr t.2.1) = none ∧ o = .tup []) ∨ ∃ l, valV kvs (Sum.inr t.2.1) = some (.ref l) ∧ H l = some o) := by
            rcases hst t.2.1 with ⟨h1, h2⟩ | ⟨l, bs, h1, h2, h3⟩
            · exact ⟨[], .tup [], .inr rfl, by rw [h2]; exact .nil, .inl ⟨h1, rfl⟩⟩
            · exact ⟨bs, _, .inl rfl, h3, .inr ⟨l, h1, h2⟩⟩
          have dt : Dij es z (ord ++ [nw]) (qs.map (·.2)) t.2.1 ((atN es t.2.1).drop 0) := dj.take p2 (fun p hp => by
            have pm2 := pm.map (·.2)
            rw [List.map_cons] at pm2
            obtain ⟨x, hx, rfl⟩ := List.mem_map.mp (pm2.mem_iff.mp hp)
            exact le_fst (least x hx)) mm (fun e he => (List.mem_filter.mp he).1) (fun e he ht => List.mem_filter.mpr ⟨he, ht⟩)
          refine s_forSeqVia (xs := bs.map V.ref) ho (fun p H' => Evl.Ex H5 H' ∧ p ≠ qa ∧ H' p = some o) (fun Q' hQ' => ?_)
            (fun p j σ' H' => ∃ x8 ps', σ' = [some (.ref d), some (.str z), some (.ref far), some (.ref last), some (.ref qa), some (.int t.1), some (.str t.2.1), some (.str t.2.2), x8] ∧ RI H H' far last qa z es (ord ++ [nw]) ps' t.2.1 ((atN es t.2.1).drop j) ∧ ps'.length = qs.length + j ∧ p ≠ qa ∧ H' p = some o)
            (fun p H' ⟨e6, n6, h6⟩ => ⟨x8, qs, rfl, (RI.mk e5 hf5 hl5 hq5 R5 hh dt).mono e6, rfl, n6, h6⟩) (fun p j σ' H' ⟨_, _, _, _, _, _, h⟩ => h) (fun p j x σ' H' hx w => ?_) (fun p σ' H' w => ?_)
          · refine ⟨.ref d, rfl, d, rfl, ?_, .str t.2.1, rfl, Evl.sz_of (by simp), fun p np => ⟨_, DGet.k (k := Sum.inr t.2.1) (Evl.Ex.new np _ _ (e5 _ _ hd)), ?_⟩⟩
            · exact .inl ⟨_, .inl (e5 _ _ hd)⟩
            · rcases key with ⟨h1, rfl⟩ | ⟨l, h1, h2⟩
              · rw [h1]
                exact hQ' p _ ⟨Evl.Ex.new np, apart hq5 np, upd_same⟩
              · rw [h1]
                refine hQ' l _ ⟨Evl.Ex.new np, fun e => ?_, Evl.Ex.new np _ _ (e5 _ _ h2)⟩
                rw [e, nq0] at h2
                exact nomatch h2
          · obtain ⟨x8, ps', rfl, R6, l6, n6, h6⟩ := w
            rw [List.getElem?_map] at hx
            obtain ⟨a', ha', rfl⟩ := Option.map_eq_some_iff.mp hx
            obtain ⟨e, hei, hae⟩ := egs_get hbs ha'
            have me := List.mem_filter.mp (List.mem_of_getElem? hei)
            have lj : j < (atN es t.2.1).length := (List.getElem?_eq_some_iff.mp hei).1
            have ll : (atN es t.2.1).length ≤ es.length := List.length_filter_le _ _
            refine g_name ?_
            have hae6 : H' a' = some (.tup (egV e)) := R6.ex _ _ hae
            refine ⟨.ref qa, rfl, ?_⟩
            have ix : ∀ (i : Nat) (u : V), (egV e)[i]? = some u → Evl.Ev (tOp (rIxT K) (tVar 8) (tC (.int i))) [some (.ref d), some (.str z), some (.ref far), some (.ref last), some (.ref qa), some (.int t.1), some (.str t.2.1), some (.str t.2.2), some (.ref a')] H' u := fun i u hu =>
              Evl.ev_op (Evl.ev_var rfl) Evl.ev_c (Evl.rv_ixT (Evl.st_of hae6) (atI_some (Int.natCast_nonneg i) (by rw [Int.toNat_natCast]; exact hu)))
            refine g_cons (g_tup (vs := [.int (t.1 + ew e), .str (oth e t.2.1), .str e.1]) (Evl.ea_cons (Evl.ev_op (Evl.ev_var rfl) (Evl.ev_cb (Evl.ea_cons (ix 3 _ rfl) Evl.ea_nil) (fun H1 _ Q q => ⟨_, rfl, q H1 (Evl.Ex.refl _)⟩)) Evl.rv_I0) (Evl.ea_cons (Evl.ev_call (Evl.ea_cons (Evl.ev_var rfl) (Evl.ea_cons (Evl.ev_var rfl) Evl.ea_nil)) (fun H1 e1 Q' hq E' => ⟨a', e, t.2.1, rfl, e1 _ _ hae6, hq⟩)) (Evl.ea_cons (ix 0 _ rfl) Evl.ea_nil))) (by simp) fun y H7 ny e7 hy => ?_)
            refine g_nil ?_
            have R7 := R6.mono e7
            refine ⟨qa, .ref y, (t.1 + ew e, oth e t.2.1, e.1), ps', rfl, R7.q, R7.t, ⟨y, rfl, hy⟩, R7.h, by omega, fun qs' pm' hh' => ?_⟩
            have dr : (atN es t.2.1).drop j = e :: (atN es t.2.1).drop (j + 1) := by
              rw [List.drop_eq_getElem_cons lj]
              rw [List.getElem?_eq_getElem lj] at hei
              rw [Option.some.inj hei]
            have dj7 := R7.j
            rw [dr] at dj7
            have dj8 := dj7.push (u0 := nw) (by simp) rfl me.1 me.2
            refine ⟨some (.ref a'), qs', rfl, ⟨R7.ex.mut nq0, by rw [upd_ne fq.symm]; exact R7.f, by rw [upd_ne lq.symm]; exact R7.l, upd_same, fun p hp => ?_, hh', dj8.perm ?_⟩, ?_, n6, ?_⟩
            · rcases List.mem_cons.mp (pm'.mem_iff.mp hp) with rfl | hp
              · exact Tri.upd ⟨y, rfl, hy⟩ R7.q (fun _ => by simp)
              · exact (R7.t p hp).upd R7.q (fun _ => by simp)
            · have := pm'.map (·.2)
              rwa [List.map_cons] at this
            · have := pm'.length_eq
              rw [List.length_cons] at this
              omega
            · rw [upd_ne n6]
              exact e7 _ _ h6
          · obtain ⟨x8, ps', rfl, R6, l6, n6, h6⟩ := w
            have lb : (bs.map V.ref).length = (atN es t.2.1).length := by rw [List.length_map, hbs.len]
            rw [lb, List.drop_length] at R6
            have pn := pot_new p2 mm
            have nn : nds (ord ++ [nw]) = nds ord ++ [t.2.1] := by simp [nds, nw]
            exact ⟨ps'.length + pot es (nds (ord ++ [nw])), by rw [nn]; omega, _, _, _, _, ord ++ [nw], ps', _, rfl, R6, rfl, by rw [nn, List.length_append, List.length_singleton]; omega⟩
      · refine g_tup (vs := [.ref far, .ref last]) (Evl.ea_cons (Evl.ev_var rfl) (Evl.ea_cons (Evl.ev_var rfl) Evl.ea_nil)) (by simp) fun t H3 nt e3 ht => ?_
        have R3 := (R.mono e2).mono e3
        have pe : ps = [] := by
          cases ps with
          | nil => rfl
          | cons _ _ => exact nomatch hb
        rw [pe] at R3
        exact q t far last ord H3 R3.ex (Evl.fresh_back (R.mono e2).ex nt) nf nl0 ht R3.f R3.l ⟨R3.j.nd, R3.j.tr, R3.j.done.1⟩
end
end Lj

set_option maxHeartbeats 1000000
/-! pairings of nodes by walks, and the search for the least one -/
namespace Lj
open PySem Lw
inductive Pm (es : List Eg) : List Str → Int → Prop
  | nil : Pm es [] 0
  | two {a b : Str} {ps : List Str} {d c : Int} : Wk es a b d → Pm es ps c → Pm es (a :: b :: ps) (d + c)
  | perm {ps qs : List Str} {c : Int} : Pm es ps c → ps.Perm qs → Pm es qs c
theorem Pm.pos {es : List Eg} {P : List Str} {c : Int} (h : Pm es P c) : 0 ≤ c := by
  induction h with
  | nil => exact Int.le_refl _
  | two w _ ih => have := w.pos; omega
  | perm _ _ ih => exact ih
theorem Pm.head {es : List Eg} (p2 : Prop2 es) {P : List Str} {c : Int} (h : Pm es P c) : ∀ a ∈ P, ∃ (b : Str) (R : List Str) (d c' : Int), P.Perm (a :: b :: R) ∧ Wk es a b d ∧ Pm es R c' ∧ c = d + c' := by
  induction h with
  | nil => intro a h; exact absurd h (by simp)
  | @two x y ps d c w h ih =>
    intro a ha
    rcases List.mem_cons.mp ha with rfl | ha
    · exact ⟨y, ps, d, c, .refl _, w, h, rfl⟩
    · rcases List.mem_cons.mp ha with rfl | ha
      · exact ⟨x, ps, d, c, .swap _ _ _, w.back p2, h, rfl⟩
      · obtain ⟨b, R, d', c', pm, w', h', e⟩ := ih a ha
        refine ⟨b, x :: y :: R, d', d + c', ?_, w', .two w h', by omega⟩
        have q1 : (x :: y :: ps).Perm (x :: y :: a :: b :: R) := (pm.cons y).cons x
        have q2 : ([x, y] ++ ([a, b] ++ R)).Perm ([a, b] ++ ([x, y] ++ R)) := by
          rw [← List.append_assoc, ← List.append_assoc]
          exact List.Perm.append_right R List.perm_append_comm
        exact q1.trans q2
  | perm h pm ih =>
    intro a ha
    obtain ⟨b, R, d, c', q, w, h', e⟩ := ih a (pm.mem_iff.mpr ha)
    exact ⟨b, R, d, c', pm.symm.trans q, w, h', e⟩
theorem Pm.cons_inv {es : List Eg} (p2 : Prop2 es) {a : Str} {ps : List Str} {c : Int} (h : Pm es (a :: ps) c) : ∃ y d c', y ∈ ps ∧ Wk es a y d ∧ Pm es (ps.erase y) c' ∧ c = d + c' := by
  obtain ⟨b, R, d, c', pm, w, h', e⟩ := h.head p2 a List.mem_cons_self
  have q : ps.Perm (b :: R) := (List.perm_cons a).mp pm
  refine ⟨b, d, c', q.mem_iff.mpr List.mem_cons_self, w, .perm h' ?_, e⟩
  have := (q.erase b).symm
  rwa [List.erase_cons_head] at this
theorem Pm.cons_of {es : List Eg} {a y : Str} {ps : List Str} {d c : Int} (m : y ∈ ps) (w : Wk es a y d) (h : Pm es (ps.erase y) c) : Pm es (a :: ps) (d + c) :=
  .perm (.two w h) ((List.perm_cons_erase m).symm.cons a)
/-- what the search for the nodes of P answers -/
def Opt (es : List Eg) (P : List Str) (r : Option (Int × Option Str)) : Prop := match r with
  | none => ∀ c, ¬ Pm es P c
  | some (c, b) => Pm es P c ∧ (∀ c', Pm es P c' → c ≤ c') ∧ match P with
    | [] => b = none
    | a :: ps => ∃ y d, b = some y ∧ y ∈ ps ∧ Wk es a y d ∧ (∀ d', Wk es a y d' → d ≤ d') ∧ Pm es (ps.erase y) (c - d)
theorem Opt.nil (es : List Eg) : Opt es [] (some (0, none)) := ⟨.nil, fun _ h => h.pos, rfl⟩
/-- .. and what it holds when it has seen some partners of a -/
def BestP (es : List Eg) (a : Str) (ps seen : List Str) (r : Option (Int × Str)) : Prop := match r with
  | none => ∀ y ∈ seen, ∀ d c, Wk es a y d → ¬ Pm es (ps.erase y) c
  | some (c, y) => (y ∈ ps ∧ ∃ d, Wk es a y d ∧ (∀ d', Wk es a y d' → d ≤ d') ∧ Pm es (ps.erase y) (c - d)) ∧ ∀ z ∈ seen, ∀ d c', Wk es a z d → Pm es (ps.erase z) c' → c ≤ d + c'
section
variable {es : List Eg} {a y : Str} {ps seen : List Str} {r : Option (Int × Str)}
theorem BestP.nil : BestP es a ps [] none := fun _ h => absurd h (by simp)
/-- y is no partner -/
theorem BestP.no (h : BestP es a ps seen r) (n : ∀ d c, Wk es a y d → ¬ Pm es (ps.erase y) c) : BestP es a ps (seen ++ [y]) r := by
  cases r with
  | none =>
    intro z hz d c w
    rcases List.mem_append.mp hz with hz | hz
    · exact h z hz d c w
    · rw [List.mem_singleton.mp hz] at w ⊢
      exact n d c w
  | some cy =>
    refine ⟨h.1, fun z hz d c w p => ?_⟩
    rcases List.mem_append.mp hz with hz | hz
    · exact h.2 z hz d c w p
    · rw [List.mem_singleton.mp hz] at w p
      exact absurd p (n d c w)
theorem BestP.better {d c : Int} {b : Option Str} (h : BestP es a ps seen r) (m : y ∈ ps) (w : Wk es a y d) (l : ∀ d', Wk es a y d' → d ≤ d') (o : Opt es (ps.erase y) (some (c, b))) (t : ∀ q, r = some q → d + c < q.1) : BestP es a ps (seen ++ [y]) (some (d + c, y)) := by
  refine ⟨⟨m, d, w, l, by rw [show d + c - d = c by omega]; exact o.1⟩, fun z hz d' c' w' p => ?_⟩
  rcases List.mem_append.mp hz with hz | hz
  · cases r with
    | none => exact absurd p (h z hz d' c' w')
    | some q =>
      have := h.2 z hz d' c' w' p
      have := t q rfl
      omega
  · rw [List.mem_singleton.mp hz] at w' p
    have := l d' w'
    have := o.2.1 c' p
    omega
theorem BestP.worse {d c : Int} {b : Option Str} {q : Int × Str} (h : BestP es a ps seen (some q)) (l : ∀ d', Wk es a y d' → d ≤ d') (o : Opt es (ps.erase y) (some (c, b))) (t : ¬ d + c < q.1) : BestP es a ps (seen ++ [y]) (some q) := by
  refine ⟨h.1, fun z hz d' c' w' p => ?_⟩
  rcases List.mem_append.mp hz with hz | hz
  · exact h.2 z hz d' c' w' p
  · rw [List.mem_singleton.mp hz] at w' p
    have := l d' w'
    have := o.2.1 c' p
    omega
theorem BestP.done (p2 : Prop2 es) (h : BestP es a ps ps r) : Opt es (a :: ps) (r.map fun q => (q.1, some q.2)) := by
  cases r with
  | none =>
    intro c p
    obtain ⟨z, d, c', m, w, p', _⟩ := p.cons_inv p2
    exact h z m d c' w p'
  | some q =>
    obtain ⟨⟨m, d, w, l, p⟩, k⟩ := h
    refine ⟨?_, fun c' p' => ?_, q.2, d, rfl, m, w, l, p⟩
    · have := Pm.cons_of m w p
      rwa [show d + (q.1 - d) = q.1 by omega] at this
    · obtain ⟨z, d', c'', m', w', p'', e⟩ := p'.cons_inv p2
      have := k z m' d' c'' w' p''
      show q.1 ≤ c'
      omega
end
/-- how many pairings a search may put down -/
def Tn : Nat → Nat
  | 0 => 1
  | 1 => 2
  | n + 2 => 2 + (n + 1) * Tn n
theorem tn_up : ∀ n, Tn n ≤ Tn (n + 1) ∧ Tn n ≤ Tn (n + 2)
  | 0 => ⟨by decide, by decide⟩
  | 1 => ⟨by decide, by decide⟩
  | n + 2 => by
    have h := tn_up n
    have h1 := tn_up (n + 1)
    constructor
    · show 2 + (n + 1) * Tn n ≤ 2 + (n + 2) * Tn (n + 1)
      exact Nat.add_le_add_left (Nat.mul_le_mul (by omega) h.1) 2
    · show 2 + (n + 1) * Tn n ≤ 2 + (n + 3) * Tn (n + 2)
      exact Nat.add_le_add_left (Nat.mul_le_mul (by omega) h.2) 2
theorem tn_mono {m n : Nat} (h : m ≤ n) : Tn m ≤ Tn n := by
  induction n with
  | zero => rw [Nat.le_zero.mp h]; exact Nat.le_refl _
  | succ n ih =>
    rcases Nat.lt_or_ge m (n + 1) with h1 | h1
    · exact Nat.le_trans (ih (by omega)) (tn_up n).1
    · rw [Nat.le_antisymm h h1]
      exact Nat.le_refl _
theorem tn_14 : Tn 14 ≤ 600000 := by decide +kernel
end Lj

set_option maxHeartbeats 2000000
/-! list.remove of a text in a list of texts -/
namespace Lj
open PySem PySem.Spec PyProof.Rows L2 Lw
theorem first_at : ∀ {l : List Str} {a : Str}, a ∈ l → ∃ j : Nat, l[j]? = some a ∧ (∀ m : Nat, m < j → l[m]? ≠ some a) ∧ l.erase a = l.eraseIdx j
  | x :: l, a, h => by
    by_cases q : x = a
    · subst q
      exact ⟨0, rfl, fun m hm => absurd hm (by omega), by rw [List.erase_cons_head]; rfl⟩
    · obtain ⟨j, h1, h2, h3⟩ := first_at ((List.mem_cons.mp h).resolve_left fun z => q z.symm)
      refine ⟨j + 1, h1, fun m hm => ?_, ?_⟩
      · cases m with
        | zero => exact fun z => q (Option.some.inj z)
        | succ m => exact h2 m (by omega)
      · rw [List.erase_cons_tail (by simpa using q), h3]
        rfl
theorem str_beq2 (x y : Str) : (x.cps.toList == y.cps.toList) = (x == y) := by
  rw [Bool.eq_iff_iff, beq_iff_eq, beq_iff_eq]
  exact ⟨fun h => by cases x; cases y; simp only [Str.mk.injEq]; exact Array.toList_inj.mp h, fun h => by rw [h]⟩
def eqs (k : Str) (v : Value) : Bool := match v with
  | .str n _ => n == k
  | _ => false
theorem eqs_gives {k : Str} {t : Tok} : ∀ {us : List Value} {ns : List Str}, StrsAre us ns → ∀ y ∈ us, MeetsSeq.EqGives y (.str k t) (eqs k y)
  | _, _, .nil => fun y hy => by cases hy
  | _, _, .cons n t' h => fun y hy => by
    rcases List.mem_cons.mp hy with e | e
    · rw [e]
      have := SeqRoads2.EqGives.str n k t' t
      rw [str_beq2] at this
      exact this
    · exact eqs_gives h y e
theorem erase_mapS : ∀ (l : List Str) (j : Nat), (l.map V.str).eraseIdx j = (l.eraseIdx j).map V.str
  | [], _ => rfl
  | _ :: _, 0 => rfl
  | a :: l, j + 1 => congrArg (V.str a :: ·) (erase_mapS l j)
section
variable {X : Cx}
def rRemS : V → List V → Hp → VK → Prop := fun x xs H Q => ∃ (l : Addr) (ns : List Str) (k : Str), x = .ref l ∧ xs = [.str k] ∧ H l = some (.lst (ns.map V.str)) ∧ k ∈ ns ∧ Q .non (upd H l (.lst ((ns.erase k).map V.str)))
theorem mt_remS : MtM X "list.remove" rRemS := by
  intro pins s σ H x xs v us Q I rx rxs h
  obtain ⟨l, ns, k, rfl, rfl, hH, hk, q⟩ := h
  obtain ⟨j, hj, hno, he⟩ := first_at hk
  rw [he] at q
  cases rx
  obtain ⟨u, rfl, ru⟩ := rxs.one
  obtain ⟨t, rfl⟩ := ru
  obtain ⟨z, its, n, r, hl, e⟩ := I.lstM hH
  have hi := Vals.strs r
  rw [List.length_map] at hl z
  have hjn : j < ns.length := (List.getElem?_eq_some_iff.mp hj).1
  have hjl : j < its.toArray.size := by rw [List.size_toArray]; omega
  refine call_meets PySem.F.slot_list_remove ⟨_, e, rfl⟩ PySem.F.entry_list_remove (PySem.F.args_list_remove_2 _ _)
    (MeetsSeq.list_remove l its.toArray n (.str k t) (eqs k) (fun y hy => eqs_gives hi y (by simpa using hy)) j hjl ?_ ?_ (by rw [List.size_toArray]; omega)) ⟨e, ?_⟩
  · obtain ⟨tj, hjt⟩ := StrsAre.at hi hj
    obtain ⟨h1, h2⟩ := List.getElem?_eq_some_iff.mp hjt
    have e1 : its.toArray[j] = .str k tj := by simpa using h2
    rw [e1]
    show (k == k) = true
    exact beq_self_eq_true k
  · intro m hm hmj
    have hmn : m < ns.length := by omega
    obtain ⟨tm, hmt⟩ := StrsAre.at hi (List.getElem?_eq_getElem hmn)
    obtain ⟨h1, h2⟩ := List.getElem?_eq_some_iff.mp hmt
    have e1 : its.toArray[m] = .str ns[m] tm := by simpa using h2
    rw [e1]
    refine beq_eq_false_iff_ne.mpr fun e2 => hno m hmj ?_
    rw [List.getElem?_eq_getElem hmn, e2]
  · have rr := r.eraseIdx j
    rw [erase_mapS] at rr
    refine ⟨.non, _, I.lset (its' := its.eraseIdx j) (t' := s.toks) hH e ?_ rr ?_, rfl, q⟩
    · show its.toArray.eraseIdxIfInBounds j = (its.eraseIdx j).toArray
      rw [List.eraseIdxIfInBounds_toArray]
    · have z2 : (ns.eraseIdx j).length ≤ ns.length := (List.eraseIdx_sublist ns j).length_le
      rw [List.length_map]
      omega
end
end Lj

set_option maxHeartbeats 1000000
/-! lines and words -/
namespace Lw
open PySem PySem.Spec PyProof.Rows L2
theorem q_forEnum {K : PySem.W.Frag} {ta : TA} {g : TG} {tu tz : TS} {D : Ends} {σ : St} {H : Hp} {a : Addr} {xs : List V} (h : Evl.EvA ta σ H [.ref a]) (hx : SqL K H a xs) (Pv : Nat → St → Hp → Prop) (h0 : ∀ H1, Evl.Ex H H1 → Pv 0 σ H1) (hl : ∀ i σ' H', Pv i σ' H' → SqL K H' a xs)
    (hs : ∀ i x T σ' H', xs[i]? = some x → Pv i σ' H' → H' T = none → g (.ref T) σ' (upd H' T (.tup [.int (i : Nat), x])) fun σ2 H2 => tu { D with nx := Pv (i + 1), ct := Pv (i + 1), bk := tz D } σ2 H2) (hd : ∀ σ' H', Pv xs.length σ' H' → tz D σ' H') :
    tSeq (tFor (iEnum K ta) g tu) tz D σ H := h H (Evl.Ex.refl _) _ fun H1 e1 => ⟨a, xs, rfl, Evl.ex_l e1 hx, fun i m σ' H' => m = xs.length - i ∧ i ≤ xs.length ∧ Pv i σ' H', ⟨_, rfl, Nat.zero_le _, h0 H1 e1⟩, fun i m σ' H' z => by
    obtain ⟨rfl, li, p⟩ := z
    have q := hl _ _ _ p
    by_cases lt : i < xs.length
    · refine .inr ⟨⟨xs, xs[i], q, List.getElem?_eq_getElem lt⟩, Pv (i + 1), fun σ2 H2 p2 => ⟨xs.length - (i + 1), by omega, rfl, lt, p2⟩, fun x H2 y => ?_⟩
      obtain ⟨T, x', rfl, nT, rfl, f⟩ := y
      exact hs i x' T σ' H' (f _ q) p nT
    · refine .inl ⟨⟨xs, q, by omega⟩, ?_⟩
      have : i = xs.length := by omega
      subst this
      exact hd σ' H' p⟩
theorem sp_cps : ((" " : String) : Str).cps.toList = [32] := by decide +kernel
theorem nl_cps : (("\n" : String) : Str).cps.toList = [10] := by decide +kernel
theorem low_free {z : Str} (h : Low z) {s : Nat} (hs : s < 97) : s ∉ z.cps.toList := fun m => by
  have := h s m
  omega
theorem kw_free : (32 ∉ (("node" : String) : Str).cps.toList) ∧ (32 ∉ (("edge" : String) : Str).cps.toList) ∧ (10 ∉ (("node " : String) : Str).cps.toList) ∧ (10 ∉ (("edge " : String) : Str).cps.toList) ∧ (10 ∉ ((" " : String) : Str).cps.toList) := by decide +kernel
theorem isz_free (l : Int) {s : Nat} (hs : s ≠ 45 ∧ (s < 48 ∨ 57 < s)) : s ∉ (isz l).cps.toList := fun m => by
  rcases isz_cases l with ⟨_, e⟩ | ⟨_, e⟩
  · rw [e] at m
    exact TL.numL_free hs.2 m
  · rw [e] at m
    rcases List.mem_cons.mp m with m | m
    · exact hs.1 m
    · exact TL.numL_free hs.2 m
theorem node_join (z : Str) : Txt.join " " ["node", z] = nodeLine z := by
  rw [show Txt.join " " (["node", z] : List Str) = Str.join " " ["node", z] from PySem.StrLaws.glued_eq_join _ _]
  show ("node" : Str) ++ " " ++ z = "node " ++ z
  have : (("node " : String) : Str) = ("node" : Str) ++ (" " : Str) := by decide +kernel
  rw [this]
theorem split_node {z : Str} (h : Low z) : Txt.split (nodeLine z) " " = ([("node" : Str), z] : List Str) := by
  rw [← node_join]
  refine TL.split_join (s := 32) (S := []) sp_cps (by decide +kernel) (by simp) fun p hp => ?_
  simp only [List.mem_cons, List.mem_nil_iff, or_false] at hp
  rcases hp with rfl | rfl
  · exact kw_free.1
  · exact low_free h (by decide)
theorem split_edge {e : Eg} (h1 : Low e.1) (h2 : Low e.2.1) (h3 : Low e.2.2.1) : Txt.split (edgeLine e) " " = ([("edge" : Str), e.1, e.2.1, e.2.2.1, isz e.2.2.2] : List Str) := by
  have j := edge_join e.1 e.2.1 e.2.2.1 (isz e.2.2.2)
  rw [show edgeLine e = Txt.join " " ["edge", e.1, e.2.1, e.2.2.1, isz e.2.2.2] from j.symm]
  refine TL.split_join (s := 32) (S := []) sp_cps (by decide +kernel) (by simp) fun p hp => ?_
  simp only [List.mem_cons, List.mem_nil_iff, or_false] at hp
  rcases hp with rfl | rfl | rfl | rfl | rfl
  · exact kw_free.2.1
  · exact low_free h1 (by decide)
  · exact low_free h2 (by decide)
  · exact low_free h3 (by decide)
  · exact isz_free _ ⟨by decide, by decide⟩
theorem mem_app {a b : Str} {s : Nat} (h : s ∈ (a ++ b).cps.toList) : s ∈ a.cps.toList ∨ s ∈ b.cps.toList := by
  rw [app_cps] at h
  exact List.mem_append.mp h
theorem norm_low {ns : List Str} {es : List Eg} (net : IsNet ns es) {e : Eg} (he : e ∈ es.map norm) : Low e.1 ∧ Low e.2.1 ∧ Low e.2.2.1 := by
  obtain ⟨f, hf, rfl⟩ := List.mem_map.mp he
  obtain ⟨h1, h2, h3, _⟩ := net.em f hf
  refine ⟨h1.2.2, ?_, ?_⟩
  · show Low (minS f.2.1 f.2.2.1)
    rcases min_or f.2.1 f.2.2.1 with z | z <;> rw [z]
    · exact (net.nm _ h2).2.2
    · exact (net.nm _ h3).2.2
  · show Low (maxS f.2.1 f.2.2.1)
    rcases max_or f.2.1 f.2.2.1 with z | z <;> rw [z]
    · exact (net.nm _ h2).2.2
    · exact (net.nm _ h3).2.2
theorem split_lines {ns : List Str} {es : List Eg} (net : IsNet ns es) (h0 : 0 < ns.length) : Txt.split (netText ns es) "\n" = linesOf ns es := by
  unfold netText
  refine TL.split_join (s := 10) (S := []) nl_cps (by decide +kernel) (fun z => ?_) fun p hp m => ?_
  · have := congrArg List.length z
    unfold linesOf at this
    rw [List.length_append, List.length_map, (srtN_perm ns).length_eq, List.length_nil] at this
    omega
  · rcases List.mem_append.mp hp with hp | hp
    · obtain ⟨z, hz, rfl⟩ := List.mem_map.mp hp
      have lz := (net.nm z ((srtN_perm ns).mem_iff.mp hz)).2.2
      rcases mem_app m with m | m
      · exact kw_free.2.2.1 m
      · exact low_free lz (by decide) m
    · obtain ⟨e, he, rfl⟩ := List.mem_map.mp hp
      obtain ⟨l1, l2, l3⟩ := norm_low net ((srtE_perm _).mem_iff.mp he)
      have f := kw_free.2.2.2.2
      unfold edgeLine at m
      rcases mem_app m with m | m
      · rcases mem_app m with m | m
        · rcases mem_app m with m | m
          · rcases mem_app m with m | m
            · rcases mem_app m with m | m
              · rcases mem_app m with m | m
                · rcases mem_app m with m | m
                  · exact kw_free.2.2.2.1 m
                  · exact low_free l1 (by decide) m
                · exact f m
              · exact low_free l2 (by decide) m
            · exact f m
          · exact low_free l3 (by decide) m
        · exact f m
      · exact isz_free _ ⟨by decide, by decide⟩ m
theorem min_lt {a b : Str} (h : a ≠ b) : sk (minS a b) < sk (maxS a b) := by
  unfold minS maxS
  by_cases z : sk b < sk a
  · rw [if_pos z, if_neg (List.lt_asymm z)]
    exact z
  · rw [if_neg z]
    by_cases y : sk a < sk b
    · rw [if_pos y]
      exact y
    · exact absurd (ext_cps (List.le_antisymm (List.not_lt.mp z) (List.not_lt.mp y))) h
end Lw

set_option maxHeartbeats 2000000
namespace Lw
open PySem PySem.Spec PyProof.Rows L2
open Evl (EvL EvA EvT RC)
abbrev nm_negative_edges : List Str := ["edges", "edge"]
theorem sc_negative_edges : FnScope nm_negative_edges ["edges"] (defScope (top 15)) := ⟨rfl, rfl, rfl, by decide +kernel, rfl, by decide +kernel, by decide +kernel⟩
abbrev nm_read_parts : List Str := ["text", "nodes", "edges", "lines", "index", "line", "words"]
theorem sc_read_parts : FnScope nm_read_parts ["text"] (defScope (top 51)) := ⟨rfl, rfl, rfl, by decide +kernel, rfl, by decide +kernel, by decide +kernel⟩
section
variable {P : Program} {w : World} {K : PySem.W.Frag} {mg : Str → Option Value} {base : Heap} {uO : Value}
/-- the edges of negative length -/
def spNeg : Sp := fun vs H Q _ => ∃ (b : Addr) (as : List Addr) (es : List Eg), vs = [.ref b] ∧ H b = some (.lst (as.map V.ref)) ∧ EgsAt H as es ∧ es.length ≤ 1000 ∧
  ∀ p cs H', Evl.Ex H H' → H p = none → H' p = some (.lst (cs.map V.ref)) → EgsAt H' cs (es.filter fun e => decide (e.2.2.2 < 0)) → Q (.ref p) H'
theorem ok_neg {f : Addr} {fd : FuncData} {k : Nat} (F : Fun K "negative_edges" "negative_edges" (top 15) f fd) (T : Bs mg bl) : FnOk P w K mg base CX0 (k + 1) f fd ["edges"] spNeg := by
  refine F.ok sc_negative_edges (fun vs H Q E h => ?_) (fun cdv A outer s H vs Q E hr h => ?_)
  · obtain ⟨b, as, es, rfl, _⟩ := h
    rfl
  · obtain ⟨b, as, es, rfl, hb, he, l0, q⟩ := h
    refine ⟨_, (pss_one (ps_ret (pe_lc (own := [("edge", 1)]) (g := (gName 1)) (tt := (tTest (tOp (rI0 fun i j => .bl (decide (i < j))) (tOp (rIxT K) (tVar 1) (tC (.int 3))) (tC (.int 0))))) (te := (tVar 1)) rfl sc_negative_edges.nd (pi_list (pv 0)) (blkOk_by (N := nm_negative_edges) (sc := defScope (top 15)) (by decide +kernel)) (fun _ _ _ _ _ => pg_name (i := 1) sc_negative_edges.nd rfl (Or.inl rfl)) (fun _ _ _ _ _ => (pts_one (pt_cmpR op_lt (pe_ix ix_tup (pv 1) pe_int (fun _ _ => rfl)) pe_int (nomark _)))) (fun _ _ _ _ _ => (pv 1))))), ?_⟩
    have lae := he.len
    refine ⟨.ref b, rfl, b, rfl, ⟨_, Evl.sq_of hb⟩, fun D nD => lc_list (fun i H' => ∃ cs : List Addr, EgsAt H' cs ((es.take i).filter fun e => decide (e.2.2.2 < 0)) ∧ Evl.Ex H H' ∧ H' D = some (.lst (cs.map V.ref)) ∧ cs.length ≤ i) ⟨[], .nil, Evl.Ex.new nD, upd_same, Nat.le_refl _⟩
      (fun i H' _ ⟨_, _, e2, _⟩ => Evl.ex_l e2 (Evl.sq_of hb)) (fun i x H' hx z => ⟨rfl, ?_⟩) (fun H' z => ?_)⟩
    · obtain ⟨cs, hcs, e2, hD, lc⟩ := z
      rw [List.getElem?_map] at hx
      obtain ⟨a', ha', rfl⟩ := Option.map_eq_some_iff.mp hx
      obtain ⟨⟨n, u, v, l⟩, hei, hae⟩ := egs_get he ha'
      have li : i < as.length := (List.getElem?_eq_some_iff.mp ha').1
      refine ⟨.ref a', rfl, a', _, 3, .int l, rfl, rfl, .inl (.inl (e2 _ _ hae)), rfl, _, _, rfl, rfl, _, rfl, ?_⟩
      by_cases hl : l < 0
      · have t1 : (es.take (i + 1)).filter (fun e => decide (e.2.2.2 < 0)) = (es.take i).filter (fun e => decide (e.2.2.2 < 0)) ++ [(n, u, v, l)] := by
          rw [List.take_add_one, hei, List.filter_append]
          show _ ++ List.filter _ [(n, u, v, l)] = _
          rw [List.filter_cons, if_pos (decide_eq_true hl)]
          rfl
        rw [decide_eq_true hl]
        refine ite2 (fun _ => ?_) (fun z => absurd rfl z)
        refine ⟨.ref a', rfl, _, hD, by rw [List.length_map]; exact Evl.sz_lt (by omega), cs ++ [a'], ?_, e2.mut nD, by rw [upd_same, List.map_append]; rfl, by rw [List.length_append]; exact Nat.succ_le_succ lc⟩
        have k : TK H' (upd H' D (.lst (cs.map V.ref ++ [.ref a']))) := TK.put (.inr ⟨_, hD⟩)
        rw [t1]
        exact paired_snoc (hcs.tk k) (k _ _ (e2 _ _ hae))
      · have t1 : (es.take (i + 1)).filter (fun e => decide (e.2.2.2 < 0)) = (es.take i).filter (fun e => decide (e.2.2.2 < 0)) := by
          rw [List.take_add_one, hei, List.filter_append]
          show _ ++ List.filter _ [(n, u, v, l)] = _
          rw [List.filter_cons, if_neg (by simpa using hl)]
          exact List.append_nil _
        rw [decide_eq_false hl]
        exact ite2 (fun z => absurd z (by decide)) fun _ => ⟨cs, by rw [t1]; exact hcs, e2, hD, by omega⟩
    · obtain ⟨cs, hcs, e2, hD, lc⟩ := z
      rw [List.length_map, lae, List.take_length] at hcs
      exact q D cs H' e2 nD hD hcs
theorem asc_take {α : Type} {f : α → Str} {xs : List α} (h : Asc f xs) {i : Nat} (hi : i < xs.length) : ∀ y ∈ xs.take i, sk (f y) < sk (f xs[i]) := fun y hy => by
  obtain ⟨j, hj, e⟩ := List.getElem_of_mem hy
  rw [List.length_take] at hj
  rw [List.getElem_take] at e
  rw [← e]
  exact List.pairwise_iff_getElem.mp h j i (by omega) hi (by omega)
theorem net_len {ns : List Str} {es : List Eg} (net : IsNet ns es) (l0 : ns.length ≤ 100) (l1 : es.length ≤ 200) : (netText ns es).length ≤ 20000 := by
  have lz : (linesOf ns es).length ≤ 300 := by
    unfold linesOf
    rw [List.length_append, List.length_map, List.length_map, (srtN_perm ns).length_eq, (srtE_perm _).length_eq, List.length_map]
    omega
  have sum := lines_sum lz (k := 40) fun y hy => by
    rcases List.mem_append.mp hy with hy | hy
    · obtain ⟨z, hz, rfl⟩ := List.mem_map.mp hy
      have := node_len (net.nm z ((srtN_perm ns).mem_iff.mp hz)).2.1
      omega
    · obtain ⟨e, h1, rfl⟩ := List.mem_map.mp hy
      obtain ⟨f, h2, rfl⟩ := List.mem_map.mp ((srtE_perm _).mem_iff.mp h1)
      exact edge_len (net.short h2).norm
  have g := PySem.size_glued ("\n" : String) (linesOf ns es)
  have : (netText ns es).length = _ := g
  rw [this, five.2.2.2.1]
  omega
/-- the nodes and edges of a text, ascending -/
def spRead : Sp := fun vs H Q _ => ∃ (ns : List Str) (es : List Eg), vs = [.str (netText ns es)] ∧ IsNet ns es ∧ 0 < ns.length ∧ ns.length ≤ 40 ∧ es.length ≤ 100 ∧ Few es ∧
  ∀ t a b bs H', Evl.Ex H H' → H t = none → H a = none → H b = none → H' t = some (.tup [.ref a, .ref b]) → H' a = some (.tup ((srtN ns).map V.str)) → H' b = some (.tup (bs.map V.ref)) → EgsAt H' bs (srtE (es.map norm)) → Q (.ref t) H'
theorem ok_read {f fO fN fC fE : Addr} {fd dO dN dC dE : FuncData} {k : Nat} (F : Fun K "read_parts" "read_parts" (top 51) f fd) (T : Bs mg bl) (c_MAX_ODD : mg "MAX_ODD" = some uO) (r_MAX_ODD : RelV (.int 10) uO) (kss : PySem.W.kitOne K (.type "str") (.type "str") = some true)
    (F_odd_nodes : Cf P w K mg base "odd_nodes" ["edges"] k spOdd fO dO) (F_negative_edges : Cf P w K mg base "negative_edges" ["edges"] k spNeg fN dN)
    (F_can_be_node : Cf P w K mg base "_can_be_node" ["words", "nodes", "edges"] k spCanN fC dC) (F_can_be_edge : Cf P w K mg base "_can_be_edge" ["words", "nodes", "edges"] k spCanE fE dE) : FnOk P w K mg base CX0 (k + 1) f fd ["text"] spRead := by
  refine F.ok sc_read_parts (fun vs H Q E h => ?_) (fun cdv A outer s H vs Q E hr h => ?_)
  · obtain ⟨ns, es, rfl, _⟩ := h
    rfl
  · obtain ⟨ns, es, rfl, net, n0, n1, m1, fw, q⟩ := h
    refine ⟨_, (pss_cons (ps_if (pt_not (pt_val (pe_callB call_isi (by rfl) (T.b "isinstance" (by decide)) (by decide +kernel) (pa_cons (pv 0) (pa_cons (pe_bltn (v := .ty "str") (by rfl) (T.b "str" (by decide)) (by decide +kernel) rfl) pa_nil))))) (pss_one ps_never) pss_nil)
      (pss_cons (ps_set (i := 1) sc_read_parts.nd rfl (Or.inl rfl) (pe_lst pa_nil))
      (pss_cons (ps_set (i := 2) sc_read_parts.nd rfl (Or.inl rfl) (pe_lst pa_nil))
      (pss_cons (ps_set (i := 3) sc_read_parts.nd rfl (Or.inl rfl) (pe_m1 PySem.F.slot_str_split PySem.F.type_str_split mt_split (pv 0) pe_str))
      (pss_cons (ps_for PassesOwn.never rfl (pi_enum (by rfl) (T.b "enumerate" (by decide)) (pa_cons (pv 3) pa_nil)) (pg_tup rfl (pgs_cons (pg_name (i := 4) sc_read_parts.nd rfl (Or.inl rfl)) (pgs_cons (pg_name (i := 5) sc_read_parts.nd rfl (Or.inl rfl)) pgs_nil))) (pss_cons (ps_set (i := 6) sc_read_parts.nd rfl (Or.inl rfl) (pe_m1 PySem.F.slot_str_split PySem.F.type_str_split mt_split (pv 5) pe_str))
      (pss_one (ps_if (pt_val (pe_cf F_can_be_node (hr.mono (by omega)) (by rfl) (pa_cons (pv 6) (pa_cons (pv 1) (pa_cons (pv 2) pa_nil))))) (pss_one (ps_expr (pe_bm PySem.F.plainAttrs_list PySem.F.slot_list_append PySem.F.type_list_append mt_append (pv 1) (pa_cons (pe_ix ix_list (pv 6) pe_int (fun _ _ => rfl)) pa_nil)))) (pss_one (ps_if (pt_val (pe_cf F_can_be_edge (hr.mono (by omega)) (by rfl) (pa_cons (pv 6) (pa_cons (pv 1) (pa_cons (pv 2) pa_nil))))) (pss_one (ps_expr (pe_bm PySem.F.plainAttrs_list PySem.F.slot_list_append PySem.F.type_list_append mt_append (pv 2) (pa_cons (pe_tup (pa_cons (pe_ix ix_list (pv 6) pe_int (fun _ _ => rfl)) (pa_cons (pe_ix ix_list (pv 6) pe_int (fun _ _ => rfl)) (pa_cons (pe_ix ix_list (pv 6) pe_int (fun _ _ => rfl)) (pa_cons (pe_callTy call_int_str (by rfl) (T.b "int" (by decide)) (by decide +kernel) (pa_cons (pe_ix ix_list (pv 6) pe_int (fun _ _ => rfl)) pa_nil)) pa_nil))))) pa_nil)))) (pss_one ps_never)))))))
      (pss_cons (ps_if (pt_cmpR op_gt (pe_callB call_len_seq (by rfl) (T.b "len" (by decide)) (by decide +kernel) (pa_cons (pe_cf F_odd_nodes (hr.mono (by omega)) (by rfl) (pa_cons (pe_cf F_negative_edges (hr.mono (by omega)) (by rfl) (pa_cons (pv 2) pa_nil)) pa_nil)) pa_nil)) (pe_glob rfl c_MAX_ODD r_MAX_ODD) (nomark _)) (pss_one ps_never) pss_nil)
      (pss_one (ps_ret (pe_tup (pa_cons (pe_callTy call_tuple_of (by rfl) (T.b "tuple" (by decide)) (by decide +kernel) (pa_cons (pv 1) pa_nil)) (pa_cons (pe_callTy call_tuple_of (by rfl) (T.b "tuple" (by decide)) (by decide +kernel) (pa_cons (pv 2) pa_nil)) pa_nil))))))))))), ?_⟩
    have tl := net_len net (by omega) (by omega)
    have g0 := five
    refine Evl.q_when (b := false) (Evl.et_is (Evl.et_not (Evl.et_B (ev_isi (.base (.str _)) kss (Evl.ev_var rfl)))) rfl) (fun hb => absurd hb (by decide)) (fun hb H1 e1 => ?_)
    refine Evl.q_asgL (Evl.el_lst Evl.ea_nil (by simp)) fun nl H2 nn e2 hn2 => Evl.q_asgL (Evl.el_lst Evl.ea_nil (by simp)) fun el H3 ne e3 he3 => ?_
    refine ⟨.str (netText ns es), rfl, ⟨_, rfl⟩, netText ns es, "\n", rfl, rfl, by rw [g0.2.2.2.1]; rfl, by rw [sizeLine_eq]; omega, fun lp np => ?_⟩
    rw [split_lines net n0]
    have hn3 := e3 _ _ hn2
    have d1 : el ≠ nl := apart hn2 ne
    have d2 : lp ≠ nl := apart hn3 np
    have d3 : lp ≠ el := apart he3 np
    have fn : H nl = none := Evl.fresh_back e1 nn
    have fe : H el = none := Evl.fresh_back (e1.trans e2) ne
    have lenN : (srtN ns).length = ns.length := (srtN_perm ns).length_eq
    have lenE : (srtE (es.map norm)).length = es.length := by
      rw [(srtE_perm _).length_eq, List.length_map]
    refine q_forEnum (Evl.ea_cons (Evl.ev_var rfl) Evl.ea_nil) (.inl (.inl upd_same)) (fun i σ' H' => ∃ x4 x5 x6 cs, σ' = [some (.str (netText ns es)), some (.ref nl), some (.ref el), some (.ref lp), x4, x5, x6] ∧ Evl.Ex H H' ∧ H' nl = some (.lst (((srtN ns).take i).map V.str)) ∧ H' el = some (.lst (cs.map V.ref)) ∧
      EgsAt H' cs ((srtE (es.map norm)).take (i - ns.length)) ∧ H' lp = some (.lst ((linesOf ns es).map V.str))) (fun H4 e4 => ⟨none, none, none, [], rfl, (((e1.trans e2).trans e3).trans (Evl.Ex.new np)).trans e4, e4 _ _ (Evl.Ex.new np _ _ hn3), e4 _ _ (Evl.Ex.new np _ _ he3), by rw [Nat.zero_sub]; exact .nil, e4 _ _ upd_same⟩)
      (fun i σ' H' ⟨_, _, _, _, _, _, _, _, _, h⟩ => Evl.sq_of h) (fun i x TT σ' H' hx z nT => ?_) (fun σ' H' z => ?_)
    · obtain ⟨x4, x5, x6, cs, rfl, eH, hn, he, hcs, hl⟩ := z
      rw [List.getElem?_map] at hx
      obtain ⟨line, hline, rfl⟩ := Option.map_eq_some_iff.mp hx
      have neT : ∀ {b o}, H' b = some o → (upd H' TT (.tup [.int (i : Nat), .str line])) b = some o := fun {b o} h => Evl.Ex.new nT _ _ h
      refine ⟨TT, _, rfl, .inl (.inl upd_same), rfl, _, _, rfl, _, _, rfl, rfl, ?_⟩
      have ll : line.length ≤ 40 := by
        rcases List.mem_append.mp (List.mem_of_getElem? hline) with hy | hy
        · obtain ⟨z, hz, rfl⟩ := List.mem_map.mp hy
          have := node_len (net.nm z ((srtN_perm ns).mem_iff.mp hz)).2.1
          omega
        · obtain ⟨e, h1, rfl⟩ := List.mem_map.mp hy
          obtain ⟨f, h2, rfl⟩ := List.mem_map.mp ((srtE_perm _).mem_iff.mp h1)
          exact edge_len (net.short h2).norm
      refine ⟨.str line, rfl, ⟨_, rfl⟩, line, " ", rfl, rfl, by rw [g0.2.2.1]; rfl, by rw [sizeLine_eq]; omega, fun wp nwp => ?_⟩
      have e5 : Evl.Ex H' (upd (upd H' TT (.tup [.int (i : Nat), .str line])) wp (.lst ((Txt.split line " ").map V.str))) := (Evl.Ex.new nT).trans (Evl.Ex.new nwp)
      have hw : (upd (upd H' TT (.tup [.int (i : Nat), .str line])) wp (.lst ((Txt.split line " ").map V.str))) wp = some (.lst ((Txt.split line " ").map V.str)) := upd_same
      generalize (upd (upd H' TT (.tup [.int (i : Nat), .str line])) wp (.lst ((Txt.split line " ").map V.str))) = H5 at e5 hw ⊢
      have ln : (linesOf ns es)[i]? = some line := hline
      unfold linesOf at ln
      by_cases hi : i < ns.length
      · have hi' : i < (srtN ns).length := by omega
        rw [List.getElem?_append_left (by rw [List.length_map]; exact hi'), List.getElem?_map, List.getElem?_eq_getElem hi'] at ln
        have hlz : line = nodeLine (srtN ns)[i] := (Option.some.inj ln).symm
        have nz : IsNm (srtN ns)[i] := net.nm _ ((srtN_perm ns).mem_iff.mp (List.getElem_mem hi'))
        rw [hlz, split_node nz.2.2] at hw
        rw [Nat.sub_eq_zero_of_le (Nat.le_of_lt hi)] at hcs
        have cs0 : cs = [] := by
          have := hcs.len
          exact List.eq_nil_of_length_eq_zero this
        subst cs0
        refine Evl.s_if (b := true) (Evl.et_B (Evl.ev_call (vs := [.ref wp, .ref nl, .ref el]) (Evl.ea_cons (Evl.ev_var rfl) (Evl.ea_cons (Evl.ev_var rfl) (Evl.ea_cons (Evl.ev_var rfl) Evl.ea_nil))) fun H6 e6 Q2 q2 _ => ⟨wp, nl, el, _, _, [], rfl, e6 _ _ hw, e6 _ _ (e5 _ _ hn), e6 _ _ (e5 _ _ he), by simp,
          .inl ⟨_, rfl, nz, rfl, by rw [List.length_take]; omega, asc_take (f := id) (srtN_asc net.nd) hi', fun H7 e7 => q2 H7 e7⟩⟩)) (fun hb H6 e6 => ?_) (fun hb => absurd hb (by decide))
        refine Evl.s_app (e6 _ _ (e5 _ _ hn)) (Evl.ev_var rfl) (ev_ixS (z := (srtN ns)[i]) (i := 1) (Evl.ev_var rfl) (e6 _ _ hw) Evl.ev_c rfl) (by rw [List.length_map, List.length_take]; omega) fun H7 e7 => ?_
        have e57 := (e5.trans e6).trans e7
        refine ⟨_, _, _, [], rfl, (eH.trans e57).mut fn, ?_, ?_, ?_, ?_⟩
        · rw [upd_same, List.take_add_one, List.getElem?_eq_getElem hi', List.map_append]
          rfl
        · rw [upd_ne d1]
          exact e57 _ _ he
        · rw [Nat.sub_eq_zero_of_le hi]
          exact .nil
        · rw [upd_ne d2]
          exact e57 _ _ hl
      · have hj : i - ns.length < (srtE (es.map norm)).length := by
          have := (List.getElem?_eq_some_iff.mp hline).1
          unfold linesOf at this
          rw [List.length_append, List.length_map, List.length_map] at this
          omega
        rw [List.getElem?_append_right (by rw [List.length_map]; omega), List.length_map, lenN, List.getElem?_map, List.getElem?_eq_getElem hj] at ln
        have hlz : line = edgeLine (srtE (es.map norm))[i - ns.length] := (Option.some.inj ln).symm
        have me : (srtE (es.map norm))[i - ns.length] ∈ es.map norm := (srtE_perm _).mem_iff.mp (List.getElem_mem hj)
        have tk := asc_take (srtE_asc (by rw [norm_names]; exact net.ed)) hj
        have tk1 : (srtE (es.map norm)).take (i + 1 - ns.length) = (srtE (es.map norm)).take (i - ns.length) ++ [(srtE (es.map norm))[i - ns.length]] := by
          rw [show i + 1 - ns.length = i - ns.length + 1 by omega, List.take_add_one, List.getElem?_eq_getElem hj]
          rfl
        obtain ⟨w1, w2, w3⟩ := norm_low net me
        obtain ⟨f, hf, ef⟩ := List.mem_map.mp me
        obtain ⟨h1, h2, h3, h4, h5, h6⟩ := net.em f hf
        generalize (srtE (es.map norm))[i - ns.length] = e at hlz me tk tk1 w1 w2 w3 ef
        rw [hlz, split_edge w1 w2 w3] at hw
        have inS : ∀ z, z ∈ ns → z ∈ (srtN ns).take i := fun z hz => by
          rw [List.take_of_length_le (by omega)]
          exact (srtN_perm ns).mem_iff.mpr hz
        have i2 : e.2.1 ∈ ns := by
          rw [← ef]
          show minS f.2.1 f.2.2.1 ∈ ns
          rcases min_or f.2.1 f.2.2.1 with z | z <;> rw [z] <;> assumption
        have i3 : e.2.2.1 ∈ ns := by
          rw [← ef]
          show maxS f.2.1 f.2.2.1 ∈ ns
          rcases max_or f.2.1 f.2.2.1 with z | z <;> rw [z] <;> assumption
        have n1' : IsNm e.1 := by
          rw [← ef]
          exact h1
        have uv : sk e.2.1 < sk e.2.2.1 := by
          rw [← ef]
          exact min_lt h4
        have b5 : -1000000 ≤ e.2.2.2 := by
          rw [← ef]
          exact h5
        have b6 : e.2.2.2 ≤ 1000000 := by
          rw [← ef]
          exact h6
        have il := isz_len b5 b6
        refine Evl.s_if (b := false) (Evl.et_B (Evl.ev_call (vs := [.ref wp, .ref nl, .ref el]) (Evl.ea_cons (Evl.ev_var rfl) (Evl.ea_cons (Evl.ev_var rfl) (Evl.ea_cons (Evl.ev_var rfl) Evl.ea_nil))) fun H6 e6 Q2 q2 _ => ⟨wp, nl, el, _, _, _, rfl, e6 _ _ hw, e6 _ _ (e5 _ _ hn), e6 _ _ (e5 _ _ he), by simp,
          .inr ⟨by simp, fun H7 e7 => q2 H7 e7⟩⟩)) (fun hb => absurd hb (by decide)) (fun hb H6 e6 => ?_)
        have he6 : EgsAt H6 cs ((srtE (es.map norm)).take (i - ns.length)) := (hcs.tk (TK.ex e5)).tk (TK.ex e6)
        refine Evl.s_if (b := true) (Evl.et_B (Evl.ev_call (vs := [.ref wp, .ref nl, .ref el]) (Evl.ea_cons (Evl.ev_var rfl) (Evl.ea_cons (Evl.ev_var rfl) (Evl.ea_cons (Evl.ev_var rfl) Evl.ea_nil))) fun H7 e7 Q2 q2 _ => ⟨wp, nl, el, _, _, _, e, rfl, e7 _ _ (e6 _ _ hw), e7 _ _ (e6 _ _ (e5 _ _ hn)), e7 _ _ (e6 _ _ (e5 _ _ he)), he6.tk (TK.ex e7),
          n1', inS _ i2, inS _ i3, uv, b5, b6, by rw [List.length_take]; omega, tk, fun H8 e8 => q2 H8 e8⟩)) (fun hb H7 e7 => ?_) (fun hb => absurd hb (by decide))
        have hw7 := e7 _ _ (e6 _ _ hw)
        have he7 := e7 _ _ (e6 _ _ (e5 _ _ he))
        have lcs : cs.length ≤ 100 := by
          have := hcs.len
          rw [List.length_take] at this
          omega
        refine Evl.s_appU he7 (Evl.ev_var rfl) (Evl.eu_tup (vs := egV e) (Evl.ea_cons (ev_ixS (z := e.1) (i := 1) (Evl.ev_var rfl) hw7 Evl.ev_c rfl) (Evl.ea_cons (ev_ixS (z := e.2.1) (i := 2) (Evl.ev_var rfl) hw7 Evl.ev_c rfl) (Evl.ea_cons (ev_ixS (z := e.2.2.1) (i := 3) (Evl.ev_var rfl) hw7 Evl.ev_c rfl)
          (Evl.ea_cons (Evl.ev_cb (vs := [.str (isz e.2.2.2)]) (Evl.ea_cons (ev_ixS (i := 4) (Evl.ev_var rfl) hw7 Evl.ev_c rfl) Evl.ea_nil) fun H8 _ _ q => ⟨_, _, rfl, isz_reads b5 b6, by omega, q H8 (Evl.Ex.refl _)⟩) Evl.ea_nil)))) (by simp [egV])) (by rw [List.length_map]; omega) fun t H8 nt e8 ht => ?_
        have e58 := ((e5.trans e6).trans e7).trans e8
        have he8 := e58 _ _ he
        have tk8 : TK H8 (upd H8 el (.lst (cs.map V.ref ++ [.ref t]))) := TK.put (.inr ⟨_, he8⟩)
        refine ⟨_, _, _, cs ++ [t], rfl, (eH.trans e58).mut fe, ?_, ?_, ?_, ?_⟩
        · rw [upd_ne d1.symm, List.take_of_length_le (by omega)]
          have := e58 _ _ hn
          rwa [List.take_of_length_le (by omega)] at this
        · rw [upd_same, List.map_append]
          rfl
        · rw [tk1]
          exact paired_snoc (((hcs.tk (TK.ex e58))).tk tk8) (tk8 _ _ ht)
        · rw [upd_ne d3]
          exact e58 _ _ hl
    · obtain ⟨x4, x5, x6, cs, rfl, eH, hn, he, hcs, hl⟩ := z
      have lx : (((linesOf ns es).map V.str)).length = ns.length + es.length := by
        unfold linesOf
        rw [List.length_map, List.length_append, List.length_map, List.length_map, lenN, lenE]
      rw [lx] at hn hcs
      rw [List.take_of_length_le (by omega)] at hn
      rw [List.take_of_length_le (by omega)] at hcs
      have ends : ∀ e ∈ (srtE (es.map norm)).filter fun e => decide (e.2.2.2 < 0), e.2.1 ∈ ns ∧ e.2.2.1 ∈ ns := fun e he => by
        have me : e ∈ es.map norm := (srtE_perm _).mem_iff.mp (List.mem_filter.mp he).1
        obtain ⟨f, hf, rfl⟩ := List.mem_map.mp me
        obtain ⟨h1, h2, h3, _⟩ := net.em f hf
        refine ⟨?_, ?_⟩
        · show minS f.2.1 f.2.2.1 ∈ ns
          rcases min_or f.2.1 f.2.2.1 with z | z <;> rw [z] <;> assumption
        · show maxS f.2.1 f.2.2.1 ∈ ns
          rcases max_or f.2.1 f.2.2.1 with z | z <;> rw [z] <;> assumption
      refine ⟨.ref el, rfl, el, cs, _, rfl, he, hcs, by omega, fun p ds H5 e5 np' hp hds => ⟨p, ds, _, ns, rfl, .inl hp, hds, by have := List.length_filter_le (fun e : Eg => decide (e.2.2.2 < 0)) (srtE (es.map norm)); omega, by omega, ends, fun r ys H6 e6 nr hr ynd yin ysr => ⟨r, _, rfl, .inr (.inl (.inl hr)), _, _, rfl, rfl, _, rfl, ?_⟩⟩⟩
      have few : ¬ (10 : Int) < ((ys.map V.str).length : Int) := by
        have := fw.canon ys ynd fun y hy => (yin y).mp hy
        rw [List.length_map]
        omega
      refine ite2 (fun z => absurd (of_decide_eq_true z) few) fun _ => ?_
      have e56 := e5.trans e6
      refine ⟨.ref nl, rfl, nl, _, rfl, .inl ⟨Evl.sq_of (e56 _ _ hn), fun a na => ⟨.ref el, rfl, el, _, rfl, .inl ⟨Evl.sq_of (Evl.Ex.new na _ _ (e56 _ _ he)), fun b nb => ⟨by simp [sizeLine_eq], fun t nt => ?_⟩⟩⟩⟩⟩
      have ea := e56.trans (Evl.Ex.new (o := .tup ((srtN ns).map V.str)) na)
      have eb := ea.trans (Evl.Ex.new (o := .tup (cs.map V.ref)) nb)
      have et := eb.trans (Evl.Ex.new (o := .tup [.ref a, .ref b]) nt)
      exact q t a b cs _ (eH.trans et) (Evl.fresh_back (eH.trans eb) nt) (Evl.fresh_back (eH.trans e56) na) (Evl.fresh_back (eH.trans ea) nb) upd_same (Evl.Ex.new nt _ _ (Evl.Ex.new nb _ _ upd_same)) (Evl.Ex.new nt _ _ upd_same) (hcs.tk (TK.ex et))
end
end Lw

set_option maxHeartbeats 2000000
namespace Lw
open PySem PySem.Spec PyProof.Rows L2
open Evl (EvL EvA EvT RC)
abbrev nm__is_edge : List Str := ["nodes", "value", "name", "u", "v", "length"]
theorem sc__is_edge : FnScope nm__is_edge ["nodes", "value"] (defScope (top 33)) := ⟨rfl, rfl, rfl, by decide +kernel, rfl, by decide +kernel, by decide +kernel⟩
abbrev nm_checked_nodes : List Str := ["nodes", "found", "node"]
theorem sc_checked_nodes : FnScope nm_checked_nodes ["nodes"] (defScope (top 31)) := ⟨rfl, rfl, rfl, by decide +kernel, rfl, by decide +kernel, by decide +kernel⟩
abbrev nm_checked_edges : List Str := ["nodes", "edges", "found", "edge", "name"]
theorem sc_checked_edges : FnScope nm_checked_edges ["nodes", "edges"] (defScope (top 32)) := ⟨rfl, rfl, rfl, by decide +kernel, rfl, by decide +kernel, by decide +kernel⟩

theorem inV_str {z : Str} : ∀ {ns : List Str}, inV (.str z) (ns.map V.str) = decide (z ∈ ns)
  | [] => rfl
  | y :: ns => by
    have := inV_str (z := z) (ns := ns)
    unfold inV at this ⊢
    rw [List.map_cons, List.any_cons, this]
    by_cases e : y = z
    · subst e
      simp [eqV]
    · have : eqV (V.str y) (V.str z) = false := by simp [eqV, e]
      rw [this]
      simp [Ne.symm e]
section
variable {P : Program} {w : World} {K : PySem.W.Frag} {mg : Str → Option Value} {base : Heap} {uM uE uO : Value}
theorem ev_isiT {σ : St} {H : Hp} {ta : TE} {x : V} {t : Value} {n m : String} {b : Bool} (ht : TyX K H x t) (hk : PySem.W.kitAny K t [.type n, .type m] = some b) (h : Evl.Ev ta σ H x) :
    Evl.Ev (tCB (rIsiT K) (tCons ta (tCons (tTup (tCons (tC (.ty n)) (tCons (tC (.ty m)) tNil))) tNil))) σ H (.bl b) := fun H1 e Q q =>
  h H1 e _ fun H2 e2 => ⟨by simp [sizeLine_eq], fun p hp => ⟨x, p, _, t, _, b, rfl, upd_same, .cons (.ty n) (.cons (.ty m) .nil), tyX_ex ((e.trans e2).trans (Evl.Ex.new hp)) ht, hk, q _ (e2.trans (Evl.Ex.new hp))⟩⟩
theorem ev_din {σ : St} {H : Hp} {td ty : TE} {d : Addr} {kvs : List (Key × V)} {k : Key} {o : Option V} (hd : H d = some (.dK kvs)) (hv : valV kvs k = o) (hb : Evl.Ev ty σ H (kV k)) (ha : Evl.Ev td σ H (.ref d)) : Evl.Ev (tDIn ty td) σ H (.bl o.isSome) := fun H1 e Q q =>
  hb H1 e _ fun H2 e2 => ha H2 (e.trans e2) _ fun H3 e3 => ⟨d, o, rfl, .inl ⟨kvs, k, .inl (e3 _ _ (e2 _ _ (e _ _ hd))), rfl, hv.symm⟩, q H3 (e2.trans e3)⟩
theorem ev_lenD {σ : St} {H : Hp} {td : TE} {d : Addr} {kvs : List (Key × V)} (hd : H d = some (.dK kvs)) (ha : Evl.Ev td σ H (.ref d)) : Evl.Ev (tCB (fun xs H Q => ∃ a kvs, xs = [V.ref a] ∧ H a = some (.dK kvs) ∧ Q (.int kvs.length) H) (tCons td tNil)) σ H (.int (kvs.length : Nat)) := fun H1 e Q q =>
  ha H1 e _ fun H2 e2 => ⟨d, kvs, rfl, e2 _ _ (e _ _ hd), q H2 e2⟩
/-- a part of an edge by its place -/
theorem ev_eg {σ : St} {H : Hp} {ta tb : TE} {a : Addr} {e : Eg} {i : Int} {v : V} (ha : Evl.Ev ta σ H (.ref a)) (hb : Evl.Ev tb σ H (.int i)) (h : H a = some (.tup (egV e))) (hv : atI (egV e) i = some v) : Evl.Ev (tOp (rIxT K) ta tb) σ H v := Evl.ev_op ha hb (Evl.rv_ixT (Evl.st_of h) hv)
/-- a valid edge -/
def spIsEdge : Sp := fun vs H Q _ => ∃ (t a : Addr) (ns : List Str) (e : Eg), vs = [V.ref t, .ref a] ∧ H t = some (.tup (ns.map V.str)) ∧ H a = some (.tup (egV e)) ∧ IsNm e.1 ∧ e.2.1 ∈ ns ∧ e.2.2.1 ∈ ns ∧ e.2.1 ≠ e.2.2.1 ∧ -1000000 ≤ e.2.2.2 ∧ e.2.2.2 ≤ 1000000 ∧ ∀ H', Evl.Ex H H' → Q (.bl true) H'
theorem ok_isedge {f fN fL : Addr} {fd dN dL : FuncData} {k : Nat} (F : Fun K "_is_edge" "_is_edge" (top 33) f fd) (T : Bs mg bl) (ktt : PySem.W.kitOne K (.type "tuple") (.type "tuple") = some true)
    (F_is_name : Cf P w K mg base "is_name" ["value"] k (spName K) fN dN) (F_is_length : Cf P w K mg base "is_length" ["value"] k (spLen K) fL dL) : FnOk P w K mg base CX0 (k + 1) f fd ["nodes", "value"] spIsEdge := by
  refine F.ok sc__is_edge (fun vs H Q E h => ?_) (fun cdv A outer s H vs Q E hr h => ?_)
  · obtain ⟨t, a, ns, e, rfl, _⟩ := h
    rfl
  · obtain ⟨t, a, ns, ⟨n, u, v, l⟩, rfl, ht, ha, h1, h2, h3, h4, h5, h6, q⟩ := h
    refine ⟨_, (pss_cons (ps_if (PW.pt (pw_or (pt_not (pt_val (pe_callB call_isi (by rfl) (T.b "isinstance" (by decide)) (by decide +kernel) (pa_cons (pv 1) (pa_cons (pe_bltn (v := .ty "tuple") (by rfl) (T.b "tuple" (by decide)) (by decide +kernel) rfl) pa_nil))))) (pw_or1 (pt_cmpR op_ne (pe_callB call_len_seq (by rfl) (T.b "len" (by decide)) (by decide +kernel) (pa_cons (pv 1) pa_nil)) pe_int (nomark _))))) (pss_one (ps_ret pe_bl)) pss_nil)
      (pss_cons (ps_asg (pv 1) (pg_tup rfl (pgs_cons (pg_name (i := 2) sc__is_edge.nd rfl (Or.inl rfl)) (pgs_cons (pg_name (i := 3) sc__is_edge.nd rfl (Or.inl rfl)) (pgs_cons (pg_name (i := 4) sc__is_edge.nd rfl (Or.inl rfl)) (pgs_cons (pg_name (i := 5) sc__is_edge.nd rfl (Or.inl rfl)) pgs_nil))))))
      (pss_one (ps_ret (pe_and (pe_cf F_is_name (hr.mono (by omega)) (by rfl) (pa_cons (pv 2) pa_nil)) (pe_and (pe_cmpR op_in_seq (pv 3) (pv 0) rfl) (pe_and (pe_cmpR op_in_seq (pv 4) (pv 0) rfl) (pe_and (pe_cmpR op_ne (pv 3) (pv 4) (nomark _)) (pe_one (pe_cf F_is_length (hr.mono (by omega)) (by rfl) (pa_cons (pv 5) pa_nil))))))))))), ?_⟩
    refine Evl.q_when (b := false) (Evl.et_is (Evl.et_or (Evl.et_not (Evl.et_B (ev_isi (.base (.tup ha)) ktt (Evl.ev_var rfl)))) fun _ => Evl.et_test (Evl.ev_op (ev_lenT (Evl.ev_var rfl) (.inr (Evl.st_of ha))) Evl.ev_c (Evl.rv_ne rfl))) rfl) (fun hb => absurd hb (by decide)) (fun hb H1 e1 => ?_)
    have ha1 := e1 _ _ ha
    have ht1 := e1 _ _ ht
    refine ⟨.ref a, rfl, a, _, rfl, .inl (.inl ha1), rfl, _, _, rfl, _, _, rfl, _, _, rfl, _, _, rfl, rfl, ?_⟩
    refine Evl.s_ret (Evl.ev_is (Evl.ev_andV (ev_name (Evl.ev_var rfl) h1) fun _ => Evl.ev_andV (Evl.ev_op (Evl.ev_var rfl) (Evl.ev_var rfl) (Evl.rv_isT (Evl.st_of ht1) rfl (flat_strs _))) fun _ => Evl.ev_andV (Evl.ev_op (Evl.ev_var rfl) (Evl.ev_var rfl) (Evl.rv_isT (Evl.st_of ht1) rfl (flat_strs _))) fun _ =>
      Evl.ev_andV (Evl.ev_op (Evl.ev_var rfl) (Evl.ev_var rfl) (Evl.rv_ne rfl)) fun _ => Evl.ev_call (vs := [.int l]) (Evl.ea_cons (Evl.ev_var rfl) Evl.ea_nil) fun H2 _ Q2 q2 _ => .inl ⟨l, rfl, q2⟩) ?_) fun H2 e2 => q H2 (e1.trans e2)
    have h2 : u ∈ ns := h2
    have h3 : v ∈ ns := h3
    have h4 : ¬ V.str u = V.str v := fun z => h4 (V.str.inj z)
    rw [inV_str, inV_str, decide_eq_true h2, decide_eq_true h3, decide_eq_false h4]
    unfold lenB
    rw [decide_eq_true h5, decide_eq_true h6]
    rfl
/-- valid nodes, a list or a tuple: a new tuple, ascending -/
def spChN : Sp := fun vs H Q _ => ∃ (a : Addr) (ns : List Str), vs = [V.ref a] ∧ (H a = some (.lst (ns.map V.str)) ∨ H a = some (.tup (ns.map V.str))) ∧ (∀ y ∈ ns, IsNm y) ∧ ns.Nodup ∧ 0 < ns.length ∧ ns.length ≤ 40 ∧
  ∀ t H', Evl.Ex H H' → H t = none → H' t = some (.tup ((srtN ns).map V.str)) → Q (.ref t) H'
theorem ok_chnodes {f fN : Addr} {fd dN : FuncData} {k : Nat} (F : Fun K "checked_nodes" "checked_nodes" (top 31) f fd) (T : Bs mg bl) (c_MAX_NODES : mg "MAX_NODES" = some uM) (r_MAX_NODES : RelV (.int 40) uM)
    (kl : PySem.W.kitAny K (.type "list") [.type "list", .type "tuple"] = some true) (kt : PySem.W.kitAny K (.type "tuple") [.type "list", .type "tuple"] = some true)
    (F_is_name : Cf P w K mg base "is_name" ["value"] k (spName K) fN dN) : FnOk P w K mg base CX0 (k + 1) f fd ["nodes"] spChN := by
  refine F.ok sc_checked_nodes (fun vs H Q E h => ?_) (fun cdv A outer s H vs Q E hr h => ?_)
  · obtain ⟨a, ns, rfl, _⟩ := h
    rfl
  · obtain ⟨a, ns, rfl, ha, nm, nd, n0, n1, q⟩ := h
    refine ⟨_, (pss_cons (ps_if (pt_not (pt_val (pe_callB call_isiT (by rfl) (T.b "isinstance" (by decide)) (by decide +kernel) (pa_cons (pv 0) (pa_cons (pe_tup (pa_cons (pe_bltn (v := .ty "list") (by rfl) (T.b "list" (by decide)) (by decide +kernel) rfl) (pa_cons (pe_bltn (v := .ty "tuple") (by rfl) (T.b "tuple" (by decide)) (by decide +kernel) rfl) pa_nil))) pa_nil))))) (pss_one ps_never) pss_nil)
      (pss_cons (ps_set (i := 1) sc_checked_nodes.nd rfl (Or.inl rfl) (pe_lst pa_nil))
      (pss_cons (ps_for PassesOwn.never rfl (pi_or (pi_list (pv 0)) (pi_tup (pv 0))) (pg_name (i := 2) sc_checked_nodes.nd rfl (Or.inl rfl)) (pss_cons (ps_if (PW.pt (pw_or (pt_not (pt_val (pe_cf F_is_name (hr.mono (by omega)) (by rfl) (pa_cons (pv 2) pa_nil)))) (pw_or (pt_cmpR op_in_seq (pv 2) (pv 1) rfl) (pw_or1 (pt_cmpR op_eq (pe_callB call_len_seq (by rfl) (T.b "len" (by decide)) (by decide +kernel) (pa_cons (pv 1) pa_nil)) (pe_glob rfl c_MAX_NODES r_MAX_NODES) (nomark _)))))) (pss_one ps_never) pss_nil)
      (pss_one (ps_expr (pe_bm PySem.F.plainAttrs_list PySem.F.slot_list_append PySem.F.type_list_append mt_append (pv 1) (pa_cons (pv 2) pa_nil))))))
      (pss_cons (ps_if (pt_not (pt_truth (pv 1) (fun _ => rfl))) (pss_one ps_never) pss_nil)
      (pss_one (ps_ret (pe_callTy call_tuple_of (by rfl) (T.b "tuple" (by decide)) (by decide +kernel) (pa_cons (pe_callB (cr_sortedD hr) (by rfl) (T.b "sorted" (by decide)) (by decide +kernel) (pa_cons (pv 1) pa_nil)) pa_nil)))))))), ?_⟩
    obtain ⟨t, ht, hk⟩ : ∃ t, TyX K H (.ref a) t ∧ PySem.W.kitAny K t [.type "list", .type "tuple"] = some true := ha.elim (fun h => ⟨_, .base (.lst h), kl⟩) fun h => ⟨_, .base (.tup h), kt⟩
    refine Evl.q_when (b := false) (Evl.et_is (Evl.et_not (Evl.et_B (ev_isiT ht hk (Evl.ev_var rfl)))) rfl) (fun hb => absurd hb (by decide)) (fun hb H1 e1 => ?_)
    refine Evl.q_asgL (Evl.el_lst Evl.ea_nil (by simp)) fun fo H2 nf e2 hf => ?_
    have e12 := e1.trans e2
    have ff : H fo = none := Evl.fresh_back e1 nf
    refine q_forSeq (xs := ns.map V.str) e12 (Evl.ev_var rfl) ha (fun i σ' H' => ∃ x2, σ' = [some (.ref a), some (.ref fo), x2] ∧ Evl.Ex H H' ∧ H' fo = some (.lst ((ns.take i).map V.str))) (fun H3 e3 => ⟨none, rfl, e12.trans e3, e3 _ _ hf⟩) (fun i σ' H' ⟨_, _, e, _⟩ => e) (fun i x σ' H' hx z => ?_) (fun σ' H' z => ?_)
    · obtain ⟨x2, rfl, eH, hfo⟩ := z
      rw [List.getElem?_map] at hx
      obtain ⟨z, hz, rfl⟩ := Option.map_eq_some_iff.mp hx
      have li : i < ns.length := (List.getElem?_eq_some_iff.mp hz).1
      have mz : z ∈ ns := List.mem_of_getElem? hz
      have tk : ns.take (i + 1) = ns.take i ++ [z] := by
        rw [List.take_add_one, hz]
        rfl
      have out : ¬ z ∈ ns.take i := fun hm => by
        have nd2 : (ns.take i ++ [z]).Nodup := by
          rw [← tk]
          exact (List.take_sublist _ _).nodup nd
        exact (List.nodup_append.mp nd2).2.2 _ hm _ (List.mem_singleton.mpr rfl) rfl
      have lt : (ns.take i).length < 40 := by
        rw [List.length_take]
        omega
      refine g_name ?_
      dsimp only
      refine Evl.q_when (b := false) (Evl.et_is (Evl.et_or (Evl.et_not (Evl.et_B (ev_name (Evl.ev_var rfl) (nm z mz)))) fun _ => Evl.et_or (Evl.et_test (Evl.ev_op (Evl.ev_var rfl) (Evl.ev_var rfl) (Evl.rv_isL (Evl.sq_of hfo) rfl (flat_strs _)))) fun _ => Evl.et_test (Evl.ev_op (ev_lenT (Evl.ev_var rfl) (.inl (Evl.sq_of hfo))) (Evl.ev_c (v := .int 40)) (Evl.rv_eq rfl))) ?_) (fun hb => absurd hb (by decide)) (fun hb H3 e3 => ?_)
      · have n40 : ¬ V.int (((ns.take i).map V.str).length : Int) = V.int 40 := fun z => by
          have := V.int.inj z
          rw [List.length_map] at this
          omega
        rw [inV_str, decide_eq_false out, decide_eq_false n40]
        rfl
      · refine Evl.s_app (e3 _ _ hfo) (Evl.ev_var rfl) (Evl.ev_var rfl) (by rw [List.length_map]; omega) fun H4 e4 => ?_
        refine ⟨_, rfl, ((eH.trans e3).trans e4).mut ff, ?_⟩
        rw [upd_same, tk, List.map_append]
        rfl
    · obtain ⟨x2, rfl, eH, hfo⟩ := z
      rw [List.length_map, List.take_length] at hfo
      have ne : (ns.map V.str).isEmpty = false := by
        cases ns with
        | nil => exact absurd n0 (by decide)
        | cons => rfl
      refine Evl.q_when (b := false) (Evl.et_is (Evl.et_not (et_tru (Evl.ev_var rfl) hfo)) (by rw [ne]; rfl)) (fun hb => absurd hb (by decide)) (fun hb H3 e3 => ?_)
      refine ⟨.ref fo, rfl, ?_⟩
      refine g_nil ?_
      dsimp only
      refine rc_sortN (.inl (Evl.sq_of (e3 _ _ hfo))) (by omega) _ (Evl.Ex.refl _) _ fun p H5 np e5 hp => ⟨p, _, rfl, .inl ⟨Evl.sq_of hp, fun r nr => ?_⟩⟩
      exact q r _ (((eH.trans e3).trans e5).trans (Evl.Ex.new nr)) (Evl.fresh_back ((eH.trans e3).trans e5) nr) upd_same
/-- valid edges, a list or a tuple: a new tuple, ascending, the lesser ends first -/
def spChE : Sp := fun vs H Q _ => ∃ (t a : Addr) (ms ns : List Str) (as : List Addr) (es : List Eg), vs = [V.ref t, .ref a] ∧ H t = some (.tup (ms.map V.str)) ∧ ms.Perm ns ∧ (H a = some (.lst (as.map V.ref)) ∨ H a = some (.tup (as.map V.ref))) ∧ EgsAt H as es ∧ IsNet ns es ∧ es.length ≤ 100 ∧ ns.length ≤ 1000 ∧ Few es ∧
  ∀ r bs H', Evl.Ex H H' → H r = none → H' r = some (.tup (bs.map V.ref)) → EgsAt H' bs (srtE (es.map norm)) → Q (.ref r) H'
theorem ok_chedges {f fN fO fI fD : Addr} {fd dN dO dI dD : FuncData} {k : Nat} (F : Fun K "checked_edges" "checked_edges" (top 32) f fd) (T : Bs mg bl) (c_MAX_EDGES : mg "MAX_EDGES" = some uE) (r_MAX_EDGES : RelV (.int 100) uE) (c_MAX_ODD : mg "MAX_ODD" = some uO) (r_MAX_ODD : RelV (.int 10) uO)
    (kl : PySem.W.kitAny K (.type "list") [.type "list", .type "tuple"] = some true) (kt : PySem.W.kitAny K (.type "tuple") [.type "list", .type "tuple"] = some true)
    (F_is_edge : Cf P w K mg base "_is_edge" ["nodes", "value"] k spIsEdge fI dI) (F_edge_in_order : Cf P w K mg base "edge_in_order" ["edge"] k spOrd fO dO)
    (F_odd_nodes : Cf P w K mg base "odd_nodes" ["edges"] k spOdd fD dD) (F_negative_edges : Cf P w K mg base "negative_edges" ["edges"] k spNeg fN dN) : FnOk P w K mg base CX0 (k + 1) f fd ["nodes", "edges"] spChE := by
  refine F.ok sc_checked_edges (fun vs H Q E h => ?_) (fun cdv A outer s H vs Q E hr h => ?_)
  · obtain ⟨t, a, ms, ns, as, es, rfl, _⟩ := h
    rfl
  · obtain ⟨t, a, ms, ns, as, es, rfl, ht, pm, ha, he, net, l1, l2, fw, q⟩ := h
    refine ⟨_, (pss_cons (ps_if (pt_not (pt_val (pe_callB call_isiT (by rfl) (T.b "isinstance" (by decide)) (by decide +kernel) (pa_cons (pv 1) (pa_cons (pe_tup (pa_cons (pe_bltn (v := .ty "list") (by rfl) (T.b "list" (by decide)) (by decide +kernel) rfl) (pa_cons (pe_bltn (v := .ty "tuple") (by rfl) (T.b "tuple" (by decide)) (by decide +kernel) rfl) pa_nil))) pa_nil))))) (pss_one ps_never) pss_nil)
      (pss_cons (ps_set (i := 2) sc_checked_edges.nd rfl (Or.inr rfl) pe_dnewK)
      (pss_cons (ps_for PassesOwn.never rfl (pi_or (pi_list (pv 1)) (pi_tup (pv 1))) (pg_name (i := 3) sc_checked_edges.nd rfl (Or.inl rfl)) (pss_cons (ps_if (PW.pt (pw_or (pt_not (pt_val (pe_cf F_is_edge (hr.mono (by omega)) (by rfl) (pa_cons (pv 0) (pa_cons (pv 3) pa_nil))))) (pw_or1 (pt_cmp (pc_din (hu_of hr) (pe_ix ix_tup (pv 3) pe_int (fun _ _ => rfl)) (pv 2)))))) (pss_one ps_never) pss_nil)
      (pss_one (ps_dput (hu_of hr) (pv 2) (pe_ix ix_tup (pv 3) pe_int (fun _ _ => rfl)) (pe_cf F_edge_in_order (hr.mono (by omega)) (by rfl) (pa_cons (pv 3) pa_nil)) rfl))))
      (pss_cons (ps_if (pt_cmpR op_gt (pe_callB call_lenD (by rfl) (T.b "len" (by decide)) (by decide +kernel) (pa_cons (pv 2) pa_nil)) (pe_glob rfl c_MAX_EDGES r_MAX_EDGES) (nomark _)) (pss_one ps_never) pss_nil)
      (pss_cons (ps_if (pt_cmpR op_gt (pe_callB call_len_seq (by rfl) (T.b "len" (by decide)) (by decide +kernel) (pa_cons (pe_cf F_odd_nodes (hr.mono (by omega)) (by rfl) (pa_cons (pe_cf F_negative_edges (hr.mono (by omega)) (by rfl) (pa_cons (pe_listVals rfl (by rfl) (T.b "list" (by decide)) (pv 2)) pa_nil)) pa_nil)) pa_nil)) (pe_glob rfl c_MAX_ODD r_MAX_ODD) (nomark _)) (pss_one ps_never) pss_nil)
      (pss_one (ps_ret (pe_callTy call_tuple_of (by rfl) (T.b "tuple" (by decide)) (by decide +kernel) (pa_cons (pe_lc (own := [("name", 4)]) (g := (gName 4)) (tt := tYes) (te := (tDGet (tVar 2) (tVar 4))) rfl sc_checked_edges.nd (pi_list (pe_callB (call_sortedDA hr rfl) (by rfl) (T.b "sorted" (by decide)) (by decide +kernel) (pa_cons (pv 2) pa_nil))) (blkOk_by (N := nm_checked_edges) (sc := defScope (top 32)) (by decide +kernel)) (fun _ _ _ _ _ => pg_name (i := 4) sc_checked_edges.nd rfl (Or.inl rfl)) (fun _ _ _ _ _ => pts_nil) (fun _ _ _ _ _ => (pe_dget (hu_of hr) (pv 2) (pv 4) (fun _ _ => rfl)))) pa_nil))))))))), ?_⟩
    obtain ⟨ty, hty, hk⟩ : ∃ t, TyX K H (.ref a) t ∧ PySem.W.kitAny K t [.type "list", .type "tuple"] = some true := ha.elim (fun h => ⟨_, .base (.lst h), kl⟩) fun h => ⟨_, .base (.tup h), kt⟩
    refine Evl.q_when (b := false) (Evl.et_is (Evl.et_not (Evl.et_B (ev_isiT hty hk (Evl.ev_var rfl)))) rfl) (fun hb => absurd hb (by decide)) (fun hb H1 e1 => ?_)
    refine fun fo nf => ?_
    refine g_name ?_
    dsimp only
    have e12 : Evl.Ex H (upd H1 fo (.dK [])) := e1.trans (Evl.Ex.new nf)
    have hf : (upd H1 fo (.dK [])) fo = some (.dK []) := upd_same
    have ff : H fo = none := Evl.fresh_back e1 nf
    generalize (upd H1 fo (.dK [])) = H2 at e12 hf ⊢
    refine q_forSeq (xs := as.map V.ref) e12 (Evl.ev_var rfl) ha (fun i σ' H' => ∃ x3 cs, σ' = [some (.ref t), some (.ref a), some (.ref fo), x3, none] ∧ Evl.Ex H H' ∧ H' fo = some (.dK (edKv ((es.take i).map norm) cs)) ∧ EgsAt H' cs ((es.take i).map norm)) (fun H3 e3 => ⟨none, [], rfl, e12.trans e3, e3 _ _ hf, .nil⟩) (fun i σ' H' ⟨_, _, _, e, _⟩ => e) (fun i x σ' H' hx z => ?_) (fun σ' H' z => ?_)
    · obtain ⟨x3, cs, rfl, eH, hfo, hcs⟩ := z
      rw [List.getElem?_map] at hx
      obtain ⟨a', ha', rfl⟩ := Option.map_eq_some_iff.mp hx
      obtain ⟨e, hei, hae⟩ := egs_get he ha'
      have li : i < es.length := (List.getElem?_eq_some_iff.mp hei).1
      have me : e ∈ es := List.mem_of_getElem? hei
      obtain ⟨m1, m2, m3, m4, m5, m6⟩ := net.em e me
      have tk : es.take (i + 1) = es.take i ++ [e] := by
        rw [List.take_add_one, hei]
        rfl
      have out : ¬ e.1 ∈ ((es.take i).map norm).map (·.1) := fun hm => by
        rw [norm_names] at hm
        have nd2 : ((es.take i).map (·.1) ++ [e.1]).Nodup := by
          have : (es.take i).map (·.1) ++ [e.1] = (es.take (i + 1)).map (·.1) := by
            rw [tk, List.map_append]
            rfl
          rw [this, List.map_take]
          exact (List.take_sublist _ _).nodup net.ed
        exact (List.nodup_append.mp nd2).2.2 _ hm _ (List.mem_singleton.mpr rfl) rfl
      have lcs : cs.length = ((es.take i).map norm).length := hcs.len
      have hv := edKv_none (as := cs) out
      refine g_name ?_
      dsimp only
      refine Evl.q_when (b := false) (Evl.et_is (Evl.et_or (Evl.et_not (Evl.et_B (Evl.ev_call (z := .bl true) (vs := [.ref t, .ref a']) (Evl.ea_cons (Evl.ev_var rfl) (Evl.ea_cons (Evl.ev_var rfl) Evl.ea_nil)) fun H2 e2 Q2 q2 _ => ⟨t, a', ms, e, rfl, e2 _ _ (eH _ _ ht), e2 _ _ (eH _ _ hae), m1, pm.mem_iff.mpr m2, pm.mem_iff.mpr m3, m4, m5, m6, q2⟩))) fun _ =>
        Evl.et_test (ev_din hfo hv (ev_eg (v := .str e.1) (Evl.ev_var rfl) Evl.ev_c (eH _ _ hae) rfl) (Evl.ev_var rfl))) rfl) (fun hb => absurd hb (by decide)) (fun hb H3 e3 => ?_)
      refine ⟨.ref a', rfl, a', e, rfl, e3 _ _ (eH _ _ hae), fun r H4 e4 nr hr4 => ⟨.ref fo, rfl, .ref a', rfl, a', egV e, 0, .str e.1, rfl, rfl, .inl (.inl (e4 _ _ (e3 _ _ (eH _ _ hae)))), rfl, fo, _, rfl, .inl ⟨_, Sum.inr e.1, e4 _ _ (e3 _ _ hfo), rfl, ?_, rfl⟩, ?_⟩⟩
      · rw [edKv_len lcs, List.length_map, List.length_take]
        exact Evl.sz_lt (by omega)
      · refine ⟨_, cs ++ [r], rfl, (((eH.trans e3).trans e4).mut ff), ?_, ?_⟩
        · rw [upd_same, putK_new _ hv, tk, List.map_append]
          show _ = some (HO.dK (edKv ((es.take i).map norm ++ [norm e]) (cs ++ [r])))
          rw [edKv_snoc lcs]
          rfl
        · have nfo : ∀ b xs, H4 b = some (.tup xs) → (upd H4 fo (.dK (putK (edKv ((es.take i).map norm) cs) (Sum.inr e.1) (.ref r)))) b = some (.tup xs) := fun b xs hb => by
            have : b ≠ fo := fun z => by
              rw [z, e4 _ _ (e3 _ _ hfo)] at hb
              exact nomatch hb
            rw [upd_ne this]
            exact hb
          rw [tk, List.map_append]
          exact paired_snoc (paired_imp (fun b f z => nfo _ _ (e4 _ _ (e3 _ _ z))) hcs) (nfo _ _ hr4)
    · obtain ⟨x3, cs, rfl, eH, hfo, hcs⟩ := z
      rw [List.length_map, he.len, List.take_length] at hfo hcs
      have lcs : cs.length = (es.map norm).length := hcs.len
      have les : (es.map norm).length = es.length := List.length_map _
      have nd : ((es.map norm).map (·.1)).Nodup := by
        rw [norm_names]
        exact net.ed
      have lkv : (edKv (es.map norm) cs).length = es.length := by rw [edKv_len lcs, les]
      refine Evl.q_when (b := false) (Evl.et_is (Evl.et_test (Evl.ev_op (ev_lenD hfo (Evl.ev_var rfl)) (Evl.ev_c (v := .int 100)) Evl.rv_I0)) (by rw [lkv]; exact decide_eq_false (by omega))) (fun hb => absurd hb (by decide)) (fun hb H3 e3 => ?_)
      have ends : ∀ e ∈ (es.map norm).filter fun e => decide (e.2.2.2 < 0), e.2.1 ∈ ns ∧ e.2.2.1 ∈ ns := fun e he => by
        have me : e ∈ es.map norm := (List.mem_filter.mp he).1
        obtain ⟨f, hf, rfl⟩ := List.mem_map.mp me
        obtain ⟨h1, h2, h3, _⟩ := net.em f hf
        refine ⟨?_, ?_⟩
        · show minS f.2.1 f.2.2.1 ∈ ns
          rcases min_or f.2.1 f.2.2.1 with z | z <;> rw [z] <;> assumption
        · show maxS f.2.1 f.2.2.1 ∈ ns
          rcases max_or f.2.1 f.2.2.1 with z | z <;> rw [z] <;> assumption
      refine ⟨.ref fo, rfl, fo, _, rfl, e3 _ _ hfo, fun p np => ?_⟩
      rw [edKv_vals lcs]
      have eN : Evl.Ex H3 (upd H3 p (.lst (cs.map V.ref))) := Evl.Ex.new np
      have hp0 : (upd H3 p (.lst (cs.map V.ref))) p = some (.lst (cs.map V.ref)) := upd_same
      generalize (upd H3 p (.lst (cs.map V.ref))) = H4 at eN hp0 ⊢
      refine ⟨p, cs, es.map norm, rfl, hp0, hcs.tk (TK.ex (e3.trans eN)), by omega, fun p2 ds H5 e5 np2 hp2 hds => ⟨p2, ds, _, ns, rfl, .inl hp2, hds, by have := List.length_filter_le (fun e : Eg => decide (e.2.2.2 < 0)) (es.map norm); omega, by omega, ends, fun r ys H6 e6 nr hr ynd yin ysr => ⟨r, _, rfl, .inr (.inl (.inl hr)), _, _, rfl, rfl, _, rfl, ?_⟩⟩⟩
      have few : ¬ (10 : Int) < ((ys.map V.str).length : Int) := by
        have := fw.norms ys ynd fun y hy => (yin y).mp hy
        rw [List.length_map]
        omega
      refine ite2 (fun z => absurd (of_decide_eq_true z) few) fun _ => ?_
      have e36 : Evl.Ex H' H6 := ((e3.trans eN).trans e5).trans e6
      have hfo6 := e36 _ _ hfo
      obtain ⟨bs, hb1, hb2⟩ := edAt_some hcs nd (l := srtE (es.map norm)) fun e he => (srtE_perm _).mem_iff.mp he
      rw [← srt_names nd] at hb1
      refine g_next ?_
      dsimp only
      refine g_ret (g_cb1 ?_)
      dsimp only
      refine (el_lcMap (K := K) (tl := tCB rSortedDA (tCons (tVar 2) tNil)) (te := tDGet (tVar 2) (tVar 4)) (j := 4) (vs := [4]) (σ := [some (.ref t), some (.ref a), some (.ref fo), x3, none]) (edAt (edKv (es.map norm) cs)) (Evl.el_cb (Evl.ea_cons (Evl.ev_var rfl) Evl.ea_nil) (rc_sortDA hfo6 (edKv_keys lcs) (by rw [List.length_map, les]; omega))) (by rw [List.length_map, (srtN_perm _).length_eq, List.length_map, les]; omega) (fun _ => rfl) (fun x hx H7 e7 => ?_)) H6 (Evl.Ex.refl _) _ fun l H7 nl e7 hl => ?_
      · obtain ⟨n, hn, rfl⟩ := List.mem_map.mp hx
        obtain ⟨e', a', m1, m2, m3, m4, m5⟩ := edKv_get hcs (n := n) ((srtN_perm _).mem_iff.mp hn)
        refine ev_dget (k := Sum.inr n) (e7 _ _ hfo6) ?_ (Evl.ev_var rfl) (Evl.ev_var rfl)
        show _ = some ((valV (edKv (es.map norm) cs) (Sum.inr n)).getD .non)
        rw [m5]
        rfl
      · refine ⟨l, _, rfl, .inl ⟨Evl.sq_of hl, fun r nr => ?_⟩⟩
        have eA : Evl.Ex H (upd H7 r (.tup (((srtN ((es.map norm).map (·.1))).map V.str).map (edAt (edKv (es.map norm) cs))))) := ((eH.trans e36).trans e7).trans (Evl.Ex.new nr)
        refine q r bs _ eA (Evl.fresh_back ((eH.trans e36).trans e7) nr) (by rw [upd_same, hb1]) (hb2.tk (TK.ex ((e36.trans e7).trans (Evl.Ex.new nr))))
end
end Lw

set_option maxHeartbeats 2000000
namespace Lw
open PySem PySem.Spec PyProof.Rows L2
open Evl (EvL EvA EvT RC)
abbrev nm_Network___init__ : List Str := ["self", "nodes", "edges", "edge"]
theorem sc_Network___init__ : FnScope nm_Network___init__ ["self", "nodes", "edges"] (defScope (inClass (top 59) 3)) := ⟨rfl, rfl, rfl, by decide +kernel, rfl, by decide +kernel, by decide +kernel⟩
abbrev nm_Network___eq__ : List Str := ["self", "other"]
theorem sc_Network___eq__ : FnScope nm_Network___eq__ ["self", "other"] (defScope (inClass (top 59) 16)) := ⟨rfl, rfl, rfl, by decide +kernel, rfl, by decide +kernel, by decide +kernel⟩
/-- the three fields of a network -/
def nwF (t r d : Addr) : List (Str × V) := putF "_by_name" (.ref d) (putF "_edges" (.ref r) (putF "_nodes" (.ref t) []))
theorem f12 : ¬ (("_nodes" : Str) = "_edges") := by decide +kernel
theorem f13 : ¬ (("_nodes" : Str) = "_by_name") := by decide +kernel
theorem f23 : ¬ (("_edges" : Str) = "_by_name") := by decide +kernel
theorem nw_nodes (t r d : Addr) : (nwF t r d).lookup ("_nodes" : Str) = some (.ref t) := by
  unfold nwF
  rw [lookup_putF, if_neg f13, lookup_putF, if_neg f12, lookup_putF, if_pos rfl]
theorem nw_edges (t r d : Addr) : (nwF t r d).lookup ("_edges" : Str) = some (.ref r) := by
  unfold nwF
  rw [lookup_putF, if_neg f23, lookup_putF, if_pos rfl]
theorem nw_names (t r d : Addr) : (nwF t r d).lookup ("_by_name" : Str) = some (.ref d) := by
  unfold nwF
  rw [lookup_putF, if_pos rfl]
/-- a network stands at x: its nodes and edges, ascending -/
def NetAt (C : Addr) (H : Hp) (x : Addr) (ns : List Str) (es : List Eg) : Prop := ∃ dx t r d bs, H x = some (.ins C dx (nwF t r d)) ∧ H t = some (.tup (ns.map V.str)) ∧ H r = some (.tup (bs.map V.ref)) ∧ EgsAt H bs es ∧ H d = some (.dK (edKv es bs))
theorem NetAt.ex {C : Addr} {H H' : Hp} {x : Addr} {ns : List Str} {es : List Eg} (e : Evl.Ex H H') (h : NetAt C H x ns es) : NetAt C H' x ns es := by
  obtain ⟨dx, t, r, d, bs, h1, h2, h3, h4, h5⟩ := h
  exact ⟨dx, t, r, d, bs, e _ _ h1, e _ _ h2, e _ _ h3, h4.tk (TK.ex e), e _ _ h5⟩
/-- what the text holds of the class -/
structure NwT (K : PySem.W.Frag) (C : Addr) : Prop where
  cl : Cls K C
  n1 : NoAttr K C "_nodes"
  n2 : NoAttr K C "_edges"
  n3 : NoAttr K C "_by_name"
section
variable {P : Program} {w : World} {K : PySem.W.Frag} {mg : Str → Option Value} {base : Heap} {C : Addr}
theorem ev_fldN {σ : St} {H : Hp} {ta : TE} {a dx : Addr} {fs : List (Str × V)} {f : Str} {v : V} (c : Cls K C) (n : NoAttr K C f) (h : H a = some (.ins C dx fs)) (l : fs.lookup f = some v) (ha : Evl.Ev ta σ H (.ref a)) : Evl.Ev (tFld K ta f) σ H v := fun H1 e Q q =>
  ha H1 e _ fun H2 e2 => ⟨a, C, dx, fs, v, rfl, e2 _ _ (e _ _ h), c, n, l, q H2 e2⟩
/-- a new network of valid nodes and edges -/
def spInit (C : Addr) : Sp := fun vs H Q _ => ∃ (x dx a b : Addr) (ns : List Str) (as : List Addr) (es : List Eg), vs = [V.ref x, .ref a, .ref b] ∧ H x = some (.ins C dx []) ∧ (H a = some (.lst (ns.map V.str)) ∨ H a = some (.tup (ns.map V.str))) ∧ (H b = some (.lst (as.map V.ref)) ∨ H b = some (.tup (as.map V.ref))) ∧ EgsAt H as es ∧
  IsNet ns es ∧ 0 < ns.length ∧ ns.length ≤ 40 ∧ es.length ≤ 100 ∧ Few es ∧ ∀ H', But x H H' → NetAt C H' x (srtN ns) (srtE (es.map norm)) → Q .non H'
theorem ok_init {f fN fE : Addr} {fd dN dE : FuncData} {k : Nat} {dvs : List V} (F : FunD K "__init__" "Network.__init__" (defArgs (inClass (top 59) 3)) (defBody (inClass (top 59) 3)) (defScope (inClass (top 59) 3)) dvs [] f fd) (T : Bs mg bl) (N : NwT K C)
    (F_checked_nodes : Cf P w K mg base "checked_nodes" ["nodes"] k spChN fN dN) (F_checked_edges : Cf P w K mg base "checked_edges" ["nodes", "edges"] k spChE fE dE) : FnOk P w K mg base CX0 (k + 1) f fd ["self", "nodes", "edges"] (spInit C) := by
  refine F.ok sc_Network___init__ (fun vs H Q E h => ?_) (fun cdv A outer s H vs Q E hr h => ?_)
  · obtain ⟨x, dx, a, b, ns, as, es, rfl, _⟩ := h
    rfl
  · obtain ⟨x, dx, a, b, ns, as, es, rfl, hx, ha, hb, he, net, n0, n1, n2, fw, q⟩ := h
    refine ⟨_, (pss_cons (ps_fld (pv 0) (pe_cf F_checked_nodes (hr.mono (by omega)) (by rfl) (pa_cons (pv 1) pa_nil)) rfl)
      (pss_cons (ps_fld (pv 0) (pe_cf F_checked_edges (hr.mono (by omega)) (by rfl) (pa_cons (pe_fld (pv 0) rfl) (pa_cons (pv 2) pa_nil))) rfl)
      (pss_one (ps_fld (pv 0) (pe_dc (own := [("edge", 3)]) (g := (gName 3)) (tt := tYes) (tk := (tOp (rIxT K) (tVar 3) (tC (.int 0)))) (tv := (tVar 3)) rfl sc_Network___init__.nd (pi_tup (pe_fld (pv 0) rfl)) (blkOk_by (N := nm_Network___init__) (sc := defScope (inClass (top 59) 3)) (by decide +kernel)) (fun _ _ _ _ _ => pg_name (i := 3) sc_Network___init__.nd rfl (Or.inl rfl)) (fun _ _ _ _ _ => pts_nil) (fun _ _ _ _ _ => (pe_ix ix_tup (pv 3) pe_int (fun _ _ => rfl))) (fun _ _ _ _ _ => (pv 3))) rfl)))), ?_⟩
    refine ⟨.ref a, rfl, a, ns, rfl, ha, net.nm, net.nd, n0, by omega, fun t H1 e1 nt ht => ⟨.ref x, rfl, x, C, dx, [], rfl, e1 _ _ hx, N.cl, N.n1, by decide, ?_⟩⟩
    have tx : t ≠ x := apart hx nt
    have b2 : But x H (upd H1 x (.ins C dx (putF "_nodes" (.ref t) []))) := (But.of e1).trans But.put
    have hx2 : (upd H1 x (.ins C dx (putF "_nodes" (.ref t) []))) x = some (.ins C dx (putF "_nodes" (.ref t) [])) := upd_same
    have ht2 : (upd H1 x (.ins C dx (putF "_nodes" (.ref t) []))) t = some (.tup ((srtN ns).map V.str)) := by
      rw [upd_ne tx]
      exact ht
    generalize (upd H1 x (.ins C dx (putF "_nodes" (.ref t) []))) = H2 at b2 hx2 ht2 ⊢
    have nx : ∀ {c : Addr} {o : HO}, H c = some o → (∀ C d fs, o ≠ .ins C d fs) → c ≠ x := fun {c o} hc n z => by
      rw [z, hx] at hc
      exact n _ _ _ (Option.some.inj hc).symm
    have tkH : ∀ {H' : Hp}, But x H H' → TK H H' := fun b c xs h => b c _ (nx h (by intro _ _ _ z; exact nomatch z)) h
    have hb2 : H2 b = some (.lst (as.map V.ref)) ∨ H2 b = some (.tup (as.map V.ref)) := hb.imp (fun h => b2 _ _ (nx h (by intro _ _ _ z; exact nomatch z)) h) fun h => b2 _ _ (nx h (by intro _ _ _ z; exact nomatch z)) h
    refine ⟨.ref x, rfl, x, C, dx, _, .ref t, rfl, hx2, N.cl, N.n1, by rw [lookup_putF, if_pos rfl], .ref b, rfl, t, b, srtN ns, ns, as, es, rfl, ht2, srtN_perm ns, hb2, he.tk (tkH b2), net, by omega, by omega, fw, fun r bs H3 e3 nr hr3 hbs => ⟨.ref x, rfl, x, C, dx, _, rfl, e3 _ _ hx2, N.cl, N.n2, by show 1 < 1000; decide, ?_⟩⟩
    have rx : r ≠ x := apart hx2 nr
    have b4 : But x H2 (upd H3 x (.ins C dx (putF "_edges" (.ref r) (putF "_nodes" (.ref t) [])))) := (But.of e3).trans But.put
    have hx4 : (upd H3 x (.ins C dx (putF "_edges" (.ref r) (putF "_nodes" (.ref t) [])))) x = some (.ins C dx (putF "_edges" (.ref r) (putF "_nodes" (.ref t) []))) := upd_same
    have hr4 : (upd H3 x (.ins C dx (putF "_edges" (.ref r) (putF "_nodes" (.ref t) [])))) r = some (.tup (bs.map V.ref)) := by
      rw [upd_ne rx]
      exact hr3
    have tk34 : TK H3 (upd H3 x (.ins C dx (putF "_edges" (.ref r) (putF "_nodes" (.ref t) [])))) := fun c xs h => by
      have : c ≠ x := fun z => by
        rw [z, e3 _ _ hx2] at h
        exact nomatch h
      rw [upd_ne this]
      exact h
    have hbs4 := hbs.tk tk34
    generalize (upd H3 x (.ins C dx (putF "_edges" (.ref r) (putF "_nodes" (.ref t) [])))) = H4 at b4 hx4 hr4 hbs4 ⊢
    have lb : bs.length = (srtE (es.map norm)).length := hbs4.len
    have le : (srtE (es.map norm)).length = es.length := by rw [(srtE_perm _).length_eq, List.length_map]
    have nd : ((srtE (es.map norm)).map (·.1)).Nodup := ((srtE_perm _).map _).nodup_iff.mpr (by rw [norm_names]; exact net.ed)
    refine ⟨.ref x, rfl, x, C, dx, _, .ref r, rfl, hx4, N.cl, N.n2, by rw [lookup_putF, if_pos rfl], r, rfl, ⟨_, Evl.st_of hr4⟩, fun D nD => ?_⟩
    refine dc_tup (K := K) (xs := bs.map V.ref) (fun i H' => Evl.Ex H4 H' ∧ H' D = some (.dK (edKv ((srtE (es.map norm)).take i) (bs.take i)))) ⟨Evl.Ex.new nD, upd_same⟩ (fun i H' _ ⟨e, _⟩ => Evl.ex_t e (Evl.st_of hr4)) (fun i y H' hy ⟨e, hD⟩ => ⟨rfl, ?_⟩) (fun H' ⟨e, hD⟩ => ?_)
    · rw [List.getElem?_map] at hy
      obtain ⟨a', ha', rfl⟩ := Option.map_eq_some_iff.mp hy
      obtain ⟨g, hgi, hag⟩ := egs_get hbs4 ha'
      have li : i < (srtE (es.map norm)).length := (List.getElem?_eq_some_iff.mp hgi).1
      have tk1 : (srtE (es.map norm)).take (i + 1) = (srtE (es.map norm)).take i ++ [g] := by
        rw [List.take_add_one, hgi]
        rfl
      have tk2 : bs.take (i + 1) = bs.take i ++ [a'] := by
        rw [List.take_add_one, ha']
        rfl
      have out : ¬ g.1 ∈ ((srtE (es.map norm)).take i).map (·.1) := fun hm => by
        have nd2 : (((srtE (es.map norm)).take i).map (·.1) ++ [g.1]).Nodup := by
          have : ((srtE (es.map norm)).take i).map (·.1) ++ [g.1] = ((srtE (es.map norm)).take (i + 1)).map (·.1) := by
            rw [tk1, List.map_append]
            rfl
          rw [this, List.map_take]
          exact (List.take_sublist _ _).nodup nd
        exact (List.nodup_append.mp nd2).2.2 _ hm _ (List.mem_singleton.mpr rfl) rfl
      have lk : (bs.take i).length = ((srtE (es.map norm)).take i).length := by
        rw [List.length_take, List.length_take, lb]
      refine ⟨.ref a', rfl, a', egV g, 0, .str g.1, rfl, rfl, .inl (.inl (e _ _ hag)), rfl, .ref a', rfl, _, Sum.inr g.1, rfl, hD, ?_, e.mut nD, ?_⟩
      · rw [edKv_len lk, List.length_take]
        exact Evl.sz_lt (by omega)
      · rw [upd_same, putK_new _ (edKv_none out), tk1, tk2, edKv_snoc lk]
    · rw [List.length_map, lb, List.take_length, ← lb, List.take_length] at hD
      refine ⟨.ref x, rfl, x, C, dx, _, rfl, e _ _ hx4, N.cl, N.n3, by show 2 < 1000; decide, ?_⟩
      have Dx : D ≠ x := apart hx4 nD
      have tk5 : TK H' (upd H' x (.ins C dx (nwF t r D))) := fun c xs h => by
        have : c ≠ x := fun z => by
          rw [z, e _ _ hx4] at h
          exact nomatch h
        rw [upd_ne this]
        exact h
      refine q _ (((b2.trans b4).trans (But.of e)).trans But.put) ⟨dx, t, r, D, bs, upd_same, tk5 _ _ (e _ _ (b4 _ _ tx ht2)), tk5 _ _ (e _ _ hr4), (hbs4.tk (TK.ex e)).tk tk5, ?_⟩
      rw [upd_ne Dx]
      exact hD
/-- two networks with the same nodes and edges -/
def SameNet (C : Addr) (a b : Addr) (H : Hp) : Prop := ∃ ns es, (∀ y ∈ ns, IsNm y) ∧ (∀ e ∈ es, NmEg e) ∧ NetAt C H a ns es ∧ NetAt C H b ns es
theorem ok_eq {f : Addr} {fd : FuncData} {k : Nat} (F : Fun K "__eq__" "Network.__eq__" (inClass (top 59) 16) f fd) (T : Bs mg bl) (N : NwT K C) (I_Network : C8.InsC K C) (c_Network : mg "Network" = some (.ref C)) (r_Network : RelV (.ref C) (.ref C)) : FnOk P w K mg base CX0 (k + 1) f fd ["self", "other"] (spEq (SameNet C)) := by
  refine F.ok sc_Network___eq__ (fun vs H Q E h => ?_) (fun cdv A outer s H vs Q E hr h => ?_)
  · obtain ⟨a, b, rfl, _⟩ := h
    rfl
  · obtain ⟨a, b, rfl, ⟨ns, es, nn, ne, ⟨dx, t, r, d, bs, h1, h2, h3, h4, h5⟩, ⟨dx', t', r', d', bs', h1', h2', h3', h4', h5'⟩⟩, q⟩ := h
    refine ⟨_, (pss_one (ps_ret (pe_and (pe_callB (C8.call_isC I_Network) (by rfl) (T.b "isinstance" (by decide)) (by decide +kernel) (pa_cons (pv 1) (pa_cons (pe_glob rfl c_Network r_Network) pa_nil))) (pe_and (pe_cmpR (op_eqD (hu64 hr)) (pe_fld (pv 0) rfl) (pe_fld (pv 1) rfl) (nomark _)) (pe_one (pe_cmpR (op_eqD (hu64 hr)) (pe_fld (pv 0) rfl) (pe_fld (pv 1) rfl) (nomark _))))))), ?_⟩
    refine Evl.s_ret (Evl.ev_is (Evl.ev_andV (a := true) (Evl.ev_cb (vs := [.ref b, .ref C]) (Evl.ea_cons (Evl.ev_var rfl) (Evl.ea_cons Evl.ev_c Evl.ea_nil)) fun H1 e1 Q1 q1 => ⟨b, dx', _, rfl, e1 _ _ h1', q1 _ (Evl.Ex.refl _)⟩) fun _ => Evl.ev_andV (a := true) (Evl.ev_is (Evl.ev_op (ev_fldN N.cl N.n1 h1 (nw_nodes _ _ _) (Evl.ev_var rfl)) (ev_fldN N.cl N.n1 h1' (nw_nodes _ _ _) (Evl.ev_var rfl))
      fun H1 e1 Q1 q1 => ⟨_, _, .tup (Evl.st_of (e1 _ _ h2)) (dp_strs ns), .tup (Evl.st_of (e1 _ _ h2')) (dp_strs ns), (sh_strs nn).1, (sh_strs nn).1, q1 _ (Evl.Ex.refl _)⟩) (by rw [(sh_strs nn).2])) fun _ => Evl.ev_is (Evl.ev_op (ev_fldN N.cl N.n2 h1 (nw_edges _ _ _) (Evl.ev_var rfl)) (ev_fldN N.cl N.n2 h1' (nw_edges _ _ _) (Evl.ev_var rfl))
      fun H1 e1 Q1 q1 => ⟨_, _, .tup (Evl.st_of (e1 _ _ h3)) (dp_egs (h4.tk (TK.ex e1))), .tup (Evl.st_of (e1 _ _ h3')) (dp_egs (h4'.tk (TK.ex e1))), (sh_egs ne).1, (sh_egs ne).1, q1 _ (Evl.Ex.refl _)⟩) (by rw [(sh_egs ne).2])) rfl) fun H1 e1 => q H1 e1
end
end Lw

set_option maxHeartbeats 2000000
/-! LeastJoins: what its methods answer -/
namespace Lj
open PySem PySem.Spec PyProof.Rows L2 Lw Hq
open Evl (EvL EvA EvT EvU RC)
abbrev nm_LeastJoins__points : List Str := ["self", "ends", "points", "node"]
theorem sc_LeastJoins__points : FnScope nm_LeastJoins__points ["self", "ends"] (defScope (inClass (top 41) 4)) := ⟨rfl, rfl, rfl, by decide +kernel, rfl, by decide +kernel, by decide +kernel⟩
abbrev nm_LeastJoins__best_pairing : List Str := ["self", "points"]
theorem sc_LeastJoins__best_pairing : FnScope nm_LeastJoins__best_pairing ["self", "points"] (defScope (inClass (top 41) 5)) := ⟨rfl, rfl, rfl, by decide +kernel, rfl, by decide +kernel, by decide +kernel⟩
abbrev nm_LeastJoins__searched_pairing : List Str := ["self", "points", "best", "far", "_", "partner", "rest"]
theorem sc_LeastJoins__searched_pairing : FnScope nm_LeastJoins__searched_pairing ["self", "points"] (defScope (inClass (top 41) 6)) := ⟨rfl, rfl, rfl, by decide +kernel, rfl, by decide +kernel, by decide +kernel⟩
abbrev nm_LeastJoins__routes_from : List Str := ["self", "start"]
theorem sc_LeastJoins__routes_from : FnScope nm_LeastJoins__routes_from ["self", "start"] (defScope (inClass (top 41) 7)) := ⟨rfl, rfl, rfl, by decide +kernel, rfl, by decide +kernel, by decide +kernel⟩
abbrev nm_LeastJoins_least_length : List Str := ["self", "ends", "best"]
theorem sc_LeastJoins_least_length : FnScope nm_LeastJoins_least_length ["self", "ends"] (defScope (inClass (top 41) 1)) := ⟨rfl, rfl, rfl, by decide +kernel, rfl, by decide +kernel, by decide +kernel⟩
abbrev nm__without : List Str := ["points", "one", "other", "point"]
theorem sc__without : FnScope nm__without ["points", "one", "other"] (defScope (top 44)) := ⟨rfl, rfl, rfl, by decide +kernel, rfl, by decide +kernel, by decide +kernel⟩
def ljF (de ds lc lo : Addr) (b : Int) (dr db : Addr) : List (Str × V) := putF "_best" (.ref db) (putF "_routes" (.ref dr) (putF "_base" (.int b) (putF "_odd" (.ref lo) (putF "_counted" (.ref lc) (putF "_steps" (.ref ds) (putF "_edge_of" (.ref de) []))))))
section
variable (de ds lc lo : Addr) (bb : Int) (dr db : Addr)
theorem lj_best : (ljF de ds lc lo bb dr db).lookup ("_best" : Str) = some (.ref db) := by kernel_rfl
theorem lj_routes : (ljF de ds lc lo bb dr db).lookup ("_routes" : Str) = some (.ref dr) := by kernel_rfl
theorem lj_base : (ljF de ds lc lo bb dr db).lookup ("_base" : Str) = some (.int bb) := by kernel_rfl
theorem lj_odd : (ljF de ds lc lo bb dr db).lookup ("_odd" : Str) = some (.ref lo) := by kernel_rfl
theorem lj_counted : (ljF de ds lc lo bb dr db).lookup ("_counted" : Str) = some (.ref lc) := by kernel_rfl
theorem lj_steps : (ljF de ds lc lo bb dr db).lookup ("_steps" : Str) = some (.ref ds) := by kernel_rfl
theorem lj_edge : (ljF de ds lc lo bb dr db).lookup ("_edge_of" : Str) = some (.ref de) := by kernel_rfl
theorem lj_m1 : (ljF de ds lc lo bb dr db).lookup ("_routes_from" : Str) = none := by kernel_rfl
theorem lj_m2 : (ljF de ds lc lo bb dr db).lookup ("_best_pairing" : Str) = none := by kernel_rfl
theorem lj_m3 : (ljF de ds lc lo bb dr db).lookup ("_searched_pairing" : Str) = none := by kernel_rfl
theorem lj_m4 : (ljF de ds lc lo bb dr db).lookup ("_points" : Str) = none := by kernel_rfl
theorem lj_m5 : (ljF de ds lc lo bb dr db).lookup ("least_length" : Str) = none := by kernel_rfl
end
/-- what the text holds of the class -/
structure LjT (K : PySem.W.Frag) (L : Addr) : Prop where
  cl : Cls K L
  n1 : NoAttr K L "_edge_of"
  n2 : NoAttr K L "_steps"
  n3 : NoAttr K L "_counted"
  n4 : NoAttr K L "_odd"
  n5 : NoAttr K L "_base"
  n6 : NoAttr K L "_routes"
  n7 : NoAttr K L "_best"
/-- the parts that stay -/
def LjFix (L : Addr) (H : Hp) (a : Addr) (es : List Eg) (cn odd : List Str) (b : Int) (dr db : Addr) : Prop := ∃ dx de ds lc lo bs, H a = some (.ins L dx (ljF de ds lc lo b dr db)) ∧ H de = some (.dK (edKv es bs)) ∧ EgsAt H bs es ∧ StepsAt H ds es ∧ H lc = some (.lst (cn.map V.str)) ∧ H lo = some (.tup (odd.map V.str)) ∧ de ≠ dr ∧ ds ≠ dr ∧ dr ≠ db
def RtAt (Av : Addr → Prop) (H : Hp) (dr t : Addr) (ord : List Tr3) : Prop := ∃ far last, H t = some (.tup [.ref far, .ref last]) ∧ H far = some (.dK (mapK gFar ord)) ∧ H last = some (.dK (mapK gLast ord)) ∧ far ≠ dr ∧ last ≠ dr ∧ ¬ Av far ∧ ¬ Av last
/-- dicts that are there: no route is put into them -/
def Kn (Av : Addr → Prop) (H : Hp) : Prop := ∀ x, Av x → ∃ k, H x = some (.dK k)
def RoutesAt (Av : Addr → Prop) (H : Hp) (dr : Addr) (es : List Eg) (m : Nat) : Prop := ∃ kr, H dr = some (.dK kr) ∧ kr.length ≤ m ∧ Kn Av H ∧ ∀ z : Str, valV kr (Sum.inr z) = none ∨ ∃ t ord, valV kr (Sum.inr z) = some (.ref t) ∧ RtAt Av H dr t ord ∧ Routed es z ord
def OptV (H : Hp) (v : V) (r : Option (Int × Option Str)) : Prop := match r with
  | none => v = .non
  | some (c, b) => ∃ t, v = .ref t ∧ H t = some (.tup [.int c, match b with
    | none => .non
    | some y => .str y])
def BestAt (H : Hp) (db : Addr) (es : List Eg) (m : Nat) : Prop := ∃ kb, H db = some (.dT kb) ∧ kb.length ≤ m ∧ valV kb ([] : List Key) ≠ none ∧ ∀ P : List Str, valV kb (P.map Sum.inr) = none ∨ ∃ v r, valV kb (P.map Sum.inr) = some v ∧ OptV H v r ∧ Opt es P r
/-- all but two stay -/
def Ch (dr db : Addr) (H H' : Hp) : Prop := ∀ a o, a ≠ dr → a ≠ db → H a = some o → H' a = some o
section
variable {L a dr db : Addr} {Av : Addr → Prop} {H H' : Hp} {es : List Eg} {cn odd : List Str} {b : Int} {m : Nat}
theorem Ch.of (e : Evl.Ex H H') : Ch dr db H H' := fun _ _ _ _ h => e _ _ h
theorem Ch.trans {H2 : Hp} (h : Ch dr db H H') (k : Ch dr db H' H2) : Ch dr db H H2 := fun a o n1 n2 e => k a o n1 n2 (h a o n1 n2 e)
theorem Ch.d1 {o : HO} : Ch dr db H (upd H dr o) := fun a o n1 n2 e => by rw [upd_ne n1]; exact e
theorem Ch.d2 {o : HO} : Ch dr db H (upd H db o) := fun a o n1 n2 e => by rw [upd_ne n2]; exact e
/-- an object of another kind stays -/
theorem Ch.at {kr : List (Key × V)} {kb : List (List Key × V)} (h : Ch dr db H H') (hr : H dr = some (.dK kr)) (hb : H db = some (.dT kb)) {x : Addr} {o : HO} (hx : H x = some o) (n1 : ∀ k, o ≠ .dK k) (n2 : ∀ k, o ≠ .dT k) : H' x = some o :=
  h x o (fun e => by rw [e, hr] at hx; exact n1 _ (Option.some.inj hx).symm) (fun e => by rw [e, hb] at hx; exact n2 _ (Option.some.inj hx).symm) hx
theorem Ch.dk {kr : List (Key × V)} {kb : List (List Key × V)} (h : Ch dr db H H') (hb : H db = some (.dT kb)) {x : Addr} {k : List (Key × V)} (hx : H x = some (.dK k)) (n : x ≠ dr) : H' x = some (.dK k) :=
  h x _ n (fun e => by rw [e, hb] at hx; exact nomatch hx) hx
theorem Ch.tk {kr : List (Key × V)} {kb : List (List Key × V)} (h : Ch dr db H H') (hr : H dr = some (.dK kr)) (hb : H db = some (.dT kb)) : TK H H' := fun _ _ hx => h.at hr hb hx (fun _ => by simp) (fun _ => by simp)
theorem LjFix.ch {kr : List (Key × V)} {kb : List (List Key × V)} (f : LjFix L H a es cn odd b dr db) (h : Ch dr db H H') (hr : H dr = some (.dK kr)) (hb : H db = some (.dT kb)) : LjFix L H' a es cn odd b dr db := by
  obtain ⟨dx, de, ds, lc, lo, bs, h1, h2, h3, ⟨ks, h4, h5⟩, h6, h7, n1, n2, n3⟩ := f
  refine ⟨dx, de, ds, lc, lo, bs, h.at hr hb h1 (fun _ => by simp) (fun _ => by simp), h.dk (kr := kr) hb h2 n1, h3.tk (h.tk hr hb), ⟨ks, h.dk (kr := kr) hb h4 n2, fun z => (h5 z).imp id fun ⟨l, cs, g1, g2, g3⟩ => ⟨l, cs, g1, h.at hr hb g2 (fun _ => by simp) (fun _ => by simp), g3.tk (h.tk hr hb)⟩⟩, h.at hr hb h6 (fun _ => by simp) (fun _ => by simp), h.at hr hb h7 (fun _ => by simp) (fun _ => by simp), n1, n2, n3⟩
theorem LjFix.ex (f : LjFix L H a es cn odd b dr db) (e : Evl.Ex H H') : LjFix L H' a es cn odd b dr db := by
  obtain ⟨dx, de, ds, lc, lo, bs, h1, h2, h3, h4, h6, h7, n⟩ := f
  exact ⟨dx, de, ds, lc, lo, bs, e _ _ h1, e _ _ h2, h3.tk (TK.ex e), h4.ex e, e _ _ h6, e _ _ h7, n⟩
theorem RtAt.go {t : Addr} {ord : List Tr3} (h : RtAt Av H dr t ord) (k : ∀ x o, x ≠ dr → (∀ k, o ≠ .dT k) → H x = some o → H' x = some o) (nt : t ≠ dr) : RtAt Av H' dr t ord := by
  obtain ⟨far, last, h1, h2, h3, n1, n2, n3⟩ := h
  exact ⟨far, last, k _ _ nt (fun _ => by simp) h1, k _ _ n1 (fun _ => by simp) h2, k _ _ n2 (fun _ => by simp) h3, n1, n2, n3⟩
theorem RoutesAt.keep (h : RoutesAt Av H dr es m) (e : H' dr = H dr) (k : ∀ x o, x ≠ dr → (∀ k, o ≠ .dT k) → H x = some o → H' x = some o) : RoutesAt Av H' dr es m := by
  obtain ⟨kr, h1, h2, hk, h3⟩ := h
  refine ⟨kr, by rw [e]; exact h1, h2, fun x hx => ?_, fun z => (h3 z).imp id fun ⟨t, ord, g1, g2, g3⟩ => ⟨t, ord, g1, g2.go k fun q => ?_, g3⟩⟩
  · obtain ⟨u, hu⟩ := hk x hx
    by_cases q : x = dr
    · exact ⟨u, by rw [q, e, ← q]; exact hu⟩
    · exact ⟨u, k _ _ q (fun _ => by simp) hu⟩
  · obtain ⟨_, _, g, _⟩ := g2
    rw [q, h1] at g
    exact nomatch g
theorem RoutesAt.ex (h : RoutesAt Av H dr es m) (e : Evl.Ex H H') : RoutesAt Av H' dr es m := by
  have h0 := h
  obtain ⟨kr, h1, _⟩ := h0
  exact h.keep (by rw [h1, e _ _ h1]) fun x o _ _ hx => e _ _ hx
theorem RoutesAt.up {m' : Nat} (h : RoutesAt Av H dr es m) (l : m ≤ m') : RoutesAt Av H dr es m' := by
  obtain ⟨kr, h1, h2, h3⟩ := h
  exact ⟨kr, h1, Nat.le_trans h2 l, h3⟩
/-- a new dict is one that no route is put into -/
theorem RoutesAt.adopt {D : Addr} {ks : List (Key × V)} (h : RoutesAt Av H dr es m) (nD : H D = none) : RoutesAt (fun x => x = D) (upd H D (.dK ks)) dr es m := by
  obtain ⟨kr, h1, h2, _, h3⟩ := h
  have en := Evl.Ex.new (o := .dK ks) nD
  refine ⟨kr, en _ _ h1, h2, fun x hx => ⟨ks, by rw [hx, upd_same]⟩, fun z => (h3 z).imp id fun ⟨t, ord, g1, ⟨far, last, a1, a2, a3, n1, n2, _⟩, g3⟩ => ⟨t, ord, g1, ⟨far, last, en _ _ a1, en _ _ a2, en _ _ a3, n1, n2, fun q => ?_, fun q => ?_⟩, g3⟩⟩
  · rw [q, nD] at a2
    exact nomatch a2
  · rw [q, nD] at a3
    exact nomatch a3
theorem RoutesAt.own {D : Addr} {ks ks' : List (Key × V)} (h : RoutesAt (fun x => x = D) H dr es m) (hD : H D = some (.dK ks)) (n : D ≠ dr) : RoutesAt (fun x => x = D) (upd H D (.dK ks')) dr es m := by
  obtain ⟨kr, h1, h2, _, h3⟩ := h
  refine ⟨kr, by rw [upd_ne n.symm]; exact h1, h2, fun x hx => ⟨ks', by rw [hx, upd_same]⟩, fun z => (h3 z).imp id fun ⟨t, ord, g1, ⟨far, last, a1, a2, a3, n1, n2, n3, n4⟩, g3⟩ => ⟨t, ord, g1, ⟨far, last, ?_, ?_, ?_, n1, n2, n3, n4⟩, g3⟩⟩
  · rw [upd_ne fun q => by rw [q, hD] at a1; exact nomatch a1]
    exact a1
  · rw [upd_ne n3]
    exact a2
  · rw [upd_ne n4]
    exact a3
theorem OptV.tk {v : V} {r : Option (Int × Option Str)} (h : OptV H v r) (k : TK H H') : OptV H' v r := by
  cases r with
  | none => exact h
  | some q =>
    obtain ⟨t, h1, h2⟩ := h
    exact ⟨t, h1, k _ _ h2⟩
theorem BestAt.keep (h : BestAt H db es m) (e : H' db = H db) (k : TK H H') : BestAt H' db es m := by
  obtain ⟨kb, h1, h2, h3, h4⟩ := h
  exact ⟨kb, by rw [e]; exact h1, h2, h3, fun P => (h4 P).imp id fun ⟨v, r, g1, g2, g3⟩ => ⟨v, r, g1, g2.tk k, g3⟩⟩
theorem BestAt.ex (h : BestAt H db es m) (e : Evl.Ex H H') : BestAt H' db es m := by
  have h0 := h
  obtain ⟨kb, h1, _⟩ := h0
  exact h.keep (by rw [h1, e _ _ h1]) (TK.ex e)
theorem BestAt.up {m' : Nat} (h : BestAt H db es m) (l : m ≤ m') : BestAt H db es m' := by
  obtain ⟨kr, h1, h2, h3⟩ := h
  exact ⟨kr, h1, Nat.le_trans h2 l, h3⟩
end
/-- the points of a join -/
def pts (odd T : List Str) : List Str := T.foldl (fun P z => if z ∈ P then P.erase z else z :: P) odd
section
variable {P : Program} {w : World} {K : PySem.W.Frag} {mg : Str → Option Value} {base : Heap} {L : Addr}
theorem t_ni2 {ta tb tc : TE} {σ : L2.St} {H : Hp} {x y z : Str} {Q : Bool → Hp → Prop} (hx : Evl.Ev ta σ H (.str z)) (hy : Evl.Ev tb σ H (.str x)) (hz : Evl.Ev tc σ H (.str y)) (k : ∀ H1, Evl.Ex H H1 → Q (decide (z ≠ x) && decide (z ≠ y)) H1) :
    tTest (tOp (rIn K true) ta (tTup (tCons tb (tCons tc tNil)))) σ H Q := by
  have e : (!inV (.str z) ([x, y].map V.str)) = (decide (z ≠ x) && decide (z ≠ y)) := by
    rw [inV_str]
    by_cases h1 : z = x <;> by_cases h2 : z = y <;> simp [h1, h2]
  have h := Evl.et_test (Evl.ev_niU (K := K) hx (Evl.eu_tup (vs := [x, y].map V.str) (Evl.ea_cons hy (Evl.ea_cons hz Evl.ea_nil)) (by simp)) rfl rfl)
  rw [e] at h
  exact h H (Evl.Ex.refl H) Q k
def spWithout : Sp := fun vs H Q _ => ∃ (p : Addr) (ps : List Str) (x y : Str), vs = [V.ref p, .str x, .str y] ∧ H p = some (.tup (ps.map V.str)) ∧ ps.length ≤ 1000 ∧ ∀ t H', Evl.Ex H H' → H t = none → H' t = some (.tup ((ps.filter fun z => decide (z ≠ x) && decide (z ≠ y)).map V.str)) → Q (.ref t) H'
theorem ok_without {f : Addr} {fd : FuncData} {k : Nat} (F : Fun K "_without" "_without" (top 44) f fd) (T : Bs mg bl) : FnOk P w K mg base CX0 (k + 1) f fd ["points", "one", "other"] spWithout := by
  refine F.ok sc__without (fun vs H Q E h => ?_) (fun cdv A outer s H vs Q E hr h => ?_)
  · obtain ⟨p, ps, x, y, rfl, _⟩ := h
    rfl
  · obtain ⟨p, ps, x, y, rfl, hp, lp, q⟩ := h
    refine ⟨_, (pss_one (ps_ret (pe_callTy call_tuple_of (by rfl) (T.b "tuple" (by decide)) (by decide +kernel) (pa_cons (pe_lc (own := [("point", 3)]) (g := (gName 3)) (tt := (tTest (tOp (rIn K true) (tVar 3) (tTup (tCons (tVar 1) (tCons (tVar 2) tNil)))))) (te := (tVar 3)) rfl sc__without.nd (pi_tup (pv 0)) (blkOk_by (N := nm__without) (sc := defScope (top 44)) (by decide +kernel)) (fun _ _ _ _ _ => pg_name (i := 3) sc__without.nd rfl (Or.inl rfl)) (fun _ _ _ _ _ => (pts_one (pt_cmpR op_notIn_seq (pv 3) (pe_tup (pa_cons (pv 1) (pa_cons (pv 2) pa_nil))) rfl))) (fun _ _ _ _ _ => (pv 3))) pa_nil)))), ?_⟩
    refine ⟨.ref p, rfl, p, rfl, ⟨_, Evl.st_of hp⟩, fun D nD => ?_⟩
    let f : Str → Bool := fun z => decide (z ≠ x) && decide (z ≠ y)
    refine lc_tup (K := K) (xs := ps.map V.str) (fun i H' => Evl.Ex H H' ∧ H' D = some (.lst (((ps.take i).filter f).map V.str))) ⟨Evl.Ex.new nD, upd_same⟩ (fun i H' _ ⟨e, _⟩ => Evl.ex_t e (Evl.st_of hp)) (fun i v H' hy ⟨e, hD⟩ => ⟨rfl, ?_⟩) (fun H' ⟨e, hD⟩ => ?_)
    · rw [List.getElem?_map] at hy
      obtain ⟨z, hz, rfl⟩ := Option.map_eq_some_iff.mp hy
      have tk : (ps.take (i + 1)).filter f = (ps.take i).filter f ++ (if f z = true then [z] else []) := by
        rw [List.take_add_one, hz, List.filter_append]
        show _ ++ List.filter f [z] = _
        rw [List.filter_cons]
        rfl
      refine t_ni2 (z := z) (x := x) (y := y) (Evl.ev_var rfl) (Evl.ev_var rfl) (Evl.ev_var rfl) fun H3 e3 => ?_
      refine ite2 (fun fz => ?_) (fun fz => ?_)
      · refine ⟨.str z, rfl, _, e3 _ _ hD, ?_, (e.trans e3).mut nD, ?_⟩
        · have : ((ps.take i).filter f).length ≤ ps.length := Nat.le_trans (List.length_filter_le _ _) (by rw [List.length_take]; omega)
          exact Evl.sz_lt (by rw [List.length_map]; omega)
        · rw [upd_same, tk, if_pos fz, List.map_append]
          rfl
      · refine ⟨e.trans e3, ?_⟩
        rw [tk, if_neg fz, List.append_nil]
        exact e3 _ _ hD
    · rw [List.length_map, List.take_length] at hD
      exact ⟨D, _, rfl, .inl ⟨Evl.sq_of hD, fun l nl => q l _ (e.trans (Evl.Ex.new nl)) (Evl.fresh_back e nl) upd_same⟩⟩
def spPoints (L : Addr) : Sp := fun vs H Q _ => ∃ (a p dr db : Addr) (es : List Eg) (cn odd T : List Str) (b : Int), vs = [V.ref a, .ref p] ∧ LjFix L H a es cn odd b dr db ∧ H p = some (.tup (T.map V.str)) ∧ odd.length ≤ 1000 ∧ T.length ≤ 1000 ∧ ∀ t H', Evl.Ex H H' → H t = none → H' t = some (.tup ((pts odd T).map V.str)) → Q (.ref t) H'
theorem ok_points {f : Addr} {fd : FuncData} {k : Nat} (F : Fun K "_points" "LeastJoins._points" (inClass (top 41) 4) f fd) (T : Bs mg bl) (N : LjT K L) : FnOk P w K mg base CX0 (k + 1) f fd ["self", "ends"] (spPoints L) := by
  refine F.ok sc_LeastJoins__points (fun vs H Q E h => ?_) (fun cdv A outer s H vs Q E hr h => ?_)
  · obtain ⟨a, p, dr, db, es, cn, odd, T, b, rfl, _⟩ := h
    rfl
  · obtain ⟨a, p, dr, db, es, cn, odd, U, b, rfl, hF, hp, l1, l2, q⟩ := h
    refine ⟨_, (pss_cons (ps_set (i := 2) sc_LeastJoins__points.nd rfl (Or.inl rfl) (pe_callTy call_list_of (by rfl) (T.b "list" (by decide)) (by decide +kernel) (pa_cons (pe_fld (pv 0) rfl) pa_nil)))
      (pss_cons (ps_for PassesOwn.never rfl (pi_tup (pv 1)) (pg_name (i := 3) sc_LeastJoins__points.nd rfl (Or.inl rfl)) (pss_one (ps_if (pt_cmpR op_in_seq (pv 3) (pv 2) rfl) (pss_one (ps_expr (pe_bm PySem.F.plainAttrs_list PySem.F.slot_list_remove PySem.F.type_list_remove mt_remS (pv 2) (pa_cons (pv 3) pa_nil)))) (pss_one (ps_expr (pe_bm PySem.F.plainAttrs_list PySem.F.slot_list_insert PySem.F.type_list_insert mt_insert (pv 2) (pa_cons pe_int (pa_cons (pv 3) pa_nil))))))))
      (pss_one (ps_ret (pe_callTy call_tuple_of (by rfl) (T.b "tuple" (by decide)) (by decide +kernel) (pa_cons (pv 2) pa_nil)))))), ?_⟩
    obtain ⟨dx, de, ds, lc, lo, bs, h1, h2, h3, h4, h6, h7, n⟩ := hF
    refine Evl.q_asgL (xs := odd.map V.str) (Evl.el_cb (vs := [.ref lo]) (Evl.ea_cons (ev_fldN N.cl N.n4 h1 (lj_odd _ _ _ _ _ _ _) (Evl.ev_var rfl)) Evl.ea_nil) ?_) fun l H1 nl e1 hl => ?_
    · exact fun H1 e1 Q1 q1 => ⟨lo, _, rfl, .inr (Evl.st_of (e1 _ _ h7)), fun l nl => q1 l _ nl (Evl.Ex.new nl) upd_same⟩
    · refine Evl.q_forT (Evl.ev_var rfl) (Evl.st_of (e1 _ _ hp)) (fun i σ' H' => ∃ x3, σ' = [some (.ref a), some (.ref p), some (.ref l), x3] ∧ Evl.Ex H H' ∧ H' l = some (.lst ((pts odd (U.take i)).map V.str)) ∧ (pts odd (U.take i)).length ≤ 1000 + i) (fun H2 e2 => ⟨none, rfl, e1.trans e2, e2 _ _ hl, by show odd.length ≤ _; omega⟩) (fun i σ' H' _ ⟨_, _, e, _⟩ => Evl.ex_t e (Evl.st_of hp)) (fun i y σ' H' hy w => ?_) (fun σ' H' w => ?_)
      · obtain ⟨x3, rfl, e, hl', lp⟩ := w
        rw [List.getElem?_map] at hy
        obtain ⟨z, hz, rfl⟩ := Option.map_eq_some_iff.mp hy
        have li : i < U.length := (List.getElem?_eq_some_iff.mp hz).1
        have tk : pts odd (U.take (i + 1)) = (fun P z => if z ∈ P then P.erase z else z :: P) (pts odd (U.take i)) z := by
          rw [List.take_add_one, hz]
          unfold pts
          rw [List.foldl_append]
          rfl
        refine g_name ?_
        refine Evl.s_if (b := decide (z ∈ pts odd (U.take i))) (Evl.et_is (Evl.et_test (Evl.ev_op (Evl.ev_var rfl) (Evl.ev_var rfl) (Evl.rv_isL (Evl.sq_of hl') rfl (by simp [flatV])))) inV_str) (fun hb H2 e2 => ?_) (fun hb H2 e2 => ?_)
        · have hm := of_decide_eq_true hb
          refine ⟨.ref l, rfl, .inl ⟨rfl, _, Evl.sq_of (e2 _ _ hl')⟩, .str z, rfl, l, _, z, rfl, rfl, e2 _ _ hl', hm, ?_⟩
          refine ⟨_, rfl, (e.trans e2).mut nl, ?_, ?_⟩
          · rw [upd_same, tk]
            simp only [if_pos hm]
          · rw [tk]
            simp only [if_pos hm]
            exact Nat.le_trans (List.length_erase_le) (by omega)
        · have hm := of_decide_eq_false hb
          refine ⟨.ref l, rfl, .inl ⟨rfl, _, Evl.sq_of (e2 _ _ hl')⟩, .str z, rfl, l, _, 0, .str z, rfl, rfl, e2 _ _ hl', Evl.sz_lt (by rw [List.length_map]; omega), by decide, by decide, ?_⟩
          refine ⟨_, rfl, (e.trans e2).mut nl, ?_, ?_⟩
          · rw [upd_same, tk]
            simp only [if_neg hm]
            rfl
          · rw [tk]
            simp only [if_neg hm, List.length_cons]
            omega
      · obtain ⟨x3, rfl, e, hl', lp⟩ := w
        rw [List.length_map, List.take_length] at hl'
        exact Evl.s_retU (xs := (pts odd U).map V.str) (fun H2 e2 Q2 q2 => ⟨.ref l, rfl, l, _, rfl, .inl ⟨Evl.sq_of (e2 _ _ hl'), fun t nt => q2 t _ nt (Evl.Ex.new nt) upd_same⟩⟩) fun t H2 nt e2 ht => q t H2 (e.trans e2) (Evl.fresh_back e nt) ht
end
end Lj

set_option maxHeartbeats 2000000
/-! LeastJoins: the search for the least pairing -/
namespace Lj
open PySem PySem.Spec PyProof.Rows L2 Lw Hq
open Evl (EvL EvA EvT EvU RC)
theorem keysV (P : List Str) : ((P.map Sum.inr : List Key)).map kV = P.map V.str := by
  rw [List.map_map]
  rfl
theorem keys_inj {P P' : List Str} (h : (P.map Sum.inr : List Key) = P'.map Sum.inr) : P = P' := by
  have := congrArg (List.map (fun k : Key => match k with
    | .inr s => s
    | .inl _ => "")) h
  rw [List.map_map, List.map_map] at this
  have i : ((fun k : Key => match k with
    | .inr s => s
    | .inl _ => ("" : Str)) ∘ Sum.inr) = id := rfl
  rw [i, List.map_id, List.map_id] at this
  exact this
theorem tn_pos : ∀ n, 1 ≤ Tn n
  | 0 => by decide
  | 1 => by decide
  | n + 2 => by show 1 ≤ 2 + _; omega
section
variable {P : Program} {w : World} {K : PySem.W.Frag} {mg : Str → Option Value} {base : Heap} {L : Addr}
def spRoutesM (L : Addr) : Sp := fun vs H Q _ => ∃ (Av : Addr → Prop) (a dr db : Addr) (es : List Eg) (cn odd : List Str) (b : Int) (z : Str) (m : Nat), vs = [V.ref a, .str z] ∧ LjFix L H a es cn odd b dr db ∧ RoutesAt Av H dr es m ∧ m < 10000000 ∧ es.length ≤ 1000 ∧ Prop2 es ∧
  ∀ H' t ord, But dr H H' → RoutesAt Av H' dr es (m + 1) → RtAt Av H' dr t ord → Routed es z ord → Q (.ref t) H'
theorem ok_routesM {f fR : Addr} {fd dR : FuncData} {k : Nat} (F : Fun K "_routes_from" "LeastJoins._routes_from" (inClass (top 41) 7) f fd) (T : Bs mg bl) (N : LjT K L) (F_routes_from : Cf P w K mg base "routes_from" ["steps", "start"] k spRoutes fR dR) : FnOk P w K mg base CX0 (k + 1) f fd ["self", "start"] (spRoutesM L) := by
  refine F.ok sc_LeastJoins__routes_from (fun vs H Q E h => ?_) (fun cdv A outer s H vs Q E hr h => ?_)
  · obtain ⟨Av, a, dr, db, es, cn, odd, b, z, m, rfl, _⟩ := h
    rfl
  · obtain ⟨Av, a, dr, db, es, cn, odd, b, z, m, rfl, hF, hR, lm, l0, p2, q⟩ := h
    refine ⟨_, (pss_cons (ps_if (pt_cmp (pc_dnotin (hu_of hr) (pv 1) (pe_fld (pv 0) rfl))) (pss_one (ps_dput (hu_of hr) (pe_fld (pv 0) rfl) (pv 1) (pe_cf F_routes_from (hr.mono (by omega)) (by rfl) (pa_cons (pe_fld (pv 0) rfl) (pa_cons (pv 1) pa_nil))) rfl)) pss_nil)
      (pss_one (ps_ret (pe_dget (hu_of hr) (pe_fld (pv 0) rfl) (pv 1) (fun _ _ => rfl))))), ?_⟩
    obtain ⟨dx, de, ds, lc, lo, bs, h1, h2, h3, h4, h6, h7, n⟩ := hF
    have hR0 := hR
    obtain ⟨kr, hdr, lk, hkn, hv⟩ := hR
    refine ⟨.str z, rfl, .ref a, rfl, a, L, dx, _, .ref dr, rfl, h1, N.cl, N.n6, lj_routes _ _ _ _ _ _ _, dr, _, rfl, DGet.k (k := Sum.inr z) hdr, _, rfl, ?_⟩
    have nad : a ≠ dr := fun e => by rw [e, hdr] at h1; exact nomatch h1
    rcases hv z with h0 | ⟨t, ord, ht, hA, hO⟩
    · rw [h0]
      refine ite2 (fun _ => ?_) (fun z => absurd rfl z)
      refine ⟨.ref a, rfl, a, L, dx, _, .ref ds, rfl, h1, N.cl, N.n2, lj_steps _ _ _ _ _ _ _, .str z, rfl, ds, z, es, rfl, h4, l0, p2, fun t far last ord H1 e1 nt nf nl ht hf hl R => ?_⟩
      refine ⟨.ref a, rfl, a, L, dx, _, .ref dr, rfl, e1 _ _ h1, N.cl, N.n6, lj_routes _ _ _ _ _ _ _, .str z, rfl, dr, _, rfl, DPut.k (k := Sum.inr z) (e1 _ _ hdr) (Nat.lt_of_lt_of_le (Nat.lt_of_le_of_lt lk lm) (by decide)), ?_⟩
      have bt : But dr H (upd H1 dr (.dK (putK kr (Sum.inr z) (.ref t)))) := (But.of e1).trans But.put
      have nd : ∀ {x : Addr}, H x = none → x ≠ dr := fun {x} hx e => by rw [e, hdr] at hx; exact nomatch hx
      have up1 : ∀ {x : Addr} {o : HO}, x ≠ dr → H1 x = some o → (upd H1 dr (.dK (putK kr (Sum.inr z) (.ref t)))) x = some o := fun {x o} n h => by rw [upd_ne n]; exact h
      have av : ∀ {x : Addr}, H x = none → ¬ Av x := fun {x} hx q => by
        obtain ⟨k, hk⟩ := hkn _ q
        rw [hx] at hk
        exact nomatch hk
      have rt : RtAt Av (upd H1 dr (.dK (putK kr (Sum.inr z) (.ref t)))) dr t ord := ⟨far, last, up1 (nd nt) ht, up1 (nd nf) hf, up1 (nd nl) hl, nd nf, nd nl, av nf, av nl⟩
      refine ⟨.ref a, rfl, a, L, dx, _, .ref dr, rfl, up1 nad (e1 _ _ h1), N.cl, N.n6, lj_routes _ _ _ _ _ _ _, .str z, rfl, dr, .ref t, rfl, .inl ⟨_, Sum.inr z, .inl upd_same, rfl, by rw [valV_put, if_pos rfl]⟩, ?_⟩
      refine q _ t ord bt ⟨_, upd_same, Nat.le_trans (length_putK _ _ _) (by omega), fun x hx => ?_, fun y => ?_⟩ rt R
      · obtain ⟨u, hu⟩ := hkn x hx
        by_cases q : x = dr
        · exact ⟨_, by rw [q, upd_same]⟩
        · exact ⟨u, bt _ _ q hu⟩
      rw [valV_put]
      by_cases e : (Sum.inr y : Key) = Sum.inr z
      · rw [if_pos e]
        cases Sum.inr.inj e
        exact .inr ⟨t, ord, rfl, rt, R⟩
      · rw [if_neg e]
        refine (hv y).imp id fun ⟨t', ord', g1, g2, g3⟩ => ⟨t', ord', g1, g2.go (fun x o n _ h => bt x o n h) fun q => ?_, g3⟩
        obtain ⟨_, _, g, _⟩ := g2
        rw [q, hdr] at g
        exact nomatch g
    · rw [ht]
      refine ite2 (fun z => nomatch z) (fun _ => ?_)
      refine ⟨.ref a, rfl, a, L, dx, _, .ref dr, rfl, h1, N.cl, N.n6, lj_routes _ _ _ _ _ _ _, .str z, rfl, dr, .ref t, rfl, .inl ⟨_, Sum.inr z, .inl hdr, rfl, ht.symm⟩, ?_⟩
      exact q H t ord (But.refl _ _) (hR0.up (by omega)) hA hO
def SBase (Av : Addr → Prop) (L : Addr) (H : Hp) (a p dr db : Addr) (es : List Eg) (cn odd : List Str) (b : Int) (m n : Nat) (Ps : List Str) : Prop := LjFix L H a es cn odd b dr db ∧ RoutesAt Av H dr es m ∧ BestAt H db es m ∧ m + Tn Ps.length ≤ 10000000 ∧ H p = some (.tup (Ps.map V.str)) ∧ Ps.Nodup ∧ Ps.length ≤ n ∧ Ps.length ≤ 1000 ∧ es.length ≤ 1000 ∧ Prop2 es
def spBest (L : Addr) (n : Nat) : Sp := fun vs H Q _ => ∃ (Av : Addr → Prop) (a p dr db : Addr) (es : List Eg) (cn odd : List Str) (b : Int) (m : Nat) (Ps : List Str), vs = [V.ref a, .ref p] ∧ SBase Av L H a p dr db es cn odd b m n Ps ∧
  ∀ H' v r, Ch dr db H H' → RoutesAt Av H' dr es (m + Tn Ps.length) → BestAt H' db es (m + Tn Ps.length) → OptV H' v r → Opt es Ps r → Q v H'
def spSearch (L : Addr) (n : Nat) : Sp := fun vs H Q _ => ∃ (Av : Addr → Prop) (a p dr db : Addr) (es : List Eg) (cn odd : List Str) (b : Int) (m : Nat) (Ps : List Str), vs = [V.ref a, .ref p] ∧ Ps ≠ [] ∧ SBase Av L H a p dr db es cn odd b m n Ps ∧
  ∀ H' v r, Ch dr db H H' → RoutesAt Av H' dr es (m + Tn Ps.length) → BestAt H' db es (m + (Tn Ps.length - 1)) → OptV H' v r → Opt es Ps r → Q v H'
theorem ok_best {f fS : Addr} {fd dS : FuncData} {k n : Nat} (F : Fun K "_best_pairing" "LeastJoins._best_pairing" (inClass (top 41) 5) f fd) (T : Bs mg bl) (N : LjT K L) (m_LeastJoins_searched_pairing : Meth K L "_searched_pairing" fS)
    (F_LeastJoins_searched_pairing : FnOk P w K mg base CX0 k fS dS ["self", "points"] (spSearch L n)) (b_LeastJoins_searched_pairing : Binds K dS ["self", "points"] []) : FnOk P w K mg base CX0 (k + 1) f fd ["self", "points"] (spBest L n) := by
  have cl_LeastJoins := N.cl
  refine F.ok sc_LeastJoins__best_pairing (fun vs H Q E h => ?_) (fun cdv A outer s H vs Q E hr h => ?_)
  · obtain ⟨Av, a, p, dr, db, es, cn, odd, b, m, Ps, rfl, _⟩ := h
    rfl
  · obtain ⟨Av, a, p, dr, db, es, cn, odd, b, m, Ps, rfl, hS, q⟩ := h
    refine ⟨_, (pss_cons (ps_if (pt_cmp (pc_dnotin (hu_of hr) (pv 1) (pe_fld (pv 0) rfl))) (pss_one (ps_dput (hu_of hr) (pe_fld (pv 0) rfl) (pv 1) (pe_meth (pv 0) cl_LeastJoins m_LeastJoins_searched_pairing F_LeastJoins_searched_pairing (hr.mono (by omega)) b_LeastJoins_searched_pairing .nil pass0 (pa_cons (pv 1) pa_nil)) rfl)) pss_nil)
      (pss_one (ps_ret (pe_dget (hu_of hr) (pe_fld (pv 0) rfl) (pv 1) (fun _ _ => rfl))))), ?_⟩
    have hS0 := hS
    obtain ⟨hF, hR, hB, lm, hp, nd, ln, l9, l0, p2⟩ := hS
    have hF0 := hF
    have hB0 := hB
    have hR0 := hR
    obtain ⟨dx, de, ds, lc, lo, bs, h1, _⟩ := hF
    obtain ⟨kb, hdb, lk, hn, hv⟩ := hB
    obtain ⟨kr, hdr, _⟩ := hR
    have tp := tn_pos Ps.length
    have hp' : H p = some (.tup ((Ps.map Sum.inr : List Key).map kV)) := by rw [keysV]; exact hp
    refine ⟨.ref p, rfl, .ref a, rfl, a, L, dx, _, .ref db, rfl, h1, N.cl, N.n7, lj_best _ _ _ _ _ _ _, db, _, rfl, DGet.t (k := Ps.map Sum.inr) hdb hp', _, rfl, ?_⟩
    rcases hv Ps with h0 | ⟨v, r, hvv, hO, hP⟩
    · rw [h0]
      refine ite2 (fun _ => ?_) (fun z => absurd rfl z)
      have ne : Ps ≠ [] := fun e => by rw [e] at h0; exact hn h0
      refine ⟨.ref a, rfl, a, dx, _, rfl, h1, lj_m3 _ _ _ _ _ _ _, .ref p, rfl, Av, a, p, dr, db, es, cn, odd, b, m, Ps, rfl, ne, hS0, fun H1 v r c1 hR1 hB1 hO hP => ?_⟩
      have hF1 := hF0.ch c1 hdr hdb
      have hp1 : H1 p = some (.tup ((Ps.map Sum.inr : List Key).map kV)) := c1.at hdr hdb hp' (fun _ => by simp) (fun _ => by simp)
      have hF2 := hF1
      obtain ⟨dx, de, ds, lc, lo, bs, g1, _, _, _, _, _, _, _, nrb⟩ := hF2
      obtain ⟨kb1, hdb1, lk1, hn1, hv1⟩ := hB1
      refine ⟨.ref a, rfl, a, L, dx, _, .ref db, rfl, g1, N.cl, N.n7, lj_best _ _ _ _ _ _ _, .ref p, rfl, db, _, rfl, DPut.t (k := Ps.map Sum.inr) hdb1 hp1 (Nat.lt_of_le_of_lt lk1 (Nat.lt_of_lt_of_le (show _ < 10000001 by omega) (by decide))), ?_⟩
      have ap : a ≠ db := fun e => by rw [e, hdb1] at g1; exact nomatch g1
      have pp : p ≠ db := fun e => by rw [e, hdb1] at hp1; exact nomatch hp1
      have tk : TK H1 (upd H1 db (.dT (putK kb1 (Ps.map Sum.inr) v))) := fun x xs hx => by
        rw [upd_ne fun e => by rw [e, hdb1] at hx; exact nomatch hx]
        exact hx
      refine ⟨.ref a, rfl, a, L, dx, _, .ref db, rfl, by rw [upd_ne ap]; exact g1, N.cl, N.n7, lj_best _ _ _ _ _ _ _, .ref p, rfl, db, v, rfl, .inr ⟨_, Ps.map Sum.inr, p, .inl upd_same, rfl, by rw [upd_ne pp]; exact hp1, by rw [valV_put, if_pos rfl]⟩, ?_⟩
      refine q _ v r (c1.trans Ch.d2) (hR1.keep (by rw [upd_ne nrb]) fun x o _ no hx => ?_) ⟨_, upd_same, Nat.le_trans (length_putK _ _ _) (by omega), ?_, fun P' => ?_⟩ (hO.tk tk) hP
      · rw [upd_ne fun e => by rw [e, hdb1] at hx; exact no _ (Option.some.inj hx).symm]
        exact hx
      · rw [valV_put]
        split
        · simp
        · exact hn1
      · rw [valV_put]
        by_cases e : (P'.map Sum.inr : List Key) = Ps.map Sum.inr
        · rw [if_pos e]
          cases keys_inj e
          exact .inr ⟨v, r, rfl, hO.tk tk, hP⟩
        · rw [if_neg e]
          exact (hv1 P').imp id fun ⟨v', r', g1, g2, g3⟩ => ⟨v', r', g1, g2.tk tk, g3⟩
    · rw [hvv]
      refine ite2 (fun z => nomatch z) (fun _ => ?_)
      refine ⟨.ref a, rfl, a, L, dx, _, .ref db, rfl, h1, N.cl, N.n7, lj_best _ _ _ _ _ _ _, .ref p, rfl, db, v, rfl, .inr ⟨_, Ps.map Sum.inr, p, .inl hdb, rfl, hp', hvv.symm⟩, ?_⟩
      exact q H v r (Ch.of (Evl.Ex.refl _)) (hR0.up (by omega)) (hB0.up (by omega)) hO hP
end
end Lj

set_option maxHeartbeats 2000000
/-! LeastJoins: the search among all partners of the first node -/
namespace Lj
open PySem PySem.Spec PyProof.Rows L2 Lw Hq
open Evl (EvL EvA EvT EvU RC)
section
variable {P : Program} {w : World} {K : PySem.W.Frag} {mg : Str → Option Value} {base : Heap} {L : Addr}
theorem q_forTupVia {tl : TE} {g : TG} {tu tz : TS} {D : Ends} {σ : L2.St} {H : Hp} {xs : List V} (S : Addr → Hp → Prop) (h1 : ∀ Q' : VK, (∀ p H', S p H' → Q' (.ref p) H') → tl σ H Q') (Pv : Addr → Nat → L2.St → Hp → Prop) (h0 : ∀ p H', S p H' → Pv p 0 σ H') (hl : ∀ p i σ' H', Pv p i σ' H' → SqT K H' p xs)
    (hs : ∀ p i x σ' H', xs[i]? = some x → Pv p i σ' H' → g x σ' H' fun σ2 H2 => tu { D with nx := Pv p (i + 1), ct := Pv p (i + 1), bk := tz D } σ2 H2) (hd : ∀ p σ' H', Pv p xs.length σ' H' → tz D σ' H') : tSeq (tFor (iTup K tl) g tu) tz D σ H :=
  h1 _ fun p H' hS => ⟨p, rfl, ⟨xs, hl _ _ _ _ (h0 _ _ hS)⟩, for_tup (D := { D with nx := tz D }) (Pv p) (h0 _ _ hS) (fun i σ' H' _ z => hl _ _ _ _ z) (fun i x σ' H' hx z => hs p i x σ' H' hx z) (fun σ' H' z => hd p σ' H' z)⟩
theorem ev_dgetK {td ty : TE} {σ : L2.St} {H : Hp} {d : Addr} {kvs : List (Key × V)} {k : Key} {v : V} (hd : H d = some (.dK kvs)) (hv : valV kvs k = some v) (h1 : Evl.Ev td σ H (.ref d)) (h2 : Evl.Ev ty σ H (kV k)) : Evl.Ev (tDGet td ty) σ H v := fun H1 e Q q =>
  h1 H1 e _ fun H2 e2 => h2 H2 (e.trans e2) _ fun H3 e3 => ⟨d, v, rfl, .inl ⟨kvs, k, .inl (e3 _ _ (e2 _ _ (e _ _ hd))), rfl, hv.symm⟩, q H3 (e2.trans e3)⟩
abbrev som (r : Option (Int × Str)) : Option (Int × Option Str) := r.map fun q => (q.1, some q.2)
theorem without_erase {x y : Str} {ps : List Str} (nd : (x :: ps).Nodup) : ((x :: ps).filter fun z => decide (z ≠ x) && decide (z ≠ y)) = ps.erase y := by
  obtain ⟨nx, np⟩ := List.nodup_cons.mp nd
  rw [List.filter_cons, if_neg (by simp), List.Nodup.erase_eq_filter np]
  refine List.filter_congr fun z hz => ?_
  have : z ≠ x := fun e => nx (e ▸ hz)
  by_cases e : z = y <;> simp [this, e]
theorem ok_search {f fB fR fW : Addr} {fd dB dR dW : FuncData} {k n : Nat} (F : Fun K "_searched_pairing" "LeastJoins._searched_pairing" (inClass (top 41) 6) f fd) (T : Bs mg bl) (N : LjT K L) (m_LeastJoins_best_pairing : Meth K L "_best_pairing" fB) (m_LeastJoins_routes_from : Meth K L "_routes_from" fR)
    (F_LeastJoins_best_pairing : FnOk P w K mg base CX0 k fB dB ["self", "points"] (spBest L n)) (b_LeastJoins_best_pairing : Binds K dB ["self", "points"] [])
    (F_LeastJoins_routes_from : FnOk P w K mg base CX0 k fR dR ["self", "start"] (spRoutesM L)) (b_LeastJoins_routes_from : Binds K dR ["self", "start"] []) (F_without : Cf P w K mg base "_without" ["points", "one", "other"] k spWithout fW dW) :
    FnOk P w K mg base CX0 (k + 1) f fd ["self", "points"] (spSearch L (n + 1)) := by
  have cl_LeastJoins := N.cl
  refine F.ok sc_LeastJoins__searched_pairing (fun vs H Q E h => ?_) (fun cdv A outer s H vs Q E hr h => ?_)
  · obtain ⟨Av, a, p, dr, db, es, cn, odd, b, m, Ps, rfl, _⟩ := h
    rfl
  · obtain ⟨Av, a, p, dr, db, es, cn, odd, b, m, Ps, rfl, ne, hS, q⟩ := h
    refine ⟨_, (pss_cons (ps_set (i := 2) sc_LeastJoins__searched_pairing.nd rfl (Or.inl rfl) pe_non)
      (pss_cons (ps_asg (pe_meth (pv 0) cl_LeastJoins m_LeastJoins_routes_from F_LeastJoins_routes_from (hr.mono (by omega)) b_LeastJoins_routes_from .nil pass0 (pa_cons (pe_ix ix_tup (pv 1) pe_int (fun _ _ => rfl)) pa_nil)) (pg_tup rfl (pgs_cons (pg_name (i := 3) sc_LeastJoins__searched_pairing.nd rfl (Or.inl rfl)) (pgs_cons (pg_name (i := 4) sc_LeastJoins__searched_pairing.nd rfl (Or.inl rfl)) pgs_nil))))
      (pss_cons (ps_for PassesOwn.never rfl (pi_tup (pe_slice sl_tupA (pv 1) (po_some pe_int) po_none)) (pg_name (i := 5) sc_LeastJoins__searched_pairing.nd rfl (Or.inl rfl)) (pss_one (ps_if (pt_cmp (pc_din (hu_of hr) (pv 5) (pv 3))) (pss_cons (ps_set (i := 6) sc_LeastJoins__searched_pairing.nd rfl (Or.inl rfl) (pe_meth (pv 0) cl_LeastJoins m_LeastJoins_best_pairing F_LeastJoins_best_pairing (hr.mono (by omega)) b_LeastJoins_best_pairing .nil pass0 (pa_cons (pe_cf F_without (hr.mono (by omega)) (by rfl) (pa_cons (pv 1) (pa_cons (pe_ix ix_tup (pv 1) pe_int (fun _ _ => rfl)) (pa_cons (pv 5) pa_nil)))) pa_nil)))
      (pss_one (ps_if (PW.pt (pw_and (pt_cmpR op_notN (pv 6) pe_non (nomark _)) (pw_and1 (PW.pt (pw_or (pt_cmpR op_isN (pv 2) pe_non (nomark _)) (pw_or1 (pt_cmpR op_lt (pe_op op_add (pe_dget (hu_of hr) (pv 3) (pv 5) (fun _ _ => rfl)) (pe_ix ix_tup (pv 6) pe_int (fun _ _ => rfl))) (pe_ix ix_tup (pv 2) pe_int (fun _ _ => rfl)) (nomark _)))))))) (pss_one (ps_set (i := 2) sc_LeastJoins__searched_pairing.nd rfl (Or.inl rfl) (pe_tup (pa_cons (pe_op op_add (pe_dget (hu_of hr) (pv 3) (pv 5) (fun _ _ => rfl)) (pe_ix ix_tup (pv 6) pe_int (fun _ _ => rfl))) (pa_cons (pv 5) pa_nil))))) pss_nil))) pss_nil)))
      (pss_one (ps_ret (pv 2)))))), ?_⟩
    obtain ⟨hF, hR, hB, lm, hp, nd, ln, l9, l0, p2⟩ := hS
    obtain ⟨kb, hdb, _⟩ := id hB
    obtain ⟨kr, hdr, _⟩ := id hR
    obtain ⟨x, ps, rfl⟩ := List.exists_cons_of_ne_nil ne
    have lps : (x :: ps).length = ps.length + 1 := rfl
    obtain ⟨nx, np⟩ := List.nodup_cons.mp nd
    -- the numbers of new pairings
    have tn : m + 1 + ps.length * Tn (ps.length - 1) ≤ m + (Tn (x :: ps).length - 1) ∧ Tn (x :: ps).length ≤ 10000000 := by
      refine ⟨?_, by omega⟩
      cases ps with
      | nil => show m + 1 + 0 * _ ≤ m + 1; omega
      | cons y ps =>
        show m + 1 + (ps.length + 1) * Tn ps.length ≤ m + (2 + (ps.length + 1) * Tn ps.length - 1)
        omega
    refine g_name ?_
    obtain ⟨dx, de, ds, lc, lo, bs, h1, _⟩ := id hF
    refine ⟨.ref a, rfl, a, dx, _, rfl, h1, lj_m1 _ _ _ _ _ _ _, ?_⟩
    refine g_cons (Evl.ev_op (Evl.ev_var rfl) Evl.ev_c (Evl.rv_ixT (Evl.st_of hp) (atI_some (i := 0) (by decide) rfl)) H (Evl.Ex.refl H) _ fun H1 e1 => ?_)
    refine g_nil ?_
    refine ⟨Av, a, dr, db, es, cn, odd, b, x, m, rfl, hF.ex e1, hR.ex e1, by have := tn_pos (x :: ps).length; omega, l0, p2, fun H2 t ord b2 hR2 hA2 hO => ?_⟩
    obtain ⟨far, last, ht2, hf2, hl2, nf, nl, _⟩ := hA2
    have dbr : db ≠ dr := fun e => by rw [e, hdr] at hdb; exact nomatch hdb
    have c2 : Ch dr db H H2 := fun c o n1 _ h => b2 c o n1 (e1 _ _ h)
    have hdb2 : H2 db = some (.dT kb) := b2 _ _ dbr (e1 _ _ hdb)
    have hB2 : BestAt H2 db es m := (hB.ex e1).keep (by rw [hdb2, e1 _ _ hdb]) fun c xs h => b2 _ _ (fun e => by rw [e, e1 _ _ hdr] at h; exact nomatch h) h
    refine ⟨t, _, rfl, Evl.st_of ht2, rfl, _, _, rfl, _, _, rfl, rfl, ?_⟩
    have hp2 : H2 p = some (.tup ((x :: ps).map V.str)) := c2.at hdr hdb hp (fun _ => by simp) (fun _ => by simp)
    let I : Addr → Nat → L2.St → Hp → Prop := fun tl i σ' H' => ∃ x5 x6 vb r, σ' = [some (.ref a), some (.ref p), some vb, some (.ref far), some (.ref last), x5, x6] ∧ Ch dr db H H' ∧ RoutesAt Av H' dr es (m + 1 + i * Tn (ps.length - 1)) ∧ BestAt H' db es (m + 1 + i * Tn (ps.length - 1)) ∧ H' far = some (.dK (mapK gFar ord)) ∧ OptV H' vb (som r) ∧ BestP es x ps (ps.take i) r ∧ H' tl = some (.tup (ps.map V.str))
    dsimp only
    refine q_forTupVia (xs := ps.map V.str) (fun tl H' => Evl.Ex H2 H' ∧ H' tl = some (.tup (ps.map V.str))) (fun Q' hQ' => ?_) I
      (fun tl H' ⟨e3, h3⟩ => ⟨none, none, .non, none, rfl, c2.trans (Ch.of e3), (hR2.ex e3).up (by omega), (hB2.ex e3).up (by omega), e3 _ _ hf2, rfl, .nil, h3⟩) (fun tl i σ' H' ⟨_, _, _, _, _, _, _, _, _, _, _, h⟩ => .inl (.inl h)) (fun tl i v σ' H' hv w => ?_) (fun tl σ' H' w => ?_)
    · refine ⟨.ref p, rfl, 1, rfl, p, (x :: ps).map V.str, rfl, .inl (.inl hp2), fun z => absurd z.1 ?_, fun _ t3 n3 => ?_⟩
      · show ¬ HT.sIx ((x :: ps).map V.str).length 0 (some ((1 : Nat) : Int)) = 0
        rw [HT.sIx_nat, List.length_map]
        show ¬ min 1 (ps.length + 1) = 0
        omega
      · have : cutV ((x :: ps).map V.str) (some (1 : Int)) none = ps.map V.str := by
          have := cut_fromL ((x :: ps).map V.str) 1
          exact this
        show Q' (.ref t3) (upd H2 t3 (.tup (cutV ((x :: ps).map V.str) (some (1 : Int)) none)))
        rw [this]
        exact hQ' t3 _ ⟨Evl.Ex.new n3, upd_same⟩
    · obtain ⟨x5, x6, vb, r, rfl, c3, hR3, hB3, hf3, hO3, hP3, htl⟩ := w
      rw [List.getElem?_map] at hv
      obtain ⟨y, hy, rfl⟩ := Option.map_eq_some_iff.mp hv
      have my : y ∈ ps := List.mem_of_getElem? hy
      have li : i < ps.length := (List.getElem?_eq_some_iff.mp hy).1
      have tk : ps.take (i + 1) = ps.take i ++ [y] := by
        rw [List.take_add_one, hy]
        rfl
      have mul : (i + 1) * Tn (ps.length - 1) = i * Tn (ps.length - 1) + Tn (ps.length - 1) := Nat.succ_mul _ _
      have mle : (i + 1) * Tn (ps.length - 1) ≤ ps.length * Tn (ps.length - 1) := Nat.mul_le_mul_right _ li
      have tpos := tn_pos (ps.length - 1)
      refine g_name ?_
      refine ⟨.str y, rfl, .ref far, rfl, far, _, rfl, DGet.k (k := Sum.inr y) hf3, _, rfl, ?_⟩
      by_cases my2 : y ∈ nds ord
      · obtain ⟨u, hu, eu⟩ := List.mem_map.mp my2
        have hval : valV (mapK gFar ord) (Sum.inr y) = some (.int u.2.1) := by
          have := mapK_some (g := gFar) hO.1 hu
          rwa [eu] at this
        have wu : Wk es x y u.2.1 := by
          have := hO.walk hu
          rwa [eu] at this
        have lu : ∀ d', Wk es x y d' → u.2.1 ≤ d' := fun d' w' => by
          obtain ⟨u', hu', e1', e2'⟩ := hO.2.2 y d' w'
          have h9 := mapK_some (g := gFar) hO.1 hu'
          rw [e1', hval] at h9
          have := Option.some.inj h9
          injection this with this
          omega
        rw [hval]
        refine ite2 (fun _ => ?_) (fun z => absurd rfl z)
        have hF3 := hF.ch c3 hdr hdb
        obtain ⟨dx3, de3, ds3, lc3, lo3, bs3, g3, _⟩ := id hF3
        have hp3 : H' p = some (.tup ((x :: ps).map V.str)) := c3.at hdr hdb hp (fun _ => by simp) (fun _ => by simp)
        obtain ⟨kb3, hdb3, _⟩ := id hB3
        obtain ⟨kr3, hdr3, _⟩ := id hR3
        refine ⟨.ref a, rfl, a, dx3, _, rfl, g3, lj_m2 _ _ _ _ _ _ _, .ref p, rfl, ?_⟩
        refine g_cons (Evl.ev_op (Evl.ev_var rfl) Evl.ev_c (Evl.rv_ixT (Evl.st_of hp3) (atI_some (i := 0) (by decide) rfl)) H' (Evl.Ex.refl H') _ fun H4 e4 => ?_)
        refine ⟨.str y, rfl, p, x :: ps, x, y, rfl, e4 _ _ hp3, l9, fun t5 H5 e5 n5 ht5 => ?_⟩
        rw [without_erase nd] at ht5
        refine g_nil ?_
        have e45 := e4.trans e5
        have ler : (ps.erase y).length = ps.length - 1 := List.length_erase_of_mem my
        refine ⟨Av, a, t5, dr, db, es, cn, odd, b, _, ps.erase y, rfl, ⟨hF3.ex e45, hR3.ex e45, hB3.ex e45, by rw [ler]; omega, ht5, np.erase y, by omega, by omega, l0, p2⟩, fun H6 v r' c6 hR6 hB6 hO6 hP6 => ?_⟩
        rw [ler] at hR6 hB6
        have c6' : Ch dr db H' H6 := (Ch.of e45).trans c6
        have hf6 : H6 far = some (.dK (mapK gFar ord)) := c6'.dk (kr := kr3) hdb3 hf3 nf
        have htl6 : H6 tl = some (.tup (ps.map V.str)) := c6'.at hdr3 hdb3 htl (fun _ => by simp) (fun _ => by simp)
        have hO3' : OptV H6 vb (som r) := hO3.tk (c6'.tk hdr3 hdb3)
        have hR7 := hR6.up (m' := m + 1 + (i + 1) * Tn (ps.length - 1)) (by omega)
        have hB7 := hB6.up (m' := m + 1 + (i + 1) * Tn (ps.length - 1)) (by omega)
        refine g_name ?_
        have isn : ∀ {q : V}, Evl.RV (fun x y H Q => y = V.non ∧ Q (V.bl !decide (x = V.non)) H) q .non H6 (.bl (!decide (q = .non))) := fun {q} H1 _ Q k => ⟨rfl, k H1 (Evl.Ex.refl _)⟩
        have isy : ∀ {q : V}, Evl.RV (fun x y H Q => y = V.non ∧ Q (V.bl (decide (x = V.non))) H) q .non H6 (.bl (decide (q = .non))) := fun {q} H1 _ Q k => ⟨rfl, k H1 (Evl.Ex.refl _)⟩
        cases r' with
        | none =>
          cases hO6
          refine Evl.s_if (b := false) (Evl.et_is (Evl.et_and (a := false) (b := false) (Evl.et_is (Evl.et_test (Evl.ev_op (Evl.ev_var rfl) Evl.ev_c isn)) (by simp)) (fun z => nomatch z)) rfl) (fun z => nomatch z) (fun _ H7 e7 => ?_)
          refine ⟨_, _, vb, r, rfl, (c3.trans c6').trans (Ch.of e7), hR7.ex e7, hB7.ex e7, e7 _ _ hf6, hO3'.tk (TK.ex e7), ?_, e7 _ _ htl6⟩
          rw [tk]
          exact hP3.no fun d c _ => hP6 c
        | some cb =>
          obtain ⟨c', b'⟩ := cb
          obtain ⟨t6, rfl, h6⟩ := hO6
          have sum : Evl.Ev (tOp (rI0 fun i j => V.int (i + j)) (tDGet (tVar 3) (tVar 5)) (tOp (rIxT K) (tVar 6) (tC (.int 0)))) [some (.ref a), some (.ref p), some vb, some (.ref far), some (.ref last), some (.str y), some (.ref t6)] H6 (.int (u.2.1 + c')) :=
            Evl.ev_op (ev_dgetK (k := Sum.inr y) hf6 hval (Evl.ev_var rfl) (Evl.ev_var rfl)) (Evl.ev_op (Evl.ev_var rfl) Evl.ev_c (Evl.rv_ixT (Evl.st_of h6) (atI_some (i := 0) (by decide) rfl))) Evl.rv_I0
          let bb : Bool := match r with
            | none => true
            | some q => decide (u.2.1 + c' < q.1)
          refine Evl.s_if (b := bb) (Evl.et_is (Evl.et_and (a := true) (b := bb) (Evl.et_is (Evl.et_test (Evl.ev_op (Evl.ev_var rfl) Evl.ev_c isn)) (by simp)) (fun _ => ?_)) (by simp)) (fun hb H7 e7 => ?_) (fun hb H7 e7 => ?_)
          · cases r with
            | none =>
              cases hO3'
              exact Evl.et_is (Evl.et_or (a := true) (b := true) (Evl.et_is (Evl.et_test (Evl.ev_op (Evl.ev_var rfl) Evl.ev_c isy)) (by simp)) (fun z => nomatch z)) rfl
            | some q =>
              obtain ⟨t0, rfl, h0⟩ := hO3'
              exact Evl.et_is (Evl.et_or (a := false) (b := decide (u.2.1 + c' < q.1)) (Evl.et_is (Evl.et_test (Evl.ev_op (Evl.ev_var rfl) Evl.ev_c isy)) (by simp)) (fun _ => Evl.et_test (Evl.ev_op sum (Evl.ev_op (Evl.ev_var rfl) Evl.ev_c (Evl.rv_ixT (Evl.st_of h0) (atI_some (i := 0) (by decide) rfl))) Evl.rv_I0))) (by simp [bb])
          · refine Evl.s_asgU (xs := [.int (u.2.1 + c'), .str y]) (Evl.eu_tup (Evl.ea_cons (sum.mono e7) (Evl.ea_cons (Evl.ev_var rfl) Evl.ea_nil)) (by simp)) fun t8 H8 n8 e8 h8 => ?_
            have e78 := e7.trans e8
            refine ⟨_, _, .ref t8, some (u.2.1 + c', y), rfl, (c3.trans c6').trans (Ch.of e78), hR7.ex e78, hB7.ex e78, e78 _ _ hf6, ⟨t8, rfl, h8⟩, ?_, e78 _ _ htl6⟩
            rw [tk]
            refine hP3.better my wu lu hP6 fun q hq => ?_
            subst hq
            exact of_decide_eq_true hb
          · refine ⟨_, _, vb, r, rfl, (c3.trans c6').trans (Ch.of e7), hR7.ex e7, hB7.ex e7, e7 _ _ hf6, hO3'.tk (TK.ex e7), ?_, e7 _ _ htl6⟩
            rw [tk]
            cases r with
            | none => exact nomatch hb
            | some q => exact hP3.worse lu hP6 (of_decide_eq_false hb)
      · rw [mapK_none (g := gFar) my2]
        refine ite2 (fun z => nomatch z) (fun _ => ?_)
        refine ⟨_, _, vb, r, rfl, c3, hR3.up (by omega), hB3.up (by omega), hf3, hO3, ?_, htl⟩
        rw [tk]
        refine hP3.no fun d c w' => ?_
        obtain ⟨u, hu, e1', _⟩ := hO.2.2 y d w'
        exact absurd (e1' ▸ List.mem_map_of_mem hu) my2
    · obtain ⟨x5, x6, vb, r, rfl, c3, hR3, hB3, hf3, hO3, hP3, htl⟩ := w
      rw [List.length_map] at hR3 hB3 hP3
      rw [List.take_length] at hP3
      refine Evl.s_ret (Evl.ev_var rfl) fun H7 e7 => ?_
      exact q H7 vb (som r) (c3.trans (Ch.of e7)) ((hR3.ex e7).up (by omega)) ((hB3.ex e7).up (by omega)) (hO3.tk (TK.ex e7)) (hP3.done p2)
end
end Lj

set_option maxHeartbeats 2000000
/-! LeastJoins: least_length -/
namespace Lj
open PySem PySem.Spec PyProof.Rows L2 Lw Hq
open Evl (EvL EvA EvT EvU RC)
section
variable {P : Program} {w : World} {K : PySem.W.Frag} {mg : Str → Option Value} {base : Heap} {L : Addr}
theorem ok_bests {fB fS fR fW : Addr} {dB dS dR dW : FuncData} {k : Nat} (FB : Fun K "_best_pairing" "LeastJoins._best_pairing" (inClass (top 41) 5) fB dB) (FS : Fun K "_searched_pairing" "LeastJoins._searched_pairing" (inClass (top 41) 6) fS dS) (T : Bs mg bl) (N : LjT K L)
    (mB : Meth K L "_best_pairing" fB) (mS : Meth K L "_searched_pairing" fS) (mR : Meth K L "_routes_from" fR) (bB : Binds K dB ["self", "points"] []) (bS : Binds K dS ["self", "points"] [])
    (hR : FnOk P w K mg base CX0 k fR dR ["self", "start"] (spRoutesM L)) (bR : Binds K dR ["self", "start"] []) (hW : Cf P w K mg base "_without" ["points", "one", "other"] k spWithout fW dW) :
    ∀ n : Nat, FnOk P w K mg base CX0 (k + 2 * n + 2) fB dB ["self", "points"] (spBest L n)
  | 0 => by
    refine ok_best FB T N mS ?_ bS
    refine FS.ok sc_LeastJoins__searched_pairing (fun vs H Q E h => ?_) (fun cdv A outer s H vs Q E hr h => ?_)
    · obtain ⟨Av, a, p, dr, db, es, cn, odd, b, m, Ps, rfl, _⟩ := h
      rfl
    · obtain ⟨Av, a, p, dr, db, es, cn, odd, b, m, Ps, rfl, ne, h, _⟩ := h
      exact absurd (List.length_eq_zero_iff.mp (Nat.le_zero.mp h.2.2.2.2.2.2.1)) ne
  | n + 1 => by
    have ih := ok_bests FB FS T N mB mS mR bB bS hR bR hW n
    have := ok_search FS T N mB mR ih bB (hR.mono (by omega)) bR ⟨hW.F.mono (by omega), hW.b, hW.g, hW.kp⟩
    exact ok_best FB T N mS this bS
def lenV (b : Int) (r : Option (Int × Option Str)) : V := match r with
  | none => .non
  | some q => .int (q.1 + b)
def spLength (L : Addr) : Sp := fun vs H Q _ => ∃ (Av : Addr → Prop) (a p dr db : Addr) (es : List Eg) (cn odd T : List Str) (b : Int) (m : Nat), vs = [V.ref a, .ref p] ∧ LjFix L H a es cn odd b dr db ∧ RoutesAt Av H dr es m ∧ BestAt H db es m ∧ m + Tn (pts odd T).length ≤ 10000000 ∧ H p = some (.tup (T.map V.str)) ∧ (pts odd T).Nodup ∧ (pts odd T).length ≤ 14 ∧ odd.length ≤ 10 ∧ T.length ≤ 10 ∧ es.length ≤ 1000 ∧ Prop2 es ∧
  ∀ H' r, Ch dr db H H' → RoutesAt Av H' dr es (m + Tn (pts odd T).length) → BestAt H' db es (m + Tn (pts odd T).length) → Opt es (pts odd T) r → Q (lenV b r) H'
theorem ok_length {f fB fP : Addr} {fd dB dP : FuncData} {k : Nat} (F : Fun K "least_length" "LeastJoins.least_length" (inClass (top 41) 1) f fd) (T : Bs mg bl) (N : LjT K L) (m_LeastJoins_best_pairing : Meth K L "_best_pairing" fB) (m_LeastJoins_points : Meth K L "_points" fP)
    (F_LeastJoins_best_pairing : FnOk P w K mg base CX0 k fB dB ["self", "points"] (spBest L 14)) (b_LeastJoins_best_pairing : Binds K dB ["self", "points"] [])
    (F_LeastJoins_points : FnOk P w K mg base CX0 k fP dP ["self", "ends"] (spPoints L)) (b_LeastJoins_points : Binds K dP ["self", "ends"] []) : FnOk P w K mg base CX0 (k + 1) f fd ["self", "ends"] (spLength L) := by
  have cl_LeastJoins := N.cl
  refine F.ok sc_LeastJoins_least_length (fun vs H Q E h => ?_) (fun cdv A outer s H vs Q E hr h => ?_)
  · obtain ⟨Av, a, p, dr, db, es, cn, odd, T, b, m, rfl, _⟩ := h
    rfl
  · obtain ⟨Av, a, p, dr, db, es, cn, odd, U, b, m, rfl, hF, hR, hB, lm, hp, nd, l14, lo, lu, l0, p2, q⟩ := h
    refine ⟨_, (pss_cons (ps_set (i := 2) sc_LeastJoins_least_length.nd rfl (Or.inl rfl) (pe_meth (pv 0) cl_LeastJoins m_LeastJoins_best_pairing F_LeastJoins_best_pairing (hr.mono (by omega)) b_LeastJoins_best_pairing .nil pass0 (pa_cons (pe_meth (pv 0) cl_LeastJoins m_LeastJoins_points F_LeastJoins_points (hr.mono (by omega)) b_LeastJoins_points .nil pass0 (pa_cons (pv 1) pa_nil)) pa_nil)))
      (pss_one (ps_ret (pe_ifExp (pt_cmpR op_isN (pv 2) pe_non (nomark _)) pe_non (pe_op op_add (pe_ix ix_tup (pv 2) pe_int (fun _ _ => rfl)) (pe_fld (pv 0) rfl)))))), ?_⟩
    have tn := Nat.le_trans (tn_mono l14) tn_14
    obtain ⟨dx, de, ds, lc, lo', bs, h1, _⟩ := id hF
    refine ⟨.ref a, rfl, a, dx, _, rfl, h1, lj_m2 _ _ _ _ _ _ _, ?_⟩
    refine ⟨.ref a, rfl, a, dx, _, rfl, h1, lj_m4 _ _ _ _ _ _ _, .ref p, rfl, a, p, dr, db, es, cn, odd, U, b, rfl, hF, hp, by omega, by omega, fun t H1 e1 nt ht => ?_⟩
    refine g_nil ?_
    refine ⟨Av, a, t, dr, db, es, cn, odd, b, m, pts odd U, rfl, ⟨hF.ex e1, hR.ex e1, hB.ex e1, by omega, ht, nd, l14, by omega, l0, p2⟩, fun H2 v r c2 hR2 hB2 hO hP => ?_⟩
    refine g_name ?_
    dsimp only
    obtain ⟨kb, hdb, _⟩ := id hB
    obtain ⟨kr, hdr, _⟩ := id hR
    have c2' : Ch dr db H H2 := (Ch.of e1).trans c2
    have hF2 := hF.ch c2' hdr hdb
    obtain ⟨dx2, de2, ds2, lc2, lo2, bs2, g1, _⟩ := id hF2
    have isy : ∀ {q : V}, Evl.RV (fun x y H Q => y = V.non ∧ Q (V.bl (decide (x = V.non))) H) q .non H2 (.bl (decide (q = .non))) := fun {q} H1 _ Q k => ⟨rfl, k H1 (Evl.Ex.refl _)⟩
    refine Evl.s_ret (v := lenV b r) ?_ fun H3 e3 => q H3 r (c2'.trans (Ch.of e3)) (hR2.ex e3) (hB2.ex e3) hP
    cases r with
    | none =>
      cases hO
      exact Evl.ev_if (b := true) (Evl.et_is (Evl.et_test (Evl.ev_op (Evl.ev_var rfl) Evl.ev_c isy)) (by simp)) (fun _ => Evl.ev_c) (fun z => nomatch z)
    | some cb =>
      obtain ⟨t2, rfl, h2⟩ := hO
      exact Evl.ev_if (b := false) (Evl.et_is (Evl.et_test (Evl.ev_op (Evl.ev_var rfl) Evl.ev_c isy)) (by simp)) (fun z => nomatch z) (fun _ => Evl.ev_op (Evl.ev_op (Evl.ev_var rfl) Evl.ev_c (Evl.rv_ixT (Evl.st_of h2) (atI_some (i := 0) (by decide) rfl))) (ev_fldN N.cl N.n5 g1 (lj_base _ _ _ _ _ _ _) (Evl.ev_var rfl)) Evl.rv_I0)
end
end Lj

set_option maxHeartbeats 2000000
/-! negative_edges of a tuple, names_of of a list -/
namespace Lw
open PySem PySem.Spec PyProof.Rows L2
open Evl (EvL EvA EvT RC)
abbrev nm_names_of : List Str := ["edges", "edge"]
theorem sc_names_of : FnScope nm_names_of ["edges"] (defScope (top 12)) := ⟨rfl, rfl, rfl, by decide +kernel, rfl, by decide +kernel, by decide +kernel⟩
section
variable {P : Program} {w : World} {K : PySem.W.Frag} {mg : Str → Option Value} {base : Heap}
def spNegT : Sp := fun vs H Q _ => ∃ (b : Addr) (as : List Addr) (es : List Eg), vs = [.ref b] ∧ H b = some (.tup (as.map V.ref)) ∧ EgsAt H as es ∧ es.length ≤ 1000 ∧
  ∀ p cs H', Evl.Ex H H' → H p = none → H' p = some (.lst (cs.map V.ref)) → EgsAt H' cs (es.filter fun e => decide (e.2.2.2 < 0)) → Q (.ref p) H'
theorem ok_negT {f : Addr} {fd : FuncData} {k : Nat} (F : Fun K "negative_edges" "negative_edges" (top 15) f fd) (T : Bs mg bl) : FnOk P w K mg base CX0 (k + 1) f fd ["edges"] spNegT := by
  refine F.ok sc_negative_edges (fun vs H Q E h => ?_) (fun cdv A outer s H vs Q E hr h => ?_)
  · obtain ⟨b, as, es, rfl, _⟩ := h
    rfl
  · obtain ⟨b, as, es, rfl, hb, he, l0, q⟩ := h
    refine ⟨_, (pss_one (ps_ret (pe_lc (own := [("edge", 1)]) (g := (gName 1)) (tt := (tTest (tOp (rI0 fun i j => .bl (decide (i < j))) (tOp (rIxT K) (tVar 1) (tC (.int 3))) (tC (.int 0))))) (te := (tVar 1)) rfl sc_negative_edges.nd (pi_tup (pv 0)) (blkOk_by (N := nm_negative_edges) (sc := defScope (top 15)) (by decide +kernel)) (fun _ _ _ _ _ => pg_name (i := 1) sc_negative_edges.nd rfl (Or.inl rfl)) (fun _ _ _ _ _ => (pts_one (pt_cmpR op_lt (pe_ix ix_tup (pv 1) pe_int (fun _ _ => rfl)) pe_int (nomark _)))) (fun _ _ _ _ _ => (pv 1))))), ?_⟩
    have lae := he.len
    refine ⟨.ref b, rfl, b, rfl, ⟨_, Evl.st_of hb⟩, fun D nD => lc_tup (fun i H' => ∃ cs : List Addr, EgsAt H' cs ((es.take i).filter fun e => decide (e.2.2.2 < 0)) ∧ Evl.Ex H H' ∧ H' D = some (.lst (cs.map V.ref)) ∧ cs.length ≤ i) ⟨[], .nil, Evl.Ex.new nD, upd_same, Nat.le_refl _⟩
      (fun i H' _ ⟨_, _, e2, _⟩ => Evl.ex_t e2 (Evl.st_of hb)) (fun i x H' hx z => ⟨rfl, ?_⟩) (fun H' z => ?_)⟩
    · obtain ⟨cs, hcs, e2, hD, lc⟩ := z
      rw [List.getElem?_map] at hx
      obtain ⟨a', ha', rfl⟩ := Option.map_eq_some_iff.mp hx
      obtain ⟨⟨n, u, v, l⟩, hei, hae⟩ := egs_get he ha'
      have li : i < as.length := (List.getElem?_eq_some_iff.mp ha').1
      refine ⟨.ref a', rfl, a', _, 3, .int l, rfl, rfl, .inl (.inl (e2 _ _ hae)), rfl, _, _, rfl, rfl, _, rfl, ?_⟩
      by_cases hl : l < 0
      · have t1 : (es.take (i + 1)).filter (fun e => decide (e.2.2.2 < 0)) = (es.take i).filter (fun e => decide (e.2.2.2 < 0)) ++ [(n, u, v, l)] := by
          rw [List.take_add_one, hei, List.filter_append]
          show _ ++ List.filter _ [(n, u, v, l)] = _
          rw [List.filter_cons, if_pos (decide_eq_true hl)]
          rfl
        rw [decide_eq_true hl]
        refine ite2 (fun _ => ?_) (fun z => absurd rfl z)
        refine ⟨.ref a', rfl, _, hD, by rw [List.length_map]; exact Evl.sz_lt (by omega), cs ++ [a'], ?_, e2.mut nD, by rw [upd_same, List.map_append]; rfl, by rw [List.length_append]; exact Nat.succ_le_succ lc⟩
        have k : TK H' (upd H' D (.lst (cs.map V.ref ++ [.ref a']))) := TK.put (.inr ⟨_, hD⟩)
        rw [t1]
        exact paired_snoc (hcs.tk k) (k _ _ (e2 _ _ hae))
      · have t1 : (es.take (i + 1)).filter (fun e => decide (e.2.2.2 < 0)) = (es.take i).filter (fun e => decide (e.2.2.2 < 0)) := by
          rw [List.take_add_one, hei, List.filter_append]
          show _ ++ List.filter _ [(n, u, v, l)] = _
          rw [List.filter_cons, if_neg (by simpa using hl)]
          exact List.append_nil _
        rw [decide_eq_false hl]
        exact ite2 (fun z => absurd z (by decide)) fun _ => ⟨cs, by rw [t1]; exact hcs, e2, hD, by omega⟩
    · obtain ⟨cs, hcs, e2, hD, lc⟩ := z
      rw [List.length_map, lae, List.take_length] at hcs
      exact q D cs H' e2 nD hD hcs
def spNamesL : Sp := fun vs H Q _ => ∃ (r : Addr) (bs : List Addr) (es : List Eg), vs = [V.ref r] ∧ H r = some (.lst (bs.map V.ref)) ∧ EgsAt H bs es ∧ es.length ≤ 200 ∧ ∀ t H', Evl.Ex H H' → H t = none → H' t = some (.tup ((es.map (·.1)).map V.str)) → Q (.ref t) H'
theorem ok_namesL {f : Addr} {fd : FuncData} {k : Nat} (F : Fun K "names_of" "names_of" (top 12) f fd) (T : Bs mg bl) : FnOk P w K mg base CX0 (k + 1) f fd ["edges"] spNamesL := by
  refine F.ok sc_names_of (fun vs H Q E h => ?_) (fun cdv A outer s H vs Q E hr h => ?_)
  · obtain ⟨r, bs, es, rfl, _⟩ := h
    rfl
  · obtain ⟨r, bs, es, rfl, hr1, hb, le, q⟩ := h
    refine ⟨_, (pss_one (ps_ret (pe_callTy call_tuple_of (by rfl) (T.b "tuple" (by decide)) (by decide +kernel) (pa_cons (pe_lc (own := [("edge", 1)]) (g := (gName 1)) (tt := tYes) (te := (tOp (rIxT K) (tVar 1) (tC (.int 0)))) rfl sc_names_of.nd (pi_list (pv 0)) (blkOk_by (N := nm_names_of) (sc := defScope (top 12)) (by decide +kernel)) (fun _ _ _ _ _ => pg_name (i := 1) sc_names_of.nd rfl (Or.inl rfl)) (fun _ _ _ _ _ => pts_nil) (fun _ _ _ _ _ => (pe_ix ix_tup (pv 1) pe_int (fun _ _ => rfl)))) pa_nil)))), ?_⟩
    refine ⟨.ref r, rfl, r, rfl, ⟨_, Evl.sq_of hr1⟩, fun D nD => ?_⟩
    refine lc_list (K := K) (xs := bs.map V.ref) (fun i H' => Evl.Ex H H' ∧ H' D = some (.lst (((es.take i).map (·.1)).map V.str))) ⟨Evl.Ex.new nD, upd_same⟩ (fun i H' _ ⟨e, _⟩ => Evl.ex_l e (Evl.sq_of hr1)) (fun i y H' hy ⟨e, hD⟩ => ⟨rfl, ?_⟩) (fun H' ⟨e, hD⟩ => ?_)
    · rw [List.getElem?_map] at hy
      obtain ⟨a', ha', rfl⟩ := Option.map_eq_some_iff.mp hy
      obtain ⟨g, hgi, hag⟩ := egs_get hb ha'
      have li : i < es.length := (List.getElem?_eq_some_iff.mp hgi).1
      refine ⟨.ref a', rfl, a', egV g, 0, .str g.1, rfl, rfl, .inl (.inl (e _ _ hag)), rfl, _, hD, ?_, e.mut nD, ?_⟩
      · rw [List.length_map, List.length_map, List.length_take]
        exact Evl.sz_lt (by omega)
      · rw [upd_same, List.take_add_one, hgi, List.map_append, List.map_append]
        rfl
    · rw [List.length_map, hb.len, List.take_length] at hD
      exact ⟨D, _, rfl, .inl ⟨Evl.sq_of hD, fun l nl => q l _ (e.trans (Evl.Ex.new nl)) (Evl.fresh_back e nl) upd_same⟩⟩

end
end Lw

set_option maxHeartbeats 1000000
/-! joins on paper: a least join is a least pairing of its nodes and the odd nodes of the negative edges -/
namespace Lj
open PySem Lw
abbrev Sub := Eg → Bool
abbrev sx (A B : Sub) : Sub := fun e => A e != B e
abbrev isN : Sub := fun e => decide (e.2.2.2 < 0)
def ln (es : List Eg) : Int := (es.map (·.2.2.2)).sum
def wt (es : List Eg) : Int := (es.map ew).sum
theorem wt_cons (e : Eg) (es : List Eg) : wt (e :: es) = ew e + wt es := by simp [wt]
theorem ln_cons (e : Eg) (es : List Eg) : ln (e :: es) = e.2.2.2 + ln es := by simp [ln]
theorem wt_pos : ∀ es : List Eg, 0 ≤ wt es
  | [] => by simp [wt]
  | e :: es => by
    rw [wt_cons]
    have := ew_pos e
    have := wt_pos es
    omega
theorem cnt_fc (A : Sub) (e : Eg) (es : List Eg) (z : Str) : cnt ((e :: es).filter A) z = (if A e = true then ends e z else 0) + cnt (es.filter A) z := by
  rw [List.filter_cons]
  split
  · rw [cnt_cons]
  · rw [Nat.zero_add]
theorem wt_fc (A : Sub) (e : Eg) (es : List Eg) : wt ((e :: es).filter A) = (if A e = true then ew e else 0) + wt (es.filter A) := by
  rw [List.filter_cons]
  split
  · rw [wt_cons]
  · rw [Int.zero_add]
theorem ln_fc (A : Sub) (e : Eg) (es : List Eg) : ln ((e :: es).filter A) = (if A e = true then e.2.2.2 else 0) + ln (es.filter A) := by
  rw [List.filter_cons]
  split
  · rw [ln_cons]
  · rw [Int.zero_add]
theorem bne_tt (a b : Bool) : ((a != b) = true) ↔ ¬ (a = true ↔ b = true) := by cases a <;> cases b <;> simp
theorem cnt_sx (A B : Sub) (z : Str) : ∀ es : List Eg, cnt (es.filter (sx A B)) z % 2 = (cnt (es.filter A) z + cnt (es.filter B) z) % 2
  | [] => rfl
  | e :: es => by
    have ih := cnt_sx A B z es
    rw [cnt_fc, cnt_fc, cnt_fc]
    generalize cnt (es.filter (sx A B)) z = x1 at ih ⊢
    generalize cnt (es.filter A) z = x2 at ih ⊢
    generalize cnt (es.filter B) z = x3 at ih ⊢
    by_cases ha : A e = true <;> by_cases hb : B e = true <;> simp [sx, ha, hb] <;> omega
theorem wt_sx (A B : Sub) : ∀ es : List Eg, wt (es.filter (sx A B)) ≤ wt (es.filter A) + wt (es.filter B)
  | [] => by simp [wt]
  | e :: es => by
    have ih := wt_sx A B es
    have := ew_pos e
    rw [wt_fc, wt_fc, wt_fc]
    generalize wt (es.filter (sx A B)) = x1 at ih ⊢
    generalize wt (es.filter A) = x2 at ih ⊢
    generalize wt (es.filter B) = x3 at ih ⊢
    by_cases ha : A e = true <;> by_cases hb : B e = true <;> simp [sx, ha, hb] <;> omega
/-- the sum of lengths by absolute lengths -/
theorem ln_sx (A : Sub) : ∀ es : List Eg, ln (es.filter A) = wt (es.filter (sx A isN)) + ln (es.filter isN)
  | [] => by simp [wt, ln]
  | e :: es => by
    have ih := ln_sx A es
    rw [ln_fc, ln_fc, wt_fc]
    generalize wt (es.filter (sx A isN)) = x1 at ih ⊢
    generalize ln (es.filter A) = x2 at ih ⊢
    generalize ln (es.filter isN) = x3 at ih ⊢
    by_cases h : e.2.2.2 < 0
    · have w : ew e = -e.2.2.2 := by unfold ew; rw [if_pos h]
      have n : isN e = true := decide_eq_true h
      by_cases ha : A e = true <;> simp [sx, ha, n, h] <;> omega
    · have w : ew e = e.2.2.2 := by unfold ew; rw [if_neg h]
      have n : isN e = false := decide_eq_false h
      by_cases ha : A e = true <;> simp [sx, ha, n, h] <;> omega
/-! ### a pairing gives a set of edges -/
def BW : List Eg → Sub
  | [] => fun _ => false
  | e :: W => sx (BW W) fun x => decide (x = e)
theorem filter_one {e : Eg} : ∀ {es : List Eg}, es.Nodup → e ∈ es → es.filter (fun x => decide (x = e)) = [e]
  | x :: es, nd, h => by
    obtain ⟨n1, n2⟩ := List.nodup_cons.mp nd
    rw [List.filter_cons]
    by_cases q : x = e
    · subst q
      rw [if_pos (by simp)]
      have : es.filter (fun y => decide (y = x)) = [] := List.filter_eq_nil_iff.mpr fun y hy => by
        simp only [decide_eq_true_eq]
        exact fun z => n1 (z ▸ hy)
      rw [this]
    · rw [if_neg (by simpa using q)]
      exact filter_one n2 ((List.mem_cons.mp h).resolve_left fun z => q z.symm)
theorem bw_ok {es : List Eg} (nd : es.Nodup) : ∀ {W : List Eg}, (∀ e ∈ W, e ∈ es) → (∀ z, cnt (es.filter (BW W)) z % 2 = cnt W z % 2) ∧ wt (es.filter (BW W)) ≤ wt W
  | [], _ => by
    have : es.filter (BW []) = [] := List.filter_eq_nil_iff.mpr fun y _ => by simp [BW]
    rw [this]
    exact ⟨fun _ => rfl, Int.le_refl _⟩
  | e :: W, h => by
    obtain ⟨h1, h2⟩ := bw_ok nd (W := W) fun x hx => h x (List.mem_cons_of_mem _ hx)
    have one := filter_one nd (h e List.mem_cons_self)
    refine ⟨fun z => ?_, ?_⟩
    · have a := cnt_sx (BW W) (fun x => decide (x = e)) z es
      rw [one] at a
      have b := h1 z
      have c : cnt [e] z = ends e z := by simp [cnt]
      show cnt (es.filter (sx (BW W) fun x => decide (x = e))) z % 2 = _
      rw [cnt_cons]
      omega
    · have a := wt_sx (BW W) (fun x => decide (x = e)) es
      rw [one] at a
      have c : wt [e] = ew e := by simp [wt]
      show wt (es.filter (sx (BW W) fun x => decide (x = e))) ≤ _
      rw [wt_cons]
      omega
theorem ends_of {e : Eg} {x : Str} (t : tch e x = true) (z : Str) : ends e z = (if x = z then 1 else 0) + (if oth e x = z then 1 else 0) := by
  unfold tch at t
  unfold oth ends
  rw [Bool.or_eq_true, decide_eq_true_iff, decide_eq_true_iff] at t
  by_cases h : e.2.1 = x
  · rw [if_pos h, h]
  · rw [if_neg h, t.resolve_left h, Nat.add_comm]
theorem Wk.edges {es : List Eg} {a b : Str} {d : Int} (h : Wk es a b d) : ∃ W : List Eg, (∀ e ∈ W, e ∈ es) ∧ wt W = d ∧ ∀ z, cnt W z % 2 = ((if a = z then 1 else 0) + (if b = z then 1 else 0)) % 2 := by
  induction h with
  | nil => exact ⟨[], fun e h => absurd h (by simp), by simp [wt], fun z => by show 0 % 2 = _; split <;> rfl⟩
  | @snoc x d e w he ht ih =>
    obtain ⟨W, h1, h2, h3⟩ := ih
    refine ⟨e :: W, fun f hf => ?_, by rw [wt_cons]; omega, fun z => ?_⟩
    · rcases List.mem_cons.mp hf with rfl | hf
      · exact he
      · exact h1 f hf
    · rw [cnt_cons, ends_of ht]
      have := h3 z
      by_cases q1 : x = z <;> by_cases q2 : a = z <;> by_cases q3 : oth e x = z <;> simp only [q1, q2, q3, if_true, if_false] at this ⊢ <;> omega
theorem Pm.edges {es : List Eg} {P : List Str} {c : Int} (h : Pm es P c) : ∃ W : List Eg, (∀ e ∈ W, e ∈ es) ∧ wt W = c ∧ ∀ z, cnt W z % 2 = P.count z % 2 := by
  induction h with
  | nil => exact ⟨[], fun e h => absurd h (by simp), by simp [wt], fun z => rfl⟩
  | @two a b ps d c w h ih =>
    obtain ⟨W, h1, h2, h3⟩ := ih
    obtain ⟨V, g1, g2, g3⟩ := w.edges
    refine ⟨V ++ W, fun e he => ?_, by simp only [wt, List.map_append, List.sum_append] at *; omega, fun z => ?_⟩
    · rcases List.mem_append.mp he with he | he
      · exact g1 e he
      · exact h1 e he
    · have e : cnt (V ++ W) z = cnt V z + cnt W z := by simp [cnt]
      rw [e, List.count_cons, List.count_cons]
      have := h3 z
      have := g3 z
      by_cases q1 : a = z <;> by_cases q2 : b = z <;> simp only [q1, q2, beq_self_eq_true, if_true, if_false, beq_iff_eq, Bool.false_eq_true] at * <;> omega
  | perm h p ih =>
    obtain ⟨W, h1, h2, h3⟩ := ih
    exact ⟨W, h1, h2, fun z => by rw [h3 z, p.count_eq]⟩
theorem odd_iff {P : List Str} (nd : P.Nodup) (z : Str) : z ∈ P ↔ P.count z % 2 = 1 := by
  constructor
  · intro h
    rw [List.Nodup.count nd, if_pos h]
  · intro h
    refine List.count_pos_iff.mp ?_
    omega
theorem Pm.join {es : List Eg} (nd : es.Nodup) {P : List Str} {c : Int} (np : P.Nodup) (h : Pm es P c) : ∃ B : Sub, (∀ z, z ∈ P ↔ isOdd (es.filter B) z) ∧ wt (es.filter B) ≤ c := by
  obtain ⟨W, h1, h2, h3⟩ := h.edges
  obtain ⟨g1, g2⟩ := bw_ok nd h1
  refine ⟨BW W, fun z => ?_, by omega⟩
  rw [odd_iff np]
  unfold isOdd
  rw [g1, h3]
/-! ### a list of edges gives a pairing -/
theorem Wk.one {es : List Eg} {e : Eg} (he : e ∈ es) (n : e.2.1 ≠ e.2.2.1) : Wk es e.2.1 e.2.2.1 (ew e) := by
  have := Wk.snoc (e := e) (Wk.nil (es := es) (s := e.2.1)) he (by simp [tch])
  have o : oth e e.2.1 = e.2.2.1 := by simp [oth]
  rwa [o, Int.zero_add] at this
/-- one end of a pairing goes on to another node -/
theorem Pm.move {es : List Eg} (p2 : Prop2 es) {P R : List Str} {u v : Str} {c d : Int} (h : Pm es P c) (w : Wk es u v d) (p : P.Perm (u :: R)) : Pm es (v :: R) (d + c) := by
  obtain ⟨b, S, d', c', pm, w', h', e⟩ := h.head p2 u (p.mem_iff.mpr List.mem_cons_self)
  have q : R.Perm (b :: S) := (List.perm_cons u).mp (p.symm.trans pm)
  have := Pm.two ((w.back p2).trans w') h'
  refine .perm (by rw [e, ← Int.add_assoc]; exact this) (q.symm.cons v)
theorem Pm.of_edges {es : List Eg} (p2 : Prop2 es) : ∀ {J : List Eg}, (∀ e ∈ J, e ∈ es) → ∀ {P : List Str}, P.Nodup → (∀ z, z ∈ P ↔ isOdd J z) → ∃ c, Pm es P c ∧ c ≤ wt J
  | [], _, P, np, h => by
    have : P = [] := List.eq_nil_iff_forall_not_mem.mpr fun z hz => by
      have := (h z).mp hz
      exact absurd this (by simp [isOdd, cnt])
    rw [this]
    exact ⟨0, .nil, by simp [wt]⟩
  | e :: J, hJ, P, np, h => by
    have he := hJ e List.mem_cons_self
    have ne := p2 e he
    have w := Wk.one he ne
    have we := ew_pos e
    rw [wt_cons]
    have step : ∀ z, isOdd (e :: J) z ↔ (ends e z + cnt J z) % 2 = 1 := fun z => by
      unfold isOdd
      rw [cnt_cons]
    -- what is odd without e
    let P' : List Str := (P.filter fun z => decide (z ≠ e.2.1) && decide (z ≠ e.2.2.1)) ++ ((if e.2.1 ∈ P then [] else [e.2.1]) ++ (if e.2.2.1 ∈ P then [] else [e.2.2.1]))
    have hP' : P'.Nodup := by
      refine List.nodup_append.mpr ⟨np.filter _, ?_, ?_⟩
      · split <;> split <;> simp [ne]
      · intro a ha b hb q
        subst q
        have := (List.mem_filter.mp ha).2
        simp only [Bool.and_eq_true, decide_eq_true_eq] at this
        rcases List.mem_append.mp hb with hb | hb
        · split at hb
          · simp at hb
          · exact this.1 (List.mem_singleton.mp hb)
        · split at hb
          · simp at hb
          · exact this.2 (List.mem_singleton.mp hb)
    have oP' : ∀ z, z ∈ P' ↔ isOdd J z := fun z => by
      have h1 := (h z).trans (step z)
      unfold isOdd
      by_cases q1 : z = e.2.1
      · subst q1
        have e1 : ends e e.2.1 = 1 := by
          unfold ends
          rw [if_pos rfl, if_neg (fun q => ne q.symm)]
        rw [e1] at h1
        simp only [P', List.mem_append, List.mem_filter]
        by_cases m : e.2.1 ∈ P
        · have := h1.mp m
          simp only [m, if_true]
          constructor
          · rintro (⟨_, q⟩ | q | q)
            · simp at q
            · simp at q
            · split at q
              · simp at q
              · exact absurd (List.mem_singleton.mp q) ne
          · intro q; omega
        · have : ¬ (1 + cnt J e.2.1) % 2 = 1 := fun q => m (h1.mpr q)
          simp only [m, if_false]
          constructor
          · intro _; omega
          · intro _
            exact .inr (.inl (by simp))
      · by_cases q2 : z = e.2.2.1
        · subst q2
          have e1 : ends e e.2.2.1 = 1 := by
            unfold ends
            rw [if_neg ne, if_pos rfl]
          rw [e1] at h1
          simp only [P', List.mem_append, List.mem_filter]
          by_cases m : e.2.2.1 ∈ P
          · have := h1.mp m
            simp only [m, if_true]
            constructor
            · rintro (⟨_, q⟩ | q | q)
              · simp at q
              · split at q
                · simp at q
                · exact absurd (List.mem_singleton.mp q).symm ne
              · simp at q
            · intro q; omega
          · have : ¬ (1 + cnt J e.2.2.1) % 2 = 1 := fun q => m (h1.mpr q)
            simp only [m, if_false]
            constructor
            · intro _; omega
            · intro _
              exact .inr (.inr (by simp))
        · have e1 : ends e z = 0 := by
            unfold ends
            rw [if_neg (fun q => q1 q.symm), if_neg (fun q => q2 q.symm)]
          rw [e1, Nat.zero_add] at h1
          rw [← h1]
          simp only [P', List.mem_append, List.mem_filter, Bool.and_eq_true, decide_eq_true_eq]
          constructor
          · rintro (⟨q, _⟩ | q | q)
            · exact q
            · split at q
              · simp at q
              · exact absurd (List.mem_singleton.mp q) q1
            · split at q
              · simp at q
              · exact absurd (List.mem_singleton.mp q) q2
          · intro q
            exact .inl ⟨q, q1, q2⟩
    obtain ⟨c, pm, lc⟩ := Pm.of_edges p2 (J := J) (fun f hf => hJ f (List.mem_cons_of_mem _ hf)) hP' oP'
    have cp := pm.pos
    -- the lists agree but for the ends of e
    have ext : ∀ {A B : List Str}, A.Nodup → B.Nodup → (∀ z, z ∈ A ↔ z ∈ B) → A.Perm B := fun {A B} h1 h2 h3 => (List.perm_ext_iff_of_nodup h1 h2).mpr h3
    let R := P.filter fun z => decide (z ≠ e.2.1) && decide (z ≠ e.2.2.1)
    have mR : ∀ z, z ∈ R ↔ z ∈ P ∧ z ≠ e.2.1 ∧ z ≠ e.2.2.1 := fun z => by simp [R, List.mem_filter]
    have nR : R.Nodup := np.filter _
    have uR : e.2.1 ∉ R := fun q => ((mR _).mp q).2.1 rfl
    have vR : e.2.2.1 ∉ R := fun q => ((mR _).mp q).2.2 rfl
    by_cases mu : e.2.1 ∈ P <;> by_cases mv : e.2.2.1 ∈ P
    · -- both ends are nodes of P, none of P'
      have eP : P' = R := by simp [P', R, mu, mv]
      rw [eP] at pm
      refine ⟨ew e + c, .perm (.two w pm) (ext ?_ np fun z => ?_), by omega⟩
      · exact List.nodup_cons.mpr ⟨fun q => (List.mem_cons.mp q).elim ne uR, List.nodup_cons.mpr ⟨vR, nR⟩⟩
      · rw [List.mem_cons, List.mem_cons, mR]
        by_cases q1 : z = e.2.1
        · subst q1; simp [mu]
        · by_cases q2 : z = e.2.2.1
          · subst q2; simp [mv]
          · simp [q1, q2]
    · have eP : P' = R ++ [e.2.2.1] := by simp [P', R, mu, mv]
      rw [eP] at pm
      refine ⟨ew e + c, .perm (Pm.move p2 pm (w.back p2) (List.perm_append_singleton _ _)) (ext ?_ np fun z => ?_), by omega⟩
      · exact List.nodup_cons.mpr ⟨uR, nR⟩
      · rw [List.mem_cons, mR]
        by_cases q1 : z = e.2.1
        · subst q1; simp [mu]
        · by_cases q2 : z = e.2.2.1
          · subst q2; simp [mv, q1]
          · simp [q1, q2]
    · have eP : P' = R ++ [e.2.1] := by simp [P', R, mu, mv]
      rw [eP] at pm
      refine ⟨ew e + c, .perm (Pm.move p2 pm w (List.perm_append_singleton _ _)) (ext ?_ np fun z => ?_), by omega⟩
      · exact List.nodup_cons.mpr ⟨vR, nR⟩
      · rw [List.mem_cons, mR]
        by_cases q2 : z = e.2.2.1
        · subst q2; simp [mv]
        · by_cases q1 : z = e.2.1
          · subst q1; simp [mu, q2]
          · simp [q1, q2]
    · have eP : P' = R ++ [e.2.1, e.2.2.1] := by simp [P', R, mu, mv]
      rw [eP] at pm
      have eR : R.Perm P := ext nR np fun z => by
        rw [mR]
        exact ⟨fun q => q.1, fun q => ⟨q, fun x => mu (x ▸ q), fun x => mv (x ▸ q)⟩⟩
      -- u with b, v with c, or u with v
      obtain ⟨b, S, d1, c1, pb, wb, hb, eb⟩ := pm.head p2 e.2.1 (by simp)
      have pc : (R ++ [e.2.1, e.2.2.1]).Perm (e.2.1 :: (R ++ [e.2.2.1])) := by
        have : (R ++ ([e.2.1] ++ [e.2.2.1])).Perm ([e.2.1] ++ (R ++ [e.2.2.1])) := by
          rw [← List.append_assoc, ← List.append_assoc]
          exact List.Perm.append_right _ List.perm_append_comm
        exact this
      have q0 : (b :: S).Perm (R ++ [e.2.2.1]) := (List.perm_cons e.2.1).mp (pb.symm.trans pc)
      have d1p := wb.pos
      by_cases bv : b = e.2.2.1
      · have : S.Perm R := by
          rw [bv] at q0
          exact (List.perm_cons e.2.2.1).mp (q0.trans (List.perm_append_singleton _ _))
        exact ⟨c1, .perm hb (this.trans eR), by omega⟩
      · have mS : e.2.2.1 ∈ S := by
          have : e.2.2.1 ∈ b :: S := q0.mem_iff.mpr (by simp)
          exact (List.mem_cons.mp this).resolve_left fun q => bv q.symm
        -- S = v :: S'
        have pS : S.Perm (e.2.2.1 :: S.erase e.2.2.1) := List.perm_cons_erase mS
        have w2 : Wk es e.2.2.1 b (ew e + d1) := (w.back p2).trans wb
        have := Pm.move p2 hb w2 pS
        refine ⟨ew e + d1 + c1, .perm this ?_, by omega⟩
        have q1 : (b :: S).Perm (e.2.2.1 :: b :: S.erase e.2.2.1) := (pS.cons b).trans (.swap _ _ _)
        have q2 : (e.2.2.1 :: b :: S.erase e.2.2.1).Perm (e.2.2.1 :: R) := q1.symm.trans (q0.trans (List.perm_append_singleton _ _))
        exact ((List.perm_cons _).mp q2).trans eR
/-! ### least joins -/
/-- a set of edges is a join of these nodes -/
def IsJ (es : List Eg) (T : List Str) (A : Sub) : Prop := ∀ z, z ∈ T ↔ isOdd (es.filter A) z
def JL (es : List Eg) (T : List Str) (r : Option Int) : Prop := match r with
  | none => ∀ A, ¬ IsJ es T A
  | some m => (∃ A, IsJ es T A ∧ ln (es.filter A) = m) ∧ ∀ A, IsJ es T A → m ≤ ln (es.filter A)
def pts' (odd T : List Str) : List Str := T.foldl (fun P z => if z ∈ P then P.erase z else z :: P) odd
theorem pts'_nodup {odd T : List Str} (h : odd.Nodup) : (pts' odd T).Nodup := by
  unfold pts'
  induction T generalizing odd with
  | nil => exact h
  | cons z T ih =>
    rw [List.foldl_cons]
    refine ih ?_
    split
    · exact h.erase z
    · rename_i n
      exact List.nodup_cons.mpr ⟨n, h⟩
theorem pts'_iff {odd T : List Str} (h : odd.Nodup) (ht : T.Nodup) (z : Str) : z ∈ pts' odd T ↔ ¬ (z ∈ odd ↔ z ∈ T) := by
  unfold pts'
  induction T generalizing odd with
  | nil => simp
  | cons y T ih =>
    obtain ⟨n1, n2⟩ := List.nodup_cons.mp ht
    rw [List.foldl_cons]
    have nd : (if y ∈ odd then odd.erase y else y :: odd).Nodup := by
      split
      · exact h.erase y
      · rename_i n
        exact List.nodup_cons.mpr ⟨n, h⟩
    rw [ih nd n2]
    by_cases q : z = y
    · subst q
      by_cases m : z ∈ odd
      · simp [m, n1, h.mem_erase_iff]
      · simp [m, n1]
    · by_cases m : y ∈ odd
      · simp [m, h.mem_erase_iff, q]
      · simp [m, q]
theorem join_of_opt {es : List Eg} (nd : es.Nodup) (p2 : Prop2 es) {odd T : List Str} (h : odd.Nodup) (ht : T.Nodup) (ho : ∀ y, y ∈ odd ↔ isOdd (negs es) y) {r : Option (Int × Option Str)} (o : Opt es (pts' odd T) r) : JL es T (r.map fun q => q.1 + ((negs es).map (·.2.2.2)).sum) := by
  have np := pts'_nodup (T := T) h
  have par : ∀ (A : Sub) (z : Str), (isOdd (es.filter (sx A isN)) z ↔ ¬ (isOdd (es.filter A) z ↔ z ∈ odd)) := fun A z => by
    have := cnt_sx A isN z es
    have q := ho z
    unfold isOdd at *
    rw [this]
    have : negs es = es.filter isN := rfl
    rw [this] at q
    rw [q]
    omega
  have toP : ∀ A, IsJ es T A → ∀ z, z ∈ pts' odd T ↔ isOdd (es.filter (sx A isN)) z := fun A j z => by
    rw [par, pts'_iff h ht, j z]
    exact not_congr Iff.comm
  have base : ((negs es).map (·.2.2.2)).sum = ln (es.filter isN) := rfl
  have low : ∀ A, IsJ es T A → ∃ c, Pm es (pts' odd T) c ∧ c + ln (es.filter isN) ≤ ln (es.filter A) := fun A j => by
    obtain ⟨c, pm, l⟩ := Pm.of_edges p2 (J := es.filter (sx A isN)) (fun e he => (List.mem_filter.mp he).1) np (toP A j)
    have := ln_sx A es
    exact ⟨c, pm, by omega⟩
  cases r with
  | none =>
    intro A j
    obtain ⟨c, pm, _⟩ := low A j
    exact o c pm
  | some q =>
    obtain ⟨pm, least, _⟩ := o
    have lo : ∀ A, IsJ es T A → q.1 + ln (es.filter isN) ≤ ln (es.filter A) := fun A j => by
      obtain ⟨c, pm', l⟩ := low A j
      have := least c pm'
      omega
    refine ⟨?_, lo⟩
    obtain ⟨B, hB, lB⟩ := pm.join nd np
    have twice : ∀ A : Sub, sx (sx A isN) isN = A := fun A => by
      funext e
      simp only [sx]
      cases A e <;> cases isN e <;> rfl
    have j : IsJ es T (sx B isN) := fun z => by
      have a := par (sx B isN) z
      rw [twice] at a
      have b := hB z
      rw [pts'_iff h ht] at b
      by_cases x1 : z ∈ odd <;> by_cases x2 : z ∈ T <;> by_cases x3 : isOdd (es.filter (sx B isN)) z <;> simp_all
    refine ⟨_, j, ?_⟩
    have a := ln_sx (sx B isN) es
    rw [twice] at a
    have := lo _ j
    show _ = q.1 + ln (es.filter isN)
    omega
end Lj

set_option maxHeartbeats 1000000
/-! small readings that many laws use -/
namespace Lj
open PySem PySem.Spec PyProof.Rows L2 Lw
open Evl (EvL EvA EvT EvU RC)
variable {K : PySem.W.Frag}
theorem paired_len {α β : Type} {R : α → β → Prop} : ∀ {as : List α} {bs : List β}, Paired R as bs → as.length = bs.length
  | _, _, .nil => rfl
  | _, _, .cons _ t => congrArg (· + 1) (paired_len t)
theorem paired_at {α β : Type} {R : α → β → Prop} : ∀ {as : List α} {bs : List β}, Paired R as bs → ∀ {i : Nat} {a : α}, as[i]? = some a → ∃ b, bs[i]? = some b ∧ R a b
  | _, _, .nil, i, a, h => by simp at h
  | _, _, .cons x t, 0, a, h => ⟨_, rfl, by cases Option.some.inj h; exact x⟩
  | _, _, .cons x t, i + 1, a, h => paired_at t (i := i) h
theorem paired_app {α β : Type} {R : α → β → Prop} : ∀ {as cs : List α} {bs ds : List β}, Paired R as bs → Paired R cs ds → Paired R (as ++ cs) (bs ++ ds)
  | _, _, _, _, .nil, k => k
  | _, _, _, _, .cons x t, k => .cons x (paired_app t k)
theorem g_catA {te tf : TE} {σ : L2.St} {H : Hp} {a : Addr} {xs ys : List V} {Q : VK} (h1 : Evl.Ev te σ H (.ref a)) (hx : H a = some (.tup xs)) (h2 : Evl.EvU tf σ H ys) (hz : xs.length + ys.length ≤ 100000) (k : ∀ r H1, Evl.Ex H H1 → H1 r = some (.tup (xs ++ ys)) → Q (.ref r) H1) : tOp (rCatA K) te tf σ H Q :=
  h1 H (Evl.Ex.refl H) _ fun H1 e1 => h2 H1 e1 _ fun b H2 nb e2 hb => ⟨a, b, xs, ys, rfl, rfl, Evl.st_of (e2 _ _ (e1 _ _ hx)), Evl.st_of hb, Evl.sz_of hz, fun z => k b H2 (e1.trans e2) (by rw [z]; exact hb), fun _ z => k a H2 (e1.trans e2) (by rw [z, List.append_nil]; exact e2 _ _ (e1 _ _ hx)), fun _ _ p np => k p _ ((e1.trans e2).trans (Evl.Ex.new np)) upd_same⟩
theorem g_yes {σ : L2.St} {H : Hp} {F : Bool → Hp → Prop} (h : F true H) : tYes σ H F := h
theorem g_tupE {ta : TA} {σ : L2.St} {H : Hp} {Q : VK} (h : ta σ H fun xs H1 => xs.length ≤ sizeLine ∧ ∀ p, H1 p = none → Q (.ref p) (upd H1 p (.tup xs))) : tTup ta σ H Q := h
abbrev TupsAt (H : Hp) (ts : List Addr) (Ts : List (List Str)) : Prop := Paired (fun t T => H t = some (.tup (T.map V.str))) ts Ts
theorem TupsAt.tk {H H' : Hp} (k : TK H H') {ts : List Addr} {Ts : List (List Str)} (h : TupsAt H ts Ts) : TupsAt H' ts Ts := paired_imp (fun _ _ z => k _ _ z) h
theorem g_c {v : V} {σ : L2.St} {H : Hp} {Q : VK} (h : Q v H) : tC v σ H Q := h
theorem s_forLVia {K : PySem.W.Frag} {tl : TE} {g : TG} {tu : TS} {D : Ends} {σ : L2.St} {H : Hp} (S : Addr → List V → Hp → Prop) (h1 : ∀ Q' : VK, (∀ p xs H', S p xs H' → Q' (.ref p) H') → tl σ H Q') (Pv : Addr → List V → Nat → L2.St → Hp → Prop)
    (h0 : ∀ p xs H', S p xs H' → Pv p xs 0 σ H') (hl : ∀ p xs i σ' H', Pv p xs i σ' H' → SqL K H' p xs)
    (hs : ∀ p xs i x σ' H', xs[i]? = some x → Pv p xs i σ' H' → g x σ' H' fun σ2 H2 => tu { D with nx := Pv p xs (i + 1), ct := Pv p xs (i + 1), bk := D.nx } σ2 H2) (hd : ∀ p xs σ' H', Pv p xs xs.length σ' H' → D.nx σ' H') : tFor (iList K tl) g tu D σ H :=
  h1 _ fun p xs H' hS => ⟨p, rfl, ⟨xs, hl _ _ _ _ _ (h0 _ _ _ hS)⟩, for_list (Pv p xs) (h0 _ _ _ hS) (fun i σ' H' _ z => hl _ _ _ _ _ z) (fun i x σ' H' hx z => hs p xs i x σ' H' hx z) (fun σ' H' z => hd p xs σ' H' z)⟩
end Lj

set_option maxHeartbeats 1000000
/-! {k: v for x in l}, l a list or a tuple -/
namespace Lj
open PySem PySem.Spec PyProof.Rows L2 Lw
theorem dc_lst {K : PySem.W.Frag} {a : Addr} {xs : List V} {g : TG} {tt : TT} {tk tv : TE} {vs : List Nat} {σ : L2.St} {H1 : Hp} {D : Addr} {Qd : Hp → Prop} (Pv : Nat → Hp → Prop) (h0 : Pv 0 (upd H1 D (.dK []))) (hl : ∀ i H, i ≤ xs.length → Pv i H → SqL K H a xs)
    (hs : ∀ i x H, xs[i]? = some x → Pv i H → g x (wipe σ vs) H fun σ2 H2 => wipe σ2 vs = wipe σ vs ∧ tt σ2 H2 fun b H3 =>
      if b = true then tk σ2 H3 fun y H4 => tv σ2 H4 fun z H5 => ∃ kvs k, y = kV k ∧ H5 D = some (.dK kvs) ∧ kvs.length < sizeLine ∧ Pv (i + 1) (upd H5 D (.dK (putK kvs k z))) else Pv (i + 1) H3) (hd : ∀ H, Pv xs.length H → Qd H) :
    ∃ W : Nat → Nat → Hp → Prop, (∃ m, W 0 m (upd H1 D (.dK []))) ∧ ∀ i m H, W i m H →
      ((Itl K a).stop i H ∧ Qd H) ∨ ((Itl K a).go i H ∧ ∃ Nx : Hp → Prop, (∀ H', Nx H' → ∃ m', m' < m ∧ W (i + 1) m' H') ∧ ∀ x H', (Itl K a).yld i H x H' → g x (wipe σ vs) H' fun σ2 H2 => wipe σ2 vs = wipe σ vs ∧ tt σ2 H2 fun b H3 =>
        if b = true then tk σ2 H3 fun y H4 => tv σ2 H4 fun z H5 => ∃ kvs k, y = kV k ∧ H5 D = some (.dK kvs) ∧ kvs.length < sizeLine ∧ Nx (upd H5 D (.dK (putK kvs k z))) else Nx H3) := by
  refine ⟨fun i m H => m = xs.length - i ∧ i ≤ xs.length ∧ Pv i H, ⟨xs.length, by simp, Nat.zero_le _, h0⟩, ?_⟩
  rintro i m H ⟨rfl, hi, p⟩
  have q := hl i H hi p
  by_cases hlt : i < xs.length
  · refine .inr ⟨⟨xs, xs[i], q, by simp [hlt]⟩, Pv (i + 1), fun H' p' => ⟨xs.length - (i + 1), by omega, rfl, hlt, p'⟩, fun x H' y => ?_⟩
    obtain ⟨e, y⟩ := y
    subst e
    exact hs i x _ (y xs q) p
  · have e : i = xs.length := by omega
    subst e
    exact .inl ⟨⟨xs, q, Nat.le_refl _⟩, hd _ p⟩
theorem dc_seqVar {K : PySem.W.Frag} {j : Nat} {a : Addr} {xs : List V} {g : TG} {tt : TT} {tk tv : TE} {vs : List Nat} {σ : L2.St} {H : Hp} {Q : VK} (hv : σ[j]? = some (some (.ref a))) (ha : H a = some (.lst xs) ∨ H a = some (.tup xs)) (Pv : Addr → Nat → Hp → Prop) (h0 : ∀ D, H D = none → Pv D 0 (upd H D (.dK []))) (hl : ∀ D i H', Pv D i H' → Evl.Ex H H')
    (hs : ∀ D i x H', xs[i]? = some x → Pv D i H' → g x (wipe σ vs) H' fun σ2 H2 => wipe σ2 vs = wipe σ vs ∧ tt σ2 H2 fun b H3 =>
      if b = true then tk σ2 H3 fun y H4 => tv σ2 H4 fun z H5 => ∃ kvs k, y = kV k ∧ H5 D = some (.dK kvs) ∧ kvs.length < sizeLine ∧ Pv D (i + 1) (upd H5 D (.dK (putK kvs k z))) else Pv D (i + 1) H3) (hd : ∀ D H', H D = none → Pv D xs.length H' → Q (.ref D) H') :
    tDc (fun σ H R => iList K (tVar j) σ H R ∨ iTup K (tVar j) σ H R) g tt tk tv vs σ H Q := by
  rcases ha with ha | ha
  · exact .inl ⟨.ref a, hv, a, rfl, ⟨_, Evl.sq_of ha⟩, fun D nD => dc_lst (K := K) (xs := xs) (Pv D) (h0 D nD) (fun i H' _ p => Evl.ex_l (hl _ _ _ p) (Evl.sq_of ha)) (fun i x H' hx p => hs D i x H' hx p) fun H' p => hd D H' nD p⟩
  · exact .inr ⟨.ref a, hv, a, rfl, ⟨_, Evl.st_of ha⟩, fun D nD => dc_tup (K := K) (xs := xs) (Pv D) (h0 D nD) (fun i H' _ p => Evl.ex_t (hl _ _ _ p) (Evl.st_of ha)) (fun i x H' hx p => hs D i x H' hx p) fun H' p => hd D H' nD p⟩
theorem g_seqFld {K : PySem.W.Frag} {to te : TE} {f : Str} {tz : TS} {D : Ends} {σ : L2.St} {H : Hp} (h : te σ H fun y H1 => to σ H1 fun x H2 => ∃ a C dx fs, x = .ref a ∧ H2 a = some (.ins C dx fs) ∧ Cls K C ∧ NoAttr K C f ∧ fs.length < 1000 ∧ tz D σ (upd H2 a (.ins C dx (putF f y fs)))) : tSeq (sFld K to te f) tz D σ H := h
end Lj

set_option maxHeartbeats 2000000
/-! LeastJoins made -/
namespace Lj
open PySem PySem.Spec PyProof.Rows L2 Lw Hq
open Evl (EvL EvA EvT EvU RC)
abbrev nm_LeastJoins___init__ : List Str := ["self", "edges", "counted", "edge", "name"]
theorem sc_LeastJoins___init__ : FnScope nm_LeastJoins___init__ ["self", "edges", "counted"] (defScope (inClass (top 41) 0)) := ⟨rfl, rfl, rfl, by decide +kernel, rfl, by decide +kernel, by decide +kernel⟩
/-- all but instances stay -/
def Nk (H H' : Hp) : Prop := ∀ a o, (∀ C d fs, o ≠ HO.ins C d fs) → H a = some o → H' a = some o
section
variable {H H' H2 : Hp}
theorem Nk.of (e : Evl.Ex H H') : Nk H H' := fun _ _ _ h => e _ _ h
theorem Nk.trans (h : Nk H H') (k : Nk H' H2) : Nk H H2 := fun a o n e => k a o n (h a o n e)
theorem Nk.put {x C d : Addr} {fs : List (Str × V)} {o : HO} (h : H x = some (.ins C d fs)) : Nk H (upd H x o) := fun a o' n e => by
  rw [upd_ne fun q => by rw [q, h] at e; exact n _ _ _ (Option.some.inj e).symm]
  exact e
theorem Nk.tk (h : Nk H H') : TK H H' := fun _ _ e => h _ _ (by intro _ _ _ z; exact nomatch z) e
theorem StepsAt.nk {d : Addr} {es : List Eg} (k : Nk H H') (h : StepsAt H d es) : StepsAt H' d es := by
  obtain ⟨kvs, h1, h2⟩ := h
  exact ⟨kvs, k _ _ (by intro _ _ _ z; exact nomatch z) h1, fun z => (h2 z).imp id fun ⟨l, bs, h3, h4, h5⟩ => ⟨l, bs, h3, k _ _ (by intro _ _ _ z; exact nomatch z) h4, h5.tk k.tk⟩⟩
end
section
variable {P : Program} {w : World} {K : PySem.W.Frag} {mg : Str → Option Value} {base : Heap} {L : Addr}
def spLjInit (L : Addr) : Sp := fun vs H Q _ => ∃ (x dx e c : Addr) (bs : List Addr) (es cs : List Eg), vs = [V.ref x, .ref e, .ref c] ∧ H x = some (.ins L dx []) ∧ (H e = some (.lst (bs.map V.ref)) ∨ H e = some (.tup (bs.map V.ref))) ∧ EgsAt H bs es ∧ (es.map (·.1)).Nodup ∧ es.length ≤ 200 ∧ Prop2 es ∧ (∀ g ∈ cs, g ∈ es) ∧ cs.length ≤ 200 ∧ H c = some (.tup ((cs.map (·.1)).map V.str)) ∧
  ∀ H' odd dr db, But x H H' → LjFix L H' x es (cs.map (·.1)) odd (cs.map (·.2.2.2)).sum dr db → RoutesAt (fun _ => False) H' dr es 0 → BestAt H' db es 1 → H dr = none → H db = none → odd.Nodup → (∀ y, y ∈ odd ↔ isOdd cs y) → Asc id odd → Q .non H'
theorem nodup_inj {es : List Eg} (n : (es.map (·.1)).Nodup) {a b : Eg} (ha : a ∈ es) (hb : b ∈ es) (e : a.1 = b.1) : a = b := by
  obtain ⟨i, hi, rfl⟩ := List.mem_iff_getElem.mp ha
  obtain ⟨j, hj, rfl⟩ := List.mem_iff_getElem.mp hb
  have q : i = j := (List.getElem_inj (h₀ := by simpa using hi) (h₁ := by simpa using hj) n).mp (by simpa using e)
  subst q
  rfl
theorem edKv_at {H : Hp} {es : List Eg} {bs : List Addr} (h : EgsAt H bs es) (n : (es.map (·.1)).Nodup) {g : Eg} (hg : g ∈ es) : ∃ a, H a = some (.tup (egV g)) ∧ valV (edKv es bs) (Sum.inr g.1) = some (.ref a) := by
  obtain ⟨e, a, h1, h2, _, h4, h5⟩ := edKv_get h (List.mem_map_of_mem hg)
  have := nodup_inj n h1 hg h2
  subst this
  exact ⟨a, h4, h5⟩
theorem _root_.Lw.But.fresh {x a : Addr} {o : HO} {H H' : Hp} (b : But x H H') (hx : H' x = some o) (h : H' a = none) : H a = none := by
  cases e : H a with
  | none => rfl
  | some u =>
    have : a ≠ x := fun z => by rw [z, hx] at h; exact nomatch h
    rw [b _ _ this e] at h
    exact nomatch h
theorem ok_ljInit {f fN fO : Addr} {fd dN dO : FuncData} {k : Nat} (F : Fun K "__init__" "LeastJoins.__init__" (inClass (top 41) 0) f fd) (T : Bs mg bl) (N : LjT K L) (F_edges_by_node : Cf P w K mg base "edges_by_node" ["edges"] k spByNode fN dN) (F_odd_nodes : Cf P w K mg base "odd_nodes" ["edges"] k spOdd fO dO) :
    FnOk P w K mg base CX0 (k + 1) f fd ["self", "edges", "counted"] (spLjInit L) := by
  refine F.ok sc_LeastJoins___init__ (fun vs H Q E h => ?_) (fun cdv A outer s H vs Q E hr h => ?_)
  · obtain ⟨x, dx, e, c, bs, es, cs, rfl, _⟩ := h
    rfl
  · obtain ⟨x, dx, e, c, bs, es, cs, rfl, hx, he, hb, nd, l0, p2, sub, lc, hc, q⟩ := h
    refine ⟨_, (pss_cons (ps_fld (pv 0) (pe_dc (own := [("edge", 3)]) (g := (gName 3)) (tt := tYes) (tk := (tOp (rIxT K) (tVar 3) (tC (.int 0)))) (tv := (tVar 3)) rfl sc_LeastJoins___init__.nd (pi_or (pi_list (pv 1)) (pi_tup (pv 1))) (blkOk_by (N := nm_LeastJoins___init__) (sc := defScope (inClass (top 41) 0)) (by decide +kernel)) (fun _ _ _ _ _ => pg_name (i := 3) sc_LeastJoins___init__.nd rfl (Or.inl rfl)) (fun _ _ _ _ _ => pts_nil) (fun _ _ _ _ _ => (pe_ix ix_tup (pv 3) pe_int (fun _ _ => rfl))) (fun _ _ _ _ _ => (pv 3))) rfl)
      (pss_cons (ps_fld (pv 0) (pe_cf F_edges_by_node (hr.mono (by omega)) (by rfl) (pa_cons (pv 1) pa_nil)) rfl)
      (pss_cons (ps_fld (pv 0) (pe_callTy call_list_of (by rfl) (T.b "list" (by decide)) (by decide +kernel) (pa_cons (pv 2) pa_nil)) rfl)
      (pss_cons (ps_fld (pv 0) (pe_cf F_odd_nodes (hr.mono (by omega)) (by rfl) (pa_cons (pe_lc (own := [("name", 4)]) (g := (gName 4)) (tt := tYes) (te := (tDGet (tFld K (tVar 0) "_edge_of") (tVar 4))) rfl sc_LeastJoins___init__.nd (pi_tup (pv 2)) (blkOk_by (N := nm_LeastJoins___init__) (sc := defScope (inClass (top 41) 0)) (by decide +kernel)) (fun _ _ _ _ _ => pg_name (i := 4) sc_LeastJoins___init__.nd rfl (Or.inl rfl)) (fun _ _ _ _ _ => pts_nil) (fun _ _ _ _ _ => (pe_dget (hu_of hr) (pe_fld (pv 0) rfl) (pv 4) (fun _ _ => rfl)))) pa_nil)) rfl)
      (pss_cons (ps_fld (pv 0) (pe_callB (cr_sum rfl) (by rfl) (T.b "sum" (by decide)) (by decide +kernel) (pa_cons (pe_lc (own := [("name", 4)]) (g := (gName 4)) (tt := tYes) (te := (tOp (rIxT K) (tDGet (tFld K (tVar 0) "_edge_of") (tVar 4)) (tC (.int 3)))) rfl sc_LeastJoins___init__.nd (pi_tup (pv 2)) (blkOk_by (N := nm_LeastJoins___init__) (sc := defScope (inClass (top 41) 0)) (by decide +kernel)) (fun _ _ _ _ _ => pg_name (i := 4) sc_LeastJoins___init__.nd rfl (Or.inl rfl)) (fun _ _ _ _ _ => pts_nil) (fun _ _ _ _ _ => (pe_ix ix_tup (pe_dget (hu_of hr) (pe_fld (pv 0) rfl) (pv 4) (fun _ _ => rfl)) pe_int (fun _ _ => rfl)))) pa_nil)) rfl)
      (pss_cons (ps_fld (pv 0) pe_dnewK rfl)
      (pss_one (ps_fld (pv 0) (pe_dispT1 (hu_of hr) (pe_tup pa_nil) (pe_tup (pa_cons pe_int (pa_cons pe_non pa_nil)))) rfl)))))))), ?_⟩
    have nt : ∀ {xs : List V}, ∀ C d fs, HO.tup xs ≠ HO.ins C d fs := fun _ _ _ z => nomatch z
    have nl : ∀ {xs : List V}, ∀ C d fs, HO.lst xs ≠ HO.ins C d fs := fun _ _ _ z => nomatch z
    have nk : ∀ {ks : List (Key × V)}, ∀ C d fs, HO.dK ks ≠ HO.ins C d fs := fun _ _ _ z => nomatch z
    have nkT : ∀ {ks : List (List Key × V)}, ∀ C d fs, HO.dT ks ≠ HO.ins C d fs := fun _ _ _ z => nomatch z
    -- _edge_of
    refine g_seqFld ?_
    refine dc_seqVar (K := K) (xs := bs.map V.ref) rfl he (fun D i H' => H D = none ∧ Evl.Ex H H' ∧ H' D = some (.dK (edKv (es.take i) (bs.take i)))) (fun D nD => ⟨nD, Evl.Ex.new nD, upd_same⟩) (fun D i H' ⟨_, e1, _⟩ => e1) (fun D i y H' hy ⟨nD, e1, hD⟩ => ⟨rfl, ?_⟩) (fun D H1 nD ⟨_, e1, hD⟩ => ?_)
    · rw [List.getElem?_map] at hy
      obtain ⟨a', ha', rfl⟩ := Option.map_eq_some_iff.mp hy
      obtain ⟨g, hgi, hag⟩ := egs_get hb ha'
      have li : i < es.length := (List.getElem?_eq_some_iff.mp hgi).1
      have lb := hb.len
      have tk1 : es.take (i + 1) = es.take i ++ [g] := by
        rw [List.take_add_one, hgi]
        rfl
      have tk2 : bs.take (i + 1) = bs.take i ++ [a'] := by
        rw [List.take_add_one, ha']
        rfl
      have out : ¬ g.1 ∈ (es.take i).map (·.1) := fun hm => by
        have nd2 : ((es.take i).map (·.1) ++ [g.1]).Nodup := by
          have : (es.take i).map (·.1) ++ [g.1] = (es.take (i + 1)).map (·.1) := by
            rw [tk1, List.map_append]
            rfl
          rw [this, List.map_take]
          exact (List.take_sublist _ _).nodup nd
        exact (List.nodup_append.mp nd2).2.2 _ hm _ (List.mem_singleton.mpr rfl) rfl
      have lk : (bs.take i).length = (es.take i).length := by
        rw [List.length_take, List.length_take, lb]
      refine ⟨.ref a', rfl, a', egV g, 0, .str g.1, rfl, rfl, .inl (.inl (e1 _ _ hag)), rfl, .ref a', rfl, _, Sum.inr g.1, rfl, hD, ?_, nD, e1.mut nD, ?_⟩
      · rw [edKv_len lk, List.length_take]
        exact Evl.sz_lt (by omega)
      · rw [upd_same, putK_new _ (edKv_none out), tk1, tk2, edKv_snoc lk]
    have lb := hb.len
    rw [List.length_map, lb, List.take_length, ← lb, List.take_length] at hD
    have hx1 := e1 _ _ hx
    refine ⟨.ref x, rfl, x, L, dx, [], rfl, hx1, N.cl, N.n1, by decide, ?_⟩
    have b2 : But x H (upd H1 x (.ins L dx (putF "_edge_of" (.ref D) []))) := (But.of e1).trans But.put
    have k2 : Nk H1 (upd H1 x (.ins L dx (putF "_edge_of" (.ref D) []))) := Nk.put hx1
    have hx2 : (upd H1 x (.ins L dx (putF "_edge_of" (.ref D) []))) x = some (.ins L dx (putF "_edge_of" (.ref D) [])) := upd_same
    generalize (upd H1 x (.ins L dx (putF "_edge_of" (.ref D) []))) = H2 at b2 k2 hx2 ⊢
    have hD2 := k2 _ _ nk hD
    have K2 : Nk H H2 := (Nk.of e1).trans k2
    -- _steps
    refine ⟨.ref e, rfl, e, bs, es, rfl, he.imp (K2 _ _ nl) (K2 _ _ nt), hb.tk K2.tk, by omega, p2, fun ds H3 e3 nds hS => ?_⟩
    refine ⟨.ref x, rfl, x, L, dx, _, rfl, e3 _ _ hx2, N.cl, N.n2, by show 1 < 1000; decide, ?_⟩
    have b4 : But x H (upd H3 x (.ins L dx (putF "_steps" (.ref ds) (putF "_edge_of" (.ref D) [])))) := (b2.trans (But.of e3)).trans But.put
    have k4 : Nk H3 (upd H3 x (.ins L dx (putF "_steps" (.ref ds) (putF "_edge_of" (.ref D) [])))) := Nk.put (e3 _ _ hx2)
    have hx4 : (upd H3 x (.ins L dx (putF "_steps" (.ref ds) (putF "_edge_of" (.ref D) [])))) x = some (.ins L dx (putF "_steps" (.ref ds) (putF "_edge_of" (.ref D) []))) := upd_same
    generalize (upd H3 x (.ins L dx (putF "_steps" (.ref ds) (putF "_edge_of" (.ref D) [])))) = H4 at b4 k4 hx4 ⊢
    have K4 : Nk H H4 := (K2.trans (Nk.of e3)).trans k4
    have hD4 := k4 _ _ nk (e3 _ _ hD2)
    have hS4 := hS.nk k4
    -- _counted
    refine ⟨.ref c, rfl, c, _, rfl, .inr (Evl.st_of (K4 _ _ nt hc)), fun l nl5 => ?_⟩
    have e5 : Evl.Ex H4 (upd H4 l (.lst ((cs.map (·.1)).map V.str))) := Evl.Ex.new nl5
    have hl5 : (upd H4 l (.lst ((cs.map (·.1)).map V.str))) l = some (.lst ((cs.map (·.1)).map V.str)) := upd_same
    generalize (upd H4 l (.lst ((cs.map (·.1)).map V.str))) = H5 at e5 hl5 ⊢
    refine ⟨.ref x, rfl, x, L, dx, _, rfl, e5 _ _ hx4, N.cl, N.n3, by show 2 < 1000; decide, ?_⟩
    have b6 : But x H (upd H5 x (.ins L dx (putF "_counted" (.ref l) (putF "_steps" (.ref ds) (putF "_edge_of" (.ref D) []))))) := (b4.trans (But.of e5)).trans But.put
    have k6 : Nk H5 (upd H5 x (.ins L dx (putF "_counted" (.ref l) (putF "_steps" (.ref ds) (putF "_edge_of" (.ref D) []))))) := Nk.put (e5 _ _ hx4)
    have hx6 : (upd H5 x (.ins L dx (putF "_counted" (.ref l) (putF "_steps" (.ref ds) (putF "_edge_of" (.ref D) []))))) x = some (.ins L dx (putF "_counted" (.ref l) (putF "_steps" (.ref ds) (putF "_edge_of" (.ref D) [])))) := upd_same
    generalize (upd H5 x (.ins L dx (putF "_counted" (.ref l) (putF "_steps" (.ref ds) (putF "_edge_of" (.ref D) []))))) = H6 at b6 k6 hx6 ⊢
    have K46 : Nk H4 H6 := (Nk.of e5).trans k6
    have K6 : Nk H H6 := K4.trans K46
    have hD6 := K46 _ _ nk hD4
    have hS6 := hS4.nk K46
    have hl6 := k6 _ _ nl hl5
    have hb6 := hb.tk K6.tk
    -- _odd
    refine ⟨.ref c, rfl, c, rfl, ⟨_, Evl.st_of (K6 _ _ nt hc)⟩, fun D7 nD7 => ?_⟩
    refine lc_tup (K := K) (xs := (cs.map (·.1)).map V.str) (fun i H' => ∃ as : List Addr, Evl.Ex H6 H' ∧ H' D7 = some (.lst (as.map V.ref)) ∧ EgsAt H' as (cs.take i)) ⟨[], Evl.Ex.new nD7, upd_same, .nil⟩ (fun i H' _ ⟨_, e7, _⟩ => Evl.ex_t e7 (Evl.st_of (K6 _ _ nt hc))) (fun i y H' hy ⟨as, e7, hD7, has⟩ => ⟨rfl, ?_⟩) (fun H7 ⟨as, e7, hD7, has⟩ => ?_)
    · rw [List.getElem?_map, List.getElem?_map] at hy
      obtain ⟨n, hn, rfl⟩ := Option.map_eq_some_iff.mp hy
      obtain ⟨g, hg, rfl⟩ := Option.map_eq_some_iff.mp hn
      have li : i < cs.length := (List.getElem?_eq_some_iff.mp hg).1
      obtain ⟨a', ha', hv⟩ := edKv_at hb6 nd (sub g (List.mem_of_getElem? hg))
      have las := has.len
      rw [List.length_take] at las
      refine ⟨.ref x, rfl, x, L, dx, _, .ref D, rfl, e7 _ _ hx6, N.cl, N.n1, by kernel_rfl, .str g.1, rfl, D, .ref a', rfl, .inl ⟨_, Sum.inr g.1, .inl (e7 _ _ hD6), rfl, hv.symm⟩, _, hD7, by rw [List.length_map]; exact Evl.sz_lt (by omega), as ++ [a'], e7.mut nD7, by rw [upd_same, List.map_append]; rfl, ?_⟩
      have kk : TK H' (upd H' D7 (.lst (as.map V.ref ++ [.ref a']))) := TK.put (.inr ⟨_, hD7⟩)
      rw [List.take_add_one, hg]
      exact paired_snoc (has.tk kk) (kk _ _ (e7 _ _ ha'))
    rw [List.length_map, List.length_map, List.take_length] at has
    refine ⟨D7, as, cs, cs.map (·.2.1) ++ cs.map (·.2.2.1), rfl, .inl hD7, has, by omega, by rw [List.length_append, List.length_map, List.length_map]; omega, fun g hg => ⟨List.mem_append_left _ (List.mem_map_of_mem (f := fun g : Eg => g.2.1) hg), List.mem_append_right _ (List.mem_map_of_mem (f := fun g : Eg => g.2.2.1) hg)⟩, fun lo odd H8 e8 nlo hlo ndo memo asco => ?_⟩
    have e68 := e7.trans e8
    refine ⟨.ref x, rfl, x, L, dx, _, rfl, e68 _ _ hx6, N.cl, N.n4, by show 3 < 1000; decide, ?_⟩
    have b9 : But x H (upd H8 x (.ins L dx (putF "_odd" (.ref lo) (putF "_counted" (.ref l) (putF "_steps" (.ref ds) (putF "_edge_of" (.ref D) [])))))) := (b6.trans (But.of e68)).trans But.put
    have k9 : Nk H8 (upd H8 x (.ins L dx (putF "_odd" (.ref lo) (putF "_counted" (.ref l) (putF "_steps" (.ref ds) (putF "_edge_of" (.ref D) [])))))) := Nk.put (e68 _ _ hx6)
    have hx9 : (upd H8 x (.ins L dx (putF "_odd" (.ref lo) (putF "_counted" (.ref l) (putF "_steps" (.ref ds) (putF "_edge_of" (.ref D) [])))))) x = some (.ins L dx (putF "_odd" (.ref lo) (putF "_counted" (.ref l) (putF "_steps" (.ref ds) (putF "_edge_of" (.ref D) []))))) := upd_same
    generalize (upd H8 x (.ins L dx (putF "_odd" (.ref lo) (putF "_counted" (.ref l) (putF "_steps" (.ref ds) (putF "_edge_of" (.ref D) [])))))) = H9 at b9 k9 hx9 ⊢
    have K69 : Nk H6 H9 := (Nk.of e68).trans k9
    have K9 := K6.trans K69
    have hD9 := K69 _ _ nk hD6
    have hb9 := hb.tk K9.tk
    have hlo9 := k9 _ _ nt hlo
    -- _base
    refine ⟨.ref c, rfl, c, rfl, ⟨_, Evl.st_of (K9 _ _ nt hc)⟩, fun Da nDa => ?_⟩
    refine lc_tup (K := K) (xs := (cs.map (·.1)).map V.str) (fun i H' => Evl.Ex H9 H' ∧ H' Da = some (.lst (((cs.take i).map (·.2.2.2)).map V.int))) ⟨Evl.Ex.new nDa, upd_same⟩ (fun i H' _ ⟨e7, _⟩ => Evl.ex_t e7 (Evl.st_of (K9 _ _ nt hc))) (fun i y H' hy ⟨e7, hDa⟩ => ⟨rfl, ?_⟩) (fun Ha ⟨ea, hDa⟩ => ?_)
    · rw [List.getElem?_map, List.getElem?_map] at hy
      obtain ⟨n, hn, rfl⟩ := Option.map_eq_some_iff.mp hy
      obtain ⟨g, hg, rfl⟩ := Option.map_eq_some_iff.mp hn
      have li : i < cs.length := (List.getElem?_eq_some_iff.mp hg).1
      obtain ⟨a', ha', hv⟩ := edKv_at hb9 nd (sub g (List.mem_of_getElem? hg))
      refine ⟨.ref x, rfl, x, L, dx, _, .ref D, rfl, e7 _ _ hx9, N.cl, N.n1, by kernel_rfl, .str g.1, rfl, D, .ref a', rfl, .inl ⟨_, Sum.inr g.1, .inl (e7 _ _ hD9), rfl, hv.symm⟩, a', egV g, 3, .int g.2.2.2, rfl, rfl, .inl (.inl (e7 _ _ ha')), rfl, _, hDa, ?_, e7.mut nDa, ?_⟩
      · rw [List.length_map, List.length_map, List.length_take]
        exact Evl.sz_lt (by omega)
      · rw [upd_same, List.take_add_one, hg, List.map_append, List.map_append]
        rfl
    rw [List.length_map, List.length_map, List.take_length] at hDa
    refine ⟨Da, _, rfl, Evl.sq_of hDa, ?_⟩
    refine ⟨.ref x, rfl, x, L, dx, _, rfl, ea _ _ hx9, N.cl, N.n5, by show 4 < 1000; decide, ?_⟩
    have bb : But x H (upd Ha x (.ins L dx (putF "_base" (.int (cs.map (·.2.2.2)).sum) (putF "_odd" (.ref lo) (putF "_counted" (.ref l) (putF "_steps" (.ref ds) (putF "_edge_of" (.ref D) []))))))) := (b9.trans (But.of ea)).trans But.put
    have kb : Nk Ha (upd Ha x (.ins L dx (putF "_base" (.int (cs.map (·.2.2.2)).sum) (putF "_odd" (.ref lo) (putF "_counted" (.ref l) (putF "_steps" (.ref ds) (putF "_edge_of" (.ref D) []))))))) := Nk.put (ea _ _ hx9)
    have hxb : (upd Ha x (.ins L dx (putF "_base" (.int (cs.map (·.2.2.2)).sum) (putF "_odd" (.ref lo) (putF "_counted" (.ref l) (putF "_steps" (.ref ds) (putF "_edge_of" (.ref D) []))))))) x = some (.ins L dx (putF "_base" (.int (cs.map (·.2.2.2)).sum) (putF "_odd" (.ref lo) (putF "_counted" (.ref l) (putF "_steps" (.ref ds) (putF "_edge_of" (.ref D) [])))))) := upd_same
    generalize (upd Ha x (.ins L dx (putF "_base" (.int (cs.map (·.2.2.2)).sum) (putF "_odd" (.ref lo) (putF "_counted" (.ref l) (putF "_steps" (.ref ds) (putF "_edge_of" (.ref D) []))))))) = Hb at bb kb hxb ⊢
    have Kb : Nk H9 Hb := (Nk.of ea).trans kb
    have hDb := Kb _ _ nk hD9
    have hlob := Kb _ _ nt hlo9
    have hlb := Kb _ _ nl (K69 _ _ nl hl6)
    have hSb := (hS6.nk K69).nk Kb
    have hbb := hb9.tk Kb.tk
    -- _routes
    refine fun dr ndr => ?_
    have ec : Evl.Ex Hb (upd Hb dr (.dK [])) := Evl.Ex.new ndr
    have hdrc : (upd Hb dr (.dK [])) dr = some (.dK []) := upd_same
    generalize upd Hb dr (.dK []) = Hc at ec hdrc ⊢
    refine ⟨.ref x, rfl, x, L, dx, _, rfl, ec _ _ hxb, N.cl, N.n6, by show 5 < 1000; decide, ?_⟩
    have bd : But x H (upd Hc x (.ins L dx (putF "_routes" (.ref dr) (putF "_base" (.int (cs.map (·.2.2.2)).sum) (putF "_odd" (.ref lo) (putF "_counted" (.ref l) (putF "_steps" (.ref ds) (putF "_edge_of" (.ref D) [])))))))) := (bb.trans (But.of ec)).trans But.put
    have kd : Nk Hc (upd Hc x (.ins L dx (putF "_routes" (.ref dr) (putF "_base" (.int (cs.map (·.2.2.2)).sum) (putF "_odd" (.ref lo) (putF "_counted" (.ref l) (putF "_steps" (.ref ds) (putF "_edge_of" (.ref D) [])))))))) := Nk.put (ec _ _ hxb)
    have hxd : (upd Hc x (.ins L dx (putF "_routes" (.ref dr) (putF "_base" (.int (cs.map (·.2.2.2)).sum) (putF "_odd" (.ref lo) (putF "_counted" (.ref l) (putF "_steps" (.ref ds) (putF "_edge_of" (.ref D) [])))))))) x = some (.ins L dx (putF "_routes" (.ref dr) (putF "_base" (.int (cs.map (·.2.2.2)).sum) (putF "_odd" (.ref lo) (putF "_counted" (.ref l) (putF "_steps" (.ref ds) (putF "_edge_of" (.ref D) []))))))) := upd_same
    generalize (upd Hc x (.ins L dx (putF "_routes" (.ref dr) (putF "_base" (.int (cs.map (·.2.2.2)).sum) (putF "_odd" (.ref lo) (putF "_counted" (.ref l) (putF "_steps" (.ref ds) (putF "_edge_of" (.ref D) [])))))))) = Hd at bd kd hxd ⊢
    have Kd : Nk Hb Hd := (Nk.of ec).trans kd
    have hdrd := kd _ _ nk hdrc
    -- _best
    refine fun db ndb => ⟨Evl.sz_of (by simp), fun t0 nt0 => ⟨Evl.sz_of (by simp), fun t1 nt1 => ⟨?_, t0, [], rfl, ?_, ?_⟩⟩⟩
    · exact Evl.Ex.new nt1 _ _ (Evl.Ex.new nt0 _ _ upd_same)
    · exact Evl.Ex.new nt1 _ _ upd_same
    have h1t : (upd (upd (upd Hd db (.dT [])) t0 (.tup [])) t1 (.tup [.int 0, .non])) t1 = some (.tup [.int 0, .non]) := upd_same
    have eg : Evl.Ex Hd (upd (upd (upd Hd db (.dT [])) t0 (.tup [])) t1 (.tup [.int 0, .non])) := ((Evl.Ex.new ndb).trans (Evl.Ex.new nt0)).trans (Evl.Ex.new nt1)
    have hdbg : (upd (upd (upd Hd db (.dT [])) t0 (.tup [])) t1 (.tup [.int 0, .non])) db = some (.dT []) := Evl.Ex.new nt1 _ _ (Evl.Ex.new nt0 _ _ upd_same)
    generalize (upd (upd (upd Hd db (.dT [])) t0 (.tup [])) t1 (.tup [.int 0, .non])) = Hg at h1t eg hdbg ⊢
    have t1b : t1 ≠ db := fun z => by rw [z, hdbg] at h1t; exact nomatch h1t
    have eh : Evl.Ex Hd (upd Hg db (.dT [([], .ref t1)])) := eg.mut ndb
    have hdbh : (upd Hg db (.dT [([], .ref t1)])) db = some (.dT [([], .ref t1)]) := upd_same
    have h1h : (upd Hg db (.dT [([], .ref t1)])) t1 = some (.tup [.int 0, .non]) := by rw [upd_ne t1b]; exact h1t
    generalize (upd Hg db (.dT [([], .ref t1)])) = Hh at eh hdbh h1h ⊢
    refine ⟨.ref x, rfl, x, L, dx, _, rfl, eh _ _ hxd, N.cl, N.n7, by show 6 < 1000; decide, ?_⟩
    have bi : But x H (upd Hh x (.ins L dx (ljF D ds l lo (cs.map (·.2.2.2)).sum dr db))) := (bd.trans (But.of eh)).trans But.put
    have ki : Nk Hh (upd Hh x (.ins L dx (ljF D ds l lo (cs.map (·.2.2.2)).sum dr db))) := Nk.put (eh _ _ hxd)
    have hxi : (upd Hh x (.ins L dx (ljF D ds l lo (cs.map (·.2.2.2)).sum dr db))) x = some (.ins L dx (ljF D ds l lo (cs.map (·.2.2.2)).sum dr db)) := upd_same
    have Ki : Nk Hb (upd Hh x (.ins L dx (ljF D ds l lo (cs.map (·.2.2.2)).sum dr db))) := (Kd.trans (Nk.of eh)).trans ki
    have goal : ∀ Hi : Hp, But x H Hi → Nk Hh Hi → Nk Hb Hi → Hi x = some (.ins L dx (ljF D ds l lo (cs.map (·.2.2.2)).sum dr db)) → Q .non Hi := fun Hi bi ki Ki hxi => by
      have hdri := ki _ _ nk (eh _ _ hdrd)
      have hdbi := ki _ _ nkT hdbh
      have tri := ki _ _ nt h1h
      have dDr : D ≠ dr := (apart hDb ndr).symm
      have dsDr : ds ≠ dr := by
        obtain ⟨kvs, h1, _⟩ := hSb
        exact (apart h1 ndr).symm
      have drb : dr ≠ db := (apart hdrd ndb).symm
      refine q Hi odd dr db bi ⟨dx, D, ds, l, lo, bs, hxi, Ki _ _ nk hDb, hbb.tk Ki.tk, hSb.nk Ki, Ki _ _ nl hlb, Ki _ _ nt hlob, dDr, dsDr, drb⟩ ⟨[], hdri, Nat.le_refl _, fun _ h => h.elim, fun z => .inl rfl⟩ ⟨[([], .ref t1)], hdbi, Nat.le_refl _, ?_, fun P => ?_⟩ (bb.fresh hxb ndr) (bd.fresh hxd ndb) ndo memo asco
      · rw [valV_pos (p := (([] : List Key), V.ref t1)) (k := []) rfl]
        exact fun z => nomatch z
      · cases P with
        | nil => exact .inr ⟨.ref t1, some (0, none), valV_pos (p := (([] : List Key), V.ref t1)) (k := []) rfl, ⟨t1, rfl, tri⟩, Opt.nil es⟩
        | cons y P => exact .inl (valV_neg (p := (([] : List Key), V.ref t1)) (fun z => nomatch z))
    exact goal _ bi ki Ki hxi
end
end Lj

set_option maxHeartbeats 2000000
namespace Lw
open PySem PySem.Spec PyProof.Rows L2
open Evl (EvL EvA EvT RC)
abbrev nm_Network_nodes : List Str := ["self"]
theorem sc_Network_nodes : FnScope nm_Network_nodes ["self"] (defScope (inClass (top 59) 7)) := ⟨rfl, rfl, rfl, by decide +kernel, rfl, by decide +kernel, by decide +kernel⟩
abbrev nm_Network_edges : List Str := ["self"]
theorem sc_Network_edges : FnScope nm_Network_edges ["self"] (defScope (inClass (top 59) 8)) := ⟨rfl, rfl, rfl, by decide +kernel, rfl, by decide +kernel, by decide +kernel⟩
abbrev nm_Network_text : List Str := ["self"]
theorem sc_Network_text : FnScope nm_Network_text ["self"] (defScope (inClass (top 59) 11)) := ⟨rfl, rfl, rfl, by decide +kernel, rfl, by decide +kernel, by decide +kernel⟩
abbrev nm__law_made : List Str := ["_law_network"]
theorem sc__law_made : FnScope nm__law_made ["_law_network"] (defScope (top 67)) := ⟨rfl, rfl, rfl, by decide +kernel, rfl, by decide +kernel, by decide +kernel⟩
section
variable {P : Program} {w : World} {K : PySem.W.Frag} {mg : Str → Option Value} {base : Heap} {C : Addr}
theorem NetAt.but {p c : Addr} {n : Nat} {H H' : Hp} {x : Addr} {ns : List Str} {es : List Eg} (hP : Pen p c n H) (b : But p H H') (h : NetAt C H x ns es) : NetAt C H' x ns es := by
  obtain ⟨dx, t, r, d, bs, h1, h2, h3, h4, h5⟩ := h
  obtain ⟨cs, u, l, hp, hc, hcs⟩ := id hP
  have np : ∀ {y : Addr} {o : HO}, H y = some o → o ≠ penO c u l → H' y = some o := fun {y o} hy no => b y o (fun z => by
    rw [z, hp] at hy
    exact no (Option.some.inj hy).symm) hy
  refine ⟨dx, t, r, d, bs, np h1 (by intro z; exact nomatch z), np h2 (by intro z; exact nomatch z), np h3 (by intro z; exact nomatch z), h4.tk (TK.but hP b), np h5 fun z => ?_⟩
  have e := HO.dK.inj z
  cases es with
  | nil =>
    rw [edKv] at e
    · exact nomatch e
    · intro _ _ _ _ q
      exact nomatch q
  | cons e0 es =>
    cases bs with
    | nil => exact nomatch h4
    | cons b0 bs =>
      rw [edKv] at e
      have := congrArg (fun l : List (Key × V) => l.head?.map (·.2)) e
      simp only [List.head?_cons, Option.map_some, Option.some.injEq, V.ref.injEq] at this
      -- the first value of the source is its list of cells, that of a network's dict an edge
      have hb := h4
      cases hb with
      | cons h _ =>
        rw [this, hc] at h
        exact nomatch h
/-- network.nodes -/
def spNodes (C : Addr) : Sp := fun vs H Q _ => ∃ (x : Addr) (ns : List Str) (es : List Eg), vs = [V.ref x] ∧ NetAt C H x ns es ∧ ∀ t H', Evl.Ex H H' → H' t = some (.tup (ns.map V.str)) → Q (.ref t) H'
theorem ok_nodes {f : Addr} {fd : FuncData} {k : Nat} (F : Fun K "nodes" "Network.nodes" (inClass (top 59) 7) f fd) (T : Bs mg bl) (N : NwT K C) : FnOk P w K mg base CX0 (k + 1) f fd ["self"] (spNodes C) := by
  refine F.ok sc_Network_nodes (fun vs H Q E h => ?_) (fun cdv A outer s H vs Q E hr h => ?_)
  · obtain ⟨x, ns, es, rfl, _⟩ := h
    rfl
  · obtain ⟨x, ns, es, rfl, ⟨dx, t, r, d, bs, h1, h2, h3, h4, h5⟩, q⟩ := h
    refine ⟨_, (pss_one (ps_ret (pe_fld (pv 0) rfl))), ?_⟩
    exact Evl.s_ret (ev_fldN N.cl N.n1 h1 (nw_nodes _ _ _) (Evl.ev_var rfl)) fun H1 e1 => q t H1 e1 (e1 _ _ h2)
/-- network.edges -/
def spEdges (C : Addr) : Sp := fun vs H Q _ => ∃ (x : Addr) (ns : List Str) (es : List Eg), vs = [V.ref x] ∧ NetAt C H x ns es ∧ ∀ t bs H', Evl.Ex H H' → H' t = some (.tup (bs.map V.ref)) → EgsAt H' bs es → Q (.ref t) H'
theorem ok_edges {f : Addr} {fd : FuncData} {k : Nat} (F : Fun K "edges" "Network.edges" (inClass (top 59) 8) f fd) (T : Bs mg bl) (N : NwT K C) : FnOk P w K mg base CX0 (k + 1) f fd ["self"] (spEdges C) := by
  refine F.ok sc_Network_edges (fun vs H Q E h => ?_) (fun cdv A outer s H vs Q E hr h => ?_)
  · obtain ⟨x, ns, es, rfl, _⟩ := h
    rfl
  · obtain ⟨x, ns, es, rfl, ⟨dx, t, r, d, bs, h1, h2, h3, h4, h5⟩, q⟩ := h
    refine ⟨_, (pss_one (ps_ret (pe_fld (pv 0) rfl))), ?_⟩
    exact Evl.s_ret (ev_fldN N.cl N.n2 h1 (nw_edges _ _ _) (Evl.ev_var rfl)) fun H1 e1 => q r bs H1 e1 (e1 _ _ h3) (h4.tk (TK.ex e1))
/-- network.text -/
def spNetText (C : Addr) : Sp := fun vs H Q _ => ∃ (x : Addr) (ns : List Str) (es : List Eg), vs = [V.ref x] ∧ NetAt C H x ns es ∧ IsNet ns es ∧ ns.length ≤ 100 ∧ es.length ≤ 200 ∧ ∀ H', Evl.Ex H H' → Q (.str (netText ns es)) H'
theorem ok_nettext {f fX : Addr} {fd dX : FuncData} {k : Nat} (F : Fun K "text" "Network.text" (inClass (top 59) 11) f fd) (T : Bs mg bl) (N : NwT K C) (F_network_text : Cf P w K mg base "network_text" ["nodes", "edges"] k (spText K) fX dX) : FnOk P w K mg base CX0 (k + 1) f fd ["self"] (spNetText C) := by
  refine F.ok sc_Network_text (fun vs H Q E h => ?_) (fun cdv A outer s H vs Q E hr h => ?_)
  · obtain ⟨x, ns, es, rfl, _⟩ := h
    rfl
  · obtain ⟨x, ns, es, rfl, ⟨dx, t, r, d, bs, h1, h2, h3, h4, h5⟩, net, l0, l1, q⟩ := h
    refine ⟨_, (pss_one (ps_ret (pe_cf F_network_text (hr.mono (by omega)) (by rfl) (pa_cons (pe_fld (pv 0) rfl) (pa_cons (pe_fld (pv 0) rfl) pa_nil))))), ?_⟩
    exact Evl.s_ret (Evl.ev_call (vs := [.ref t, .ref r]) (Evl.ea_cons (ev_fldN N.cl N.n1 h1 (nw_nodes _ _ _) (Evl.ev_var rfl)) (Evl.ea_cons (ev_fldN N.cl N.n2 h1 (nw_edges _ _ _) (Evl.ev_var rfl)) Evl.ea_nil)) fun H2 e2 Q2 q2 _ => ⟨t, r, ns, bs, es, rfl, .inr (Evl.st_of (e2 _ _ h2)), .inr (Evl.st_of (e2 _ _ h3)), h4.tk (TK.ex e2), net, l0, l1, q2⟩) fun H1 e1 => q H1 e1
/-- the program's network of plain nodes and edges -/
def spMade (C : Addr) : Sp := fun vs H Q _ => ∃ (t a b : Addr) (rest : List V) (ns : List Str) (as : List Addr) (es : List Eg), vs = [V.ref t] ∧ H t = some (.tup (.ref a :: .ref b :: rest)) ∧ H a = some (.lst (ns.map V.str)) ∧ H b = some (.lst (as.map V.ref)) ∧ EgsAt H as es ∧ IsNet ns es ∧ 0 < ns.length ∧ ns.length ≤ 40 ∧ es.length ≤ 100 ∧ Few es ∧
  ∀ x H', Evl.Ex H H' → H x = none → NetAt C H' x (srtN ns) (srtE (es.map norm)) → Q (.ref x) H'
theorem ok_made {f fI : Addr} {fd dI : FuncData} {k : Nat} (F : Fun K "_law_made" "_law_made" (top 67) f fd) (T : Bs mg bl) (gC : mg "Network" = some (.ref C)) (M_Network : Mk K C fI) (F_Network : FnOk P w K mg base CX0 k fI dI ["self", "nodes", "edges"] (spInit C)) (b_Network : Binds K dI ["self", "nodes", "edges"] []) :
    FnOk P w K mg base CX0 (k + 2) f fd ["_law_network"] (spMade C) := by
  refine F.ok sc__law_made (fun vs H Q E h => ?_) (fun cdv A outer s H vs Q E hr h => ?_)
  · obtain ⟨t, a, b, rest, ns, as, es, rfl, _⟩ := h
    rfl
  · obtain ⟨t, a, b, rest, ns, as, es, rfl, ht, ha, hb, he, net, n0, n1, n2, fw, q⟩ := h
    have g_Network := gC
    refine ⟨_, (pss_one (ps_ret (pe_make M_Network F_Network (hr.mono (by omega)) (by rfl) g_Network b_Network .nil pass0 (pa_cons (pe_ix ix_tup (pv 0) pe_int (fun _ _ => rfl)) (pa_cons (pe_ix ix_tup (pv 0) pe_int (fun _ _ => rfl)) pa_nil))))), ?_⟩
    refine ⟨.ref t, rfl, t, _, 0, _, rfl, rfl, .inl (.inl ht), atI_some (by decide) rfl, .ref t, rfl, t, _, 1, _, rfl, rfl, .inl (.inl ht), atI_some (by decide) rfl, fun x dx nx ndx nex => ?_⟩
    have em : Evl.Ex H (upd (upd H dx (.own x)) x (.ins C dx [])) := fun c u hc => by
      rw [upd_ne (ne_of_none hc nx), upd_ne (ne_of_none hc ndx)]
      exact hc
    exact ⟨x, dx, a, b, ns, as, es, rfl, upd_same, .inl (em _ _ ha), .inl (em _ _ hb), he.tk (TK.ex em), net, n0, n1, n2, fw, fun H' b' N' => ⟨rfl, q x H' (ex_make nx ndx b') nx N'⟩⟩
end
end Lw

set_option maxHeartbeats 2000000
/-! joins_of, check_known_node, defs with starred parameters -/
namespace Lj
open PySem PySem.Spec PyProof.Rows L2 Lw Hq StX
open Evl (EvL EvA EvT EvU RC)
abbrev nm_joins_of : List Str := ["edges"]
theorem sc_joins_of : FnScope nm_joins_of ["edges"] (defScope (top 42)) := ⟨rfl, rfl, rfl, by decide +kernel, rfl, by decide +kernel, by decide +kernel⟩
abbrev nm_check_known_node : List Str := ["network", "value"]
theorem sc_check_known_node : FnScope nm_check_known_node ["network", "value"] (defScope (top 34)) := ⟨rfl, rfl, rfl, by decide +kernel, rfl, by decide +kernel, by decide +kernel⟩
theorem FnIs.star1 {P : Program} {w : World} {K : PySem.W.Frag} {mg : Str → Option Value} {base : Heap} {x qual : Str} {st : Stmt} {f : Addr} {N : List Str} {p1 pv : Str} {k : Nat} {sp : Sp} (h : FnIs K x qual st f) (S : FnScope N [p1, pv] (defScope st))
    (h0 : ∀ (kV doc pm : Value) (an : Option Addr) (cdv ct : Value) (a : Value), bindArgs (PySem.W.fnOf x qual (defArgs st) (defBody st) (defScope st) .none kV doc pm an cdv ct) ⟨[a], []⟩ = (newTuple [] >>= fun t => pure [(p1, a), (pv, t)]))
    (h1 : ∀ (kV doc pm : Value) (an : Option Addr) (cdv ct : Value) (a r : Value) (rs : List Value), bindArgs (PySem.W.fnOf x qual (defArgs st) (defBody st) (defScope st) .none kV doc pm an cdv ct) ⟨a :: r :: rs, []⟩ = (newTuple (r :: rs) >>= fun t => pure [(p1, a), (pv, t)]))
    (hbody : ∀ (cdv : Value) (A : Around) (outer : List Env) (s : Shared) (H : Hp) (vs : List V) (Q : VK) (E : XK), Room k (A.deeper (envOfC qual (defScope st) s.heap.objs.size f cdv)) → sp vs H Q E →
      ∃ t, PSs (cxOf CX0 P w K mg base N qual (defScope st) f cdv A outer s H E).nox (defBody st) t ∧ t { nx := fun _ H' => Q .non H', rt := Q } (start N vs) H) :
    FnR P w K mg base CX0 (k + 1) f (fun vs H Q E => ∃ ws rest, vs = ws ++ rest ∧ ws.length = 1 ∧ rest.length ≤ sizeLine ∧ ∀ p, H p = Option.none → sp (ws ++ [V.ref p]) (upd H p (.tup rest)) Q E) := by
  obtain ⟨oc, od, kV, doc, pm, an, cdv, ct, osl, lk, hcd, kp⟩ := h
  exact fn_star (ps := [p1]) (pv := pv) lk hcd S cxUp_none (bind_star1 (B := fun us => bindArgs (PySem.W.fnOf x qual (defArgs st) (defBody st) (defScope st) .none kV doc pm an cdv ct) ⟨us, []⟩) (h0 kV doc pm an cdv ct) (h1 kV doc pm an cdv ct)) fun A outer s H vs Q E hr hsp => by
    obtain ⟨t, h, q⟩ := hbody cdv A outer s H vs Q E hr hsp
    exact ⟨t, h.nox, q⟩
theorem pts_mem {odd T : List Str} : (pts odd T).length ≤ odd.length + T.length := by
  unfold pts
  induction T generalizing odd with
  | nil => exact Nat.le_refl _
  | cons z T ih =>
    rw [List.foldl_cons]
    refine Nat.le_trans ih ?_
    rw [List.length_cons]
    split
    · have := List.length_erase_le (a := z) (l := odd)
      omega
    · rw [List.length_cons]
      omega
theorem pts_nodup {odd T : List Str} (h : odd.Nodup) : (pts odd T).Nodup := by
  unfold pts
  induction T generalizing odd with
  | nil => exact h
  | cons z T ih =>
    rw [List.foldl_cons]
    refine ih ?_
    split
    · exact h.erase z
    · rename_i n
      exact List.nodup_cons.mpr ⟨n, h⟩
section
variable {P : Program} {w : World} {K : PySem.W.Frag} {mg : Str → Option Value} {base : Heap} {L D : Addr} {uJ : Value}
def spJoinsOf (L : Addr) : Sp := fun vs H Q _ => ∃ (e : Addr) (bs : List Addr) (es : List Eg), vs = [V.ref e] ∧ H e = some (.tup (bs.map V.ref)) ∧ EgsAt H bs es ∧ (es.map (·.1)).Nodup ∧ es.length ≤ 200 ∧ Prop2 es ∧
  ∀ H' a odd dr db, Evl.Ex H H' → H a = none → LjFix L H' a es ((negs es).map (·.1)) odd ((negs es).map (·.2.2.2)).sum dr db → RoutesAt (fun _ => False) H' dr es 0 → BestAt H' db es 1 → H dr = none → H db = none → odd.Nodup → (∀ y, y ∈ odd ↔ isOdd (negs es) y) → Asc id odd → Q (.ref a) H'
theorem ok_joinsOf {f fI fN fG : Addr} {fd dI dN dG : FuncData} {k : Nat} (F : Fun K "joins_of" "joins_of" (top 42) f fd) (T : Bs mg bl) (M_LeastJoins : Mk K L fI) (F_LeastJoins : FnOk P w K mg base CX0 k fI dI ["self", "edges", "counted"] (spLjInit L)) (g_LeastJoins : mg "LeastJoins" = some (.ref L)) (b_LeastJoins : Binds K dI ["self", "edges", "counted"] [])
    (F_names_of : Cf P w K mg base "names_of" ["edges"] k spNamesL fN dN) (F_negative_edges : Cf P w K mg base "negative_edges" ["edges"] k spNegT fG dG) : FnOk P w K mg base CX0 (k + 2) f fd ["edges"] (spJoinsOf L) := by
  refine F.ok sc_joins_of (fun vs H Q E h => ?_) (fun cdv A outer s H vs Q E hr h => ?_)
  · obtain ⟨e, bs, es, rfl, _⟩ := h
    rfl
  · obtain ⟨e, bs, es, rfl, he, hb, nd, l0, p2, q⟩ := h
    refine ⟨_, (pss_one (ps_ret (pe_make M_LeastJoins F_LeastJoins (hr.mono (by omega)) (by rfl) g_LeastJoins b_LeastJoins .nil pass0 (pa_cons (pv 0) (pa_cons (pe_cf F_names_of (hr.mono (by omega)) (by rfl) (pa_cons (pe_cf F_negative_edges (hr.mono (by omega)) (by rfl) (pa_cons (pv 0) pa_nil)) pa_nil)) pa_nil))))), ?_⟩
    refine ⟨.ref e, rfl, .ref e, rfl, e, bs, es, rfl, he, hb, by omega, fun p cs H1 e1 np hp hc => ?_⟩
    have ln : (negs es).length ≤ 200 := Nat.le_trans (List.length_filter_le _ _) l0
    refine ⟨p, cs, negs es, rfl, hp, hc, ln, fun t H2 e2 nt ht => ?_⟩
    intro x dx nx ndx ndxx
    have e3 : Evl.Ex H2 (upd (upd H2 dx (.own x)) x (.ins L dx [])) := by
      intro a o h
      have h1 : a ≠ x := fun z => by rw [z, nx] at h; exact nomatch h
      have h2 : a ≠ dx := fun z => by rw [z, ndx] at h; exact nomatch h
      rw [upd_ne h1, upd_ne h2]
      exact h
    have e03 := (e1.trans e2).trans e3
    refine ⟨x, dx, e, t, bs, es, negs es, rfl, upd_same, .inr (e03 _ _ he), hb.tk (TK.ex e03), nd, l0, p2, fun g hg => (List.mem_filter.mp hg).1, ln, e3 _ _ ht, fun H4 odd dr db b4 hF hR hB ndr ndb n1 n2 n3 => ⟨rfl, ?_⟩⟩
    have e4 : Evl.Ex H H4 := fun a o h => b4 a o (fun z => by
      have := e1.trans e2 _ _ h
      rw [z, nx] at this
      exact nomatch this) (e03 _ _ h)
    exact q H4 x odd dr db e4 (Evl.fresh_back (e1.trans e2) nx) hF hR hB (Evl.fresh_back e03 ndr) (Evl.fresh_back e03 ndb) n1 n2 n3
def spKnownN (D : Addr) : Sp := fun vs H Q _ => ∃ (x : Addr) (ns : List Str) (es : List Eg) (z : Str), vs = [V.ref x, .str z] ∧ NetAt D H x ns es ∧ z ∈ ns ∧ ∀ H', Evl.Ex H H' → Q .non H'
theorem ev_propN {σ : L2.St} {H : Hp} {ta : TE} {a dx : Addr} {fs : List (Str × V)} {sp : Sp} {E : XK} {v : V} (h : H a = some (.ins D dx fs)) (hs : Evl.SpV sp [.ref a] H v) (ha : Evl.Ev ta σ H (.ref a)) : Evl.Ev (tProp D sp [] E ta) σ H v := fun H1 e Q q =>
  ha H1 e _ fun H2 e2 => ⟨a, dx, fs, rfl, e2 _ _ (e _ _ h), hs H2 (e.trans e2) Q (fun H3 e3 => q H3 (e2.trans e3)) E⟩
theorem ok_knownN {f fN pN : Addr} {fd dN : FuncData} {k : Nat} (F : Fun K "check_known_node" "check_known_node" (top 34) f fd) (T : Bs mg bl) (N : NwT K D) (P_Network_nodes : PropOf K D "nodes" pN fN) (F_Network_nodes : FnOk P w K mg base CX0 k fN dN ["self"] (spNodes D)) (b_Network_nodes : Binds K dN ["self"] []) :
    FnOk P w K mg base CX0 (k + 2) f fd ["network", "value"] (spKnownN D) := by
  refine F.ok sc_check_known_node (fun vs H Q E h => ?_) (fun cdv A outer s H vs Q E hr h => ?_)
  · obtain ⟨x, ns, es, z, rfl, _⟩ := h
    rfl
  · obtain ⟨x, ns, es, z, rfl, hN, hz, q⟩ := h
    refine ⟨_, (pss_one (ps_if (pt_cmpR op_notIn_seq (pv 1) (pe_prop (pv 0) N.cl P_Network_nodes F_Network_nodes (hr.mono (by omega)) b_Network_nodes .nil pass0 rfl) rfl) (pss_one ps_never) pss_nil)), ?_⟩
    obtain ⟨dx, t, r, d, bs, h1, h2, h3, h4, h5⟩ := id hN
    have hp : ∀ (Q' : VK) (H1 : Hp), Evl.Ex H H1 → (∀ t' H2, Evl.Ex H1 H2 → H2 t' = some (.tup (ns.map V.str)) → Q' (.ref t') H2) → tProp D (spNodes D) [] noE (tVar 0) [some (.ref x), some (.str z)] H1 Q' := fun Q' H1 e1 k => ⟨.ref x, rfl, x, dx, _, rfl, e1 _ _ h1, x, ns, es, rfl, hN.ex e1, fun t' H2 e2 ht => k t' H2 e2 ht⟩
    refine ⟨.str z, rfl, hp _ H (Evl.Ex.refl _) fun t' H2 e2 ht => ⟨t', _, rfl, .inr (Evl.st_of ht), rfl, by simp [flatV], false, ?_, q H2 e2⟩⟩
    show V.bl (!inV (.str z) (ns.map V.str)) = V.bl false
    rw [inV_str, decide_eq_true hz]
    rfl
end
end Lj

set_option maxHeartbeats 1000000
/-! networks made around sets of nodes are calm, on paper -/
namespace Lj
open PySem Lw
/-- e crosses the set -/
def crs (r : Rw) (e : Eg) : Bool := decide (e.2.1 ∈ r.1) != decide (e.2.2.1 ∈ r.1)
def amt : List Rw → Eg → Int
  | [], _ => 0
  | r :: rows, e => (if crs r e = true then r.2 else 0) + amt rows e
/-- what stands of the edges: those below zero cross sets that no other one crosses -/
structure Cal (rows : List Rw) (tk : List Int) (es : List Eg) : Prop where
  neg : ∀ e ∈ es, e.2.2.2 < 0 → -2 * e.2.2.2 = amt rows e ∧ ∀ (k : Nat) (r : Rw), rows[k]? = some r → crs r e = true → (k : Int) ∈ tk
  pos : ∀ e ∈ es, 0 ≤ e.2.2.2 → amt rows e ≤ 2 * e.2.2.2
  one : ∀ (k : Nat) (r : Rw), rows[k]? = some r → (es.filter fun e => isN e && crs r e).length ≤ 1
theorem Cal.nil (rows : List Rw) (tk : List Int) : Cal rows tk [] := ⟨fun e h => absurd h (by simp), fun e h => absurd h (by simp), fun k r h => by simp⟩
/-- an edge that is not below zero -/
theorem Cal.up {rows : List Rw} {tk : List Int} {es : List Eg} {e : Eg} (h : Cal rows tk es) (p : 0 ≤ e.2.2.2) (a : amt rows e ≤ 2 * e.2.2.2) : Cal rows tk (es ++ [e]) := by
  refine ⟨fun f hf n => ?_, fun f hf n => ?_, fun k r hk => ?_⟩
  · rcases List.mem_append.mp hf with hf | hf
    · exact h.neg f hf n
    · rw [List.mem_singleton.mp hf] at n
      omega
  · rcases List.mem_append.mp hf with hf | hf
    · exact h.pos f hf n
    · rw [List.mem_singleton.mp hf]
      exact a
  · rw [List.filter_append, List.filter_cons, if_neg (by simp [isN]; omega)]
    simpa using h.one k r hk
/-- .. and one that is -/
theorem Cal.down {rows : List Rw} {tk tk' : List Int} {es : List Eg} {e : Eg} (h : Cal rows tk es) (a : -2 * e.2.2.2 = amt rows e) (new : ∀ (k : Nat) (r : Rw), rows[k]? = some r → crs r e = true → (k : Int) ∉ tk) (sub : ∀ x ∈ tk, x ∈ tk') (all : ∀ (k : Nat) (r : Rw), rows[k]? = some r → crs r e = true → (k : Int) ∈ tk') : Cal rows tk' (es ++ [e]) := by
  refine ⟨fun f hf n => ?_, fun f hf n => ?_, fun k r hk => ?_⟩
  · rcases List.mem_append.mp hf with hf | hf
    · exact ⟨(h.neg f hf n).1, fun k r hk c => sub _ ((h.neg f hf n).2 k r hk c)⟩
    · rw [List.mem_singleton.mp hf]
      exact ⟨a, all⟩
  · rcases List.mem_append.mp hf with hf | hf
    · exact h.pos f hf n
    · rw [List.mem_singleton.mp hf] at n ⊢
      omega
  · rw [List.filter_append, List.length_append]
    by_cases c : crs r e = true
    · have none : (es.filter fun e => isN e && crs r e) = [] := List.filter_eq_nil_iff.mpr fun f hf q => by
        rw [Bool.and_eq_true, decide_eq_true_iff] at q
        exact new k r hk c ((h.neg f hf q.1).2 k r hk q.2)
      rw [none]
      have := List.length_filter_le (fun e => isN e && crs r e) [e]
      simpa using this
    · rw [List.filter_cons, if_neg (by simp [c])]
      simpa using h.one k r hk
theorem Cal.wider {rows : List Rw} {tk tk' : List Int} {es : List Eg} (h : Cal rows tk es) (sub : ∀ x ∈ tk, x ∈ tk') : Cal rows tk' es := ⟨fun e he n => ⟨(h.neg e he n).1, fun k r hk c => sub _ ((h.neg e he n).2 k r hk c)⟩, h.pos, h.one⟩
/-! ### then it is calm -/
theorem ends_sum (L : List Str) (e : Eg) : (L.map fun z => ends e z).sum = L.count e.2.1 + L.count e.2.2.1 := by
  induction L with
  | nil => rfl
  | cons z L ih =>
    rw [List.map_cons, List.sum_cons, ih, List.count_cons, List.count_cons]
    unfold ends
    by_cases h1 : e.2.1 = z <;> by_cases h2 : e.2.2.1 = z
    · simp [h1, h2]; omega
    · simp [h1, h2, Ne.symm h2, fun q => h2 (Eq.symm q)]; omega
    · simp [h1, h2, Ne.symm h1, fun q => h1 (Eq.symm q)]; omega
    · simp [h1, h2, Ne.symm h1, Ne.symm h2, fun q => h1 (Eq.symm q), fun q => h2 (Eq.symm q)]
theorem cross_par (S : List Str) {ns : List Str} (nd : ns.Nodup) : ∀ {J : List Eg}, (∀ e ∈ J, e.2.1 ∈ ns ∧ e.2.2.1 ∈ ns) → (J.filter fun e => decide (e.2.1 ∈ S) != decide (e.2.2.1 ∈ S)).length % 2 = (((ns.filter fun z => decide (z ∈ S)).map fun z => Lw.cnt J z).sum) % 2
  | [], _ => by
    have : ∀ L : List Str, (L.map fun z => Lw.cnt [] z).sum = 0 := fun L => by
      induction L with
      | nil => rfl
      | cons z L ih => rw [List.map_cons, List.sum_cons, ih]; rfl
    rw [this]
    rfl
  | e :: J, h => by
    have ih := cross_par S nd (J := J) fun f hf => h f (List.mem_cons_of_mem _ hf)
    obtain ⟨hu, hv⟩ := h e List.mem_cons_self
    have split : ∀ L : List Str, (L.map fun z => Lw.cnt (e :: J) z).sum = (L.map fun z => ends e z).sum + (L.map fun z => Lw.cnt J z).sum := fun L => by
      induction L with
      | nil => rfl
      | cons z L ih2 =>
        rw [List.map_cons, List.sum_cons, List.map_cons, List.sum_cons, List.map_cons, List.sum_cons, ih2, Lw.cnt_cons]
        omega
    rw [split, ends_sum]
    have cn : ∀ x, x ∈ ns → (ns.filter fun z => decide (z ∈ S)).count x = if x ∈ S then 1 else 0 := fun x hx => by
      rw [List.Nodup.count (nd.filter _)]
      by_cases q : x ∈ S
      · rw [if_pos q, if_pos (List.mem_filter.mpr ⟨hx, decide_eq_true q⟩)]
      · rw [if_neg q]
        have no : x ∉ ns.filter fun z => decide (z ∈ S) := fun m => q (of_decide_eq_true (List.mem_filter.mp m).2)
        exact if_neg no
    rw [cn _ hu, cn _ hv, List.filter_cons]
    by_cases q1 : e.2.1 ∈ S <;> by_cases q2 : e.2.2.1 ∈ S
    · rw [if_neg (by simp [q1, q2]), if_pos q1, if_pos q2]; omega
    · rw [if_pos (by simp [q1, q2]), if_pos q1, if_neg q2, List.length_cons]; omega
    · rw [if_pos (by simp [q1, q2]), if_neg q1, if_pos q2, List.length_cons]; omega
    · rw [if_neg (by simp [q1, q2]), if_neg q1, if_neg q2]; omega
def sgn (e : Eg) : Int := if e.2.2.2 < 0 then -1 else 1
def sga (rows : List Rw) (J : List Eg) : Int := (J.map fun e => sgn e * amt rows e).sum
theorem sga_nil : ∀ J : List Eg, sga [] J = 0
  | [] => rfl
  | e :: J => by
    have := sga_nil J
    unfold sga at *
    rw [List.map_cons, List.sum_cons, this]
    simp [amt]
theorem sga_cons (r : Rw) (rows : List Rw) : ∀ J : List Eg, sga (r :: rows) J = r.2 * (((J.filter fun e => crs r e).length : Int) - 2 * ((J.filter fun e => isN e && crs r e).length : Int)) + sga rows J
  | [] => by simp [sga]
  | e :: J => by
    have ih := sga_cons r rows J
    have l1 : ((((e :: J).filter fun e => crs r e).length : Nat) : Int) = (if crs r e = true then 1 else 0) + (((J.filter fun e => crs r e).length : Nat) : Int) := by
      rw [List.filter_cons]
      split
      · rw [List.length_cons]
        omega
      · omega
    have l2 : ((((e :: J).filter fun e => isN e && crs r e).length : Nat) : Int) = (if (isN e && crs r e) = true then 1 else 0) + (((J.filter fun e => isN e && crs r e).length : Nat) : Int) := by
      rw [List.filter_cons]
      split
      · rw [List.length_cons]
        omega
      · omega
    have s1 : sga (r :: rows) (e :: J) = sgn e * amt (r :: rows) e + sga (r :: rows) J := by simp [sga]
    have s2 : sga rows (e :: J) = sgn e * amt rows e + sga rows J := by simp [sga]
    rw [s1, s2, l1, l2, ih]
    generalize (((J.filter fun e => crs r e).length : Nat) : Int) = x
    generalize (((J.filter fun e => isN e && crs r e).length : Nat) : Int) = y
    generalize sga rows J = s
    show sgn e * ((if crs r e = true then r.2 else 0) + amt rows e) + _ = _
    generalize amt rows e = z
    by_cases c : crs r e = true
    · by_cases n : e.2.2.2 < 0
      · have n' : isN e = true := decide_eq_true n
        have g : sgn e = -1 := by unfold sgn; rw [if_pos n]
        rw [g, if_pos c, if_pos c, n', c, if_pos (by rfl)]
        have : r.2 * (1 + x - 2 * (1 + y)) = r.2 * (x - 2 * y) - r.2 := by
          rw [show (1 + x - 2 * (1 + y) : Int) = (x - 2 * y) - 1 by omega, Int.mul_sub, Int.mul_one]
        omega
      · have n' : isN e = false := decide_eq_false n
        have g : sgn e = 1 := by unfold sgn; rw [if_neg n]
        rw [g, if_pos c, if_pos c, n', if_neg (by simp)]
        have : r.2 * (1 + x - 2 * (0 + y)) = r.2 * (x - 2 * y) + r.2 := by
          rw [show (1 + x - 2 * (0 + y) : Int) = (x - 2 * y) + 1 by omega, Int.mul_add, Int.mul_one]
        omega
    · rw [if_neg c, if_neg c, if_neg (by simp [c])]
      rw [Int.zero_add, Int.zero_add, Int.zero_add]
      omega
/-- an even set of edges is not below zero -/
theorem Cal.calm {rows : List Rw} {tk : List Int} {es : List Eg} {ns : List Str} (h : Cal rows tk es) (nd : ns.Nodup) (en : ∀ e ∈ es, e.2.1 ∈ ns ∧ e.2.2.1 ∈ ns) (am : ∀ r ∈ rows, 0 ≤ r.2) {A : Sub} (ev : ∀ z, Lw.cnt (es.filter A) z % 2 = 0) : 0 ≤ ln (es.filter A) := by
  have low : sga rows (es.filter A) ≤ 2 * ln (es.filter A) := by
    have : ∀ J : List Eg, (∀ e ∈ J, e ∈ es) → sga rows J ≤ 2 * ln J := fun J => by
      induction J with
      | nil => intro _; simp [sga, ln]
      | cons e J ih =>
        intro k
        have ih := ih fun f hf => k f (List.mem_cons_of_mem _ hf)
        have s2 : sga rows (e :: J) = sgn e * amt rows e + sga rows J := by simp [sga]
        rw [s2, ln_cons]
        by_cases n : e.2.2.2 < 0
        · have := (h.neg e (k e List.mem_cons_self) n).1
          have g : sgn e = -1 := by unfold sgn; rw [if_pos n]
          rw [g]
          omega
        · have := h.pos e (k e List.mem_cons_self) (by omega)
          have g : sgn e = 1 := by unfold sgn; rw [if_neg n]
          rw [g]
          omega
    exact this _ fun e he => (List.mem_filter.mp he).1
  have up : ∀ rs : List Rw, (∀ r ∈ rs, r ∈ rows) → 0 ≤ sga rs (es.filter A) := fun rs => by
    induction rs with
    | nil => intro _; rw [sga_nil]; exact Int.le_refl _
    | cons r rs ih =>
      intro k
      have ih := ih fun f hf => k f (List.mem_cons_of_mem _ hf)
      rw [sga_cons]
      have hr := k r List.mem_cons_self
      obtain ⟨i, hi⟩ := List.mem_iff_getElem?.mp hr
      have one := h.one i r hi
      have le : (((es.filter A).filter fun e => isN e && crs r e)).length ≤ 1 := by
        refine Nat.le_trans (List.Sublist.length_le ?_) one
        exact (List.filter_sublist (p := A) (l := es)).filter _
      have sub : (((es.filter A).filter fun e => isN e && crs r e)).length ≤ ((es.filter A).filter fun e => crs r e).length := by
        have : ((es.filter A).filter fun e => isN e && crs r e) = ((es.filter A).filter fun e => crs r e).filter isN := by
          simp only [List.filter_filter, Bool.and_assoc]
        rw [this]
        exact List.length_filter_le _ _
      have par : ((es.filter A).filter fun e => crs r e).length % 2 = 0 := by
        have c := cross_par r.1 nd (J := es.filter A) fun e he => en e (List.mem_filter.mp he).1
        have z : ∀ L : List Str, ((L.map fun z => Lw.cnt (es.filter A) z).sum) % 2 = 0 := fun L => by
          induction L with
          | nil => rfl
          | cons y L ih =>
            rw [List.map_cons, List.sum_cons]
            have := ev y
            omega
        rw [z] at c
        exact c
      have nn := am r hr
      have : 0 ≤ (((es.filter A).filter fun e => crs r e).length : Int) - 2 * (((es.filter A).filter fun e => isN e && crs r e).length : Int) := by omega
      have := Int.mul_nonneg nn this
      omega
  have := up rows fun _ h => h
  omega
theorem amt_eq (e : Eg) : ∀ rows : List Rw, amt rows e = ((rows.filter fun r => crs r e).map (·.2)).sum
  | [] => rfl
  | r :: rows => by
    rw [amt, amt_eq e rows, List.filter_cons]
    split
    · rw [List.map_cons, List.sum_cons]
    · rw [Int.zero_add]
theorem amt_range (e : Eg) (d : Rw) (rows : List Rw) : amt rows e = (((List.range rows.length).filter fun i => crs (rows.getD i d) e).map fun i => (rows.getD i d).2).sum := by
  have h : rows = (List.range rows.length).map fun i => rows.getD i d := by
    refine List.ext_getElem (by simp) fun i h1 h2 => ?_
    simp [List.getD, h1]
  have k : ((((List.range rows.length).map fun i => rows.getD i d).filter fun r => crs r e).map (·.2)) = ((List.range rows.length).filter (fun i => crs (rows.getD i d) e)).map (fun i => (rows.getD i d).2) := by
    rw [List.filter_map, List.map_map]
    rfl
  rw [amt_eq, ← k, ← h]
theorem amt_even (e : Eg) : ∀ rows : List Rw, (∀ r ∈ rows, r.2 % 2 = 0) → amt rows e % 2 = 0
  | [], _ => rfl
  | r :: rows, h => by
    have := amt_even e rows fun q hq => h q (List.mem_cons_of_mem _ hq)
    have := h r List.mem_cons_self
    rw [amt]
    split <;> omega
theorem range_map (cs : List Nat) (g : Nat → Int) : ((List.range cs.length).filter fun _ => true).map (fun i => g (cs.getD i 0)) = cs.map g := by
  have h : cs = (List.range cs.length).map fun i => cs.getD i 0 := by
    refine List.ext_getElem (by simp) fun i h1 h2 => ?_
    simp [List.getD, h1]
  have f : (List.range cs.length).filter (fun _ => true) = List.range cs.length := List.filter_eq_self.mpr fun _ _ => rfl
  rw [f]
  conv => rhs; rw [h, List.map_map]
  rfl
theorem eqv_nil : ∀ {xs : List Int}, PyData.eqv (.list (xs.map PyData.int)) (.list (([] : List Int).map PyData.int)) = true → xs = []
  | [], _ => rfl
  | _ :: _, h => by simp [PyData.eqv, PyData.eqvAll] at h
end Lj

set_option maxHeartbeats 1000000
/-! distances on paper: joins of two nodes -/
namespace Lj
open PySem Lw
theorem join_of_opt2 {es : List Eg} (nd : es.Nodup) (p2 : Prop2 es) {odd T P : List Str} (ho : ∀ y, y ∈ odd ↔ isOdd (negs es) y) (np : P.Nodup) (hP : ∀ z, z ∈ P ↔ ¬ (z ∈ odd ↔ z ∈ T)) {r : Option (Int × Option Str)} (o : Opt es P r) : JL es T (r.map fun q => q.1 + ((negs es).map (·.2.2.2)).sum) := by
  have par : ∀ (A : Sub) (z : Str), (isOdd (es.filter (sx A isN)) z ↔ ¬ (isOdd (es.filter A) z ↔ z ∈ odd)) := fun A z => by
    have := cnt_sx A isN z es
    have q := ho z
    unfold isOdd at *
    rw [this]
    have : negs es = es.filter isN := rfl
    rw [this] at q
    rw [q]
    omega
  have toP : ∀ A, IsJ es T A → ∀ z, z ∈ P ↔ isOdd (es.filter (sx A isN)) z := fun A j z => by
    rw [par, hP, j z]
    exact not_congr Iff.comm
  have low : ∀ A, IsJ es T A → ∃ c, Pm es P c ∧ c + ln (es.filter isN) ≤ ln (es.filter A) := fun A j => by
    obtain ⟨c, pm, l⟩ := Pm.of_edges p2 (J := es.filter (sx A isN)) (fun e he => (List.mem_filter.mp he).1) np (toP A j)
    have := ln_sx A es
    exact ⟨c, pm, by omega⟩
  cases r with
  | none =>
    intro A j
    obtain ⟨c, pm, _⟩ := low A j
    exact o c pm
  | some q =>
    obtain ⟨pm, least, _⟩ := o
    have lo : ∀ A, IsJ es T A → q.1 + ln (es.filter isN) ≤ ln (es.filter A) := fun A j => by
      obtain ⟨c, pm', l⟩ := low A j
      have := least c pm'
      omega
    refine ⟨?_, lo⟩
    obtain ⟨B, hB, lB⟩ := pm.join nd np
    have twice : ∀ A : Sub, sx (sx A isN) isN = A := fun A => by
      funext e
      simp only [sx]
      cases A e <;> cases isN e <;> rfl
    have j : IsJ es T (sx B isN) := fun z => by
      have a := par (sx B isN) z
      rw [twice] at a
      have b := hB z
      rw [hP] at b
      by_cases x1 : z ∈ odd <;> by_cases x2 : z ∈ T <;> by_cases x3 : isOdd (es.filter (sx B isN)) z <;> simp_all
    refine ⟨_, j, ?_⟩
    have a := ln_sx (sx B isN) es
    rw [twice] at a
    have := lo _ j
    show _ = q.1 + ln (es.filter isN)
    omega
/-- no set of edges that is even everywhere is below zero -/
def Calm (es : List Eg) : Prop := ∀ A : Sub, (∀ z, Lw.cnt (es.filter A) z % 2 = 0) → 0 ≤ ln (es.filter A)
theorem Calm.zero {es : List Eg} (h : Calm es) {r : Option Int} (j : JL es [] r) : r = some 0 := by
  have e : IsJ es [] (fun _ => false) := fun z => by
    have : es.filter (fun _ => false) = [] := List.filter_eq_nil_iff.mpr fun _ _ => by simp
    rw [this]
    simp [isOdd, Lw.cnt]
  cases r with
  | none => exact absurd e (j _)
  | some m =>
    obtain ⟨⟨A, a, q⟩, l⟩ := j
    have l0 := l _ e
    have : es.filter (fun _ => false) = [] := List.filter_eq_nil_iff.mpr fun _ _ => by simp
    rw [this] at l0
    have z : ln ([] : List Eg) = 0 := rfl
    have := h A fun z => by
      have := a z
      simp only [List.not_mem_nil, false_iff, isOdd] at this
      omega
    congr 1
    omega
/-- the two ends, none if they are one -/
def ends2 (u v : Str) : List Str := if u = v then [] else [u, v]
theorem ends2_mem (u v z : Str) : z ∈ ends2 u v ↔ ¬ (z = u ↔ z = v) := by
  unfold ends2
  by_cases q : u = v
  · subst q
    simp
  · rw [if_neg q]
    simp only [List.mem_cons, List.not_mem_nil, or_false]
    constructor
    · rintro (rfl | rfl)
      · simp [q]
      · intro h
        exact q (h.mpr rfl).symm
    · intro h
      by_cases a : z = u
      · exact .inl a
      · by_cases b : z = v
        · exact .inr b
        · simp [a, b] at h
theorem ln_sx_le (A B : Sub) : ∀ es : List Eg, ln (es.filter (sx A B)) ≤ ln (es.filter A) + wt (es.filter B)
  | [] => by simp [wt, ln]
  | e :: es => by
    have ih := ln_sx_le A B es
    have p := ew_pos e
    have w : e.2.2.2 ≤ ew e ∧ -e.2.2.2 ≤ ew e := by
      unfold ew
      split <;> omega
    rw [ln_fc, ln_fc, wt_fc]
    generalize ln (es.filter (sx A B)) = x1 at ih ⊢
    generalize ln (es.filter A) = x2 at ih ⊢
    generalize wt (es.filter B) = x3 at ih ⊢
    by_cases ha : A e = true <;> by_cases hb : B e = true <;> simp [sx, ha, hb] <;> omega
theorem par_step {p q1 q2 : Prop} {n a b : Nat} (ne : ¬ (q1 ∧ q2)) (ha : (q1 ∧ a = 1) ∨ (¬ q1 ∧ a = 0)) (hb : (q2 ∧ b = 1) ∨ (¬ q2 ∧ b = 0)) (h : ¬ (p ↔ q1) ↔ n % 2 = 1) : ¬ (p ↔ q2) ↔ (n + (a + b)) % 2 = 1 := by
  rcases ha with ⟨h1, rfl⟩ | ⟨h1, rfl⟩ <;> rcases hb with ⟨h2, rfl⟩ | ⟨h2, rfl⟩
  · exact absurd ⟨h1, h2⟩ ne
  · by_cases hp : p <;> simp only [hp, h1, h2, iff_true, iff_false, true_iff, false_iff, not_true, not_false_iff] at h ⊢ <;> omega
  · by_cases hp : p <;> simp only [hp, h1, h2, iff_true, iff_false, true_iff, false_iff, not_true, not_false_iff] at h ⊢ <;> omega
  · by_cases hp : p <;> simp only [hp, h1, h2, iff_true, iff_false, true_iff, false_iff, not_true, not_false_iff] at h ⊢ <;> omega
/-- over an edge a distance changes by no more than its length -/
theorem step_le {es : List Eg} (nd : es.Nodup) {e : Eg} (he : e ∈ es) (ne : e.2.1 ≠ e.2.2.1) {s : Str} {A : Sub} (j : IsJ es (ends2 s e.2.1) A) : ∃ B, IsJ es (ends2 s e.2.2.1) B ∧ ln (es.filter B) ≤ ln (es.filter A) + ew e := by
  refine ⟨sx A fun x => decide (x = e), fun z => ?_, ?_⟩
  · have a := cnt_sx A (fun x => decide (x = e)) z es
    rw [filter_one nd he] at a
    have b := j z
    rw [ends2_mem] at b ⊢
    have c : Lw.cnt [e] z = ends e z := by simp [Lw.cnt]
    rw [c] at a
    unfold isOdd at *
    rw [a]
    unfold ends
    refine par_step (q1 := z = e.2.1) (q2 := z = e.2.2.1) (fun h => ne (h.1.symm.trans h.2)) ?_ ?_ b
    · by_cases h : e.2.1 = z
      · exact .inl ⟨h.symm, by rw [if_pos h]⟩
      · exact .inr ⟨fun q => h q.symm, by rw [if_neg h]⟩
    · by_cases h : e.2.2.1 = z
      · exact .inl ⟨h.symm, by rw [if_pos h]⟩
      · exact .inr ⟨fun q => h q.symm, by rw [if_neg h]⟩
  · have a := ln_sx_le A (fun x => decide (x = e)) es
    rw [filter_one nd he] at a
    have : wt [e] = ew e := by simp [wt]
    omega
theorem step_le2 {es : List Eg} (nd : es.Nodup) {e : Eg} (he : e ∈ es) (ne : e.2.1 ≠ e.2.2.1) {s : Str} {A : Sub} (j : IsJ es (ends2 s e.2.2.1) A) : ∃ B, IsJ es (ends2 s e.2.1) B ∧ ln (es.filter B) ≤ ln (es.filter A) + ew e := by
  refine ⟨sx A fun x => decide (x = e), fun z => ?_, ?_⟩
  · have a := cnt_sx A (fun x => decide (x = e)) z es
    rw [filter_one nd he] at a
    have b := j z
    rw [ends2_mem] at b ⊢
    have c : Lw.cnt [e] z = ends e z := by simp [Lw.cnt]
    rw [c] at a
    unfold isOdd at *
    rw [a]
    unfold ends
    rw [Nat.add_comm (if e.2.1 = z then 1 else 0)]
    refine par_step (q1 := z = e.2.2.1) (q2 := z = e.2.1) (fun h => ne (h.2.symm.trans h.1)) ?_ ?_ b
    · by_cases h : e.2.2.1 = z
      · exact .inl ⟨h.symm, by rw [if_pos h]⟩
      · exact .inr ⟨fun q => h q.symm, by rw [if_neg h]⟩
    · by_cases h : e.2.1 = z
      · exact .inl ⟨h.symm, by rw [if_pos h]⟩
      · exact .inr ⟨fun q => h q.symm, by rw [if_neg h]⟩
  · have a := ln_sx_le A (fun x => decide (x = e)) es
    rw [filter_one nd he] at a
    have : wt [e] = ew e := by simp [wt]
    omega
theorem far_le {es : List Eg} {x y : List Str} {rx ry : Option Int} {w : Int} (hx : JL es x rx) (hy : JL es y ry) (h : ∀ A, IsJ es x A → ∃ B, IsJ es y B ∧ ln (es.filter B) ≤ ln (es.filter A) + w) : ∀ m, rx = some m → ∃ m', ry = some m' ∧ m' ≤ m + w := fun m e => by
  subst e
  obtain ⟨⟨A, a, q⟩, _⟩ := hx
  obtain ⟨B, b, l⟩ := h A a
  cases ry with
  | none => exact absurd b (hy B)
  | some m' => exact ⟨m', rfl, by have := hy.2 B b; omega⟩
/-- the distances of the two ends of an edge -/
theorem far_edge {es : List Eg} (nd : es.Nodup) {e : Eg} (he : e ∈ es) (ne : e.2.1 ≠ e.2.2.1) {s u v : Str} (huv : (u = e.2.1 ∧ v = e.2.2.1) ∨ (u = e.2.2.1 ∧ v = e.2.1)) {ru rv : Option Int} (hu : JL es (ends2 s u) ru) (hv : JL es (ends2 s v) rv) : (ru = none ∧ rv = none) ∨ ∃ a b, ru = some a ∧ rv = some b ∧ a ≤ b + ew e ∧ b ≤ a + ew e := by
  have uv : ∀ A, IsJ es (ends2 s u) A → ∃ B, IsJ es (ends2 s v) B ∧ ln (es.filter B) ≤ ln (es.filter A) + ew e := fun A j => by
    rcases huv with ⟨rfl, rfl⟩ | ⟨rfl, rfl⟩
    · exact step_le nd he ne j
    · exact step_le2 nd he ne j
  have vu : ∀ A, IsJ es (ends2 s v) A → ∃ B, IsJ es (ends2 s u) B ∧ ln (es.filter B) ≤ ln (es.filter A) + ew e := fun A j => by
    rcases huv with ⟨rfl, rfl⟩ | ⟨rfl, rfl⟩
    · exact step_le2 nd he ne j
    · exact step_le nd he ne j
  have a := far_le hu hv uv
  have b := far_le hv hu vu
  cases ru with
  | none =>
    cases rv with
    | none => exact .inl ⟨rfl, rfl⟩
    | some m =>
      obtain ⟨_, q, _⟩ := b m rfl
      exact nomatch q
  | some m =>
    obtain ⟨m', rfl, l⟩ := a m rfl
    obtain ⟨m2, q, l2⟩ := b m' rfl
    cases q
    exact .inr ⟨m, m', rfl, rfl, l2, l⟩
theorem ln_permP {a b : List Eg} (p : a.Perm b) : ln a = ln b := by
  induction p with
  | nil => rfl
  | cons e _ ih => rw [ln_cons, ln_cons, ih]
  | swap e f l =>
    rw [ln_cons, ln_cons, ln_cons, ln_cons]
    omega
  | trans _ _ h1 h2 => exact h1.trans h2
theorem ln_normP (es : List Eg) : ln (es.map norm) = ln es := by
  unfold ln
  rw [List.map_map]
  rfl
/-- calm as it was given, calm as the network holds it -/
theorem Cal.net {rows : List Rw} {tk : List Int} {es : List Eg} {ns : List Str} (h : Cal rows tk es) (nd : ns.Nodup) (en : ∀ e ∈ es, e.2.1 ∈ ns ∧ e.2.2.1 ∈ ns) (am : ∀ r ∈ rows, 0 ≤ r.2) : Calm (srtE (es.map norm)) := fun A ev => by
  have p := (srtE_perm (es.map norm)).filter A
  rw [ln_permP p, List.filter_map, ln_normP]
  refine h.calm nd en am fun z => ?_
  have := ev z
  rw [cnt_perm p, List.filter_map, cnt_norm] at this
  exact this
end Lj

set_option maxHeartbeats 1000000
/-! repr of a whole number or None -/
namespace Lj
open PySem PySem.Spec PyProof.Rows L2 Lw
def numV (o : Option Int) : V := match o with
  | none => .non
  | some i => .int i
def shN (o : Option Int) : Str := match o with
  | none => "None"
  | some i => toString i
def rReprN : List V → Hp → VK → Prop := fun xs H Q => ∃ o : Option Int, xs = [numV o] ∧ (∀ i, o = some i → i.natAbs.log2 < 1920) ∧ Q (.str (shN o)) H
theorem call_reprN {X : Cx} : CallR X (.builtin "repr") rReprN := by
  intro pins s σ H xs us Q I r h
  obtain ⟨o, rfl, hz, q⟩ := h
  cases o with
  | none =>
    obtain ⟨u, rfl, ru⟩ := vals1 r
    cases ru
    exact PySem.P.repr_of_none ⟨.str "None", H, I.tok _, ⟨_, rfl⟩, q⟩
  | some i =>
    obtain ⟨u, rfl, t, rfl⟩ := vals1 r
    exact PySem.P.repr_of_int (hz i rfl) ⟨.str _, H, I.tok _, ⟨_, rfl⟩, q⟩
theorem ln_bound : ∀ {J : List Eg}, (∀ e ∈ J, -1000000 ≤ e.2.2.2 ∧ e.2.2.2 ≤ 1000000) → -(1000000 * (J.length : Int)) ≤ ln J ∧ ln J ≤ 1000000 * (J.length : Int)
  | [], _ => by simp [ln]
  | e :: J, h => by
    have ih := ln_bound (J := J) fun f hf => h f (List.mem_cons_of_mem _ hf)
    have := h e List.mem_cons_self
    rw [ln_cons, List.length_cons]
    omega
theorem log_ok {i : Int} (h0 : -1000000000 ≤ i) (h1 : i ≤ 1000000000) : i.natAbs.log2 < 1920 := by
  rcases Nat.eq_zero_or_pos i.natAbs with z | z
  · rw [z]
    decide
  · have h : i.natAbs < 2 ^ 30 := by omega
    have := (Nat.log2_lt (Nat.ne_of_gt z)).mpr h
    omega
end Lj

set_option maxHeartbeats 1000000
/-! a def with a starred parameter, called by plain arguments -/
namespace Lj
open PySem PySem.Spec PyProof.Rows L2 StX
def tCallR (sp : Sp) (E : XK) (t : TA) : TE := fun σ H Q => t σ H fun vs H1 => sp vs H1 Q E
theorem pe_callR {X : Cx} {CX : CXT} {k : Nat} {f : Addr} {sp : Sp} {E : XK} {x : Str} {e : Expr} {es : List Expr} {t : TA} {p pos : Pos} (F : FnR X.prog X.w X.K X.mg X.base CX k f sp) (hr : Room k X.A) (hk : PySem.W.keepIn X.K (.ref f) = true) (hg : Gl X x) (hm : X.mg x = some (.ref f)) (hx : Passes CX X E) (ha : PA X (e :: es) t) (hd : (x == ("__debug__" : Str)) = false := by decide)
    (he : starEach (e :: es) X.env = (false, eval e X.env) :: starEach es X.env := by rfl) (hpl : (backTo pos (starEach es X.env)).any (·.1) = false := by rfl) : PE X (.Call (.Name x p) (e :: es) [] pos) (tCallR sp E t) := by
  refine ⟨fun pins s σ H Q I h => ?_⟩
  refine wpAny_Call_Name_kw (ld_glob I hg hm ?_ hd)
  refine PySem.W.callWith_K (h₀ := X.base) I.ok.mod.kin hk (thn (ha.run pos pins s σ H _ I h) fun us s2 ⟨vs, H2, I2, r, q⟩ => ⟨I2.kIn, ?_⟩) he hpl
  exact wpAny_call (run_fnR F hr hx I2 r q)
end Lj

set_option maxHeartbeats 2000000
/-! what finds joins in calm networks -/
namespace Lj
open PySem PySem.Spec PyProof.Rows L2 Lw Hq StX
open Evl (EvL EvA EvT EvU RC)
abbrev nm_calm_joins : List Str := ["network", "nodes", "node", "least_joins"]
theorem sc_calm_joins : FnScope nm_calm_joins ["network", "nodes"] (defScope (top 47)) := ⟨rfl, rfl, rfl, by decide +kernel, rfl, by decide +kernel, by decide +kernel⟩
abbrev stSp (sp : Sp) : Sp := fun vs H Q E => ∃ ws rest, vs = ws ++ rest ∧ ws.length = 1 ∧ rest.length ≤ sizeLine ∧ ∀ p, H p = Option.none → sp (ws ++ [V.ref p]) (upd H p (.tup rest)) Q E
/-- the network at x: what the search for joins asks of it -/
def NetC (D : Addr) (H : Hp) (x : Addr) (ns : List Str) (es : List Eg) : Prop := NetAt D H x ns es ∧ (es.map (·.1)).Nodup ∧ es.length ≤ 200 ∧ Prop2 es ∧ Few es ∧ Calm es ∧ ns.Nodup ∧ ns.length ≤ 40
theorem NetC.ex {D : Addr} {H H' : Hp} {x : Addr} {ns : List Str} {es : List Eg} (e : Evl.Ex H H') (h : NetC D H x ns es) : NetC D H' x ns es := ⟨h.1.ex e, h.2⟩
theorem nodup_es {es : List Eg} (h : (es.map (·.1)).Nodup) : es.Nodup := List.nodup_iff_pairwise_ne.mpr ((List.pairwise_map.mp (List.nodup_iff_pairwise_ne.mp h)).imp fun {a b} n q => n (by rw [q]))
theorem tn_12 : Tn 12 ≤ 40000 := by decide +kernel
/-- a LeastJoins of es at a, told with what it has put down -/
def LjAt (Av : Addr → Prop) (L : Addr) (H : Hp) (a : Addr) (es : List Eg) (odd : List Str) (dr db : Addr) (m : Nat) : Prop := ∃ cn, LjFix L H a es cn odd ((negs es).map (·.2.2.2)).sum dr db ∧ RoutesAt Av H dr es m ∧ BestAt H db es m ∧ cn = (negs es).map (·.1)
theorem pts_tw {odd : List Str} (h : odd.Nodup) (u v z : Str) : z ∈ pts odd [u, v] ↔ ¬ (z ∈ odd ↔ z ∈ ends2 u v) := by
  by_cases q : u = v
  · subst q
    have e : ends2 u u = [] := by unfold ends2; rw [if_pos rfl]
    rw [e]
    have : z ∈ pts odd [u, u] ↔ z ∈ odd := by
      unfold pts
      rw [List.foldl_cons, List.foldl_cons, List.foldl_nil]
      by_cases m : u ∈ odd
      · rw [if_pos m, if_neg (fun k => (h.mem_erase_iff.mp k).1 rfl), List.mem_cons, h.mem_erase_iff]
        constructor
        · rintro (rfl | k)
          · exact m
          · exact k.2
        · intro k
          by_cases e : z = u
          · exact .inl e
          · exact .inr ⟨e, k⟩
      · rw [if_neg m, if_pos List.mem_cons_self, List.erase_cons_head]
    rw [this]
    simp
  · have e : ends2 u v = [u, v] := by unfold ends2; rw [if_neg q]
    rw [e]
    exact pts'_iff h (by simp [q]) z
section
variable {P : Program} {w : World} {K : PySem.W.Frag} {mg : Str → Option Value} {base : Heap} {L D : Addr}
def spCalmJoins (L D : Addr) : Sp := fun vs H Q _ => ∃ (x p : Addr) (ns : List Str) (es : List Eg) (T : List Str), vs = [V.ref x, .ref p] ∧ NetC D H x ns es ∧ H p = some (.tup (T.map V.str)) ∧ (∀ z ∈ T, z ∈ ns) ∧ T.length ≤ 50 ∧
  ∀ H' a odd dr db, Evl.Ex H H' → LjAt (fun _ => False) L H' a es odd dr db 50000 → H dr = none → H db = none → odd.Nodup → (∀ y, y ∈ odd ↔ isOdd (negs es) y) → Q (.ref a) H'
theorem ok_calmJoins {f fE fJ fL fN pN : Addr} {dE dJ dL dN : FuncData} {k : Nat} (h : FnIs K "calm_joins" "calm_joins" (top 47) f) (T : Bs mg bl) (N : NwT K D) (cl_LeastJoins : Cls K L) (F_check_known_node : Cf P w K mg base "check_known_node" ["network", "value"] k (spKnownN D) fE dE) (F_joins_of : Cf P w K mg base "joins_of" ["edges"] k (spJoinsOf L) fJ dJ)
    (m_LeastJoins_least_length : Meth K L "least_length" fL) (F_LeastJoins_least_length : FnOk P w K mg base CX0 k fL dL ["self", "ends"] (spLength L)) (b_LeastJoins_least_length : Binds K dL ["self", "ends"] [])
    (P_Network_edges : PropOf K D "edges" pN fN) (F_Network_edges : FnOk P w K mg base CX0 k fN dN ["self"] (spEdges D)) (b_Network_edges : Binds K dN ["self"] []) : FnR P w K mg base CX0 (k + 2) f (stSp (spCalmJoins L D)) := by
  refine FnIs.star1 h sc_calm_joins (fun _ _ _ _ _ _ a => rfl) (fun _ _ _ _ _ _ a r rs => rfl) (fun cdv A outer s H vs Q E hr h => ?_)
  obtain ⟨x, p, ns, es, U, rfl, hC, hp, sub, l4, q⟩ := h
  refine ⟨_, (pss_cons (ps_for PassesOwn.never rfl (pi_tup (pv 1)) (pg_name (i := 2) sc_calm_joins.nd rfl (Or.inl rfl)) (pss_one (ps_expr (pe_cf F_check_known_node (hr.mono (by omega)) (by rfl) (pa_cons (pv 0) (pa_cons (pv 2) pa_nil))))))
      (pss_cons (ps_set (i := 3) sc_calm_joins.nd rfl (Or.inl rfl) (pe_cf F_joins_of (hr.mono (by omega)) (by rfl) (pa_cons (pe_prop (pv 0) N.cl P_Network_edges F_Network_edges (hr.mono (by omega)) b_Network_edges .nil pass0 rfl) pa_nil)))
      (pss_cons (ps_if (pt_cmpR op_lt (pe_meth (pv 3) cl_LeastJoins m_LeastJoins_least_length F_LeastJoins_least_length (hr.mono (by omega)) b_LeastJoins_least_length .nil pass0 (pa_cons (pe_tup pa_nil) pa_nil)) pe_int (nomark _)) (pss_one ps_never) pss_nil)
      (pss_one (ps_ret (pv 3)))))), ?_⟩
  obtain ⟨hN, nd, l0, p2, few, calm, nns, l40⟩ := id hC
  obtain ⟨dx, t, r, d, bs, h1, h2, h3, h4, h5⟩ := id hN
  refine Evl.q_forT (Evl.ev_var rfl) (Evl.st_of hp) (fun i σ' H' => ∃ x2, σ' = [some (.ref x), some (.ref p), x2, none] ∧ Evl.Ex H H') (fun H1 e1 => ⟨none, rfl, e1⟩) (fun i σ' H' _ ⟨_, _, e⟩ => Evl.ex_t e (Evl.st_of hp)) (fun i y σ' H' hy w => ?_) (fun σ' H' w => ?_)
  · obtain ⟨x2, rfl, e⟩ := w
    rw [List.getElem?_map] at hy
    obtain ⟨z, hz, rfl⟩ := Option.map_eq_some_iff.mp hy
    refine g_name ?_
    exact Evl.s_drop (Evl.ev_call (vs := [.ref x, .str z]) (z := .non) (Evl.ea_cons (Evl.ev_var rfl) (Evl.ea_cons (Evl.ev_var rfl) Evl.ea_nil)) fun H1 e1 Q1 q1 E1 => ⟨x, ns, es, z, rfl, hN.ex (e.trans e1), sub z (List.mem_of_getElem? hz), q1⟩) fun H1 e1 => ⟨_, rfl, e.trans e1⟩
  · obtain ⟨x2, rfl, e⟩ := w
    refine ⟨.ref x, rfl, x, dx, _, rfl, e _ _ h1, x, ns, es, rfl, hN.ex e, fun t2 bs2 H2 e2 ht2 hb2 => ?_⟩
    refine g_nil ?_
    refine ⟨t2, bs2, es, rfl, ht2, hb2, nd, l0, p2, fun H3 a odd dr db e3 na hF hR hB ndr ndb n1 n2 n3 => ?_⟩
    refine g_name ?_
    dsimp only
    obtain ⟨dxa, de, ds, lc, lo, bsa, g1, _⟩ := id hF
    have lodd : odd.length ≤ 10 := few odd n1 fun y hy => (n2 y).mp hy
    have t12 := Nat.le_trans (tn_mono (show odd.length ≤ 12 by omega)) tn_12
    have e03 := (e.trans e2).trans e3
    refine ⟨.ref a, rfl, a, dxa, _, rfl, g1, lj_m5 _ _ _ _ _ _ _, ?_⟩
    refine ⟨Evl.sz_of (by simp), fun pt npt => ?_⟩
    have e4 := Evl.Ex.new (o := .tup []) npt
    refine g_nil ⟨(fun _ => False), a, pt, dr, db, es, _, odd, [], _, 1, rfl, hF.ex e4, (hR.ex e4).up (by omega), hB.ex e4, by show 1 + Tn odd.length ≤ _; omega, upd_same, n1, by show odd.length ≤ 14; omega, lodd, by simp, by omega, p2, fun H5 r c5 hR5 hB5 o => ?_⟩
    have jl := join_of_opt (nodup_es nd) p2 n1 List.nodup_nil n2 (show Opt es (pts' odd []) r from o)
    have z := calm.zero jl
    have lv : lenV ((negs es).map (·.2.2.2)).sum r = .int 0 := by
      cases r with
      | none => exact nomatch z
      | some q =>
        have := Option.some.inj z
        exact congrArg V.int this
    rw [lv]
    refine ⟨0, 0, rfl, rfl, false, rfl, ?_⟩
    have e34 := e4
    obtain ⟨kr, hdr, _⟩ := id (hR.ex e4)
    obtain ⟨kb, hdb, _⟩ := id (hB.ex e4)
    have back : ∀ {c : Addr} {o : HO}, H c = some o → H5 c = some o := fun {c o} hc => c5 c o (fun z => by
      have := e.trans e2 _ _ hc
      rw [z, ndr] at this
      exact nomatch this) (fun z => by
      have := e.trans e2 _ _ hc
      rw [z, ndb] at this
      exact nomatch this) (e4 _ _ (e03 _ _ hc))
    refine Evl.s_ret (Evl.ev_var rfl) fun H6 e6 => q H6 a odd dr db (fun c o hc => e6 _ _ (back hc)) ⟨_, ((hF.ex e4).ch c5 hdr hdb).ex e6, (hR5.ex e6).up (by show 1 + Tn odd.length ≤ _; omega), (hB5.ex e6).up (by show 1 + Tn odd.length ≤ _; omega), rfl⟩ (Evl.fresh_back (e.trans e2) ndr) (Evl.fresh_back (e.trans e2) ndb) n1 n2
end
end Lj

set_option maxHeartbeats 1000000
/-! dicts of texts with numbers or None: what repr asks of them -/
namespace Lj
open PySem PySem.Spec PyProof.Rows L2 Lw
def numD : Option Int → PyData
  | none => .none
  | some i => .int i
def dsD (rs : List (Str × Option Int)) : PyData := .dict (rs.map fun q => (.str q.1, numD q.2))
theorem rd_num {H : Hp} (r : Option Int) : Gd.RD H (numV r) (numD r) := by
  cases r with
  | none => exact .non
  | some i => exact .int i
theorem rd_ds {H : Hp} {a : Addr} {rs : List (Str × Option Int)} (h : H a = some (.dK (rs.map fun q => ((Sum.inr q.1 : Key), numV q.2)))) : Gd.RD H (.ref a) (dsD rs) := by
  refine .dic h ?_ ?_
  · clear h
    induction rs with
    | nil => exact .nil
    | cons q rs ih => exact .cons (.str q.1) ih
  · clear h
    induction rs with
    | nil => exact .nil
    | cons q rs ih => exact .cons (rd_num q.2) ih
theorem num_len {l : Int} (h0 : -1000000000 ≤ l) (h1 : l ≤ 1000000000) : (isz l).length ≤ 13 := by
  unfold isz
  rw [PySem.ofString_length]
  exact Nat.le_trans (int_text_length_le10 (k := 10) (by decide) (by omega)) (by decide)
theorem num_ok {r : Option Int} (h : ∀ m, r = some m → -1000000000 ≤ m ∧ m ≤ 1000000000) : (numD r).showable = true ∧ (numD r).depth ≤ 1 ∧ (numD r).leavesShort 13 = true ∧ (numD r).weight ≤ 40 := by
  cases r with
  | none => exact ⟨by simp [numD, PyData.showable], by simp [numD, PyData.depth], by simp [numD, PyData.leavesShort], by simp [numD, PyData.weight]⟩
  | some m =>
    obtain ⟨a, b⟩ := h m rfl
    refine ⟨by simpa [numD, PyData.showable] using log_ok a b, by simp [numD, PyData.depth], ?_, ?_⟩
    · show PyData.leavesShort 13 (.int m) = true
      rw [PyData.leavesShort]
      refine decide_eq_true ?_
      rw [PyData.shown]
      exact num_len a b
    · show PyData.weight (.int m) ≤ 40
      simp only [PyData.weight]
      split
      · exact Nat.zero_le _
      · have k : m.natAbs < 2 ^ 30 := by omega
        rcases Nat.eq_zero_or_pos m.natAbs with z | z
        · rw [z]
          decide
        · have := (Nat.log2_lt (Nat.ne_of_gt z)).mpr k
          omega
theorem ds_shows {rs : List (Str × Option Int)} (hn : ∀ q ∈ rs, IsNm q.1) (hv : ∀ q ∈ rs, ∀ m, q.2 = some m → -1000000000 ≤ m ∧ m ≤ 1000000000) (l : rs.length ≤ 1000) : (dsD rs).showable = true ∧ (dsD rs).depth ≤ 50 ∧ (dsD rs).shown.length ≤ sizeLine := by
  have all : PyData.showableKv (rs.map fun q => (PyData.str q.1, numD q.2)) = true ∧ PyData.depthKv (rs.map fun q => (PyData.str q.1, numD q.2)) ≤ 1 ∧ PyData.leavesShortKv 13 (rs.map fun q => (PyData.str q.1, numD q.2)) = true ∧ PyData.weightKv (rs.map fun q => (PyData.str q.1, numD q.2)) ≤ rs.length * 50 := by
    clear l
    induction rs with
    | nil => exact ⟨by simp [PyData.showableKv], by simp [PyData.depthKv], by simp [PyData.leavesShortKv], by simp [PyData.weightKv]⟩
    | cons q rs ih =>
      obtain ⟨i1, i2, i3, i4⟩ := ih (fun p hp => hn p (List.mem_cons_of_mem _ hp)) fun p hp => hv p (List.mem_cons_of_mem _ hp)
      obtain ⟨n1, n2, n3, n4⟩ := num_ok (hv q List.mem_cons_self)
      have hq := hn q List.mem_cons_self
      have sq := Sm.str hq
      have lq : PyData.leavesShort 13 (.str q.1) = true := by
        rw [PyData.leavesShort, List.all_eq_true]
        intro c hc
        have := hq.2.2 c hc
        exact decide_eq_true (by have e : (16 : Nat) ^ 8 = 4294967296 := by decide
                                 omega)
      rw [List.map_cons]
      refine ⟨?_, ?_, ?_, ?_⟩
      · rw [PyData.showableKv, i1, n1, sq.s]
        rfl
      · rw [PyData.depthKv]
        have := sq.d
        omega
      · rw [PyData.leavesShortKv, i3, n3, lq]
        rfl
      · rw [PyData.weightKv, List.length_cons]
        have := sq.w
        omega
  obtain ⟨a1, a2, a3, a4⟩ := all
  refine ⟨by simpa [dsD, PyData.showable] using a1, ?_, ?_⟩
  · show PyData.depth (.dict _) ≤ 50
    simp only [PyData.depth]
    omega
  · refine PyData.shown_fits (B := 13) (by decide) (by decide) ?_ ?_
    · show PyData.leavesShort 13 (.dict _) = true
      rw [PyData.leavesShort]
      exact a3
    · show PyData.weight (.dict _) ≤ _
      simp only [PyData.weight]
      have e : (2 : Nat) ^ 20 = 1048576 := by decide
      omega
end Lj

set_option maxHeartbeats 1000000
/-! tuples of a number and a name: their order, sorted, repr -/
namespace Lj
open PySem PySem.Spec PyProof.Rows L2 Lw
abbrev Pr := Int × Str
abbrev prV (r : Pr) : List V := [.int r.1, .str r.2]
abbrev prD (r : Pr) : PyData := .tuple [.int r.1, .str r.2]
def lePr (a b : Pr) : Prop := a.1 < b.1 ∨ (a.1 = b.1 ∧ sk a.2 ≤ sk b.2)
theorem lt_pr (a b : Pr) : PySem.W.dataLt (prD a) (prD b) = decide (a.1 < b.1 ∨ (a.1 = b.1 ∧ sk a.2 < sk b.2)) := by
  rw [prD, prD, PySem.W.dataLt_pair (by simp [PySem.W.alike]) (by simp [PySem.W.alike]), PySem.W.dataLt_int, PySem.W.dataLt_str]
  by_cases h : a.1 = b.1
  · rw [if_pos (by simp [PyData.eqv, h])]
    by_cases q : a.2 = b.2
    · rw [if_pos (by simp [PyData.eqv, q])]
      symm
      refine decide_eq_false ?_
      rintro (z | ⟨_, z⟩)
      · omega
      · rw [q] at z
        exact List.lt_irrefl _ z
    · rw [if_neg (by simp [PyData.eqv, q])]
      refine decide_eq_decide.mpr ⟨fun z => .inr ⟨h, z⟩, ?_⟩
      rintro (z | ⟨_, z⟩)
      · omega
      · exact z
  · rw [if_neg (by simp [PyData.eqv, h])]
    refine decide_eq_decide.mpr ⟨fun z => .inl z, ?_⟩
    rintro (z | ⟨z, _⟩)
    · exact z
    · exact absurd z h
theorem lePr_of {a b : Pr} (h : PySem.W.dataLt (prD b) (prD a) = false) : lePr a b := by
  rw [lt_pr] at h
  have h := of_decide_eq_false h
  by_cases l : a.1 < b.1
  · exact .inl l
  · have e : a.1 = b.1 := by
      apply Classical.byContradiction
      intro n
      exact h (.inl (by omega))
    exact .inr ⟨e, List.not_lt.mp fun z => h (.inr ⟨e.symm, z⟩)⟩
theorem lePr_anti {a b : Pr} (h : lePr a b) (k : lePr b a) : a = b := by
  rcases h with h | ⟨h, h2⟩ <;> rcases k with k | ⟨k, k2⟩
  · omega
  · omega
  · omega
  · exact Prod.ext h (ext_cps (List.le_antisymm h2 k2))
theorem lePr_unique : ∀ {xs ys : List Pr}, xs.Perm ys → xs.Pairwise lePr → ys.Pairwise lePr → xs = ys
  | [], ys, h, _, _ => (List.nil_perm.mp h).symm
  | x :: xs, [], h, _, _ => absurd (List.perm_nil.mp h) (by simp)
  | x :: xs, y :: ys, h, hx, hy => by
    obtain ⟨x1, x2⟩ := List.pairwise_cons.mp hx
    obtain ⟨y1, y2⟩ := List.pairwise_cons.mp hy
    have e : x = y := by
      have mx : x ∈ y :: ys := h.mem_iff.mp List.mem_cons_self
      have my : y ∈ x :: xs := h.mem_iff.mpr List.mem_cons_self
      rcases List.mem_cons.mp mx with mx | mx
      · exact mx
      · rcases List.mem_cons.mp my with my | my
        · exact my.symm
        · exact lePr_anti (x1 y my) (y1 x mx)
    subst e
    rw [lePr_unique (List.Perm.cons_inv h) x2 y2]
def srtP (rs : List Pr) : List Pr := rs.mergeSort (PySem.W.dataLe false prD)
theorem srtP_perm (rs : List Pr) : (srtP rs).Perm rs := List.mergeSort_perm rs _
theorem srtP_le (rs : List Pr) : (srtP rs).Pairwise lePr :=
  (PySem.W.sort_pairwise (PySem.W.sortLe_total _ false _) rs).imp fun {a b} h => lePr_of (by
    have z : (!PySem.W.dataLt (prD b) (prD a)) = true := h
    simpa using z)
theorem srtP_eq {rs qs : List Pr} (p : rs.Perm qs) : srtP rs = srtP qs := lePr_unique (((srtP_perm rs).trans p).trans (srtP_perm qs).symm) (srtP_le rs) (srtP_le qs)
theorem srtP_filter (f : Pr → Bool) (rs : List Pr) : srtP (rs.filter f) = (srtP rs).filter f := lePr_unique ((srtP_perm _).trans ((srtP_perm rs).filter f).symm) (srtP_le _) ((srtP_le rs).filter f)
abbrev PrsAt (H : Hp) (as : List Addr) (rs : List Pr) : Prop := Paired (fun a r => H a = some (.tup (prV r))) as rs
theorem PrsAt.tk {H H' : Hp} (k : TK H H') {ts : List Addr} {Ts : List Pr} (h : PrsAt H ts Ts) : PrsAt H' ts Ts := paired_imp (fun _ _ z => k _ _ z) h
theorem dp_pr {K : PySem.W.Frag} {H : Hp} {a : Addr} {r : Pr} (h : H a = some (.tup (prV r))) : Dp K H (.ref a) (prD r) := .tup (Evl.st_of h) (.cons (.int _) (.cons (.str _) .nil))
theorem prs_zip {H : Hp} : ∀ {as : List Addr} {rs : List Pr}, PrsAt H as rs → ∃ zs : List (Addr × Pr), zs.map (·.1) = as ∧ zs.map (·.2) = rs ∧ ∀ z ∈ zs, H z.1 = some (.tup (prV z.2))
  | _, _, .nil => ⟨[], rfl, rfl, fun z h => absurd h (by simp)⟩
  | a :: _, r :: _, .cons h t => by
    obtain ⟨zs, h1, h2, h3⟩ := prs_zip t
    refine ⟨(a, r) :: zs, by rw [List.map_cons, h1], by rw [List.map_cons, h2], fun z hz => ?_⟩
    rcases List.mem_cons.mp hz with rfl | hz
    · exact h
    · exact h3 z hz
theorem zip_prs {H : Hp} : ∀ {zs : List (Addr × Pr)}, (∀ z ∈ zs, H z.1 = some (.tup (prV z.2))) → PrsAt H (zs.map (·.1)) (zs.map (·.2))
  | [], _ => .nil
  | z :: zs, h => .cons (h z List.mem_cons_self) (zip_prs fun y hy => h y (List.mem_cons_of_mem _ hy))
/-- sorted of a list of such tuples -/
theorem rc_sortP {K : PySem.W.Frag} {H : Hp} {p : Addr} {as : List Addr} {rs : List Pr} {Q : VK} (hl : SqL K H p (as.map V.ref)) (h : PrsAt H as rs) (l : rs.length ≤ 1000) (q : ∀ s as', H s = none → PrsAt (upd H s (.lst (as'.map V.ref))) as' (srtP rs) → Q (.ref s) (upd H s (.lst (as'.map V.ref)))) : rSortedD K [.ref p] H Q := by
  obtain ⟨zs, rfl, rfl, h3⟩ := prs_zip h
  rw [List.length_map] at l
  refine ⟨Pr, prD, p, zs.map fun z => (V.ref z.1, z.2), rfl, .inl ?_, fun q hq => ?_, ?_, ?_, fun q hq => ?_, by rw [List.length_map]; omega, fun s ns => ?_⟩
  · rw [List.map_map] at hl ⊢
    exact hl
  · obtain ⟨z, hz, rfl⟩ := List.mem_map.mp hq
    exact dp_pr (h3 z hz)
  · exact PySem.W.AllAlike.of fun b b' => by simp [PySem.W.alike, PySem.W.alikeAll]
  · rw [show ((zs.map fun z => (V.ref z.1, z.2)).map fun q => prD q.2) = (zs.map (·.2)).map prD by rw [List.map_map, List.map_map]; rfl]
    exact PySem.W.Sortable.tuples fun b => ⟨_, _, rfl⟩
  · simp [PyData.depth, PyData.depthAll]
  · have pm := List.mergeSort_perm (zs.map fun z => (V.ref z.1, z.2)) (PySem.W.dataLe false fun q : V × Pr => prD q.2)
    have pw : ((zs.map fun z => (V.ref z.1, z.2)).mergeSort (PySem.W.dataLe false fun q : V × Pr => prD q.2)).Pairwise fun a b => PySem.W.dataLe false (fun q : V × Pr => prD q.2) a b = true := PySem.W.sort_pairwise (PySem.W.sortLe_total _ false _) _
    obtain ⟨ws, pz, e⟩ := perm_map_inv pm
    rw [e] at pw ⊢
    have e1 : ((ws.map fun z => (V.ref z.1, z.2)).map (·.1)) = (ws.map (·.1)).map V.ref := by
      rw [List.map_map, List.map_map]
      rfl
    rw [e1]
    refine q s _ ns ?_
    have e2 : ws.map (·.2) = srtP (zs.map (·.2)) := by
      refine lePr_unique ((pz.map _).trans (srtP_perm _).symm) (List.pairwise_map.mpr ((List.pairwise_map.mp pw).imp fun {a b} h => lePr_of ?_)) (srtP_le _)
      have z : (!PySem.W.dataLt (prD b.2) (prD a.2)) = true := h
      simpa using z
    rw [← e2]
    refine zip_prs fun z hz => ?_
    rw [upd_ne fun w => ?_]
    · exact h3 z (pz.mem_iff.mp hz)
    · have := h3 z (pz.mem_iff.mp hz)
      rw [w, ns] at this
      exact nomatch this
/-! repr -/
abbrev prsD (rs : List Pr) : PyData := .list (rs.map prD)
theorem rd_prs {H : Hp} {l : Addr} {as : List Addr} {rs : List Pr} (hl : H l = some (.lst (as.map V.ref))) (h : PrsAt H as rs) : Gd.RD H (.ref l) (prsD rs) := by
  refine .lst (.inl hl) ?_
  clear hl
  induction h with
  | nil => exact .nil
  | cons x t ih => exact .cons (.tup x (.cons (.int _) (.cons (.str _) .nil))) ih
theorem prs_shows {rs : List Pr} (hn : ∀ q ∈ rs, IsNm q.2) (hv : ∀ q ∈ rs, -1000000000 ≤ q.1 ∧ q.1 ≤ 1000000000) (l : rs.length ≤ 1000) : (prsD rs).showable = true ∧ (prsD rs).depth ≤ 50 ∧ (prsD rs).shown.length ≤ sizeLine := by
  have all : PyData.showableAll (rs.map prD) = true ∧ PyData.depthAll (rs.map prD) ≤ 3 ∧ PyData.leavesShortAll 13 (rs.map prD) = true ∧ PyData.weightAll (rs.map prD) ≤ rs.length * 60 := by
    clear l
    induction rs with
    | nil => exact ⟨by simp [PyData.showableAll], by simp [PyData.depthAll], by simp [PyData.leavesShortAll], by simp [PyData.weightAll]⟩
    | cons q rs ih =>
      obtain ⟨i1, i2, i3, i4⟩ := ih (fun p hp => hn p (List.mem_cons_of_mem _ hp)) fun p hp => hv p (List.mem_cons_of_mem _ hp)
      obtain ⟨n1, n2, n3, n4⟩ := num_ok (r := some q.1) fun m e => by cases e; exact hv q List.mem_cons_self
      have hq := hn q List.mem_cons_self
      have sq := Sm.str hq
      have lq : PyData.leavesShort 13 (.str q.2) = true := by
        rw [PyData.leavesShort, List.all_eq_true]
        intro c hc
        have := hq.2.2 c hc
        exact decide_eq_true (by have e : (16 : Nat) ^ 8 = 4294967296 := by decide
                                 omega)
      have n1' : (PyData.int q.1).showable = true := n1
      have n2' : (PyData.int q.1).depth ≤ 1 := n2
      have n3' : (PyData.int q.1).leavesShort 13 = true := n3
      have n4' : (PyData.int q.1).weight ≤ 40 := n4
      rw [List.map_cons]
      refine ⟨?_, ?_, ?_, ?_⟩
      · simp only [PyData.showableAll, PyData.showable] at i1 n1' ⊢
        have s2 := sq.s
        simp only [PyData.showable] at s2
        simp [i1, n1', s2]
      · have := sq.d
        simp only [prD, PyData.depthAll, PyData.depth] at i2 n2' this ⊢
        omega
      · simp only [prD, PyData.leavesShortAll, PyData.leavesShort] at i3 n3' lq ⊢
        simp [i3, n3', lq]
      · have := sq.w
        simp only [prD, PyData.weightAll, PyData.weight, List.length_cons] at i4 n4' this ⊢
        omega
  obtain ⟨a1, a2, a3, a4⟩ := all
  refine ⟨by simpa [PyData.showable] using a1, ?_, ?_⟩
  · simp only [prsD, PyData.depth]
    omega
  · refine PyData.shown_fits (B := 13) (by decide) (by decide) ?_ ?_
    · rw [PyData.leavesShort]
      exact a3
    · simp only [prsD, PyData.weight]
      have e : (2 : Nat) ^ 20 = 1048576 := by decide
      omega
end Lj

set_option maxHeartbeats 1000000
/-! paths and cycles on paper: a join of two nodes is a path and what is even; no cycle below zero makes calm -/
namespace Lj
open PySem Lw
/-- a path from u: its edges, and the nodes that it passes, none twice; the last of them -/
inductive Way (es : List Eg) (u : Str) : List Eg → List Str → Str → Prop
  | nil : Way es u [] [u] u
  | snoc {p : List Eg} {ns : List Str} {x : Str} {e : Eg} : Way es u p ns x → e ∈ es → tch e x = true → oth e x ∉ ns → Way es u (p ++ [e]) (ns ++ [oth e x]) (oth e x)
theorem Way.mono {es fs : List Eg} (h : ∀ e ∈ es, e ∈ fs) {u x : Str} {p : List Eg} {ns : List Str} (w : Way es u p ns x) : Way fs u p ns x := by
  induction w with
  | nil => exact .nil
  | snoc w he ht hn ih => exact .snoc ih (h _ he) ht hn
theorem Way.last {es : List Eg} {u x : Str} {p : List Eg} {ns : List Str} (w : Way es u p ns x) : x ∈ ns := by
  cases w with
  | nil => simp
  | snoc w he ht hn => simp
theorem Way.mem {es : List Eg} {u x : Str} {p : List Eg} {ns : List Str} (w : Way es u p ns x) : ∀ e ∈ p, e ∈ es := by
  induction w with
  | nil => intro e h; exact absurd h (by simp)
  | snoc w he ht hn ih =>
    intro e h
    rcases List.mem_append.mp h with h | h
    · exact ih e h
    · rw [List.mem_singleton.mp h]
      exact he
theorem Way.nodes {es : List Eg} {u x : Str} {p : List Eg} {ns : List Str} (w : Way es u p ns x) : ns.Nodup := by
  induction w with
  | nil => simp
  | @snoc p ns x e w he ht hn ih =>
    refine List.nodup_append.mpr ⟨ih, by simp, fun a ha b hb q => ?_⟩
    rw [List.mem_singleton.mp hb] at q
    exact hn (q ▸ ha)
/-- the ends of its edges are passed -/
theorem Way.touch {es : List Eg} {u x : Str} {p : List Eg} {ns : List Str} (w : Way es u p ns x) : ∀ e ∈ p, e.2.1 ∈ ns ∧ e.2.2.1 ∈ ns := by
  induction w with
  | nil => intro e h; exact absurd h (by simp)
  | @snoc p ns x e w he ht hn ih =>
    intro f h
    rcases List.mem_append.mp h with h | h
    · exact ⟨List.mem_append_left _ (ih f h).1, List.mem_append_left _ (ih f h).2⟩
    · rw [List.mem_singleton.mp h]
      have l := w.last
      have o : oth e x ∈ ns ++ [oth e x] := by simp
      have l' : x ∈ ns ++ [oth e x] := List.mem_append_left _ l
      unfold tch at ht
      rw [Bool.or_eq_true, decide_eq_true_iff, decide_eq_true_iff] at ht
      by_cases q : e.2.1 = x
      · have g : oth e x = e.2.2.1 := by unfold oth; rw [if_pos q]
        exact ⟨by rw [q]; exact l', by rw [← g]; exact o⟩
      · have g : oth e x = e.2.1 := by unfold oth; rw [if_neg q]
        exact ⟨by rw [← g]; exact o, by rw [ht.resolve_left q]; exact l'⟩
theorem Way.edges {es : List Eg} {u x : Str} {p : List Eg} {ns : List Str} (w : Way es u p ns x) : p.Nodup := by
  induction w with
  | nil => simp
  | @snoc p ns x e w he ht hn ih =>
    refine List.nodup_append.mpr ⟨ih, by simp, fun a ha b hb q => ?_⟩
    rw [List.mem_singleton.mp hb] at q
    rw [q] at ha
    have t := w.touch e ha
    refine hn ?_
    unfold oth
    split
    · exact t.2
    · exact t.1
/-- a part of it up to any node -/
theorem Way.upto {es : List Eg} {u x : Str} {p : List Eg} {ns : List Str} (w : Way es u p ns x) : ∀ y ∈ ns, ∃ q ms, Way es u q ms y := by
  induction w with
  | nil => intro y h; rw [List.mem_singleton.mp h]; exact ⟨_, _, .nil⟩
  | snoc w he ht hn ih =>
    intro y h
    rcases List.mem_append.mp h with h | h
    · exact ih y h
    · rw [List.mem_singleton.mp h]
      exact ⟨_, _, .snoc w he ht hn⟩
theorem Way.of_walk {es : List Eg} {u x : Str} {d : Int} (w : Wk es u x d) : ∃ p ns, Way es u p ns x := by
  induction w with
  | nil => exact ⟨_, _, .nil⟩
  | @snoc x d e w he ht ih =>
    obtain ⟨p, ns, h⟩ := ih
    by_cases q : oth e x ∈ ns
    · exact h.upto _ q
    · exact ⟨_, _, .snoc h he ht q⟩
theorem Way.parity {es : List Eg} {u x : Str} {p : List Eg} {ns : List Str} (w : Way es u p ns x) : ∀ z, Lw.cnt p z % 2 = ((if u = z then 1 else 0) + (if x = z then 1 else 0)) % 2 := by
  induction w with
  | nil => intro z; show 0 % 2 = _; split <;> rfl
  | @snoc p ns x e w he ht hn ih =>
    intro z
    rw [Lw.cnt_snoc, ends_of ht]
    have := ih z
    by_cases q1 : x = z <;> by_cases q2 : u = z <;> by_cases q3 : oth e x = z <;> simp only [q1, q2, q3, if_true, if_false] at this ⊢ <;> omega
/-- a list of edges as a set -/
theorem filter_list {es p : List Eg} (nd : es.Nodup) (np : p.Nodup) (h : ∀ e ∈ p, e ∈ es) : (es.filter fun e => decide (e ∈ p)).Perm p :=
  (List.perm_ext_iff_of_nodup (nd.filter _) np).mpr fun e => by
    rw [List.mem_filter, decide_eq_true_iff]
    exact ⟨fun q => q.2, fun q => ⟨h e q, q⟩⟩
theorem ln_minus (A B : Sub) : ∀ {es : List Eg}, (∀ e ∈ es, B e = true → A e = true) → ln (es.filter A) = ln (es.filter (sx A B)) + ln (es.filter B)
  | [], _ => by simp [ln]
  | e :: es, h => by
    have ih := ln_minus A B (es := es) fun f hf => h f (List.mem_cons_of_mem _ hf)
    have he := h e List.mem_cons_self
    rw [ln_fc, ln_fc, ln_fc]
    generalize ln (es.filter (sx A B)) = x1 at ih ⊢
    generalize ln (es.filter A) = x2 at ih ⊢
    generalize ln (es.filter B) = x3 at ih ⊢
    by_cases ha : A e = true <;> by_cases hb : B e = true
    · simp [sx, ha, hb]; omega
    · simp [sx, ha, hb]; omega
    · exact absurd (he hb) ha
    · simp [sx, ha, hb]; omega
/-- a join of two nodes holds a path between them -/
theorem IsJ.path {es : List Eg} (p2 : Prop2 es) {u v : Str} (ne : u ≠ v) {A : Sub} (j : IsJ es [u, v] A) : ∃ p ns, Way (es.filter A) u p ns v := by
  have p2' : Prop2 (es.filter A) := fun e he => p2 e (List.mem_filter.mp he).1
  obtain ⟨c, pm, _⟩ := Pm.of_edges p2' (J := es.filter A) (fun e he => he) (P := [u, v]) (by simp [ne]) j
  obtain ⟨y, d, c', hy, w, _⟩ := pm.cons_inv p2'
  rw [List.mem_singleton.mp hy] at w
  exact Way.of_walk w
theorem Way.set {es : List Eg} (nd : es.Nodup) {A : Sub} {u v : Str} {p : List Eg} {ns : List Str} (w : Way (es.filter A) u p ns v) : (∀ e ∈ es, decide (e ∈ p) = true → A e = true) ∧ (es.filter fun e => decide (e ∈ p)).Perm p :=
  ⟨fun e _ h => (List.mem_filter.mp (w.mem e (of_decide_eq_true h))).2, filter_list nd w.edges fun e h => (List.mem_filter.mp (w.mem e h)).1⟩
/-- .. and what is left is even -/
theorem Way.rest {es : List Eg} (nd : es.Nodup) {A : Sub} {u v : Str} {p : List Eg} {ns : List Str} (ne : u ≠ v) (j : IsJ es [u, v] A) (w : Way (es.filter A) u p ns v) : ∀ z, Lw.cnt (es.filter (sx A fun e => decide (e ∈ p))) z % 2 = 0 := fun z => by
  have a := cnt_sx A (fun e => decide (e ∈ p)) z es
  rw [Lw.cnt_perm (w.set nd).2] at a
  have b := w.parity z
  have c := j z
  unfold isOdd at c
  simp only [List.mem_cons, List.not_mem_nil, or_false] at c
  by_cases q1 : u = z
  · subst q1
    have q2 : ¬ v = u := fun q => ne q.symm
    rw [if_pos rfl, if_neg q2] at b
    have := c.mp (.inl rfl)
    omega
  · by_cases q2 : v = z
    · subst q2
      rw [if_neg q1, if_pos rfl] at b
      have := c.mp (.inr rfl)
      omega
    · rw [if_neg q1, if_neg q2] at b
      have : ¬ (Lw.cnt (es.filter A) z % 2 = 1) := fun q => (c.mpr q).elim (fun h => q1 h.symm) fun h => q2 h.symm
      omega
/-- distances are the least lengths of paths -/
theorem path_least {es : List Eg} (nd : es.Nodup) (p2 : Prop2 es) (calm : Calm es) {u v : Str} (ne : u ≠ v) {r : Option Int} (j : JL es [u, v] r) : (∀ p ns, Way es u p ns v → ∃ m, r = some m ∧ m ≤ ln p) ∧ ∀ m, r = some m → ∃ p ns, Way es u p ns v ∧ ln p = m := by
  have one : ∀ p ns, Way es u p ns v → IsJ es [u, v] fun e => decide (e ∈ p) := fun p ns w z => by
    unfold isOdd
    rw [Lw.cnt_perm (filter_list nd w.edges w.mem), w.parity z]
    simp only [List.mem_cons, List.not_mem_nil, or_false]
    by_cases q1 : u = z
    · subst q1
      have q2 : ¬ v = u := fun q => ne q.symm
      rw [if_pos rfl, if_neg q2]
      simp
    · by_cases q2 : v = z
      · subst q2
        rw [if_neg q1, if_pos rfl]
        simp
      · rw [if_neg q1, if_neg q2]
        simp
        exact ⟨fun h => q1 h.symm, fun h => q2 h.symm⟩
  have lnp : ∀ p ns, Way es u p ns v → ln (es.filter fun e => decide (e ∈ p)) = ln p := fun p ns w => ln_permP (filter_list nd w.edges w.mem)
  have low : ∀ A, IsJ es [u, v] A → ∃ p ns, Way es u p ns v ∧ ln p ≤ ln (es.filter A) := fun A a => by
    obtain ⟨p, ns, w⟩ := a.path p2 ne
    have ev := w.rest nd ne a
    have c := calm _ ev
    have m := ln_minus A (fun e => decide (e ∈ p)) (w.set nd).1
    rw [ln_permP (w.set nd).2] at m
    exact ⟨p, ns, w.mono fun e he => (List.mem_filter.mp he).1, by omega⟩
  cases r with
  | none => exact ⟨fun p ns w => absurd (one p ns w) (j _), fun m h => nomatch h⟩
  | some m =>
    obtain ⟨⟨A, a, e⟩, l⟩ := j
    refine ⟨fun p ns w => ⟨m, rfl, by have := l _ (one p ns w); rw [lnp p ns w] at this; exact this⟩, fun m' h => ?_⟩
    cases h
    obtain ⟨p, ns, w, q⟩ := low A a
    have := l _ (one p ns w)
    rw [lnp p ns w] at this
    exact ⟨p, ns, w, by omega⟩
/-- no cycle is below zero: told by the first edge of each -/
def Cyc : List Eg → Prop
  | [] => True
  | e :: es => (∀ p ns, Way es e.2.1 p ns e.2.2.1 → 0 ≤ e.2.2.2 + ln p) ∧ Cyc es
theorem Cyc.calm : ∀ {es : List Eg}, es.Nodup → Prop2 es → Cyc es → Calm es
  | [], _, _, _ => fun A _ => by simp [ln]
  | e :: es, nd, p2, c => fun A ev => by
    obtain ⟨n1, n2⟩ := List.nodup_cons.mp nd
    have p2' : Prop2 es := fun f hf => p2 f (List.mem_cons_of_mem _ hf)
    have ih := Cyc.calm n2 p2' c.2
    have ne := p2 e List.mem_cons_self
    by_cases a : A e = true
    · have j : IsJ es [e.2.1, e.2.2.1] A := fun z => by
        have := ev z
        rw [cnt_fc, if_pos a] at this
        unfold isOdd
        unfold ends at this
        simp only [List.mem_cons, List.not_mem_nil, or_false]
        by_cases q1 : e.2.1 = z
        · subst q1
          rw [if_pos rfl, if_neg (fun q => ne q.symm)] at this
          simp
          omega
        · by_cases q2 : e.2.2.1 = z
          · subst q2
            rw [if_neg q1, if_pos rfl] at this
            simp
            omega
          · rw [if_neg q1, if_neg q2] at this
            constructor
            · rintro (h | h)
              · exact absurd h.symm q1
              · exact absurd h.symm q2
            · intro h
              omega
      obtain ⟨p, ns, w⟩ := j.path p2' ne
      have r := ih _ (w.rest n2 ne j)
      have m := ln_minus A (fun e => decide (e ∈ p)) (w.set n2).1
      rw [ln_permP (w.set n2).2] at m
      have k := c.1 p ns (w.mono fun e he => (List.mem_filter.mp he).1)
      rw [ln_fc, if_pos a]
      omega
    · rw [ln_fc, if_neg a, Int.zero_add]
      refine ih A fun z => ?_
      have := ev z
      rw [cnt_fc, if_neg a, Nat.zero_add] at this
      exact this
/-- the other way round -/
theorem Calm.cyc : ∀ {es : List Eg}, es.Nodup → Prop2 es → Calm es → Cyc es
  | [], _, _, _ => trivial
  | e :: es, nd, p2, c => by
    obtain ⟨n1, n2⟩ := List.nodup_cons.mp nd
    have ne := p2 e List.mem_cons_self
    refine ⟨fun p ns w => ?_, Calm.cyc n2 (fun f hf => p2 f (List.mem_cons_of_mem _ hf)) fun A ev => ?_⟩
    · have ep : e ∉ p := fun h => n1 (w.mem e h)
      have pm := filter_list (es := e :: es) nd (p := e :: p) (List.nodup_cons.mpr ⟨ep, w.edges⟩) fun f hf => by
        rcases List.mem_cons.mp hf with rfl | hf
        · exact List.mem_cons_self
        · exact List.mem_cons_of_mem _ (w.mem f hf)
      have := c (fun f => decide (f ∈ e :: p)) fun z => by
        rw [Lw.cnt_perm pm, Lw.cnt_cons]
        have := w.parity z
        unfold ends
        by_cases q1 : e.2.1 = z <;> by_cases q2 : e.2.2.1 = z <;> simp only [q1, q2, if_true, if_false] at this ⊢ <;> omega
      rw [ln_permP pm, ln_cons] at this
      exact this
    · have := c (fun f => A f && decide (f ≠ e)) fun z => by
        have h : ((e :: es).filter fun f => A f && decide (f ≠ e)) = es.filter A := by
          rw [List.filter_cons, if_neg (by simp)]
          exact List.filter_congr fun f hf => by
            have : f ≠ e := fun q => n1 (q ▸ hf)
            simp [this]
        rw [h]
        exact ev z
      have h : ((e :: es).filter fun f => A f && decide (f ≠ e)) = es.filter A := by
        rw [List.filter_cons, if_neg (by simp)]
        exact List.filter_congr fun f hf => by
          have : f ≠ e := fun q => n1 (q ▸ hf)
          simp [this]
      rw [h] at this
      exact this
end Lj

set_option maxHeartbeats 1000000
/-! a search for all paths, on paper -/
namespace Lj
open PySem Lw
theorem Way.inv {es : List Eg} {u y : Str} {p : List Eg} {ns : List Str} (w : Way es u p ns y) : (p = [] ∧ ns = [u] ∧ y = u) ∨ ∃ q ms x e, p = q ++ [e] ∧ ns = ms ++ [oth e x] ∧ y = oth e x ∧ Way es u q ms x ∧ e ∈ es ∧ tch e x = true ∧ oth e x ∉ ms := by
  cases w with
  | nil => exact .inl ⟨rfl, rfl, rfl⟩
  | snoc w he ht hn => exact .inr ⟨_, _, _, _, rfl, rfl, rfl, w, he, ht, hn⟩
theorem Way.det {es : List Eg} {u x : Str} {p : List Eg} {ns : List Str} (w : Way es u p ns x) : ∀ {ms : List Str} {y : Str}, Way es u p ms y → ns = ms ∧ x = y := by
  induction w with
  | nil =>
    intro ms y k
    rcases k.inv with ⟨_, rfl, rfl⟩ | ⟨q, _, _, e, h, _⟩
    · exact ⟨rfl, rfl⟩
    · exact absurd h (by simp)
  | @snoc p ns x e w he ht hn ih =>
    intro ms y k
    rcases k.inv with ⟨h, _⟩ | ⟨q, ms', x', e', h, rfl, rfl, w', _⟩
    · exact absurd h (by simp)
    · obtain ⟨h1, h2⟩ := List.append_inj' h rfl
      cases h1
      cases List.singleton_inj.mp h2
      obtain ⟨rfl, rfl⟩ := ih w'
      exact ⟨rfl, rfl⟩
/-- a part of a path from its start, and the edge behind it -/
theorem Way.part {es : List Eg} {u y : Str} {q : List Eg} {e : Eg} : ∀ {rest : List Eg} {ns : List Str}, Way es u (q ++ e :: rest) ns y → ∃ ms x l, Way es u q ms x ∧ e ∈ es ∧ tch e x = true ∧ oth e x ∉ ms ∧ ns = ms ++ oth e x :: l := by
  intro rest
  induction h : rest.length generalizing rest y with
  | zero =>
    intro ns w
    cases rest with
    | cons _ _ => simp at h
    | nil =>
      rcases w.inv with ⟨h, _⟩ | ⟨q', ms, x, e', h, rfl, rfl, w', a, b, c⟩
      · exact absurd h (by simp)
      · obtain ⟨h1, h2⟩ := List.append_inj' (show q ++ [e] = q' ++ [e'] from h) rfl
        cases h1
        cases List.singleton_inj.mp h2
        exact ⟨ms, x, [], w', a, b, c, rfl⟩
  | succ n ih =>
    intro ns w
    have ne : rest ≠ [] := fun z => by rw [z] at h; simp at h
    have e1 : rest = rest.dropLast ++ [rest.getLast ne] := (List.dropLast_concat_getLast ne).symm
    rw [e1] at w
    rcases w.inv with ⟨h, _⟩ | ⟨q', ms, x, e', h', rfl, rfl, w', a, b, c⟩
    · exact absurd h (by simp)
    · have h2 : (q ++ e :: rest.dropLast) ++ [rest.getLast ne] = q' ++ [e'] := by rw [← h']; simp
      obtain ⟨h3, _⟩ := List.append_inj' h2 rfl
      rw [← h3] at w'
      obtain ⟨ms2, x2, l, g1, g2, g3, g4, g5⟩ := ih (by rw [List.length_dropLast, h]; rfl) w'
      exact ⟨ms2, x2, l ++ [oth e' x], g1, g2, g3, g4, by rw [g5]; simp⟩
abbrev Wt := List Eg × List Str × Str
def okEdge (q : Wt) (e : Eg) : Bool := tch e q.2.2 && !decide (oth e q.2.2 ∈ q.2.1)
def child (q : Wt) (e : Eg) : Wt := (q.1 ++ [e], q.2.1 ++ [oth e q.2.2], oth e q.2.2)
structure Dfs (es : List Eg) (u v : Str) (fs : List (List Eg)) (ws : List Wt) : Prop where
  sound : ∀ p ∈ fs, ∃ ns, Way es u p ns v
  wait : ∀ q ∈ ws, Way es u q.1 q.2.1 q.2.2
  all : ∀ p ns, Way es u p ns v → p ∈ fs ∨ ∃ q ∈ ws, q.1 <+: p
theorem Dfs.start (es : List Eg) (u v : Str) : Dfs es u v [] [([], [u], u)] :=
  ⟨fun _ h => absurd h (by simp), fun q hq => by rw [List.mem_singleton.mp hq]; exact .nil, fun p _ _ => .inr ⟨_, List.mem_cons_self, List.nil_prefix⟩⟩
theorem Dfs.found {es : List Eg} {u v : Str} {fs : List (List Eg)} {ws : List Wt} {q : Wt} (h : Dfs es u v fs (ws ++ [q])) (e : q.2.2 = v) : Dfs es u v (fs ++ [q.1]) ws := by
  have w := h.wait q (by simp)
  refine ⟨fun p hp => ?_, fun k hk => h.wait k (List.mem_append_left _ hk), fun p ns wp => ?_⟩
  · rcases List.mem_append.mp hp with hp | hp
    · exact h.sound p hp
    · rw [List.mem_singleton.mp hp, ← e]
      exact ⟨_, w⟩
  · rcases h.all p ns wp with a | ⟨k, hk, pr⟩
    · exact .inl (List.mem_append_left _ a)
    · rcases List.mem_append.mp hk with hk | hk
      · exact .inr ⟨k, hk, pr⟩
      · rw [List.mem_singleton.mp hk] at pr
        left
        obtain ⟨rest, rfl⟩ := pr
        cases rest with
        | nil => rw [List.append_nil]; simp
        | cons f rest =>
          exfalso
          obtain ⟨ms, x, l, g1, _, _, _, g5⟩ := wp.part
          obtain ⟨rfl, rfl⟩ := w.det g1
          have nd := wp.nodes
          have lv : v ∈ oth f q.2.2 :: l := by
            -- the last of ns
            have : ns.getLast? = some v := by
              rcases wp.inv with ⟨h, _⟩ | ⟨_, _, _, _, _, rfl, rfl, _⟩
              · exact absurd h (by simp)
              · simp
            rw [g5, List.getLast?_append] at this
            have ne : (oth f q.2.2 :: l).getLast? = some ((oth f q.2.2 :: l).getLast (by simp)) := List.getLast?_eq_some_getLast (by simp)
            rw [ne] at this
            have := Option.some.inj this
            rw [← this]
            exact List.getLast_mem _
          rw [g5] at nd
          exact (List.nodup_append.mp nd).2.2 _ w.last _ (e ▸ lv) rfl
theorem Dfs.go {es : List Eg} {u v : Str} {fs : List (List Eg)} {ws : List Wt} {q : Wt} (h : Dfs es u v fs (ws ++ [q])) (e : q.2.2 ≠ v) : Dfs es u v fs (ws ++ (es.filter (okEdge q)).map (child q)) := by
  have w := h.wait q (by simp)
  refine ⟨h.sound, fun k hk => ?_, fun p ns wp => ?_⟩
  · rcases List.mem_append.mp hk with hk | hk
    · exact h.wait k (List.mem_append_left _ hk)
    · obtain ⟨f, hf, rfl⟩ := List.mem_map.mp hk
      obtain ⟨h1, h2⟩ := List.mem_filter.mp hf
      unfold okEdge at h2
      rw [Bool.and_eq_true, Bool.not_eq_true', decide_eq_false_iff_not] at h2
      exact .snoc w h1 h2.1 h2.2
  · rcases h.all p ns wp with a | ⟨k, hk, pr⟩
    · exact .inl a
    · rcases List.mem_append.mp hk with hk | hk
      · exact .inr ⟨k, List.mem_append_left _ hk, pr⟩
      · rw [List.mem_singleton.mp hk] at pr
        obtain ⟨rest, rfl⟩ := pr
        cases rest with
        | nil =>
          rw [List.append_nil] at wp
          exact absurd (w.det wp).2 e
        | cons f rest =>
          obtain ⟨ms, x, l, g1, g2, g3, g4, g5⟩ := wp.part
          obtain ⟨rfl, rfl⟩ := w.det g1
          refine .inr ⟨child q f, List.mem_append_right _ (List.mem_map_of_mem (List.mem_filter.mpr ⟨g2, ?_⟩)), rest, by simp [child]⟩
          unfold okEdge
          rw [g3, decide_eq_false g4]
          rfl
theorem Dfs.done {es : List Eg} {u v : Str} {fs : List (List Eg)} (h : Dfs es u v fs []) (p : List Eg) : p ∈ fs ↔ ∃ ns, Way es u p ns v :=
  ⟨h.sound p, fun ⟨ns, w⟩ => (h.all p ns w).elim id fun ⟨_, k, _⟩ => absurd k (by simp)⟩
/-- how much is ahead: r nodes and j edges are left -/
def room : Nat → Nat → Nat
  | 0, _ => 1
  | r + 1, j => 1 + j * room r (j - 1)
theorem room_pos : ∀ r j : Nat, 1 ≤ room r j
  | 0, _ => Nat.le_refl _
  | r + 1, j => by
    rw [room]
    omega
theorem room_mono : ∀ {r s i j : Nat}, r ≤ s → i ≤ j → room r i ≤ room s j
  | 0, s, i, j, _, _ => room_pos s j
  | r + 1, 0, i, j, h, _ => by omega
  | r + 1, s + 1, i, j, h, k => by
    rw [room, room]
    have := Nat.mul_le_mul k (room_mono (r := r) (s := s) (i := i - 1) (j := j - 1) (by omega) (by omega))
    omega
theorem nodup_len {α : Type} [DecidableEq α] : ∀ {l D : List α}, l.Nodup → (∀ x ∈ l, x ∈ D) → l.length ≤ D.length
  | [], D, _, _ => Nat.zero_le _
  | a :: l, D, nd, h => by
    obtain ⟨n1, n2⟩ := List.nodup_cons.mp nd
    have ha := h a List.mem_cons_self
    have ih := nodup_len (l := l) (D := D.erase a) n2 fun x hx => (List.mem_erase_of_ne (fun q : x = a => n1 (by rw [← q]; exact hx))).mpr (h x (List.mem_cons_of_mem _ hx))
    rw [List.length_erase_of_mem ha] at ih
    have : 0 < D.length := List.length_pos_of_mem ha
    rw [List.length_cons]
    omega
def load (d m : Nat) : List Wt → Nat
  | [] => 0
  | q :: ws => room (m + 1 - q.2.1.length) (d - q.1.length) + load d m ws
theorem load_app (d m : Nat) : ∀ ws vs : List Wt, load d m (ws ++ vs) = load d m ws + load d m vs
  | [], _ => (Nat.zero_add _).symm
  | q :: ws, vs => by
    rw [List.cons_append, load, load, load_app d m ws vs, Nat.add_assoc]
theorem load_child (d m : Nat) (q : Wt) : ∀ fs : List Eg, load d m (fs.map (child q)) = fs.length * room (m - q.2.1.length) (d - q.1.length - 1)
  | [] => by simp [load]
  | f :: fs => by
    rw [List.map_cons, load, load_child d m q fs, List.length_cons, Nat.succ_mul]
    have h1 : (child q f).2.1.length = q.2.1.length + 1 := by simp [child]
    have h2 : (child q f).1.length = q.1.length + 1 := by simp [child]
    rw [h1, h2, show m + 1 - (q.2.1.length + 1) = m - q.2.1.length by omega, show d - (q.1.length + 1) = d - q.1.length - 1 by omega]
    omega
theorem load_len (d m : Nat) : ∀ ws : List Wt, ws.length ≤ load d m ws
  | [] => Nat.le_refl _
  | q :: ws => by
    have := load_len d m ws
    have := room_pos (m + 1 - q.2.1.length) (d - q.1.length)
    rw [load, List.length_cons]
    omega
theorem load_step {es : List Eg} {u : Str} {q : Wt} {ns : List Str} (w : Way es u q.1 q.2.1 q.2.2) (sub : ∀ y ∈ q.2.1, y ∈ ns) : load es.length ns.length ((es.filter (okEdge q)).map (child q)) < room (ns.length + 1 - q.2.1.length) (es.length - q.1.length) := by
  have l1 := nodup_len w.nodes sub
  have no : ∀ e ∈ q.1, e ∈ es.filter fun e => !okEdge q e := fun e he => by
    refine List.mem_filter.mpr ⟨w.mem e he, ?_⟩
    obtain ⟨a, b⟩ := w.touch e he
    have : oth e q.2.2 ∈ q.2.1 := by
      unfold oth
      split
      · exact b
      · exact a
    unfold okEdge
    rw [decide_eq_true this]
    simp
  have l2 := nodup_len w.edges no
  have l3 : (es.filter (okEdge q)).length + (es.filter fun e => !okEdge q e).length = es.length := by
    clear no l2 w sub l1
    induction es with
    | nil => rfl
    | cons e es ih =>
      rw [List.filter_cons, List.filter_cons]
      cases okEdge q e <;> simp <;> omega
  rw [load_child, show ns.length + 1 - q.2.1.length = (ns.length - q.2.1.length) + 1 by omega, room]
  have := Nat.mul_le_mul_right (room (ns.length - q.2.1.length) (es.length - q.1.length - 1)) (show (es.filter (okEdge q)).length ≤ es.length - q.1.length by omega)
  omega
theorem room6 : room 6 9 < 100000 := by decide
end Lj

set_option maxHeartbeats 1000000
/-! paths of the same network otherwise told; how far nodes are, by all paths; lengths raised until no cycle is below zero: on paper -/
namespace Lj
open PySem Lw
theorem nd_inj {es : List Eg} (n : (es.map (·.1)).Nodup) {a b : Eg} (ha : a ∈ es) (hb : b ∈ es) (e : a.1 = b.1) : a = b := by
  induction es with
  | nil => exact absurd ha (by simp)
  | cons x es ih =>
    rw [List.map_cons, List.nodup_cons] at n
    rcases List.mem_cons.mp ha with h1 | h1 <;> rcases List.mem_cons.mp hb with h2 | h2
    · rw [h1, h2]
    · exact absurd (show x.1 ∈ es.map (·.1) by rw [← h1, e]; exact List.mem_map_of_mem h2) n.1
    · exact absurd (show x.1 ∈ es.map (·.1) by rw [← h2, ← e]; exact List.mem_map_of_mem h1) n.1
    · exact ih n.2 h1 h2
theorem nd_es {es : List Eg} (h : (es.map (·.1)).Nodup) : es.Nodup := List.nodup_iff_pairwise_ne.mpr ((List.pairwise_map.mp (List.nodup_iff_pairwise_ne.mp h)).imp fun {a b} n q => n (by rw [q]))
theorem named {es p : List Eg} (nd : (es.map (·.1)).Nodup) (h : ∀ e ∈ p, e ∈ es) : es.filter (fun e => decide (e.1 ∈ p.map (·.1))) = es.filter fun e => decide (e ∈ p) :=
  List.filter_congr fun e he => decide_eq_decide.mpr ⟨fun q => by
    obtain ⟨f, hf, e1⟩ := List.mem_map.mp q
    rwa [← nd_inj nd (h f hf) he e1], fun q => List.mem_map_of_mem q⟩
theorem ln_named {es p : List Eg} (nd : (es.map (·.1)).Nodup) (np : p.Nodup) (h : ∀ e ∈ p, e ∈ es) : ln (es.filter fun e => decide (e.1 ∈ p.map (·.1))) = ln p := by
  rw [named nd h]
  exact ln_permP (filter_list (nd_es nd) np h)
theorem names_nodup {es c : List Eg} (nd : (es.map (·.1)).Nodup) (cn : c.Nodup) (h : ∀ e ∈ c, e ∈ es) : (c.map (·.1)).Nodup :=
  List.nodup_iff_pairwise_ne.mpr (List.pairwise_map.mpr ((List.nodup_iff_pairwise_ne.mp cn).imp_of_mem fun {a b} ha hb n q => n (nd_inj nd (h a ha) (h b hb) q)))
theorem map_self {α : Type} {f : α → α} : ∀ {l : List α}, l.map f = l → ∀ x ∈ l, f x = x
  | [], _, x, h => absurd h (by simp)
  | a :: l, h, x, hx => by
    rw [List.map_cons] at h
    obtain ⟨h1, h2⟩ := List.cons.inj h
    rcases List.mem_cons.mp hx with rfl | hx
    · exact h1
    · exact map_self h2 x hx
/-- the same ends -/
def Same (φ : Eg → Eg) : Prop := ∀ e x, tch (φ e) x = tch e x ∧ (tch e x = true → oth (φ e) x = oth e x)
theorem Way.map {φ : Eg → Eg} (s : Same φ) {es : List Eg} {u x : Str} {p : List Eg} {ns : List Str} (w : Way es u p ns x) : Way (es.map φ) u (p.map φ) ns x := by
  induction w with
  | nil => exact .nil
  | @snoc p ns x e w he ht hn ih =>
    have k := Way.snoc ih (List.mem_map_of_mem he) (by rw [(s e x).1]; exact ht) (by rw [(s e x).2 ht]; exact hn)
    rw [(s e x).2 ht] at k
    rw [List.map_append]
    exact k
theorem Way.unmap {φ : Eg → Eg} (s : Same φ) {es fs : List Eg} (sub : ∀ f ∈ fs, f ∈ es.map φ) {u x : Str} {p : List Eg} {ns : List Str} (w : Way fs u p ns x) : ∃ q, p = q.map φ ∧ Way es u q ns x := by
  induction w with
  | nil => exact ⟨[], rfl, .nil⟩
  | @snoc p ns x e w he ht hn ih =>
    obtain ⟨q, rfl, k⟩ := ih
    obtain ⟨g, hg, rfl⟩ := List.mem_map.mp (sub _ he)
    have t : tch g x = true := by rw [← (s g x).1]; exact ht
    have o := (s g x).2 t
    rw [o] at hn
    rw [o]
    exact ⟨q ++ [g], by rw [List.map_append]; rfl, .snoc k hg t hn⟩
theorem same_norm : Same norm := fun e x => by
  obtain ⟨n, u, v, l⟩ := e
  unfold tch oth
  show (decide (minS u v = x) || decide (maxS u v = x)) = (decide (u = x) || decide (v = x)) ∧ ((decide (u = x) || decide (v = x)) = true → (if minS u v = x then maxS u v else minS u v) = if u = x then v else u)
  rcases min_max u v with ⟨a, b⟩ | ⟨a, b⟩ <;> rw [a, b]
  · exact ⟨rfl, fun _ => rfl⟩
  · refine ⟨Bool.or_comm _ _, fun h => ?_⟩
    by_cases q1 : u = x <;> by_cases q2 : v = x
    · rw [if_pos q1, if_pos q2, q1, q2]
    · rw [if_pos q1, if_neg q2]
    · rw [if_neg q1, if_pos q2]
    · simp [q1, q2] at h
/-- how far v is from u, by all paths -/
def Far (es : List Eg) (u v : Str) (r : Option Int) : Prop := (∀ p ns, Way es u p ns v → ∃ m, r = some m ∧ m ≤ ln p) ∧ ∀ m, r = some m → ∃ p ns, Way es u p ns v ∧ ln p = m
theorem Far.uniq {es : List Eg} {u v : Str} {r s : Option Int} (h : Far es u v r) (k : Far es u v s) : r = s := by
  cases r with
  | none =>
    cases s with
    | none => rfl
    | some m =>
      obtain ⟨p, ns, w, _⟩ := k.2 m rfl
      obtain ⟨_, e, _⟩ := h.1 p ns w
      exact nomatch e
  | some m =>
    obtain ⟨p, ns, w, l⟩ := h.2 m rfl
    obtain ⟨m', rfl, l'⟩ := k.1 p ns w
    obtain ⟨q, ms, w2, l2⟩ := k.2 m' rfl
    obtain ⟨m2, e, l3⟩ := h.1 q ms w2
    cases e
    exact congrArg some (by omega)
open Classical in
/-- how far, as a function -/
noncomputable def farV (es : List Eg) (u v : Str) : Option Int := if h : ∃ r, Far es u v r then h.choose else none
theorem Far.eq {es : List Eg} {u v : Str} {r : Option Int} (h : Far es u v r) : r = farV es u v := by
  have k : ∃ r, Far es u v r := ⟨r, h⟩
  unfold farV
  rw [dif_pos k]
  exact h.uniq k.choose_spec
theorem farV_some {es : List Eg} {u v : Str} {m : Int} (h : farV es u v = some m) : Far es u v (some m) := by
  by_cases k : ∃ r, Far es u v r
  · obtain ⟨r, hr⟩ := k
    have := hr.eq
    rw [h] at this
    rw [← this]
    exact hr
  · unfold farV at h
    rw [dif_neg k] at h
    exact nomatch h
theorem pairs_far {es : List Eg} {u : Str} {ns : List Str} {rs : List (Str × Option Int)} (h : rs.map (·.1) = ns) (k : ∀ q ∈ rs, q.2 = farV es u q.1) : rs = ns.map fun v => (v, farV es u v) := by
  rw [← h, List.map_map]
  conv => lhs; rw [← List.map_id rs]
  exact List.map_congr_left fun q hq => Prod.ext rfl (k q hq)
theorem Way.first {es : List Eg} {u x : Str} {p : List Eg} {ns : List Str} (w : Way es u p ns x) : u ∈ ns := by
  induction w with
  | nil => simp
  | snoc w he ht hn ih => exact List.mem_append_left _ ih
theorem Way.home {es : List Eg} {u : Str} {p : List Eg} {ns : List Str} (w : Way es u p ns u) : p = [] := by
  rcases w.inv with ⟨h, _⟩ | ⟨q, ms, x, e, _, _, h, w', _, _, hn⟩
  · exact h
  · rw [← h] at hn
    exact absurd w'.first hn
theorem JL.far {es : List Eg} (nd : es.Nodup) (p2 : Prop2 es) (calm : Calm es) {u v : Str} {r : Option Int} (j : JL es (ends2 u v) r) : Far es u v r := by
  by_cases e : u = v
  · subst e
    have z : ends2 u u = [] := by unfold ends2; rw [if_pos rfl]
    rw [z] at j
    rw [calm.zero j]
    refine ⟨fun p ns w => ⟨0, rfl, ?_⟩, fun m h => ?_⟩
    · rw [w.home]
      exact Int.le_refl _
    · cases h
      exact ⟨[], _, .nil, rfl⟩
  · have z : ends2 u v = [u, v] := by unfold ends2; rw [if_neg e]
    rw [z] at j
    exact path_least nd p2 calm e j
theorem Far.of_norm {es : List Eg} {u v : Str} {r : Option Int} (h : Far (srtE (es.map norm)) u v r) : Far es u v r := by
  have sub : ∀ f ∈ srtE (es.map norm), f ∈ es.map norm := fun f hf => (srtE_perm _).mem_iff.mp hf
  refine ⟨fun p ns w => ?_, fun m e => ?_⟩
  · obtain ⟨m, e, l⟩ := h.1 _ ns ((w.map same_norm).mono fun e he => (srtE_perm _).mem_iff.mpr he)
    rw [ln_normP] at l
    exact ⟨m, e, l⟩
  · obtain ⟨p, ns, w, l⟩ := h.2 m e
    obtain ⟨q, rfl, k⟩ := w.unmap same_norm sub
    rw [ln_normP] at l
    exact ⟨q, ns, k, l⟩
theorem calm_iff {es : List Eg} {r : Option Int} (j : JL es [] r) : r = some 0 ↔ Calm es := by
  refine ⟨fun h => ?_, fun h => h.zero j⟩
  subst h
  obtain ⟨_, l⟩ := j
  intro A ev
  refine l A fun z => ?_
  unfold isOdd
  have := ev z
  simp
  omega
theorem Calm.canon {es : List Eg} (h : Calm es) : Calm (srtE (es.map norm)) := fun A ev => by
  have p := (srtE_perm (es.map norm)).filter A
  rw [ln_permP p, List.filter_map, ln_normP]
  refine h _ fun z => ?_
  have := ev z
  rw [cnt_perm p, List.filter_map, cnt_norm] at this
  exact this
/-! ### lengths by the edges' names -/
def relen (L : Str → Int) (e : Eg) : Eg := (e.1, e.2.1, e.2.2.1, L e.1)
theorem same_relen (L : Str → Int) : Same (relen L) := fun _ _ => ⟨rfl, fun _ => rfl⟩
theorem relen_names (L : Str → Int) (es : List Eg) : (es.map (relen L)).map (·.1) = es.map (·.1) := by
  rw [List.map_map]
  rfl
/-- c is a cycle, told by its first edge -/
def IsCyc (es : List Eg) (c : List Eg) : Prop := ∃ a e rest p ns, es = a ++ e :: rest ∧ Way rest e.2.1 p ns e.2.2.1 ∧ c = e :: p
theorem IsCyc.mem {es c : List Eg} (h : IsCyc es c) : ∀ e ∈ c, e ∈ es := by
  obtain ⟨a, e, rest, p, ns, rfl, w, rfl⟩ := h
  intro f hf
  rcases List.mem_cons.mp hf with rfl | hf
  · simp
  · have := w.mem f hf
    simp [this]
theorem IsCyc.nodup {es c : List Eg} (nd : es.Nodup) (h : IsCyc es c) : c.Nodup := by
  obtain ⟨a, e, rest, p, ns, rfl, w, rfl⟩ := h
  have n := (List.nodup_cons.mp (List.nodup_append.mp nd).2.1).1
  exact List.nodup_cons.mpr ⟨fun q => n (w.mem e q), w.edges⟩
/-- .. told by one of the first i edges -/
def CycTo (es : List Eg) (i : Nat) (c : List Eg) : Prop := ∃ a e rest p ns, es = a ++ e :: rest ∧ a.length < i ∧ Way rest e.2.1 p ns e.2.2.1 ∧ c = e :: p
theorem CycTo.zero {es c : List Eg} (h : CycTo es 0 c) : False := by
  obtain ⟨a, e, rest, p, ns, _, l, _⟩ := h
  omega
theorem CycTo.all {es c : List Eg} : CycTo es (es.length : Int).toNat c ↔ IsCyc es c := by
  rw [Int.toNat_natCast]
  constructor
  · rintro ⟨a, e, rest, p, ns, h, _, w, r⟩
    exact ⟨a, e, rest, p, ns, h, w, r⟩
  · rintro ⟨a, e, rest, p, ns, h, w, r⟩
    exact ⟨a, e, rest, p, ns, h, by rw [h]; simp, w, r⟩
theorem CycTo.succ {es c : List Eg} {a : List Eg} {e : Eg} {rest : List Eg} (h : es = a ++ e :: rest) : CycTo es (a.length + 1) c ↔ CycTo es a.length c ∨ ∃ p ns, Way rest e.2.1 p ns e.2.2.1 ∧ c = e :: p := by
  constructor
  · rintro ⟨b, f, r2, p, ns, h2, l, w, r⟩
    by_cases q : b.length < a.length
    · exact .inl ⟨b, f, r2, p, ns, h2, q, w, r⟩
    · have ll : a.length = b.length := by omega
      rw [h] at h2
      obtain ⟨h3, h4⟩ := List.append_inj h2 ll
      obtain ⟨rfl, rfl⟩ := List.cons.inj h4
      exact .inr ⟨p, ns, w, r⟩
  · rintro (⟨b, f, r2, p, ns, h2, l, w, r⟩ | ⟨p, ns, w, r⟩)
    · exact ⟨b, f, r2, p, ns, h2, by omega, w, r⟩
    · exact ⟨a, e, rest, p, ns, h, by omega, w, r⟩
theorem cyc_of {es : List Eg} {L : Str → Int} (h : ∀ c, IsCyc es c → 0 ≤ ln (c.map (relen L))) : Cyc (es.map (relen L)) := by
  suffices ∀ (b a : List Eg), es = a ++ b → Cyc (b.map (relen L)) from this es [] rfl
  intro b
  induction b with
  | nil => exact fun _ _ => trivial
  | cons e b ih =>
    intro a q
    refine ⟨fun p ns w => ?_, ih (a ++ [e]) (by rw [q]; simp)⟩
    obtain ⟨q', rfl, w'⟩ := w.unmap (same_relen L) (es := b) fun _ h => h
    have := h (e :: q') ⟨a, e, b, q', ns, q, w', rfl⟩
    rw [List.map_cons, ln_cons] at this
    exact this
theorem ln_pos : ∀ {es : List Eg}, (∀ e ∈ es, 0 ≤ e.2.2.2) → 0 ≤ ln es
  | [], _ => Int.le_refl _
  | e :: es, h => by
    rw [ln_cons]
    have := ln_pos (es := es) fun f hf => h f (List.mem_cons_of_mem _ hf)
    have := h e List.mem_cons_self
    omega
def negL (L : Str → Int) (es : List Eg) : Nat := (es.filter fun e => decide (L e.1 < 0)).length
def absAt (L : Str → Int) (m : Str) : Str → Int := fun x => if x = m then (if L x < 0 then -(L x) else L x) else L x
theorem filt_lt {α : Type} {f g : α → Bool} : ∀ {l : List α} {a : α}, (∀ x ∈ l, g x = true → f x = true) → a ∈ l → f a = true → g a = false → (l.filter g).length < (l.filter f).length
  | x :: l, a, h, ha, fa, ga => by
    have le : (l.filter g).length ≤ (l.filter f).length := by
      clear ha fa ga a
      induction l with
      | nil => exact Nat.le_refl _
      | cons y l ih =>
        have i := ih fun z hz => by
          rcases List.mem_cons.mp hz with rfl | hz
          · exact h _ List.mem_cons_self
          · exact h _ (List.mem_cons_of_mem _ (List.mem_cons_of_mem _ hz))
        have y1 := h y (by simp)
        rw [List.filter_cons, List.filter_cons]
        cases gy : g y with
        | true =>
          rw [y1 gy]
          simpa using i
        | false =>
          cases f y <;> simp <;> omega
    rw [List.filter_cons, List.filter_cons]
    rcases List.mem_cons.mp ha with rfl | ha
    · rw [fa, ga]
      simp
      omega
    · have i := filt_lt (l := l) (fun z hz => h z (List.mem_cons_of_mem _ hz)) ha fa ga
      have x1 := h x List.mem_cons_self
      cases gx : g x with
      | true =>
        rw [x1 gx]
        simp
        exact i
      | false =>
        cases f x <;> simp <;> omega
theorem negL_less {L : Str → Int} {es : List Eg} {e : Eg} (he : e ∈ es) (hl : L e.1 < 0) : negL (absAt L e.1) es < negL L es := by
  refine filt_lt (a := e) (fun x _ h => ?_) he (decide_eq_true hl) ?_
  · have h := of_decide_eq_true h
    unfold absAt at h
    refine decide_eq_true ?_
    split at h
    · split at h <;> omega
    · exact h
  · refine decide_eq_false ?_
    unfold absAt
    rw [if_pos rfl, if_pos hl]
    omega
/-- how it stands after i turns: no cycle is below zero, or so few lengths are -/
def Sunk (es : List Eg) (L : Str → Int) (i : Nat) : Prop := (∀ c, IsCyc es c → 0 ≤ ln (c.map (relen L))) ∨ negL L es + i ≤ es.length
theorem Sunk.start (es : List Eg) (L : Str → Int) : Sunk es L 0 := .inr (List.length_filter_le _ _)
theorem Sunk.stay {es : List Eg} {L : Str → Int} {i : Nat} (h : ∀ c, IsCyc es c → 0 ≤ ln (c.map (relen L))) : Sunk es L (i + 1) := .inl h
theorem Sunk.sink {es : List Eg} {L : Str → Int} {i : Nat} (s : Sunk es L i) {c : List Eg} (hc : IsCyc es c) (bad : ln (c.map (relen L)) < 0) {e : Eg} (he : e ∈ es) (hl : L e.1 < 0) : Sunk es (absAt L e.1) (i + 1) := by
  rcases s with s | s
  · have := s c hc
    omega
  · have := negL_less he hl
    exact .inr (by omega)
theorem Sunk.done {es : List Eg} {L : Str → Int} (s : Sunk es L es.length) : ∀ c, IsCyc es c → 0 ≤ ln (c.map (relen L)) := by
  rcases s with s | s
  · exact s
  · intro c hc
    refine ln_pos fun f hf => ?_
    obtain ⟨e, he, rfl⟩ := List.mem_map.mp hf
    show 0 ≤ L e.1
    have z : es.filter (fun e => decide (L e.1 < 0)) = [] := List.length_eq_zero_iff.mp (by unfold negL at s; omega)
    have := List.filter_eq_nil_iff.mp z e (hc.mem e he)
    simp at this
    exact this
theorem relen_abs (L : Str → Int) (m : Str) (es : List Eg) : (es.map (relen L)).map (fun e => (e.1, e.2.1, e.2.2.1, if e.1 = m then (if e.2.2.2 < 0 then -e.2.2.2 else e.2.2.2) else e.2.2.2)) = es.map (relen (absAt L m)) := by
  rw [List.map_map]
  exact List.map_congr_left fun e _ => rfl
theorem relen_self (es : List Eg) (nd : (es.map (·.1)).Nodup) : ∃ L : Str → Int, es.map (relen L) = es := by
  refine ⟨fun x => ((es.find? fun e => decide (e.1 = x)).map (·.2.2.2)).getD 0, ?_⟩
  have : ∀ e ∈ es, es.find? (fun f => decide (f.1 = e.1)) = some e := fun e he => by
    cases h : es.find? (fun f => decide (f.1 = e.1)) with
    | none =>
      have := List.find?_eq_none.mp h e he
      simp at this
    | some f =>
      have h1 := List.mem_of_find?_eq_some h
      have h2 : f.1 = e.1 := by
        have := List.find?_some (p := fun f : Eg => decide (f.1 = e.1)) h
        exact of_decide_eq_true this
      rw [nd_inj nd h1 he h2]
  conv => rhs; rw [← List.map_id es]
  refine List.map_congr_left fun e he => ?_
  show (e.1, e.2.1, e.2.2.1, ((es.find? fun f => decide (f.1 = e.1)).map (·.2.2.2)).getD 0) = e
  rw [this e he]
  rfl
/-- a bad cycle has an edge below zero -/
theorem bad_edge {c : List Eg} (h : ln c < 0) : ∃ e ∈ c, e.2.2.2 < 0 := by
  apply Classical.byContradiction
  intro no
  have := ln_pos (es := c) fun e he => by
    apply Classical.byContradiction
    intro q
    exact no ⟨e, he, by omega⟩
  omega
end Lj

set_option maxHeartbeats 1000000
/-! comprehensions over rows of known things; greater sizes -/
namespace Lj
open PySem PySem.Spec PyProof.Rows L2 Lw
open Evl (EvL EvA EvT EvU RC)
variable {K : PySem.W.Frag}
theorem yes_t {σ : L2.St} {H : Hp} : Evl.EvT tYes σ H true := fun H1 _ _ q => q H1 (Evl.Ex.refl _)
theorem room7 : room 7 9 < 300000 := by decide
theorem szZ {n : Nat} (h : n < 3000000) : n < sizeLine := Nat.lt_of_lt_of_le h (by decide)
theorem szz {n : Nat} (h : n ≤ 3000000) : n ≤ sizeLine := Nat.le_trans h (by decide)
theorem s_appZ {D : Ends} {σ : L2.St} {H : Hp} {ta te : TE} {v : V} {l : Addr} {xs : List V} (hl : H l = some (.lst xs)) (ha : Evl.Ev ta σ H (.ref l)) (h : Evl.Ev te σ H v) (hz : xs.length < 3000000) (k : ∀ H1, Evl.Ex H H1 → D.nx σ (upd H1 l (.lst (xs ++ [v])))) :
    tDrop (tBM K "list" rAppend ta (tCons te tNil)) D σ H := ha H (Evl.Ex.refl H) _ fun H1 e1 =>
  ⟨Or.inl ⟨rfl, xs, Evl.sq_of (e1 l _ hl)⟩, h H1 e1 _ fun H2 e2 => ⟨l, xs, v, rfl, rfl, e2 l _ (e1 l _ hl), szZ hz, k H2 (e1.trans e2)⟩⟩
theorem given_of {α : Type} (f : α → Bool) (g : α → V) (d : α) (E : List α) : Evl.given E.length (fun i => f (E.getD i d)) (fun i => g (E.getD i d)) = (E.filter f).map g := by
  have h : E = (List.range E.length).map fun i => E.getD i d := by
    refine List.ext_getElem (by simp) fun i h1 h2 => ?_
    simp [List.getD, h1]
  unfold Evl.given
  have k : (((List.range E.length).map fun i => E.getD i d).filter f).map g = ((List.range E.length).filter (fun i => f (E.getD i d))).map (fun i => g (E.getD i d)) := by
    rw [List.filter_map, List.map_map]
    rfl
  rw [← k, ← h]
/-- what the list under way holds after i turns -/
def CwZ (H0 : Hp) (f : Nat → Bool) (v : Nat → V) (B : Addr) (i : Nat) (H' : Hp) : Prop := Evl.Ex H0 H' ∧ H0 B = none ∧ H' B = some (.lst (Evl.given i f v))
theorem cwZ_turn {H0 H' : Hp} {f : Nat → Bool} {v : Nat → V} {B : Addr} {i : Nat} {σ : L2.St} {t : TT} {te : TE} (p : CwZ H0 f v B i H') (hi : i < 2900000) (ht : Evl.EvT t σ H0 (f i)) (he : f i = true → Evl.Ev te σ H0 (v i)) :
    t σ H' fun b H3 => if b = true then te σ H3 (fun y H4 => ∃ got, H4 B = some (.lst got) ∧ got.length < sizeLine ∧ CwZ H0 f v B (i + 1) (upd H4 B (.lst (got ++ [y])))) else CwZ H0 f v B (i + 1) H3 := by
  obtain ⟨x, fr, at_⟩ := p
  refine ht H' x _ fun H3 x3 => ?_
  by_cases hf : f i = true
  · rw [if_pos hf]
    refine he hf H3 (x.trans x3) _ fun H4 x4 => ⟨_, x4 _ _ (x3 _ _ at_), szZ ?_, ((x.trans x3).trans x4).mut fr, fr, ?_⟩
    · have := Evl.given_len i f v
      omega
    · rw [upd_same, Evl.given_yes hf]
  · rw [if_neg hf]
    refine ⟨x.trans x3, fr, ?_⟩
    rw [Evl.given_no (Bool.eq_false_iff.mpr hf)]
    exact x3 _ _ at_
/-- [e for x in l if t], l a list of things each of which something is known of -/
theorem el_prd {α : Type} {R : Hp → Addr → α → Prop} (mono : ∀ {H H' : Hp} {a : Addr} {g : α}, Evl.Ex H H' → R H a g → R H' a g) (d : α) {σ : L2.St} {H : Hp} {tl te : TE} {t : TT} {j : Nat} {vs : List Nat} {l : Addr} {as : List Addr} {es : List α} (F : α → Bool) (G : α → V) (h : Evl.Ev tl σ H (.ref l)) (hl : SqL K H l (as.map V.ref)) (he : Paired (R H) as es) (hz : es.length ≤ 2900000) (hw : ∀ x, wipe ((wipe σ vs).set j (some x)) vs = wipe σ vs)
    (ht : ∀ (g : α) (a : Addr) H1, Evl.Ex H H1 → g ∈ es → R H1 a g → Evl.EvT t ((wipe σ vs).set j (some (.ref a))) H1 (F g)) (hv : ∀ (g : α) (a : Addr) H1, Evl.Ex H H1 → g ∈ es → R H1 a g → F g = true → Evl.Ev te ((wipe σ vs).set j (some (.ref a))) H1 (G g)) : Evl.EvL (tLc (iList K tl) (gName j) t te vs) σ H ((es.filter F).map G) := by
  have lae := paired_len he
  have cut : ∀ (i : Nat) (x : V) H1, Evl.Ex H H1 → (as.map V.ref)[i]? = some x → ∃ a, x = .ref a ∧ R H1 a (es.getD i d) ∧ es.getD i d ∈ es ∧ i < es.length := fun i x H1 e1 hx => by
    rw [List.getElem?_map] at hx
    obtain ⟨a, ha, rfl⟩ := Option.map_eq_some_iff.mp hx
    obtain ⟨g, hg, r⟩ := paired_at he ha
    have : es.getD i d = g := by simp [List.getD, hg]
    rw [this]
    exact ⟨a, rfl, mono e1 r, List.mem_of_getElem? hg, (List.getElem?_eq_some_iff.mp hg).1⟩
  intro H0 e Q q
  refine h H0 e _ fun H1 e1 => ⟨l, rfl, ⟨_, Evl.ex_l (e.trans e1) hl⟩, fun B hB => ?_⟩
  refine lc_list (xs := as.map V.ref) (CwZ H1 (fun i => F (es.getD i d)) (fun i => G (es.getD i d)) B) ⟨Evl.Ex.new hB, hB, upd_same⟩ (fun i H' _ p => Evl.ex_l ((e.trans e1).trans p.1) hl) (fun i x H' hx p => ⟨hw x, ?_⟩) (fun H' p => ?_)
  · obtain ⟨a, rfl, r, m, li⟩ := cut i x H1 (e.trans e1) hx
    exact cwZ_turn p (by omega) (ht _ a H1 (e.trans e1) m r) fun hf => hv _ a H1 (e.trans e1) m r hf
  · obtain ⟨x, fr, at_⟩ := p
    rw [List.length_map, lae, given_of] at at_
    exact q B H' (Evl.fresh_back e1 hB) (e1.trans x) at_
/-- .. of edges -/
theorem el_egs {σ : L2.St} {H : Hp} {tl te : TE} {t : TT} {j : Nat} {vs : List Nat} {l : Addr} {as : List Addr} {es : List Eg} (F : Eg → Bool) (G : Eg → V) (h : Evl.Ev tl σ H (.ref l)) (hl : SqL K H l (as.map V.ref)) (he : EgsAt H as es) (hz : es.length ≤ 2900000) (hw : ∀ x, wipe ((wipe σ vs).set j (some x)) vs = wipe σ vs)
    (ht : ∀ (g : Eg) (a : Addr) H1, Evl.Ex H H1 → g ∈ es → H1 a = some (.tup (egV g)) → Evl.EvT t ((wipe σ vs).set j (some (.ref a))) H1 (F g)) (hv : ∀ (g : Eg) (a : Addr) H1, Evl.Ex H H1 → g ∈ es → H1 a = some (.tup (egV g)) → F g = true → Evl.Ev te ((wipe σ vs).set j (some (.ref a))) H1 (G g)) : Evl.EvL (tLc (iList K tl) (gName j) t te vs) σ H ((es.filter F).map G) :=
  el_prd (α := Eg) (R := fun (H : Hp) (a : Addr) (e : Eg) => H a = some (.tup (egV e))) (fun e r => e _ _ r) ("", "", "", 0) F G h hl he hz hw ht hv
/-- .. of tuples of texts -/
theorem el_tups {σ : L2.St} {H : Hp} {tl te : TE} {t : TT} {j : Nat} {vs : List Nat} {l : Addr} {as : List Addr} {Ts : List (List Str)} (F : List Str → Bool) (G : List Str → V) (h : Evl.Ev tl σ H (.ref l)) (hl : SqL K H l (as.map V.ref)) (he : TupsAt H as Ts) (hz : Ts.length ≤ 2900000) (hw : ∀ x, wipe ((wipe σ vs).set j (some x)) vs = wipe σ vs)
    (ht : ∀ (g : List Str) (a : Addr) H1, Evl.Ex H H1 → g ∈ Ts → H1 a = some (.tup (g.map V.str)) → Evl.EvT t ((wipe σ vs).set j (some (.ref a))) H1 (F g)) (hv : ∀ (g : List Str) (a : Addr) H1, Evl.Ex H H1 → g ∈ Ts → H1 a = some (.tup (g.map V.str)) → F g = true → Evl.Ev te ((wipe σ vs).set j (some (.ref a))) H1 (G g)) : Evl.EvL (tLc (iList K tl) (gName j) t te vs) σ H ((Ts.filter F).map G) :=
  el_prd (α := List Str) (R := fun (H : Hp) (a : Addr) (T : List Str) => H a = some (.tup (T.map V.str))) (fun e r => e _ _ r) [] F G h hl he hz hw ht hv
/-- [e for x in l], each e a new tuple, l anything that comes -/
theorem lc_mkV {α : Type} {R : Hp → Addr → α → Prop} (mono : ∀ {H H' : Hp} {a : Addr} {g : α}, Evl.Ex H H' → R H a g → R H' a g) (f : α → List V) {σ : L2.St} {H : Hp} {tl te : TE} {j : Nat} {vs : List Nat} {Q : VK} (S : Addr → List Addr → List α → Hp → Prop) (h : ∀ Q1 : VK, (∀ l as es H1, S l as es H1 → Q1 (.ref l) H1) → tl σ H Q1)
    (hS : ∀ l as es H1, S l as es H1 → SqL K H1 l (as.map V.ref) ∧ Paired (R H1) as es ∧ es.length ≤ 2900000) (hw : ∀ x, wipe ((wipe σ vs).set j (some x)) vs = wipe σ vs)
    (hv : ∀ l as es H1, S l as es H1 → ∀ (g : α) (a : Addr) H2, Evl.Ex H1 H2 → g ∈ es → R H2 a g → Evl.EvU te ((wipe σ vs).set j (some (.ref a))) H2 (f g))
    (q : ∀ l as es H1, S l as es H1 → ∀ B ts H', H1 B = none → Evl.Ex H1 H' → H' B = some (.lst (ts.map V.ref)) → Paired (fun t g => H' t = some (.tup (f g))) ts es → Q (.ref B) H') : tLc (iList K tl) (gName j) tYes te vs σ H Q := by
  refine h _ fun l as es H1 hs => ?_
  obtain ⟨hl, he, lz⟩ := hS _ _ _ _ hs
  have lae := paired_len he
  refine ⟨l, rfl, ⟨_, hl⟩, fun B hB => ?_⟩
  refine lc_list (xs := as.map V.ref) (fun i H' => Evl.Ex H1 H' ∧ ∃ ts : List Addr, H' B = some (.lst (ts.map V.ref)) ∧ Paired (fun t g => H' t = some (.tup (f g))) ts (es.take i) ∧ ts.length ≤ i) ⟨Evl.Ex.new hB, [], upd_same, .nil, Nat.le_refl _⟩ (fun i H' _ p => Evl.ex_l p.1 hl) (fun i x H' hx p => ⟨hw x, ?_⟩) (fun H' p => ?_)
  · obtain ⟨e, ts, hD, hp, lt⟩ := p
    rw [List.getElem?_map] at hx
    obtain ⟨a, ha, rfl⟩ := Option.map_eq_some_iff.mp hx
    obtain ⟨g, hg, r⟩ := paired_at he ha
    have li : i < es.length := (List.getElem?_eq_some_iff.mp hg).1
    refine yes_t H' (Evl.Ex.refl _) _ fun H2 e2 => ?_
    refine ite2 (fun _ => ?_) (fun z => absurd rfl z)
    refine hv _ _ _ _ hs g a H' e (List.mem_of_getElem? hg) (mono e r) H2 e2 _ fun t H3 nt e3 ht => ⟨_, e3 _ _ (e2 _ _ hD), by rw [List.length_map]; exact szZ (by omega), ((e.trans e2).trans e3).mut hB, ts ++ [t], by rw [upd_same, List.map_append]; rfl, ?_, by rw [List.length_append]; exact Nat.succ_le_succ lt⟩
    have k : TK H3 (upd H3 B (.lst (ts.map V.ref ++ [.ref t]))) := TK.put (.inr ⟨_, e3 _ _ (e2 _ _ hD)⟩)
    rw [List.take_add_one, hg]
    exact paired_snoc (paired_imp (fun t' g' z => k _ _ (e3 _ _ (e2 _ _ z))) hp) (k _ _ ht)
  · obtain ⟨e, ts, hD, hp, _⟩ := p
    rw [List.length_map, lae, List.take_length] at hp
    exact q _ _ _ _ hs B ts H' hB e hD hp
/-- .. over texts -/
theorem lc_mkT (f : Str → List V) {σ : L2.St} {H : Hp} {tl te : TE} {j : Nat} {vs : List Nat} {Q : VK} (S : Addr → List Str → Hp → Prop) (h : ∀ Q1 : VK, (∀ l zs H1, S l zs H1 → Q1 (.ref l) H1) → tl σ H Q1)
    (hS : ∀ l zs H1, S l zs H1 → SqL K H1 l (zs.map V.str) ∧ zs.length ≤ 2900000) (hw : ∀ x, wipe ((wipe σ vs).set j (some x)) vs = wipe σ vs)
    (hv : ∀ l zs H1, S l zs H1 → ∀ (z : Str) H2, Evl.Ex H1 H2 → z ∈ zs → Evl.EvU te ((wipe σ vs).set j (some (.str z))) H2 (f z))
    (q : ∀ l zs H1, S l zs H1 → ∀ B ts H', H1 B = none → Evl.Ex H1 H' → H' B = some (.lst (ts.map V.ref)) → Paired (fun t z => H' t = some (.tup (f z))) ts zs → Q (.ref B) H') : tLc (iList K tl) (gName j) tYes te vs σ H Q := by
  refine h _ fun l zs H1 hs => ?_
  obtain ⟨hl, lz⟩ := hS _ _ _ hs
  refine ⟨l, rfl, ⟨_, hl⟩, fun B hB => ?_⟩
  refine lc_list (xs := zs.map V.str) (fun i H' => Evl.Ex H1 H' ∧ ∃ ts : List Addr, H' B = some (.lst (ts.map V.ref)) ∧ Paired (fun t z => H' t = some (.tup (f z))) ts (zs.take i) ∧ ts.length ≤ i) ⟨Evl.Ex.new hB, [], upd_same, .nil, Nat.le_refl _⟩ (fun i H' _ p => Evl.ex_l p.1 hl) (fun i x H' hx p => ⟨hw x, ?_⟩) (fun H' p => ?_)
  · obtain ⟨e, ts, hD, hp, lt⟩ := p
    rw [List.getElem?_map] at hx
    obtain ⟨z, hg, rfl⟩ := Option.map_eq_some_iff.mp hx
    have li : i < zs.length := (List.getElem?_eq_some_iff.mp hg).1
    refine yes_t H' (Evl.Ex.refl _) _ fun H2 e2 => ?_
    refine ite2 (fun _ => ?_) (fun z => absurd rfl z)
    refine hv _ _ _ hs z H' e (List.mem_of_getElem? hg) H2 e2 _ fun t H3 nt e3 ht => ⟨_, e3 _ _ (e2 _ _ hD), by rw [List.length_map]; exact szZ (by omega), ((e.trans e2).trans e3).mut hB, ts ++ [t], by rw [upd_same, List.map_append]; rfl, ?_, by rw [List.length_append]; exact Nat.succ_le_succ lt⟩
    have k : TK H3 (upd H3 B (.lst (ts.map V.ref ++ [.ref t]))) := TK.put (.inr ⟨_, e3 _ _ (e2 _ _ hD)⟩)
    rw [List.take_add_one, hg]
    exact paired_snoc (paired_imp (fun t' g' z => k _ _ (e3 _ _ (e2 _ _ z))) hp) (k _ _ ht)
  · obtain ⟨e, ts, hD, hp, _⟩ := p
    rw [List.length_map, List.take_length] at hp
    exact q _ _ _ hs B ts H' hB e hD hp
/-- .. l a list that stands -/
theorem lc_mk {α : Type} {R : Hp → Addr → α → Prop} (mono : ∀ {H H' : Hp} {a : Addr} {g : α}, Evl.Ex H H' → R H a g → R H' a g) (f : α → List V) {σ : L2.St} {H : Hp} {tl te : TE} {j : Nat} {vs : List Nat} {l : Addr} {as : List Addr} {es : List α} {Q : VK} (h : Evl.Ev tl σ H (.ref l)) (hl : SqL K H l (as.map V.ref)) (he : Paired (R H) as es) (hz : es.length ≤ 2900000) (hw : ∀ x, wipe ((wipe σ vs).set j (some x)) vs = wipe σ vs)
    (hv : ∀ (g : α) (a : Addr) H2, Evl.Ex H H2 → g ∈ es → R H2 a g → Evl.EvU te ((wipe σ vs).set j (some (.ref a))) H2 (f g))
    (q : ∀ B ts H', H B = none → Evl.Ex H H' → H' B = some (.lst (ts.map V.ref)) → Paired (fun t g => H' t = some (.tup (f g))) ts es → Q (.ref B) H') : tLc (iList K tl) (gName j) tYes te vs σ H Q :=
  lc_mkV (R := R) mono f (fun l' as' es' H1 => l' = l ∧ as' = as ∧ es' = es ∧ Evl.Ex H H1) (fun Q1 k => h H (Evl.Ex.refl _) _ fun H1 e1 => k l as es H1 ⟨rfl, rfl, rfl, e1⟩) (fun l' as' es' H1 ⟨e2, e3, e4, e5⟩ => by subst e2 e3 e4; exact ⟨Evl.ex_l e5 hl, paired_imp (R := R H) (S := R H1) (fun _ _ z => mono e5 z) he, hz⟩) hw
    (fun l' as' es' H1 ⟨e2, e3, e4, e5⟩ g a H2 e6 hg r => by subst e2 e3 e4; exact hv g a H2 (e5.trans e6) hg r) (fun l' as' es' H1 ⟨e2, e3, e4, e5⟩ B ts H' nB e6 hB hp => by subst e2 e3 e4; exact q B ts H' (Evl.fresh_back e5 nB) (e5.trans e6) hB hp)
/-- [x for x in l if t]: the ones that are kept -/
theorem el_keep {α : Type} {R : Hp → Addr → α → Prop} (mono : ∀ {H H' : Hp} {a : Addr} {g : α}, Evl.Ex H H' → R H a g → R H' a g) (d : α) {σ : L2.St} {H : Hp} {tl : TE} {t : TT} {j : Nat} {vs : List Nat} {l : Addr} {as : List Addr} {es : List α} (F : α → Bool) (h : Evl.Ev tl σ H (.ref l)) (hl : SqL K H l (as.map V.ref)) (he : Paired (R H) as es) (hz : es.length ≤ 2900000) (hw : ∀ x, wipe ((wipe σ vs).set j (some x)) vs = wipe σ vs)
    (ht : ∀ (g : α) (a : Addr) H1, Evl.Ex H H1 → g ∈ es → R H1 a g → Evl.EvT t ((wipe σ vs).set j (some (.ref a))) H1 (F g)) (hj : ∀ x, ((wipe σ vs).set j (some x))[j]? = some (some x)) : ∃ as', Paired (R H) as' (es.filter F) ∧ Evl.EvL (tLc (iList K tl) (gName j) t (tVar j) vs) σ H (as'.map V.ref) := by
  have zip : ∀ {as : List Addr} {es : List α}, Paired (R H) as es → Paired (fun a (p : Addr × α) => p.1 = a ∧ R H a p.2) as (as.zip es) := fun {as es} k => by
    induction k with
    | nil => exact .nil
    | cons x t ih => exact .cons ⟨rfl, x⟩ ih
  have fst : ∀ {as : List Addr} {es : List α}, Paired (R H) as es → Paired (R H) (((as.zip es).filter fun p => F p.2).map (·.1)) (es.filter F) := fun {as es} k => by
    induction k with
    | nil => exact .nil
    | @cons a b as bs x t ih =>
      rw [List.zip_cons_cons, List.filter_cons, List.filter_cons]
      cases F b with
      | true => exact .cons x ih
      | false => exact ih
  have two : ∀ {as : List Addr} {es : List α}, Paired (R H) as es → ∀ p ∈ as.zip es, p.2 ∈ es := fun {as es} _ p hp => (List.of_mem_zip hp).2
  refine ⟨_, fst he, ?_⟩
  have := el_prd (K := K) (α := Addr × α) (R := fun H a p => p.1 = a ∧ R H a p.2) (fun e r => ⟨r.1, mono e r.2⟩) (0, d) (fun p => F p.2) (fun p => V.ref p.1) h hl (zip he) (by rw [List.length_zip]; exact Nat.le_trans (Nat.min_le_right _ _) hz) hw (fun p a H1 e1 hp r => ht p.2 a H1 e1 (two he p hp) r.2) (fun p a H1 e1 hp r _ => Evl.ev_is (Evl.ev_var (hj _)) (by rw [r.1]))
  rw [List.map_map]
  exact this
theorem eu_catU {te tf : TE} {σ : L2.St} {H : Hp} {xs ys : List V} (h1 : Evl.EvU te σ H xs) (h2 : Evl.EvU tf σ H ys) (hz : xs.length + ys.length ≤ 100000) : Evl.EvU (tOp (rCatA K) te tf) σ H (xs ++ ys) := fun H1 e1 Q q =>
  h1 H1 e1 _ fun a H2 na e2 ha => h2 H2 (e1.trans e2) _ fun b H3 nb e3 hb => ⟨a, b, xs, ys, rfl, rfl, Evl.st_of (e3 _ _ ha), Evl.st_of hb, Evl.sz_of hz, fun z => q b H3 (Evl.fresh_back e2 nb) (e2.trans e3) (by rw [z]; exact hb), fun _ z => q a H3 na (e2.trans e3) (by rw [z, List.append_nil]; exact e3 _ _ ha), fun _ _ p np => q p _ (Evl.fresh_back (e2.trans e3) np) ((e2.trans e3).trans (Evl.Ex.new np)) upd_same⟩
theorem eu_catR {te tf : TE} {σ : L2.St} {H : Hp} {b : Addr} {xs ys : List V} (h1 : Evl.EvU te σ H xs) (h2 : Evl.Ev tf σ H (.ref b)) (hb : H b = some (.tup ys)) (hx : xs ≠ []) (hz : xs.length + ys.length ≤ 100000) : Evl.EvU (tOp (rCatA K) te tf) σ H (xs ++ ys) := fun H1 e1 Q q =>
  h1 H1 e1 _ fun a H2 na e2 ha => h2 H2 (e1.trans e2) _ fun H3 e3 => ⟨a, b, xs, ys, rfl, rfl, Evl.st_of (e3 _ _ ha), Evl.st_of (e3 _ _ (e2 _ _ (e1 _ _ hb))), Evl.sz_of hz, fun z => absurd z hx, fun _ z => q a H3 na (e2.trans e3) (by rw [z, List.append_nil]; exact e3 _ _ ha), fun _ _ p np => q p _ (Evl.fresh_back (e2.trans e3) np) ((e2.trans e3).trans (Evl.Ex.new np)) upd_same⟩
/-- the first three of an edge -/
theorem eu_sl3 {te : TE} {σ : L2.St} {H : Hp} {a : Addr} {g : Eg} (h : Evl.Ev te σ H (.ref a)) (ha : H a = some (.tup (egV g))) : Evl.EvU (tSl (rSlA K) te tNoPart (tPart (tC (.int 3)))) σ H [.str g.1, .str g.2.1, .str g.2.2.1] := fun H1 e1 Q q =>
  h H1 e1 _ fun H2 e2 => ⟨3, rfl, a, egV g, rfl, Evl.st_of (e2 _ _ (e1 _ _ ha)), fun z => absurd z (by show ¬ (HT.sIx 4 0 none = 0 ∧ HT.sIx 4 4 (some 3) = 4); decide), fun _ p np => q p _ (Evl.fresh_back e2 np) (e2.trans (Evl.Ex.new np)) (by rw [upd_same]; rfl)⟩
/-- a call whose first argument is a new tuple -/
theorem ev_callU {sp : Sp} {E : XK} {tu : TE} {ta : TA} {σ : L2.St} {H : Hp} {xs vs : List V} {z : V} (h : Evl.EvU tu σ H xs) (h2 : Evl.EvA ta σ H vs) (hs : ∀ p H1, H1 p = some (.tup xs) → Evl.Ex H H1 → Evl.SpV sp (.ref p :: vs) H1 z) : Evl.Ev (tCall sp [] E (tCons tu ta)) σ H z := fun H1 e Q q =>
  h H1 e _ fun p H2 _ e2 hp => h2 H2 (e.trans e2) _ fun H3 e3 => by
    show sp (.ref p :: (vs ++ [])) H3 Q E
    rw [List.append_nil]
    exact hs p H3 (e3 _ _ hp) ((e.trans e2).trans e3) H3 (Evl.Ex.refl _) Q (fun H4 e4 => q H4 ((e2.trans e3).trans e4)) E
theorem g_sl {r : V → Option Int → Option Int → Hp → VK → Prop} {te : TE} {tl th : TO} {σ : L2.St} {H : Hp} {Q : VK} (h : te σ H fun x H1 => tl σ H1 fun l H2 => th σ H2 fun u H3 => r x l u H3 Q) : tSl r te tl th σ H Q := h
theorem g_call {sp : Sp} {dvs : List V} {E : XK} {ta : TA} {σ : L2.St} {H : Hp} {Q : VK} (h : ta σ H fun vs H1 => sp (vs ++ dvs) H1 Q E) : tCall sp dvs E ta σ H Q := h
theorem g_cb {r : List V → Hp → VK → Prop} {ta : TA} {σ : L2.St} {H : Hp} {Q : VK} (h : ta σ H fun vs H1 => r vs H1 Q) : tCB r ta σ H Q := h
theorem g_ea {ta : TA} {σ : L2.St} {H : Hp} {vs : List V} {Q : List V → Hp → Prop} (h : Evl.EvA ta σ H vs) (k : ∀ H1, Evl.Ex H H1 → Q vs H1) : ta σ H Q := h H (Evl.Ex.refl _) Q k
theorem g_ev {te : TE} {σ : L2.St} {H : Hp} {v : V} {Q : VK} (h : Evl.Ev te σ H v) (k : ∀ H1, Evl.Ex H H1 → Q v H1) : te σ H Q := h H (Evl.Ex.refl _) Q k
theorem g_el {te : TE} {σ : L2.St} {H : Hp} {xs : List V} {Q : VK} (h : Evl.EvL te σ H xs) (k : ∀ p H1, H p = none → Evl.Ex H H1 → H1 p = some (.lst xs) → Q (.ref p) H1) : te σ H Q := h H (Evl.Ex.refl _) Q k
/-- x = e, e anything that comes -/
theorem g_asgV {te : TE} {g : TG} {D : Ends} {tz : TS} {σ : L2.St} {H : Hp} (h : te σ H fun v H1 => g v σ H1 (tz D)) : tSeq (tAsg te g) tz D σ H := h
/-- a call of a built-in with a new list -/
theorem ev_cbL {r : List V → Hp → VK → Prop} {te : TE} {σ : L2.St} {H : Hp} {xs : List V} {z : V} (h : Evl.EvL te σ H xs) (hr : ∀ p H1, H1 p = some (.lst xs) → Evl.Ex H H1 → Evl.RC r [.ref p] H1 z) : Evl.Ev (tCB r (tCons te tNil)) σ H z := fun H1 e Q q =>
  h H1 e _ fun p H2 _ e2 hp => hr p H2 hp (e.trans e2) H2 (Evl.Ex.refl _) Q fun H3 e3 => q H3 (e2.trans e3)
theorem ev_sumL {te : TE} {σ : L2.St} {H : Hp} {ns : List Int} (h : Evl.EvL te σ H (ns.map V.int)) : Evl.Ev (tCB (rSum K) (tCons te tNil)) σ H (.int ns.sum) :=
  ev_cbL h fun p H1 hp _ H2 e2 Q q => ⟨p, ns, rfl, Evl.sq_of (e2 _ _ hp), q H2 (Evl.Ex.refl _)⟩
theorem ev_minL {te : TE} {σ : L2.St} {H : Hp} {ns : List Int} {m : Int} (h : Evl.EvL te σ H (ns.map V.int)) (hm : m ∈ ns) (hl : ∀ y ∈ ns, m ≤ y) : Evl.Ev (tCB (rMin K) (tCons te tNil)) σ H (.int m) :=
  ev_cbL h fun p H1 hp _ H2 e2 Q q => ⟨p, ns, rfl, Evl.sq_of (e2 _ _ hp), List.length_pos_of_mem hm, fun m' h1 h2 => by
    rw [Int.le_antisymm (h2 _ hm) (hl _ h1)]
    exact q H2 (Evl.Ex.refl _)⟩
theorem paired_back {α β : Type} {R : α → β → Prop} : ∀ {as : List α} {bs : List β}, Paired R as bs → ∀ {i : Nat} {b : β}, bs[i]? = some b → ∃ a, as[i]? = some a ∧ R a b
  | _, _, .nil, i, a, h => by simp at h
  | _, _, .cons x t, 0, a, h => ⟨_, rfl, by cases Option.some.inj h; exact x⟩
  | _, _, .cons x t, i + 1, a, h => paired_back t (i := i) h
theorem paired_drop {α β : Type} {R : α → β → Prop} : ∀ {as : List α} {bs : List β}, Paired R as bs → ∀ k : Nat, Paired R (as.drop k) (bs.drop k)
  | _, _, .nil, k => by
    rw [List.drop_nil, List.drop_nil]
    exact .nil
  | _, _, .cons x t, 0 => .cons x t
  | _, _, .cons x t, k + 1 => paired_drop t k
theorem paired_take {α β : Type} {R : α → β → Prop} : ∀ {as : List α} {bs : List β}, Paired R as bs → ∀ k : Nat, Paired R (as.take k) (bs.take k)
  | _, _, .nil, k => by
    rw [List.take_nil, List.take_nil]
    exact .nil
  | _, _, .cons x t, 0 => .nil
  | _, _, .cons x t, k + 1 => .cons x (paired_take t k)
theorem paired_mapR {α β γ : Type} {R : α → β → Prop} {g : γ → β} : ∀ {as : List α} {bs : List γ}, Paired (fun a c => R a (g c)) as bs → Paired R as (bs.map g)
  | _, _, .nil => .nil
  | _, _, .cons x t => .cons x (paired_mapR t)
theorem paired_of {α β γ : Type} {R : α → β → Prop} {g : γ → β} : ∀ {as : List α} {bs : List γ}, Paired R as (bs.map g) → Paired (fun a c => R a (g c)) as bs
  | _, [], .nil => .nil
  | _, _ :: _, .cons x t => .cons x (paired_of t)
theorem q_forLVia {tl : TE} {g : TG} {tu tz : TS} {D : Ends} {σ : L2.St} {H : Hp} (S : Addr → List V → Hp → Prop) (h1 : ∀ Q' : VK, (∀ p xs H', S p xs H' → Q' (.ref p) H') → tl σ H Q') (Pv : Addr → List V → Nat → L2.St → Hp → Prop)
    (h0 : ∀ p xs H', S p xs H' → Pv p xs 0 σ H') (hl : ∀ p xs i σ' H', Pv p xs i σ' H' → SqL K H' p xs)
    (hs : ∀ p xs i x σ' H', xs[i]? = some x → Pv p xs i σ' H' → g x σ' H' fun σ2 H2 => tu { D with nx := Pv p xs (i + 1), ct := Pv p xs (i + 1), bk := tz D } σ2 H2) (hd : ∀ p xs σ' H', Pv p xs xs.length σ' H' → tz D σ' H') : tSeq (tFor (iList K tl) g tu) tz D σ H :=
  s_forLVia (D := { D with nx := tz D }) S h1 Pv h0 hl hs hd
theorem g_op {r : R2} {ta tb : TE} {σ : L2.St} {H : Hp} {Q : VK} (h : ta σ H fun x H1 => tb σ H1 fun y H2 => r x y H2 Q) : tOp r ta tb σ H Q := h
theorem g_tupC {ta : TA} {σ : L2.St} {H : Hp} {Q : VK} (h : ta σ H fun xs H1 => xs.length ≤ sizeLine ∧ ∀ p, H1 p = none → Q (.ref p) (upd H1 p (.tup xs))) : tTup ta σ H Q := h
theorem g_lstC {ta : TA} {σ : L2.St} {H : Hp} {Q : VK} (h : ta σ H fun xs H1 => xs.length ≤ sizeLine ∧ ∀ p, H1 p = none → Q (.ref p) (upd H1 p (.lst xs))) : tLst ta σ H Q := h
/-- a comprehension over a tuple that comes -/
theorem lc_tupV {xs : List V} {tl : TE} {g : TG} {tt : TT} {te : TE} {vs : List Nat} {σ : L2.St} {H : Hp} {Q : VK} (S : Addr → Hp → Prop) (h : ∀ Q1 : VK, (∀ p H1, S p H1 → Q1 (.ref p) H1) → tl σ H Q1) (Pv : Addr → Hp → Addr → Nat → Hp → Prop) (hS : ∀ p H1, S p H1 → SqT K H1 p xs)
    (h0 : ∀ p H1 D, S p H1 → H1 D = none → Pv p H1 D 0 (upd H1 D (.lst []))) (hl : ∀ p H1 D i H', Pv p H1 D i H' → SqT K H' p xs) (hs : ∀ p H1 D i x H', xs[i]? = some x → Pv p H1 D i H' → g x (wipe σ vs) H' fun σ2 H2 => wipe σ2 vs = wipe σ vs ∧ tt σ2 H2 fun b H3 => if b = true then te σ2 H3 (fun y H4 => ∃ acc, H4 D = some (.lst acc) ∧ acc.length < sizeLine ∧ Pv p H1 D (i + 1) (upd H4 D (.lst (acc ++ [y])))) else Pv p H1 D (i + 1) H3)
    (hd : ∀ p H1 D H', Pv p H1 D xs.length H' → Q (.ref D) H') : tLc (iTup K tl) g tt te vs σ H Q :=
  h _ fun p H1 k => ⟨p, rfl, ⟨xs, hS p H1 k⟩, fun D nD => lc_tup (Pv p H1 D) (h0 p H1 D k nD) (fun i H' _ z => hl p H1 D i H' z) (fun i x H' hx z => hs p H1 D i x H' hx z) (fun H' z => hd p H1 D H' z)⟩
/-! ### loops over the keys of a dict -/
theorem ex_unlock {H H' : Hp} {d : Addr} {f u : HO} (hd : H d = some u) (e : Evl.Ex (upd H d f) H') : Evl.Ex H (upd H' d u) := fun c o hc => by
  by_cases q : c = d
  · subst q
    rw [upd_same, ← hd]
    exact hc
  · rw [upd_ne q]
    exact e _ _ (by rw [upd_ne q]; exact hc)
abbrev lockD (D : Ends) (d : Addr) (od : Obj) (u : HO) : Ends := ⟨fun σ' H' => H' d = some (.frz od u) ∧ D.nx σ' (upd H' d u), fun v H' => H' d = some (.frz od u) ∧ D.rt v (upd H' d u), fun σ' H' => H' d = some (.frz od u) ∧ D.bk σ' (upd H' d u), fun σ' H' => H' d = some (.frz od u) ∧ D.ct σ' (upd H' d u)⟩
theorem s_forK {tb : TS} {td : TE} {j : Nat} {D : Ends} {σ : L2.St} {H : Hp} {d : Addr} {kvs : List (Key × V)} (hd : H d = some (.dK kvs)) (h : ∀ od, Evl.Ev td σ (upd H d (.frz od (.dK kvs))) (.ref d)) (Pv : Obj → Nat → L2.St → Hp → Prop)
    (hl : ∀ od i σ' H', Pv od i σ' H' → H' d = some (.frz od (.dK kvs))) (h0 : ∀ od H1, Evl.Ex (upd H d (.frz od (.dK kvs))) H1 → Pv od 0 σ H1)
    (hs : ∀ od i k v σ' H', kvs[i]? = some (k, v) → Pv od i σ' H' → tb ⟨Pv od (i + 1), fun v H' => H' d = some (.frz od (.dK kvs)) ∧ D.rt v (upd H' d (.dK kvs)), fun σ' H' => H' d = some (.frz od (.dK kvs)) ∧ D.nx σ' (upd H' d (.dK kvs)), Pv od (i + 1)⟩ (σ'.set j (some (kV k))) H') (he : ∀ od σ' H', Pv od kvs.length σ' H' → D.nx σ' (upd H' d (.dK kvs))) : tLock (tFor (iKeys td) (gName j) tb) D σ H := by
  refine ⟨d, .dK kvs, hd, trivial, fun od => ?_⟩
  refine (h od) _ (Evl.Ex.refl _) _ fun H1 e1 => ⟨d, od, rfl, .inl ⟨kvs, e1 _ _ upd_same, ?_⟩⟩
  refine ⟨fun i m σ' H' => m = kvs.length - i ∧ i ≤ kvs.length ∧ Pv od i σ' H', ⟨_, rfl, Nat.zero_le _, h0 od H1 e1⟩, fun i m σ' H' z => ?_⟩
  obtain ⟨rfl, li, hp⟩ := z
  by_cases lt : i < kvs.length
  · refine .inr ⟨⟨hl od i σ' H' hp, lt⟩, Pv od (i + 1), fun σ2 H2 w => ⟨kvs.length - (i + 1), by omega, rfl, by omega, w⟩, fun x H2 y => ?_⟩
    obtain ⟨rfl, k, v, hk, rfl⟩ := y
    exact hs od i k v σ' H2 hk hp
  · obtain rfl : i = kvs.length := by omega
    exact .inl ⟨⟨hl _ _ _ _ hp, Nat.le_refl _⟩, hl _ _ _ _ hp, he od σ' H' hp⟩
/-- d[k], d under a lock -/
theorem ev_dgetF {td ty : TE} {σ : L2.St} {H : Hp} {d : Addr} {od : Obj} {kvs : List (Key × V)} {k : Key} {v : V} (hd : H d = some (.frz od (.dK kvs))) (hv : valV kvs k = some v) (h1 : Evl.Ev td σ H (.ref d)) (h2 : Evl.Ev ty σ H (kV k)) : Evl.Ev (tDGet td ty) σ H v := fun H1 e Q q =>
  h1 H1 e _ fun H2 e2 => h2 H2 (e.trans e2) _ fun H3 e3 => ⟨d, v, rfl, .inl ⟨kvs, k, .inr ⟨od, e3 _ _ (e2 _ _ (e _ _ hd))⟩, rfl, hv.symm⟩, q H3 (e2.trans e3)⟩
theorem ev_dgetD {td ty : TE} {σ : L2.St} {H : Hp} {d : Addr} {kvs : List (Key × V)} {k : Key} {v : V} (hd : H d = some (.dK kvs)) (hv : valV kvs k = some v) (h1 : Evl.Ev td σ H (.ref d)) (h2 : Evl.Ev ty σ H (kV k)) : Evl.Ev (tDGet td ty) σ H v := fun H1 e Q q =>
  h1 H1 e _ fun H2 e2 => h2 H2 (e.trans e2) _ fun H3 e3 => ⟨d, v, rfl, .inl ⟨kvs, k, .inl (e3 _ _ (e2 _ _ (e _ _ hd))), rfl, hv.symm⟩, q H3 (e2.trans e3)⟩
theorem valV_fn {g : Str → V} : ∀ {ns : List Str} {z : Str}, z ∈ ns → valV (ns.map fun z => ((Sum.inr z : Key), g z)) (Sum.inr z) = some (g z)
  | [], z, h => absurd h (by simp)
  | y :: ns, z, h => by
    by_cases e : y = z
    · subst e
      exact valV_pos (p := ((Sum.inr y : Key), g y)) rfl
    · exact (valV_neg (p := ((Sum.inr y : Key), g y)) (k := (Sum.inr z : Key)) fun q => e (Sum.inr.inj q)).trans (valV_fn ((List.mem_cons.mp h).resolve_left fun q => e q.symm))
theorem least_of : ∀ {l : List Int}, l ≠ [] → ∃ m ∈ l, ∀ y ∈ l, m ≤ y
  | [], h => absurd rfl h
  | [a], _ => ⟨a, List.mem_cons_self, fun y hy => by rw [List.mem_singleton.mp hy]; exact Int.le_refl _⟩
  | a :: b :: l, _ => by
    obtain ⟨m, hm, lm⟩ := least_of (l := b :: l) (by simp)
    by_cases q : a ≤ m
    · exact ⟨a, List.mem_cons_self, fun y hy => (List.mem_cons.mp hy).elim (fun z => by rw [z]; exact Int.le_refl _) fun z => Int.le_trans q (lm y z)⟩
    · exact ⟨m, List.mem_cons_of_mem _ hm, fun y hy => (List.mem_cons.mp hy).elim (fun z => by rw [z]; omega) fun z => lm y z⟩
end Lj

set_option maxHeartbeats 1000000
/-! comprehensions over numbers and over the keys of a dict, each item a new tuple -/
namespace Lj
open PySem PySem.Spec PyProof.Rows L2 Lw
open Evl (EvL EvA EvT EvU RC)
variable {K : PySem.W.Frag}
/-- [e for k in range(n)], each e a new tuple -/
theorem lc_mkN (f : Nat → List V) {ta : TA} {σ : L2.St} {H : Hp} {te : TE} {j : Nat} {vs : List Nat} {n : Nat} {Q : VK} (h : EvA ta σ H [.int (n : Int)]) (ln : n ≤ 40000) (hw : ∀ x, wipe ((wipe σ vs).set j (some x)) vs = wipe σ vs)
    (hv : ∀ (i : Nat) H2, Evl.Ex H H2 → i < n → Evl.EvU te ((wipe σ vs).set j (some (.int (i : Int)))) H2 (f i))
    (q : ∀ B ts H', H B = none → Evl.Ex H H' → H' B = some (.lst (ts.map V.ref)) → Paired (fun t i => H' t = some (.tup (f i))) ts (List.range n) → Q (.ref B) H') : tLc (iRng1 ta) (gName j) tYes te vs σ H Q := by
  refine h H (Evl.Ex.refl _) _ fun H1 e1 => ⟨n, rfl, by omega, by omega, fun B hB => ?_⟩
  rw [Int.toNat_natCast]
  refine lc_range (lo := 0) (n := n) (fun i H' => Evl.Ex H1 H' ∧ ∃ ts : List Addr, H' B = some (.lst (ts.map V.ref)) ∧ Paired (fun t k => H' t = some (.tup (f k))) ts (List.range i) ∧ ts.length = i) ⟨Evl.Ex.new hB, [], upd_same, .nil, rfl⟩ (fun i H' hi p => ?_) (fun H' p => ?_)
  · obtain ⟨e, ts, hD, hp, lt⟩ := p
    have e0 : (0 : Int) + (i : Int) = (i : Int) := Int.zero_add _
    rw [e0]
    refine ⟨hw _, ?_⟩
    refine yes_t H' (Evl.Ex.refl _) _ fun H2 e2 => ?_
    refine ite2 (fun _ => ?_) (fun z => absurd rfl z)
    refine hv i H' (e1.trans e) hi H2 e2 _ fun t H3 nt e3 ht => ⟨_, e3 _ _ (e2 _ _ hD), by rw [List.length_map]; exact szZ (by omega), ((e.trans e2).trans e3).mut hB, ts ++ [t], by rw [upd_same, List.map_append]; rfl, ?_, by rw [List.length_append, lt]; rfl⟩
    have k : TK H3 (upd H3 B (.lst (ts.map V.ref ++ [.ref t]))) := TK.put (.inr ⟨_, e3 _ _ (e2 _ _ hD)⟩)
    rw [List.range_succ]
    exact paired_snoc (paired_imp (fun t' g' z => k _ _ (e3 _ _ (e2 _ _ z))) hp) (k _ _ ht)
  · obtain ⟨e, ts, hD, hp, _⟩ := p
    exact q B ts H' (Evl.fresh_back e1 hB) (e1.trans e) hD hp
/-- [e for k in d], each e a new tuple -/
theorem lc_mkK (f : Str → List V) (g : Str → V) {td : TE} {σ : L2.St} {H : Hp} {te : TE} {j : Nat} {vs : List Nat} {d : Addr} {ns : List Str} {Q : VK} (hd : H d = some (.dK (ns.map fun z => ((Sum.inr z : Key), g z)))) (h : ∀ H1, H1 d ≠ none → Evl.Ev td σ H1 (.ref d)) (ln : ns.length ≤ 2900000) (hw : ∀ x, wipe ((wipe σ vs).set j (some x)) vs = wipe σ vs)
    (hv : ∀ od (z : Str) H2, Evl.Ex (upd H d (.frz od (.dK (ns.map fun z => ((Sum.inr z : Key), g z))))) H2 → z ∈ ns → Evl.EvU te ((wipe σ vs).set j (some (.str z))) H2 (f z))
    (q : ∀ B ts H', H B = none → B ≠ d → Evl.Ex H H' → H' B = some (.lst (ts.map V.ref)) → Paired (fun t z => H' t = some (.tup (f z))) ts ns → Q (.ref B) H') : tLockE (tLc (iKeys td) (gName j) tYes te vs) σ H Q := by
  refine ⟨d, _, hd, trivial, fun od => ?_⟩
  refine h _ (by rw [upd_same]; exact fun z => nomatch z) _ (Evl.Ex.refl _) _ fun H1 e1 => ⟨d, od, rfl, .inl ⟨_, e1 _ _ upd_same, fun B hB => ?_⟩⟩
  have hd1 := e1 _ _ upd_same
  have Bd : B ≠ d := fun z => by
    rw [z, hd1] at hB
    exact nomatch hB
  refine ⟨fun i m H' => m = ns.length - i ∧ i ≤ ns.length ∧ Evl.Ex H1 H' ∧ ∃ ts : List Addr, H' B = some (.lst (ts.map V.ref)) ∧ Paired (fun t z => H' t = some (.tup (f z))) ts (ns.take i) ∧ ts.length ≤ i, ⟨_, rfl, Nat.zero_le _, Evl.Ex.new hB, [], upd_same, .nil, Nat.le_refl _⟩, fun i m H' z => ?_⟩
  obtain ⟨rfl, li, e, ts, hD, hp, lt⟩ := z
  have hd' := e _ _ hd1
  by_cases l : i < ns.length
  · refine .inr ⟨⟨hd', by rw [List.length_map]; exact l⟩, fun H2 => i + 1 ≤ ns.length ∧ Evl.Ex H1 H2 ∧ ∃ ts : List Addr, H2 B = some (.lst (ts.map V.ref)) ∧ Paired (fun t z => H2 t = some (.tup (f z))) ts (ns.take (i + 1)) ∧ ts.length ≤ i + 1, fun H2 w => ⟨ns.length - (i + 1), by omega, rfl, w⟩, fun x H2 y => ?_⟩
    obtain ⟨rfl, k, v, hk, rfl⟩ := y
    rw [List.getElem?_map] at hk
    obtain ⟨z, hz, hq⟩ := Option.map_eq_some_iff.mp hk
    cases hq
    refine ⟨hw _, ?_⟩
    refine yes_t H2 (Evl.Ex.refl _) _ fun H3 e3 => ?_
    refine ite2 (fun _ => ?_) (fun z => absurd rfl z)
    refine hv od z H2 (e1.trans e) (List.mem_of_getElem? hz) H3 e3 _ fun t H4 nt e4 ht => ⟨_, e4 _ _ (e3 _ _ hD), by rw [List.length_map]; exact szZ (by omega), l, ((e.trans e3).trans e4).mut hB, ts ++ [t], by rw [upd_same, List.map_append]; rfl, ?_, by rw [List.length_append]; exact Nat.succ_le_succ lt⟩
    have k : TK H4 (upd H4 B (.lst (ts.map V.ref ++ [.ref t]))) := TK.put (.inr ⟨_, e4 _ _ (e3 _ _ hD)⟩)
    rw [List.take_add_one, hz]
    exact paired_snoc (paired_imp (fun t' g' z => k _ _ (e4 _ _ (e3 _ _ z))) hp) (k _ _ ht)
  · obtain rfl : i = ns.length := by omega
    rw [List.take_length] at hp
    refine .inl ⟨⟨hd', by rw [List.length_map]; exact Nat.le_refl _⟩, hd', ?_⟩
    have eH := ex_unlock (u := .dK (ns.map fun z => ((Sum.inr z : Key), g z))) hd (e1.trans e)
    refine q B ts _ ?_ Bd eH (by rw [upd_ne Bd]; exact hD) (paired_imp (fun t z w => ?_) hp)
    · have := Evl.fresh_back e1 hB
      rw [upd_ne Bd] at this
      exact this
    · rw [upd_ne fun q => ?_]
      · exact w
      · rw [q, hd'] at w
        exact nomatch w
end Lj

set_option maxHeartbeats 1000000
/-! comprehensions over the keys of a dict that keep some, each item a new tuple -/
namespace Lj
open PySem PySem.Spec PyProof.Rows L2 Lw
open Evl (EvL EvA EvT EvU RC)
variable {K : PySem.W.Frag}
/-- x = [.. for k in d ..], x a local name -/
theorem q_asgK {te : TE} {i : Nat} {tz : TS} {D : Ends} {σ : L2.St} {H : Hp} (h : tLockE te σ H fun v H' => tz D (σ.set i (some v)) H') : tSeq (tLock (tAsg te (gName i))) tz D σ H := h
/-- t = e, any target, what comes told once -/
theorem q_asgG {te : TE} {g : TG} {tz : TS} {D : Ends} {σ : L2.St} {H : Hp} (S : V → Hp → Prop) (h1 : ∀ Q' : VK, (∀ v H', S v H' → Q' v H') → te σ H Q') (h2 : ∀ v H', S v H' → g v σ H' (tz D)) : tSeq (tAsg te g) tz D σ H := h1 _ h2
/-- [e for k in d if t], each e a new tuple -/
theorem lc_keepK (F : Str → Bool) (f : Str → List V) (g : Str → V) {td : TE} {t : TT} {σ : L2.St} {H : Hp} {te : TE} {j : Nat} {vs : List Nat} {d : Addr} {ns : List Str} {Q : VK} (hd : H d = some (.dK (ns.map fun z => ((Sum.inr z : Key), g z)))) (h : ∀ H1, H1 d ≠ none → Evl.Ev td σ H1 (.ref d)) (ln : ns.length ≤ 2900000) (hw : ∀ x, wipe ((wipe σ vs).set j (some x)) vs = wipe σ vs)
    (ht : ∀ od (z : Str) H2, Evl.Ex (upd H d (.frz od (.dK (ns.map fun z => ((Sum.inr z : Key), g z))))) H2 → z ∈ ns → Evl.EvT t ((wipe σ vs).set j (some (.str z))) H2 (F z))
    (hv : ∀ od (z : Str) H2, Evl.Ex (upd H d (.frz od (.dK (ns.map fun z => ((Sum.inr z : Key), g z))))) H2 → z ∈ ns → F z = true → Evl.EvU te ((wipe σ vs).set j (some (.str z))) H2 (f z))
    (q : ∀ B ts H', H B = none → B ≠ d → Evl.Ex H H' → H' B = some (.lst (ts.map V.ref)) → Paired (fun t z => H' t = some (.tup (f z))) ts (ns.filter F) → Q (.ref B) H') : tLockE (tLc (iKeys td) (gName j) t te vs) σ H Q := by
  refine ⟨d, _, hd, trivial, fun od => ?_⟩
  refine h _ (by rw [upd_same]; exact fun z => nomatch z) _ (Evl.Ex.refl _) _ fun H1 e1 => ⟨d, od, rfl, .inl ⟨_, e1 _ _ upd_same, fun B hB => ?_⟩⟩
  have hd1 := e1 _ _ upd_same
  have Bd : B ≠ d := fun z => by
    rw [z, hd1] at hB
    exact nomatch hB
  refine ⟨fun i m H' => m = ns.length - i ∧ i ≤ ns.length ∧ Evl.Ex H1 H' ∧ ∃ ts : List Addr, H' B = some (.lst (ts.map V.ref)) ∧ Paired (fun t z => H' t = some (.tup (f z))) ts ((ns.take i).filter F) ∧ ts.length ≤ i, ⟨_, rfl, Nat.zero_le _, Evl.Ex.new hB, [], upd_same, .nil, Nat.le_refl _⟩, fun i m H' z => ?_⟩
  obtain ⟨rfl, li, e, ts, hD, hp, lt⟩ := z
  have hd' := e _ _ hd1
  by_cases l : i < ns.length
  · refine .inr ⟨⟨hd', by rw [List.length_map]; exact l⟩, fun H2 => i + 1 ≤ ns.length ∧ Evl.Ex H1 H2 ∧ ∃ ts : List Addr, H2 B = some (.lst (ts.map V.ref)) ∧ Paired (fun t z => H2 t = some (.tup (f z))) ts ((ns.take (i + 1)).filter F) ∧ ts.length ≤ i + 1, fun H2 w => ⟨ns.length - (i + 1), by omega, rfl, w⟩, fun x H2 y => ?_⟩
    obtain ⟨rfl, k, v, hk, rfl⟩ := y
    rw [List.getElem?_map] at hk
    obtain ⟨z, hz, hq⟩ := Option.map_eq_some_iff.mp hk
    cases hq
    have mz := List.mem_of_getElem? hz
    have tk : (ns.take (i + 1)).filter F = (ns.take i).filter F ++ (if F z = true then [z] else []) := by
      rw [List.take_add_one, hz, List.filter_append]
      show _ ++ List.filter _ [z] = _
      rw [List.filter_cons]
      rfl
    refine ⟨hw _, ?_⟩
    refine ht od z H2 (e1.trans e) mz H2 (Evl.Ex.refl _) _ fun H3 e3 => ?_
    cases hF : F z with
    | true =>
      rw [hF, if_pos rfl] at tk
      refine ite2 (fun _ => ?_) (fun z => absurd rfl z)
      refine hv od z H2 (e1.trans e) mz hF H3 e3 _ fun t H4 nt e4 ht => ⟨_, e4 _ _ (e3 _ _ hD), by rw [List.length_map]; exact szZ (by omega), l, ((e.trans e3).trans e4).mut hB, ts ++ [t], by rw [upd_same, List.map_append]; rfl, ?_, by rw [List.length_append]; exact Nat.succ_le_succ lt⟩
      have k : TK H4 (upd H4 B (.lst (ts.map V.ref ++ [.ref t]))) := TK.put (.inr ⟨_, e4 _ _ (e3 _ _ hD)⟩)
      rw [tk]
      exact paired_snoc (paired_imp (fun t' g' z => k _ _ (e4 _ _ (e3 _ _ z))) hp) (k _ _ ht)
    | false =>
      rw [hF, if_neg (by decide), List.append_nil] at tk
      refine ite2 (fun z => absurd z (by decide)) (fun _ => ⟨l, e.trans e3, ts, e3 _ _ hD, ?_, Nat.le_succ_of_le lt⟩)
      rw [tk]
      exact paired_imp (fun t' g' z => e3 _ _ z) hp
  · obtain rfl : i = ns.length := by omega
    rw [List.take_length] at hp
    refine .inl ⟨⟨hd', by rw [List.length_map]; exact Nat.le_refl _⟩, hd', ?_⟩
    have eH := ex_unlock (u := .dK (ns.map fun z => ((Sum.inr z : Key), g z))) hd (e1.trans e)
    refine q B ts _ ?_ Bd eH (by rw [upd_ne Bd]; exact hD) (paired_imp (fun t z w => ?_) hp)
    · have := Evl.fresh_back e1 hB
      rw [upd_ne Bd] at this
      exact this
    · rw [upd_ne fun q => ?_]
      · exact w
      · rw [q, hd'] at w
        exact nomatch w
end Lj

set_option maxHeartbeats 2000000
/-! rows of nodes and how far they are -/
namespace Lj
open PySem PySem.Spec PyProof.Rows L2 Lw
def nearL (rs : List (Str × Option Int)) : List Pr := rs.filterMap fun q => q.2.map fun m => (m, q.1)
noncomputable abbrev nearP (es : List Eg) (u : Str) (ns : List Str) : List Pr := nearL (ns.map fun z => (z, farV es u z))
theorem nearP_cons (es : List Eg) (u z : Str) (ns : List Str) : nearP es u (z :: ns) = (match farV es u z with | none => nearP es u ns | some m => (m, z) :: nearP es u ns) := by
  unfold nearP nearL
  rw [List.map_cons, List.filterMap_cons]
  cases farV es u z <;> rfl
theorem nearP_at {es : List Eg} {u : Str} {H : Hp} : ∀ {as : List Addr} {ns : List Str}, Paired (fun a z => H a = some (.tup [numV (farV es u z), .str z])) as (ns.filter fun z => (farV es u z).isSome) → PrsAt H as (nearP es u ns)
  | as, [], h => by
    cases h
    exact .nil
  | as, z :: ns, h => by
    rw [nearP_cons]
    rw [List.filter_cons] at h
    cases hf : farV es u z with
    | none =>
      rw [hf] at h
      exact nearP_at (by simpa using h)
    | some m =>
      rw [hf, if_pos (show (some m).isSome = true from rfl)] at h
      show PrsAt H as ((m, z) :: nearP es u ns)
      cases h with
      | cons x t =>
        rw [hf] at x
        exact .cons x (nearP_at t)
theorem nearP_perm {es : List Eg} {u : Str} {ns ms : List Str} (p : ns.Perm ms) : (nearP es u ns).Perm (nearP es u ms) := (p.map _).filterMap _
theorem nearP_mem {es : List Eg} {u : Str} {ns : List Str} {q : Pr} (h : q ∈ nearP es u ns) : q.2 ∈ ns ∧ farV es u q.2 = some q.1 := by
  obtain ⟨r, hr, e⟩ := List.mem_filterMap.mp h
  obtain ⟨z, hz, rfl⟩ := List.mem_map.mp hr
  obtain ⟨m, hm, rfl⟩ := Option.map_eq_some_iff.mp e
  exact ⟨hz, hm⟩
theorem nearP_has {es : List Eg} {u z : Str} {ns : List Str} {m : Int} (h : z ∈ ns) (hm : farV es u z = some m) : (m, z) ∈ nearP es u ns :=
  List.mem_filterMap.mpr ⟨(z, farV es u z), List.mem_map_of_mem h, by rw [hm]; rfl⟩
theorem et_notN {te : TE} {σ : L2.St} {H : Hp} {r : Option Int} (h : Evl.Ev te σ H (numV r)) : Evl.EvT (tTest (tOp (fun x y H Q => y = V.non ∧ Q (V.bl !decide (x = V.non)) H) te (tC .non))) σ H r.isSome :=
  Evl.et_is (Evl.et_test (Evl.ev_op h Evl.ev_c fun H1 e1 Q q => ⟨rfl, q H1 (Evl.Ex.refl _)⟩)) (by cases r <;> simp [numV])
theorem nearL_at {H : Hp} : ∀ {as : List Addr} {rs : List (Str × Option Int)}, Paired (fun a (q : Str × Option Int) => H a = some (.tup [numV q.2, .str q.1])) as (rs.filter fun q => q.2.isSome) → PrsAt H as (nearL rs)
  | as, [], h => by
    cases h
    exact .nil
  | as, (z, none) :: rs, h => by
    rw [List.filter_cons_of_neg (by simp)] at h
    exact nearL_at (rs := rs) h
  | as, (z, some m) :: rs, h => by
    rw [List.filter_cons_of_pos (by simp)] at h
    show PrsAt H as ((m, z) :: nearL rs)
    cases h with
    | cons x t => exact .cons x (nearL_at t)
abbrev dsK (rs : List (Str × Option Int)) : List (Key × V) := rs.map fun q => (Sum.inr q.1, numV q.2)
theorem dsK_none {z : Str} : ∀ {rs : List (Str × Option Int)}, z ∉ rs.map (·.1) → valV (dsK rs) (Sum.inr z) = none
  | [], _ => rfl
  | t :: rs, h => by
    have h1 : ¬ z = t.1 := fun q => h (by rw [q]; exact List.mem_cons_self)
    exact (valV_neg (p := ((Sum.inr t.1 : Key), numV t.2)) (k := (Sum.inr z : Key)) fun q => h1 (Sum.inr.inj q).symm).trans (dsK_none fun q => h (List.mem_cons_of_mem _ q))
theorem merge_app : ∀ (rs : List (Str × Option Int)) (acc : List (Str × Option Int)), ((acc ++ rs).map (·.1)).Nodup → mergeK (dsK acc) (dsK rs) = dsK (acc ++ rs)
  | [], acc, _ => by rw [List.append_nil]; rfl
  | q :: rs, acc, h => by
    have out : q.1 ∉ acc.map (·.1) := fun z => by
      rw [List.map_append, List.nodup_append] at h
      exact h.2.2 _ z _ List.mem_cons_self rfl
    show mergeK (putK (dsK acc) (Sum.inr q.1) (numV q.2)) (dsK rs) = _
    rw [putK_new _ (dsK_none out)]
    have := merge_app rs (acc ++ [q]) (by simpa using h)
    rw [show dsK acc ++ [(Sum.inr q.1, numV q.2)] = dsK (acc ++ [q]) by simp [dsK], this]
    simp
end Lj

set_option maxHeartbeats 1000000
/-! min of a list of tuples of a number and a name -/
namespace Lj
open PySem PySem.Spec PyProof.Rows L2 Lw
theorem lePr_refl (a : Pr) : lePr a a := .inr ⟨rfl, List.le_refl _⟩
theorem lePr_trans {a b c : Pr} (h : lePr a b) (k : lePr b c) : lePr a c := by
  rcases h with h | ⟨h, h2⟩ <;> rcases k with k | ⟨k, k2⟩
  · exact .inl (by omega)
  · exact .inl (by omega)
  · exact .inl (by omega)
  · exact .inr ⟨by omega, List.le_trans h2 k2⟩
theorem lePr_lt {a b : Pr} (h : PySem.W.dataLt (prD b) (prD a) = true) : lePr b a := by
  rw [lt_pr] at h
  rcases of_decide_eq_true h with h | ⟨h, h2⟩
  · exact .inl h
  · exact .inr ⟨h, List.le_of_lt h2⟩
theorem minD_prs : ∀ (rs : List Pr) (x : Pr), ∃ r ∈ x :: rs, PySem.W.minD (prD x) (rs.map prD) = prD r ∧ ∀ q ∈ x :: rs, lePr r q
  | [], x => ⟨x, by simp, rfl, fun q hq => by
    rw [List.mem_singleton.mp hq]
    exact lePr_refl x⟩
  | y :: rs, x => by
    cases h : PySem.W.dataLt (prD y) (prD x) with
    | true =>
      obtain ⟨r, h1, h2, h3⟩ := minD_prs rs y
      refine ⟨r, List.mem_cons_of_mem _ h1, ?_, fun q hq => ?_⟩
      · rw [← h2]
        simp only [PySem.W.minD, List.map_cons, List.foldl_cons, h, if_true]
      · rcases List.mem_cons.mp hq with rfl | hq
        · exact lePr_trans (h3 y List.mem_cons_self) (lePr_lt h)
        · exact h3 q hq
    | false =>
      obtain ⟨r, h1, h2, h3⟩ := minD_prs rs x
      refine ⟨r, ?_, ?_, fun q hq => ?_⟩
      · rcases List.mem_cons.mp h1 with h1 | h1
        · rw [h1]
          exact List.mem_cons_self
        · exact List.mem_cons_of_mem _ (List.mem_cons_of_mem _ h1)
      · rw [← h2]
        simp only [PySem.W.minD, List.map_cons, List.foldl_cons, h, if_false, Bool.false_eq_true]
      · rcases List.mem_cons.mp hq with rfl | hq
        · exact h3 _ List.mem_cons_self
        · rcases List.mem_cons.mp hq with rfl | hq
          · exact lePr_trans (h3 x List.mem_cons_self) (lePr_of h)
          · exact h3 q (List.mem_cons_of_mem _ hq)
def rMinP (K : PySem.W.Frag) : List V → Hp → VK → Prop := fun xs H Q => ∃ (l : Addr) (as : List Addr) (rs : List Pr), xs = [.ref l] ∧ SqL K H l (as.map V.ref) ∧ PrsAt H as rs ∧ rs ≠ [] ∧ ∀ a r, r ∈ rs → H a = some (.tup (prV r)) → (∀ q ∈ rs, lePr r q) → Q (.ref a) H
theorem prs_dps {K : PySem.W.Frag} {H : Hp} : ∀ {as : List Addr} {rs : List Pr}, PrsAt H as rs → DpAll K H (as.map V.ref) (rs.map prD)
  | _, _, .nil => .nil
  | _, _, .cons h t => .cons (dp_pr h) (prs_dps t)
theorem prs_at {H : Hp} : ∀ {as : List Addr} {rs : List Pr}, PrsAt H as rs → ∀ {i : Nat} {a : Addr}, as[i]? = some a → ∃ r, rs[i]? = some r ∧ H a = some (.tup (prV r))
  | _, _, .nil, i, a, h => by simp at h
  | b :: _, r :: _, .cons x t, 0, a, h => ⟨r, rfl, by
    have : b = a := Option.some.inj h
    rw [← this]
    exact x⟩
  | _ :: _, _ :: _, .cons _ t, i + 1, a, h => prs_at t (i := i) h
theorem prs_depth (rs : List Pr) : PyData.depthAll (rs.map prD) ≤ 2 := by
  induction rs with
  | nil => simp [PyData.depthAll]
  | cons r rs ih =>
    simp only [List.map_cons, PyData.depthAll, PyData.depth]
    omega
theorem vals_back : ∀ {xs : List V} {us : List Value}, Vals xs us → ∀ {i : Nat} {u : Value}, us[i]? = some u → ∃ x, xs[i]? = some x ∧ RelV x u
  | _, _, .nil, i, u, h => by simp at h
  | x :: _, _ :: _, .cons r _, 0, u, h => by
    rw [List.getElem?_cons_zero] at h
    cases h
    exact ⟨x, rfl, r⟩
  | _ :: _, _ :: _, .cons _ t, i + 1, u, h => vals_back t (i := i) h
theorem call_minP {X : Cx} (hc : X.calm = true) (hu : X.A.units + 64 < cLine) : CallR X (.builtin "min") (rMinP X.K) := by
  intro pins s σ H xs us Q I r h
  obtain ⟨l, as, rs, rfl, hl, hp, ne, q⟩ := h
  obtain ⟨its, rv, hli, _⟩ := I.list hl
  rw [Vals.ref1 r]
  cases rs with
  | nil => exact absurd rfl ne
  | cons x rs =>
  obtain ⟨bs, hr⟩ := Dp.readsAll I _ _ _ (prs_dps (K := X.K) hp) rv
  have dp := prs_depth (x :: rs)
  refine PySem.W.min_list_data (vs := its.toArray) (x := prD x) (xs := rs.map prD) (I.ok.hd hc) (by simpa using hli.isList) (by simpa using hr) ⟨fun a ha b hb => ?_, fun a ha => ?_⟩ (by rw [List.map_cons] at dp; omega) fun i v h' tk bs' hv hm k => ?_
  · obtain ⟨a, _, rfl⟩ := List.mem_map.mp (show a ∈ (x :: rs).map prD from ha)
    obtain ⟨b, _, rfl⟩ := List.mem_map.mp (show b ∈ (x :: rs).map prD from hb)
    simp [PySem.W.alike, PySem.W.alikeAll]
  · obtain ⟨a, _, rfl⟩ := List.mem_map.mp (show a ∈ (x :: rs).map prD from ha)
    simp
  · obtain ⟨r0, m0, e0, le0⟩ := minD_prs rs x
    rw [e0] at hm
    have hv' : its[i]? = some v := by simpa using hv
    obtain ⟨y, hy, ry⟩ := vals_back rv hv'
    rw [List.getElem?_map] at hy
    obtain ⟨a, ha, rfl⟩ := Option.map_eq_some_iff.mp hy
    obtain ⟨r1, hr1, h1⟩ := prs_at hp ha
    have I' := I.kept (t' := tk) k
    obtain ⟨cs, hc1⟩ := Dp.reads I' _ _ _ (dp_pr (K := X.K) h1) ry
    have e1 := (Reads.unique hc1 _ _ hm).1
    have e2 : r1 = r0 := by
      simp only [prD, PyData.tuple.injEq, List.cons.injEq, PyData.int.injEq, PyData.str.injEq, and_true] at e1
      exact Prod.ext e1.1 e1.2
    subst e2
    exact ⟨_, H, I', ry, q a r1 m0 h1 le0⟩
/-! repr of a name -/
def rReprS : List V → Hp → VK → Prop := fun xs H Q => ∃ z : Str, xs = [.str z] ∧ (reprText z).length ≤ sizeLine ∧ Q (.str (reprText z)) H
theorem call_reprS {X : Cx} : CallR X (.builtin "repr") rReprS := by
  intro pins s σ H xs us Q I r h
  obtain ⟨z, rfl, hz, q⟩ := h
  obtain ⟨u, rfl, t, rfl⟩ := vals1 r
  exact PySem.P.repr_of_str ⟨.str _, H, I.tok _, ⟨_, rfl⟩, q⟩ hz
theorem rep_len {z : Str} (h : IsNm z) : (reprText z).length ≤ sizeLine := by
  have := ((Sm.str h).rep (by decide) (by decide)).2.2
  simpa [PyData.shown] using this
end Lj

set_option maxHeartbeats 3200000
/-! sets of texts: made of a tuple, and sorted -/
namespace Lw
open PySem PySem.Spec PyProof.Rows L2 PySem.Froz
def xKey (e : Int × Value) : Str := match e.2 with | .str k _ => k | _ => ⟨#[]⟩
def GoodX (w : World) (e : Int × Value) : Prop := ∃ k tk, e.2 = Value.str k tk ∧ e.1 = hashStr w k
/-- what stands in the set: the texts of ks -/
def HoldX (w : World) (ks : List Str) (l : List (Int × Value)) : Prop := (∀ e ∈ l, GoodX w e) ∧ (l.map xKey).Nodup ∧ ∀ k, k ∈ l.map xKey ↔ k ∈ ks
/-- the set of texts at a; its table can be walked -/
def SetX (w : World) (h : Heap) (a : Addr) (ks : List Str) : Prop :=
  ∃ o es ep t, h.get? a = some o ∧ o.ExactSet ∧ o.data = .set es ep t ∧ HoldX w ks es.toList ∧ es.size ≤ ks.length ∧ ks.length + 1 < scanBound ∧ t.fits es.size = true ∧ Ris t.place.toList ∧ (w.params.followText "set-order" = true ∨ t.led = true)
section
variable {P : Program} {w : World} {h h' : Heap} {a : Addr} {ks : List Str} {l l' : List (Int × Value)}
theorem HoldX.perm (H : HoldX w ks l) (p : l'.Perm l) : HoldX w ks l' :=
  ⟨fun e he => H.1 e (p.mem_iff.mp he), (p.map xKey).nodup_iff.mpr H.2.1, fun k => (p.map xKey).mem_iff.trans (H.2.2 k)⟩
theorem HoldX.elems (H : HoldX w ks l) : ElemsOf (strKind P w) l := fun e he => by
  obtain ⟨k, tk, h1, h2⟩ := H.1 e he
  exact ⟨⟨k, by rw [h1]; exact is_str k tk, h2⟩, by rw [h1] <;> rfl⟩
theorem GoodX.is {e : Int × Value} (g : GoodX w e) (k : Str) : (strKind P w).is k e.2 = true ↔ xKey e = k := by
  obtain ⟨k0, tk, h1, _⟩ := g
  unfold xKey
  rw [h1]
  constructor
  · intro z
    exact (strKind P w).inj _ _ _ (is_str k0 tk) z
  · intro z
    subst z
    exact is_str k0 tk
theorem HoldX.mem (H : HoldX w ks l) (k : Str) : k ∈ ks ↔ ∃ e ∈ l, (strKind P w).is k e.2 = true := by
  rw [← H.2.2 k, List.mem_map]
  exact ⟨fun ⟨e, he, q⟩ => ⟨e, he, ((H.1 e he).is k).2 q⟩, fun ⟨e, he, q⟩ => ⟨e, he, ((H.1 e he).is (P := P) k).1 q⟩⟩
theorem SetX.at (R : SetX w h a ks) (k : ∀ o, h.get? a = some o → h'.get? a = some o) : SetX w h' a ks := by
  obtain ⟨o, es, ep, t, ho, r⟩ := R
  exact ⟨o, es, ep, t, k o ho, r⟩
end
section
variable {P : Program} {w : World} {A : Around} {E : Value → Shared → Prop} {s : Shared} {a : Addr} {ks : List Str}
/-- behind the laying of one more: stored, and laid anew where the table is too full -/
theorem addX_tail {g : Bool → Sem Unit} (hg : ∀ (b : Bool) (s₁ : Shared) (Q' : Unit → Shared → Prop), Q' () s₁ → wpAny (model P w) A (g b) Q' E s₁)
    {o : Obj} {es : Array (Int × Value)} {ep : Nat} {t : SetTable} (ho : s.heap.get? a = some o) (hex : o.ExactSet) (hd : o.data = .set es ep t)
    {es1 : Array (Int × Value)} {t2 : SetTable} (g1 : HoldX w ks es1.toList) (hz1 : es1.size ≤ ks.length) (hb1 : ks.length + 1 < scanBound) (hf2 : t2.fits es1.size = true) (hr : Ris t2.place.toList)
    (hl : w.params.followText "set-order" = true ∨ t2.led = true) {wasDummy : Bool} {R : Option Bool → Shared → Prop}
    (hR : ∀ h', Heap.SameBut a s.heap h' → SetX w h' a ks → R (some true) { s with heap := h' }) :
    wpAny (model P w) A (do
        storeSet a es1 t2
        if (!wasDummy && t2.tooFull) = true then do
            g (relayAll t2 es1 (SetTable.grown es1.size)).2.2
            storeSet a (relayAll t2 es1 (SetTable.grown es1.size)).1 (relayAll t2 es1 (SetTable.grown es1.size)).2.1
            pure (some true)
          else pure (some true)) R E s := by
  have b1 : es1.size < scanBound := by omega
  refine wpAny_bind (wpAny_storeSet_of ho hd ?_ (fits_of_scanBound b1))
  have ho1 := store_at (es' := es1) (t' := t2) ho hd
  have sb1 := Heap.SameBut.update s.heap a (Obj.putSet es1 t2)
  split
  · have pm := relayAll_perm t2 es1 (SetTable.grown es1.size)
    have hf3 := relayAll_fits t2 es1 (SetTable.grown es1.size)
    have hr3 := relayAll_ris t2 es1 (SetTable.grown es1.size)
    have hl3 := relayAll_led t2 es1 (SetTable.grown es1.size)
    revert pm hf3 hr3 hl3
    generalize relayAll t2 es1 (SetTable.grown es1.size) = Z
    intro pm hf3 hr3 hl3
    have hsz : Z.1.size = es1.size := by rw [← Array.length_toList, pm.length_eq, Array.length_toList]
    have b2 : Z.1.size < scanBound := by omega
    refine wpAny_bind (hg _ _ _ ?_)
    refine wpAny_bind (wpAny_storeSet_of ho1 rfl ?_ (fits_of_scanBound b2))
    have ho2 := store_at (es' := Z.1) (t' := Z.2.1) ho1 rfl
    exact wpAny_pure (hR _ (sb1.trans (Heap.SameBut.update _ a _)) ⟨_, Z.1, _, Z.2.1, ho2, hex, rfl, g1.perm pm, by omega, hb1, hf3, hr3, hl.imp id fun z => by rw [hl3]; exact z⟩)
  · exact wpAny_pure (hR _ sb1 ⟨_, es1, _, t2, ho1, hex, rfl, g1, hz1, hb1, hf2, hr, hl⟩)
/-- one more text -/
theorem addX {k : Str} {tk : Tok} {Q : Bool → Shared → Prop} (R : SetX w s.heap a ks) (room : ks.length + 2 < scanBound)
    (hQ : ∀ h' b, Heap.SameBut a s.heap h' → SetX w h' a (ks ++ [k]) → Q b { s with heap := h' }) :
    wpAny (model P w) A (setAddHashed a (.str k tk) ((strKind P w).hash k)) Q E s := by
  obtain ⟨o, es, ep, t, ho, hex, hd, H, hn, hb, hf, hr, hl⟩ := R
  have hel : ElemsOf (strKind P w) es.toList := H.elems
  have b0 : es.size < scanBound := by omega
  have room' : (ks ++ [k]).length + 1 < scanBound := by rw [List.length_append]; exact room
  unfold setAddHashed setAddHashedIn
  refine wpAny_holding (wpAny_bind (wpAny_setState_of ho hd hf ?_))
  dsimp only
  rw [byScan_of (x := .str k tk) rfl b0 hel]
  simp only [↓reduceIte]
  unfold setAddByScan
  refine wpAny_bind ?_
  refine wpAny_bind (wpAny_rule ?_)
  refine wpAny_bind (wpAny_setScan_of (is_str k tk) ho hd hf hel ?_)
  cases hfi : List.findIdx? (fun e => (strKind P w).is k e.2) es.toList with
  | some j =>
    dsimp only
    obtain ⟨hj, pj, _⟩ := List.findIdx?_eq_some_iff_getElem.mp hfi
    have hk : k ∈ ks := (H.mem (P := P) k).2 ⟨es.toList[j], List.getElem_mem hj, pj⟩
    refine wpAny_pure (wpAny_pure (hQ s.heap _ (Heap.SameBut.refl a s.heap) ⟨o, es, ep, t, ho, hex, hd, ⟨H.1, H.2.1, fun i => ?_⟩, ?_, room', hf, hr, hl⟩))
    · rw [H.2.2 i, List.mem_append, List.mem_singleton]
      exact ⟨.inl, fun z => z.elim id fun e => e ▸ hk⟩
    · rw [List.length_append]; omega
  | none =>
    dsimp only
    have hnk : k ∉ es.toList.map xKey := fun z => by
      obtain ⟨e, he, q⟩ := (H.mem (P := P) k).1 ((H.2.2 k).1 z)
      have c := List.findIdx?_eq_none_iff.mp hfi e he
      rw [q] at c
      cases c
    have hgw : ∀ (b : Bool) {s₁ : Shared} {Q' : Unit → Shared → Prop}, Q' () s₁ → wpAny (model P w) A (match b with | true => rule "set.scan.the-table-gave-way" | false => pure ()) Q' E s₁ :=
      fun b s₁ Q' q => by cases b <;> first | exact wpAny_pure q | exact wpAny_rule q
    have pm := layNew_perm t es ((strKind P w).hash k) (.str k tk)
    have hf1 := layNew_fits t es ((strKind P w).hash k) (.str k tk)
    have hr1 := layNew_ris t es ((strKind P w).hash k) (.str k tk) hr
    have hl1 := layNew_led t es ((strKind P w).hash k) (.str k tk)
    revert pm hf1 hr1 hl1
    generalize layNew t es ((strKind P w).hash k) (.str k tk) = Z
    intro pm hf1 hr1 hl1
    obtain ⟨es1, t1, wasDummy, gave⟩ := Z
    dsimp only at pm hf1 hr1 hl1 ⊢
    rw [Array.toList_push] at pm
    have pc : es1.toList.Perm (((strKind P w).hash k, Value.str k tk) :: es.toList) := pm.trans (List.perm_append_singleton _ _)
    have g1 : HoldX w (ks ++ [k]) es1.toList := by
      refine HoldX.perm (l := ((strKind P w).hash k, Value.str k tk) :: es.toList) ⟨fun e he => ?_, ?_, fun i => ?_⟩ pc
      · rcases List.mem_cons.mp he with z | z
        · rw [z]; exact ⟨k, tk, rfl, rfl⟩
        · exact H.1 e z
      · exact List.nodup_cons.mpr ⟨hnk, H.2.1⟩
      · rw [List.map_cons, List.mem_cons, H.2.2 i, List.mem_append, List.mem_singleton]
        exact Or.comm
    have hsz : es1.size ≤ (ks ++ [k]).length := by rw [← Array.length_toList, pc.length_eq, List.length_cons, Array.length_toList, List.length_append]; exact Nat.succ_le_succ hn
    have hled : w.params.followText "set-order" = true ∨ t1.led = true := hl.imp id fun z => by rw [hl1]; exact z
    refine wpAny_bind (hgw _ ?_)
    split
    · refine wpAny_bind ?_
      rw [hashByValue_scannable 8 (x := .str k tk) rfl]
      refine wpAny_pure ?_
      refine addX_tail ?_ ho hex hd g1 hsz room' ?_ ?_ ?_ ?_
      · intro b s₁ Q' q; cases b <;> first | exact wpAny_pure q | exact wpAny_rule q
      · first | (split <;> first | exact hf1 | exact SetTable.fits_plain_off hf1) | exact hf1
      · first | (split <;> exact hr1) | exact hr1
      · first | (split <;> exact hled) | exact hled
      · intro h' sb r; dsimp only; exact wpAny_pure (hQ h' _ sb r)
    · refine wpAny_bind (wpAny_pure ?_)
      simp only [↓reduceIte]
      refine addX_tail ?_ ho hex hd g1 hsz room' hf1 hr1 hled ?_
      · intro b s₁ Q' q; cases b <;> first | exact wpAny_pure q | exact wpAny_rule q
      · intro h' sb r; dsimp only; exact wpAny_pure (hQ h' _ sb r)
end
end Lw

set_option maxHeartbeats 3200000
/-! set(t) of a tuple of texts; sorted of a set of texts -/
namespace Lw
open PySem PySem.Spec PyProof.Rows L2 PySem.Froz
/-- a new set, nothing in it yet -/
abbrev newSet (w : World) : Obj := { cls := .type "set", dict := none, data := .set #[] 0 (.fresh 0 0 (!w.params.followText "set-order")) }
theorem newSet_x {w : World} {h : Heap} {a : Addr} (ho : h.get? a = some (newSet w)) : SetX w h a [] :=
  ⟨_, #[], 0, _, ho, ⟨rfl, rfl, rfl⟩, rfl, ⟨fun e he => by simp at he, by simp, fun k => by simp⟩, Nat.le_refl _, by decide, by rfl, List.Pairwise.nil, by
    show _ ∨ (!w.params.followText "set-order") = true
    cases w.params.followText "set-order"
    · exact .inr rfl
    · exact .inl rfl⟩
theorem take_next' {ns : List Str} {i : Nat} {z : Str} (h : ns[i]? = some z) : ns.take (i + 1) = ns.take i ++ [z] := by
  rw [List.take_add_one, h]
  rfl
section
variable {P : Program} {w : World} {A : Around} {E : Value → Shared → Prop} {s : Shared}
/-- the loop over an iterator that gives the texts ns -/
theorem update_x {I : Addr} {fp wr : List Addr} {G : Array GenState → Array GenState → Prop} {n : Nat} {Pv : Nat → Value → Prop} {St : Nat → Shared → Prop} {R : Result → Shared → Prop}
    (W : WalksS P w A.in1 I fp wr G n Pv St) (S : Addr) (hSf : S ∉ fp) (ns : List Str) (hn : n = ns.length) (hb : ns.length + 1 < scanBound) (hval : ∀ i v, Pv i v → ∃ k t, ns[i]? = some k ∧ v = .str k t) :
    ∀ (k i : Nat) (s : Shared), n - i = k → i ≤ n → St i s → SetX w s.heap S (ns.take i) →
      (∀ s', Moved (S :: wr) G s s' → SetX w s'.heap S ns → R (.ok (.ret .none)) s') →
      codeAny (model P w) A (.builtin "set.update.loop" ⟨[.ref S, .ref I], []⟩) R s := by
  have hSw : S ∉ wr := fun h => hSf (W.sub _ h)
  have hsub : ∀ b ∈ wr, b ∈ S :: wr := fun b hb => List.mem_cons_of_mem _ hb
  intro k
  induction k with
  | zero =>
    intro i s hk hi hst hS hR
    obtain rfl : i = n := by omega
    refine codeAny_builtin F.entry_set_update_loop ?_
    rw [Around.under_plainId F.plain_set_update_loop _]
    show wpAny _ A.in1 (pyNext (.ref I) >>= _) _ _ s
    refine wpAny_bind (W.done s _ _ hst fun s' hm => ?_)
    show wpAny _ A.in1 (ret Value.none) _ _ s'
    rw [List.take_of_length_le (by omega)] at hS
    exact wpAny_pure (hR s' (hm.mono hsub) (hS.at fun o e => hm.heap S o hSw e))
  | succ k ih =>
    intro i s hk hi hst hS hR
    have hlt : i < n := by omega
    refine codeAny_builtin F.entry_set_update_loop ?_
    rw [Around.under_plainId F.plain_set_update_loop _]
    show wpAny _ A.in1 (pyNext (.ref I) >>= _) _ _ s
    refine wpAny_bind (W.item i s _ _ hlt hst fun v s' hP hst' hm => ?_)
    obtain ⟨z, t, hz, rfl⟩ := hval i v hP
    have hS' : SetX w s'.heap S (ns.take i) := hS.at fun o e => hm.heap S o hSw e
    show wpAny _ A.in1 (holding [Value.str z t] (setAdd S (.str z t)) >>= _) _ _ s'
    refine wpAny_bind (wpAny_holding ?_)
    unfold setAdd
    refine wpAny_holding ?_
    refine wpAny_bind ((strKind P w).pyHash (k := z) (is_str z t) ?_)
    have zl := (List.getElem?_eq_some_iff.mp hz).1
    refine addX (s := { s' with toks := s'.toks + 1 }) hS' (by rw [List.length_take]; omega) fun h' b hsb hS2 => ?_
    rw [← take_next' hz] at hS2
    refine wpAny_pure ⟨plainId_quiet F.plain_set_update_loop _, ih (i + 1) _ (by omega) hlt (W.frame _ s' _ _ hst' (Nat.le_succ _) fun b hb o e => ?_) hS2 fun s'' hm'' hS'' => ?_⟩
    · rw [hsb.2 b (fun h : b = S => hSf (by rw [← h]; exact hb))]; exact e
    · refine hR s'' (Moved.trans W.gtrans ((hm.mono hsub).then_heap (Nat.le_succ _) fun b o hb e => ?_) hm'') hS''
      rw [hsb.2 b (fun h : b = S => hb (by rw [h]; exact List.mem_cons_self))]; exact e
/-- set.__init__ of a new set and a tuple of texts -/
theorem init_x {l S : Addr} {items : Array Value} {ns : List Str} {R : Result → Shared → Prop} (hh : A.handled = none) (hS : s.heap.get? S = some (newSet w)) (hl : s.heap.IsTuple l items) (hlS : l ≠ S) (hit : ∀ (i : Nat) (v : Value), items[i]? = some v → ∃ k t, ns[i]? = some k ∧ v = .str k t)
    (hz : items.size = ns.length) (hb : ns.length + 1 < scanBound)
    (h : ∀ (h' : Heap) (tk : Nat), SetX w h' S ns → (∀ b o, b ≠ S → s.heap.get? b = some o → h'.get? b = some o) → R (.ok (.ret .none)) { s with heap := h', toks := tk }) :
    wpAny (model P w) A.in1 (Builtin.«set.__init__» ⟨[.ref S, .ref l], []⟩) (fun fin s' => match fin with
      | .done f => R (.ok f) s'
      | .again c' => c'.quiet = true ∧ codeAny (model P w) A c' R s') (fun e s' => R (.error e) s') s := by
  obtain ⟨ol, hol, hcl, nl, hdl⟩ := hl
  obtain ⟨ocls, odict, odata, oslots⟩ := ol
  simp only at hcl hdl
  subst hcl; subst hdl
  have hl1 : s.heap.IsTuple l items := ⟨_, hol, rfl, nl, rfl⟩
  have hsls := F.sub_tuple_set
  have hslf := F.sub_tuple_frozenset
  have hne : (Value.type "tuple" == Value.type "dict") = false := by decide
  have hT : s.TypeIs (.ref S) "set" := ⟨_, hS, rfl⟩
  unfold Builtin.«set.__init__» noKeywords Builtin.Frozenset.updateFrom
  generalize hPI : pyIter = PI
  wp_walk
  subst hPI
  refine wpAny_pyIter_tuple hl1 ?_
  refine wpAny_bind (wpAny_runValue ?_)
  have hhA : A.in1.in1.handled = none := by simp [hh]
  have hneI : l ≠ s.heap.objs.size := Nat.ne_of_lt (Heap.lt_size hol)
  have hSs : S < s.heap.objs.size := Heap.lt_size hS
  have hSf : S ∉ [s.heap.objs.size, l] := by
    simp only [List.mem_cons, List.mem_singleton, List.not_mem_nil, or_false, not_or]
    exact ⟨Nat.ne_of_lt hSs, fun e => hlS e.symm⟩
  have up := fun R' => update_x (P := P) (w := w) (A := A.in1) (R := R') ((Walks.tuple hhA _ l hneI items).toS) S hSf ns hz hb hit (items.size - 0) 0
    { s with heap := s.heap.push { cls := .type "tuple_iterator", data := .fields #[.ref l, .int 0 0] } } (by omega) (Nat.zero_le _) ⟨⟨_, Heap.get?_push_size _ rfl, rfl, rfl⟩, hl1.push _⟩
    (by
      rw [List.take_zero]
      exact newSet_x (Heap.get?_push_of_some _ hS))
  refine up _ fun s' hm hS' => ?_
  obtain ⟨h', g2, d', tk', os'⟩ := s'
  have eg : g2 = s.gens := hm.gens
  have ed : d' = s.drawn := hm.drawn
  have eo : os' = s.os := hm.os
  subst eg; subst ed; subst eo
  show wpAny _ _ _ _ _ _
  refine wpAny_pure ?_
  show wpAny _ _ (ret Value.none) _ _ _
  refine wpAny_pure (h h' tk' hS' fun b o hb e => ?_)
  have hb0 : b < s.heap.objs.size := Heap.lt_size e
  exact hm.heap b o (by simp only [List.mem_cons, List.mem_singleton, List.not_mem_nil, or_false, not_or]; exact ⟨hb, Nat.ne_of_lt hb0⟩) (Heap.get?_push_of_some _ e)
set_option maxHeartbeats 6400000 in
/-- set(t), t a tuple of texts -/
theorem call_setX {l : Addr} {items : Array Value} {ns : List Str} {Q : Value → Shared → Prop} (hh : A.handled = none) (hl : s.heap.IsTuple l items) (hit : ∀ (i : Nat) (v : Value), items[i]? = some v → ∃ k t, ns[i]? = some k ∧ v = .str k t)
    (hz : items.size = ns.length) (hb : ns.length + 1 < scanBound)
    (h : ∀ (h' : Heap) (tk : Nat), SetX w h' s.heap.objs.size ns → (∀ b o, s.heap.get? b = some o → h'.get? b = some o) → Q (.ref s.heap.objs.size) { s with heap := h', toks := tk }) :
    wpAny (model P w) A (call (.type "set") [.ref l]) Q E s := by
  obtain ⟨c, tl, hmro⟩ := F.called_set.mro
  have hmade := F.called_set.made
  have hsub := F.called_set.sub
  refine wpAny_call (codeAny_of_tree ?_)
  show wpAny _ _ (callAny (.type "set") _) _ _ _
  refine wpAny_pure ⟨Code.quiet_builtin _ (by decide +kernel), codeAny_builtin F.entry_type_call ?_⟩
  rw [Around.under_plain (weight_type_call_type "set" [.ref l] []) rfl]
  have h1 := F.called_set.notType
  have h2 := F.called_set.canCreate
  have hct := F.typeCall_set_1 (.ref l)
  repeat (any_goals (first | assumption | wp_step))
  refine codeAny_mono (code_set_led1 (.ref l) (E := E) (Q₁ := fun obj s₁ => obj = .ref s.heap.objs.size ∧ s₁ = { s with heap := s.heap.push (newSet w) }) ⟨rfl, rfl⟩) fun r s₁ hr => ?_
  cases r with
  | error e => exact hr
  | ok fl =>
    cases fl with
    | ret obj =>
      obtain ⟨rfl, rfl⟩ := hr
      have hS : (s.heap.push (newSet w)).get? s.heap.objs.size = some (newSet w) := Heap.get?_push_size _ rfl
      have hT : Shared.TypeIs { s with heap := s.heap.push (newSet w) } (.ref s.heap.objs.size) "set" := ⟨_, hS, rfl⟩
      have hli := F.called_set.init.lookup
      have hbi := F.called_set.init.bind (.ref s.heap.objs.size)
      repeat (any_goals (first | assumption | wp_step))
      refine codeAny_mono (codeAny_call_builtin (R := wants (fun r s₂ => r = .none ∧ ∃ h' tk, s₂ = { s with heap := h', toks := tk } ∧ SetX w h' s.heap.objs.size ns ∧ (∀ b o, s.heap.get? b = some o → h'.get? b = some o)) E) F.called_set.init.plain F.entry_set_init
        (check_set_init_1 hT ?_)) fun r₂ s₂ hr₂ => ?_
      · have hlS : l ≠ s.heap.objs.size := by
          obtain ⟨o, ho, _⟩ := hl
          exact Nat.ne_of_lt (Heap.lt_size ho)
        refine init_x (s := { s with heap := s.heap.push (newSet w) }) (ns := ns) ?hh hS (hl.push _) hlS hit hz hb fun h' tk x k => ⟨rfl, h', tk, rfl, x, fun b o e => k b o (Nat.ne_of_lt (Heap.lt_size e)) (Heap.get?_push_of_some _ e)⟩
        case hh => simp [hh]
      · cases r₂ with
        | error e => exact hr₂
        | ok fl₂ =>
          cases fl₂ with
          | ret r =>
            obtain ⟨rfl, h', tk, rfl, x, k⟩ := hr₂
            repeat (any_goals (first | assumption | wp_step))
            exact h _ _ x k
          | _ => exact hr₂.elim
    | _ => exact hr.elim
end
end Lw

set_option maxHeartbeats 3200000
/-! sorted of a set of texts; both as rules -/
namespace Lw
open PySem PySem.Spec PyProof.Rows L2 PySem.Froz PySem.Calls
open PySem.W (sortingHeap list_sort_vals)
abbrev isTx (v : Value) (k : Str) : Prop := ∃ t, v = .str k t
theorem each_tx {w : World} : ∀ {vs : List Value}, (∀ v ∈ vs, ∃ k t, v = Value.str k t) → PySem.W.EachIs isTx vs (vs.map fun v => xKey (0, v))
  | [], _ => .nil
  | v :: vs, h => by
    obtain ⟨k, t, rfl⟩ := h v List.mem_cons_self
    exact .cons ⟨t, rfl⟩ (each_tx (w := w) fun u hu => h u (List.mem_cons_of_mem _ hu))
theorem tx_vals : ∀ {ps : List Str} {its : List Value}, PySem.W.EachIs isTx its ps → Vals (ps.map V.str) its
  | _, _, .nil => .nil
  | _, _, .cons h1 h2 => .cons (by obtain ⟨t, rfl⟩ := h1; exact ⟨t, rfl⟩) (tx_vals h2)
section
variable {P : Program} {w : World} {A : Around} {E : Value → Shared → Prop} {s : Shared}
theorem sortedX {a : Addr} {ks : List Str} {Q : Value → Shared → Prop} (R : SetX w s.heap a ks) (hh : A.handled = none) (hu : A.units + 20 < cLine)
    (hQ : ∀ s' p (out : Array Value) (c : Nat) (ys : List Str), (∀ b o, s.heap.get? b = some o → s'.heap.get? b = some o) → s'.gens = s.gens → s'.os = s.os → s.heap.objs.size ≤ p →
      s'.heap.get? p = some (seqObj "list" out c) → PySem.W.EachIs isTx out.toList ys → Asc id ys → (∀ k, k ∈ ys ↔ k ∈ ks) → ys.length ≤ ks.length → Q (.ref p) s') :
    wpAny (model P w) A (call (.builtin "sorted") [.ref a]) Q E s := by
  obtain ⟨o, es, ep, t, ho, hex, hd, H, hn, hb, hf, hr, hl⟩ := R
  have b0 : es.size < scanBound := by omega
  have sb : scanBound = 4096 := rfl
  refine Calls.call_function_entry kind_sorted plain_sorted entry_sorted (args_sorted1 _) ?_
  unfold Builtin.«sorted»
  refine wpAny_bind (m := checkCount "sorted" 1 1 _) (wpAny_pure ?_)
  refine wpAny_bind (collect_set (A := A.in1) hh ⟨o, ho, hex.1, hd⟩ hf b0 hr hl fun s1 vs k1 hz g1 o1 pm => ?_)
  have hvl : vs.length ≤ ks.length := by
    rw [pm.length_eq, List.length_map, Array.length_toList]
    exact hn
  have few : vs.length ≤ sizeLine := by rw [sizeLine_eq]; omega
  have str : ∀ v ∈ vs, ∃ k t, v = Value.str k t := fun v hv => by
    obtain ⟨e, he, q⟩ := List.mem_map.mp (pm.mem_iff.mp hv)
    obtain ⟨k, tk, h1, _⟩ := H.1 e he
    exact ⟨k, tk, by rw [← q]; exact h1⟩
  have hI := each_tx (w := w) str
  have pk : (vs.map fun v => xKey (0, v)).Perm (es.toList.map xKey) := by
    have q := pm.map fun v => xKey (0, v)
    rw [List.map_map] at q
    exact q
  generalize vs.map (fun v => xKey (0, v)) = bs at hI pk
  have nd : bs.Nodup := pk.nodup_iff.mpr H.2.1
  have hal : PySem.W.AllAlike (bs.map PyData.str) := PySem.W.AllAlike.of (enc := PyData.str) fun b b' => by simp [PySem.W.alike]
  have hso : PySem.W.Sortable (bs.map PyData.str) := PySem.W.Sortable.others (enc := PyData.str) fun b => ⟨nofun, nofun⟩
  have er : ∀ h' : Heap, PySem.W.EachIs (fun v b => ∃ as, PySem.Reads h' v (PyData.str b) as) vs bs := fun h' => hI.mono fun v b ⟨t, e⟩ => ⟨[], by subst e; exact .str b t⟩
  refine wpAny_bind (wpAny_newList ?_ few)
  have hoL : (s1.heap.push (seqObj "list" vs.toArray 0)).get? s1.heap.objs.size = some (seqObj "list" vs.toArray 0) := Heap.get?_push_size _ rfl
  have S := PySem.W.SortsAt.data (prog := P) (w := w) (A := A.in1.in1) (s := { s1 with heap := sortingHeap (s1.heap.push (seqObj "list" vs.toArray 0)) s1.heap.objs.size vs })
    (PySem.W.each_map (R := fun v d => ∃ as, PySem.Reads _ v d as) PyData.str (er _)) hal hso (fun d hd => by
      obtain ⟨b, _, rfl⟩ := List.mem_map.mp hd
      simp [PyData.depth]
      omega)
  have got := PySem.W.sortVals_data false hI (er (sortingHeap (s1.heap.push (seqObj "list" vs.toArray 0)) s1.heap.objs.size vs)) hal
  refine wpAny_bind (wpAny_holding (wpAny_call_entry slot_list_sort ⟨_, hoL, rfl⟩ entry_list_sort ?run (args_list_sort _)))
  case run =>
    refine wpAny_mono (list_sort_vals (s := { s1 with heap := s1.heap.push (seqObj "list" vs.toArray 0) }) (P := fun f s' => f = .done (.ret .none) ∧ s' = { s1 with heap := sortedHeap (s1.heap.push (seqObj "list" vs.toArray 0)) s1.heap.objs.size vs (PySem.W.sortVals (PySem.W.dataKind (sortingHeap (s1.heap.push (seqObj "list" vs.toArray 0)) s1.heap.objs.size vs) (bs.map PyData.str)) false vs vs).toArray }) hoL S few ⟨rfl, rfl⟩) (fun f s' hf => ?_) fun _ _ z => z
    obtain ⟨rfl, rfl⟩ := hf
    refine ⟨_, rfl, ?_⟩
    obtain ⟨c, hc⟩ := sortedHeap_at (vs := vs) (out := (PySem.W.sortVals (PySem.W.dataKind (sortingHeap (s1.heap.push (seqObj "list" vs.toArray 0)) s1.heap.objs.size vs) (bs.map PyData.str)) false vs vs).toArray) hoL
    refine wpAny_pure ⟨_, rfl, hQ _ s1.heap.objs.size _ c (srtN bs) (fun b u e => ?_) g1 o1 hz hc (by rw [List.toList_toArray]; exact got) (srtN_asc nd) (fun k => ?_) ?_⟩
    · have q := k1 b u e
      have hlt := Heap.lt_size q
      show (sortedHeap (s1.heap.push (seqObj "list" vs.toArray 0)) s1.heap.objs.size vs _).get? b = some u
      rw [sortedHeap_old (Nat.ne_of_lt hlt) (by rw [size_push']; exact Nat.lt_succ_of_lt hlt)]
      exact Heap.get?_push_of_some _ q
    · rw [(srtN_perm bs).mem_iff, pk.mem_iff]
      exact H.2.2 k
    · rw [(srtN_perm bs).length_eq, pk.length_eq, List.length_map, Array.length_toList]
      exact hn
end
/-- the set of the texts ks at a -/
def SetXO (w : World) (a : Addr) (ks : List Str) : HO := .ext fun h => SetX w h a ks
theorem setXO_new {w : World} {P : Program} {H : Hp} {h : Heap} {a : Addr} {ks : List Str} (R : SetX w h a ks) : ObjOk P w H h a (SetXO w a ks) := by
  have ⟨o, _, _, _, ho, _⟩ := R
  exact ⟨R, ⟨o, ho⟩, fun h1 h2 p k => SetX.at p k⟩
/-- set(t), t a tuple of texts -/
def rSetX (K : PySem.W.Frag) (w : World) : List V → Hp → VK → Prop := fun xs H Q => ∃ (l : Addr) (ns : List Str), xs = [.ref l] ∧ SqT K H l (ns.map V.str) ∧ ns.length ≤ 4000 ∧ ∀ a, H a = none → Q (.ref a) (upd H a (SetXO w a ns))
theorem str_at : ∀ {ns : List Str} {us : List Value}, Vals (ns.map V.str) us → us.length = ns.length ∧ ∀ (i : Nat) (v : Value), us[i]? = some v → ∃ k t, ns[i]? = some k ∧ v = .str k t
  | [], _, .nil => ⟨rfl, fun i v h => by simp at h⟩
  | n :: ns, _, .cons r t => by
    obtain ⟨h1, h2⟩ := str_at t
    refine ⟨by simp [h1], fun i v h => ?_⟩
    cases i with
    | zero =>
      obtain ⟨tk, rfl⟩ := r
      cases h
      exact ⟨n, tk, rfl, rfl⟩
    | succ i => exact h2 i v h
theorem cr_setX {X : Cx} (hc : X.calm = true) : CallR X (.type "set") (rSetX X.K X.w) := by
  intro pins s σ H xs us Q I r h
  obtain ⟨l, ns, rfl, hl, hf, q⟩ := h
  rw [Vals.ref1 r]
  obtain ⟨its, rv, pl, hz⟩ := I.tuple hl
  have hn : H s.heap.objs.size = none := I.hok.fresh (Nat.le_refl _)
  obtain ⟨h1, h2⟩ := str_at rv
  have sb : scanBound = 4096 := rfl
  refine call_setX (P := X.prog) (w := X.w) (ns := ns) (I.ok.hd hc) pl (fun i v hv => h2 i v (by simpa using hv)) (by simpa using h1) (by omega) fun h' tk x k => ?_
  exact ⟨.ref s.heap.objs.size, upd H s.heap.objs.size (SetXO X.w s.heap.objs.size ns), I.laid (t' := tk) k (Nat.le_refl _) (setXO_new x), rfl, q _ hn⟩
/-- sorted(set of texts) -/
def rSortedX (w : World) : List V → Hp → VK → Prop := fun vs H Q => ∃ (a : Addr) (ks : List Str), vs = [V.ref a] ∧ H a = some (SetXO w a ks) ∧
  ∀ (ys : List Str) (p : Addr), Asc id ys → (∀ k, k ∈ ys ↔ k ∈ ks) → H p = none → Q (.ref p) (upd H p (.lst (ys.map V.str)))
theorem cr_sortedX {X : Cx} {k : Nat} (hc : X.calm = true) (hr : Room k X.A) : CallR X (.builtin "sorted") (rSortedX X.w) := by
  intro pins s σ H vs us Q I r h
  obtain ⟨a, ks, rfl, ha, q⟩ := h
  have R : SetX X.w s.heap a ks := (I.hok a _ ha).1
  rw [Vals.ref1 r]
  have room := hr.units
  refine sortedX R (I.ok.hd hc) (by omega) fun s' p out c ys k g o hp hg hi hs hm hle => ?_
  have sb : scanBound = 4096 := rfl
  have lk : ks.length ≤ 4096 := by
    obtain ⟨_, _, _, _, _, _, _, _, _, z, _⟩ := R
    omega
  have hlen : (ys.map V.str).length ≤ sizeLine := by rw [List.length_map, sizeLine_eq]; omega
  have hn : H p = none := I.hok.fresh hp
  have J : Inv X pins σ (upd H p (.lst (ys.map V.str))) { s with heap := s'.heap, gens := s'.gens, drawn := s'.drawn, toks := s'.toks } :=
    I.call (ch := []) (Un.laid k hp hn) (I.hok.laid k hp ⟨hlen, out.toList, c, tx_vals hi, hg⟩) (by rw [g]; exact I.bare) (fun _ z => nomatch z)
  have e : s' = { s with heap := s'.heap, gens := s'.gens, drawn := s'.drawn, toks := s'.toks } := by
    cases s'
    cases s
    cases o
    rfl
  rw [e]
  exact ⟨.ref p, _, J, rfl, q ys p hs hm hn⟩
end Lw

set_option maxHeartbeats 2000000
/-! a function with two parameters and a star -/
namespace Lw
open PySem PySem.Spec PyProof.Rows L2 StX
theorem FnIs.star2 {P : Program} {w : World} {K : PySem.W.Frag} {mg : Str → Option Value} {base : Heap} {x qual : Str} {st : Stmt} {f : Addr} {N : List Str} {p1 p2 pv : Str} {k : Nat} {sp : Sp} (h : FnIs K x qual st f) (S : FnScope N [p1, p2, pv] (defScope st))
    (h0 : ∀ (kV doc pm : Value) (an : Option Addr) (cdv ct : Value) (a b : Value), bindArgs (PySem.W.fnOf x qual (defArgs st) (defBody st) (defScope st) .none kV doc pm an cdv ct) ⟨[a, b], []⟩ = (newTuple [] >>= fun t => pure [(p1, a), (p2, b), (pv, t)]))
    (h1 : ∀ (kV doc pm : Value) (an : Option Addr) (cdv ct : Value) (a b r : Value) (rs : List Value), bindArgs (PySem.W.fnOf x qual (defArgs st) (defBody st) (defScope st) .none kV doc pm an cdv ct) ⟨a :: b :: r :: rs, []⟩ = (newTuple (r :: rs) >>= fun t => pure [(p1, a), (p2, b), (pv, t)]))
    (hbody : ∀ (cdv : Value) (A : Around) (outer : List Env) (s : Shared) (H : Hp) (vs : List V) (Q : VK) (E : XK), Room k (A.deeper (envOfC qual (defScope st) s.heap.objs.size f cdv)) → sp vs H Q E →
      ∃ t, PSs (cxOf CX0 P w K mg base N qual (defScope st) f cdv A outer s H E).nox (defBody st) t ∧ t { nx := fun _ H' => Q .non H', rt := Q } (start N vs) H) :
    FnR P w K mg base CX0 (k + 1) f (fun vs H Q E => ∃ ws rest, vs = ws ++ rest ∧ ws.length = 2 ∧ rest.length ≤ sizeLine ∧ ∀ p, H p = Option.none → sp (ws ++ [V.ref p]) (upd H p (.tup rest)) Q E) := by
  obtain ⟨oc, od, kV, doc, pm, an, cdv, ct, osl, lk, hcd, kp⟩ := h
  exact fn_star (ps := [p1, p2]) (pv := pv) lk hcd S cxUp_none (bind_star2 (B := fun us => bindArgs (PySem.W.fnOf x qual (defArgs st) (defBody st) (defScope st) .none kV doc pm an cdv ct) ⟨us, []⟩) (h0 kV doc pm an cdv ct) (h1 kV doc pm an cdv ct)) fun A outer s H vs Q E hr hsp => by
    obtain ⟨t, h, q⟩ := hbody cdv A outer s H vs Q E hr hsp
    exact ⟨t, h.nox, q⟩
end Lw
namespace Lj
open PySem PySem.Spec PyProof.Rows L2 Lw
abbrev stSp2 (sp : Sp) : Sp := fun vs H Q E => ∃ ws rest, vs = ws ++ rest ∧ ws.length = 2 ∧ rest.length ≤ sizeLine ∧ ∀ p, H p = Option.none → sp (ws ++ [V.ref p]) (upd H p (.tup rest)) Q E
end Lj

set_option maxHeartbeats 1000000
/-! greater lengths, edges less and more: on paper -/
namespace Lj
open PySem Lw
theorem paired_fun {α β : Type} [DecidableEq α] [Inhabited β] {R : α → β → Prop} : ∀ {as : List α} {bs : List β}, as.Nodup → Paired R as bs → ∃ φ : α → β, bs = as.map φ ∧ ∀ a ∈ as, R a (φ a)
  | _, [], _, .nil => ⟨fun _ => default, rfl, fun a h => absurd h (by simp)⟩
  | a :: as, b :: bs, nd, .cons x t => by
    obtain ⟨n1, n2⟩ := List.nodup_cons.mp nd
    obtain ⟨φ, e, h⟩ := paired_fun n2 t
    refine ⟨fun y => if y = a then b else φ y, ?_, fun y hy => ?_⟩
    · have tl : as.map (fun y => if y = a then b else φ y) = as.map φ := List.map_congr_left fun y hy => if_neg fun z : y = a => n1 (by rw [← z]; exact hy)
      rw [List.map_cons, tl, if_pos rfl, e]
    · show R y (if y = a then b else φ y)
      by_cases q : y = a
      · rw [if_pos q, q]
        exact x
      · rw [if_neg q]
        exact h y ((List.mem_cons.mp hy).resolve_left q)
/-- the same ends, for these edges -/
def SameOn (φ : Eg → Eg) (es : List Eg) : Prop := ∀ e ∈ es, ∀ x, tch (φ e) x = tch e x ∧ (tch e x = true → oth (φ e) x = oth e x)
theorem Way.unmapOn {φ : Eg → Eg} {es fs : List Eg} (s : SameOn φ es) (sub : ∀ f ∈ fs, f ∈ es.map φ) {u x : Str} {p : List Eg} {ns : List Str} (w : Way fs u p ns x) : ∃ q, p = q.map φ ∧ Way es u q ns x := by
  induction w with
  | nil => exact ⟨[], rfl, .nil⟩
  | @snoc p ns x e w he ht hn ih =>
    obtain ⟨q, rfl, k⟩ := ih
    obtain ⟨g, hg, rfl⟩ := List.mem_map.mp (sub _ he)
    have t : tch g x = true := by rw [← (s g hg x).1]; exact ht
    have o := (s g hg x).2 t
    rw [o] at hn
    rw [o]
    exact ⟨q ++ [g], by rw [List.map_append]; rfl, .snoc k hg t hn⟩
/-- the second is not less than the first -/
def NoLess (r1 r2 : Option Int) : Prop := ∀ m2, r2 = some m2 → ∃ m1, r1 = some m1 ∧ m1 ≤ m2
/-- longer: the same edge with a length that is not less -/
def Lon (e f : Eg) : Prop := f.1 = e.1 ∧ f.2.1 = e.2.1 ∧ f.2.2.1 = e.2.2.1 ∧ e.2.2.2 ≤ f.2.2.2 ∧ f.2.2.2 ≤ e.2.2.2 + 500
theorem ln_grow {φ : Eg → Eg} : ∀ {q : List Eg}, (∀ e ∈ q, e.2.2.2 ≤ (φ e).2.2.2) → ln q ≤ ln (q.map φ)
  | [], _ => Int.le_refl _
  | e :: q, h => by
    rw [List.map_cons, ln_cons, ln_cons]
    have := ln_grow (q := q) fun f hf => h f (List.mem_cons_of_mem _ hf)
    have := h e List.mem_cons_self
    omega
theorem lon_same {φ : Eg → Eg} {es : List Eg} (h : ∀ e ∈ es, Lon e (φ e)) : SameOn φ es := fun e he x => by
  obtain ⟨_, a, b, _⟩ := h e he
  unfold tch oth
  rw [a, b]
  exact ⟨rfl, fun _ => rfl⟩
theorem Far.grow {φ : Eg → Eg} {es : List Eg} (h : ∀ e ∈ es, Lon e (φ e)) {u v : Str} {r1 r2 : Option Int} (k : Far es u v r1) (l : Far (es.map φ) u v r2) : NoLess r1 r2 := fun m2 e2 => by
  obtain ⟨p, ns, w, rfl⟩ := l.2 m2 e2
  obtain ⟨q, rfl, w'⟩ := w.unmapOn (lon_same h) fun _ h => h
  obtain ⟨m1, e1, le⟩ := k.1 q ns w'
  have := ln_grow (φ := φ) (q := q) fun e he => (h e (w'.mem e he)).2.2.2.1
  exact ⟨m1, e1, by omega⟩
theorem Far.fewer {es fs : List Eg} (h : ∀ e ∈ fs, e ∈ es) {u v : Str} {r1 r2 : Option Int} (k : Far es u v r1) (l : Far fs u v r2) : NoLess r1 r2 := fun m2 e2 => by
  obtain ⟨p, ns, w, rfl⟩ := l.2 m2 e2
  obtain ⟨m1, e1, le⟩ := k.1 p ns (w.mono h)
  exact ⟨m1, e1, le⟩
theorem cnt_lon {φ : Eg → Eg} (z : Str) : ∀ {es : List Eg}, (∀ e ∈ es, Lon e (φ e)) → Lw.cnt (es.map φ) z = Lw.cnt es z
  | [], _ => rfl
  | e :: es, h => by
    rw [List.map_cons, Lw.cnt_cons, Lw.cnt_cons, cnt_lon z fun f hf => h f (List.mem_cons_of_mem _ hf)]
    obtain ⟨_, a, b, _⟩ := h e List.mem_cons_self
    unfold ends
    rw [a, b]
theorem Calm.grow {φ : Eg → Eg} {es : List Eg} (h : ∀ e ∈ es, Lon e (φ e)) (c : Calm es) : Calm (es.map φ) := fun A ev => by
  rw [List.filter_map]
  have sub : ∀ e ∈ es.filter (A ∘ φ), Lon e (φ e) := fun e he => h e (List.mem_filter.mp he).1
  have := c (A ∘ φ) fun z => by
    have := ev z
    rw [List.filter_map, cnt_lon z sub] at this
    exact this
  have g := ln_grow (φ := φ) (q := es.filter (A ∘ φ)) fun e he => (sub e he).2.2.2.1
  omega
theorem Calm.sub {es fs : List Eg} (nd : es.Nodup) (s : fs.Sublist es) (c : Calm es) : Calm fs := fun A ev => by
  have nf := s.nodup nd
  have p : (es.filter fun e => A e && decide (e ∈ fs)).Perm (fs.filter A) := (List.perm_ext_iff_of_nodup (nd.filter _) (nf.filter _)).mpr fun e => by
    rw [List.mem_filter, List.mem_filter, Bool.and_eq_true, decide_eq_true_iff]
    exact ⟨fun q => ⟨q.2.2, q.2.1⟩, fun q => ⟨s.subset q.1, q.2, q.1⟩⟩
  rw [← ln_permP p]
  refine c _ fun z => ?_
  rw [Lw.cnt_perm p]
  exact ev z
end Lj

set_option maxHeartbeats 1000000
/-! paths step by step, and backwards -/
namespace Lj
open PySem Lw
theorem Way.at {es : List Eg} {u v : Str} {p : List Eg} {ns : List Str} (w : Way es u p ns v) : ∀ (i : Nat) (e : Eg), p[i]? = some e → ∃ ms x, Way es u (p.take i) ms x ∧ e ∈ es ∧ tch e x = true ∧ oth e x ∉ ms := by
  induction w with
  | nil =>
    intro i e h
    simp at h
  | @snoc p ns x e' w he ht hn ih =>
    intro i e h
    by_cases l : i < p.length
    · rw [List.getElem?_append_left l] at h
      obtain ⟨ms, y, h1, h2⟩ := ih i e h
      exact ⟨ms, y, by rw [List.take_append_of_le_length (Nat.le_of_lt l)]; exact h1, h2⟩
    · have k : i = p.length := by
        have := (List.getElem?_eq_some_iff.mp h).1
        simp at this
        omega
      subst k
      rw [List.getElem?_append_right (Nat.le_refl _), Nat.sub_self] at h
      cases h
      exact ⟨ns, x, by rw [List.take_append_of_le_length (Nat.le_refl _), List.take_length]; exact w, he, ht, hn⟩
theorem Way.len {es : List Eg} {u v : Str} {p : List Eg} {ns : List Str} (w : Way es u p ns v) : ns.length = p.length + 1 := by
  induction w with
  | nil => rfl
  | snoc w he ht hn ih => rw [List.length_append, List.length_append, ih]; rfl
theorem Way.snd {es : List Eg} {u v : Str} {p : List Eg} {ns : List Str} (w : Way es u p ns v) : ∃ ms, ns = ms ++ [v] := by
  cases w with
  | nil => exact ⟨[], rfl⟩
  | snoc w he ht hn => exact ⟨_, rfl⟩
theorem Way.fst {es : List Eg} {u v : Str} {p : List Eg} {ns : List Str} (w : Way es u p ns v) : ns[0]? = some u := by
  induction w with
  | nil => rfl
  | snoc w he ht hn ih => rw [List.getElem?_append_left (by rw [w.len]; omega)]; exact ih
theorem Way.cons {es : List Eg} {x y v : Str} {e : Eg} {p : List Eg} {ns : List Str} (w : Way es x p ns v) (he : e ∈ es) (t : tch e y = true) (ho : oth e y = x) (hy : y ∉ ns) : Way es y (e :: p) (y :: ns) v := by
  induction w with
  | nil =>
    have := Way.snoc (Way.nil (es := es) (u := y)) he t (by rw [ho]; intro z; exact hy (by rw [List.mem_singleton.mp z]; exact List.mem_singleton.mpr rfl))
    rw [ho] at this
    exact this
  | @snoc p ns x' e' w he' ht' hn' ih =>
    have k := ih fun z => hy (List.mem_append_left _ z)
    refine Way.snoc k he' ht' fun z => ?_
    rcases List.mem_cons.mp z with z | z
    · exact hy (List.mem_append_right _ (List.mem_singleton.mpr z.symm))
    · exact hn' z
theorem Way.rev {es : List Eg} (p2 : Prop2 es) {u v : Str} {p : List Eg} {ns : List Str} (w : Way es u p ns v) : Way es v p.reverse ns.reverse u := by
  induction w with
  | nil => exact .nil
  | @snoc p ns x e w he ht hn ih =>
    obtain ⟨h1, h2⟩ := oth_oth (p2 e he) ht
    rw [List.reverse_append, List.reverse_append]
    exact ih.cons he h2 h1 fun z => hn (List.mem_reverse.mp z)
theorem Far.symm {es : List Eg} (p2 : Prop2 es) {u v : Str} {r : Option Int} (h : Far es u v r) : Far es v u r := by
  refine ⟨fun p ns w => ?_, fun m hm => ?_⟩
  · obtain ⟨m, hm, l⟩ := h.1 _ _ (w.rev p2)
    exact ⟨m, hm, by rw [ln_permP p.reverse_perm] at l; exact l⟩
  · obtain ⟨p, ns, w, l⟩ := h.2 m hm
    exact ⟨_, _, w.rev p2, by rw [ln_permP p.reverse_perm]; exact l⟩
/-- a path in the network as it is kept -/
theorem Way.canon {es : List Eg} {u x : Str} {p : List Eg} {ns : List Str} (w : Way es u p ns x) : Way (srtE (es.map norm)) u (p.map norm) ns x := (w.map same_norm).mono fun e he => (srtE_perm _).mem_iff.mpr he
theorem names_norm (p : List Eg) : (p.map norm).map (·.1) = p.map (·.1) := by
  rw [List.map_map]
  rfl
end Lj

set_option maxHeartbeats 1000000
/-! what can be reached past barred nodes; what is left of a path -/
namespace Lj
open PySem Lw
/-- z can be reached from s past no barred node -/
inductive Rc (es : List Eg) (B : List Str) (s : Str) : Str → Prop
  | start : Rc es B s s
  | step {x : Str} {e : Eg} : Rc es B s x → e ∈ es → tch e x = true → oth e x ∉ B → Rc es B s (oth e x)
theorem Way.reach {es : List Eg} {B : List Str} {s v : Str} {p : List Eg} {ns : List Str} (w : Way es s p ns v) : (∀ y ∈ ns, y = s ∨ y ∉ B) → Rc es B s v := by
  induction w with
  | nil => exact fun _ => .start
  | @snoc p ns x e w he ht hn ih =>
    intro h
    rcases h (oth e x) (by simp) with z | z
    · rw [z]
      exact .start
    · exact .step (ih fun y hy => h y (List.mem_append_left _ hy)) he ht z
theorem Way.drop {es : List Eg} {u v : Str} {p : List Eg} {ns : List Str} (w : Way es u p ns v) : ∀ (i : Nat) (z : Str), ns[i]? = some z → Way es z (p.drop i) (ns.drop i) v := by
  induction w with
  | nil =>
    intro i z h
    cases i with
    | zero =>
      cases h
      exact .nil
    | succ i => simp at h
  | @snoc p ns x e w he ht hn ih =>
    intro i z h
    have ln := w.len
    by_cases l : i < ns.length
    · rw [List.getElem?_append_left l] at h
      have k := ih i z h
      rw [List.drop_append_of_le_length (by omega), List.drop_append_of_le_length (by omega)]
      exact .snoc k he ht fun m => hn (List.mem_of_mem_drop m)
    · have k : i = ns.length := by
        have := (List.getElem?_eq_some_iff.mp h).1
        simp at this
        omega
      subst k
      rw [List.getElem?_append_right (Nat.le_refl _), Nat.sub_self] at h
      cases h
      rw [List.drop_append_of_le_length (Nat.le_refl _), List.drop_length, List.drop_of_length_le (by rw [List.length_append, ln]; simp)]
      exact .nil
/-- a way's later nodes can be reached from its end past the earlier ones -/
theorem Way.behind {es : List Eg} (p2 : Prop2 es) {u v : Str} {p : List Eg} {ns : List Str} (w : Way es u p ns v) {i : Nat} {z : Str} (h : ns[i]? = some z) : Rc es (ns.take i) v z := by
  have k := (w.drop i z h).rev p2
  refine k.reach fun y hy => .inr fun m => ?_
  have hy' : y ∈ ns.drop i := List.mem_reverse.mp hy
  have nd := w.nodes
  rw [← List.take_append_drop i ns] at nd
  exact (List.nodup_append.mp nd).2.2 y m y hy' rfl
theorem Way.take {es : List Eg} {u v : Str} {p : List Eg} {ns : List Str} (w : Way es u p ns v) (i : Nat) (hi : i ≤ p.length) : ∃ x, Way es u (p.take i) (ns.take (i + 1)) x ∧ ns[i]? = some x := by
  induction w with
  | nil =>
    obtain rfl : i = 0 := by simpa using hi
    exact ⟨u, .nil, rfl⟩
  | @snoc p ns x e w he ht hn ih =>
    have ln := w.len
    by_cases l : i ≤ p.length
    · obtain ⟨y, h1, h2⟩ := ih l
      exact ⟨y, by rw [List.take_append_of_le_length l, List.take_append_of_le_length (by omega)]; exact h1, by rw [List.getElem?_append_left (by omega)]; exact h2⟩
    · have k : i = p.length + 1 := by
        rw [List.length_append] at hi
        simp at hi
        omega
      subst k
      refine ⟨oth e x, ?_, ?_⟩
      · rw [List.take_of_length_le (by simp), List.take_of_length_le (by simp [ln])]
        exact .snoc w he ht hn
      · rw [← ln, List.getElem?_append_right (Nat.le_refl _), Nat.sub_self]
        rfl
/-- one more step of a path that goes on -/
theorem Way.next {es : List Eg} {u v x : Str} {p q : List Eg} {ns ms : List Str} (w : Way es u p ns v) (k : Way es u q ms x) (pre : q <+: p) (ne : v ∉ ms) : ∃ e, e ∈ es ∧ tch e x = true ∧ oth e x ∉ ms ∧ (q ++ [e]) <+: p ∧ q.length < p.length ∧ ns[q.length + 1]? = some (oth e x) ∧ ns.take (q.length + 1) = ms := by
  obtain ⟨r, rfl⟩ := pre
  obtain ⟨y, h1, h2⟩ := w.take q.length (by simp)
  rw [List.take_left] at h1
  obtain ⟨e1, rfl⟩ := h1.det k
  cases r with
  | nil =>
    rw [List.append_nil] at w
    obtain ⟨_, e2⟩ := w.det k
    exact absurd (by rw [e2]; exact k.last) ne
  | cons e r =>
    obtain ⟨ms2, x2, a1, a2, a3, a4⟩ := w.at q.length e (by simp)
    rw [List.take_left] at a1
    obtain ⟨b1, b2⟩ := a1.det k
    subst b1
    subst b2
    refine ⟨e, a2, a3, a4, ⟨r, by simp⟩, by simp, ?_, e1⟩
    obtain ⟨y3, c1, c2⟩ := w.take (q.length + 1) (by simp)
    have t : (q ++ e :: r).take (q.length + 1) = q ++ [e] := by
      rw [List.take_append, List.take_of_length_le (by omega)]
      simp
    rw [t] at c1
    obtain ⟨_, d2⟩ := c1.det (Way.snoc k a2 a3 a4)
    rw [c2, d2]
end Lj

set_option maxHeartbeats 1000000
/-! the search for paths, on paper; lists of lists of edges -/
namespace Lj
open PySem PySem.Spec PyProof.Rows L2 Lw
theorem Way.inn {es : List Eg} {ns : List Str} (en : ∀ e ∈ es, e.2.1 ∈ ns ∧ e.2.2.1 ∈ ns) {u v : Str} (hu : u ∈ ns) {p : List Eg} {ms : List Str} (w : Way es u p ms v) : ∀ y ∈ ms, y ∈ ns := by
  induction w with
  | nil => exact fun y hy => by rw [List.mem_singleton.mp hy]; exact hu
  | @snoc p ms x e w he ht hn ih =>
    intro y hy
    rcases List.mem_append.mp hy with hy | hy
    · exact ih y hy
    · rw [List.mem_singleton.mp hy]
      unfold oth
      split
      · exact (en e he).2
      · exact (en e he).1
theorem Way.stop {es : List Eg} {u g : Str} {p q : List Eg} {ns ms : List Str} (w : Way es u q ns g) (k : Way es u p ms g) (pre : p <+: q) : q = p := by
  obtain ⟨r, rfl⟩ := pre
  obtain ⟨x, h1, h2⟩ := w.take p.length (by simp)
  rw [List.take_left] at h1
  obtain ⟨_, e1⟩ := h1.det k
  subst e1
  obtain ⟨ns0, e2⟩ := w.snd
  have ln := w.len
  have l2 : ns[(p ++ r).length]? = some x := by
    rw [e2, List.length_append] at ln
    simp at ln
    rw [e2, List.getElem?_append_right (by simp; omega)]
    have : (p ++ r).length - ns0.length = 0 := by simp; omega
    rw [this]
    rfl
  have nd := w.nodes
  have i1 := (List.getElem?_eq_some_iff.mp h2)
  have i2 := (List.getElem?_eq_some_iff.mp l2)
  obtain ⟨a1, b1⟩ := i1
  obtain ⟨a2, b2⟩ := i2
  have := (List.getElem_inj (h₀ := a1) (h₁ := a2) nd).mp (by rw [b1, b2])
  rw [List.length_append] at this
  have : r = [] := List.length_eq_zero_iff.mp (by omega)
  rw [this, List.append_nil]
theorem at_pre {p q : List Eg} {e : Eg} (h : (p ++ [e]) <+: q) : q[p.length]? = some e := by
  obtain ⟨r, rfl⟩ := h
  rw [List.append_assoc, List.getElem?_append_right (Nat.le_refl _), Nat.sub_self]
  rfl
theorem pre_at {p q : List Eg} {e : Eg} (h : p <+: q) (k : q[p.length]? = some e) : (p ++ [e]) <+: q := by
  obtain ⟨r, rfl⟩ := h
  rw [List.getElem?_append_right (Nat.le_refl _), Nat.sub_self] at k
  cases r with
  | nil => exact nomatch k
  | cons f r =>
    cases k
    exact ⟨r, by simp⟩
/-- lists of edges, none of them at fl -/
abbrev PthsAt (fl : Addr) (H : Hp) (as : List Addr) (gs : List (List Eg)) : Prop := Paired (fun a g => a ≠ fl ∧ ∃ bs : List Addr, H a = some (.lst (bs.map V.ref)) ∧ EgsAt H bs g) as gs
theorem TK.butL {fl : Addr} {H H' : Hp} {ys : List V} (hf : H fl = some (.lst ys)) (b : But fl H H') : TK H H' := fun a xs h => b a _ (fun z => by rw [z, hf] at h; exact nomatch h) h
theorem PthsAt.but {fl : Addr} {H H' : Hp} {ys : List V} (hf : H fl = some (.lst ys)) (b : But fl H H') {as : List Addr} {gs : List (List Eg)} (h : PthsAt fl H as gs) : PthsAt fl H' as gs :=
  paired_imp (fun a g ⟨n, bs, h1, h2⟩ => ⟨n, bs, b _ _ n h1, h2.tk (TK.butL hf b)⟩) h
theorem PthsAt.ex {fl : Addr} {H H' : Hp} (e : Evl.Ex H H') {as : List Addr} {gs : List (List Eg)} (h : PthsAt fl H as gs) : PthsAt fl H' as gs :=
  paired_imp (fun a g ⟨n, bs, h1, h2⟩ => ⟨n, bs, e _ _ h1, h2.tk (TK.ex e)⟩) h
/-- what stands between the edges of one node: what was found from here on -/
structure Fnd (es : List Eg) (u g : Str) (path : List Eg) (m : Nat) (gs : List (List Eg)) (seen : List Eg) (ext : List (List Eg)) : Prop where
  nd : ext.Nodup
  ok : ∀ q ∈ ext, (∃ ms, Way es u q ms g) ∧ path <+: q ∧ ∃ e ∈ seen, q[path.length]? = some e
  le : (gs ++ ext).length ≤ m
  all : (gs ++ ext).length = m ∨ ∀ q ms e, Way es u q ms g → path <+: q → q[path.length]? = some e → e ∈ seen → q ∈ ext
theorem Fnd.start {es : List Eg} {u g : Str} {path : List Eg} {m : Nat} {gs : List (List Eg)} (h : gs.length ≤ m) : Fnd es u g path m gs [] [] where
  nd := .nil
  ok := fun q hq => absurd hq (by simp)
  le := by simpa using h
  all := .inr fun q ms e _ _ _ he => absurd he (by simp)
/-- no path goes on by this edge -/
theorem Fnd.skip {es : List Eg} {u g : Str} {path : List Eg} {m : Nat} {gs ext : List (List Eg)} {seen : List Eg} {e : Eg} (h : Fnd es u g path m gs seen ext) (no : ∀ q ms, Way es u q ms g → ¬ (path ++ [e]) <+: q) : Fnd es u g path m gs (seen ++ [e]) ext where
  nd := h.nd
  ok := fun q hq => by
    obtain ⟨a, b, f, hf, c⟩ := h.ok q hq
    exact ⟨a, b, f, List.mem_append_left _ hf, c⟩
  le := h.le
  all := h.all.imp id fun k q ms f w p hq hf => by
    rcases List.mem_append.mp hf with hf | hf
    · exact k q ms f w p hq hf
    · rw [List.mem_singleton.mp hf] at hq
      exact absurd (pre_at p hq) (no q ms w)
/-- the paths that go on by this edge -/
theorem Fnd.add {es : List Eg} {u g : Str} {path : List Eg} {m : Nat} {gs ext ex2 : List (List Eg)} {seen : List Eg} {e : Eg} (h : Fnd es u g path m gs seen ext) (ne : e ∉ seen) (nd : ex2.Nodup) (ok : ∀ q ∈ ex2, (∃ ms, Way es u q ms g) ∧ (path ++ [e]) <+: q) (le : (gs ++ ext ++ ex2).length ≤ m)
    (all : (gs ++ ext ++ ex2).length = m ∨ ∀ q ms, Way es u q ms g → (path ++ [e]) <+: q → q ∈ ex2) : Fnd es u g path m gs (seen ++ [e]) (ext ++ ex2) where
  nd := List.nodup_append.mpr ⟨h.nd, nd, fun a ha b hb q => by
    subst q
    obtain ⟨_, _, f, hf, c⟩ := h.ok a ha
    have := at_pre (ok a hb).2
    rw [c] at this
    cases this
    exact ne hf⟩
  ok := fun q hq => by
    rcases List.mem_append.mp hq with hq | hq
    · obtain ⟨a, b, f, hf, c⟩ := h.ok q hq
      exact ⟨a, b, f, List.mem_append_left _ hf, c⟩
    · obtain ⟨a, b⟩ := ok q hq
      exact ⟨a, (List.prefix_append _ _).trans b, e, by simp, at_pre b⟩
  le := by rw [← List.append_assoc]; exact le
  all := by
    rw [← List.append_assoc]
    rcases all with all | all
    · exact .inl all
    · rcases h.all with k | k
      · have e0 : ex2.length = 0 := by
          simp only [List.length_append] at le k
          omega
        left
        rw [List.length_append, e0]
        exact k
      · refine .inr fun q ms f w p hq hf => ?_
        rcases List.mem_append.mp hf with hf | hf
        · exact List.mem_append_left _ (k q ms f w p hq hf)
        · rw [List.mem_singleton.mp hf] at hq
          exact List.mem_append_right _ (all q ms w (pre_at p hq))
theorem atN_nodup {es : List Eg} (h : es.Nodup) (x : Str) : (atN es x).Nodup := h.filter _
end Lj

set_option maxHeartbeats 1000000
/-! a path inside a least join is a shortest one -/
namespace Lj
open PySem Lw
theorem path_in_join {es : List Eg} (nd : es.Nodup) (p2 : Prop2 es) (calm : Calm es) {u v : Str} {A : Sub} (a : IsJ es (ends2 u v) A) (j : JL es (ends2 u v) (some (ln (es.filter A)))) {p : List Eg} {ns : List Str} (w : Way (es.filter A) u p ns v) : ln p = ln (es.filter A) := by
  by_cases ne : u = v
  · subst ne
    have z : ends2 u u = [] := by unfold ends2; rw [if_pos rfl]
    rw [z] at j
    have := calm.zero j
    injection this with this
    rw [w.home, this]
    rfl
  · have z : ends2 u v = [u, v] := by unfold ends2; rw [if_neg ne]
    rw [z] at a j
    have ev := w.rest nd ne a
    have c := calm _ ev
    have m := ln_minus A (fun e => decide (e ∈ p)) (w.set nd).1
    rw [ln_permP (w.set nd).2] at m
    obtain ⟨m', e, l⟩ := (path_least nd p2 calm ne j).1 p ns (w.mono fun e he => (List.mem_filter.mp he).1)
    cases e
    omega
theorem way_in_join {es : List Eg} (p2 : Prop2 es) {u v : Str} {A : Sub} (a : IsJ es (ends2 u v) A) : ∃ p ns, Way (es.filter A) u p ns v := by
  by_cases ne : u = v
  · subst ne
    exact ⟨[], [u], .nil⟩
  · have z : ends2 u v = [u, v] := by unfold ends2; rw [if_neg ne]
    rw [z] at a
    exact a.path p2 ne
end Lj

set_option maxHeartbeats 2000000
/-! the nearest of some nodes -/
namespace Lj
open PySem PySem.Spec PyProof.Rows L2 Lw Hq StX
open Evl (EvL EvA EvT EvU RC)
abbrev nm_nearest : List Str := ["network", "u", "targets", "least_joins", "rows", "connected", "node", "row"]
theorem sc_nearest : FnScope nm_nearest ["network", "u", "targets"] (defScope (top 57)) := ⟨rfl, rfl, rfl, by decide +kernel, rfl, by decide +kernel, by decide +kernel⟩
section
variable {P : Program} {w : World} {K : PySem.W.Frag} {mg : Str → Option Value} {base : Heap} {L D : Addr}
theorem RoutesAt.list {Av : Addr → Prop} {H : Hp} {dr A : Addr} {es : List Eg} {m : Nat} {xs : List V} {o : HO} (h : RoutesAt Av H dr es m) (hD : H A = some (.lst xs)) : RoutesAt Av (upd H A o) dr es m := by
  have go : ∀ x (u : HO), (∀ ys, u ≠ .lst ys) → H x = some u → (upd H A o) x = some u := fun x u n hx => by
    rw [upd_ne fun z => by rw [z, hD] at hx; exact n _ (Option.some.inj hx).symm]
    exact hx
  obtain ⟨kr, h1, h2, hk, h3⟩ := h
  refine ⟨kr, go _ _ (fun _ => by simp) h1, h2, fun x hx => (hk x hx).imp fun k hk => go _ _ (fun _ => by simp) hk, fun z => (h3 z).imp id fun ⟨t, ord, g1, ⟨far, last, a1, a2, a3, n⟩, g3⟩ => ⟨t, ord, g1, ⟨far, last, go _ _ (fun _ => by simp) a1, go _ _ (fun _ => by simp) a2, go _ _ (fun _ => by simp) a3, n⟩, g3⟩⟩
def spNear (D : Addr) : Sp := fun vs H Q _ => ∃ (x p : Addr) (ns : List Str) (es : List Eg) (u : Str) (U : List Str), vs = [V.ref x, .str u, .ref p] ∧ NetC D H x ns es ∧ u ∈ ns ∧ H p = some (.tup (U.map V.str)) ∧ (∀ z ∈ U, z ∈ ns) ∧ U.length ≤ 20 ∧
  ∀ H' y, Evl.Ex H H' → ((nearP es u U = [] ∧ y = V.non) ∨ ∃ r ∈ nearP es u U, y = V.str r.2 ∧ ∀ q ∈ nearP es u U, lePr r q) → (∀ z ∈ U, Far es u z (farV es u z)) → Q y H'
theorem ok_nearest {f fC fL : Addr} {dL : FuncData} {k : Nat} (h : FnIs K "nearest" "nearest" (top 57) f) (T : Bs mg bl) (cl_LeastJoins : Cls K L) (F_calm_joins : FnR P w K mg base CX0 k fC (stSp (spCalmJoins L D))) (k_calm_joins : PySem.W.keepIn K (.ref fC) = true) (c_calm_joins : mg "calm_joins" = some (.ref fC))
    (m_LeastJoins_least_length : Meth K L "least_length" fL) (F_LeastJoins_least_length : FnOk P w K mg base CX0 k fL dL ["self", "ends"] (spLength L)) (b_LeastJoins_least_length : Binds K dL ["self", "ends"] []) : FnR P w K mg base CX0 (k + 2) f (stSp2 (spNear D)) := by
  refine FnIs.star2 h sc_nearest (fun _ _ _ _ _ _ a b => rfl) (fun _ _ _ _ _ _ a b r rs => rfl) (fun cdv A outer s H vs Q E hr h => ?_)
  obtain ⟨x, p, ns, es, u, U, rfl, hC, hu, hp, sub, l4, q⟩ := h
  refine ⟨_, (pss_cons (ps_set (i := 3) sc_nearest.nd rfl (Or.inr rfl) (StX.pe_callS2 F_calm_joins (hr.mono (by omega)) k_calm_joins (by rfl) c_calm_joins pass0 (pa_cons (pv 0) (pa_cons (pv 1) (StX.pa_star (pv 2) pa_nil)))))
      (pss_cons (ps_setLc (i := 4) (own := [("node", 6)]) (g := (gName 6)) (tt := tYes) (te := (tTup (tCons (tMeth L "least_length" (spLength L) [] E0 (tVar 3) (tCons (tTup (tCons (tVar 1) (tCons (tVar 6) tNil))) tNil)) (tCons (tVar 6) tNil)))) rfl sc_nearest.nd rfl rfl (by rfl) (pi_tup (pv 2)) (blkOk_by (N := nm_nearest) (sc := defScope (top 57)) (by decide +kernel)) (fun _ _ _ _ _ => pg_name (i := 6) sc_nearest.nd rfl (Or.inl rfl)) (fun _ _ _ _ _ => pts_nil) (fun _ _ _ _ _ => (pe_tup (pa_cons (pe_meth (pv 3) cl_LeastJoins m_LeastJoins_least_length F_LeastJoins_least_length (hr.mono (by omega)) b_LeastJoins_least_length .nil pass0 (pa_cons (pe_tup (pa_cons (pv 1) (pa_cons (pv 6) pa_nil))) pa_nil)) (pa_cons (pv 6) pa_nil)))))
      (pss_cons (ps_setLc (i := 5) (own := [("row", 7)]) (g := (gName 7)) (tt := (tTest (tOp (fun x y H Q => y = V.non ∧ Q (V.bl !decide (x = V.non)) H) (tOp (rIxT K) (tVar 7) (tC (.int 0))) (tC .non)))) (te := (tVar 7)) rfl sc_nearest.nd rfl rfl (by rfl) (pi_list (pv 4)) (blkOk_by (N := nm_nearest) (sc := defScope (top 57)) (by decide +kernel)) (fun _ _ _ _ _ => pg_name (i := 7) sc_nearest.nd rfl (Or.inl rfl)) (fun _ _ _ _ _ => (pts_one (pt_cmpR op_notN (pe_ix ix_tup (pv 7) pe_int (fun _ _ => rfl)) pe_non (nomark _)))) (fun _ _ _ _ _ => (pv 7)))
      (pss_one (ps_ret (pe_ifExp (pt_truth (pv 5) (fun _ => rfl)) (pe_ix ix_tup (pe_callB (Lj.call_minP rfl (hu64 hr)) (by rfl) (T.b "min" (by decide)) (by decide +kernel) (pa_cons (pv 5) pa_nil)) pe_int (fun _ _ => rfl)) pe_non)))))), ?_⟩
  obtain ⟨hN, nd, l0, p2, few, calm, nns, l40⟩ := id hC
  refine g_asgV ?_
  refine ⟨.ref x, rfl, .str u, rfl, .ref p, rfl, p, U.map V.str, rfl, .inl (Evl.st_of hp), [.ref x], .str u :: (U.map V.str ++ []), rfl, rfl, Evl.sz_of (by simp; omega), fun p' np' => ⟨x, p', ns, es, u :: U, rfl, hC.ex (Evl.Ex.new np'), by rw [upd_same]; simp, fun z hz => ?_, by simp; omega, fun H1 a odd dr db e1' hL ndr' ndb' n1 n2 => ?_⟩⟩
  · rcases List.mem_cons.mp hz with rfl | hz
    · exact hu
    · exact sub z hz
  have e1 := (Evl.Ex.new (o := .tup (V.str u :: (U.map V.str ++ []))) np').trans e1'
  have ndr := Evl.fresh_back (Evl.Ex.new np') ndr'
  have ndb := Evl.fresh_back (Evl.Ex.new np') ndb'
  have lodd : odd.length ≤ 10 := few odd n1 fun y hy => (n2 y).mp hy
  refine g_name ?_
  obtain ⟨cn, hF1, hR1, hB1, _⟩ := hL
  obtain ⟨kr1, hdr1, _⟩ := id hR1
  obtain ⟨kb1, hdb1, _⟩ := id hB1
  have hp1 := e1 _ _ hp
  refine g_asgV ?_
  refine ⟨.ref p, rfl, p, rfl, ⟨_, Evl.st_of hp1⟩, fun Dd nD => ?_⟩
  have nDr : Dd ≠ dr := apart hdr1 nD
  have nDb : Dd ≠ db := apart hdb1 nD
  have en := Evl.Ex.new (o := .lst []) nD
  refine lc_tup (K := K) (xs := U.map V.str) (fun i H' => ∃ (rs : List (Str × Option Int)) (as : List Addr) (m : Nat), rs.map (·.1) = U.take i ∧ m ≤ 50000 + i * 40000 ∧ Ch dr db H1 H' ∧ H' Dd = some (.lst (as.map V.ref)) ∧ Paired (fun a (q : Str × Option Int) => H' a = some (.tup [numV q.2, .str q.1])) as rs ∧ RoutesAt (fun _ => False) H' dr es m ∧ BestAt H' db es m ∧ ∀ q ∈ rs, JL es (ends2 u q.1) q.2)
    ⟨[], [], 50000, rfl, by omega, Ch.of en, upd_same, .nil, hR1.ex en, hB1.ex en, fun q hq => absurd hq (by simp)⟩ (fun i H' _ ⟨_, _, _, _, _, c, _⟩ => Evl.st_of (c.at hdr1 hdb1 hp1 (fun _ => by simp) (fun _ => by simp))) (fun i y H' hy ⟨rs, as, m, hrs, lm, c2, hD, hP, hR, hB, hj⟩ => ⟨rfl, ?_⟩) (fun H' ⟨rs, as, m, hrs, lm, c2, hD, hP, hR, hB, hj⟩ => ?_)
  · rw [List.getElem?_map] at hy
    obtain ⟨v, hv, rfl⟩ := Option.map_eq_some_iff.mp hy
    have li : i < U.length := (List.getElem?_eq_some_iff.mp hv).1
    have hF := hF1.ch c2 hdr1 hdb1
    obtain ⟨dxa, de, ds, lc, lo, bsa, g1, _⟩ := id hF
    have lp := @pts_mem odd [u, v]
    have t12 := Nat.le_trans (tn_mono (show (pts odd [u, v]).length ≤ 12 by simp at lp; omega)) tn_12
    have tk : U.take (i + 1) = U.take i ++ [v] := by
      rw [List.take_add_one, hv]
      rfl
    have lrs : rs.length ≤ 20 := by
      have := congrArg List.length hrs
      rw [List.length_map, List.length_take] at this
      omega
    refine g_yes (ite2 (fun _ => ?_) (fun z => absurd rfl z))
    refine g_tupC (g_cons ?_)
    refine ⟨.ref a, rfl, a, dxa, _, rfl, g1, lj_m5 _ _ _ _ _ _ _, ?_⟩
    refine g_cons (g_tup (vs := [.str u, .str v]) (Evl.ea_cons (Evl.ev_var rfl) (Evl.ea_cons (Evl.ev_var rfl) Evl.ea_nil)) (by simp) fun pt H4 npt e4 hpt => ?_)
    refine g_nil ⟨(fun _ => False), a, pt, dr, db, es, cn, odd, [u, v], _, m, rfl, hF.ex e4, hR.ex e4, hB.ex e4, by omega, hpt, pts_nodup n1, by simp at lp; omega, lodd, by simp, by omega, p2, fun H5 r c5 hR5 hB5 o => ?_⟩
    have jl := join_of_opt2 (T := ends2 u v) (nd_es nd) p2 n2 (pts_nodup (T := [u, v]) n1) (pts_tw n1 u v) o
    have lv : lenV ((negs es).map (·.2.2.2)).sum r = numV (r.map fun q => q.1 + ((negs es).map (·.2.2.2)).sum) := by cases r <;> rfl
    rw [lv]
    generalize (r.map fun q => q.1 + ((negs es).map (·.2.2.2)).sum) = r at jl
    refine g_cons (g_ev (Evl.ev_var rfl) fun H6 e6 => g_nil ⟨Evl.sz_of (by simp), fun t nt => ?_⟩)
    have e7 := e6.trans (Evl.Ex.new (o := .tup [numV r, .str v]) nt)
    have hD5 : H5 Dd = some (.lst (as.map V.ref)) := c5 _ _ nDr nDb (e4 _ _ hD)
    have hD7 := e7 _ _ hD5
    have ht : (upd H6 t (.tup [numV r, .str v])) t = some (.tup [numV r, .str v]) := upd_same
    have hR7 := hR5.ex e7
    have hB7 := hB5.ex e7
    obtain ⟨kr5, hdr5, _⟩ := id hR5
    obtain ⟨kb5, hdb5, _⟩ := id hB5
    generalize (upd H6 t (.tup [numV r, .str v])) = H7 at e7 hD7 ht hR7 hB7 ⊢
    have las : as.length = rs.length := Paired.length hP
    have c17 : Ch dr db H1 H7 := ((c2.trans (Ch.of e4)).trans c5).trans (Ch.of e7)
    have tk4 : TK H' H7 := by
      obtain ⟨kr0, hdr0, _⟩ := id hR
      obtain ⟨kb0, hdb0, _⟩ := id hB
      exact (TK.ex e4).trans ((c5.tk (e4 _ _ hdr0) (e4 _ _ hdb0)).trans (TK.ex e7))
    have tkU : TK H7 (upd H7 Dd (.lst (as.map V.ref ++ [.ref t]))) := TK.put (.inr ⟨_, hD7⟩)
    refine ⟨_, hD7, Evl.sz_lt (by rw [List.length_map]; omega), rs ++ [(v, r)], as ++ [t], m + Tn (pts odd [u, v]).length, by rw [List.map_append, hrs, tk]; rfl, by omega, fun c o n3 n4 hc => ?_, by rw [upd_same, List.map_append]; rfl, paired_snoc (paired_imp (fun _ _ z => tkU _ _ (tk4 _ _ z)) hP) (tkU _ _ ht), hR7.list hD7, hB7.keep (by rw [upd_ne nDb.symm]) tkU, fun q hq => ?_⟩
    · rw [upd_ne fun z => by rw [z, nD] at hc; exact nomatch hc]
      exact c17 _ _ n3 n4 hc
    · rcases List.mem_append.mp hq with hq | hq
      · exact hj q hq
      · rw [List.mem_singleton.mp hq]
        exact jl
  · rw [List.length_map, List.take_length] at hrs
    refine g_name ?_
    have e2 : Evl.Ex H H' := fun c o hc => c2 c o (fun z => by rw [z, ndr] at hc; exact nomatch hc) (fun z => by rw [z, ndb] at hc; exact nomatch hc) (e1 _ _ hc)
    have las : as.length = rs.length := Paired.length hP
    have lrs : rs.length = U.length := by rw [← hrs, List.length_map]
    have fars : ∀ q ∈ rs, Far es u q.1 q.2 := fun q hq => (hj q hq).far (nd_es nd) p2 calm
    have hrf : rs = U.map fun z => (z, farV es u z) := pairs_far hrs fun q hq => (fars q hq).eq
    have farU : ∀ z ∈ U, Far es u z (farV es u z) := fun z hz => by
      have := fars (z, farV es u z) (by rw [hrf]; exact List.mem_map_of_mem hz)
      exact this
    obtain ⟨as', hP', el'⟩ := Lj.el_keep (K := K) (α := Str × Option Int) (R := fun (H : Hp) (a : Addr) (q : Str × Option Int) => H a = some (.tup [numV q.2, .str q.1])) (fun e r => e _ _ r) ("", none) (σ := [some (.ref x), some (.str u), some (.ref p), some (.ref a), some (.ref Dd), none, none, none]) (H := H') (tl := tVar 4) (t := tTest (tOp (fun x y H Q => y = V.non ∧ Q (V.bl !decide (x = V.non)) H) (tOp (rIxT K) (tVar 7) (tC (V.int 0))) (tC V.non))) (j := 7) (vs := [7]) (fun q => q.2.isSome) (Evl.ev_var rfl) (Evl.sq_of hD) hP (by omega) (fun _ => rfl)
      (fun q b H3 e3 hq hb => et_notN (Evl.ev_op (Evl.ev_var rfl) Evl.ev_c (Evl.rv_ixT (Evl.st_of hb) (atI_some (i := 0) (by decide) rfl)))) (fun _ => rfl)
    refine Evl.q_asgL el' fun l H3 nl e3 hl => ?_
    have hPr : PrsAt H3 as' (nearL rs) := nearL_at (paired_imp (fun _ _ z => e3 _ _ z) hP')
    have nP : nearL rs = nearP es u U := by rw [hrf]
    rw [nP] at hPr
    have las' : as'.length = (nearP es u U).length := Paired.length hPr
    refine g_ret ?_
    cases hn : nearP es u U with
    | nil =>
      rw [hn] at las'
      refine ⟨.ref l, rfl, false, .inl ⟨_, Evl.sq_of hl, ?_⟩, ?_⟩
      · cases as' with
        | nil => rfl
        | cons _ _ => simp at las'
      · exact q H3 .non (e2.trans e3) (.inl ⟨hn, rfl⟩) farU
    | cons r0 rr =>
      rw [hn] at las'
      refine ⟨.ref l, rfl, true, .inl ⟨_, Evl.sq_of hl, ?_⟩, ?_⟩
      · cases as' with
        | nil => simp at las'
        | cons _ _ => rfl
      · refine g_op (g_cb (g_cons (g_ev (Evl.ev_var rfl) fun H4 e4 => g_nil ?_)))
        refine ⟨l, as', nearP es u U, rfl, Evl.sq_of (e4 _ _ hl), hPr.tk (TK.ex e4), by rw [hn]; simp, fun b r hr hb le => ?_⟩
        refine g_c ⟨b, _, 1, _, rfl, rfl, Evl.st_of hb, atI_some (i := 1) (by decide) rfl, ?_⟩
        exact q H4 (.str r.2) ((e2.trans e3).trans e4) (.inr ⟨r, hr, rfl, le⟩) farU
end
end Lj

set_option maxHeartbeats 1000000
/-! networks with other lengths; what repr asks of distances -/
namespace Lj
open PySem PySem.Spec PyProof.Rows L2 Lw
theorem IsNet.relen {ns : List Str} {es : List Eg} {L : Str → Int} (net : IsNet ns es) (h : ∀ e ∈ es, (L e.1).natAbs = e.2.2.2.natAbs) : IsNet ns (es.map (relen L)) where
  nm := net.nm
  nd := net.nd
  em := fun f hf => by
    obtain ⟨e, he, rfl⟩ := List.mem_map.mp hf
    obtain ⟨a, b, c, d, l, u⟩ := net.em e he
    have := h e he
    exact ⟨a, b, c, d, by show -1000000 ≤ L e.1; omega, by show L e.1 ≤ 1000000; omega⟩
  ed := by rw [relen_names]; exact net.ed
theorem IsNet.sub {ns : List Str} {es fs : List Eg} (net : IsNet ns es) (s : fs.Sublist es) : IsNet ns fs := ⟨net.nm, net.nd, fun e he => net.em e (s.subset he), (s.map _).nodup net.ed⟩
theorem IsNet.lon {ns : List Str} {es : List Eg} {φ : Eg → Eg} (net : IsNet ns es) (h : ∀ e ∈ es, Lon e (φ e)) (b : ∀ e ∈ es, e.2.2.2 ≤ 20000) : IsNet ns (es.map φ) where
  nm := net.nm
  nd := net.nd
  em := fun f hf => by
    obtain ⟨e, he, rfl⟩ := List.mem_map.mp hf
    obtain ⟨a1, a2, a3, a4, a5, a6⟩ := net.em e he
    obtain ⟨b1, b2, b3, b4, b5⟩ := h e he
    have := b e he
    rw [b1, b2, b3]
    exact ⟨a1, a2, a3, a4, by omega, by omega⟩
  ed := by
    rw [List.map_map, show es.map ((fun x => x.1) ∘ φ) = es.map (·.1) from List.map_congr_left fun e he => (h e he).1]
    exact net.ed
theorem prop2_net {ns : List Str} {es : List Eg} (net : IsNet ns es) : Prop2 es := fun e he => (net.em e he).2.2.2.1
theorem prop2_canon {ns : List Str} {es : List Eg} (net : IsNet ns es) : Prop2 (srtE (es.map norm)) := fun f hf => by
  obtain ⟨e, he, rfl⟩ := List.mem_map.mp ((srtE_perm _).mem_iff.mp hf)
  have n := prop2_net net e he
  obtain ⟨m, u, v, l⟩ := e
  show minS u v ≠ maxS u v
  rcases min_max u v with ⟨a, b⟩ | ⟨a, b⟩ <;> rw [a, b]
  · exact n
  · exact fun z => n z.symm
theorem canon_names {es : List Eg} (h : (es.map (·.1)).Nodup) : ((srtE (es.map norm)).map (·.1)).Nodup := ((srtE_perm _).map _).nodup_iff.mpr (by rw [norm_names]; exact h)
theorem canon_len (es : List Eg) : (srtE (es.map norm)).length = es.length := by rw [(srtE_perm _).length_eq, List.length_map]
theorem far_bound {ns : List Str} {es : List Eg} (net : IsNet ns es) (l : es.length ≤ 900) {u v : Str} {r : Option Int} (h : Far es u v r) : ∀ m, r = some m → -1000000000 ≤ m ∧ m ≤ 1000000000 := fun m hm => by
  obtain ⟨p, ms, w, rfl⟩ := h.2 m hm
  have lp : p.length ≤ es.length := nodup_len w.edges w.mem
  have := ln_bound (J := p) fun f hf => by
    obtain ⟨_, _, _, _, a, b⟩ := net.em f (w.mem f hf)
    exact ⟨a, b⟩
  omega
theorem far_small {ns : List Str} {es : List Eg} (net : IsNet ns es) (l : es.length ≤ 900) {u v : Str} {r : Option Int} (h : Far es u v r) : ∀ m, r = some m → m.natAbs.log2 < 1920 := fun m hm => by
  obtain ⟨p, ms, w, rfl⟩ := h.2 m hm
  have lp : p.length ≤ es.length := nodup_len w.edges w.mem
  have := ln_bound (J := p) fun f hf => by
    obtain ⟨_, _, _, _, a, b⟩ := net.em f (w.mem f hf)
    exact ⟨a, b⟩
  exact log_ok (by omega) (by omega)
variable {K : PySem.W.Frag}
/-- if repr(a) != repr(b): return False, where both are the same number or None -/
theorem g_repr2 {D : Ends} {σ : L2.St} {H : Hp} {ta tb : TE} (R : Option Int → Hp → Prop) (h1 : ∀ H1, Evl.Ex H H1 → ∀ Q : VK, (∀ r H2, Evl.Ex H1 H2 → R r H2 → Q (numV r) H2) → ta σ H1 Q) (h2 : ∀ H1, Evl.Ex H H1 → ∀ Q : VK, (∀ r H2, Evl.Ex H1 H2 → R r H2 → Q (numV r) H2) → tb σ H1 Q)
    (same : ∀ r1 r2 H1 H2, R r1 H1 → R r2 H2 → r1 = r2) (small : ∀ r H1, R r H1 → ∀ m, r = some m → m.natAbs.log2 < 1920) (k : ∀ H1, Evl.Ex H H1 → D.nx σ H1) : tIfS (tTest (tOp rNe (tCB rReprN (tCons ta tNil)) (tCB rReprN (tCons tb tNil)))) (tRet (tC (.bl false))) tNext D σ H := by
  refine h1 H (Evl.Ex.refl _) _ fun r1 H1 e1 R1 => ?_
  refine ⟨r1, rfl, small _ _ R1, ?_⟩
  refine h2 H1 e1 _ fun r2 H2 e2 R2 => ?_
  refine ⟨r2, rfl, small _ _ R2, ?_⟩
  have := same _ _ _ _ R1 R2
  subst this
  refine ⟨rfl, false, by simp, ?_⟩
  exact k H2 (e1.trans e2)
end Lj

set_option maxHeartbeats 2000000
/-! the nearest of a list of nodes -/
namespace Lj
open PySem PySem.Spec PyProof.Rows L2 Lw Hq StX
open Evl (EvL EvA EvT EvU RC)
abbrev nm__law_first_of : List Str := ["_law_network", "_law_u", "_law_x", "_law_size"]
theorem sc__law_first_of : FnScope nm__law_first_of ["_law_network", "_law_u", "_law_x"] (defScope (top 75)) := ⟨rfl, rfl, rfl, by decide +kernel, rfl, by decide +kernel, by decide +kernel⟩
section
variable {P : Program} {w : World} {K : PySem.W.Frag} {mg : Str → Option Value} {base : Heap} {L D : Addr}
def spFirst (D : Addr) : Sp := fun vs H Q _ => ∃ (x l : Addr) (ns : List Str) (es : List Eg) (u : Str) (U : List Str), vs = [V.ref x, .str u, .ref l] ∧ NetC D H x ns es ∧ u ∈ ns ∧ H l = some (.lst (U.map V.str)) ∧ (∀ z ∈ U, z ∈ ns) ∧ U.length ≤ 5 ∧
  ∀ H' y, Evl.Ex H H' → ((nearP es u U = [] ∧ y = V.non) ∨ ∃ r ∈ nearP es u U, y = V.str r.2 ∧ ∀ q ∈ nearP es u U, lePr r q) → (∀ z ∈ U, Far es u z (farV es u z)) → Q y H'
theorem ok_first {f fN : Addr} {fd : FuncData} {k : Nat} (F : Fun K "_law_first_of" "_law_first_of" (top 75) f fd) (T : Bs mg bl) (F_nearest : FnR P w K mg base CX0 k fN (stSp2 (spNear D))) (k_nearest : PySem.W.keepIn K (.ref fN) = true) (c_nearest : mg "nearest" = some (.ref fN)) : FnOk P w K mg base CX0 (k + 1) f fd ["_law_network", "_law_u", "_law_x"] (spFirst D) := by
  refine F.ok sc__law_first_of (fun vs H Q E h => ?_) (fun cdv A outer s H vs Q E hr h => ?_)
  · obtain ⟨x, l, ns, es, u, U, rfl, _⟩ := h
    rfl
  · obtain ⟨x, l, ns, es, u, U, rfl, hC, hu, hl, sub, l5, q⟩ := h
    refine ⟨_, (pss_cons (ps_set (i := 3) sc__law_first_of.nd rfl (Or.inl rfl) (pe_callB call_len_seq (by rfl) (T.b "len" (by decide)) (by decide +kernel) (pa_cons (pv 2) pa_nil)))
      (pss_cons (ps_if (pt_cmpR op_lt (pv 3) pe_int (nomark _)) (pss_one (ps_ret (pe_ifExp (pt_cmpR op_eq (pv 3) pe_int (nomark _)) (Lj.pe_callR F_nearest (hr.mono (by omega)) k_nearest (by rfl) c_nearest pass0 (pa_cons (pv 0) (pa_cons (pv 1) pa_nil))) (Lj.pe_callR F_nearest (hr.mono (by omega)) k_nearest (by rfl) c_nearest pass0 (pa_cons (pv 0) (pa_cons (pv 1) (pa_cons (pe_ix ix_list (pv 2) pe_int (fun _ _ => rfl)) pa_nil))))))) pss_nil)
      (pss_cons (ps_if (pt_cmpR op_lt (pv 3) pe_int (nomark _)) (pss_one (ps_ret (pe_ifExp (pt_cmpR op_eq (pv 3) pe_int (nomark _)) (Lj.pe_callR F_nearest (hr.mono (by omega)) k_nearest (by rfl) c_nearest pass0 (pa_cons (pv 0) (pa_cons (pv 1) (pa_cons (pe_ix ix_list (pv 2) pe_int (fun _ _ => rfl)) (pa_cons (pe_ix ix_list (pv 2) pe_int (fun _ _ => rfl)) pa_nil))))) (Lj.pe_callR F_nearest (hr.mono (by omega)) k_nearest (by rfl) c_nearest pass0 (pa_cons (pv 0) (pa_cons (pv 1) (pa_cons (pe_ix ix_list (pv 2) pe_int (fun _ _ => rfl)) (pa_cons (pe_ix ix_list (pv 2) pe_int (fun _ _ => rfl)) (pa_cons (pe_ix ix_list (pv 2) pe_int (fun _ _ => rfl)) pa_nil))))))))) pss_nil)
      (pss_cons (ps_if (pt_cmpR op_eq (pv 3) pe_int (nomark _)) (pss_one (ps_ret (Lj.pe_callR F_nearest (hr.mono (by omega)) k_nearest (by rfl) c_nearest pass0 (pa_cons (pv 0) (pa_cons (pv 1) (pa_cons (pe_ix ix_list (pv 2) pe_int (fun _ _ => rfl)) (pa_cons (pe_ix ix_list (pv 2) pe_int (fun _ _ => rfl)) (pa_cons (pe_ix ix_list (pv 2) pe_int (fun _ _ => rfl)) (pa_cons (pe_ix ix_list (pv 2) pe_int (fun _ _ => rfl)) pa_nil))))))))) pss_nil)
      (pss_one (ps_ret (Lj.pe_callR F_nearest (hr.mono (by omega)) k_nearest (by rfl) c_nearest pass0 (pa_cons (pv 0) (pa_cons (pv 1) (pa_cons (pe_ix ix_list (pv 2) pe_int (fun _ _ => rfl)) (pa_cons (pe_ix ix_list (pv 2) pe_int (fun _ _ => rfl)) (pa_cons (pe_ix ix_list (pv 2) pe_int (fun _ _ => rfl)) (pa_cons (pe_ix ix_list (pv 2) pe_int (fun _ _ => rfl)) (pa_cons (pe_ix ix_list (pv 2) pe_int (fun _ _ => rfl)) pa_nil)))))))))))))), ?_⟩
    have go : ∀ {ta : TA} {σ : L2.St} {H1 : Hp}, Evl.Ex H H1 → Evl.EvA ta σ H1 (.ref x :: .str u :: U.map V.str) → tCallR (stSp2 (spNear D)) E0 ta σ H1 Q := fun {ta σ H1} e1 ha => g_ea ha fun H2 e2 => ⟨[.ref x, .str u], U.map V.str, rfl, rfl, Evl.sz_of (by rw [List.length_map]; omega), fun p np => by
      have e3 := Evl.Ex.new (o := .tup (U.map V.str)) np
      exact ⟨x, p, ns, es, u, U, rfl, hC.ex ((e1.trans e2).trans e3), hu, upd_same, sub, by omega, fun H4 y e4 hy hf => q H4 y (((e1.trans e2).trans e3).trans e4) hy hf⟩⟩
    match U, l5 with
    | [], _ =>
      refine Evl.q_asg (v := .int 0) (Evl.ev_is (Evl.ev_cb (Evl.ea_cons (Evl.ev_var rfl) Evl.ea_nil) fun H1 e1 Q1 q1 => ⟨l, _, rfl, .inl (Evl.sq_of (e1 _ _ hl)), q1 H1 (Evl.Ex.refl _)⟩) (by rfl)) fun H1 e1 => ?_
      refine Evl.q_when (b := true) (Evl.et_is (Evl.et_test (Evl.ev_op (Evl.ev_var rfl) Evl.ev_c Evl.rv_I0)) (by decide)) (fun _ H2 e2 => g_ret ?_) (fun z => nomatch z)
      refine ((Evl.et_is (Evl.et_test (Evl.ev_op (Evl.ev_var rfl) Evl.ev_c (Evl.rv_eq rfl))) (by decide)) : Evl.EvT _ _ H2 true) H2 (Evl.Ex.refl _) _ fun H3 e3 => ?_
      have e := (e1.trans e2).trans e3
      refine ite2 (fun z => ?_) (fun z => ?_)
      · exact go e (Evl.ea_cons (Evl.ev_var rfl) (Evl.ea_cons (Evl.ev_var rfl) Evl.ea_nil))
      · exact absurd z (by decide)
    | [z0], _ =>
      refine Evl.q_asg (v := .int 1) (Evl.ev_is (Evl.ev_cb (Evl.ea_cons (Evl.ev_var rfl) Evl.ea_nil) fun H1 e1 Q1 q1 => ⟨l, _, rfl, .inl (Evl.sq_of (e1 _ _ hl)), q1 H1 (Evl.Ex.refl _)⟩) (by rfl)) fun H1 e1 => ?_
      refine Evl.q_when (b := true) (Evl.et_is (Evl.et_test (Evl.ev_op (Evl.ev_var rfl) Evl.ev_c Evl.rv_I0)) (by decide)) (fun _ H2 e2 => g_ret ?_) (fun z => nomatch z)
      refine ((Evl.et_is (Evl.et_test (Evl.ev_op (Evl.ev_var rfl) Evl.ev_c (Evl.rv_eq rfl))) (by decide)) : Evl.EvT _ _ H2 false) H2 (Evl.Ex.refl _) _ fun H3 e3 => ?_
      have e := (e1.trans e2).trans e3
      refine ite2 (fun z => ?_) (fun z => ?_)
      · exact absurd z (by decide)
      · exact go e (Evl.ea_cons (Evl.ev_var rfl) (Evl.ea_cons (Evl.ev_var rfl) (Evl.ea_cons (Evl.ev_op (Evl.ev_var rfl) Evl.ev_c (Evl.rv_ixL (Evl.sq_of (e _ _ hl)) (atI_some (i := 0) (by decide) rfl))) Evl.ea_nil)))
    | [z0, z1], _ =>
      refine Evl.q_asg (v := .int 2) (Evl.ev_is (Evl.ev_cb (Evl.ea_cons (Evl.ev_var rfl) Evl.ea_nil) fun H1 e1 Q1 q1 => ⟨l, _, rfl, .inl (Evl.sq_of (e1 _ _ hl)), q1 H1 (Evl.Ex.refl _)⟩) (by rfl)) fun H1 e1 => ?_
      refine Evl.q_when (b := false) (Evl.et_is (Evl.et_test (Evl.ev_op (Evl.ev_var rfl) Evl.ev_c Evl.rv_I0)) (by decide)) (fun z => nomatch z) fun _ H2 e2 => ?_
      refine Evl.q_when (b := true) (Evl.et_is (Evl.et_test (Evl.ev_op (Evl.ev_var rfl) Evl.ev_c Evl.rv_I0)) (by decide)) (fun _ H3 e3 => g_ret ?_) (fun z => nomatch z)
      refine ((Evl.et_is (Evl.et_test (Evl.ev_op (Evl.ev_var rfl) Evl.ev_c (Evl.rv_eq rfl))) (by decide)) : Evl.EvT _ _ H3 true) H3 (Evl.Ex.refl _) _ fun H4 e4 => ?_
      have e := ((e1.trans e2).trans e3).trans e4
      refine ite2 (fun z => ?_) (fun z => ?_)
      · exact go e (Evl.ea_cons (Evl.ev_var rfl) (Evl.ea_cons (Evl.ev_var rfl) (Evl.ea_cons (Evl.ev_op (Evl.ev_var rfl) Evl.ev_c (Evl.rv_ixL (Evl.sq_of (e _ _ hl)) (atI_some (i := 0) (by decide) rfl))) (Evl.ea_cons (Evl.ev_op (Evl.ev_var rfl) Evl.ev_c (Evl.rv_ixL (Evl.sq_of (e _ _ hl)) (atI_some (i := 1) (by decide) rfl))) Evl.ea_nil))))
      · exact absurd z (by decide)
    | [z0, z1, z2], _ =>
      refine Evl.q_asg (v := .int 3) (Evl.ev_is (Evl.ev_cb (Evl.ea_cons (Evl.ev_var rfl) Evl.ea_nil) fun H1 e1 Q1 q1 => ⟨l, _, rfl, .inl (Evl.sq_of (e1 _ _ hl)), q1 H1 (Evl.Ex.refl _)⟩) (by rfl)) fun H1 e1 => ?_
      refine Evl.q_when (b := false) (Evl.et_is (Evl.et_test (Evl.ev_op (Evl.ev_var rfl) Evl.ev_c Evl.rv_I0)) (by decide)) (fun z => nomatch z) fun _ H2 e2 => ?_
      refine Evl.q_when (b := true) (Evl.et_is (Evl.et_test (Evl.ev_op (Evl.ev_var rfl) Evl.ev_c Evl.rv_I0)) (by decide)) (fun _ H3 e3 => g_ret ?_) (fun z => nomatch z)
      refine ((Evl.et_is (Evl.et_test (Evl.ev_op (Evl.ev_var rfl) Evl.ev_c (Evl.rv_eq rfl))) (by decide)) : Evl.EvT _ _ H3 false) H3 (Evl.Ex.refl _) _ fun H4 e4 => ?_
      have e := ((e1.trans e2).trans e3).trans e4
      refine ite2 (fun z => ?_) (fun z => ?_)
      · exact absurd z (by decide)
      · exact go e (Evl.ea_cons (Evl.ev_var rfl) (Evl.ea_cons (Evl.ev_var rfl) (Evl.ea_cons (Evl.ev_op (Evl.ev_var rfl) Evl.ev_c (Evl.rv_ixL (Evl.sq_of (e _ _ hl)) (atI_some (i := 0) (by decide) rfl))) (Evl.ea_cons (Evl.ev_op (Evl.ev_var rfl) Evl.ev_c (Evl.rv_ixL (Evl.sq_of (e _ _ hl)) (atI_some (i := 1) (by decide) rfl))) (Evl.ea_cons (Evl.ev_op (Evl.ev_var rfl) Evl.ev_c (Evl.rv_ixL (Evl.sq_of (e _ _ hl)) (atI_some (i := 2) (by decide) rfl))) Evl.ea_nil)))))
    | [z0, z1, z2, z3], _ =>
      refine Evl.q_asg (v := .int 4) (Evl.ev_is (Evl.ev_cb (Evl.ea_cons (Evl.ev_var rfl) Evl.ea_nil) fun H1 e1 Q1 q1 => ⟨l, _, rfl, .inl (Evl.sq_of (e1 _ _ hl)), q1 H1 (Evl.Ex.refl _)⟩) (by rfl)) fun H1 e1 => ?_
      refine Evl.q_when (b := false) (Evl.et_is (Evl.et_test (Evl.ev_op (Evl.ev_var rfl) Evl.ev_c Evl.rv_I0)) (by decide)) (fun z => nomatch z) fun _ H2 e2 => ?_
      refine Evl.q_when (b := false) (Evl.et_is (Evl.et_test (Evl.ev_op (Evl.ev_var rfl) Evl.ev_c Evl.rv_I0)) (by decide)) (fun z => nomatch z) fun _ H3 e3 => ?_
      refine Evl.q_when (b := true) (Evl.et_is (Evl.et_test (Evl.ev_op (Evl.ev_var rfl) Evl.ev_c (Evl.rv_eq rfl))) (by decide)) (fun _ H4 e4 => g_ret ?_) (fun z => nomatch z)
      have e := ((e1.trans e2).trans e3).trans e4
      exact go e (Evl.ea_cons (Evl.ev_var rfl) (Evl.ea_cons (Evl.ev_var rfl) (Evl.ea_cons (Evl.ev_op (Evl.ev_var rfl) Evl.ev_c (Evl.rv_ixL (Evl.sq_of (e _ _ hl)) (atI_some (i := 0) (by decide) rfl))) (Evl.ea_cons (Evl.ev_op (Evl.ev_var rfl) Evl.ev_c (Evl.rv_ixL (Evl.sq_of (e _ _ hl)) (atI_some (i := 1) (by decide) rfl))) (Evl.ea_cons (Evl.ev_op (Evl.ev_var rfl) Evl.ev_c (Evl.rv_ixL (Evl.sq_of (e _ _ hl)) (atI_some (i := 2) (by decide) rfl))) (Evl.ea_cons (Evl.ev_op (Evl.ev_var rfl) Evl.ev_c (Evl.rv_ixL (Evl.sq_of (e _ _ hl)) (atI_some (i := 3) (by decide) rfl))) Evl.ea_nil))))))
    | [z0, z1, z2, z3, z4], _ =>
      refine Evl.q_asg (v := .int 5) (Evl.ev_is (Evl.ev_cb (Evl.ea_cons (Evl.ev_var rfl) Evl.ea_nil) fun H1 e1 Q1 q1 => ⟨l, _, rfl, .inl (Evl.sq_of (e1 _ _ hl)), q1 H1 (Evl.Ex.refl _)⟩) (by rfl)) fun H1 e1 => ?_
      refine Evl.q_when (b := false) (Evl.et_is (Evl.et_test (Evl.ev_op (Evl.ev_var rfl) Evl.ev_c Evl.rv_I0)) (by decide)) (fun z => nomatch z) fun _ H2 e2 => ?_
      refine Evl.q_when (b := false) (Evl.et_is (Evl.et_test (Evl.ev_op (Evl.ev_var rfl) Evl.ev_c Evl.rv_I0)) (by decide)) (fun z => nomatch z) fun _ H3 e3 => ?_
      refine Evl.q_when (b := false) (Evl.et_is (Evl.et_test (Evl.ev_op (Evl.ev_var rfl) Evl.ev_c (Evl.rv_eq rfl))) (by decide)) (fun z => nomatch z) fun _ H4 e4 => g_ret ?_
      have e := ((e1.trans e2).trans e3).trans e4
      exact go e (Evl.ea_cons (Evl.ev_var rfl) (Evl.ea_cons (Evl.ev_var rfl) (Evl.ea_cons (Evl.ev_op (Evl.ev_var rfl) Evl.ev_c (Evl.rv_ixL (Evl.sq_of (e _ _ hl)) (atI_some (i := 0) (by decide) rfl))) (Evl.ea_cons (Evl.ev_op (Evl.ev_var rfl) Evl.ev_c (Evl.rv_ixL (Evl.sq_of (e _ _ hl)) (atI_some (i := 1) (by decide) rfl))) (Evl.ea_cons (Evl.ev_op (Evl.ev_var rfl) Evl.ev_c (Evl.rv_ixL (Evl.sq_of (e _ _ hl)) (atI_some (i := 2) (by decide) rfl))) (Evl.ea_cons (Evl.ev_op (Evl.ev_var rfl) Evl.ev_c (Evl.rv_ixL (Evl.sq_of (e _ _ hl)) (atI_some (i := 3) (by decide) rfl))) (Evl.ea_cons (Evl.ev_op (Evl.ev_var rfl) Evl.ev_c (Evl.rv_ixL (Evl.sq_of (e _ _ hl)) (atI_some (i := 4) (by decide) rfl))) Evl.ea_nil)))))))
    | _ :: _ :: _ :: _ :: _ :: _ :: _, h => exact absurd h (by simp)
end
end Lj

set_option maxHeartbeats 2000000
/-! paths under way in a law's own search -/
namespace Lj
open PySem PySem.Spec PyProof.Rows L2 Lw Hq
open Evl (EvL EvA EvT EvU RC)
abbrev nms (p : List Eg) : List Str := p.map (·.1)
/-- a path under way -/
def WtAt (H : Hp) (r : Addr) (q : Wt) : Prop := ∃ n m, H r = some (.tup [.ref n, .ref m]) ∧ H n = some (.tup ((nms q.1).map V.str)) ∧ H m = some (.tup (q.2.1.map V.str))
theorem WtAt.tk {H H' : Hp} (k : TK H H') {r : Addr} {q : Wt} (h : WtAt H r q) : WtAt H' r q := by
  obtain ⟨n, m, h1, h2, h3⟩ := h
  exact ⟨n, m, k _ _ h1, k _ _ h2, k _ _ h3⟩
abbrev WtsAt (H : Hp) (rs : List Addr) (ws : List Wt) : Prop := Paired (WtAt H) rs ws
theorem WtsAt.tk {H H' : Hp} (k : TK H H') {rs : List Addr} {ws : List Wt} (h : WtsAt H rs ws) : WtsAt H' rs ws := paired_imp (fun _ _ z => z.tk k) h
theorem Way.lastq {es : List Eg} {u y : Str} {p : List Eg} {ns : List Str} (w : Way es u p ns y) : ∃ l, ns = l ++ [y] := by
  rcases w.inv with ⟨_, rfl, rfl⟩ | ⟨_, ms, _, _, _, rfl, rfl, _⟩
  · exact ⟨[], rfl⟩
  · exact ⟨ms, rfl⟩
theorem inT (g : Eg) (x : Str) : decide (x ∈ [g.2.1, g.2.2.1]) = tch g x := by
  unfold tch
  rw [Bool.eq_iff_iff, Bool.or_eq_true, decide_eq_true_iff, decide_eq_true_iff, decide_eq_true_iff, List.mem_cons, List.mem_singleton]
  exact ⟨fun h => h.imp Eq.symm Eq.symm, fun h => h.imp Eq.symm Eq.symm⟩
theorem at_neg1 (l : List Str) (y : Str) : atI ((l ++ [y]).map V.str) (-1) = some (.str y) := by
  have h : ixN ((l ++ [y]).map V.str).length (-1) = some l.length := by
    unfold ixN
    rw [List.length_map, List.length_append, List.length_singleton]
    simp
    omega
  unfold atI
  rw [h]
  simp
theorem paired_split {α β : Type} {R : α → β → Prop} : ∀ {bs cs : List β} {as : List α}, Paired R as (bs ++ cs) → ∃ a1 a2, as = a1 ++ a2 ∧ Paired R a1 bs ∧ Paired R a2 cs
  | [], cs, as, h => ⟨[], as, rfl, .nil, h⟩
  | b :: bs, cs, _, .cons x t => by
    obtain ⟨a1, a2, e, h1, h2⟩ := paired_split (bs := bs) t
    exact ⟨_ :: a1, a2, by rw [e]; rfl, .cons x h1, h2⟩
end Lj

set_option maxHeartbeats 2000000
/-! the law's own search for all paths, of a list of edges -/
namespace Lj
open PySem PySem.Spec PyProof.Rows L2 Lw Hq
open Evl (EvL EvA EvT EvU RC)
abbrev nm__law_walks : List Str := ["_law_edges", "_law_u", "_law_v", "_law_found", "_law_waiting", "_law_names_here", "_law_passed", "_law_name", "_law_one", "_law_other", "_law_length", "_law_there"]
theorem sc__law_walks : FnScope nm__law_walks ["_law_edges", "_law_u", "_law_v"] (defScope (top 70)) := ⟨rfl, rfl, rfl, by decide +kernel, rfl, by decide +kernel, by decide +kernel⟩
section
variable {P : Program} {w : World} {K : PySem.W.Frag} {mg : Str → Option Value} {base : Heap}
def spWalks : Sp := fun vs H Q _ => ∃ (b : Addr) (as : List Addr) (es : List Eg) (ns : List Str) (u v : Str), vs = [V.ref b, .str u, .str v] ∧ H b = some (.lst (as.map V.ref)) ∧ EgsAt H as es ∧ (∀ e ∈ es, e.2.1 ∈ ns ∧ e.2.2.1 ∈ ns) ∧ u ∈ ns ∧ es.length ≤ 9 ∧ ns.length ≤ 7 ∧
  ∀ (H' : Hp) (l : Addr) (ts : List Addr) (fs : List (List Eg)), Evl.Ex H H' → H l = none → H' l = some (.lst (ts.map V.ref)) → TupsAt H' ts (fs.map nms) → (∀ p, p ∈ fs ↔ ∃ ns, Way es u p ns v) → fs.length < 300000 → Q (.ref l) H'
theorem ok_walks {f : Addr} {fd : FuncData} {k : Nat} (F : Fun K "_law_walks" "_law_walks" (top 70) f fd) (T : Bs mg bl) : FnOk P w K mg base CX0 (k + 1) f fd ["_law_edges", "_law_u", "_law_v"] spWalks := by
  refine F.ok sc__law_walks (fun vs H Q E h => ?_) (fun cdv A outer s H vs Q E hr h => ?_)
  · obtain ⟨b, as, es, ns, u, v, rfl, _⟩ := h
    rfl
  · obtain ⟨b, as, es, ns, u, v, rfl, hb, he, en, hu, l0, l40, q⟩ := h
    refine ⟨_, (pss_cons (ps_par (i := 3) (j := 4) rfl sc__law_walks.nd rfl rfl (by decide) rfl rfl (pa_cons (pe_lst pa_nil) (pa_cons (pe_lst (pa_cons (pe_tup (pa_cons (pe_tup pa_nil) (pa_cons (pe_tup (pa_cons (pv 1) pa_nil)) pa_nil))) pa_nil)) pa_nil)) (by rfl))
      (pss_cons (ps_while PassesOwn.never (pt_cmpR (op_neNil (hu64 hr)) (pv 4) (pe_lst pa_nil) (nomark _)) (pss_cons (ps_asg (pe_bm0 PySem.F.plainAttrs_list PySem.F.slot_list_pop PySem.F.type_list_pop mt_pop (pv 4)) (pg_tup rfl (pgs_cons (pg_name (i := 5) sc__law_walks.nd rfl (Or.inl rfl)) (pgs_cons (pg_name (i := 6) sc__law_walks.nd rfl (Or.inl rfl)) pgs_nil))))
      (pss_cons (ps_if (pt_cmpR op_eq (pe_ix ix_tup (pv 6) (pe_un un_neg pe_int) (fun _ _ => rfl)) (pv 2) (nomark _)) (pss_cons (ps_expr (pe_bm PySem.F.plainAttrs_list PySem.F.slot_list_append PySem.F.type_list_append mt_append (pv 3) (pa_cons (pv 5) pa_nil)))
      (pss_one ps_continue)) pss_nil)
      (pss_one (ps_for PassesOwn.never rfl (pi_list (pv 0)) (pg_tup rfl (pgs_cons (pg_name (i := 7) sc__law_walks.nd rfl (Or.inl rfl)) (pgs_cons (pg_name (i := 8) sc__law_walks.nd rfl (Or.inl rfl)) (pgs_cons (pg_name (i := 9) sc__law_walks.nd rfl (Or.inl rfl)) (pgs_cons (pg_name (i := 10) sc__law_walks.nd rfl (Or.inl rfl)) pgs_nil))))) (pss_cons (ps_set (i := 11) sc__law_walks.nd rfl (Or.inl rfl) (pe_ifExp (pt_cmpR op_eq (pv 8) (pe_ix ix_tup (pv 6) (pe_un un_neg pe_int) (fun _ _ => rfl)) (nomark _)) (pv 9) (pv 8)))
      (pss_one (ps_if (PW.pt (pw_and (pt_cmpR op_in_seq (pe_ix ix_tup (pv 6) (pe_un un_neg pe_int) (fun _ _ => rfl)) (pe_tup (pa_cons (pv 8) (pa_cons (pv 9) pa_nil))) rfl) (pw_and1 (pt_cmpR op_notIn_seq (pv 11) (pv 6) rfl)))) (pss_one (ps_expr (pe_bm PySem.F.plainAttrs_list PySem.F.slot_list_append PySem.F.type_list_append mt_append (pv 4) (pa_cons (pe_tup (pa_cons (pe_op op_catA (pv 5) (pe_tup (pa_cons (pv 7) pa_nil))) (pa_cons (pe_op op_catA (pv 6) (pe_tup (pa_cons (pv 11) pa_nil))) pa_nil))) pa_nil)))) pss_nil))))))))
      (pss_one (ps_ret (pv 3))))), ?_⟩
    refine q_par2Via (fun a c H' => ∃ fo wo r n m, a = V.ref fo ∧ c = V.ref wo ∧ Evl.Ex H H' ∧ H fo = none ∧ H wo = none ∧ fo ≠ wo ∧ H' fo = some (.lst []) ∧ H' wo = some (.lst [.ref r]) ∧ H' r = some (.tup [.ref n, .ref m]) ∧ H' n = some (.tup []) ∧ H' m = some (.tup [.str u])) (fun Q' hQ' => ?_) ?_
    · refine ⟨Evl.sz_of (by simp), fun fo nfo => ⟨Evl.sz_of (by simp), fun n nn => ⟨.str u, rfl, Evl.sz_of (by simp), fun m nm => ⟨Evl.sz_of (by simp), fun r nr => ⟨Evl.sz_of (by simp), fun wo nwo => ?_⟩⟩⟩⟩⟩
      have e1 := Evl.Ex.new (o := .lst []) nfo
      have e2 := Evl.Ex.new (o := .tup []) nn
      have e3 := Evl.Ex.new (o := .tup [.str u]) nm
      have e4 := Evl.Ex.new (o := .tup [.ref n, .ref m]) nr
      have e5 := Evl.Ex.new (o := .lst [.ref r]) nwo
      have n0 : H wo = none := by
        cases h : H wo with
        | none => rfl
        | some o =>
          rw [(((e1.trans e2).trans e3).trans e4) _ _ h] at nwo
          exact nomatch nwo
      refine hQ' _ _ _ ⟨fo, wo, r, n, m, rfl, rfl, (((e1.trans e2).trans e3).trans e4).trans e5, nfo, n0, fun z => ?_, e5 _ _ (e4 _ _ (e3 _ _ (e2 _ _ upd_same))), upd_same, e5 _ _ upd_same, e5 _ _ (e4 _ _ (e3 _ _ upd_same)), e5 _ _ (e4 _ _ upd_same)⟩
      have := (((e2.trans e3).trans e4) _ _ (upd_same (H := H) (a := fo)))
      subst z
      rw [this] at nwo
      exact nomatch nwo
    rintro a c H1 ⟨fo, wo, r, n, m, rfl, rfl, e1, nfo, nwo, fw, hf1, hw1, hr1, hn1, hm1⟩
    let W : Nat → L2.St → Hp → Prop := fun mm σ' H' => ∃ (x5 x6 x7 x8 x9 x10 x11 : Option V) (fs : List (List Eg)) (ws : List Wt) (ts rs : List Addr), σ' = [some (.ref b), some (.str u), some (.str v), some (.ref fo), some (.ref wo), x5, x6, x7, x8, x9, x10, x11] ∧ Evl.Ex H H' ∧ H' fo = some (.lst (ts.map V.ref)) ∧ TupsAt H' ts (fs.map nms) ∧ H' wo = some (.lst (rs.map V.ref)) ∧ WtsAt H' rs ws ∧ Dfs es u v fs ws ∧ (∀ q ∈ ws, ∀ y ∈ q.2.1, y ∈ ns) ∧ mm = load es.length ns.length ws ∧ fs.length + mm < 300000
    refine Evl.q_while W (load es.length ns.length [([], [u], u)]) ⟨none, none, none, none, none, none, none, [], [([], [u], u)], [], [r], rfl, e1, hf1, .nil, hw1, .cons ⟨n, m, hr1, hn1, hm1⟩ .nil, Dfs.start es u v, fun q hq y hy => ?_, rfl, ?_⟩ (fun mm σ' H' W' => ?_)
    · rw [List.mem_singleton.mp hq] at hy
      rw [List.mem_singleton.mp hy]
      exact hu
    · show 0 + (room (ns.length + 1 - 1) (es.length - 0) + 0) < _
      have := room_mono (show ns.length + 1 - 1 ≤ 7 by omega) (show es.length - 0 ≤ 9 by omega)
      have := room7
      omega
    · obtain ⟨x5, x6, x7, x8, x9, x10, x11, fs, ws, ts, rs, rfl, eH, hfo, hts, hwo, hrs, dfs, sub, rfl, lm⟩ := W'
      refine ⟨!(rs.map V.ref).isEmpty, Evl.et_test (Evl.ev_opL (Evl.ev_var rfl) (Evl.el_lst Evl.ea_nil (by simp)) fun p' H6 hp e H7 e7 Q7 q7 => ⟨wo, p', _, rfl, rfl, Evl.sq_of (e7 _ _ (e _ _ hwo)), Evl.sq_of (e7 _ _ hp), q7 H7 (Evl.Ex.refl _)⟩), fun hb' H2 e2 => ?_, fun hb' H2 e2 => ?_⟩
      · have nw : ws ≠ [] := fun z => by
          subst z
          cases hrs
          simp at hb'
        have eq := List.dropLast_concat_getLast nw
        generalize ws.dropLast = w0 at eq
        generalize ws.getLast nw = qq at eq
        subst eq
        obtain ⟨r0, a2, rfl, hr0, hl2⟩ := paired_split hrs
        cases hl2 with
        | cons hq t2 =>
        cases t2
        rename_i rq
        obtain ⟨n', m', hrq, hn', hm'⟩ := hq
        clear hr F
        refine ⟨_, fun _ _ h => h, ?_⟩
        have hwo2 := e2 _ _ hwo
        refine ⟨.ref wo, rfl, .inl ⟨rfl, _, Evl.sq_of hwo2⟩, wo, _, .ref rq, rfl, rfl, hwo2, by rw [List.map_append]; simp, ?_⟩
        rw [List.map_append, show (r0.map V.ref ++ [rq].map V.ref).dropLast = r0.map V.ref from List.dropLast_concat]
        obtain ⟨lw, elw⟩ := (dfs.wait qq (by simp)).lastq
        have kp : TK H2 (upd H2 wo (.lst (r0.map V.ref))) := TK.put (.inr ⟨_, hwo2⟩)
        have ex3 : Evl.Ex H (upd H2 wo (.lst (r0.map V.ref))) := (eH.trans e2).mut nwo
        have lsub := sub qq (by simp)
        have wt := dfs.wait qq (by simp)
        refine ⟨rq, _, rfl, Evl.st_of (kp _ _ (e2 _ _ hrq)), rfl, _, _, rfl, _, _, rfl, rfl, ?_⟩
        have hn3 := kp _ _ (e2 _ _ hn')
        have hm3 := kp _ _ (e2 _ _ hm')
        have hw3 : (upd H2 wo (.lst (r0.map V.ref))) wo = some (.lst (r0.map V.ref)) := upd_same
        have hfo3 : (upd H2 wo (.lst (r0.map V.ref))) fo = some (.lst (ts.map V.ref)) := by rw [upd_ne fw]; exact e2 _ _ hfo
        have hts3 := hts.tk ((TK.ex e2).trans kp)
        have hr3 : WtsAt (upd H2 wo (.lst (r0.map V.ref))) r0 w0 := WtsAt.tk ((TK.ex e2).trans kp) hr0
        generalize upd H2 wo (.lst (r0.map V.ref)) = H3 at *
        have last : ∀ {σ : L2.St} {H' : Hp}, σ[6]? = some (some (.ref m')) → H' m' = some (.tup (qq.2.1.map V.str)) → Evl.Ev (tOp (rIxT K) (tVar 6) (tUn (rU fun i => V.int (-i)) (tC (V.int 1)))) σ H' (.str qq.2.2) := fun h0 h => Evl.ev_op (Evl.ev_var h0) (Evl.ev_un Evl.ev_c Evl.ru_neg) (Evl.rv_ixT (Evl.st_of h) (by rw [elw]; exact at_neg1 _ _))
        have lp := room_pos (ns.length + 1 - qq.2.1.length) (es.length - qq.1.length)
        have ld : load es.length ns.length (w0 ++ [qq]) = load es.length ns.length w0 + room (ns.length + 1 - qq.2.1.length) (es.length - qq.1.length) := by rw [load_app]; rfl
        have test0 : ∀ {σ : L2.St} {H' : Hp}, σ[6]? = some (some (.ref m')) → σ[2]? = some (some (.str v)) → H' m' = some (.tup (qq.2.1.map V.str)) → Evl.EvT (tTest (tOp rEq (tOp (rIxT K) (tVar 6) (tUn (rU fun i => V.int (-i)) (tC (V.int 1)))) (tVar 2))) σ H' (decide (qq.2.2 = v)) := fun h0 h2 h => Evl.et_is (Evl.et_test (Evl.ev_op (last h0 h) (Evl.ev_var h2) (Evl.rv_eq rfl))) (by simp)
        have test1 : ∀ {σ : L2.St} {H' : Hp}, σ[6]? = some (some (.ref m')) → σ[2]? = some (some (.str v)) → H' m' = some (.tup (qq.2.1.map V.str)) → Evl.EvT (tTest (tOp rNe (tOp (rIxT K) (tVar 6) (tUn (rU fun i => V.int (-i)) (tC (V.int 1)))) (tVar 2))) σ H' (!decide (qq.2.2 = v)) := fun h0 h2 h => Evl.et_is (Evl.et_test (Evl.ev_op (last h0 h) (Evl.ev_var h2) (Evl.rv_ne rfl))) (by simp)
        have lts := paired_len hts
        rw [List.length_map] at lts
        refine Evl.q_when (test0 rfl rfl hm3) (fun hv H4 e4 => ?_) (fun hv H4 e4 => ?_)
        · have ev := of_decide_eq_true hv
          have l1 := load_len es.length ns.length w0
          refine s_appZ (e4 _ _ hfo3) (Evl.ev_var rfl) (Evl.ev_var rfl) (by rw [List.length_map]; omega) fun H5 e5 => ?_
          have k5 : TK H3 (upd H5 fo (.lst (ts.map V.ref ++ [.ref n']))) := (TK.ex (e4.trans e5)).trans (TK.put (.inr ⟨_, (e4.trans e5) _ _ hfo3⟩))
          have ex5 : Evl.Ex H (upd H5 fo (.lst (ts.map V.ref ++ [.ref n']))) := ((ex3.trans e4).trans e5).mut nfo
          have hw5 : (upd H5 fo (.lst (ts.map V.ref ++ [.ref n']))) wo = some (.lst (r0.map V.ref)) := by rw [upd_ne (Ne.symm fw)]; exact (e4.trans e5) _ _ hw3
          have hf5 : (upd H5 fo (.lst (ts.map V.ref ++ [.ref n']))) fo = some (.lst ((ts ++ [n']).map V.ref)) := by rw [upd_same, List.map_append]; rfl
          have hm5 := k5 _ _ hm3
          have hn5 := k5 _ _ hn3
          have hts5 := hts3.tk k5
          have hr5 := WtsAt.tk k5 hr3
          generalize upd H5 fo (.lst (ts.map V.ref ++ [.ref n'])) = H6 at *
          refine (show ∃ m', m' < load es.length ns.length (w0 ++ [qq]) ∧ W m' _ H6 from ⟨load es.length ns.length w0, by omega, _, _, x7, x8, x9, x10, x11, fs ++ [qq.1], w0, ts ++ [n'], r0, rfl, ex5, hf5, ?_, hw5, hr5, dfs.found ev, fun q hq => sub q (List.mem_append_left _ hq), rfl, by rw [List.length_append, List.length_singleton]; omega⟩)
          rw [List.map_append]
          exact paired_snoc hts5 hn5
        · have nv := of_decide_eq_false hv
          have lst := load_step wt lsub
          have lap := load_app es.length ns.length w0 ((es.filter (okEdge qq)).map (child qq))
          have len := load_len es.length ns.length (w0 ++ (es.filter (okEdge qq)).map (child qq))
          rw [List.length_append, List.length_map] at len
          have lr0 := paired_len hr3
          have l9 : qq.1.length ≤ es.length := nodup_len wt.edges wt.mem
          have l6 : qq.2.1.length ≤ ns.length := nodup_len wt.nodes lsub
          have ex4 := ex3.trans e4
          have lae := he.len
          refine s_forLVia (fun l xs H' => l = b ∧ xs = as.map V.ref ∧ Evl.Ex H4 H') (fun Q' hQ' => ?_)
            (fun l xs i σ' H' => l = b ∧ xs = as.map V.ref ∧ ∃ (x7 x8 x9 x10 x11 : Option V) (cs : List Addr), σ' = [some (.ref b), some (.str u), some (.str v), some (.ref fo), some (.ref wo), some (.ref n'), some (.ref m'), x7, x8, x9, x10, x11] ∧ Evl.Ex H H' ∧ H' fo = some (.lst (ts.map V.ref)) ∧ TupsAt H' ts (fs.map nms) ∧ H' n' = some (.tup ((nms qq.1).map V.str)) ∧ H' m' = some (.tup (qq.2.1.map V.str)) ∧ H' wo = some (.lst ((r0 ++ cs).map V.ref)) ∧ WtsAt H' (r0 ++ cs) (w0 ++ ((es.take i).filter (okEdge qq)).map (child qq)))
            (fun l xs H' ⟨h1, h2, h3⟩ => ⟨h1, h2, x7, x8, x9, x10, x11, [], rfl, ex4.trans h3, h3 _ _ (e4 _ _ hfo3), hts3.tk (TK.ex (e4.trans h3)), h3 _ _ (e4 _ _ hn3), h3 _ _ (e4 _ _ hm3), by rw [List.append_nil]; exact h3 _ _ (e4 _ _ hw3), by rw [List.append_nil]; simpa using WtsAt.tk (TK.ex (e4.trans h3)) hr3⟩)
            (fun l xs i σ' H' ⟨h1, h2, _, _, _, _, _, _, _, e, _⟩ => by rw [h1, h2]; exact Evl.sq_of (e _ _ hb)) (fun l xs i y σ' H' hy w' => ?_) (fun l xs σ' H' w' => ?_)
          · exact ⟨.ref b, rfl, hQ' _ _ _ ⟨rfl, rfl, Evl.Ex.refl _⟩⟩
          · obtain ⟨rfl, rfl, x7', x8', x9', x10', x11', cs, rfl, e, hf, htsw, hn, hm, hw, hws⟩ := w'
            rw [List.getElem?_map] at hy
            obtain ⟨a', ha', rfl⟩ := Option.map_eq_some_iff.mp hy
            obtain ⟨g, hg, hag⟩ := egs_get he ha'
            have tkk : (es.take (i + 1)).filter (okEdge qq) = (es.take i).filter (okEdge qq) ++ (if okEdge qq g = true then [g] else []) := by
              rw [List.take_add_one, hg, List.filter_append]
              show _ ++ List.filter _ [g] = _
              rw [List.filter_cons]
              rfl
            have lcs := paired_len hws
            rw [List.length_append, List.length_append, List.length_map] at lcs
            have lfl : ((es.take i).filter (okEdge qq)).length ≤ (es.filter (okEdge qq)).length := ((List.take_sublist i es).filter _).length_le
            refine ⟨a', _, rfl, Evl.st_of (e _ _ hag), rfl, _, _, rfl, _, _, rfl, _, _, rfl, _, _, rfl, rfl, ?_⟩
            refine Evl.q_asg (v := .str (oth g qq.2.2)) (Evl.ev_if (b := decide (g.2.1 = qq.2.2)) (Evl.et_is (Evl.et_test (Evl.ev_op (x := .str g.2.1) (Evl.ev_var rfl) (last rfl hm) (Evl.rv_eq rfl))) (by simp)) (fun z => ?_) (fun z => ?_)) fun H6 e6 => ?_
            · rw [oth, if_pos (of_decide_eq_true z)]
              exact Evl.ev_var rfl
            · rw [oth, if_neg (of_decide_eq_false z)]
              exact Evl.ev_var rfl
            have hm6 := e6 _ _ hm
            refine Evl.s_when (b := okEdge qq g) (Evl.et_is (Evl.et_and (a := tch g qq.2.2) (b := !decide (oth g qq.2.2 ∈ qq.2.1)) (Evl.et_is (Evl.et_test (Evl.ev_inU (xs := [g.2.1, g.2.2.1].map V.str) (last rfl hm6) (Evl.eu_tup (Evl.ea_cons (Evl.ev_var rfl) (Evl.ea_cons (Evl.ev_var rfl) Evl.ea_nil)) (by simp)) rfl rfl)) ?_) (fun _ => Evl.et_is (Evl.et_test (Evl.ev_op (x := .str (oth g qq.2.2)) (Evl.ev_var rfl) (Evl.ev_var rfl) (Evl.rv_niT (Evl.st_of hm6) rfl (by simp [flatV])))) ?_)) rfl) (fun ok H7 e7 => ?_) (fun no H7 e7 => ?_)
            · rw [inV_str]
              exact inT g qq.2.2
            · rw [inV_str]
            · have hw7 := e7 _ _ (e6 _ _ hw)
              have hn7 := e7 _ _ (e6 _ _ hn)
              have hm7 := e7 _ _ hm6
              rw [ok] at tkk
              rw [if_pos rfl] at tkk
              refine ⟨.ref wo, rfl, .inl ⟨rfl, _, Evl.sq_of hw7⟩, ?_⟩
              refine g_cons (g_tupE (g_cons (g_catA (a := n') (xs := (nms qq.1).map V.str) (ys := [.str g.1]) (Evl.ev_var rfl) hn7 (Evl.eu_tup (Evl.ea_cons (Evl.ev_var rfl) Evl.ea_nil) (by simp)) (by simp; omega) fun n2 H8 e8 hn2 => ?_)))
              refine g_cons (g_catA (a := m') (xs := qq.2.1.map V.str) (ys := [.str (oth g qq.2.2)]) (Evl.ev_var rfl) (e8 _ _ hm7) (Evl.eu_tup (Evl.ea_cons (Evl.ev_var rfl) Evl.ea_nil) (by simp)) (by simp; omega) fun m2 H9 e9 hm2 => ?_)
              refine g_nil ⟨Evl.sz_of (by simp), fun r2 nr2 => ?_⟩
              have er := Evl.Ex.new (o := .tup [.ref n2, .ref m2]) nr2
              have e79 := (e8.trans e9).trans er
              have hwr := e79 _ _ hw7
              refine g_nil ⟨wo, _, .ref r2, rfl, rfl, hwr, by rw [List.length_map, List.length_append]; exact szZ (by omega), ?_⟩
              have r2w : r2 ≠ wo := apart (e9 _ _ (e8 _ _ hw7)) nr2
              have kq : TK (upd H9 r2 (.tup [.ref n2, .ref m2])) (upd (upd H9 r2 (.tup [.ref n2, .ref m2])) wo (.lst ((r0 ++ cs).map V.ref ++ [.ref r2]))) := TK.put (.inr ⟨_, hwr⟩)
              have k7 : TK H7 (upd (upd H9 r2 (.tup [.ref n2, .ref m2])) wo (.lst ((r0 ++ cs).map V.ref ++ [.ref r2]))) := (TK.ex e79).trans kq
              have k5 := (TK.ex (e6.trans e7)).trans k7
              refine ⟨rfl, rfl, _, _, _, _, _, cs ++ [r2], rfl, (((e.trans e6).trans e7).trans e79).mut nwo, ?_, htsw.tk k5, k7 _ _ hn7, k7 _ _ hm7, ?_, ?_⟩
              · rw [upd_ne fw]
                exact e79 _ _ (e7 _ _ (e6 _ _ hf))
              · rw [upd_same, ← List.append_assoc, List.map_append (l₂ := [r2])]
                rfl
              · rw [tkk, List.map_append (l₂ := [g]), ← List.append_assoc, ← List.append_assoc]
                refine paired_snoc (hws.tk k5) ⟨n2, m2, kq _ _ upd_same, ?_, ?_⟩
                · have := kq _ _ (er _ _ (e9 _ _ hn2))
                  rw [this]
                  simp [child, nms]
                · have := kq _ _ (er _ _ hm2)
                  rw [this]
                  simp [child]
            · refine ⟨rfl, rfl, _, _, _, _, _, cs, rfl, (e.trans e6).trans e7, e7 _ _ (e6 _ _ hf), htsw.tk (TK.ex (e6.trans e7)), e7 _ _ (e6 _ _ hn), e7 _ _ hm6, e7 _ _ (e6 _ _ hw), ?_⟩
              rw [tkk, if_neg (by rw [no]; simp), List.append_nil]
              exact hws.tk (TK.ex (e6.trans e7))
          · obtain ⟨rfl, rfl, x7', x8', x9', x10', x11', cs, rfl, e, hf, htsw, hn, hm, hw, hws⟩ := w'
            rw [List.length_map, lae, List.take_length] at hws
            refine ⟨load es.length ns.length (w0 ++ (es.filter (okEdge qq)).map (child qq)), by omega, _, _, _, _, _, _, _, fs, _, ts, _, rfl, e, hf, htsw, hw, hws, dfs.go nv, fun q hq y hy => ?_, rfl, by omega⟩
            rcases List.mem_append.mp hq with hq | hq
            · exact sub q (List.mem_append_left _ hq) y hy
            · obtain ⟨f, hf, rfl⟩ := List.mem_map.mp hq
              rcases List.mem_append.mp hy with hy | hy
              · exact lsub y hy
              · rw [List.mem_singleton.mp hy]
                obtain ⟨z1, z2⟩ := en f (List.mem_filter.mp hf).1
                unfold oth
                split
                · exact z2
                · exact z1
      · have nw : ws = [] := by
          cases hrs with
          | nil => rfl
          | cons _ _ => simp at hb'
        subst nw
        exact Evl.s_ret (Evl.ev_var rfl) fun H3 e3 => q H3 fo ts fs ((eH.trans e2).trans e3) nfo (e3 _ _ (e2 _ _ hfo)) (hts.tk (TK.ex (e2.trans e3))) (fun p => dfs.done p) (by omega)
end
end Lj

set_option maxHeartbeats 1000000
/-! the edges of a least join: the negative ones, toggled along shortest walks -/
namespace Lj
open PySem Lw L2
/-- the names that are taken -/
def Tkn (es : List Eg) (A : Sub) (ks : List Str) : Prop := ks.Nodup ∧ ∀ z, z ∈ ks ↔ ∃ e ∈ es, e.1 = z ∧ A e = true
theorem one_name {es : List Eg} (nd : (es.map (·.1)).Nodup) {a b : Eg} (ha : a ∈ es) (hb : b ∈ es) (e : a.1 = b.1) : a = b := by
  obtain ⟨i, hi, rfl⟩ := List.mem_iff_getElem.mp ha
  obtain ⟨j, hj, rfl⟩ := List.mem_iff_getElem.mp hb
  have : i = j := (List.getElem_inj (h₀ := by simpa using hi) (h₁ := by simpa using hj) nd).mp (by simpa using e)
  subst this
  rfl
theorem sx_bw {e : Eg} {W : List Eg} (x : Eg) : sx isN (BW (e :: W)) x = (sx isN (BW W) x != decide (x = e)) := by
  show (isN x != (BW W x != decide (x = e))) = _
  show _ = ((isN x != BW W x) != decide (x = e))
  cases isN x <;> cases BW W x <;> cases decide (x = e) <;> rfl
theorem Tkn.start {es : List Eg} (nd : (es.map (·.1)).Nodup) : Tkn es (sx isN (BW [])) ((negs es).map (·.1)) := by
  refine ⟨?_, fun z => ?_⟩
  · have : ((negs es).map (·.1)).Sublist (es.map (·.1)) := (List.filter_sublist).map _
    exact this.nodup nd
  · constructor
    · intro h
      obtain ⟨e, he, rfl⟩ := List.mem_map.mp h
      obtain ⟨h1, h2⟩ := List.mem_filter.mp he
      exact ⟨e, h1, rfl, by simp only [sx, BW, isN]; simpa using h2⟩
    · rintro ⟨e, he, rfl, h2⟩
      exact List.mem_map_of_mem (List.mem_filter.mpr ⟨he, by simpa [sx, BW, isN] using h2⟩)
theorem Tkn.out {es : List Eg} (nd : (es.map (·.1)).Nodup) {W : List Eg} {ks : List Str} (h : Tkn es (sx isN (BW W)) ks) {e : Eg} (he : e ∈ es) (m : e.1 ∈ ks) : Tkn es (sx isN (BW (e :: W))) (ks.filter fun z => decide (z ≠ e.1)) := by
  refine ⟨h.1.filter _, fun z => ?_⟩
  rw [List.mem_filter, h.2 z]
  constructor
  · rintro ⟨⟨f, hf, rfl, hA⟩, ne⟩
    have ne : f.1 ≠ e.1 := by simpa using ne
    refine ⟨f, hf, rfl, ?_⟩
    rw [sx_bw, hA, decide_eq_false fun q : f = e => ne (by rw [q])]
    rfl
  · rintro ⟨f, hf, rfl, hA⟩
    obtain ⟨g, hg, e1, hB⟩ := (h.2 e.1).mp m
    have : g = e := one_name nd hg he e1
    subst this
    have ne : f ≠ g := fun q => by
      subst q
      rw [sx_bw, hB, decide_eq_true rfl] at hA
      exact absurd hA (by decide)
    rw [sx_bw, decide_eq_false ne] at hA
    refine ⟨⟨f, hf, rfl, by simpa using hA⟩, ?_⟩
    simpa using fun q => ne (one_name nd hf hg q)
theorem Tkn.put {es : List Eg} (nd : (es.map (·.1)).Nodup) {W : List Eg} {ks : List Str} (h : Tkn es (sx isN (BW W)) ks) {e : Eg} (he : e ∈ es) (m : e.1 ∉ ks) : Tkn es (sx isN (BW (e :: W))) (ks ++ [e.1]) := by
  have nA : sx isN (BW W) e = false := by
    cases q : sx isN (BW W) e with
    | false => rfl
    | true => exact absurd ((h.2 e.1).mpr ⟨e, he, rfl, q⟩) m
  refine ⟨?_, fun z => ?_⟩
  · exact List.nodup_append.mpr ⟨h.1, by simp, fun a ha b hb q => by
      rw [List.mem_singleton.mp hb] at q
      exact m (q ▸ ha)⟩
  · rw [List.mem_append, h.2 z, List.mem_singleton]
    constructor
    · rintro (⟨f, hf, rfl, hA⟩ | rfl)
      · refine ⟨f, hf, rfl, ?_⟩
        rw [sx_bw, hA, decide_eq_false fun q : f = e => by rw [q, nA] at hA; exact absurd hA (by decide)]
        rfl
      · exact ⟨e, he, rfl, by rw [sx_bw, nA, decide_eq_true rfl]; rfl⟩
    · rintro ⟨f, hf, rfl, hA⟩
      by_cases q : f = e
      · exact .inr (by rw [q])
      · rw [sx_bw, decide_eq_false q] at hA
        exact .inl ⟨f, hf, rfl, by simpa using hA⟩
theorem cnt_appW (a b : List Eg) (z : Str) : cnt (a ++ b) z = cnt a z + cnt b z := by
  unfold cnt
  rw [List.map_append, List.sum_append]
theorem wt_app (a b : List Eg) : wt (a ++ b) = wt a + wt b := by
  unfold wt
  rw [List.map_append, List.sum_append]
theorem wt_rev (a : List Eg) : wt a.reverse = wt a := by
  induction a with
  | nil => rfl
  | cons e a ih => rw [List.reverse_cons, wt_app, ih, wt_cons, wt_cons]; simp [wt]; omega
theorem cnt_rev (a : List Eg) (z : Str) : cnt a.reverse z = cnt a z := by
  induction a with
  | nil => rfl
  | cons e a ih => rw [List.reverse_cons, cnt_appW, ih, Lw.cnt_cons, Lw.cnt_cons]; simp [cnt]; omega
/-- what is taken in the end is a least join -/
theorem join_of_walks {es : List Eg} (nd : es.Nodup) (p2 : Prop2 es) {odd T P : List Str} (ho : ∀ y, y ∈ odd ↔ isOdd (negs es) y) (np : P.Nodup) (hP : ∀ z, z ∈ P ↔ ¬ (z ∈ odd ↔ z ∈ T)) {c : Int} {b : Option Str} (o : Opt es P (some (c, b))) {W : List Eg} (hW : ∀ e ∈ W, e ∈ es) (wW : wt W = c) (par : ∀ z, cnt W z % 2 = P.count z % 2) :
    IsJ es T (sx isN (BW W)) ∧ ln (es.filter (sx isN (BW W))) = c + ((negs es).map (·.2.2.2)).sum := by
  obtain ⟨q1, q2⟩ := bw_ok nd hW
  have j : IsJ es T (sx isN (BW W)) := fun z => by
    unfold isOdd
    have h1 := cnt_sx isN (BW W) z es
    have h2 := q1 z
    have h3 := par z
    have h4 := ho z
    have h5 := hP z
    rw [odd_iff np z] at h5
    unfold isOdd negs at h4
    have e : es.filter isN = es.filter fun e => decide (e.2.2.2 < 0) := rfl
    rw [e] at h1
    rw [h1]
    have a := Nat.mod_two_eq_zero_or_one (cnt (es.filter fun e => decide (e.2.2.2 < 0)) z)
    have b := Nat.mod_two_eq_zero_or_one (P.count z)
    by_cases m : z ∈ T <;> by_cases m2 : z ∈ odd
    · have := h4.mp m2
      have : ¬ P.count z % 2 = 1 := fun k => (h5.mp k) ⟨fun _ => m, fun _ => m2⟩
      simp only [m, true_iff]
      omega
    · have : ¬ _ := fun k => m2 (h4.mpr k)
      have : P.count z % 2 = 1 := h5.mpr fun k => m2 (k.mpr m)
      simp only [m, true_iff]
      omega
    · have := h4.mp m2
      have : P.count z % 2 = 1 := h5.mpr fun k => m (k.mp m2)
      simp only [m, false_iff]
      omega
    · have : ¬ _ := fun k => m2 (h4.mpr k)
      have : ¬ P.count z % 2 = 1 := fun k => (h5.mp k) ⟨fun k => absurd k m2, fun k => absurd k m⟩
      simp only [m, false_iff]
      omega
  refine ⟨j, Int.le_antisymm ?_ ?_⟩
  · have := ln_sx (sx isN (BW W)) es
    have e : es.filter (sx (sx isN (BW W)) isN) = es.filter (BW W) := List.filter_congr fun x _ => by
      show ((isN x != BW W x) != isN x) = _
      cases isN x <;> cases BW W x <;> rfl
    rw [e] at this
    have s : ln (es.filter isN) = ((negs es).map (·.2.2.2)).sum := rfl
    omega
  · have := join_of_opt2 nd p2 ho np hP o
    exact this.2 _ j
end Lj

set_option maxHeartbeats 2000000
/-! the law's own cycles, and lengths raised -/
namespace Lj
open PySem PySem.Spec PyProof.Rows L2 Lw Hq
open Evl (EvL EvA EvT EvU RC)
abbrev nm__law_cycles : List Str := ["_law_edges", "_law_found", "_law_k", "_law_name", "_law_u", "_law_v", "_law_length", "_law_names_here"]
theorem sc__law_cycles : FnScope nm__law_cycles ["_law_edges"] (defScope (top 71)) := ⟨rfl, rfl, rfl, by decide +kernel, rfl, by decide +kernel, by decide +kernel⟩
section
variable {P : Program} {w : World} {K : PySem.W.Frag} {mg : Str → Option Value} {base : Heap}
theorem nms_nodup {es : List Eg} (nd : (es.map (·.1)).Nodup) : ∀ {c : List Eg}, c.Nodup → (∀ e ∈ c, e ∈ es) → (nms c).Nodup
  | [], _, _ => List.nodup_nil
  | e :: c, n, h => by
    obtain ⟨n1, n2⟩ := List.nodup_cons.mp n
    refine List.nodup_cons.mpr ⟨fun z => ?_, nms_nodup nd n2 fun f hf => h f (List.mem_cons_of_mem _ hf)⟩
    obtain ⟨f, hf, e1⟩ := List.mem_map.mp z
    exact n1 (one_name nd (h f (List.mem_cons_of_mem _ hf)) (h e List.mem_cons_self) e1 ▸ hf)
/-- names of edges, in their order -/
abbrev snms (c : List Eg) : List Str := srtN (nms c)
def spCyclesL : Sp := fun vs H Q _ => ∃ (b : Addr) (as : List Addr) (es : List Eg) (ns : List Str), vs = [V.ref b] ∧ H b = some (.lst (as.map V.ref)) ∧ EgsAt H as es ∧ (es.map (·.1)).Nodup ∧ (∀ e ∈ es, e.2.1 ∈ ns ∧ e.2.2.1 ∈ ns) ∧ es.length ≤ 9 ∧ ns.length ≤ 7 ∧
  ∀ (H' : Hp) (l : Addr) (ts : List Addr) (cs : List (List Eg)), Evl.Ex H H' → H l = none → H' l = some (.lst (ts.map V.ref)) → TupsAt H' ts (cs.map snms) → (∀ c, c ∈ cs ↔ IsCyc es c) → cs.length < 2800000 → Q (.ref l) H'
theorem ok_cyclesL {f fW : Addr} {fd dW : FuncData} {k : Nat} (F : Fun K "_law_cycles" "_law_cycles" (top 71) f fd) (T : Bs mg bl) (F_law_walks : Cf P w K mg base "_law_walks" ["_law_edges", "_law_u", "_law_v"] k spWalks fW dW) : FnOk P w K mg base CX0 (k + 1) f fd ["_law_edges"] spCyclesL := by
  refine F.ok sc__law_cycles (fun vs H Q E h => ?_) (fun cdv A outer s H vs Q E hr h => ?_)
  · obtain ⟨b, as, es, ns, rfl, _⟩ := h
    rfl
  · obtain ⟨b, as, es, ns, rfl, hb, he, ndn, en, l0, l1, q⟩ := h
    refine ⟨_, (pss_cons (ps_set (i := 1) sc__law_cycles.nd rfl (Or.inl rfl) (pe_lst pa_nil))
      (pss_cons (ps_for PassesOwn.never rfl (pi_range1 (by rfl) (T.b "range" (by decide)) (pa_cons (pe_callB call_len_seq (by rfl) (T.b "len" (by decide)) (by decide +kernel) (pa_cons (pv 0) pa_nil)) pa_nil)) (pg_name (i := 2) sc__law_cycles.nd rfl (Or.inl rfl)) (pss_cons (ps_asg (pe_ix ix_list (pv 0) (pv 2) (fun _ _ => rfl)) (pg_tup rfl (pgs_cons (pg_name (i := 3) sc__law_cycles.nd rfl (Or.inr rfl)) (pgs_cons (pg_name (i := 4) sc__law_cycles.nd rfl (Or.inl rfl)) (pgs_cons (pg_name (i := 5) sc__law_cycles.nd rfl (Or.inl rfl)) (pgs_cons (pg_name (i := 6) sc__law_cycles.nd rfl (Or.inl rfl)) pgs_nil))))))
      (pss_one (ps_expr (pe_bm PySem.F.plainAttrs_list PySem.F.slot_list_extend PySem.F.type_list_extend mt_extend (pv 1) (pa_cons (pe_lc (own := [("_law_names_here", 7)]) (g := (gName 7)) (tt := tYes) (te := (tCB (fun xs H Q => ∃ p ys, xs = [V.ref p] ∧ ((SqL K H p ys ∧ ∀ l, H l = none → Q (.ref l) (upd H l (.tup ys))) ∨ (SqT K H p ys ∧ Q (.ref p) H))) (tCons (tCB (rSortedD K) (tCons (tOp (rCatA K) (tVar 7) (tTup (tCons (tVar 3) tNil))) tNil)) tNil))) rfl sc__law_cycles.nd (pi_list (pe_cf F_law_walks (hr.mono (by omega)) (by rfl) (pa_cons (pe_slice sl_list (pv 0) (po_some (pe_op op_add (pv 2) pe_int)) po_none) (pa_cons (pv 4) (pa_cons (pv 5) pa_nil))))) (blkOk_by (N := nm__law_cycles) (sc := defScope (top 71)) (by decide +kernel)) (fun _ _ _ _ _ => pg_name (i := 7) sc__law_cycles.nd rfl (Or.inl rfl)) (fun _ _ _ _ _ => pts_nil) (fun _ _ _ _ _ => (pe_callTy call_tuple_of (by rfl) (T.b "tuple" (by decide)) (by decide +kernel) (pa_cons (pe_callB (cr_sortedD hr) (by rfl) (T.b "sorted" (by decide)) (by decide +kernel) (pa_cons (pe_op op_catA (pv 7) (pe_tup (pa_cons (pv 3) pa_nil))) pa_nil)) pa_nil)))) pa_nil))))))
      (pss_one (ps_ret (pv 1))))), ?_⟩
    have lae := he.len
    refine ⟨Evl.sz_of (by simp), fun lo nlo => ?_⟩
    refine g_name ?_
    dsimp only
    have e0 := Evl.Ex.new (o := .lst []) nlo
    have ed : ∀ {σ : L2.St} {H' : Hp}, Evl.Ex H H' → σ[0]? = some (some (.ref b)) → Evl.Ev (tVar 0) σ H' (.ref b) := fun e h => Evl.ev_var h
    refine Evl.q_forR1 (n := (es.length : Nat)) (Evl.ea_cons (Evl.ev_is (Evl.ev_len (ed e0 rfl) (Evl.sq_of (e0 _ _ hb))) (by rw [List.length_map, lae])) Evl.ea_nil) ⟨by omega, by omega⟩ (fun i σ' H' => ∃ (x2 x3 x4 x5 x6 : Option V) (cs : List (List Eg)) (ts : List Addr), σ' = [some (.ref b), some (.ref lo), x2, x3, x4, x5, x6, none] ∧ Evl.Ex H H' ∧ H' lo = some (.lst (ts.map V.ref)) ∧ TupsAt H' ts (cs.map snms) ∧ (∀ c, c ∈ cs ↔ CycTo es i c) ∧ cs.length ≤ 300000 * i)
      (fun H1 e1 => ⟨none, none, none, none, none, [], [], rfl, e0.trans e1, e1 _ _ upd_same, .nil, fun c => ⟨fun h => absurd h (by simp), fun h => absurd h.zero id⟩, Nat.le_refl _⟩) (fun i σ' H' hi z => ?_) (fun σ' H' z => ?_)
    · obtain ⟨x2, x3, x4, x5, x6, cs, ts, rfl, e, hlo, hts, hcs, lcs⟩ := z
      have li : i < es.length := by omega
      obtain ⟨g, hg⟩ : ∃ g, es[i]? = some g := ⟨_, List.getElem?_eq_getElem li⟩
      obtain ⟨a', ha', hag⟩ := paired_back he hg
      have lts := paired_len hts
      rw [List.length_map] at lts
      have split : es = es.take i ++ g :: es.drop (i + 1) := by
        conv => lhs; rw [← List.take_append_drop i es]
        rw [List.drop_eq_getElem_cons li]
        rw [List.getElem?_eq_getElem li] at hg
        rw [Option.some.inj hg]
      have get : Evl.Ev (tOp (rIxL K) (tVar 0) (tVar 2)) [some (.ref b), some (.ref lo), some (.int (i : Int)), x3, x4, x5, x6, none] H' (.ref a') := Evl.ev_op (ed e rfl) (Evl.ev_var rfl) (Evl.rv_ixL (Evl.sq_of (e _ _ hb)) (atI_some (Int.natCast_nonneg i) (by rw [Int.toNat_natCast, List.getElem?_map, ha']; rfl)))
      refine get H' (Evl.Ex.refl _) _ fun H1 e1 => ?_
      refine ⟨a', egV g, rfl, Evl.st_of (e1 _ _ (e _ _ hag)), rfl, _, _, rfl, _, _, rfl, _, _, rfl, _, _, rfl, rfl, ?_⟩
      have hlo1 := e1 _ _ hlo
      have eH1 := e.trans e1
      refine ⟨.ref lo, rfl, .inl ⟨rfl, _, Evl.sq_of hlo1⟩, ?_⟩
      have hr : es.drop (i + 1) ⊆ es := List.drop_subset _ _
      obtain ⟨gu, gv⟩ := en g (List.mem_of_getElem? hg)
      refine lc_mkV (K := K) (α := List Eg) (R := fun (H : Hp) (a : Addr) (p : List Eg) => H a = some (.tup ((nms p).map V.str))) (fun e r => e _ _ r) (fun p => (snms (g :: p)).map V.str) (j := 7) (vs := [7]) (fun l ws fs H2 => Evl.Ex H1 H2 ∧ H2 l = some (.lst (ws.map V.ref)) ∧ TupsAt H2 ws (fs.map nms) ∧ (∀ p, p ∈ fs ↔ ∃ ns, Way (es.drop (i + 1)) g.2.1 p ns g.2.2.1) ∧ fs.length < 300000) (fun Q1 k1 => ?_)
        (fun l ws fs H2 ⟨_, h2, h3, _, h5⟩ => ⟨Evl.sq_of h2, paired_of (R := fun (a : Addr) (T : List Str) => H2 a = some (.tup (T.map V.str))) (g := nms) h3, by omega⟩) (fun _ => rfl)
        (fun l ws fs H2 ⟨_, _, _, h4, _⟩ p a H3 e3 hp ha => ?_) (fun l ws fs H2 ⟨e2, h2, h3, h4, h5⟩ B us H3 nB e3 hB hus => ?_)
      · refine g_call (g_cons ((Evl.el_sl (ed eH1 rfl) (Evl.eo_some (Evl.ev_is (Evl.ev_op (Evl.ev_var rfl) Evl.ev_c Evl.rv_I0) (show V.int ((i : Int) + 1) = V.int ((i + 1 : Nat) : Int) by rw [Int.natCast_add]; rfl))) Evl.eo_none (Evl.sq_of (eH1 _ _ hb))) H1 (Evl.Ex.refl _) _ fun rb H3 nrb e3 hrb => ?_))
        rw [cut_fromL, ← List.map_drop] at hrb
        refine g_cons (Evl.ev_var rfl _ (Evl.Ex.refl _) _ fun H5 e5 => g_cons (Evl.ev_var rfl _ (Evl.Ex.refl _) _ fun H6 e6 => g_nil ?_))
        have e36 := (e3.trans e5).trans e6
        refine ⟨rb, as.drop (i + 1), es.drop (i + 1), ns, g.2.1, g.2.2.1, rfl, (e5.trans e6) _ _ hrb, EgsAt.tk (TK.ex (eH1.trans e36)) (show EgsAt H _ _ from paired_drop he (i + 1)), fun e hE => en e (hr hE), gu, by rw [List.length_drop]; omega, l1, fun H7 l ws fs e7 nl hl hws hfs lfs => ?_⟩
        exact k1 l ws fs H7 ⟨e36.trans e7, hl, hws, hfs, lfs⟩
      · obtain ⟨ms, wy⟩ := (h4 p).mp hp
        have lp : p.length ≤ es.length := nodup_len wy.edges fun e he => hr (wy.mem e he)
        have ndc : (nms (g :: p)).Nodup := by
          refine nms_nodup ndn (List.nodup_cons.mpr ⟨fun h => ?_, wy.edges⟩) fun e hE => ?_
          · have n0 : es.Nodup := nd_es ndn
            rw [split] at n0
            exact (List.nodup_cons.mp (List.nodup_append.mp n0).2.1).1 (wy.mem g h)
          · rcases List.mem_cons.mp hE with rfl | hE
            · exact List.mem_of_getElem? hg
            · exact hr (wy.mem e hE)
        have same : srtN (nms p ++ [g.1]) = snms (g :: p) := srtN_eq ndc (List.perm_append_comm (l₁ := nms p) (l₂ := [g.1]))
        refine fun H4 e4 Q4 q4 => g_cb (g_cons (g_cb (g_cons (g_catA (a := a) (xs := (nms p).map V.str) (ys := [.str g.1]) (Evl.ev_var rfl) (e4 _ _ ha) (Evl.eu_tup (Evl.ea_cons (Evl.ev_var rfl) Evl.ea_nil) (by simp)) (by simp; omega) fun n2 H5 e5 hn2 => g_nil ?_))))
        refine rc_sortN (K := K) (ns := nms p ++ [g.1]) (.inr (Evl.st_of (by rw [List.map_append]; exact hn2))) (by simp; omega) H5 (Evl.Ex.refl _) _ fun ls H6 nls e6 hls => g_nil ⟨ls, _, rfl, .inl ⟨Evl.sq_of hls, fun r nr => ?_⟩⟩
        rw [same]
        exact q4 r _ (Evl.fresh_back (e5.trans e6) nr) ((e5.trans e6).trans (Evl.Ex.new nr)) upd_same
      · have e23 := e2.trans e3
        have lus := paired_len hus
        have hlo3 := e23 _ _ hlo1
        refine g_nil ⟨lo, B, _, _, rfl, rfl, hlo3, hB, by rw [List.length_map, List.length_map]; exact szz (by omega), ?_⟩
        have kq : TK H3 (upd H3 lo (.lst (ts.map V.ref ++ us.map V.ref))) := TK.put (.inr ⟨_, hlo3⟩)
        refine ⟨_, _, _, _, _, cs ++ fs.map (g :: ·), ts ++ us, rfl, (eH1.trans e23).mut nlo, by rw [upd_same, List.map_append], ?_, fun c => ?_, by rw [List.length_append, List.length_map]; omega⟩
        · rw [List.map_append]
          refine paired_app (hts.tk ((TK.ex (e1.trans e23)).trans kq)) ?_
          rw [List.map_map]
          exact paired_mapR (R := fun (a : Addr) (T : List Str) => _) (g := fun p => snms (g :: p)) (paired_imp (fun _ _ z => kq _ _ z) hus)
        · have sc := CycTo.succ (c := c) split
          rw [List.length_take, Nat.min_eq_left (Nat.le_of_lt li)] at sc
          rw [sc, List.mem_append, hcs]
          refine or_congr Iff.rfl ?_
          rw [List.mem_map]
          constructor
          · rintro ⟨p, hp, rfl⟩
            obtain ⟨ms, wy⟩ := (h4 p).mp hp
            exact ⟨p, ms, wy, rfl⟩
          · rintro ⟨p, ms, wy, rfl⟩
            exact ⟨p, (h4 p).mpr ⟨ms, wy⟩, rfl⟩
    · obtain ⟨x2, x3, x4, x5, x6, cs, ts, rfl, e, hlo, hts, hcs, lcs⟩ := z
      refine Evl.s_ret (Evl.ev_var rfl) fun H1 e1 => q H1 lo ts cs (e.trans e1) nlo (e1 _ _ hlo) (hts.tk (TK.ex e1)) (fun c => (hcs c).trans CycTo.all) ?_
      have : (es.length : Int).toNat ≤ 9 := by omega
      have := Nat.mul_le_mul_left 300000 this
      omega
end
end Lj

set_option maxHeartbeats 2000000
/-! rows, totals, and how far nodes are -/
namespace Lj
open PySem PySem.Spec PyProof.Rows L2 Lw Hq
open Evl (EvL EvA EvT EvU RC)
abbrev nm__law_rows : List Str := ["_law_network", "_law_names_here", "_law_edge"]
theorem sc__law_rows : FnScope nm__law_rows ["_law_network", "_law_names_here"] (defScope (top 68)) := ⟨rfl, rfl, rfl, by decide +kernel, rfl, by decide +kernel, by decide +kernel⟩
abbrev nm__law_total : List Str := ["_law_edges", "_law_edge"]
theorem sc__law_total : FnScope nm__law_total ["_law_edges"] (defScope (top 69)) := ⟨rfl, rfl, rfl, by decide +kernel, rfl, by decide +kernel, by decide +kernel⟩
abbrev nm__law_gap : List Str := ["_law_network", "_law_u", "_law_v", "_law_some", "_law_names_here"]
theorem sc__law_gap : FnScope nm__law_gap ["_law_network", "_law_u", "_law_v"] (defScope (top 72)) := ⟨rfl, rfl, rfl, by decide +kernel, rfl, by decide +kernel, by decide +kernel⟩
section
variable {P : Program} {w : World} {K : PySem.W.Frag} {mg : Str → Option Value} {base : Heap}
/-- nodes and edges, as the law has them -/
def NetL (H : Hp) (t : Addr) (es : List Eg) : Prop := ∃ (b : Addr) (x0 : V) (rest : List V) (as : List Addr), H t = some (.tup (x0 :: .ref b :: rest)) ∧ H b = some (.lst (as.map V.ref)) ∧ EgsAt H as es
theorem NetL.ex {H H' : Hp} {t : Addr} {es : List Eg} (e : Evl.Ex H H') (h : NetL H t es) : NetL H' t es := by
  obtain ⟨b, x0, rest, as, h1, h2, h3⟩ := h
  exact ⟨b, x0, rest, as, e _ _ h1, e _ _ h2, h3.tk (TK.ex e)⟩
theorem NetL.edges {K : PySem.W.Frag} {H : Hp} {t : Addr} {es : List Eg} {σ : L2.St} {i : Nat} (h : NetL H t es) (hs : σ[i]? = some (some (.ref t))) : ∃ b as, Evl.Ev (tOp (rIxT K) (tVar i) (tC (.int 1))) σ H (.ref b) ∧ H b = some (.lst (as.map V.ref)) ∧ EgsAt H as es := by
  obtain ⟨b, x0, rest, as, h1, h2, h3⟩ := h
  exact ⟨b, as, Evl.ev_op (Evl.ev_var hs) Evl.ev_c (Evl.rv_ixT (Evl.st_of h1) (atI_some (i := 1) (by decide) rfl)), h2, h3⟩
def spRowsL : Sp := fun vs H Q _ => ∃ (t n : Addr) (es : List Eg) (N : List Str), vs = [V.ref t, .ref n] ∧ NetL H t es ∧ H n = some (.tup (N.map V.str)) ∧ es.length ≤ 1000 ∧ ∀ H' l as, Evl.Ex H H' → H l = none → H' l = some (.lst (as.map V.ref)) → EgsAt H' as (es.filter fun e => decide (e.1 ∈ N)) → Q (.ref l) H'
theorem ok_rowsL {f : Addr} {fd : FuncData} {k : Nat} (F : Fun K "_law_rows" "_law_rows" (top 68) f fd) (T : Bs mg bl) : FnOk P w K mg base CX0 (k + 1) f fd ["_law_network", "_law_names_here"] spRowsL := by
  refine F.ok sc__law_rows (fun vs H Q E h => ?_) (fun cdv A outer s H vs Q E hr h => ?_)
  · obtain ⟨t, n, es, N, rfl, _⟩ := h
    rfl
  · obtain ⟨t, n, es, N, rfl, hp, hn, l0, q⟩ := h
    refine ⟨_, (pss_one (ps_ret (pe_lc (own := [("_law_edge", 2)]) (g := (gName 2)) (tt := (tTest (tOp (rIn K false) (tOp (rIxT K) (tVar 2) (tC (.int 0))) (tVar 1)))) (te := (tVar 2)) rfl sc__law_rows.nd (pi_list (pe_ix ix_tup (pv 0) pe_int (fun _ _ => rfl))) (blkOk_by (N := nm__law_rows) (sc := defScope (top 68)) (by decide +kernel)) (fun _ _ _ _ _ => pg_name (i := 2) sc__law_rows.nd rfl (Or.inl rfl)) (fun _ _ _ _ _ => (pts_one (pt_cmpR op_in_seq (pe_ix ix_tup (pv 2) pe_int (fun _ _ => rfl)) (pv 1) rfl))) (fun _ _ _ _ _ => (pv 2))))), ?_⟩
    obtain ⟨b, as, hb0, hb, he⟩ := hp.edges (K := K) (σ := [some (.ref t), some (.ref n), none]) (i := 0) rfl
    obtain ⟨as', he', li⟩ := el_keep (K := K) (α := Eg) (R := fun (H : Hp) (a : Addr) (e : Eg) => H a = some (.tup (egV e))) (fun e r => e _ _ r) ("", "", "", 0) (σ := [some (.ref t), some (.ref n), none]) (j := 2) (vs := [2]) (t := tTest (tOp (rIn K false) (tOp (rIxT K) (tVar 2) (tC (.int 0))) (tVar 1))) (fun e => decide (e.1 ∈ N)) hb0 (Evl.sq_of hb) he (by omega) (fun _ => rfl)
      (fun g a H1 e1 _ ha => Evl.et_is (Evl.et_test (Evl.ev_op (x := .str g.1) (Evl.ev_op (Evl.ev_var rfl) Evl.ev_c (Evl.rv_ixT (Evl.st_of ha) (atI_some (i := 0) (by decide) rfl))) (Evl.ev_var rfl) (Evl.rv_isT (Evl.st_of (e1 _ _ hn)) rfl (by simp [flatV])))) inV_str) (fun _ => rfl)
    exact Evl.s_retL li fun l H1 nl e1 hl => q H1 l as' e1 nl hl ((show EgsAt H as' _ from he').tk (TK.ex e1))
def spTotal : Sp := fun vs H Q _ => ∃ (b : Addr) (as : List Addr) (es : List Eg), vs = [V.ref b] ∧ H b = some (.lst (as.map V.ref)) ∧ EgsAt H as es ∧ es.length ≤ 1000 ∧ ∀ H', Evl.Ex H H' → Q (.int (ln es)) H'
theorem ok_total {f : Addr} {fd : FuncData} {k : Nat} (F : Fun K "_law_total" "_law_total" (top 69) f fd) (T : Bs mg bl) : FnOk P w K mg base CX0 (k + 1) f fd ["_law_edges"] spTotal := by
  refine F.ok sc__law_total (fun vs H Q E h => ?_) (fun cdv A outer s H vs Q E hr h => ?_)
  · obtain ⟨b, as, es, rfl, _⟩ := h
    rfl
  · obtain ⟨b, as, es, rfl, hb, he, l0, q⟩ := h
    refine ⟨_, (pss_one (ps_ret (pe_callB (cr_sum rfl) (by rfl) (T.b "sum" (by decide)) (by decide +kernel) (pa_cons (pe_lc (own := [("_law_edge", 1)]) (g := (gName 1)) (tt := tYes) (te := (tOp (rIxT K) (tVar 1) (tC (.int 3)))) rfl sc__law_total.nd (pi_list (pv 0)) (blkOk_by (N := nm__law_total) (sc := defScope (top 69)) (by decide +kernel)) (fun _ _ _ _ _ => pg_name (i := 1) sc__law_total.nd rfl (Or.inl rfl)) (fun _ _ _ _ _ => pts_nil) (fun _ _ _ _ _ => (pe_ix ix_tup (pv 1) pe_int (fun _ _ => rfl)))) pa_nil)))), ?_⟩
    have li := el_egs (K := K) (σ := [some (.ref b), none]) (tl := tVar 0) (j := 1) (vs := [1]) (t := tYes) (te := tOp (rIxT K) (tVar 1) (tC (.int 3))) (fun _ => true) (fun e => V.int e.2.2.2) (Evl.ev_var rfl) (Evl.sq_of hb) he (by omega) (fun _ => rfl) (fun _ _ _ _ _ _ => yes_t)
      (fun g a H1 e1 _ ha _ => Evl.ev_op (Evl.ev_var rfl) Evl.ev_c (Evl.rv_ixT (Evl.st_of ha) (atI_some (i := 3) (by decide) rfl)))
    rw [List.filter_eq_self.mpr (fun _ _ => rfl), show es.map (fun e => V.int e.2.2.2) = (es.map (·.2.2.2)).map V.int by rw [List.map_map]; rfl] at li
    exact Evl.s_ret (ev_sumL li) q
/-- the list of a comprehension first -/
theorem g_lcI {tl te : TE} {g : TG} {t : TT} {vs : List Nat} {σ : L2.St} {H : Hp} {Q : VK} (h : tl σ H fun x H1 => tLc (iList K (tC x)) g t te vs σ H1 Q) : tLc (iList K tl) g t te vs σ H Q := h
def spGap : Sp := fun vs H Q _ => ∃ (t : Addr) (es : List Eg) (ns : List Str) (u v : Str), vs = [V.ref t, .str u, .str v] ∧ NetL H t es ∧ (es.map (·.1)).Nodup ∧ (∀ e ∈ es, e.2.1 ∈ ns ∧ e.2.2.1 ∈ ns) ∧ u ∈ ns ∧ es.length ≤ 9 ∧ ns.length ≤ 7 ∧
  ∀ H' r, Evl.Ex H H' → Far es u v r → Q (numV r) H'
theorem ok_gap {f fW fR fT : Addr} {fd dW dR dT : FuncData} {k : Nat} (F : Fun K "_law_gap" "_law_gap" (top 72) f fd) (T : Bs mg bl) (F_law_walks : Cf P w K mg base "_law_walks" ["_law_edges", "_law_u", "_law_v"] k spWalks fW dW) (F_law_rows : Cf P w K mg base "_law_rows" ["_law_network", "_law_names_here"] k spRowsL fR dR) (F_law_total : Cf P w K mg base "_law_total" ["_law_edges"] k spTotal fT dT) : FnOk P w K mg base CX0 (k + 1) f fd ["_law_network", "_law_u", "_law_v"] spGap := by
  refine F.ok sc__law_gap (fun vs H Q E h => ?_) (fun cdv A outer s H vs Q E hr h => ?_)
  · obtain ⟨t, es, ns, u, v, rfl, _⟩ := h
    rfl
  · obtain ⟨t, es, ns, u, v, rfl, hp, nd, en, hu, l0, l1, q⟩ := h
    refine ⟨_, (pss_cons (ps_setLc (i := 3) (own := [("_law_names_here", 4)]) (g := (gName 4)) (tt := tYes) (te := (tCall spTotal [] noE (tCons (tCall spRowsL [] noE (tCons (tVar 0) (tCons (tVar 4) tNil))) tNil))) rfl sc__law_gap.nd rfl rfl (by rfl) (pi_list (pe_cf F_law_walks (hr.mono (by omega)) (by rfl) (pa_cons (pe_ix ix_tup (pv 0) pe_int (fun _ _ => rfl)) (pa_cons (pv 1) (pa_cons (pv 2) pa_nil))))) (blkOk_by (N := nm__law_gap) (sc := defScope (top 72)) (by decide +kernel)) (fun _ _ _ _ _ => pg_name (i := 4) sc__law_gap.nd rfl (Or.inl rfl)) (fun _ _ _ _ _ => pts_nil) (fun _ _ _ _ _ => (pe_cf F_law_total (hr.mono (by omega)) (by rfl) (pa_cons (pe_cf F_law_rows (hr.mono (by omega)) (by rfl) (pa_cons (pv 0) (pa_cons (pv 4) pa_nil))) pa_nil))))
      (pss_one (ps_ret (pe_ifExp (pt_cmpR (op_neNil (hu64 hr)) (pv 3) (pe_lst pa_nil) (nomark _)) (pe_callB (cr_min rfl) (by rfl) (T.b "min" (by decide)) (by decide +kernel) (pa_cons (pv 3) pa_nil)) pe_non)))), ?_⟩
    obtain ⟨b, as, hb0, hb, he⟩ := hp.edges (K := K) (σ := [some (.ref t), some (.str u), some (.str v), none, none]) (i := 0) rfl
    refine g_asgV (g_lcI (g_call (g_ea (vs := [.ref b, .str u, .str v]) (Evl.ea_cons hb0 (Evl.ea_cons (Evl.ev_var rfl) (Evl.ea_cons (Evl.ev_var rfl) Evl.ea_nil))) fun H0 e0 => ?_)))
    refine ⟨b, as, es, ns, u, v, rfl, e0 _ _ hb, he.tk (TK.ex e0), en, hu, l0, l1, fun H1 l ts fs e1' nl hl hts hfs lf => ?_⟩
    have e1 := e0.trans e1'
    have fnd : ∀ p ∈ fs, p.Nodup ∧ ∀ e ∈ p, e ∈ es := fun p hp => by
      obtain ⟨ms, w⟩ := (hfs p).mp hp
      exact ⟨w.edges, w.mem⟩
    have sums : Evl.EvL (tLc (iList K (tC (.ref l))) (gName 4) tYes (tCall spTotal [] noE (tCons (tCall spRowsL [] noE (tCons (tVar 0) (tCons (tVar 4) tNil))) tNil)) [4]) [some (.ref t), some (.str u), some (.str v), none, none] H1 ((fs.map ln).map V.int) := by
      have := el_prd (K := K) (α := List Eg) (R := fun (H : Hp) (a : Addr) (p : List Eg) => H a = some (.tup ((nms p).map V.str))) (fun e r => e _ _ r) [] (σ := [some (.ref t), some (.str u), some (.str v), none, none]) (H := H1) (tl := tC (.ref l)) (t := tYes) (te := tCall spTotal [] noE (tCons (tCall spRowsL [] noE (tCons (tVar 0) (tCons (tVar 4) tNil))) tNil)) (j := 4) (vs := [4]) (l := l) (as := ts) (es := fs) (fun _ => true) (fun p => V.int (ln p)) Evl.ev_c (Evl.sq_of hl) (paired_of (R := fun (a : Addr) (T : List Str) => H1 a = some (.tup (T.map V.str))) (g := nms) hts) (by omega) (fun _ => rfl) (fun g a H2 _ _ _ => yes_t) (fun g a H2 e2 hg ha _ => ?_)
      · rw [List.filter_eq_self.mpr (fun _ _ => rfl), show fs.map (fun p => V.int (ln p)) = (fs.map ln).map V.int by rw [List.map_map]; rfl] at this
        exact this
      · obtain ⟨f1, f2⟩ := fnd g hg
        refine fun H3 e3 Q3 q3 => g_call (g_cons (g_call (g_ea (vs := [.ref t, .ref a]) (Evl.ea_cons (Evl.ev_var rfl) (Evl.ea_cons (Evl.ev_var rfl) Evl.ea_nil)) fun H4 e4 => ?_)))
        refine ⟨t, a, es, nms g, rfl, hp.ex ((((e1.trans e2).trans e3)).trans e4), e4 _ _ (e3 _ _ ha), by omega, fun H5 lr ar e5 nlr hlr har => g_nil ?_⟩
        refine ⟨lr, ar, _, rfl, hlr, har, Nat.le_trans (List.length_filter_le _ _) (by omega), fun H6 e6 => ?_⟩
        rw [ln_named nd f1 f2]
        exact q3 H6 ((e4.trans e5).trans e6)
    refine g_el sums fun so H2 nso e2 hso => ?_
    refine g_name ?_
    dsimp only
    have e02 := e1.trans e2
    have test : Evl.EvT (tTest (tOp (rNeNil K) (tVar 3) (tLst tNil))) [some (.ref t), some (.str u), some (.str v), some (.ref so), none] H2 (!((fs.map ln).map V.int).isEmpty) :=
      Evl.et_test (Evl.ev_opL (Evl.ev_var rfl) (Evl.el_lst Evl.ea_nil (by simp)) fun p' H6 hp e H7 e7 Q7 q7 => ⟨so, p', _, rfl, rfl, Evl.sq_of (e7 _ _ (e _ _ hso)), Evl.sq_of (e7 _ _ hp), q7 H7 (Evl.Ex.refl _)⟩)
    by_cases ne : fs = []
    · subst ne
      refine Evl.s_ret (v := numV none) (Evl.ev_if test (fun z => nomatch z) fun _ => Evl.ev_c) fun H3 e3 => q H3 none (e02.trans e3) ⟨fun p ns' w' => absurd ((hfs p).mpr ⟨ns', w'⟩) (by simp), fun m h => nomatch h⟩
    · obtain ⟨m, hm, lm⟩ := least_of (l := fs.map ln) (by simpa using ne)
      refine Evl.s_ret (v := numV (some m)) (Evl.ev_if test (fun _ => Evl.ev_cb (vs := [.ref so]) (Evl.ea_cons (Evl.ev_var rfl) Evl.ea_nil) fun H3 e3 Q3 q3 => ⟨so, fs.map ln, rfl, Evl.sq_of (e3 _ _ hso), List.length_pos_of_mem hm, fun m' h1 h2 => ?_⟩) fun z => ?_) fun H3 e3 => q H3 (some m) (e02.trans e3) ⟨fun p ns' w' => ⟨m, rfl, lm _ (List.mem_map_of_mem ((hfs p).mpr ⟨ns', w'⟩))⟩, fun m' h => ?_⟩
      · rw [Int.le_antisymm (h2 _ hm) (lm _ h1)]
        exact q3 H3 (Evl.Ex.refl _)
      · cases fs with
        | nil => exact absurd rfl ne
        | cons _ _ => exact nomatch z
      · cases h
        obtain ⟨p, hp, rfl⟩ := List.mem_map.mp hm
        obtain ⟨ns', w'⟩ := (hfs p).mp hp
        exact ⟨p, ns', w', rfl⟩
end
end Lj

set_option maxHeartbeats 2000000
/-! the cycles that are sunk -/
namespace Lj
open PySem PySem.Spec PyProof.Rows L2 Lw Hq
open Evl (EvL EvA EvT EvU RC)
abbrev nm__law_sunk_cycles : List Str := ["_law_network", "_law_names_here"]
theorem sc__law_sunk_cycles : FnScope nm__law_sunk_cycles ["_law_network"] (defScope (top 73)) := ⟨rfl, rfl, rfl, by decide +kernel, rfl, by decide +kernel, by decide +kernel⟩
section
variable {P : Program} {w : World} {K : PySem.W.Frag} {mg : Str → Option Value} {base : Heap}
def spSunkC : Sp := fun vs H Q _ => ∃ (t : Addr) (es : List Eg) (ns : List Str), vs = [V.ref t] ∧ NetL H t es ∧ (es.map (·.1)).Nodup ∧ (∀ e ∈ es, e.2.1 ∈ ns ∧ e.2.2.1 ∈ ns) ∧ es.length ≤ 9 ∧ ns.length ≤ 7 ∧
  ∀ (H' : Hp) (l : Addr) (ts : List Addr) (cs : List (List Eg)), Evl.Ex H H' → H l = none → H' l = some (.lst (ts.map V.ref)) → TupsAt H' ts (cs.map snms) → (∀ c, c ∈ cs ↔ IsCyc es c ∧ ln c < 0) → cs.length < 2800000 → Q (.ref l) H'
theorem ok_sunkC {f fC fR fT : Addr} {fd dC dR dT : FuncData} {k : Nat} (F : Fun K "_law_sunk_cycles" "_law_sunk_cycles" (top 73) f fd) (T : Bs mg bl) (F_law_cycles : Cf P w K mg base "_law_cycles" ["_law_edges"] k spCyclesL fC dC) (F_law_rows : Cf P w K mg base "_law_rows" ["_law_network", "_law_names_here"] k spRowsL fR dR) (F_law_total : Cf P w K mg base "_law_total" ["_law_edges"] k spTotal fT dT) : FnOk P w K mg base CX0 (k + 1) f fd ["_law_network"] spSunkC := by
  refine F.ok sc__law_sunk_cycles (fun vs H Q E h => ?_) (fun cdv A outer s H vs Q E hr h => ?_)
  · obtain ⟨t, es, ns, rfl, _⟩ := h
    rfl
  · obtain ⟨t, es, ns, rfl, hp, nd, en, l0, l1, q⟩ := h
    refine ⟨_, (pss_one (ps_ret (pe_lc (own := [("_law_names_here", 1)]) (g := (gName 1)) (tt := (tTest (tOp (rI0 fun i j => .bl (decide (i < j))) (tCall spTotal [] noE (tCons (tCall spRowsL [] noE (tCons (tVar 0) (tCons (tVar 1) tNil))) tNil)) (tC (.int 0))))) (te := (tVar 1)) rfl sc__law_sunk_cycles.nd (pi_list (pe_cf F_law_cycles (hr.mono (by omega)) (by rfl) (pa_cons (pe_ix ix_tup (pv 0) pe_int (fun _ _ => rfl)) pa_nil))) (blkOk_by (N := nm__law_sunk_cycles) (sc := defScope (top 73)) (by decide +kernel)) (fun _ _ _ _ _ => pg_name (i := 1) sc__law_sunk_cycles.nd rfl (Or.inl rfl)) (fun _ _ _ _ _ => (pts_one (pt_cmpR op_lt (pe_cf F_law_total (hr.mono (by omega)) (by rfl) (pa_cons (pe_cf F_law_rows (hr.mono (by omega)) (by rfl) (pa_cons (pv 0) (pa_cons (pv 1) pa_nil))) pa_nil)) pe_int (nomark _)))) (fun _ _ _ _ _ => (pv 1))))), ?_⟩
    obtain ⟨b, as, hb0, hb, he⟩ := hp.edges (K := K) (σ := [some (.ref t), none]) (i := 0) rfl
    refine g_lcI (g_call (g_ea (vs := [.ref b]) (Evl.ea_cons hb0 Evl.ea_nil) fun H0 e0 => ?_))
    refine ⟨b, as, es, ns, rfl, e0 _ _ hb, he.tk (TK.ex e0), nd, en, l0, l1, fun H1 l ts cs e1' nl hl hts hcs lc => ?_⟩
    have e1 := e0.trans e1'
    have fnd : ∀ p ∈ cs, p.Nodup ∧ ∀ e ∈ p, e ∈ es := fun p hp => ⟨((hcs p).mp hp).nodup (nd_es nd), ((hcs p).mp hp).mem⟩
    have test : ∀ (g : List Eg) (a : Addr) H2, Evl.Ex H1 H2 → g ∈ cs → H2 a = some (.tup ((snms g).map V.str)) → Evl.EvT (tTest (tOp (rI0 fun i j => .bl (decide (i < j))) (tCall spTotal [] noE (tCons (tCall spRowsL [] noE (tCons (tVar 0) (tCons (tVar 1) tNil))) tNil)) (tC (.int 0)))) [some (.ref t), some (.ref a)] H2 (decide (ln g < 0)) := fun g a H2 e2 hg ha => by
      obtain ⟨f1, f2⟩ := fnd g hg
      refine Evl.et_is (Evl.et_test (Evl.ev_op (x := .int (ln g)) (fun H3 e3 Q3 q3 => ?_) Evl.ev_c Evl.rv_I0)) rfl
      refine g_call (g_cons (g_call (g_ea (vs := [.ref t, .ref a]) (Evl.ea_cons (Evl.ev_var rfl) (Evl.ea_cons (Evl.ev_var rfl) Evl.ea_nil)) fun H4 e4 => ?_)))
      refine ⟨t, a, es, snms g, rfl, hp.ex ((((e1.trans e2).trans e3)).trans e4), e4 _ _ (e3 _ _ ha), by omega, fun H5 lr ar e5 nlr hlr har => g_nil ?_⟩
      refine ⟨lr, ar, _, rfl, hlr, har, Nat.le_trans (List.length_filter_le _ _) (by omega), fun H6 e6 => ?_⟩
      have same : es.filter (fun e => decide (e.1 ∈ snms g)) = es.filter fun e => decide (e.1 ∈ nms g) := List.filter_congr fun e _ => decide_eq_decide.mpr (srtN_perm (nms g)).mem_iff
      rw [same, ln_named nd f1 f2]
      exact q3 H6 ((e4.trans e5).trans e6)
    obtain ⟨as', he', li⟩ := el_keep (K := K) (α := List Eg) (R := fun (H : Hp) (a : Addr) (p : List Eg) => H a = some (.tup ((snms p).map V.str))) (fun e r => e _ _ r) [] (σ := [some (.ref t), none]) (H := H1) (tl := tC (.ref l)) (j := 1) (vs := [1]) (l := l) (as := ts) (es := cs) (t := tTest (tOp (rI0 fun i j => .bl (decide (i < j))) (tCall spTotal [] noE (tCons (tCall spRowsL [] noE (tCons (tVar 0) (tCons (tVar 1) tNil))) tNil)) (tC (.int 0)))) (fun c => decide (ln c < 0)) Evl.ev_c (Evl.sq_of hl) (paired_of (R := fun (a : Addr) (T : List Str) => H1 a = some (.tup (T.map V.str))) (g := snms) hts) (by omega) (fun _ => rfl) test (fun _ => rfl)
    exact Evl.s_retL li fun l2 H3 nl2 e3 hl2 => q H3 l2 as' (cs.filter fun c => decide (ln c < 0)) (e1.trans e3) (Evl.fresh_back e1 nl2) hl2 (paired_mapR (R := fun (a : Addr) (T : List Str) => H3 a = some (.tup (T.map V.str))) (g := snms) (paired_imp (fun _ _ z => e3 _ _ z) he')) (fun c => by rw [List.mem_filter, hcs]; simp) (Nat.lt_of_le_of_lt (List.length_filter_le _ _) lc)
end
end Lj

set_option maxHeartbeats 1000000
/-! lengths raised along a whole cycle -/
namespace Lj
open PySem Lw L2
def up (N : List Str) (L : Str → Int) : Str → Int := fun m => if m ∈ N then (if L m < 0 then -L m else L m) else L m
theorem up_abs {N : List Str} {L : Str → Int} (m : Str) : (up N L m).natAbs = (L m).natAbs := by
  unfold up
  split
  · split <;> omega
  · rfl
abbrev nms' (c : List Eg) : List Str := c.map (·.1)
def lows (E : List Eg) : Nat := (E.filter fun e => decide (e.2.2.2 < 0)).length
/-- no cycle is sunk, or few edges are still negative -/
def SunkN (E : List Eg) (i : Nat) : Prop := (∀ c, IsCyc E c → 0 ≤ ln c) ∨ lows E + i ≤ E.length
theorem SunkN.start (E : List Eg) : SunkN E 0 := .inr (List.length_filter_le _ _)
theorem ln_nonneg : ∀ {c : List Eg}, (∀ e ∈ c, 0 ≤ e.2.2.2) → 0 ≤ ln c
  | [], _ => Int.le_refl _
  | e :: c, h => by
    rw [ln_cons]
    have := h e List.mem_cons_self
    have := ln_nonneg fun f hf => h f (List.mem_cons_of_mem (a := f) e hf)
    omega
theorem SunkN.done {E : List Eg} (s : SunkN E E.length) : ∀ c, IsCyc E c → 0 ≤ ln c := by
  rcases s with s | s
  · exact s
  · intro c hc
    have z : E.filter (fun e => decide (e.2.2.2 < 0)) = [] := List.length_eq_zero_iff.mp (by unfold lows at s; omega)
    rw [List.filter_eq_nil_iff] at z
    refine ln_nonneg fun e he => ?_
    have := z e (hc.mem e he)
    simpa using this
theorem filter_lt {α : Type} {p q : α → Bool} : ∀ {l : List α}, (∀ a ∈ l, q a = true → p a = true) → (∃ a ∈ l, p a = true ∧ q a = false) → (l.filter q).length < (l.filter p).length
  | [], _, h => by
    obtain ⟨a, ha, _⟩ := h
    exact absurd ha (by simp)
  | a :: l, h, ⟨b, hb, h1, h2⟩ => by
    have le : (l.filter q).length ≤ (l.filter p).length := by
      have : ∀ {l : List α}, (∀ a ∈ l, q a = true → p a = true) → (l.filter q).length ≤ (l.filter p).length := fun {l} k => by
        induction l with
        | nil => exact Nat.le_refl _
        | cons c l ih =>
          have := ih fun d hd => k d (List.mem_cons_of_mem _ hd)
          rw [List.filter_cons, List.filter_cons]
          cases hq : q c with
          | true => rw [k c List.mem_cons_self hq]; simpa using this
          | false => cases p c <;> simp <;> omega
      exact this fun d hd => h d (List.mem_cons_of_mem _ hd)
    rw [List.filter_cons, List.filter_cons]
    rcases List.mem_cons.mp hb with rfl | hb
    · rw [h1, h2]
      simp
      omega
    · have := filter_lt (fun d hd => h d (List.mem_cons_of_mem a hd)) ⟨b, hb, h1, h2⟩
      cases hq : q a with
      | true => rw [h a List.mem_cons_self hq]; simpa using this
      | false => cases p a <;> simp <;> omega
theorem SunkN.sink {es : List Eg} {L : Str → Int} {i : Nat} (s : SunkN (es.map (relen L)) i) {c : List Eg} (hc : IsCyc (es.map (relen L)) c) (bad : ln c < 0) : SunkN (es.map (relen (up (nms' c) L))) (i + 1) := by
  rcases s with s | s
  · exact absurd (s c hc) (by omega)
  · refine .inr ?_
    have neg : ∃ e ∈ c, e.2.2.2 < 0 := by
      apply Classical.byContradiction
      intro h
      have := ln_nonneg (c := c) fun e he => by
        apply Classical.byContradiction
        intro q
        exact h ⟨e, he, by omega⟩
      omega
    obtain ⟨e, he, hl⟩ := neg
    obtain ⟨g, hg, rfl⟩ := List.mem_map.mp (hc.mem e he)
    have lt : lows (es.map (relen (up (nms' c) L))) < lows (es.map (relen L)) := by
      unfold lows
      rw [List.filter_map, List.filter_map, List.length_map, List.length_map]
      refine filter_lt (fun a ha h => ?_) ⟨g, hg, ?_, ?_⟩
      · have h : up (nms' c) L a.1 < 0 := of_decide_eq_true h
        show decide (L a.1 < 0) = true
        refine decide_eq_true ?_
        unfold up at h
        split at h
        · split at h <;> omega
        · exact h
      · exact decide_eq_true hl
      · show decide (up (nms' c) L g.1 < 0) = false
        refine decide_eq_false ?_
        have m : g.1 ∈ nms' c := List.mem_map_of_mem (f := (·.1)) he
        unfold up
        rw [if_pos m]
        split <;> omega
    rw [List.length_map] at s ⊢
    omega
theorem cyc_all {E : List Eg} (nd : (E.map (·.1)).Nodup) (h : ∀ c, IsCyc E c → 0 ≤ ln c) : Cyc E := by
  obtain ⟨L, hL⟩ := relen_self E nd
  have each : ∀ e ∈ E, relen L e = e := fun e he => by
    obtain ⟨i, hi, rfl⟩ := List.mem_iff_getElem.mp he
    have := congrArg (fun l : List Eg => l[i]?) hL
    simp only [List.getElem?_map, List.getElem?_eq_getElem hi, Option.map_some, Option.some.injEq] at this
    exact this
  have := cyc_of (es := E) (L := L) fun c hc => by
    have : c.map (relen L) = c := by
      conv => rhs; rw [← List.map_id c]
      exact List.map_congr_left fun e he => each e (hc.mem e he)
    rw [this]
    exact h c hc
  rwa [hL] at this
end Lj

set_option maxHeartbeats 2000000
namespace Lw
open PySem PySem.Spec PyProof.Rows L2
open Evl (EvL EvA EvT RC)
abbrev nm__law_pen : List Str := ["_law_script"]
theorem sc__law_pen : FnScope nm__law_pen ["_law_script"] (defScope (top 61)) := ⟨rfl, rfl, rfl, by decide +kernel, rfl, by decide +kernel, by decide +kernel⟩
abbrev nm__law_names : List Str := ["_law_pen_here", "_law_many", "_law_letters", "_law_stem", "_law_at", "_law_cut", "_law_first", "_law_step", "_law_found", "_law_k", "_law_told", "_law_tail"]
theorem sc__law_names : FnScope nm__law_names ["_law_pen_here", "_law_many"] (defScope (top 65)) := ⟨rfl, rfl, rfl, by decide +kernel, rfl, by decide +kernel, by decide +kernel⟩
section
variable {P : Program} {w : World} {K : PySem.W.Frag} {mg : Str → Option Value} {base : Heap}
theorem ok_pen {f : Addr} {fd : FuncData} {k : Nat} (F : Fun K "_law_pen" "_law_pen" (top 61) f fd) (T : Bs mg bl) : FnOk P w K mg base CX0 (k + 1) f fd ["_law_script"] (spPen K) := by
  refine F.ok sc__law_pen (fun vs H Q E h => ?_) (fun cdv A outer s H vs Q E hr h => ?_)
  · obtain ⟨a, ns, rfl, _⟩ := h
    rfl
  · obtain ⟨a, ns, rfl, ha, hn, q⟩ := h
    refine ⟨_, (pss_one (ps_ret (pe_disp (pps_cons pe_str (pe_callTy call_list_of (by rfl) (T.b "list" (by decide)) (by decide +kernel) (pa_cons (pe_slice sl_list (pv 0) po_none (po_some pe_int)) pa_nil)) (pps_cons pe_str pe_int (pps_cons pe_str pe_int pps_nil))) rfl rfl (by simp) (by decide)))), ?_⟩
    refine fun p np => ⟨.ref a, rfl, 63, rfl, a, ns.map V.int, rfl, Evl.ex_l (Evl.Ex.new np) ha, fun q1 nq => ⟨q1, _, rfl, .inl (Evl.sq_of upd_same), fun l nl => ?_⟩⟩
    have cut : cutV (ns.map V.int) none (some 63) = ns.map V.int := by
      unfold cutV
      rw [HT.sIx_none, show (63 : Int) = ((63 : Nat) : Int) from rfl, HT.sIx_nat]
      have : (ns.map V.int).length ≤ 63 := by
        rw [List.length_map]
        exact hn
      rw [List.drop_zero, Nat.sub_zero, Nat.min_eq_right this, List.take_length]
    rw [cut] at nl ⊢
    have q1p : q1 ≠ p := fun z => by
      rw [z, upd_same] at nq
      exact nomatch nq
    have lp : l ≠ p := fun z => by
      rw [z, upd_ne q1p.symm, upd_same] at nl
      exact nomatch nl
    have lq : l ≠ q1 := fun z => by
      rw [z, upd_same] at nl
      exact nomatch nl
    refine ⟨?_, [(kC, .ref l), (kU, .int 0), (kL, .int 0)], rfl, by simp, ?_⟩
    · rw [upd_ne lp.symm, upd_ne q1p.symm, upd_same]
    · have mk : mergeK [] [(kC, V.ref l), (kU, .int 0), (kL, .int 0)] = [(kC, V.ref l), (kU, .int 0), (kL, .int 0)] := by
        simp [mergeK, putK, s1, s2, s3, s1.symm, s2.symm, s3.symm]
      rw [mk]
      refine q p l _ (fun b o hb => ?_) np ⟨ns, 0, 0, upd_same, ?_, hn, Int.le_refl _, Int.le_refl _⟩
      · have n1 : b ≠ p := ne_of_none hb np
        have h2 : (upd H p (.dK [])) b = some o := by
          rw [upd_ne n1]
          exact hb
        have n2 : b ≠ q1 := ne_of_none h2 nq
        have h3 : (upd (upd H p (.dK [])) q1 (.lst (ns.map V.int))) b = some o := by
          rw [upd_ne n2]
          exact h2
        have n3 : b ≠ l := ne_of_none h3 nl
        rw [upd_ne n1, upd_ne n3]
        exact h3
      · rw [upd_ne lp, upd_same]
theorem ok_names {f fD fP : Addr} {fd dD dP : FuncData} {k : Nat} (F : Fun K "_law_names" "_law_names" (top 65) f fd) (T : Bs mg bl) (F_law_draw : Cf P w K mg base "_law_draw" ["_law_pen_here", "_law_many"] k spDraw fD dD)
    (F_law_pick : Cf P w K mg base "_law_pick" ["_law_pen_here", "_law_options"] k (spPicks K) fP dP) : FnOk P w K mg base CX0 (k + 1) f fd ["_law_pen_here", "_law_many"] spNames := by
  refine F.ok sc__law_names (fun vs H Q E h => ?_) (fun cdv A outer s H vs Q E hr h => ?_)
  · obtain ⟨p, c, m, n, rfl, _⟩ := h
    rfl
  · obtain ⟨p, c, m, n, rfl, hP, hn, hm, q⟩ := h
    refine ⟨_, (pss_cons (ps_set (i := 2) sc__law_names.nd rfl (Or.inr rfl) pe_str)
      (pss_cons (ps_set (i := 3) sc__law_names.nd rfl (Or.inl rfl) (pe_join pe_str (pe_lc (own := [("_law_k", 9)]) (g := (gName 9)) (tt := tYes) (te := (tCall (spPicks K) [] noE (tCons (tVar 0) (tCons (tVar 2) tNil)))) rfl sc__law_names.nd (pi_range1 (by rfl) (T.b "range" (by decide)) (pa_cons (pe_cf F_law_draw (hr.mono (by omega)) (by rfl) (pa_cons (pv 0) (pa_cons pe_int pa_nil))) pa_nil)) (blkOk_by (N := nm__law_names) (sc := defScope (top 65)) (by decide +kernel)) (fun _ _ _ _ _ => pg_name (i := 9) sc__law_names.nd rfl (Or.inl rfl)) (fun _ _ _ _ _ => pts_nil) (fun _ _ _ _ _ => (pe_cf F_law_pick (hr.mono (by omega)) (by rfl) (pa_cons (pv 0) (pa_cons (pv 2) pa_nil)))))))
      (pss_cons (ps_par3 (i := 4) (j := 5) (l := 6) rfl sc__law_names.nd rfl rfl rfl (by decide) (by decide) (by decide) rfl rfl rfl (pa_cons (pe_cf F_law_draw (hr.mono (by omega)) (by rfl) (pa_cons (pv 0) (pa_cons (pe_op op_add (pe_callB call_len_str (by rfl) (T.b "len" (by decide)) (by decide +kernel) (pa_cons (pv 3) pa_nil)) pe_int) pa_nil))) (pa_cons (pe_cf F_law_draw (hr.mono (by omega)) (by rfl) (pa_cons (pv 0) (pa_cons pe_int pa_nil))) (pa_cons (pe_cf F_law_draw (hr.mono (by omega)) (by rfl) (pa_cons (pv 0) (pa_cons pe_int pa_nil))) pa_nil))) (by rfl))
      (pss_cons (ps_par (i := 7) (j := 8) rfl sc__law_names.nd rfl rfl (by decide) rfl rfl (pa_cons (pe_cf F_law_pick (hr.mono (by omega)) (by rfl) (pa_cons (pv 0) (pa_cons (pe_lst (pa_cons pe_int (pa_cons pe_int (pa_cons pe_int (pa_cons pe_int (pa_cons pe_int (pa_cons pe_int (pa_cons pe_int (pa_cons pe_int (pa_cons pe_int (pa_cons pe_int (pa_cons pe_int (pa_cons pe_int pa_nil))))))))))))) pa_nil))) (pa_cons (pe_lst pa_nil) pa_nil)) (by rfl))
      (pss_cons (ps_for PassesOwn.never rfl (pi_range1 (by rfl) (T.b "range" (by decide)) (pa_cons (pv 1) pa_nil)) (pg_name (i := 9) sc__law_names.nd rfl (Or.inl rfl)) (pss_cons (ps_set (i := 10) sc__law_names.nd rfl (Or.inl rfl) (pe_ix ix_str (pv 2) (pe_op op_mod (pe_op op_add (pv 6) (pe_op op_mul (pv 7) (pv 9))) pe_int) (fun _ _ => rfl)))
      (pss_cons (ps_set (i := 10) sc__law_names.nd rfl (Or.inl rfl) (pe_op op_add_str (pv 10) (pe_op op_mulS (pe_ix ix_str (pv 2) (pe_op op_fdiv (pv 9) pe_int) (fun _ _ => rfl)) (pe_callTy call_intB (by rfl) (T.b "int" (by decide)) (by decide +kernel) (pa_cons (pe_cmpR op_gt (pv 1) pe_int (nomark _)) pa_nil)))))
      (pss_cons (ps_set (i := 11) sc__law_names.nd rfl (Or.inl rfl) (pe_ifExp (pt_cmpR op_eq (pv 5) pe_int (nomark _)) (pe_slice sl_str (pv 3) (po_some (pv 4)) po_none) (pe_slice sl_str (pe_slice sl_str (pv 3) (po_some (pv 4)) po_none) po_none (po_some (pe_op op_mod (pv 9) pe_int)))))
      (pss_one (ps_expr (pe_bm PySem.F.plainAttrs_list PySem.F.slot_list_append PySem.F.type_list_append mt_append (pv 8) (pa_cons (pe_op op_add_str (pe_op op_add_str (pe_slice sl_str (pv 3) po_none (po_some (pv 4))) (pv 10)) (pv 11)) pa_nil))))))))
      (pss_one (ps_ret (pv 8)))))))), ?_⟩
    -- letters, stem
    refine ⟨⟨_, rfl⟩, via (fun v H2 => ∃ (D : Addr) (cs : List Nat), v = .ref D ∧ H D = none ∧ (∀ e ∈ cs, 97 ≤ e ∧ e ≤ 122) ∧ cs.length ≤ 6 ∧ But p H H2 ∧ H2 D = some (.lst (cs.map (fun e => V.str (chr1 e)))) ∧ Pen p c (n + 7) H2) (fun Q' hQ' => ?_) ?_⟩
    · refine ⟨.ref p, rfl, p, c, 7, n, rfl, hP, by omega, by decide, by decide, fun d0 H1 d00 d01 b1 P1 => ⟨d0, rfl, by omega, by omega, ?_⟩⟩
      refine lcP (Q := Q') (p := p) (c := c) (n := n + 1) (kk := 1) (m := d0.toNat) 0 (fun i acc _ => ∃ cs : List Nat, acc = cs.map (fun e => V.str (chr1 e)) ∧ ∀ e ∈ cs, 97 ≤ e ∧ e ≤ 122) P1 (by omega) (fun _ _ => ⟨[], rfl, fun e he => absurd he (by simp)⟩) ?hw (fun _ _ _ _ _ _ z => z)
        (fun i acc H' hi la pa ba Pa Q' k => ?_) (fun D acc H2 nD la pa b2 hD P2 => ?_)
      case hw => exact fun _ => rfl
      · obtain ⟨cs, rfl, hcs⟩ := pa
        refine ⟨.ref p, rfl, .str abc, rfl, .inr ⟨p, c, abc, _, rfl, Pa, by omega, by rw [abc_len]; decide, by rw [abc_len]; decide, fun e H'' he bb PP => k _ H'' ⟨cs ++ [e], ?_, ?_⟩ bb ?_⟩⟩
        · rw [List.map_append]
          rfl
        · intro e' h'
          rcases List.mem_append.mp h' with h' | h'
          · exact hcs e' h'
          · rw [List.mem_singleton.mp h']
            exact abc_low e he
        · rw [Nat.mul_succ, ← Nat.add_assoc]
          exact PP
      · obtain ⟨cs, rfl, hcs⟩ := pa
        rw [List.length_map] at la
        exact hQ' _ _ ⟨D, cs, rfl, b1.back (P1.far nD).1 nD, hcs, by omega, b1.trans b2, hD, P2.le (by omega)⟩
    · rintro v H2 ⟨D, cs, rfl, nD, hcs, lcs, b2, hD, P2⟩
      have sum1 : ∀ l : List Nat, ((l.map chr1).map (·.length)).sum = l.length := fun l => by
        induction l with
        | nil => rfl
        | cons x r ih =>
          show (chr1 x).length + ((r.map chr1).map (·.length)).sum = r.length + 1
          rw [ih]
          show 1 + r.length = r.length + 1
          omega
      refine ⟨"", D, cs.map chr1, rfl, rfl, .inl (.inl (.inl ?_)), ?_, ?_⟩
      · rw [List.map_map]
        exact hD
      · rw [sum1, List.length_map]
        have : (("" : String) : Str).length = 0 := by decide +kernel
        rw [this]
        omega
      · have z1 := join_len cs
        generalize Txt.join ("" : String) (cs.map chr1) = z at z1
        have zl : Low z := fun e he => hcs e (by rw [← z1]; exact he)
        have z6 : z.length ≤ 6 := by
          rw [len_cps, z1]
          exact lcs
        -- at, cut, first
        refine ⟨.ref p, rfl, .str z, rfl, z, rfl, Evl.sz_of (by omega), _, _, rfl, rfl, p, c, (z.length : Int) + 1, n + 7, rfl, P2, by omega, by omega, by omega, fun at0 H3 a0 a1 b3 P3 => ?_⟩
        refine ⟨.ref p, rfl, p, c, 2, n + 8, rfl, P3, by omega, by decide, by decide, fun cut H4 c0 c1 b4 P4 => ?_⟩
        refine ⟨.ref p, rfl, p, c, 26, n + 9, rfl, P4, by omega, by decide, by decide, fun first H5 f0 f1 b5 P5 => ⟨_, _, _, rfl, ?_⟩⟩
        obtain ⟨at', rfl⟩ := Int.eq_ofNat_of_zero_le a0
        have hat : at' ≤ z.length := by omega
        -- step, found
        refine ⟨.ref p, rfl, by simp [sizeLine_eq], fun L nL => .inl ⟨p, c, L, [1, 3, 5, 7, 9, 11, 15, 17, 19, 21, 23, 25].map V.int, n + 10, rfl, P5.mut (P5.far nL), by omega, .inl (Evl.sq_of upd_same), (P5.far nL).1, by decide, by decide, fun v H6 hv b6 P6 => ?_⟩⟩
        obtain ⟨step, hst, rfl⟩ := List.mem_map.mp hv
        have sb : -(2 ^ 64) < step ∧ step < 2 ^ 64 := by
          simp only [List.mem_cons, List.mem_nil_iff, or_false] at hst
          rcases hst with rfl | rfl | rfl | rfl | rfl | rfl | rfl | rfl | rfl | rfl | rfl | rfl <;> decide
        refine ⟨Nat.zero_le _, fun fo nfo => ⟨_, _, rfl, ?_⟩⟩
        have b05 : But p H H5 := ((b2.trans b3).trans b4).trans b5
        have b06 : But p H H6 := (b05.mut (b05.back (P5.far nL).1 nL)).trans b6
        have nfo0 : H fo = none := b06.back (P6.far nfo).1 nfo
        refine Evl.q_forR1 (Evl.ea_cons (Evl.ev_var rfl) Evl.ea_nil) ⟨by omega, by omega⟩ (fun i σ' H' => ∃ x1 x2 x3, σ' = [some (.ref p), some (.int m), some (.str abc), some (.str z), some (.int at'), some (.int cut), some (.int first), some (.int step), some (.ref fo), x1, x2, x3] ∧
          But p H H' ∧ Pen p c (n + 11) H' ∧ H' fo = some (.lst (((List.range i).map (nameK z at' cut first step m)).map V.str)))
          (fun H7 e7 => ⟨none, none, none, rfl, (b06.mut nfo0).trans (But.of e7), (P6.mut (P6.far nfo)).ex e7, e7 _ _ upd_same⟩) ?_ ?_
        · rintro i σ' H' hi ⟨x1, x2, x3, rfl, b7, P7, h7⟩
          have m0 := Int.emod_nonneg (first + step * i) (b := 26) (by decide)
          have m1 := Int.emod_lt_of_pos (first + step * i) (b := 26) (by decide)
          refine Evl.q_asg (ev_abc (Evl.ev_var rfl) (Evl.ev_op (Evl.ev_op (Evl.ev_var rfl) (Evl.ev_op (x := .int step) (Evl.ev_var rfl) (Evl.ev_var rfl) (Evl.rv_I (Or.inl sb))) Evl.rv_I0) Evl.ev_c (Evl.rv_I (by decide))) m0 m1) fun H8 e8 => ?_
          refine Evl.q_asg (ev_addS (Evl.ev_var rfl) (ev_mulS (ev_abc (i := (i : Int) / 26) (Evl.ev_var rfl) (Evl.ev_op (Evl.ev_var rfl) Evl.ev_c (Evl.rv_I ⟨by decide, by decide⟩)) (by omega) (by omega)) (ev_intB (Evl.ev_op (Evl.ev_var rfl) Evl.ev_c Evl.rv_I0)) rfl) ?_) fun H9 e9 => ?_
          · have := mul_len (97 + ((i : Int) / 26).toNat) (decide (26 < (m : Int)))
            show 1 + (Txt.mul (chr1 _) _).length ≤ 100000
            omega
          · have et : chr1 (97 + ((first + step * (i : Int)) % 26).toNat) ++ Txt.mul (chr1 (97 + ((i : Int) / 26).toNat)) (if decide (26 < (m : Int)) = true then 1 else 0) = told first step m i := by
              rw [show ((i : Int) / 26).toNat = i / 26 by omega]
              rfl
            rw [et]
            generalize ht : told first step m i = td
            have t2 : td.length ≤ 2 := by
              rw [← ht, len_cps, told_cps]
              split <;> simp
            have nm : cutS z none (some (at' : Int)) ++ td ++ tail z at' cut i = nameK z at' cut first step m i := by
              rw [← ht]
              rfl
            have l1 : (cutS z none (some (at' : Int))).length ≤ 6 := by
              rw [len_cps, cut_to _ _ hat, List.length_take, ← len_cps]
              omega
            have l2 := (tail_low (cut := cut) (k := i) zl hat).2
            have e79 := e8.trans e9
            refine Evl.q_asg (v := .str (tail z at' cut i)) (Evl.ev_if (Evl.et_test (Evl.ev_op (x := .int cut) (Evl.ev_var rfl) Evl.ev_c (Evl.rv_eq rfl))) (fun hc => ?_) (fun hc => ?_)) fun H10 e10 => ?_
            · have c0 : cut = 0 := V.int.inj (of_decide_eq_true hc)
              have : tail z at' cut i = cutS z (some (at' : Int)) none := if_pos c0
              rw [this]
              exact ev_slS (Evl.ev_var rfl) (Evl.eo_some (Evl.ev_var rfl)) Evl.eo_none (by omega)
            · have c0 : cut ≠ 0 := fun z => of_decide_eq_false hc (by rw [z])
              have : tail z at' cut i = cutS (cutS z (some (at' : Int)) none) none (some ((i : Int) % 3)) := (if_neg c0).trans (by rw [Int.natCast_emod]; rfl)
              rw [this]
              refine ev_slS (ev_slS (Evl.ev_var rfl) (Evl.eo_some (Evl.ev_var rfl)) Evl.eo_none (by omega)) Evl.eo_none (Evl.eo_some (Evl.ev_op (Evl.ev_var rfl) Evl.ev_c (Evl.rv_I (by decide)))) ?_
              rw [len_cps, cut_from _ _ hat, List.length_drop, ← len_cps]
              omega
            · have e710 := e79.trans e10
              refine Evl.s_app (e710 _ _ h7) (Evl.ev_var rfl) (ev_addS (ev_addS (ev_slS (Evl.ev_var rfl) Evl.eo_none (Evl.eo_some (Evl.ev_var rfl)) (by omega)) (Evl.ev_var rfl) (by omega)) (Evl.ev_var rfl) ?_) ?_ fun H11 e11 => ?_
              · rw [len_app]
                omega
              · rw [List.length_map, List.length_map, List.length_range]
                omega
              · refine ⟨_, _, _, rfl, (b7.trans (But.of (e710.trans e11))).mut nfo0, (P7.ex (e710.trans e11)).mut (hP.far nfo0), ?_⟩
                rw [upd_same, nm, List.range_succ, List.map_append, List.map_append]
                rfl
        · rintro σ' H' ⟨x1, x2, x3, rfl, b7, P7, h7⟩
          refine Evl.s_ret (Evl.ev_var rfl) fun H8 e8 => ?_
          refine q fo ((List.range m).map (nameK z at' cut first step m)) H8 (by rw [List.length_map, List.length_range]) (names_nodup m hat hst) (fun y hy => ?_) nfo0 (b7.trans (But.of e8)) (e8 _ _ h7) (P7.ex e8)
          obtain ⟨k, hk, rfl⟩ := List.mem_map.mp hy
          exact name_nm zl z6 hat (by have := List.mem_range.mp hk; omega)
end
end Lw

set_option maxHeartbeats 2000000
namespace Lw
open PySem PySem.Spec PyProof.Rows L2
open Evl (EvL EvA EvT RC)
abbrev nm__law_small : List Str := ["_law_pen_here", "_law_least", "_law_upto", "_law_wide", "_law_nodes", "_law_shape", "_law_edges", "_law_many", "_law_ends", "_law_turn", "_law_below", "_law_bound", "_law_names_here", "_law_k", "_law_length"]
theorem sc__law_small : FnScope nm__law_small ["_law_pen_here", "_law_least", "_law_upto", "_law_wide"] (defScope (top 66)) := ⟨rfl, rfl, rfl, by decide +kernel, rfl, by decide +kernel, by decide +kernel⟩
section
variable {P : Program} {w : World} {K : PySem.W.Frag} {mg : Str → Option Value} {base : Heap}
theorem ok_small {f fD fP fN fS : Addr} {fd dD dP dN dS : FuncData} {k : Nat} (F : Fun K "_law_small" "_law_small" (top 66) f fd) (T : Bs mg bl) (F_law_draw : Cf P w K mg base "_law_draw" ["_law_pen_here", "_law_many"] k spDraw fD dD)
    (F_law_pick : Cf P w K mg base "_law_pick" ["_law_pen_here", "_law_options"] k (spPicks K) fP dP) (F_law_names : Cf P w K mg base "_law_names" ["_law_pen_here", "_law_many"] k spNames fN dN) (F_law_shuffled : Cf P w K mg base "_law_shuffled" ["_law_pen_here", "_law_items"] k (spShuf K) fS dS) :
    FnOk P w K mg base CX0 (k + 1) f fd ["_law_pen_here", "_law_least", "_law_upto", "_law_wide"] spSmall := by
  refine F.ok sc__law_small (fun vs H Q E h => ?_) (fun cdv A outer s H vs Q E hr h => ?_)
  · obtain ⟨p, c, least, most, wide, n, rfl, _⟩ := h
    rfl
  · obtain ⟨p, c, least, most, wide, n, rfl, hP, hn, l0, l1, l2, l3, q⟩ := h
    refine ⟨_, (pss_cons (ps_set (i := 4) sc__law_small.nd rfl (Or.inr rfl) (pe_cf F_law_names (hr.mono (by omega)) (by rfl) (pa_cons (pv 0) (pa_cons (pe_op op_add (pv 1) (pe_cf F_law_draw (hr.mono (by omega)) (by rfl) (pa_cons (pv 0) (pa_cons (pe_op op_add (pe_op op_sub (pv 2) (pv 1)) pe_int) pa_nil)))) pa_nil))))
      (pss_cons (ps_asg (pe_tup (pa_cons (pe_cf F_law_draw (hr.mono (by omega)) (by rfl) (pa_cons (pv 0) (pa_cons pe_int pa_nil))) (pa_cons (pe_lst pa_nil) (pa_cons (pe_cf F_law_draw (hr.mono (by omega)) (by rfl) (pa_cons (pv 0) (pa_cons (pe_op op_add (pv 3) pe_int) pa_nil))) (pa_cons (pe_lst pa_nil) pa_nil))))) (pg_tup rfl (pgs_cons (pg_name (i := 5) sc__law_small.nd rfl (Or.inl rfl)) (pgs_cons (pg_name (i := 6) sc__law_small.nd rfl (Or.inl rfl)) (pgs_cons (pg_name (i := 7) sc__law_small.nd rfl (Or.inl rfl)) (pgs_cons (pg_name (i := 8) sc__law_small.nd rfl (Or.inl rfl)) pgs_nil))))))
      (pss_cons (ps_if (pt_cmpR op_eq (pv 5) pe_int (nomark _)) (pss_one (ps_setLc (i := 8) (own := [("_law_k", 13)]) (g := (gName 13)) (tt := tYes) (te := (tTup (tCons (tOp (rIxL K) (tVar 4) (tVar 13)) (tCons (tOp (rIxL K) (tVar 4) (tCall spDraw [] noE (tCons (tVar 0) (tCons (tVar 13) tNil)))) tNil)))) rfl sc__law_small.nd rfl rfl (by rfl) (pi_range2 (by rfl) (T.b "range" (by decide)) (pa_cons pe_int (pa_cons (pe_callB call_len_seq (by rfl) (T.b "len" (by decide)) (by decide +kernel) (pa_cons (pv 4) pa_nil)) pa_nil))) (blkOk_by (N := nm__law_small) (sc := defScope (top 66)) (by decide +kernel)) (fun _ _ _ _ _ => pg_name (i := 13) sc__law_small.nd rfl (Or.inl rfl)) (fun _ _ _ _ _ => pts_nil) (fun _ _ _ _ _ => (pe_tup (pa_cons (pe_ix ix_list (pv 4) (pv 13) (fun _ _ => rfl)) (pa_cons (pe_ix ix_list (pv 4) (pe_cf F_law_draw (hr.mono (by omega)) (by rfl) (pa_cons (pv 0) (pa_cons (pv 13) pa_nil))) (fun _ _ => rfl)) pa_nil)))))) pss_nil)
      (pss_cons (ps_if (PW.pt (pw_and (pt_cmpR op_eq (pv 5) pe_int (nomark _)) (pw_and1 (pt_cmpR op_gt (pe_callB call_len_seq (by rfl) (T.b "len" (by decide)) (by decide +kernel) (pa_cons (pv 4) pa_nil)) pe_int (nomark _))))) (pss_one (ps_setLc (i := 8) (own := [("_law_k", 13)]) (g := (gName 13)) (tt := tYes) (te := (tTup (tCons (tOp (rIxL K) (tVar 4) (tVar 13)) (tCons (tOp (rIxL K) (tVar 4) (tOp (rI0 fun i j => .int (i - j)) (tVar 13) (tC (.int 1)))) tNil)))) rfl sc__law_small.nd rfl rfl (by rfl) (pi_range2 (by rfl) (T.b "range" (by decide)) (pa_cons (pe_callTy call_intB (by rfl) (T.b "int" (by decide)) (by decide +kernel) (pa_cons (pe_cmpR op_eq (pe_callB call_len_seq (by rfl) (T.b "len" (by decide)) (by decide +kernel) (pa_cons (pv 4) pa_nil)) pe_int (nomark _)) pa_nil)) (pa_cons (pe_callB call_len_seq (by rfl) (T.b "len" (by decide)) (by decide +kernel) (pa_cons (pv 4) pa_nil)) pa_nil))) (blkOk_by (N := nm__law_small) (sc := defScope (top 66)) (by decide +kernel)) (fun _ _ _ _ _ => pg_name (i := 13) sc__law_small.nd rfl (Or.inl rfl)) (fun _ _ _ _ _ => pts_nil) (fun _ _ _ _ _ => (pe_tup (pa_cons (pe_ix ix_list (pv 4) (pv 13) (fun _ _ => rfl)) (pa_cons (pe_ix ix_list (pv 4) (pe_op op_sub (pv 13) pe_int) (fun _ _ => rfl)) pa_nil)))))) pss_nil)
      (pss_cons (ps_for PassesOwn.never rfl (pi_range1 (by rfl) (T.b "range" (by decide)) (pa_cons (pe_ifExp (pt_cmpR op_gt (pe_callB call_len_seq (by rfl) (T.b "len" (by decide)) (by decide +kernel) (pa_cons (pv 4) pa_nil)) pe_int (nomark _)) (pv 7) pe_int) pa_nil)) (pg_name (i := 9) sc__law_small.nd rfl (Or.inl rfl)) (pss_one (ps_expr (pe_bm PySem.F.plainAttrs_list PySem.F.slot_list_append PySem.F.type_list_append mt_append (pv 8) (pa_cons (pe_callTy call_tuple_of (by rfl) (T.b "tuple" (by decide)) (by decide +kernel) (pa_cons (pe_slice sl_list (pe_cf F_law_shuffled (hr.mono (by omega)) (by rfl) (pa_cons (pv 0) (pa_cons (pv 4) pa_nil))) po_none (po_some pe_int)) pa_nil)) pa_nil)))))
      (pss_cons (ps_par (i := 10) (j := 11) rfl sc__law_small.nd rfl rfl (by decide) rfl rfl (pa_cons (pe_cf F_law_draw (hr.mono (by omega)) (by rfl) (pa_cons (pv 0) (pa_cons pe_int pa_nil))) (pa_cons (pe_cf F_law_pick (hr.mono (by omega)) (by rfl) (pa_cons (pv 0) (pa_cons (pe_lst (pa_cons pe_int (pa_cons pe_int (pa_cons pe_int (pa_cons pe_int (pa_cons pe_int (pa_cons pe_int pa_nil))))))) pa_nil))) pa_nil)) (by rfl))
      (pss_cons (ps_set (i := 12) sc__law_small.nd rfl (Or.inl rfl) (pe_cf F_law_names (hr.mono (by omega)) (by rfl) (pa_cons (pv 0) (pa_cons (pv 3) pa_nil))))
      (pss_cons (ps_for PassesOwn.never rfl (pi_range1 (by rfl) (T.b "range" (by decide)) (pa_cons (pe_callB (call_min2 rfl) (by rfl) (T.b "min" (by decide)) (by decide +kernel) (pa_cons (pv 3) (pa_cons (pe_callB call_len_seq (by rfl) (T.b "len" (by decide)) (by decide +kernel) (pa_cons (pv 8) pa_nil)) pa_nil))) pa_nil)) (pg_name (i := 13) sc__law_small.nd rfl (Or.inl rfl)) (pss_cons (ps_set (i := 14) sc__law_small.nd rfl (Or.inl rfl) (pe_cf F_law_draw (hr.mono (by omega)) (by rfl) (pa_cons (pv 0) (pa_cons (pe_op op_add (pv 11) pe_int) pa_nil))))
      (pss_cons (ps_set (i := 14) sc__law_small.nd rfl (Or.inl rfl) (pe_ifExp (pt_cmpR op_lt (pe_cf F_law_draw (hr.mono (by omega)) (by rfl) (pa_cons (pv 0) (pa_cons pe_int pa_nil))) (pv 10) (nomark _)) (pe_op op_sub pe_int (pv 14)) (pv 14)))
      (pss_one (ps_expr (pe_bm PySem.F.plainAttrs_list PySem.F.slot_list_append PySem.F.type_list_append mt_append (pv 6) (pa_cons (pe_tup (pa_cons (pe_ix ix_list (pv 12) (pv 13) (fun _ _ => rfl)) (pa_cons (pe_ix ix_tup (pe_ix ix_list (pv 8) (pv 13) (fun _ _ => rfl)) pe_int (fun _ _ => rfl)) (pa_cons (pe_ix ix_tup (pe_ix ix_list (pv 8) (pv 13) (fun _ _ => rfl)) pe_int (fun _ _ => rfl)) (pa_cons (pv 14) pa_nil))))) pa_nil)))))))
      (pss_one (ps_ret (pe_tup (pa_cons (pv 4) (pa_cons (pv 6) pa_nil))))))))))))), ?_⟩
    -- nodes
    refine ⟨.ref p, rfl, .int least, rfl, .ref p, rfl, .int most, rfl, .int least, rfl, _, _, rfl, rfl, _, _, rfl, rfl, p, c, (most : Int) - least + 1, n, rfl, hP, by omega, by omega, by omega, fun d H1 d0 d1 b1 P1 => ?_⟩
    obtain ⟨d, rfl⟩ := Int.eq_ofNat_of_zero_le d0
    refine ⟨_, _, rfl, rfl, p, c, least + d, n + 1, rfl, P1, by omega, by omega, fun a ns H2 lns nd nm na1 b2 ha2 P2 => ?_⟩
    have na : a ≠ p := (P1.far na1).1
    have fa : H a = none := b1.back na na1
    -- shape, edges, many, ends
    refine ⟨.ref p, rfl, p, c, 4, n + 12, rfl, P2, by omega, by decide, by decide, fun shape H3 s0 s1 b3 P3 => ⟨Nat.zero_le _, fun eo neo => ?_⟩⟩
    have ne : eo ≠ p := (P3.far neo).1
    have b03 := (b1.trans b2).trans b3
    have fe : H eo = none := b03.back ne neo
    refine ⟨.ref p, rfl, .int wide, rfl, _, _, rfl, rfl, p, c, (wide : Int) + 1, n + 13, rfl, P3.mut (P3.far neo), by omega, by omega, by omega, fun many H4 m0 m1 b4 P4 => ⟨Nat.zero_le _, fun no nno => ⟨by simp [sizeLine_eq], fun t nt => ?_⟩⟩⟩
    have nn : no ≠ p := (P4.far nno).1
    have b04 := (b03.trans (But.of (Evl.Ex.new neo))).trans b4
    have fn : H no = none := b04.back nn nno
    refine ⟨t, _, rfl, .inl (.inl upd_same), rfl, _, _, rfl, _, _, rfl, _, _, rfl, _, _, rfl, rfl, ?_⟩
    have e45 : Evl.Ex H4 (upd (upd H4 no (.lst [])) t (.tup [.int shape, .ref eo, .int many, .ref no])) := (Evl.Ex.new nno).trans (Evl.Ex.new nt)
    have M5 : Md p c a eo no H (n + 14) ns [] [] (upd (upd H4 no (.lst [])) t (.tup [.int shape, .ref eo, .int many, .ref no])) :=
      ⟨b04.trans (But.of e45), P4.ex e45, e45 _ _ (b4 _ _ na (Evl.Ex.new neo _ _ (b3 _ _ na ha2))), e45 _ _ (b4 _ _ ne upd_same), Evl.Ex.new nt _ _ upd_same, fun x hx => absurd hx (by simp), na, ne, nn, fe, fn, apart (b4 _ _ na (Evl.Ex.new neo _ _ (b3 _ _ na ha2))) nno, apart (b4 _ _ ne upd_same) nno, (apart (b3 _ _ na ha2) neo).symm⟩
    generalize (upd (upd H4 no (.lst [])) t (.tup [.int shape, .ref eo, .int many, .ref no])) = H5 at M5 ⊢
    have hl : (ns.map V.str).length = ns.length := List.length_map _
    -- a tree
    refine q_ifVia (fun σ' H' => ∃ (no : Addr) (as : List Addr), σ' = [some (.ref p), some (.int least), some (.int most), some (.int wide), some (.ref a), some (.int shape), some (.ref eo), some (.int many), some (.ref no), none, none, none, none, none, none] ∧ as.length ≤ 40 ∧
      Md p c a eo no H (n + 60) ns [] as H') (Evl.et_test (Evl.ev_op (x := .int shape) (Evl.ev_var rfl) Evl.ev_c (Evl.rv_eq rfl))) (fun hb H6 e6 D' kD => ?_) (fun hb H6 e6 => ⟨no, [], rfl, by simp, (M5.ex e6).but (But.refl _ _) ((M5.ex e6).P.le (by omega))⟩) ?_
    · have M6 := M5.ex e6
      refine asgVia (fun v H' => ∃ (no : Addr) (as : List Addr), v = .ref no ∧ as.length ≤ 40 ∧ Md p c a eo no H (n + 60) ns [] as H') (fun Q' hQ' => ?_) (fun v H' ⟨no, as, hv, la, M⟩ => kD _ _ ⟨no, as, by rw [hv]; rfl, la, M⟩)
      refine ⟨.ref a, rfl, a, _, rfl, .inl (Evl.sq_of M6.ha), 1, _, rfl, ⟨by decide, by decide, by omega, by omega⟩, lcP (Q := Q') (p := p) (c := c) (n := n + 14) (kk := 1) (m := (((ns.map V.str).length : Int) - 1).toNat) 1
        (fun i acc H' => ∃ as : List Addr, acc = as.map V.ref ∧ ∀ x ∈ as, PairAt ns H' x) M6.P (by omega) (fun _ _ => ⟨[], rfl, fun x hx => absurd hx (by simp)⟩) ?hw (fun i acc D ys H' hq ⟨as, e, h⟩ => ⟨as, e, fun x hx => (h x hx).tk (TK.put hq)⟩)
        (fun i acc H' hi la pa ba Pa Q2 k => ?_) (fun D acc H7 nD la pa b7 hD P7 => ?_)⟩
      case hw => exact fun _ => rfl
      · obtain ⟨as, rfl, pas⟩ := pa
        have ha' := ba _ _ na M6.ha
        refine ⟨.ref a, rfl, .int (1 + (i : Nat)), rfl, a, _, _, _, rfl, rfl, Evl.sq_of ha', at_str (by omega) (by omega), .ref a, rfl, .ref p, rfl, .int (1 + (i : Nat)), rfl, p, c, 1 + (i : Nat), _, rfl, Pa, by omega, by omega, by omega, fun d H8 d0 d1 b8 P8 => ?_⟩
        refine ⟨a, _, _, _, rfl, rfl, Evl.sq_of (b8 _ _ na ha'), at_str d0 (by omega), by simp [sizeLine_eq], fun t nt => k _ _ ⟨as ++ [t], ?_, ?_⟩ (b8.trans (But.of (Evl.Ex.new nt))) ?_⟩
        · rw [List.map_append]
          rfl
        · intro x hx
          rcases List.mem_append.mp hx with hx | hx
          · exact (pas x hx).tk ((TK.but Pa b8).trans (TK.ex (Evl.Ex.new nt)))
          · rw [List.mem_singleton.mp hx]
            exact ⟨_, _, upd_same, List.getElem_mem _, List.getElem_mem _, nd_ne nd _ _ (by omega)⟩
        · rw [Nat.mul_succ, ← Nat.add_assoc]
          exact P8.ex (Evl.Ex.new nt)
      · obtain ⟨as, rfl, pas⟩ := pa
        rw [List.length_map] at la
        have nD' := (M6.P.far nD).1
        exact hQ' _ _ ⟨D, as, rfl, by omega, ⟨M6.b.trans b7, P7.le (by omega), b7 _ _ na M6.ha, b7 _ _ ne M6.he, hD, pas, na, ne, nD', fe, M6.b.back nD' nD, apart M6.ha nD, apart M6.he nD, M6.d3⟩⟩
    rintro σ6 H6 ⟨no, as, rfl, las, M6⟩
    -- a ring
    refine q_ifVia (fun σ' H' => ∃ (no : Addr) (as : List Addr), σ' = [some (.ref p), some (.int least), some (.int most), some (.int wide), some (.ref a), some (.int shape), some (.ref eo), some (.int many), some (.ref no), none, none, none, none, none, none] ∧ as.length ≤ 40 ∧
      Md p c a eo no H (n + 60) ns [] as H') (Evl.et_and (Evl.et_test (Evl.ev_op (x := .int shape) (Evl.ev_var rfl) Evl.ev_c (Evl.rv_eq rfl))) fun _ => Evl.et_test (Evl.ev_op (ev_lenT (Evl.ev_var rfl) (.inl (Evl.sq_of M6.ha))) Evl.ev_c Evl.rv_I0)) (fun hb H7 e7 D' kD => ?_) (fun hb H7 e7 => ⟨no, as, rfl, las, M6.ex e7⟩) ?_
    · have M7 := M6.ex e7
      have big1 : 1 < ns.length := by
        have := of_decide_eq_true (Bool.and_eq_true_iff.mp hb).2
        rw [hl] at this
        omega
      refine asgVia (fun v H' => ∃ (no : Addr) (as : List Addr), v = .ref no ∧ as.length ≤ 40 ∧ Md p c a eo no H (n + 60) ns [] as H') (fun Q' hQ' => ?_) (fun v H' ⟨no, as, hv, la, M⟩ => kD _ _ ⟨no, as, by rw [hv]; rfl, la, M⟩)
      refine ⟨.ref a, rfl, a, _, rfl, .inl (Evl.sq_of M7.ha), rfl, _, rfl, .ref a, rfl, a, _, rfl, .inl (Evl.sq_of M7.ha), ?_⟩
      have hlo : ∃ lo : Int, (if decide (V.int ((ns.map V.str).length : Int) = V.int 2) = true then (1 : Int) else 0) = lo ∧ (lo = 0 ∨ lo = 1) ∧ (lo = 0 → ns.length ≠ 2) := by
        rw [hl]
        by_cases h2 : ns.length = 2
        · refine ⟨1, by rw [h2]; rfl, .inr rfl, fun z => absurd z (by decide)⟩
        · refine ⟨0, if_neg fun z => h2 ?_, .inl rfl, fun _ => h2⟩
          have := V.int.inj (of_decide_eq_true z)
          omega
      obtain ⟨lo, elo, lo01, lo2⟩ := hlo
      rw [elo]
      refine ⟨lo, _, rfl, ⟨by omega, by omega, by omega, by omega⟩, lcP (Q := Q') (p := p) (c := c) (n := n + 60) (kk := 0) (m := (((ns.map V.str).length : Int) - lo).toNat) lo
        (fun i acc H' => ∃ as : List Addr, acc = as.map V.ref ∧ ∀ x ∈ as, PairAt ns H' x) M7.P (by omega) (fun _ _ => ⟨[], rfl, fun x hx => absurd hx (by simp)⟩) ?hw2 (fun i acc D ys H' hq ⟨as, e, h⟩ => ⟨as, e, fun x hx => (h x hx).tk (TK.put hq)⟩)
        (fun i acc H' hi la pa ba Pa Q2 k => ?_) (fun D acc H8 nD la pa b8 hD P8 => ?_)⟩
      case hw2 => exact fun _ => rfl
      · obtain ⟨as, rfl, pas⟩ := pa
        have ha' := ba _ _ na M7.ha
        refine ⟨.ref a, rfl, .int (lo + (i : Nat)), rfl, a, _, _, _, rfl, rfl, Evl.sq_of ha', at_str (by omega) (by omega), .ref a, rfl, .int (lo + (i : Nat)), rfl, _, _, rfl, rfl, ?_⟩
        have hv : ∃ j, ∃ hj : j < ns.length, atI (ns.map V.str) (lo + (i : Nat) - 1) = some (.str ns[j]) ∧ (lo + (i : Nat)).toNat ≠ j := by
          by_cases z : lo + (i : Nat) - 1 = -1
          · have l0 : lo = 0 := by omega
            have := lo2 l0
            refine ⟨ns.length - 1, by omega, ?_, by omega⟩
            rw [z]
            exact at_last (by omega)
          · exact ⟨(lo + (i : Nat) - 1).toNat, by omega, at_str (by omega) (by omega), by omega⟩
        obtain ⟨j, hj, ej, nj⟩ := hv
        refine ⟨a, _, _, _, rfl, rfl, Evl.sq_of ha', ej, by simp [sizeLine_eq], fun t nt => k _ _ ⟨as ++ [t], ?_, ?_⟩ (But.of (Evl.Ex.new nt)) (Pa.ex (Evl.Ex.new nt))⟩
        · rw [List.map_append]
          rfl
        · intro x hx
          rcases List.mem_append.mp hx with hx | hx
          · exact (pas x hx).tk (TK.ex (Evl.Ex.new nt))
          · rw [List.mem_singleton.mp hx]
            exact ⟨_, _, upd_same, List.getElem_mem _, List.getElem_mem _, nd_ne nd _ _ nj⟩
      · obtain ⟨as, rfl, pas⟩ := pa
        rw [List.length_map] at la
        have nD' := (M7.P.far nD).1
        exact hQ' _ _ ⟨D, as, rfl, by omega, ⟨M7.b.trans b8, P8.le (by omega), b8 _ _ na M7.ha, b8 _ _ ne M7.he, hD, pas, na, ne, nD', fe, M7.b.back nD' nD, apart M7.ha nD, apart M7.he nD, M7.d3⟩⟩
    rintro σ7 H7 ⟨no, as, rfl, las, M7⟩
    -- any ends
    have nn : no ≠ p := M7.nn
    refine Evl.q_forR1 (n := if 1 < ns.length then many else 0) (Evl.ea_cons (Evl.ev_if (Evl.et_test (Evl.ev_op (ev_lenT (Evl.ev_var rfl) (.inl (Evl.sq_of M7.ha))) Evl.ev_c Evl.rv_I0)) (fun h => ?_) (fun h => ?_)) Evl.ea_nil) ⟨by split <;> omega, by split <;> omega⟩
      (fun i σ' H' => ∃ as x9, σ' = [some (.ref p), some (.int least), some (.int most), some (.int wide), some (.ref a), some (.int shape), some (.ref eo), some (.int many), some (.ref no), x9, none, none, none, none, none] ∧ as.length ≤ 40 + i ∧
      Md p c a eo no H (n + 60 + 40 * i) ns [] as H') (fun H8 e8 => ⟨as, none, rfl, las, M7.ex e8⟩) ?_ ?_
    · rw [hl] at h
      have h := of_decide_eq_true h
      rw [if_pos (by omega)]
      exact Evl.ev_var rfl
    · rw [hl] at h
      have h := of_decide_eq_false h
      rw [if_neg (by omega)]
      exact Evl.ev_c
    · rintro i σ8 H8 hi ⟨as, x9, rfl, las, M8⟩
      have big1 : 1 < ns.length := by
        by_cases z : 1 < ns.length
        · exact z
        · rw [if_neg z] at hi
          omega
      rw [if_pos big1] at hi
      refine ⟨.ref no, rfl, .inl ⟨rfl, _, Evl.sq_of M8.hn⟩, .ref p, rfl, .ref a, rfl, p, c, a, ns.map V.str, _, rfl, M8.P, by omega, .inl (Evl.sq_of M8.ha), na, by omega, fun q9 ys H9 pm nq b9 hq P9 => ?_⟩
      refine ⟨2, rfl, q9, ys, rfl, .inl (.inl hq), fun r nr => ⟨r, _, rfl, .inl ⟨.inl (.inl upd_same), fun l nl => ?_⟩⟩⟩
      obtain ⟨ms, pms, rfl⟩ := perm_strs pm
      have lms : 1 < ms.length := by
        rw [pms.length_eq]
        exact big1
      obtain ⟨u, v, rest, rfl⟩ : ∃ u v rest, ms = u :: v :: rest := by
        match ms, lms with
        | u :: v :: rest, _ => exact ⟨u, v, rest, rfl⟩
      have ndm := pms.nodup_iff.mpr nd
      have uv : u ≠ v := fun z => by
        rw [z] at ndm
        exact (List.nodup_cons.mp ndm).1 List.mem_cons_self
      have e9 : Evl.Ex H9 (upd (upd H9 r (.lst (cutV ((u :: v :: rest).map V.str) none (some 2)))) l (.tup (cutV ((u :: v :: rest).map V.str) none (some 2)))) := (Evl.Ex.new nr).trans (Evl.Ex.new nl)
      have M9 := (M8.but b9 P9).ex e9
      have pl : PairAt ns (upd (upd H9 r (.lst (cutV ((u :: v :: rest).map V.str) none (some 2)))) l (.tup (cutV ((u :: v :: rest).map V.str) none (some 2)))) l := by
        refine ⟨u, v, ?_, pms.mem_iff.mp List.mem_cons_self, pms.mem_iff.mp (List.mem_cons_of_mem _ List.mem_cons_self), uv⟩
        rw [upd_same, cut2]
        rfl
      have noc : no ≠ c := (hP.far M8.fn).2
      refine ⟨no, _, _, rfl, rfl, M9.hn, ?_, as ++ [l], _, rfl, ?_, ?_⟩
      · rw [List.length_map]
        exact Evl.sz_lt (by omega)
      · rw [List.length_append]
        show as.length + 1 ≤ _
        omega
      · have := M9.app pl noc
        exact (this.but (But.refl _ _) (this.P.le (by rw [hl]; omega)))
    · rintro σ8 H8 ⟨as, x9, rfl, las, M8⟩
      have M8 : Md p c a eo no H (n + 1700) ns [] as H8 := M8.but (But.refl _ _) (M8.P.le (by split <;> omega))
      have las : as.length ≤ 80 := by
        split at las <;> omega
      -- below, bound
      refine ⟨.ref p, rfl, p, c, 4, n + 1700, rfl, M8.P, by omega, by decide, by decide, fun below H9 be0 be1 b9 P9 => ⟨.ref p, rfl, by simp [sizeLine_eq], fun L nL => .inl ⟨p, c, L, [0, 1, 2, 5, 5, 1000000].map V.int, n + 1701, rfl, P9.mut (P9.far nL), by omega, .inl (Evl.sq_of upd_same), (P9.far nL).1, by decide, by decide,
        fun v H10 hv b10 P10 => ⟨_, _, rfl, ?_⟩⟩⟩⟩
      obtain ⟨bound, hbo, rfl⟩ := List.mem_map.mp hv
      have bo : 0 ≤ bound ∧ bound ≤ 1000000 := by
        simp only [List.mem_cons, List.mem_nil_iff, or_false] at hbo
        rcases hbo with rfl | rfl | rfl | rfl | rfl | rfl <;> decide
      have M10 := (((M8.but b9 P9).ex (Evl.Ex.new nL)).but b10 P10)
      -- the names of the edges
      refine ⟨.ref p, rfl, .int wide, rfl, p, c, wide, n + 1702, rfl, M10.P, by omega, by omega, fun nb en H11 len' nde nme nbn b11 hnb P11 => ?_⟩
      have M11 := M10.but b11 P11
      have fnb : nb ≠ p := (M10.P.far nbn).1
      have nba : eo ≠ nb := (apart M10.he nbn).symm
      refine g_name ?_
      dsimp only
      refine Evl.q_forR1 (n := if ((as.map V.ref).length : Int) < (wide : Int) then ((as.map V.ref).length : Int) else (wide : Int)) ?hmin ⟨by split <;> omega, by rw [List.length_map]; split <;> omega⟩
        (fun i σ' H' => ∃ (es : List Addr) (eds : List Eg) (x13 x14 : Option V), σ' = [some (.ref p), some (.int least), some (.int most), some (.int wide), some (.ref a), some (.int shape), some (.ref eo), some (.int many), some (.ref no), x9, some (.int below), some (.int bound), some (.ref nb), x13, x14] ∧
          Md p c a eo no H (n + 1713 + 2 * i) ns (es.map V.ref) as H' ∧ H' nb = some (.lst (en.map V.str)) ∧ EgsAt H' es eds ∧ (∀ x ∈ es, H x = none) ∧ eds.map (·.1) = en.take i ∧ ∀ e ∈ eds, IsNm e.1 ∧ e.2.1 ∈ ns ∧ e.2.2.1 ∈ ns ∧ e.2.1 ≠ e.2.2.1 ∧ -1000000 ≤ e.2.2.2 ∧ e.2.2.2 ≤ 1000000)
        (fun H12 e12 => ⟨[], [], none, none, rfl, M11.ex e12, e12 _ _ hnb, .nil, fun x hx => absurd hx (by simp), rfl, fun x hx => absurd hx (by simp)⟩) ?_ ?_
      case hmin =>
        exact (Evl.ea_cons (Evl.ev_cb (Evl.ea_cons (x := .int wide) (Evl.ev_var rfl) (Evl.ea_cons (ev_lenT (Evl.ev_var rfl) (.inl (Evl.sq_of M11.hn))) Evl.ea_nil)) (fun H1 _ _ q => ⟨_, _, rfl, q H1 (Evl.Ex.refl _)⟩)) Evl.ea_nil)
      · rintro i σ12 H12 hi ⟨es, eds, x13, x14, rfl, M12, hb12, ea12, fr12, nm12, em12⟩
        rw [List.length_map] at hi
        have hi1 : i < as.length := by
          split at hi <;> omega
        have hi2 : i < en.length := by
          rw [len']
          split at hi <;> omega
        refine ⟨.ref p, rfl, .int bound, rfl, _, _, rfl, rfl, p, c, bound + 1, _, rfl, M12.P, by omega, by omega, by omega, fun ln H13 ln0 ln1 b13 P13 => ?_⟩
        have M13 := M12.but b13 P13
        refine g_name ?_
        dsimp only
        refine q_asgVia (fun v H' => ∃ z, v = V.int z ∧ -1000000 ≤ z ∧ z ≤ 1000000 ∧ But p H13 H' ∧ Pen p c (n + 1713 + 2 * (i + 1)) H') (fun Q' hQ' => ?_) ?_
        · refine ⟨.ref p, rfl, p, c, 8, _, rfl, P13, by omega, by decide, by decide, fun d8 H14 _ _ b14 P14 => ⟨.int below, rfl, _, _, rfl, rfl, _, rfl, ?_⟩⟩
          have P14 := P14.le (m := n + 1713 + 2 * (i + 1)) (by omega)
          refine ite2 (fun hc => ?_) (fun hc => ?_)
          · exact ⟨.int ln, rfl, _, _, rfl, rfl, hQ' _ _ ⟨_, rfl, by omega, by omega, b14, P14⟩⟩
          · exact ⟨.int ln, rfl, hQ' _ _ ⟨_, rfl, by omega, by omega, b14, P14⟩⟩
        · rintro v H14 ⟨z, rfl, z0, z1, b14, P14⟩
          have M14 := M13.but b14 P14
          have hb14 : H14 nb = some (.lst (en.map V.str)) := b14 _ _ fnb (b13 _ _ fnb hb12)
          have ea14 := (ea12.tk (TK.but M12.P b13)).tk (TK.but M13.P b14)
          obtain ⟨u, v, hx, hu, hv, uv⟩ := M14.pr as[i] (List.getElem_mem hi1)
          have hno : atI (as.map V.ref) (i : Int) = some (.ref as[i]) := atI_some (by omega) (by rw [Int.toNat_natCast, List.getElem?_map, List.getElem?_eq_getElem hi1]; rfl)
          refine ⟨.ref eo, rfl, .inl ⟨rfl, _, Evl.sq_of M14.he⟩, .ref nb, rfl, .int i, rfl, nb, _, _, _, rfl, rfl, Evl.sq_of hb14, at_str (by omega) (by omega), .ref no, rfl, .int i, rfl, no, _, _, _, rfl, rfl, Evl.sq_of M14.hn, hno, as[i], _, 0, .str u, rfl, rfl, .inl (.inl hx), rfl,
            .ref no, rfl, .int i, rfl, no, _, _, _, rfl, rfl, Evl.sq_of M14.hn, hno, as[i], _, 1, .str v, rfl, rfl, .inl (.inl hx), rfl, .int z, rfl, by simp [sizeLine_eq], fun t nt => ?_⟩
          have M15 := M14.ex (Evl.Ex.new (o := .tup [.str en[i], .str u, .str v, .int z]) nt)
          have tk : TK H14 (upd H14 t (.tup [.str en[i], .str u, .str v, .int z])) := TK.ex (Evl.Ex.new nt)
          have tk2 : TK (upd H14 t (.tup [.str en[i], .str u, .str v, .int z])) (upd (upd H14 t (.tup [.str en[i], .str u, .str v, .int z])) eo (.lst (es.map V.ref ++ [.ref t]))) := TK.put (.inr ⟨_, M15.he⟩)
          have ft : H t = none := M14.b.back (M14.P.far nt).1 nt
          have les : es.length ≤ 40 := by
            have l1 : es.length = eds.length := Paired.length ea12
            have l2 : (eds.map (·.1)).length = (en.take i).length := by rw [nm12]
            rw [List.length_map, List.length_take] at l2
            omega
          refine ⟨eo, _, _, rfl, rfl, M15.he, ?_, es ++ [t], eds ++ [(en[i], u, v, z)], _, _, rfl, ?_, ?_, ?_, ?_, ?_, ?_⟩
          · rw [List.length_map]
            exact Evl.sz_lt (by omega)
          · have := M15.appE (v := .ref t) (hP.far fe).2
            rw [List.map_append]
            exact this
          · rw [upd_ne nba.symm]
            exact Evl.Ex.new nt _ _ hb14
          · exact paired_snoc ((ea14.tk tk).tk tk2) (tk2 _ _ upd_same)
          · intro x hx
            rcases List.mem_append.mp hx with hx | hx
            · exact fr12 x hx
            · rw [List.mem_singleton.mp hx]
              exact ft
          · rw [List.map_append, nm12, List.take_add_one, List.getElem?_eq_getElem hi2]
            rfl
          · intro e he
            rcases List.mem_append.mp he with he | he
            · exact em12 e he
            · rw [List.mem_singleton.mp he]
              exact ⟨nme _ (List.getElem_mem hi2), hu, hv, uv, z0, z1⟩
      · rintro σ12 H12 ⟨es, eds, x13, x14, rfl, M12, hb12, ea12, fr12, nm12, em12⟩
        refine ⟨.ref a, rfl, .ref eo, rfl, by simp [sizeLine_eq], fun t nt => ?_⟩
        have M13 := M12.ex (Evl.Ex.new (o := .tup [.ref a, .ref eo]) nt)
        have led : eds.length ≤ wide := by
          have l2 := congrArg List.length nm12
          rw [List.length_map, List.length_take] at l2
          omega
        refine q t a eo ns es eds _ ⟨nm, nd, em12, ?_⟩ (by omega) (by omega) led (M12.b.back (M12.P.far nt).1 nt) fa fe fr12 M13.b upd_same M13.ha M13.he (ea12.tk (TK.ex (Evl.Ex.new nt))) (M13.P.le ?_)
        · rw [nm12]
          exact (List.take_sublist _ _).nodup nde
        · rw [List.length_map]
          split <;> omega
end
end Lw

set_option maxHeartbeats 2000000
/-! a small calm network -/
namespace Lj
open PySem PySem.Spec PyProof.Rows L2 Lw Hq
open Evl (EvL EvA EvT EvU RC)
abbrev nm__law_calm : List Str := ["_law_pen_here", "_law_least", "_law_upto", "_law_wide", "_law_nodes", "_law_edges", "_law_turn", "_law_sunk", "_law_edge"]
theorem sc__law_calm : FnScope nm__law_calm ["_law_pen_here", "_law_least", "_law_upto", "_law_wide"] (defScope (top 74)) := ⟨rfl, rfl, rfl, by decide +kernel, rfl, by decide +kernel, by decide +kernel⟩
theorem g_asgE {te : TE} {g : TG} {D : Ends} {σ : L2.St} {H : Hp} (h : te σ H fun v H1 => g v σ H1 D.nx) : tAsg te g D σ H := h
section
variable {P : Program} {w : World} {K : PySem.W.Frag} {mg : Str → Option Value} {base : Heap}
def spCalmL : Sp := fun vs H Q _ => ∃ (p c : Addr) (least upto wide n : Nat), vs = [V.ref p, .int (least : Int), .int (upto : Int), .int (wide : Int)] ∧ Pen p c n H ∧ n ≤ 800000 ∧ 1 ≤ least ∧ least ≤ upto ∧ upto ≤ 6 ∧ wide ≤ 9 ∧
  ∀ t na nb ns as es H', IsNet ns es → least ≤ ns.length → ns.length ≤ upto → es.length ≤ wide → H t = none → But p H H' → H' t = some (.tup [.ref na, .ref nb]) → H' na = some (.lst (ns.map V.str)) → H' nb = some (.lst (as.map V.ref)) → EgsAt H' as es → Pen p c (n + 10000) H' → Cyc es → Q (.ref t) H'
theorem ok_calmL {f fM fS : Addr} {fd dM dS : FuncData} {k : Nat} (F : Fun K "_law_calm" "_law_calm" (top 74) f fd) (T : Bs mg bl) (F_law_small : Cf P w K mg base "_law_small" ["_law_pen_here", "_law_least", "_law_upto", "_law_wide"] k spSmall fM dM) (F_law_sunk_cycles : Cf P w K mg base "_law_sunk_cycles" ["_law_network"] k spSunkC fS dS) : FnOk P w K mg base CX0 (k + 1) f fd ["_law_pen_here", "_law_least", "_law_upto", "_law_wide"] spCalmL := by
  refine F.ok sc__law_calm (fun vs H Q E h => ?_) (fun cdv A outer s H vs Q E hr h => ?_)
  · obtain ⟨p, c, least, upto, wide, n, rfl, _⟩ := h
    rfl
  · obtain ⟨p, c, least, upto, wide, n, rfl, hP, hn, g0, g1, g2, g3, q⟩ := h
    refine ⟨_, (pss_cons (ps_asg (pe_cf F_law_small (hr.mono (by omega)) (by rfl) (pa_cons (pv 0) (pa_cons (pv 1) (pa_cons (pv 2) (pa_cons (pv 3) pa_nil))))) (pg_tup rfl (pgs_cons (pg_name (i := 4) sc__law_calm.nd rfl (Or.inl rfl)) (pgs_cons (pg_name (i := 5) sc__law_calm.nd rfl (Or.inl rfl)) pgs_nil))))
      (pss_cons (ps_for PassesOwn.never rfl (pi_range1 (by rfl) (T.b "range" (by decide)) (pa_cons (pe_callB call_len_seq (by rfl) (T.b "len" (by decide)) (by decide +kernel) (pa_cons (pv 5) pa_nil)) pa_nil)) (pg_name (i := 6) sc__law_calm.nd rfl (Or.inl rfl)) (pss_cons (ps_set (i := 7) sc__law_calm.nd rfl (Or.inr rfl) (pe_ix ix_list (pe_op op_cat (pe_cf F_law_sunk_cycles (hr.mono (by omega)) (by rfl) (pa_cons (pe_tup (pa_cons (pv 4) (pa_cons (pv 5) pa_nil))) pa_nil)) (pe_lst (pa_cons (pe_tup pa_nil) pa_nil))) pe_int (fun _ _ => rfl)))
      (pss_one (ps_setLc (i := 5) (own := [("_law_edge", 8)]) (g := (gName 8)) (tt := tYes) (te := (tOp (rCatA K) (tSl (rSlA K) (tVar 8) tNoPart (tPart (tC (.int 3)))) (tTup (tCons (tIf (tTest (tOp (rIn K false) (tOp (rIxT K) (tVar 8) (tC (.int 0))) (tVar 7))) (tCB (fun xs H Q => ∃ i, xs = [V.int i] ∧ Q (.int (if i < 0 then -i else i)) H) (tCons (tOp (rIxT K) (tVar 8) (tC (.int 3))) tNil)) (tOp (rIxT K) (tVar 8) (tC (.int 3)))) tNil)))) rfl sc__law_calm.nd rfl rfl (by rfl) (pi_list (pv 5)) (blkOk_by (N := nm__law_calm) (sc := defScope (top 74)) (by decide +kernel)) (fun _ _ _ _ _ => pg_name (i := 8) sc__law_calm.nd rfl (Or.inl rfl)) (fun _ _ _ _ _ => pts_nil) (fun _ _ _ _ _ => (pe_op op_catA (pe_slice sl_tupA (pv 8) po_none (po_some pe_int)) (pe_tup (pa_cons (pe_ifExp (pt_cmpR op_in_seq (pe_ix ix_tup (pv 8) pe_int (fun _ _ => rfl)) (pv 7) rfl) (pe_callB call_abs (by rfl) (T.b "abs" (by decide)) (by decide +kernel) (pa_cons (pe_ix ix_tup (pv 8) pe_int (fun _ _ => rfl)) pa_nil)) (pe_ix ix_tup (pv 8) pe_int (fun _ _ => rfl))) pa_nil))))))))
      (pss_one (ps_ret (pe_tup (pa_cons (pv 4) (pa_cons (pv 5) pa_nil))))))), ?_⟩
    refine g_asgV (g_call (g_ea (vs := [.ref p, .int (least : Int), .int (upto : Int), .int (wide : Int)]) (Evl.ea_cons (Evl.ev_var rfl) (Evl.ea_cons (Evl.ev_var rfl) (Evl.ea_cons (Evl.ev_var rfl) (Evl.ea_cons (Evl.ev_var rfl) Evl.ea_nil)))) fun H1 e1 => ?_))
    refine ⟨p, c, least, upto, wide, n, rfl, hP.ex e1, hn, g0, g1, by omega, by omega, fun t na nb ns as es H3 net l0 l1 l2 nt n_a n_b nas b3 ht hna hnb hes P3 => ?_⟩
    refine ⟨t, _, rfl, .inl (.inl ht), rfl, _, _, rfl, _, _, rfl, rfl, ?_⟩
    have lae := hes.len
    have enE : ∀ e ∈ es, e.2.1 ∈ ns ∧ e.2.2.1 ∈ ns := fun e he => by obtain ⟨_, h2, h3, _⟩ := net.em e he; exact ⟨h2, h3⟩
    obtain ⟨L0, hL0⟩ := relen_self es net.ed
    have natL0 : ∀ e ∈ es, (L0 e.1).natAbs = e.2.2.2.natAbs := fun e he => by
      obtain ⟨i, hi, rfl⟩ := List.mem_iff_getElem.mp he
      have := congrArg (fun l : List Eg => l[i]?) hL0
      simp only [List.getElem?_map, List.getElem?_eq_getElem hi, Option.map_some, Option.some.injEq] at this
      have := congrArg (fun e : Eg => e.2.2.2.natAbs) this
      exact this
    refine Evl.q_forR1 (n := (es.length : Nat)) (Evl.ea_cons (Evl.ev_is (Evl.ev_len (Evl.ev_var rfl) (Evl.sq_of hnb)) (by rw [List.length_map, lae])) Evl.ea_nil) ⟨by omega, by omega⟩ (fun i σ' H' => ∃ (x6 x7 : Option V) (bE : Addr) (asE : List Addr) (L : Str → Int), σ' = [some (.ref p), some (.int (least : Int)), some (.int (upto : Int)), some (.int (wide : Int)), some (.ref na), some (.ref bE), x6, x7, none] ∧ Evl.Ex H3 H' ∧ H' bE = some (.lst (asE.map V.ref)) ∧ EgsAt H' asE (es.map (relen L)) ∧ (∀ e ∈ es, (L e.1).natAbs = e.2.2.2.natAbs) ∧ SunkN (es.map (relen L)) i)
      (fun H4 e4 => ⟨none, none, nb, as, L0, rfl, e4, e4 _ _ hnb, by rw [hL0]; exact hes.tk (TK.ex e4), natL0, SunkN.start _⟩) (fun i σ' H' hi z => ?_) (fun σ' H' z => ?_)
    · obtain ⟨x6, x7, bE, asE, L, rfl, e, hbE, hE, hL, sk⟩ := z
      have netE : IsNet ns (es.map (relen L)) := IsNet.relen net hL
      have lE : (es.map (relen L)).length = es.length := List.length_map _
      refine q_asgVia (fun v H' => ∃ (s : Addr) (N : List Str), v = V.ref s ∧ H' s = some (.tup (N.map V.str)) ∧ N.length ≤ 1000 ∧ Evl.Ex H3 H' ∧ H' bE = some (.lst (asE.map V.ref)) ∧ EgsAt H' asE (es.map (relen L)) ∧ SunkN (es.map (relen (up N L))) (i + 1)) (fun Q' hQ' => ?_) ?_
      · refine g_op (g_op (g_call (g_cons (g_tupC (g_ea (vs := [.ref na, .ref bE]) (Evl.ea_cons (Evl.ev_var rfl) (Evl.ea_cons (Evl.ev_var rfl) Evl.ea_nil)) fun H4 e4 => ⟨by simp [sizeLine_eq], fun pt npt => g_nil ?_⟩)))))
        have e5 := Evl.Ex.new (o := .tup [.ref na, .ref bE]) npt
        have e45 := e4.trans e5
        refine ⟨pt, es.map (relen L), ns, rfl, ⟨bE, .ref na, [], asE, upd_same, e45 _ _ hbE, hE.tk (TK.ex e45)⟩, netE.ed, fun e he => by obtain ⟨_, h2, h3, _⟩ := netE.em e he; exact ⟨h2, h3⟩, by omega, by omega, fun H6 l ts cs e6 nl hl hts hcs lc => ?_⟩
        refine g_lstC (g_cons (g_tupC (g_nil ⟨by simp [sizeLine_eq], fun p0 np0 => g_nil ⟨by simp [sizeLine_eq], fun pl npl => ?_⟩⟩)))
        have e7 := Evl.Ex.new (o := .tup []) np0
        have e8 := Evl.Ex.new (o := .lst [.ref p0]) npl
        have lts := paired_len hts
        rw [List.length_map] at lts
        refine ⟨l, pl, _, _, rfl, rfl, (e7.trans e8) _ _ hl, upd_same, by rw [List.length_map]; exact szz (by simp; omega), fun r nr => ?_⟩
        have e9 := Evl.Ex.new (o := .lst (ts.map V.ref ++ [.ref p0])) nr
        have e79 := (e7.trans e8).trans e9
        have eAll := (e45.trans e6).trans e79
        cases cs with
        | nil =>
          cases hts
          refine ⟨r, _, 0, _, rfl, rfl, Evl.sq_of upd_same, atI_some (i := 0) (by decide) rfl, ?_⟩
          refine hQ' _ _ ⟨p0, [], rfl, (e8.trans e9) _ _ upd_same, by simp, e.trans eAll, eAll _ _ hbE, hE.tk (TK.ex eAll), .inl fun c hc => ?_⟩
          have e0 : up [] L = L := by funext m; simp [up]
          rw [e0] at hc
          apply Classical.byContradiction
          intro q
          exact absurd ((hcs c).mpr ⟨hc, by omega⟩) (by simp)
        | cons c0 cs =>
          cases hts with
          | cons h0 hts =>
          rename_i t0 ts
          obtain ⟨hc0, bad⟩ := (hcs c0).mp List.mem_cons_self
          have lc0 : c0.length ≤ es.length := by
            rw [← lE]
            exact nodup_len (hc0.nodup (nd_es netE.ed)) hc0.mem
          refine ⟨r, _, 0, _, rfl, rfl, Evl.sq_of upd_same, atI_some (i := 0) (by decide) rfl, ?_⟩
          refine hQ' _ _ ⟨t0, snms c0, rfl, e79 _ _ h0, by rw [(srtN_perm _).length_eq, List.length_map]; omega, e.trans eAll, eAll _ _ hbE, hE.tk (TK.ex eAll), ?_⟩
          have eU : up (snms c0) L = up (nms' c0) L := by
            funext m
            unfold up
            by_cases q : m ∈ nms' c0
            · rw [if_pos q, if_pos ((srtN_perm (nms c0)).mem_iff.mpr q)]
            · rw [if_neg q, if_neg fun z => q ((srtN_perm (nms c0)).mem_iff.mp z)]
          rw [eU]
          exact sk.sink hc0 bad
      · rintro v H4 ⟨s1, N, rfl, hs1, lN, e4, hb4, hE4, sk4⟩
        refine g_asgE ?_
        refine lc_mk (K := K) (α := Eg) (R := fun (H : Hp) (a : Addr) (e : Eg) => H a = some (.tup (egV e))) (fun e r => e _ _ r) (fun g => egV (g.1, g.2.1, g.2.2.1, if g.1 ∈ N then (if g.2.2.2 < 0 then -g.2.2.2 else g.2.2.2) else g.2.2.2)) (j := 8) (vs := [8]) (Evl.ev_var rfl) (Evl.sq_of hb4) hE4 (by omega) (fun _ => rfl) (fun g a H5 e5 _ ha => ?_) (fun B us H5 nB e5 hB hus => ?_)
        · have eg0 : Evl.Ev (tOp (rIxT K) (tVar 8) (tC (.int 0))) [some (.ref p), some (.int (least : Int)), some (.int (upto : Int)), some (.int (wide : Int)), some (.ref na), some (.ref bE), some (.int (i : Int)), some (.ref s1), some (.ref a)] H5 (.str g.1) := Evl.ev_op (Evl.ev_var rfl) Evl.ev_c (Evl.rv_ixT (Evl.st_of ha) (atI_some (i := 0) (by decide) rfl))
          have eg3 : Evl.Ev (tOp (rIxT K) (tVar 8) (tC (.int 3))) [some (.ref p), some (.int (least : Int)), some (.int (upto : Int)), some (.int (wide : Int)), some (.ref na), some (.ref bE), some (.int (i : Int)), some (.ref s1), some (.ref a)] H5 (.int g.2.2.2) := Evl.ev_op (Evl.ev_var rfl) Evl.ev_c (Evl.rv_ixT (Evl.st_of ha) (atI_some (i := 3) (by decide) rfl))
          refine eu_catU (xs := [.str g.1, .str g.2.1, .str g.2.2.1]) (ys := [.int (if g.1 ∈ N then (if g.2.2.2 < 0 then -g.2.2.2 else g.2.2.2) else g.2.2.2)]) (eu_sl3 (Evl.ev_var rfl) ha) (Evl.eu_tup (Evl.ea_cons (Evl.ev_if (b := decide (g.1 ∈ N)) (Evl.et_is (Evl.et_test (Evl.ev_op (x := .str g.1) eg0 (Evl.ev_var rfl) (Evl.rv_isT (Evl.st_of (e5 _ _ hs1)) rfl (by simp [flatV])))) inV_str) (fun z => ?_) (fun z => ?_)) Evl.ea_nil) (by simp)) (by simp)
          · rw [if_pos (of_decide_eq_true z)]
            exact Evl.ev_cb (Evl.ea_cons eg3 Evl.ea_nil) fun H6 _ Q6 q6 => ⟨_, rfl, q6 H6 (Evl.Ex.refl _)⟩
          · rw [if_neg (of_decide_eq_false z)]
            exact eg3
        · refine ⟨_, _, B, us, up N L, rfl, e4.trans e5, hB, ?_, fun e' hE' => by rw [up_abs]; exact hL e' hE', sk4⟩
          have := paired_mapR (R := fun (a : Addr) (g : Eg) => H5 a = some (.tup (egV g))) (g := fun g : Eg => ((g.1, g.2.1, g.2.2.1, if g.1 ∈ N then (if g.2.2.2 < 0 then -g.2.2.2 else g.2.2.2) else g.2.2.2) : Eg)) hus
          rw [List.map_map] at this
          exact this
    · obtain ⟨x6, x7, bE, asE, L, rfl, e, hbE, hE, hL, sk⟩ := z
      have netE : IsNet ns (es.map (relen L)) := IsNet.relen net hL
      have lE : (es.map (relen L)).length = es.length := List.length_map _
      rw [Int.toNat_natCast, ← lE] at sk
      refine Evl.s_retU (Evl.eu_tup (vs := [.ref na, .ref bE]) (Evl.ea_cons (Evl.ev_var rfl) (Evl.ea_cons (Evl.ev_var rfl) Evl.ea_nil)) (by simp)) fun r H5 nr e5 hr => ?_
      have e35 := e.trans e5
      have b05 : But p H H5 := ((But.of e1).trans b3).trans (But.of e35)
      refine q r na bE ns asE (es.map (relen L)) H5 netE l0 l1 (by omega) ?_ b05 hr (e35 _ _ hna) (e5 _ _ hbE) (hE.tk (TK.ex e5)) (P3.ex e35) (cyc_all netE.ed sk.done)
      exact (((But.of e1).trans b3).trans (But.of e)).back ((P3.ex e).far nr).1 nr
end
end Lj

set_option maxHeartbeats 2000000
/-! a comprehension over a list of names: some of them, each with a tuple -/
namespace Lj
open PySem PySem.Spec PyProof.Rows L2 Lw
theorem lc_keepL {K : PySem.W.Frag} (F : Str → Bool) (f : Str → List V) {tl : TE} {t : TT} {σ : L2.St} {H : Hp} {te : TE} {j : Nat} {vs : List Nat} {l : Addr} {zs : List Str} {Q : VK} (h : Evl.Ev tl σ H (.ref l)) (hl : H l = some (.lst (zs.map V.str))) (lz : zs.length ≤ 2900000) (hw : ∀ x, wipe ((wipe σ vs).set j (some x)) vs = wipe σ vs)
    (ht : ∀ (z : Str) H2, Evl.Ex H H2 → z ∈ zs → Evl.EvT t ((wipe σ vs).set j (some (.str z))) H2 (F z))
    (hv : ∀ (z : Str) H2, Evl.Ex H H2 → z ∈ zs → F z = true → Evl.EvU te ((wipe σ vs).set j (some (.str z))) H2 (f z))
    (q : ∀ B ts H', H B = none → Evl.Ex H H' → H' B = some (.lst (ts.map V.ref)) → Paired (fun t z => H' t = some (.tup (f z))) ts (zs.filter F) → Q (.ref B) H') : tLc (iList K tl) (gName j) t te vs σ H Q := by
  refine h H (Evl.Ex.refl _) _ fun H1 e1 => ⟨l, rfl, ⟨_, Evl.sq_of (e1 _ _ hl)⟩, fun B hB => ?_⟩
  refine lc_list (K := K) (xs := zs.map V.str) (fun i H' => Evl.Ex H1 H' ∧ ∃ ts : List Addr, H' B = some (.lst (ts.map V.ref)) ∧ Paired (fun t z => H' t = some (.tup (f z))) ts ((zs.take i).filter F) ∧ ts.length ≤ i) ⟨Evl.Ex.new hB, [], upd_same, .nil, Nat.le_refl _⟩ (fun i H' _ ⟨e, _⟩ => Evl.ex_l e (Evl.sq_of (e1 _ _ hl))) (fun i x H' hx ⟨e, ts, hD, hp, lt⟩ => ⟨hw _, ?_⟩) (fun H' ⟨e, ts, hD, hp, lt⟩ => ?_)
  · rw [List.getElem?_map] at hx
    obtain ⟨z, hz, rfl⟩ := Option.map_eq_some_iff.mp hx
    have li : i < zs.length := (List.getElem?_eq_some_iff.mp hz).1
    have mz := List.mem_of_getElem? hz
    have tk : (zs.take (i + 1)).filter F = (zs.take i).filter F ++ (if F z = true then [z] else []) := by
      rw [List.take_add_one, hz, List.filter_append]
      show _ ++ List.filter _ [z] = _
      rw [List.filter_cons]
      rfl
    refine ht z H' (e1.trans e) mz H' (Evl.Ex.refl _) _ fun H3 e3 => ?_
    cases hF : F z with
    | true =>
      rw [hF, if_pos rfl] at tk
      refine ite2 (fun _ => ?_) (fun z => absurd rfl z)
      refine hv z H' (e1.trans e) mz hF H3 e3 _ fun t H4 nt e4 ht => ⟨_, e4 _ _ (e3 _ _ hD), by rw [List.length_map]; exact szZ (by omega), ((e.trans e3).trans e4).mut hB, ts ++ [t], by rw [upd_same, List.map_append]; rfl, ?_, by rw [List.length_append]; exact Nat.succ_le_succ lt⟩
      have k : TK H4 (upd H4 B (.lst (ts.map V.ref ++ [.ref t]))) := TK.put (.inr ⟨_, e4 _ _ (e3 _ _ hD)⟩)
      rw [tk]
      exact paired_snoc (paired_imp (fun t' g' z => k _ _ (e4 _ _ (e3 _ _ z))) hp) (k _ _ ht)
    | false =>
      rw [hF, if_neg (by decide), List.append_nil] at tk
      refine ite2 (fun z => absurd z (by decide)) (fun _ => ⟨e.trans e3, ts, e3 _ _ hD, ?_, Nat.le_succ_of_le lt⟩)
      rw [tk]
      exact paired_imp (fun t' g' z => e3 _ _ z) hp
  · rw [List.length_map, List.take_length] at hp
    exact q B ts H' (Evl.fresh_back e1 hB) (e1.trans e) hD hp
end Lj

set_option maxHeartbeats 1000000
/-! a local name that holds a class, called -/
namespace Lw
open PySem PySem.Spec PyProof.Rows L2
def tMakeV (i : Nat) (C : Addr) (sp : Sp) (dvs : List V) (E : XK) (t : TA) : TE := fun σ H Q => σ[i]? = some (some (.ref C)) ∧ tMake C sp dvs E t σ H Q
theorem pe_makeV {X : Cx} {CX : CXT} {k i : Nat} {f C : Addr} {fd : FuncData} {ps : List Str} {sp : Sp} {dvs : List V} {ds : List Value} {E : XK} {x : Str} {p pos : Pos} {e : Expr} {es : List Expr} {t : TA} (M : Mk X.K C f) (F : FnOk X.prog X.w X.K X.mg X.base CX k f fd ps sp) (hr : Room (k + 1) X.A) (hN : X.N[i]? = some x) (hv : Vis X.env.scope x)
    (hb : Binds X.K fd ps ds) (hd : Vals dvs ds) (hx : Passes CX X E) (ha : PA X (e :: es) t) (hdb : (x == ("__debug__" : Str)) = false := by decide) (hcd : (x == ("__classdict__" : Str)) = false := by decide)
    (he : starEach (e :: es) X.env = (false, eval e X.env) :: starEach es X.env := by rfl) (hpl : (backTo pos (starEach es X.env)).any (·.1) = false := by rfl) : PE X (.Call (.Name x p) (e :: es) [] pos) (tMakeV i C sp dvs E t) := by
  refine ⟨fun pins s σ H Q I h => ?_⟩
  obtain ⟨hs, ht⟩ := h
  refine wpAny_Call_Name_kw (thn ((pe_var (pos := p) hN hv hdb hcd).run pins s σ H (fun v H1 => v = .ref C ∧ H1 = H) I ⟨.ref C, hs, rfl, rfl⟩) fun u s1 ⟨v, H1, I1, r1, q1⟩ => ?_)
  obtain ⟨rfl, rfl⟩ := q1
  cases r1
  refine PySem.W.callWith_K (h₀ := X.base) I.ok.mod.kin M.kp (thn (ha.run pos pins s1 σ _ _ I1 ht) fun us s2 ⟨vs, H2, I2, r, q⟩ => ⟨I2.kIn, ?_⟩) he hpl
  exact run_make M F hr hb hd hx I2 r q
end Lw

set_option maxHeartbeats 1000000
/-! operators that a class of the program defines itself -/
namespace Lw
open PySem PySem.Spec PyProof.Rows L2
section
variable {X : Cx} {CX : CXT} {k : Nat} {f C : Addr} {fd : FuncData} {ps : List Str} {sp : Sp} {E : XK}
/-- the callee runs one level deeper (below a built-in) -/
theorem run_in1 {pins : List (Addr × Obj)} {σ : St} {H : Hp} {s : Shared} {Q : VK} {us : List Value} {vs : List V} (F : FnOk X.prog X.w X.K X.mg X.base CX k f fd ps sp) (hr : Room (k + 1) X.A) (hb : Binds X.K fd ps []) (hx : Passes CX X E)
    (I : Inv X pins σ H s) (r : Vals vs us) (h : sp vs H Q E) : wpAny (model X.prog X.w) X.A.in1 (call (.ref f) us) (EP X pins σ Q) X.xe s := by
  have hl : (us ++ []).length = ps.length := by rw [List.append_nil, ← r.length]; exact F.len _ _ _ _ h
  have hb' := hb s us I.kIn hl
  rw [List.append_nil] at hb'
  refine wpAny_call (codeAny_mono (F.run X.A.in1 X.stack s H ⟨us, []⟩ us vs Q E hr.in1 I.env0.in1 hb' r h) fun r s' hq => ?_)
  cases r with
  | error e => exact hx pins σ H s e s' I hq
  | ok fl =>
    cases fl with
    | ret u => exact I.after hq
    | next => exact False.elim hq
    | brk => exact False.elim hq
    | cont => exact False.elim hq
/-- a own== b, both of the class at C -/
def rOwn (C : Addr) (sp : Sp) (E : XK) : R2 := fun x y H Q => ∃ a b dx dy fs gs, x = .ref a ∧ y = .ref b ∧ H a = some (.ins C dx fs) ∧ H b = some (.ins C dy gs) ∧ sp [.ref a, .ref b] H (fun v H' => ∃ c, v = .bl c ∧ Q (.bl c) H') E
def rOwnNe (C : Addr) (sp : Sp) (E : XK) : R2 := fun x y H Q => ∃ a b dx dy fs gs, x = .ref a ∧ y = .ref b ∧ H a = some (.ins C dx fs) ∧ H b = some (.ins C dy gs) ∧ sp [.ref a, .ref b] H (fun v H' => ∃ c, v = .bl c ∧ Q (.bl (!c)) H') E
theorem op_ownEq (F : FnOk X.prog X.w X.K X.mg X.base CX k f fd ps sp) (hr : Room k X.A) (hs : PySem.W.findIn X.K (.ref C) "__eq__" = some (some (.ref f))) (hf : PySem.W.isFn X.K (.ref f) = true) (hb : Binds X.K fd ps []) (hx : Passes CX X E) : OpR X (compareOp .Eq) (rOwn C sp E) := by
  intro pins s σ H x y v u Q I rx ry h
  obtain ⟨a, b, dx, dy, fs, gs, rfl, rfl, ha, hb', hsp⟩ := h
  cases rx
  cases ry
  obtain ⟨mA, J, _⟩ := ins_get I.hok ha
  obtain ⟨mB, J', _⟩ := ins_get I.hok hb'
  obtain ⟨od, J, _⟩ := J.look
  obtain ⟨od', J', _⟩ := J'.look
  obtain ⟨m, hF⟩ := I.fr
  show wpAny (model X.prog X.w) X.A (richCompare .Eq (.ref a) (.ref b)) (EP X pins σ Q) X.xe s
  refine PySem.W.cmp_K (op := .Eq) (tb := .ref C) hr.units0 hF I.ok.mod.kin J J'.type (by simp [PySem.W.notFirst]) hs hf ?_
  refine wpAny_mono (run_fn (vs := [.ref a, .ref b]) (us := [.ref a, .ref b]) F hr hb .nil hx I (.cons rfl (.cons rfl .nil)) hsp) (fun r s' q => ?_) fun _ _ e => e
  obtain ⟨v, H', I', rv, c, rfl, q⟩ := q
  cases rv
  exact ⟨.bl c, H', I', rfl, q⟩
theorem ifBound_objNe {M : Model} {A : Around} {E : Value → Shared → Prop} {s : Shared} {K : PySem.W.Frag} {x C : Addr} {ox : Obj} {od : Option Obj} {args : List Value} {Q : Option Value → Shared → Prop} (XI : K.In s.heap) (I : PySem.W.InstAt s.heap x ox C od) (hs : PySem.W.findIn K (.ref C) "__ne__" = some (some (.builtin "object.__ne__")))
    (h : wpAny M A (call (.builtin "object.__ne__") (.ref x :: args)) (fun v => Q (some v)) E s) : wpAny M A (callSpecialIfBound? (.ref x) "__ne__" args) Q E s := by
  simp only [callSpecialIfBound?, bindSpecialIfBound?]
  refine wpAny_holding (wpAny_bind (wpAny_bind (wpAny_bind (I.type.here ((PySem.W.looks_findIn XI hs).here ?_)))))
  refine wpAny_bind (wpAny_askSetting (wpAny_ite ?_))
  have fin : wpAny M A (call (.builtin "object.__ne__") ([.ref x] ++ args) >>= fun v => pure (some v)) Q E s := wpAny_bind (wpAny_mono h (fun v s' h' => wpAny_pure h') fun _ _ h' => h')
  split
  · exact wpAny_bind (wpAny_of_eq (F.cmp_object.ne.bind _) (wpAny_pure (by exact fin)))
  · exact wpAny_tryCatch (wpAny_bind (wpAny_of_eq (F.cmp_object.ne.bind _) (wpAny_pure (by exact fin))))
theorem op_ownNe (F : FnOk X.prog X.w X.K X.mg X.base CX k f fd ps sp) (hr : Room (k + 1) X.A) (hs : PySem.W.findIn X.K (.ref C) "__eq__" = some (some (.ref f))) (hn : PySem.W.findIn X.K (.ref C) "__ne__" = some (some (.builtin "object.__ne__"))) (hm : PySem.W.mroIn X.K C (.type "object") = some true)
    (hf : PySem.W.isFn X.K (.ref f) = true) (hb : Binds X.K fd ps []) (hx : Passes CX X E) : OpR X (compareOp .NotEq) (rOwnNe C sp E) := by
  intro pins s σ H x y v u Q I rx ry h
  obtain ⟨a, b, dx, dy, fs, gs, rfl, rfl, ha, hb', hsp⟩ := h
  cases rx
  cases ry
  obtain ⟨mA, J, _⟩ := ins_get I.hok ha
  obtain ⟨mB, J', _⟩ := ins_get I.hok hb'
  obtain ⟨od, J, _⟩ := J.look
  obtain ⟨od', J', _⟩ := J'.look
  have hu := hr.units0
  have hu1 : X.A.in1.units < cLine := hr.in1.units0
  show wpAny (model X.prog X.w) X.A (richCompare .NotEq (.ref a) (.ref b)) (EP X pins σ Q) X.xe s
  have entry : wpAny (model X.prog X.w) X.A.in1 (Builtin.«object.__ne__» ⟨[.ref a, .ref b], []⟩) (fun fin s' => ∃ v, fin = .done (.ret v) ∧ EP X pins σ Q v s' ∧ ∃ c, v = .bool c) X.xe s := by
    unfold Builtin.«object.__ne__»
    refine wpAny_bind (m := slotArgs "__ne__" 1 _) (wpAny_pure ?_)
    refine wpAny_bind (wpAny_cRoomFor hu1 ?_)
    refine wpAny_bind (m := callSpecialIfBound? (.ref a) (Str.ofString "__eq__") [.ref b]) (PySem.W.ifBound_K I.kIn J hs hf ?_)
    refine wpAny_mono (run_in1 (vs := [.ref a, .ref b]) (us := [.ref a, .ref b]) F hr hb hx I (.cons rfl (.cons rfl .nil)) hsp) (fun r s' q => ?_) fun _ _ e => e
    obtain ⟨v, H', I', rv, c, rfl, q⟩ := q
    cases rv
    refine wpAny_bind (wpAny_truthy_bool ?_)
    exact wpAny_pure ⟨_, rfl, ⟨.bl (!c), H', I', rfl, q⟩, _, rfl⟩
  have one : wpAny (model X.prog X.w) X.A (tryCompare (.ref a) "__ne__" (.ref b)) (fun r s' => ∃ v, r = some v ∧ EP X pins σ Q v s') X.xe s := by
    unfold tryCompare
    refine wpAny_bind (ifBound_objNe I.kIn J hn (wpAny_call (codeAny_call_builtin PySem.F.cmp_object.ne.plain PySem.F.cmpEntry_ne (PySem.W.check_slot PySem.F.cmpKind_ne PySem.F.cmpSplit_ne (J.type.andThen (PySem.W.looks_mroIn I.kIn hm)) (PySem.F.cmpArgs_ne _ _) ?_))))
    refine wpAny_mono entry (fun fin s' q => ?_) fun _ _ e => e
    obtain ⟨v, rfl, q, c, rfl⟩ := q
    exact wpAny_pure ⟨_, rfl, q⟩
  unfold richCompare
  simp only [oneThing_ref]
  refine wpAny_holding (wpAny_bind (wpAny_cRoomFor hu ?_))
  rw [cmpInfo_NotEq]
  dsimp only
  refine wpAny_bind (J.type.here (wpAny_bind (J'.type.here ?_)))
  rw [show (Value.ref C != Value.ref C) = false from by simp]
  simp only [Bool.false_eq_true, if_false]
  refine wpAny_bind (wpAny_pure ?_)
  simp only [Bool.false_eq_true, if_false]
  refine wpAny_bind (wpAny_mono one (fun r s' z => ?_) fun _ _ e => e)
  obtain ⟨v, rfl, hq⟩ := z
  exact wpAny_pure hq
end
end Lw

set_option maxHeartbeats 1000000
/-! binary operators, in, [ ], len and truth that a class of the program defines itself -/
namespace Lw
open PySem PySem.Spec PyProof.Rows L2
section
variable {X : Cx} {CX : CXT} {k : Nat} {f C : Addr} {fd : FuncData} {ps : List Str} {sp : Sp} {E : XK}
/-- a op b, both of the class at C, a new object -/
def rOwnBin (C : Addr) (sp : Sp) (E : XK) : R2 := fun x y H Q => ∃ a b dx dy fs gs, x = .ref a ∧ y = .ref b ∧ H a = some (.ins C dx fs) ∧ H b = some (.ins C dy gs) ∧ sp [.ref a, .ref b] H (fun v H' => ∃ t, v = .ref t ∧ Q (.ref t) H') E
theorem op_ownBin {op : Operator} (F : FnOk X.prog X.w X.K X.mg X.base CX k f fd ps sp) (hr : Room k X.A) (hc : PySem.W.selfFirst X.K C = true) (hs : PySem.W.findIn X.K (.ref C) (PySem.dunder op.info.2) = some (some (.ref f))) (hf : PySem.W.isFn X.K (.ref f) = true) (hb : Binds X.K fd ps []) (hx : Passes CX X E) :
    OpR X (binaryOp op) (rOwnBin C sp E) := by
  intro pins s σ H x y v u Q I rx ry h
  obtain ⟨a, b, dx, dy, fs, gs, rfl, rfl, ha, hb', hsp⟩ := h
  cases rx
  cases ry
  obtain ⟨mA, J, _⟩ := ins_get I.hok ha
  obtain ⟨mB, J', _⟩ := ins_get I.hok hb'
  obtain ⟨od, J, _⟩ := J.look
  obtain ⟨od', J', _⟩ := J'.look
  obtain ⟨m, hF⟩ := I.fr
  refine PySem.W.binop_K hF I.ok.mod.kin J J'.type hc hs hf ?_
  refine wpAny_mono (run_fn (vs := [.ref a, .ref b]) (us := [.ref a, .ref b]) F hr hb .nil hx I (.cons rfl (.cons rfl .nil)) hsp) (fun r s' q => ?_) fun _ _ e => e
  obtain ⟨v, H', I', rv, t, rfl, q⟩ := q
  cases rv
  exact ⟨.ref t, H', I', rfl, q⟩
/-- v in b, v not in b, b of the class at C -/
def rOwnIn (C : Addr) (sp : Sp) (E : XK) (g : Bool → Bool) : R2 := fun x y H Q => ∃ b dy gs, y = .ref b ∧ H b = some (.ins C dy gs) ∧ sp [.ref b, x] H (fun v H' => ∃ c, v = .bl c ∧ Q (.bl (g c)) H') E
theorem op_ownNotIn (F : FnOk X.prog X.w X.K X.mg X.base CX k f fd ps sp) (hr : Room k X.A) (hs : PySem.W.findIn X.K (.ref C) "__contains__" = some (some (.ref f))) (hf : PySem.W.isFn X.K (.ref f) = true) (hb : Binds X.K fd ps []) (hx : Passes CX X E) :
    OpR X (compareOp .NotIn) (rOwnIn C sp E fun c => !c) := by
  intro pins s σ H x y v u Q I rx ry h
  obtain ⟨b, dy, gs, rfl, hb', hsp⟩ := h
  cases ry
  obtain ⟨mB, J', _⟩ := ins_get I.hok hb'
  obtain ⟨od', J', _⟩ := J'.look
  obtain ⟨m, hF⟩ := I.fr
  refine PySem.W.notIn_K hF I.ok.mod.kin J' hs hf ?_
  refine wpAny_mono (run_fn (vs := [.ref b, x]) (us := [.ref b, v]) F hr hb .nil hx I (.cons rfl (.cons rx .nil)) hsp) (fun r s' q => ?_) fun _ _ e => e
  obtain ⟨v, H', I', rv, c, rfl, q⟩ := q
  cases rv
  exact wpAny_truthy_bool ⟨.bl (!c), H', I', rfl, q⟩
/-- a[e], a of the class at C -/
def rOwnSub (C : Addr) (sp : Sp) (E : XK) : R2 := fun x y H Q => ∃ a dx fs, x = .ref a ∧ H a = some (.ins C dx fs) ∧ sp [.ref a, y] H Q E
theorem pe_ownSub {a b : Expr} {ta tb : TE} {pos : Pos} (F : FnOk X.prog X.w X.K X.mg X.base CX k f fd ps sp) (hr : Room (k + 1) X.A) (hs : PySem.W.findIn X.K (.ref C) "__getitem__" = some (some (.ref f))) (hfn : PySem.W.fnIn X.K f = true) (hf : PySem.W.isFn X.K (.ref f) = true) (hb : Binds X.K fd ps []) (hx : Passes CX X E)
    (ha : PE X a ta) (he : PE X b tb) (hsl : ∀ x i, subscripted b true (.ref x) i = runValue (.builtin "lifetime.subscript" ⟨[.ref x, i], []⟩)) : PE X (.Subscript a b pos) (tOp (rOwnSub C sp E) ta tb) := by
  refine ⟨fun pins s σ H Q I h => ?_⟩
  refine Subscript_ (binT ha he I h fun v u s2 x y H2 I2 rx ry q => ?_)
  obtain ⟨a, dx, fs, rfl, ha, hsp⟩ := q
  cases rx
  obtain ⟨mA, J, _⟩ := ins_get I2.hok ha
  obtain ⟨od, J, _⟩ := J.look
  obtain ⟨m, hF⟩ := I2.fr
  exact PySem.W.sub_K hF I2.ok.mod.kin J hs hfn hf (run_in1 (vs := [.ref a, y]) (us := [.ref a, u]) F hr hb hx I2 (.cons rfl (.cons ry .nil)) hsp) (hsl _ _)
/-- len(a), a of the class at C -/
def rOwnLen (C : Addr) (sp : Sp) (E : XK) : List V → Hp → VK → Prop := fun xs H Q => ∃ a dx fs, xs = [.ref a] ∧ H a = some (.ins C dx fs) ∧ sp [.ref a] H (fun v H' => ∃ n : Int, v = .int n ∧ 0 ≤ n ∧ n < 2 ^ 63 ∧ Q (.int n) H') E
theorem cr_ownLen (F : FnOk X.prog X.w X.K X.mg X.base CX k f fd ps sp) (hr : Room (k + 1) X.A) (hs : PySem.W.findIn X.K (.ref C) "__len__" = some (some (.ref f))) (hf : PySem.W.isFn X.K (.ref f) = true) (hb : Binds X.K fd ps []) (hx : Passes CX X E) : CallR X (.builtin "len") (rOwnLen C sp E) := by
  intro pins s σ H xs us Q I r h
  obtain ⟨a, dx, fs, rfl, ha, hsp⟩ := h
  obtain rfl := Vals.ref1 r
  obtain ⟨mA, J, _⟩ := ins_get I.hok ha
  obtain ⟨od, J, _⟩ := J.look
  obtain ⟨m, hF⟩ := I.fr
  refine PySem.W.len_K hF I.ok.mod.kin J hs hf ?_
  refine wpAny_mono (run_in1 (vs := [.ref a]) (us := [.ref a]) F hr hb hx I (.cons rfl .nil) hsp) (fun r s' q => ?_) fun _ _ e => e
  obtain ⟨v, H', I', rv, n, rfl, n0, n1, q⟩ := q
  obtain ⟨t, rfl⟩ := rv
  exact ⟨⟨n0, n1⟩, .int n, H', I'.tok _, ⟨_, rfl⟩, q⟩
/-- truth by an own len, no own truth -/
def rOwnTru (C : Addr) (sp : Sp) (E : XK) : V → Hp → (Bool → Hp → Prop) → Prop := fun x H Q => ∃ a dx fs, x = .ref a ∧ H a = some (.ins C dx fs) ∧ sp [.ref a] H (fun v H' => ∃ n : Int, v = .int n ∧ 0 ≤ n ∧ n < 2 ^ 63 ∧ Q (n != 0) H') E
/-- the callee at any place -/
theorem run_A {A : Around} {pins : List (Addr × Obj)} {σ : St} {H : Hp} {s : Shared} {Q : VK} {us : List Value} {vs : List V} (F : FnOk X.prog X.w X.K X.mg X.base CX k f fd ps sp) (hr : Room k A) (e0 : Env0 X.prog X.w X.K X.mg X.base A X.stack s H) (hb : Binds X.K fd ps []) (hx : Passes CX X E)
    (I : Inv X pins σ H s) (r : Vals vs us) (h : sp vs H Q E) : wpAny (model X.prog X.w) A (call (.ref f) us) (EP X pins σ Q) X.xe s := by
  have hl : (us ++ []).length = ps.length := by rw [List.append_nil, ← r.length]; exact F.len _ _ _ _ h
  have hb' := hb s us I.kIn hl
  rw [List.append_nil] at hb'
  refine wpAny_call (codeAny_mono (F.run A X.stack s H ⟨us, []⟩ us vs Q E hr e0 hb' r h) fun r s' hq => ?_)
  cases r with
  | error e => exact hx pins σ H s e s' I hq
  | ok fl =>
    cases fl with
    | ret u => exact I.after hq
    | next => exact False.elim hq
    | brk => exact False.elim hq
    | cont => exact False.elim hq
theorem tru_A {A : Around} {pins : List (Addr × Obj)} {s : Shared} {σ : St} {H : Hp} {x : V} {v : Value} {Q : Bool → Hp → Prop} (F : FnOk X.prog X.w X.K X.mg X.base CX k f fd ps sp) (hr : Room k A.in1) (e0 : Env0 X.prog X.w X.K X.mg X.base A.in1 X.stack s H)
    (hs : PySem.W.findIn X.K (.ref C) "__len__" = some (some (.ref f))) (hn : PySem.W.findIn X.K (.ref C) "__bool__" = some none) (hf : PySem.W.isFn X.K (.ref f) = true) (hb : Binds X.K fd ps []) (hx : Passes CX X E) (I : Inv X pins σ H s) (rx : RelV x v) (h : rOwnTru C sp E x H Q) :
    wpAny (model X.prog X.w) A (truthy v) (TP X pins σ Q) X.xe s := by
  obtain ⟨a, dx, fs, rfl, ha, hsp⟩ := h
  cases rx
  obtain ⟨mA, J, _⟩ := ins_get I.hok ha
  obtain ⟨od, J, _⟩ := J.look
  obtain ⟨m, hF⟩ := I.fr
  have XK := I.ok.mod.kin.keeps hF.keep
  unfold truthy
  refine wpAny_bind (m := callSpecial? (.ref a) (Str.ofString "__bool__")) (wpAny_bind (wpAny_bind (J.type.here ((PySem.W.looks_findIn XK hn).here (wpAny_pure ?_)))))
  refine wpAny_bind (wpAny_bind (J.type.here ((PySem.W.looks_findIn XK hs).here ?_)))
  rw [if_neg (by simp)]
  refine wpAny_bind (wpAny_runValue (codeAny_builtin entry_len ?_))
  rw [Around.under_plainId plain_len _]
  unfold Builtin.«len»
  refine wpAny_bind (m := oneArg "len" _) (wpAny_pure ?_)
  refine wpAny_bind (m := callSpecial? (.ref a) (Str.ofString "__len__")) (PySem.W.special_fn XK J hs (beq_iff_eq.mp hf) ?_)
  refine wpAny_mono (run_A (vs := [.ref a]) (us := [.ref a]) F hr e0 hb hx I (.cons rfl .nil) hsp) (fun r s' q => ?_) fun _ _ e => e
  obtain ⟨v, H', I', rv, n, rfl, n0, n1, q⟩ := q
  obtain ⟨t, rfl⟩ := rv
  refine wpAny_bind (wpAny_holding (wpAny_pure ?_))
  refine wpAny_bind (wpAny_letGo ?_)
  show wpAny _ _ (if n < 0 then _ else _) _ _ _
  rw [if_neg (by omega)]
  show wpAny _ _ (if n ≥ 2 ^ 63 then _ else _) _ _ _
  rw [if_neg (by omega)]
  refine wpAny_bind (wpAny_mkInt (wpAny_pure ?_))
  exact wpAny_pure ⟨H', I'.tok _, q⟩
theorem tru_own (F : FnOk X.prog X.w X.K X.mg X.base CX k f fd ps sp) (hr : Room (k + 1) X.A) (hs : PySem.W.findIn X.K (.ref C) "__len__" = some (some (.ref f))) (hn : PySem.W.findIn X.K (.ref C) "__bool__" = some none) (hf : PySem.W.isFn X.K (.ref f) = true) (hb : Binds X.K fd ps []) (hx : Passes CX X E) : TruR X (rOwnTru C sp E) :=
  fun pins s σ H x v Q I rx h => tru_A F hr.in1 I.env0.in1 hs hn hf hb hx I rx h
theorem bool_new (x : Addr) (prog : Program) (w : World) : MeetsIn prog w (Builtin.«bool.__new__» ⟨[.type "bool", .ref x], []⟩) (fun A R s => wpAny (model prog w) A.in1 (truthy (.ref x)) (fun b s' => R (.ok (.ret (.bool b))) s') (fun e s' => R (.error e) s') s) := fun A R s h => by
  obtain ⟨hp, g, d, tk, os⟩ := s
  have f1 := F.conv_sub_bool
  unfold Builtin.«bool.__new__»
  generalize ht : truthy = T at h ⊢
  repeat (any_goals (first | assumption | wp_step))
  exact wpAny_mono h (fun b s' z => wpAny_pure z) fun _ _ z => z
theorem cr_ownBool (F : FnOk X.prog X.w X.K X.mg X.base CX k f fd ps sp) (hr : Room (k + 3) X.A) (hs : PySem.W.findIn X.K (.ref C) "__len__" = some (some (.ref f))) (hn : PySem.W.findIn X.K (.ref C) "__bool__" = some none) (hf : PySem.W.isFn X.K (.ref f) = true) (hb : Binds X.K fd ps []) (hx : Passes CX X E) :
    CallR X (.type "bool") (fun xs H Q => ∃ x, xs = [x] ∧ rOwnTru C sp E x H fun c H' => Q (.bl c) H') := by
  intro pins s σ H xs us Q I r h
  obtain ⟨x, rfl, h⟩ := h
  have h' := h
  obtain ⟨a, dx, fs, rfl, ha, hsp⟩ := h'
  obtain rfl := Vals.ref1 r
  refine callType_newIn PySem.F.called_bool PySem.F.newNe_bool (PySem.F.typeCall_bool_1 (.ref a)) (PySem.F.newCall_bool_1 (.ref a)) (fun obj => PySem.F.args_object_init_2 obj (.ref a)) PySem.F.entry_bool_new (bool_new a X.prog X.w) ?_
  exact wpAny_mono (tru_A F hr.in1.in1.in1 I.env0.in1.in1.in1 hs hn hf hb hx I (x := .ref a) rfl h) (fun c s' ⟨H', I', q⟩ => ⟨PySem.typeIs_bool _ _, .bl c, H', I', rfl, q⟩) fun _ _ z => z
/-- not a -/
theorem pe_ownNot {a : Expr} {ta : TE} {pos : Pos} {r : V → Hp → (Bool → Hp → Prop) → Prop} (ht : TruR X r) (ha : PE X a ta) : PE X (.UnaryOp .Not a pos) (fun σ H Q => ta σ H fun x H1 => r x H1 fun c H2 => Q (.bl (!c)) H2) := by
  refine ⟨fun pins s σ H Q I h => ?_⟩
  refine UnaryOp_ (thn (ha.run pins s σ H _ I h) fun v s1 ⟨x, H1, I1, r1, q1⟩ => ?_)
  exact not_of (thn (ht pins s1 σ H1 x v (fun c H2 => Q (.bl (!c)) H2) I1 r1 q1) fun c s2 ⟨H2, I2, q2⟩ => ⟨.bl (!c), H2, I2, rfl, q2⟩)
end
end Lw

set_option maxHeartbeats 1000000
/-! staticmethods called through the class; instances made with starred arguments -/
namespace Lw
open PySem PySem.Spec PyProof.Rows L2 ClX StX
/-- a staticmethod m of the class at C, its def at g -/
structure SMet (K : PySem.W.Frag) (C : Addr) (mc : Value) (m : Str) (p g : Addr) : Prop where
  at_ : PySem.W.findCls K (.ref C) mc m = some (.get (.builtin "staticmethod.__get__") (.ref p) .none (.ref C))
  rc : ∃ rest, PySem.W.recIn K p "staticmethod" = some (.ref g :: rest)
  hd : PySem.W.handedIn (.ref g) = true
  kp : PySem.W.keepIn K (.ref g) = true
/-- e.m(..), e the class at C, m a staticmethod -/
def tSMeth (C : Addr) (sp : Sp) (E : XK) (ta : TE) (t : TA) : TE := fun σ H Q => ta σ H fun x H1 => x = .ref C ∧ t σ H1 fun vs H2 => sp vs H2 Q E
section
variable {X : Cx} {CX : CXT} {k : Nat} {C p g f : Addr} {mc : Value} {sp : Sp} {E : XK} {o e : Expr} {es : List Expr} {m x : Str} {pos apos p0 : Pos} {ta : TE} {t : TA} {pl : Sem Bool}
theorem pe_smeth (he : PE X o ta) (r : CRead X.K C mc) (c : SMet X.K C mc m p g) (F : FnR X.prog X.w X.K X.mg X.base CX k g sp) (hr : Room k X.A) (hx : Passes CX X E) (ha : PA X (e :: es) t)
    (hst : starEach (e :: es) X.env = (false, eval e X.env) :: starEach es X.env := by rfl) (hpl : (backTo pos (starEach es X.env)).any (·.1) = false := by rfl)
    (ht : eval (.Call (.Attribute o m apos) (e :: es) [] pos) X.env = (do
      let ov ← eval o X.env
      standAt apos.atName
      let (f, first) ← holding [ov] (getMethod ov m pl)
      callWith pos f first (backTo pos (starEach (e :: es) X.env)) (backToKw pos (keywordEach [] X.env))) := by rfl) :
    PE X (.Call (.Attribute o m apos) (e :: es) [] pos) (tSMeth C sp E ta t) := by
  refine ⟨fun pins s σ H Q I h => ?_⟩
  refine PySem.W.methodCall_KW (pl := pl) (thn (he.run pins s σ H _ I h) fun u s1 ⟨x, H1, I1, rx, ex, q⟩ => ?_) ht
  subst ex
  obtain rfl : u = Value.ref C := rx
  obtain ⟨rest, hp⟩ := c.rc
  refine PySem.W.method_cls I1.kIn r.ga (PySem.W.cls_bind I1.kIn r.rd c.at_ (wpAny_call (PySem.W.sm_get (s := { s1 with toks := s1.toks + 1 }) I1.kIn hp (PySem.W.handed_on c.hd ?_))))
  have I2 : Inv X pins σ H1 { s1 with toks := s1.toks + 1 } := I1.tok _
  refine PySem.W.callWith_K (h₀ := X.base) I2.ok.mod.kin c.kp (thn (ha.run pos pins _ σ H1 _ I2 q) fun us s3 ⟨vs, H2, I3, rv, q2⟩ => ⟨I3.kIn, ?_⟩) hst hpl
  exact wpAny_call (run_fnR F hr hx I3 rv q2)
/-- C(e, .., *y) -/
theorem pe_makeS (M : Mk X.K C f) (F : FnR X.prog X.w X.K X.mg X.base CX k f sp) (hr : Room (k + 1) X.A) (hg : Gl X x) (hm : X.mg x = some (.ref C)) (hx : Passes CX X E) (ha : PA X (e :: es) t) (hd : (x == ("__debug__" : Str)) = false := by decide)
    (he : starEach (e :: es) X.env = (false, eval e X.env) :: starEach es X.env := by rfl) (hst : (backTo pos (starEach es X.env)).any (·.1) = true := by rfl) : PE X (.Call (.Name x p0) (e :: es) [] pos) (tMakeR C sp E t) := by
  refine ⟨fun pins s σ H Q I h => ?_⟩
  refine wpAny_Call_Name_kw (ld_glob I hg hm ?_ hd)
  refine PySem.W.callWith_S2 (h₀ := X.base) I.ok.mod.kin M.kp (thn (ha.run pos pins s σ H _ I h) fun us s1 ⟨vs, H1, I1, r, q⟩ => ⟨I1.kIn, ?_⟩) he hst
  exact run_makeR M F hr hx I1 r q
end
end Lw

set_option maxHeartbeats 2000000
namespace Lw
open PySem PySem.Spec PyProof.Rows L2
open Evl (EvL EvA EvT RC)
abbrev nm_sum_of_lengths : List Str := ["edges", "edge"]
theorem sc_sum_of_lengths : FnScope nm_sum_of_lengths ["edges"] (defScope (top 13)) := ⟨rfl, rfl, rfl, by decide +kernel, rfl, by decide +kernel, by decide +kernel⟩
abbrev nm_Network___contains__ : List Str := ["self", "value"]
theorem sc_Network___contains__ : FnScope nm_Network___contains__ ["self", "value"] (defScope (inClass (top 59) 13)) := ⟨rfl, rfl, rfl, by decide +kernel, rfl, by decide +kernel, by decide +kernel⟩
abbrev nm_Network___getitem__ : List Str := ["self", "name"]
theorem sc_Network___getitem__ : FnScope nm_Network___getitem__ ["self", "name"] (defScope (inClass (top 59) 14)) := ⟨rfl, rfl, rfl, by decide +kernel, rfl, by decide +kernel, by decide +kernel⟩
abbrev nm_check_known_edge : List Str := ["network", "value"]
theorem sc_check_known_edge : FnScope nm_check_known_edge ["network", "value"] (defScope (top 35)) := ⟨rfl, rfl, rfl, by decide +kernel, rfl, by decide +kernel, by decide +kernel⟩
section
variable {K : PySem.W.Frag} {C : Addr} {sp : Sp} {E : XK} {H : Hp}
theorem rv_ownIn {b dy : Addr} {gs : List (Str × V)} {x : V} {c : Bool} {g : Bool → Bool} (hb : H b = some (.ins C dy gs)) (h : Evl.SpV sp [.ref b, x] H (.bl c)) : Evl.RV (rOwnIn C sp E g) x (.ref b) H (.bl (g c)) := fun H1 e Q q =>
  ⟨b, dy, gs, rfl, e _ _ hb, h H1 e _ (fun H2 e2 => ⟨c, rfl, q H2 e2⟩) E⟩
theorem rv_ownSub {a dx : Addr} {fs : List (Str × V)} {y z : V} (ha : H a = some (.ins C dx fs)) (h : Evl.SpV sp [.ref a, y] H z) : Evl.RV (rOwnSub C sp E) (.ref a) y H z := fun H1 e Q q =>
  ⟨a, dx, fs, rfl, e _ _ ha, h H1 e _ q E⟩
end
section
variable {P : Program} {w : World} {K : PySem.W.Frag} {mg : Str → Option Value} {base : Heap} {C : Addr}
def spSumOf : Sp := fun vs H Q _ => ∃ (r : Addr) (bs : List Addr) (es : List Eg), vs = [V.ref r] ∧ H r = some (.tup (bs.map V.ref)) ∧ EgsAt H bs es ∧ es.length ≤ 200 ∧ ∀ H', Evl.Ex H H' → Q (.int (es.map (·.2.2.2)).sum) H'
theorem ok_sumOf {f : Addr} {fd : FuncData} {k : Nat} (F : Fun K "sum_of_lengths" "sum_of_lengths" (top 13) f fd) (T : Bs mg bl) : FnOk P w K mg base CX0 (k + 1) f fd ["edges"] spSumOf := by
  refine F.ok sc_sum_of_lengths (fun vs H Q E h => ?_) (fun cdv A outer s H vs Q E hr h => ?_)
  · obtain ⟨r, bs, es, rfl, _⟩ := h
    rfl
  · obtain ⟨r, bs, es, rfl, hr1, hb, le, q⟩ := h
    refine ⟨_, (pss_one (ps_ret (pe_callB (cr_sum rfl) (by rfl) (T.b "sum" (by decide)) (by decide +kernel) (pa_cons (pe_lc (own := [("edge", 1)]) (g := (gName 1)) (tt := tYes) (te := (tOp (rIxT K) (tVar 1) (tC (.int 3)))) rfl sc_sum_of_lengths.nd (pi_tup (pv 0)) (blkOk_by (N := nm_sum_of_lengths) (sc := defScope (top 13)) (by decide +kernel)) (fun _ _ _ _ _ => pg_name (i := 1) sc_sum_of_lengths.nd rfl (Or.inl rfl)) (fun _ _ _ _ _ => pts_nil) (fun _ _ _ _ _ => (pe_ix ix_tup (pv 1) pe_int (fun _ _ => rfl)))) pa_nil)))), ?_⟩
    refine ⟨.ref r, rfl, r, rfl, ⟨_, Evl.st_of hr1⟩, fun D nD => ?_⟩
    refine lc_tup (K := K) (xs := bs.map V.ref) (fun i H' => Evl.Ex H H' ∧ H' D = some (.lst (((es.take i).map (·.2.2.2)).map V.int))) ⟨Evl.Ex.new nD, upd_same⟩ (fun i H' _ ⟨e, _⟩ => Evl.ex_t e (Evl.st_of hr1)) (fun i y H' hy ⟨e, hD⟩ => ⟨rfl, ?_⟩) (fun H' ⟨e, hD⟩ => ?_)
    · rw [List.getElem?_map] at hy
      obtain ⟨a', ha', rfl⟩ := Option.map_eq_some_iff.mp hy
      obtain ⟨g, hgi, hag⟩ := egs_get hb ha'
      have li : i < es.length := (List.getElem?_eq_some_iff.mp hgi).1
      refine ⟨.ref a', rfl, a', egV g, 3, .int g.2.2.2, rfl, rfl, .inl (.inl (e _ _ hag)), rfl, _, hD, ?_, e.mut nD, ?_⟩
      · rw [List.length_map, List.length_map, List.length_take]
        exact Evl.sz_lt (by omega)
      · rw [upd_same, List.take_add_one, hgi, List.map_append, List.map_append]
        rfl
    · rw [List.length_map, hb.len, List.take_length] at hD
      exact ⟨D, _, rfl, Evl.sq_of hD, q H' e⟩
/-- value in network, of a name of an edge -/
def spNetHas (C : Addr) : Sp := fun vs H Q _ => ∃ (x : Addr) (ns : List Str) (es : List Eg) (n : Str), vs = [V.ref x, .str n] ∧ NetAt C H x ns es ∧ n ∈ es.map (·.1) ∧ es.length ≤ 200 ∧ ∀ H', Evl.Ex H H' → Q (.bl true) H'
theorem ok_netHas {f : Addr} {fd : FuncData} {k : Nat} (F : Fun K "__contains__" "Network.__contains__" (inClass (top 59) 13) f fd) (T : Bs mg bl) (N : NwT K C) (kss : PySem.W.kitOne K (.type "str") (.type "str") = some true) : FnOk P w K mg base CX0 (k + 1) f fd ["self", "value"] (spNetHas C) := by
  refine F.ok sc_Network___contains__ (fun vs H Q E h => ?_) (fun cdv A outer s H vs Q E hr h => ?_)
  · obtain ⟨x, ns, es, n, rfl, _⟩ := h
    rfl
  · obtain ⟨x, ns, es, n, rfl, ⟨dx, t, r, d, bs, h1, h2, h3, h4, h5⟩, hn, le, q⟩ := h
    refine ⟨_, (pss_one (ps_ret (pe_and (pe_callB call_isi (by rfl) (T.b "isinstance" (by decide)) (by decide +kernel) (pa_cons (pv 1) (pa_cons (pe_bltn (v := .ty "str") (by rfl) (T.b "str" (by decide)) (by decide +kernel) rfl) pa_nil))) (pe_one (pe_cmp (pc_din (hu_of hr) (pv 1) (pe_fld (pv 0) rfl))))))), ?_⟩
    obtain ⟨e, a, he, en, ham, hae, hv⟩ := edKv_get h4 hn
    refine Evl.s_ret (Evl.ev_is (Evl.ev_andV (a := true) (ev_isi (.base (.str n)) kss (Evl.ev_var rfl)) fun _ => (fun H1 e1 Q1 q1 => ?_ : Evl.Ev _ _ _ (.bl true))) rfl) fun H1 e1 => q H1 e1
    exact ⟨.str n, rfl, .ref x, rfl, x, C, dx, _, .ref d, rfl, e1 _ _ h1, N.cl, N.n3, nw_names _ _ _, d, some (.ref a), rfl, .inl ⟨_, Sum.inr n, .inl (e1 _ _ h5), rfl, hv.symm⟩, q1 _ (Evl.Ex.refl _)⟩
/-- the name of an edge passes -/
def spKnown (C : Addr) : Sp := fun vs H Q _ => ∃ (x : Addr) (ns : List Str) (es : List Eg) (n : Str), vs = [V.ref x, .str n] ∧ NetAt C H x ns es ∧ n ∈ es.map (·.1) ∧ es.length ≤ 200 ∧ ∀ H', Evl.Ex H H' → Q .non H'
theorem ok_known {f fH : Addr} {fd dH : FuncData} {k : Nat} (F : Fun K "check_known_edge" "check_known_edge" (top 35) f fd) (T : Bs mg bl) (F_Network_contains : FnOk P w K mg base CX0 k fH dH ["self", "value"] (spNetHas C)) (q_Network_contains : PySem.W.findIn K (.ref C) "__contains__" = some (some (.ref fH))) (i_Network_contains : PySem.W.isFn K (.ref fH) = true) (b_Network_contains : Binds K dH ["self", "value"] []) :
    FnOk P w K mg base CX0 (k + 1) f fd ["network", "value"] (spKnown C) := by
  refine F.ok sc_check_known_edge (fun vs H Q E h => ?_) (fun cdv A outer s H vs Q E hr h => ?_)
  · obtain ⟨x, ns, es, n, rfl, _⟩ := h
    rfl
  · obtain ⟨x, ns, es, n, rfl, hN, hn, le, q⟩ := h
    refine ⟨_, (pss_one (ps_if (pt_cmpR (op_ownNotIn F_Network_contains (hr.mono (by omega)) q_Network_contains i_Network_contains b_Network_contains pass0) (pv 1) (pv 0) rfl) (pss_one ps_never) pss_nil)), ?_⟩
    obtain ⟨dx, t, r, d, bs, h1, h2, h3, h4, h5⟩ := id hN
    exact Evl.s_when (b := false) (Evl.et_test (Evl.ev_op (Evl.ev_var rfl) (Evl.ev_var rfl) (rv_ownIn (c := true) h1 fun H1 e1 Q1 q1 E1 => ⟨x, ns, es, n, rfl, hN.ex e1, hn, le, q1⟩))) (fun z => nomatch z) fun _ H1 e1 => q H1 e1
/-- network[name] -/
def spNetGet (C : Addr) : Sp := fun vs H Q _ => ∃ (x : Addr) (ns : List Str) (es : List Eg) (n : Str), vs = [V.ref x, .str n] ∧ NetAt C H x ns es ∧ n ∈ es.map (·.1) ∧ es.length ≤ 200 ∧ ∀ a e H', Evl.Ex H H' → e ∈ es → e.1 = n → H a = some (.tup (egV e)) → Q (.ref a) H'
theorem ok_netGet {f fK : Addr} {fd dK : FuncData} {k : Nat} (F : Fun K "__getitem__" "Network.__getitem__" (inClass (top 59) 14) f fd) (T : Bs mg bl) (N : NwT K C) (F_check_known_edge : Cf P w K mg base "check_known_edge" ["network", "value"] k (spKnown C) fK dK) : FnOk P w K mg base CX0 (k + 1) f fd ["self", "name"] (spNetGet C) := by
  refine F.ok sc_Network___getitem__ (fun vs H Q E h => ?_) (fun cdv A outer s H vs Q E hr h => ?_)
  · obtain ⟨x, ns, es, n, rfl, _⟩ := h
    rfl
  · obtain ⟨x, ns, es, n, rfl, ⟨dx, t, r, d, bs, h1, h2, h3, h4, h5⟩, hn, le, q⟩ := h
    refine ⟨_, (pss_cons (ps_expr (pe_cf F_check_known_edge (hr.mono (by omega)) (by rfl) (pa_cons (pv 0) (pa_cons (pv 1) pa_nil))))
      (pss_one (ps_ret (pe_dget (hu_of hr) (pe_fld (pv 0) rfl) (pv 1) (fun _ _ => rfl))))), ?_⟩
    obtain ⟨e, a, he, en, ham, hae, hv⟩ := edKv_get h4 hn
    refine Evl.q_drop (Evl.ev_call (vs := [.ref x, .str n]) (z := .non) (Evl.ea_cons (Evl.ev_var rfl) (Evl.ea_cons (Evl.ev_var rfl) Evl.ea_nil)) fun H1 e1 Q1 q1 E1 => ⟨x, ns, es, n, rfl, NetAt.ex e1 ⟨dx, t, r, d, bs, h1, h2, h3, h4, h5⟩, hn, le, q1⟩) fun H1 e1 => ?_
    exact ⟨.ref x, rfl, x, C, dx, _, .ref d, rfl, e1 _ _ h1, N.cl, N.n3, nw_names _ _ _, .str n, rfl, d, .ref a, rfl, .inl ⟨_, Sum.inr n, .inl (e1 _ _ h5), rfl, hv.symm⟩, q a e H1 e1 he en hae⟩
end
end Lw

set_option maxHeartbeats 2000000
namespace Lw
open PySem PySem.Spec PyProof.Rows L2 StX
open Evl (EvL EvA EvT RC)
abbrev nm_EdgeSet___init__ : List Str := ["self", "network", "names", "name"]
theorem sc_EdgeSet___init__ : FnScope nm_EdgeSet___init__ ["self", "network", "names"] (defScope (inClass (top 37) 0)) := ⟨rfl, rfl, rfl, by decide +kernel, rfl, by decide +kernel, by decide +kernel⟩
abbrev nm_EdgeSet_network : List Str := ["self"]
theorem sc_EdgeSet_network : FnScope nm_EdgeSet_network ["self"] (defScope (inClass (top 37) 3)) := ⟨rfl, rfl, rfl, by decide +kernel, rfl, by decide +kernel, by decide +kernel⟩
abbrev nm_EdgeSet_names : List Str := ["self"]
theorem sc_EdgeSet_names : FnScope nm_EdgeSet_names ["self"] (defScope (inClass (top 37) 4)) := ⟨rfl, rfl, rfl, by decide +kernel, rfl, by decide +kernel, by decide +kernel⟩
abbrev nm_EdgeSet_length : List Str := ["self"]
theorem sc_EdgeSet_length : FnScope nm_EdgeSet_length ["self"] (defScope (inClass (top 37) 6)) := ⟨rfl, rfl, rfl, by decide +kernel, rfl, by decide +kernel, by decide +kernel⟩
abbrev nm_EdgeSet___len__ : List Str := ["self"]
theorem sc_EdgeSet___len__ : FnScope nm_EdgeSet___len__ ["self"] (defScope (inClass (top 37) 7)) := ⟨rfl, rfl, rfl, by decide +kernel, rfl, by decide +kernel, by decide +kernel⟩
/-- the edges whose names S holds -/
def sel (es : List Eg) (S : Str → Bool) : List Eg := es.filter fun e => S e.1
/-- a network stands at x, its edges ascending -/
def Nx (D : Addr) (H : Hp) (x : Addr) (ns : List Str) (es : List Eg) : Prop := NetAt D H x ns es ∧ Asc (·.1) es ∧ es.length ≤ 200 ∧ (∀ y ∈ ns, IsNm y) ∧ ∀ e ∈ es, NmEg e
theorem Nx.ex {D : Addr} {H H' : Hp} {x : Addr} {ns : List Str} {es : List Eg} (e : Evl.Ex H H') (h : Nx D H x ns es) : Nx D H' x ns es := ⟨h.1.ex e, h.2⟩
def esF (x t r : Addr) : List (Str × V) := putF "_edges" (.ref r) (putF "_names" (.ref t) (putF "_network" (.ref x) []))
theorem g12 : ¬ (("_network" : Str) = "_names") := by decide +kernel
theorem g13 : ¬ (("_network" : Str) = "_edges") := by decide +kernel
theorem g23 : ¬ (("_names" : Str) = "_edges") := by decide +kernel
theorem es_network (x t r : Addr) : (esF x t r).lookup ("_network" : Str) = some (.ref x) := by
  unfold esF
  rw [lookup_putF, if_neg g13, lookup_putF, if_neg g12, lookup_putF, if_pos rfl]
theorem es_names (x t r : Addr) : (esF x t r).lookup ("_names" : Str) = some (.ref t) := by
  unfold esF
  rw [lookup_putF, if_neg g23, lookup_putF, if_pos rfl]
theorem es_edges (x t r : Addr) : (esF x t r).lookup ("_edges" : Str) = some (.ref r) := by
  unfold esF
  rw [lookup_putF, if_pos rfl]
/-- an edge set stands at a: the edges of the network at x whose names S holds -/
def EsAt (C D : Addr) (x : Addr) (ns : List Str) (es : List Eg) (H : Hp) (a : Addr) (S : Str → Bool) : Prop := Nx D H x ns es ∧ ∃ dx t r bs, H a = some (.ins C dx (esF x t r)) ∧ H t = some (.tup (((sel es S).map (·.1)).map V.str)) ∧ H r = some (.tup (bs.map V.ref)) ∧ EgsAt H bs (sel es S)
theorem EsAt.ex {C D x : Addr} {ns : List Str} {es : List Eg} {H H' : Hp} {a : Addr} {S : Str → Bool} (e : Evl.Ex H H') (h : EsAt C D x ns es H a S) : EsAt C D x ns es H' a S := by
  obtain ⟨n, dx, t, r, bs, h1, h2, h3, h4⟩ := h
  exact ⟨n.ex e, dx, t, r, bs, e _ _ h1, e _ _ h2, e _ _ h3, h4.tk (TK.ex e)⟩
theorem EsAt.is {C D x : Addr} {ns : List Str} {es : List Eg} {H : Hp} {a : Addr} {S S' : Str → Bool} (h : EsAt C D x ns es H a S) (e : ∀ g ∈ es, S g.1 = S' g.1) : EsAt C D x ns es H a S' := by
  have q : sel es S' = sel es S := List.filter_congr fun g hg => (e g hg).symm
  unfold EsAt at h ⊢
  rw [q]
  exact h
/-- what the text holds of the class -/
structure EsT (K : PySem.W.Frag) (C : Addr) : Prop where
  cl : Cls K C
  n1 : NoAttr K C "_network"
  n2 : NoAttr K C "_names"
  n3 : NoAttr K C "_edges"
theorem asc_nodup {α : Type} {f : α → Str} {xs : List α} (h : Asc f xs) : (xs.map f).Nodup := by
  refine List.nodup_iff_pairwise_ne.mpr (List.pairwise_map.mpr (h.imp fun {a b} l e => ?_))
  rw [e] at l
  exact List.lt_irrefl _ l
theorem asc_map {α : Type} {f : α → Str} {xs : List α} (h : Asc f xs) : Asc id (xs.map f) := List.pairwise_map.mpr h
theorem sel_asc {es : List Eg} {S : Str → Bool} (h : Asc (·.1) es) : Asc (·.1) (sel es S) := h.filter _
theorem sel_mem {es : List Eg} {S : Str → Bool} {k : Str} : k ∈ (sel es S).map (·.1) ↔ k ∈ es.map (·.1) ∧ S k = true := by
  simp only [sel, List.mem_map, List.mem_filter]
  constructor
  · rintro ⟨e, ⟨h1, h2⟩, rfl⟩
    exact ⟨⟨e, h1, rfl⟩, h2⟩
  · rintro ⟨⟨e, h1, rfl⟩, h2⟩
    exact ⟨e, ⟨h1, h2⟩, rfl⟩
/-- the ascending list of these names is the one of the chosen edges -/
theorem sel_names {es : List Eg} {S : Str → Bool} {ys : List Str} (h : Asc (·.1) es) (a : Asc id ys) (m : ∀ k, k ∈ ys ↔ k ∈ es.map (·.1) ∧ S k = true) : ys = (sel es S).map (·.1) := by
  have n1 : ys.Nodup := by
    have := asc_nodup a
    rwa [List.map_id] at this
  have n2 := asc_nodup (sel_asc (S := S) h)
  exact asc_unique ((List.perm_ext_iff_of_nodup n1 n2).mpr fun k => (m k).trans sel_mem.symm) a (asc_map (sel_asc h))
end Lw

set_option maxHeartbeats 2000000
/-! the network as it is kept: what the defs ask of it -/
namespace Lj
open PySem PySem.Spec PyProof.Rows L2 Lw Hq
theorem nx_canon {D x : Addr} {ns : List Str} {es : List Eg} {H : Hp} (net : IsNet ns es) (l : es.length ≤ 100) (h : NetAt D H x (srtN ns) (srtE (es.map norm))) : Nx D H x (srtN ns) (srtE (es.map norm)) :=
  ⟨h, srtE_asc (by rw [norm_names]; exact net.ed), by rw [canon_len]; omega, fun y hy => net.nm y ((srtN_perm ns).mem_iff.mp hy), fun f hf => by
    obtain ⟨e, he, rfl⟩ := List.mem_map.mp ((srtE_perm _).mem_iff.mp hf)
    obtain ⟨h1, h2, h3, _⟩ := net.em e he
    refine ⟨h1, ?_, ?_⟩
    · rcases min_max e.2.1 e.2.2.1 with ⟨a, b⟩ | ⟨a, b⟩
      · show IsNm (minS e.2.1 e.2.2.1)
        rw [a]
        exact net.nm _ h2
      · show IsNm (minS e.2.1 e.2.2.1)
        rw [a]
        exact net.nm _ h3
    · rcases min_max e.2.1 e.2.2.1 with ⟨a, b⟩ | ⟨a, b⟩
      · show IsNm (maxS e.2.1 e.2.2.1)
        rw [b]
        exact net.nm _ h3
      · show IsNm (maxS e.2.1 e.2.2.1)
        rw [b]
        exact net.nm _ h2⟩
theorem netC_canon {D x : Addr} {ns : List Str} {es : List Eg} {H : Hp} (net : IsNet ns es) (few : Few es) (calm : Calm (srtE (es.map norm))) (l : es.length ≤ 100) (l40 : ns.length ≤ 40) (h : NetAt D H x (srtN ns) (srtE (es.map norm))) : NetC D H x (srtN ns) (srtE (es.map norm)) :=
  ⟨h, canon_names net.ed, by rw [canon_len]; omega, prop2_canon net, few.canon, calm, (srtN_perm ns).nodup_iff.mpr net.nd, by rw [(srtN_perm ns).length_eq]; exact l40⟩
end Lj

set_option maxHeartbeats 2000000
/-! law k63 -/
namespace Lj
open PySem PySem.Spec PyProof.Rows L2 Lw Hq
open Evl (EvL EvA EvT EvU RC)
abbrev nm_law : List Str := ["_law_script", "_law_pen_here", "_law_turn", "_law_network", "_law_made_here", "_law_u", "_law_gaps", "_law_again", "_law_some", "_law_rows_here", "_law_due", "_law_node", "_law_k"]
theorem sc_law : FnScope nm_law ["_law_script"] (defScope (top 76)) := ⟨rfl, rfl, rfl, by decide +kernel, rfl, by decide +kernel, by decide +kernel⟩
theorem NetL.but {p c : Addr} {n : Nat} {H H' : Hp} {t : Addr} {es : List Eg} (P : Pen p c n H) (b : But p H H') (h : NetL H t es) : NetL H' t es := by
  obtain ⟨b0, x0, rest, as, h1, h2, h3⟩ := h
  exact ⟨b0, x0, rest, as, TK.but P b _ _ h1, b _ _ (pen_neL P h2) h2, h3.tk (TK.but P b)⟩
section
variable {P : Program} {w : World} {K : PySem.W.Frag} {mg : Str → Option Value} {base : Heap} {C : Addr}
def spLaw (K : PySem.W.Frag) : Sp := fun vs H Q _ => ∃ (a : Addr) (ns : List Int), vs = [V.ref a] ∧ SqL K H a (ns.map V.int) ∧ ns.length ≤ 63 ∧ ∀ H', Q (.bl true) H'
theorem ok_law {f fP fC fT fK fD fG fF : Addr} {fd dP dC dT dK dD dG dF : FuncData} {k : Nat} (F : Fun K "law" "law" (top 76) f fd) (T : Bs mg bl)
    (F_law_pen : Cf P w K mg base "_law_pen" ["_law_script"] k (spPen K) fP dP) (F_law_pick : Cf P w K mg base "_law_pick" ["_law_pen_here", "_law_options"] k (spPicks K) fK dK) (F_law_draw : Cf P w K mg base "_law_draw" ["_law_pen_here", "_law_many"] k spDraw fD dD) (F_law_calm : Cf P w K mg base "_law_calm" ["_law_pen_here", "_law_least", "_law_upto", "_law_wide"] k spCalmL fC dC)
    (F_law_made : Cf P w K mg base "_law_made" ["_law_network"] k (spMade C) fT dT) (F_law_gap : Cf P w K mg base "_law_gap" ["_law_network", "_law_u", "_law_v"] k spGap fG dG) (F_law_first_of : Cf P w K mg base "_law_first_of" ["_law_network", "_law_u", "_law_x"] k (spFirst C) fF dF) : FnOk P w K mg base CX0 (k + 2) f fd ["_law_script"] (spLaw K) := by
  refine F.ok sc_law (fun vs H Q E h => ?_) (fun cdv A outer s H vs Q E hr h => ?_)
  · obtain ⟨a, ns, rfl, _⟩ := h
    rfl
  · obtain ⟨a, ns0, rfl, hS, hl, q⟩ := h
    refine ⟨_, (pss_cons (ps_set (i := 1) sc_law.nd rfl (Or.inr rfl) (pe_cf F_law_pen (hr.mono (by omega)) (by rfl) (pa_cons (pv 0) pa_nil)))
      (pss_cons (ps_for PassesOwn.never rfl (pi_range1 (by rfl) (T.b "range" (by decide)) (pa_cons pe_int pa_nil)) (pg_name (i := 2) sc_law.nd rfl (Or.inl rfl)) (pss_cons (ps_set (i := 3) sc_law.nd rfl (Or.inr rfl) (pe_cf F_law_calm (hr.mono (by omega)) (by rfl) (pa_cons (pv 1) (pa_cons pe_int (pa_cons pe_int (pa_cons pe_int pa_nil))))))
      (pss_cons (ps_asg (pe_tup (pa_cons (pe_cf F_law_made (hr.mono (by omega)) (by rfl) (pa_cons (pv 3) pa_nil)) (pa_cons (pe_cf F_law_pick (hr.mono (by omega)) (by rfl) (pa_cons (pv 1) (pa_cons (pe_ix ix_tup (pv 3) pe_int (fun _ _ => rfl)) pa_nil))) pa_nil))) (pg_tup rfl (pgs_cons (pg_name (i := 4) sc_law.nd rfl (Or.inl rfl)) (pgs_cons (pg_name (i := 5) sc_law.nd rfl (Or.inr rfl)) pgs_nil))))
      (pss_cons (ps_set (i := 6) sc_law.nd rfl (Or.inr rfl) (pe_callTy (call_dictP rfl) (by rfl) (T.b "dict" (by decide)) (by decide +kernel) (pa_cons (pe_lc (own := [("_law_node", 11)]) (g := (gName 11)) (tt := tYes) (te := (tTup (tCons (tVar 11) (tCons (tCall spGap [] noE (tCons (tVar 3) (tCons (tVar 5) (tCons (tVar 11) tNil)))) tNil)))) rfl sc_law.nd (pi_list (pe_ix ix_tup (pv 3) pe_int (fun _ _ => rfl))) (blkOk_by (N := nm_law) (sc := defScope (top 76)) (by decide +kernel)) (fun _ _ _ _ _ => pg_name (i := 11) sc_law.nd rfl (Or.inl rfl)) (fun _ _ _ _ _ => pts_nil) (fun _ _ _ _ _ => (pe_tup (pa_cons (pv 11) (pa_cons (pe_cf F_law_gap (hr.mono (by omega)) (by rfl) (pa_cons (pv 3) (pa_cons (pv 5) (pa_cons (pv 11) pa_nil)))) pa_nil))))) pa_nil)))
      (pss_one (ps_for PassesOwn.never rfl (pi_range1 (by rfl) (T.b "range" (by decide)) (pa_cons pe_int pa_nil)) (pg_name (i := 7) sc_law.nd rfl (Or.inl rfl)) (pss_cons (ps_setLc (i := 8) (own := [("_law_k", 12)]) (g := (gName 12)) (tt := tYes) (te := (tCall (spPicks K) [] noE (tCons (tVar 1) (tCons (tOp (rIxT K) (tVar 3) (tC (.int 0))) tNil)))) rfl sc_law.nd rfl rfl (by rfl) (pi_range1 (by rfl) (T.b "range" (by decide)) (pa_cons (pe_cf F_law_draw (hr.mono (by omega)) (by rfl) (pa_cons (pv 1) (pa_cons pe_int pa_nil))) pa_nil)) (blkOk_by (N := nm_law) (sc := defScope (top 76)) (by decide +kernel)) (fun _ _ _ _ _ => pg_name (i := 12) sc_law.nd rfl (Or.inl rfl)) (fun _ _ _ _ _ => pts_nil) (fun _ _ _ _ _ => (pe_cf F_law_pick (hr.mono (by omega)) (by rfl) (pa_cons (pv 1) (pa_cons (pe_ix ix_tup (pv 3) pe_int (fun _ _ => rfl)) pa_nil)))))
      (pss_cons (ps_set (i := 9) sc_law.nd rfl (Or.inl rfl) (pe_callB (cr_sortedD hr) (by rfl) (T.b "sorted" (by decide)) (by decide +kernel) (pa_cons (pe_lc (own := [("_law_node", 11)]) (g := (gName 11)) (tt := (tTest (tOp (fun x y H Q => y = V.non ∧ Q (V.bl !decide (x = V.non)) H) (tDGet (tVar 6) (tVar 11)) (tC .non)))) (te := (tTup (tCons (tDGet (tVar 6) (tVar 11)) (tCons (tVar 11) tNil)))) rfl sc_law.nd (pi_list (pv 8)) (blkOk_by (N := nm_law) (sc := defScope (top 76)) (by decide +kernel)) (fun _ _ _ _ _ => pg_name (i := 11) sc_law.nd rfl (Or.inl rfl)) (fun _ _ _ _ _ => (pts_one (pt_cmpR op_notN (pe_dget (hu_of hr) (pv 6) (pv 11) (fun _ _ => rfl)) pe_non (nomark _)))) (fun _ _ _ _ _ => (pe_tup (pa_cons (pe_dget (hu_of hr) (pv 6) (pv 11) (fun _ _ => rfl)) (pa_cons (pv 11) pa_nil))))) pa_nil)))
      (pss_cons (ps_set (i := 10) sc_law.nd rfl (Or.inl rfl) (pe_ifExp (pt_cmpR (op_neNil (hu64 hr)) (pv 9) (pe_lst pa_nil) (nomark _)) (pe_ix ix_tup (pe_ix ix_list (pv 9) pe_int (fun _ _ => rfl)) pe_int (fun _ _ => rfl)) pe_non))
      (pss_one (ps_if (pt_cmpR op_ne (pe_callB (CallR.or Lj.call_reprN Lj.call_reprS) (by rfl) (T.b "repr" (by decide)) (by decide +kernel) (pa_cons (pe_cf F_law_first_of (hr.mono (by omega)) (by rfl) (pa_cons (pv 4) (pa_cons (pv 5) (pa_cons (pv 8) pa_nil)))) pa_nil)) (pe_callB (CallR.or Lj.call_reprN Lj.call_reprS) (by rfl) (T.b "repr" (by decide)) (by decide +kernel) (pa_cons (pv 10) pa_nil)) (nomark _)) (pss_one (ps_ret pe_bl)) pss_nil)))))))))))
      (pss_one (ps_ret pe_bl)))), ?_⟩
    refine ⟨.ref a, rfl, a, ns0, rfl, hS, hl, fun p c H1 e1 np hP => ?_⟩
    refine g_name ?_
    try dsimp only
    refine Evl.q_forR1 (n := 7) (Evl.ea_cons Evl.ev_c Evl.ea_nil) ⟨by decide, by decide⟩ (fun i σ' H' => ∃ x2 x3 x4 x5 x6 x7 x8 x9 x10, σ' = [some (.ref a), some (.ref p), x2, x3, x4, x5, x6, x7, x8, x9, x10, none, none] ∧ Pen p c (10100 * i) H') (fun H2 e2 => ⟨none, none, none, none, none, none, none, none, none, rfl, hP.ex e2⟩) (fun i σ' H' hi z => ?_) (fun σ' H' z => ?_)
    · obtain ⟨x2, x3, x4, x5, x6, x7, x8, x9, x10, rfl, hP⟩ := z
      have hi7 : i < 7 := by omega
      refine ⟨.ref p, rfl, p, c, 1, 6, 9, 10100 * i, rfl, hP, by omega, by decide, by decide, by decide, by decide, fun t na nb ns as es H3 net l0 l1 l2 nt b3 ht hna hnb hes P3 cyc => ?_⟩
      refine g_name ?_
      try dsimp only
      have few : Few es := Few.small net (by omega)
      have en : ∀ e ∈ es, e.2.1 ∈ ns ∧ e.2.2.1 ∈ ns := fun e he => ⟨(net.em e he).2.1, (net.em e he).2.2.1⟩
      have calm' := (Cyc.calm (nd_es net.ed) (prop2_net net) cyc).canon
      have netL : NetL H3 t es := ⟨nb, .ref na, [], as, ht, hnb, hes⟩
      refine q_asgG (fun v H' => ∃ tp x z, v = V.ref tp ∧ H' tp = some (.tup [.ref x, .str z]) ∧ z ∈ ns ∧ NetAt C H' x (srtN ns) (srtE (es.map norm)) ∧ But p H3 H' ∧ Pen p c (10100 * i + 10001) H') (fun Q' hQ' => ?_) ?_
      · refine g_tupC ?_
        refine g_cons (g_call (g_ea (vs := [.ref t]) (Evl.ea_cons (Evl.ev_var rfl) Evl.ea_nil) fun H4 e4 => ?_))
        refine ⟨t, na, nb, [], ns, as, es, rfl, e4 _ _ ht, e4 _ _ hna, e4 _ _ hnb, hes.tk (TK.ex e4), net, by omega, by omega, by omega, few, fun x H5 e5 nx hx => ?_⟩
        have e35 := e4.trans e5
        refine g_cons (g_call (g_ea (vs := [.ref p, .ref na]) (Evl.ea_cons (Evl.ev_var rfl) (Evl.ea_cons (Evl.ev_op (Evl.ev_var rfl) Evl.ev_c (Evl.rv_ixT (Evl.st_of (e35 _ _ ht)) (atI_some (i := 0) (by decide) rfl))) Evl.ea_nil)) fun H6 e6 => .inl ?_))
        have e36 := e35.trans e6
        refine ⟨p, c, na, ns.map V.str, _, rfl, P3.ex e36, by omega, .inl (Evl.sq_of (e36 _ _ hna)), pen_neL P3 hna, by rw [List.length_map]; omega, by rw [List.length_map]; omega, fun v H7 hv b7 P7 => g_nil ⟨by simp [sizeLine_eq], fun tp ntp => ?_⟩⟩
        obtain ⟨z, hz, rfl⟩ := List.mem_map.mp hv
        have e78 := Evl.Ex.new (o := .tup [.ref x, .str z]) ntp
        exact hQ' _ _ ⟨tp, x, z, rfl, upd_same, hz, (NetAt.but (P3.ex e36) b7 (hx.ex e6)).ex e78, ((But.of e36).trans b7).trans (But.of e78), (P7.le (by omega)).ex e78⟩
      rintro v0 H6 ⟨tp, x, u, rfl, htp, hu, hx, b6, P6⟩
      refine ⟨tp, _, rfl, .inl (.inl htp), rfl, _, _, rfl, _, _, rfl, rfl, ?_⟩
      have ht6 := TK.but P3 b6 _ _ ht
      have hna6 := b6 _ _ (pen_neL P3 hna) hna
      have netL6 := netL.but P3 b6
      -- the gaps
      refine g_asgV (g_cb (g_cons ?_))
      refine lc_mkT (K := K) (fun v => [.str v, numV (farV es u v)]) (j := 11) (vs := [11]) (fun lz zs H2 => lz = na ∧ zs = ns ∧ Evl.Ex H6 H2) (fun Q1 k1 => ?_) (fun lz zs H2 ⟨h1, h2, h3⟩ => ⟨by rw [h1, h2]; exact Evl.sq_of (h3 _ _ hna6), by rw [h2]; omega⟩) (fun _ => rfl) (fun lz zs H2 ⟨h1, h2, h3⟩ z H7 e7 hz => ?_) (fun lz zs H2 ⟨h1, h2, h3⟩ B ts H7 nB e7 hB hts => ?_)
      · exact g_ev (Evl.ev_op (Evl.ev_var rfl) Evl.ev_c (Evl.rv_ixT (Evl.st_of ht6) (atI_some (i := 0) (by decide) rfl))) fun H2 e2 => k1 na ns H2 ⟨rfl, rfl, e2⟩
      · rw [h2] at hz
        refine Evl.eu_tup (vs := [.str z, numV (farV es u z)]) (Evl.ea_cons (Evl.ev_var rfl) (Evl.ea_cons (Evl.ev_call (vs := [.ref t, .str u, .str z]) (Evl.ea_cons (Evl.ev_var rfl) (Evl.ea_cons (Evl.ev_var rfl) (Evl.ea_cons (Evl.ev_var rfl) Evl.ea_nil))) fun H4 e4 Q4 q4 E4 => ⟨t, es, ns, u, z, rfl, netL6.ex ((h3.trans e7).trans e4), net.ed, en, hu, l2, by omega, fun H5 r1 e5 j1 => ?_⟩) Evl.ea_nil)) (by simp)
        rw [j1.eq]
        exact q4 H5 e5
      subst h1
      subst h2
      let rs : List (Str × Option Int) := zs.map fun v => (v, farV es u v)
      have rsn : rs.map (·.1) = zs := by
        show (zs.map fun v => (v, farV es u v)).map (·.1) = _
        rw [List.map_map]
        exact List.map_id _
      refine g_nil ⟨B, ts, dsK rs, rfl, Evl.sq_of hB, ?_, fun d nd => ?_⟩
      · exact paired_mapR (R := fun (p : Addr) (kv : Key × V) => SqT K H7 p [kV kv.1, kv.2]) (g := fun q : Str × Option Int => ((Sum.inr q.1 : Key), numV q.2)) (paired_mapR (R := fun (p : Addr) (q : Str × Option Int) => SqT K H7 p [kV (Sum.inr q.1), numV q.2]) (g := fun v => (v, farV es u v)) (paired_imp (fun _ _ z => Evl.st_of z) hts))
      rw [show mergeK [] (dsK rs) = dsK rs from merge_app rs [] (by rw [List.nil_append, rsn]; exact net.nd)]
      refine g_name ?_
      try dsimp only
      have e68 := h3.trans (e7.trans (Evl.Ex.new (o := .dK (dsK rs)) nd))
      have hd0 : (upd H7 d (.dK (dsK rs))) d = some (.dK (zs.map fun z => ((Sum.inr z : Key), numV (farV es u z)))) := by
        rw [upd_same]
        simp only [dsK, rs, List.map_map]
        rfl
      generalize upd H7 d (.dK (dsK rs)) = H8 at e68 hd0 ⊢
      have P8 := P6.ex e68
      have ndp : d ≠ p := ((P6.ex (h3.trans e7)).far nd).1
      have ht8 := e68 _ _ ht6
      have hna8 := e68 _ _ hna6
      have nap : lz ≠ p := pen_neL P3 hna
      have lz0 : zs.length ≤ 6 := by omega
      refine Evl.s_forR1 (n := 5) (Evl.ea_cons Evl.ev_c Evl.ea_nil) ⟨by decide, by decide⟩ (fun j σ' H' => ∃ (x7 x8 x9 x10 : Option V), σ' = [some (.ref a), some (.ref p), some (.int (i : Int)), some (.ref t), some (.ref x), some (.str u), some (.ref d), x7, x8, x9, x10, none, none] ∧ But p H8 H' ∧ Pen p c (10100 * i + 10001 + 6 * j) H') (fun H9 e9 => ⟨x7, x8, x9, x10, rfl, But.of e9, (P8.ex e9).le (by omega)⟩) (fun j σ' H9 hj z => ?_) (fun σ' H9 z => ?_)
      · obtain ⟨x7, x8, x9, x10, rfl, b9, P9⟩ := z
        have hj5 : j < 5 := by omega
        refine g_asgV ?_
        refine via (fun v H' => ∃ (D : Addr) (us : List Str), v = .ref D ∧ H9 D = none ∧ us.length ≤ 5 ∧ (∀ z ∈ us, z ∈ zs) ∧ But p H9 H' ∧ H' D = some (.lst (us.map V.str)) ∧ Pen p c (10100 * i + 10001 + 6 * (j + 1)) H') (fun Q' hQ' => ?_) ?_
        · refine ⟨.ref p, rfl, p, c, 6, _, rfl, P9, by omega, by decide, by decide, fun d0 HA d00 d01 bA PA => ⟨d0, rfl, by omega, by omega, ?_⟩⟩
          refine lcP (Q := Q') (p := p) (c := c) (n := 10100 * i + 10001 + 6 * j + 1) (kk := 1) (m := d0.toNat) 0 (fun i acc _ => ∃ us : List Str, acc = us.map V.str ∧ ∀ z ∈ us, z ∈ zs) PA (by omega) (fun _ _ => ⟨[], rfl, fun e he => absurd he (by simp)⟩) (fun _ => rfl) (fun _ _ _ _ _ _ z => z)
            (fun i' acc H' hi' la pa ba Pa Q' k => ?_) (fun D acc H2 nD la pa b2 hD P2 => ?_)
          · obtain ⟨us, rfl, hus⟩ := pa
            have b8 := (b9.trans bA).trans ba
            have ht' := TK.but P8 b8 _ _ ht8
            have hna' := b8 _ _ nap hna8
            refine g_call (g_ea (vs := [.ref p, .ref lz]) (Evl.ea_cons (Evl.ev_var rfl) (Evl.ea_cons (Evl.ev_op (Evl.ev_var rfl) Evl.ev_c (Evl.rv_ixT (Evl.st_of ht') (atI_some (i := 0) (by decide) rfl))) Evl.ea_nil)) fun H6 e6 => .inl ?_)
            refine ⟨p, c, lz, zs.map V.str, _, rfl, Pa.ex e6, by omega, .inl (Evl.sq_of (e6 _ _ hna')), nap, by rw [List.length_map]; omega, by rw [List.length_map]; omega, fun v H7 hv b7 P7 => ?_⟩
            obtain ⟨z, hz, rfl⟩ := List.mem_map.mp hv
            refine k _ H7 ⟨us ++ [z], by rw [List.map_append]; rfl, fun y hy => ?_⟩ ((But.of e6).trans b7) ?_
            · rcases List.mem_append.mp hy with hy | hy
              · exact hus y hy
              · rw [List.mem_singleton.mp hy]
                exact hz
            · rw [Nat.mul_succ, ← Nat.add_assoc]
              exact P7
          · obtain ⟨us, rfl, hus⟩ := pa
            rw [List.length_map] at la
            exact hQ' _ _ ⟨D, us, rfl, bA.back (PA.far nD).1 nD, by omega, hus, bA.trans b2, hD, P2.le (by omega)⟩
        rintro v0 HA ⟨D, us, rfl, nD, lus, hus, bA, hD, PA⟩
        refine g_name ?_
        try dsimp only
        have b8A := b9.trans bA
        have hdA := b8A _ _ ndp hd0
        have few' := few
        refine g_asgV (g_cb (g_cons ?_))
        have gap : ∀ {σ : L2.St} {H2 : Hp} {z : Str}, Evl.Ex HA H2 → z ∈ zs → σ[6]? = some (some (.ref d)) → σ[11]? = some (some (.str z)) → Evl.Ev (tDGet (tVar 6) (tVar 11)) σ H2 (numV (farV es u z)) := fun {σ H2 z} e2 hz h6 h11 =>
          ev_dgetD (e2 _ _ hdA) (valV_fn (g := fun z => numV (farV es u z)) hz) (Evl.ev_var h6) (Evl.ev_var h11)
        refine lc_keepL (K := K) (fun z => (farV es u z).isSome) (fun z => [numV (farV es u z), .str z]) (j := 11) (vs := [11]) (l := D) (zs := us) (Evl.ev_var rfl) hD (by omega) (fun _ => rfl) (fun z H2 e2 hz => ?_) (fun z H2 e2 hz _ => ?_) (fun B2 ts2 HB nB2 eB hB2 hts2 => g_nil ?_)
        · exact et_notN (gap e2 (hus z hz) rfl rfl)
        · exact Evl.eu_tup (Evl.ea_cons (gap e2 (hus z hz) rfl rfl) (Evl.ea_cons (Evl.ev_var rfl) Evl.ea_nil)) (by simp)
        have lP : (nearP es u us).length ≤ (us.map fun z => (z, farV es u z)).length := List.length_filterMap_le _ _
        rw [List.length_map] at lP
        refine rc_sortP (Evl.sq_of hB2) (nearP_at hts2) (by omega) fun s as2 ns2 hs => ?_
        refine g_name ?_
        try dsimp only
        have eAC := eB.trans (Evl.Ex.new (o := .lst (as2.map V.ref)) ns2)
        have hsC : (upd HB s (.lst (as2.map V.ref))) s = some (.lst (as2.map V.ref)) := upd_same
        generalize (upd HB s (.lst (as2.map V.ref))) = HC at eAC hsC hs ⊢
        have las2 : as2.length = (srtP (nearP es u us)).length := Paired.length hs
        let due : Option Str := (srtP (nearP es u us)).head?.map (·.2)
        let dueV : V := match due with
          | none => .non
          | some z => .str z
        have tst : ∀ {σ : L2.St} {H' : Hp}, Evl.Ex HC H' → σ[9]? = some (some (.ref s)) → Evl.EvT (tTest (tOp (rNeNil K) (tVar 9) (tLst tNil))) σ H' (!(as2.map V.ref).isEmpty) := fun e h =>
          Evl.et_test (Evl.ev_opL (Evl.ev_var h) (Evl.el_lst Evl.ea_nil (by simp)) fun p' H6 hp' e6 H7 e7 Q7 q7 => ⟨s, p', _, rfl, rfl, Evl.sq_of (e7 _ _ (e6 _ _ (e _ _ hsC))), Evl.sq_of (e7 _ _ hp'), q7 H7 (Evl.Ex.refl _)⟩)
        refine Evl.q_asg (v := dueV) ?_ fun HD eD => ?_
        · refine Evl.ev_if (tst (Evl.Ex.refl _) rfl) (fun hb => ?_) (fun hb => ?_)
          · cases hsr : srtP (nearP es u us) with
            | nil =>
              rw [hsr] at las2
              cases as2 with
              | nil => exact nomatch hb
              | cons _ _ => simp at las2
            | cons r0 rt =>
              rw [hsr] at hs
              cases hs with
              | @cons s0 _ _ _ h0 _ =>
              have : dueV = .str r0.2 := by
                simp only [dueV, due, hsr, List.head?_cons, Option.map_some]
              rw [this]
              exact Evl.ev_op (x := .ref s0) (Evl.ev_op (Evl.ev_var rfl) Evl.ev_c (Evl.rv_ixL (Evl.sq_of hsC) (atI_some (i := 0) (by decide) rfl))) Evl.ev_c (Evl.rv_ixT (Evl.st_of h0) (atI_some (i := 1) (by decide) rfl))
          · cases hsr : srtP (nearP es u us) with
            | nil =>
              have : dueV = .non := by
                simp only [dueV, due, hsr, List.head?_nil, Option.map_none]
              rw [this]
              exact Evl.ev_c
            | cons r0 rt =>
              rw [hsr] at las2
              cases as2 with
              | nil => simp at las2
              | cons _ _ => exact nomatch hb
        have eAD := eAC.trans eD
        have bD : But p H8 HD := b8A.trans (But.of eAD)
        have hxD : NetAt C HD x (srtN zs) (srtE (es.map norm)) := (NetAt.but P8 b8A (hx.ex e68)).ex eAD
        refine Evl.s_when (b := false) (Evl.et_test fun HE eE Q1 q1 => ?_) (fun z => nomatch z) fun _ HE eE => ⟨_, _, _, _, rfl, bD.trans (But.of eE), (PA.ex eAD).ex eE⟩
        refine g_op (g_cb (g_cons (g_call (g_ea (vs := [.ref x, .str u, .ref D]) (Evl.ea_cons (Evl.ev_var rfl) (Evl.ea_cons (Evl.ev_var rfl) (Evl.ea_cons (Evl.ev_var rfl) Evl.ea_nil))) fun HF eF => ?_))))
        have eDF := eE.trans eF
        refine ⟨x, D, srtN zs, srtE (es.map norm), u, us, rfl, netC_canon net few calm' (by omega) (by omega) (hxD.ex eDF), (srtN_perm zs).mem_iff.mpr hu, (eAD.trans eDF) _ _ hD, fun z hz => (srtN_perm zs).mem_iff.mpr (hus z hz), lus, fun HG y eG hy hf => g_nil ?_⟩
        have sameP : nearP (srtE (es.map norm)) u us = nearP es u us := by
          show nearL _ = nearL _
          congr 1
          exact List.map_congr_left fun z hz => by rw [(hf z hz).of_norm.eq]
        rw [sameP] at hy
        have q3 : ∀ HI, Evl.Ex HG HI → Q1 (.bl false) HI := fun HI eI => q1 HI ((eF.trans eG).trans eI)
        rcases hy with ⟨hnil, rfl⟩ | ⟨r, hr, rfl, le⟩
        · have : dueV = .non := by
            have : srtP (nearP es u us) = [] := List.perm_nil.mp (hnil ▸ srtP_perm (nearP es u us))
            simp only [dueV, due, this, List.head?_nil, Option.map_none]
          refine .inl ⟨none, rfl, (fun i h => nomatch h), ?_⟩
          refine g_cb (g_cons (g_ev (v := .non) (Evl.ev_var (by rw [this]; rfl)) fun HI eI => g_nil (.inl ⟨none, rfl, (fun i h => nomatch h), rfl, ?_⟩)))
          rw [decide_eq_true rfl]
          exact q3 HI eI
        · have mr : r ∈ srtP (nearP es u us) := (srtP_perm _).mem_iff.mpr hr
          have : dueV = .str r.2 := by
            cases hsr : srtP (nearP es u us) with
            | nil => rw [hsr] at mr; exact absurd mr (by simp)
            | cons r0 rt =>
              have h0 : r0 ∈ nearP es u us := (srtP_perm _).mem_iff.mp (by rw [hsr]; exact List.mem_cons_self)
              have pw := srtP_le (nearP es u us)
              rw [hsr] at pw mr
              have le0 : lePr r0 r := by
                rcases List.mem_cons.mp mr with mr | mr
                · rw [mr]
                  exact lePr_refl _
                · exact (List.pairwise_cons.mp pw).1 r mr
              have : r0 = r := lePr_anti le0 (le r0 h0)
              simp only [dueV, due, hsr, List.head?_cons, Option.map_some, this]
          have nmr := rep_len (net.nm _ (hus _ (nearP_mem hr).1))
          refine .inr ⟨r.2, rfl, nmr, ?_⟩
          refine g_cb (g_cons (g_ev (v := .str r.2) (Evl.ev_var (by rw [this]; rfl)) fun HI eI => g_nil (.inr ⟨r.2, rfl, nmr, rfl, ?_⟩)))
          rw [decide_eq_true rfl]
          exact q3 HI eI
      · obtain ⟨x7, x8, x9, x10, rfl, b9, P9⟩ := z
        exact ⟨_, _, _, _, _, _, _, _, _, rfl, P9.le (by omega)⟩
    · obtain ⟨x2, x3, x4, x5, x6, x7, x8, x9, x10, rfl, hP⟩ := z
      exact Evl.s_ret Evl.ev_c fun H1 e1 => q H1
end
end Lj

set_option maxHeartbeats 2000000
namespace Lw
open PySem PySem.Spec PyProof.Rows L2 StX Hq Lj
theorem all_mk {l : PySem.W.OpenLaw} {w : World} {K : PySem.W.Frag} {h : Heap} {mg : Str → Option Value} {fa : Addr} (X : K.In h) (G : h.Ns mainGlobals mg) (hfa : mg "law" = some (.ref fa)) {f_law_pen f_law_draw f_law_pick f_law_names f_law_shuffled f_law_small f_law_walks f_law_cycles f_law_rows f_law_total f_law_sunk_cycles f_law_calm f_is_name f_checked_nodes f_is_whole f_is_length f_is_edge f_edge_in_order f_odd_nodes f_negative_edges f_checked_edges f_Network__init f_law_made f_law_gap f_Network_nodes f_check_known_node f_edges_by_node f_LeastJoins__init f_names_of f_joins_of f_other_end f_routes_from f_LeastJoins__routes_from f_without f_LeastJoins__searched_pairing f_LeastJoins__best_pairing f_LeastJoins__points f_LeastJoins_least_length f_Network_edges f_calm_joins f_nearest f_law_first_of f_law C L : Addr} {t_LONGEST_NAME : Tok} {t_MAX_NODES : Tok} {t_MAX_LENGTH : Tok} {t_MAX_EDGES : Tok} {t_MAX_ODD : Tok} {p_Network_nodes : Addr} {rest_Network_nodes : List Value} {p_Network_edges : Addr} {rest_Network_edges : List Value}
    (n_law_pen : PySem.W.nsIn K mainGlobals "_law_pen" = some (some (.ref f_law_pen)))
    (h_law_pen : FnIs K "_law_pen" "_law_pen" (top 61) f_law_pen)
    (n_law_draw : PySem.W.nsIn K mainGlobals "_law_draw" = some (some (.ref f_law_draw)))
    (h_law_draw : FnIs K "_law_draw" "_law_draw" (top 62) f_law_draw)
    (n_law_pick : PySem.W.nsIn K mainGlobals "_law_pick" = some (some (.ref f_law_pick)))
    (h_law_pick : FnIs K "_law_pick" "_law_pick" (top 63) f_law_pick)
    (n_law_names : PySem.W.nsIn K mainGlobals "_law_names" = some (some (.ref f_law_names)))
    (h_law_names : FnIs K "_law_names" "_law_names" (top 65) f_law_names)
    (n_law_shuffled : PySem.W.nsIn K mainGlobals "_law_shuffled" = some (some (.ref f_law_shuffled)))
    (h_law_shuffled : FnIs K "_law_shuffled" "_law_shuffled" (top 64) f_law_shuffled)
    (n_law_small : PySem.W.nsIn K mainGlobals "_law_small" = some (some (.ref f_law_small)))
    (h_law_small : FnIs K "_law_small" "_law_small" (top 66) f_law_small)
    (n_law_walks : PySem.W.nsIn K mainGlobals "_law_walks" = some (some (.ref f_law_walks)))
    (h_law_walks : FnIs K "_law_walks" "_law_walks" (top 70) f_law_walks)
    (n_law_cycles : PySem.W.nsIn K mainGlobals "_law_cycles" = some (some (.ref f_law_cycles)))
    (h_law_cycles : FnIs K "_law_cycles" "_law_cycles" (top 71) f_law_cycles)
    (n_law_rows : PySem.W.nsIn K mainGlobals "_law_rows" = some (some (.ref f_law_rows)))
    (h_law_rows : FnIs K "_law_rows" "_law_rows" (top 68) f_law_rows)
    (n_law_total : PySem.W.nsIn K mainGlobals "_law_total" = some (some (.ref f_law_total)))
    (h_law_total : FnIs K "_law_total" "_law_total" (top 69) f_law_total)
    (n_law_sunk_cycles : PySem.W.nsIn K mainGlobals "_law_sunk_cycles" = some (some (.ref f_law_sunk_cycles)))
    (h_law_sunk_cycles : FnIs K "_law_sunk_cycles" "_law_sunk_cycles" (top 73) f_law_sunk_cycles)
    (n_law_calm : PySem.W.nsIn K mainGlobals "_law_calm" = some (some (.ref f_law_calm)))
    (h_law_calm : FnIs K "_law_calm" "_law_calm" (top 74) f_law_calm)
    (n_is_name : PySem.W.nsIn K mainGlobals "is_name" = some (some (.ref f_is_name)))
    (h_is_name : FnIs K "is_name" "is_name" (top 9) f_is_name)
    (n_checked_nodes : PySem.W.nsIn K mainGlobals "checked_nodes" = some (some (.ref f_checked_nodes)))
    (h_checked_nodes : FnIs K "checked_nodes" "checked_nodes" (top 31) f_checked_nodes)
    (n_is_whole : PySem.W.nsIn K mainGlobals "is_whole" = some (some (.ref f_is_whole)))
    (h_is_whole : FnIs K "is_whole" "is_whole" (top 8) f_is_whole)
    (n_is_length : PySem.W.nsIn K mainGlobals "is_length" = some (some (.ref f_is_length)))
    (h_is_length : FnIs K "is_length" "is_length" (top 10) f_is_length)
    (n_is_edge : PySem.W.nsIn K mainGlobals "_is_edge" = some (some (.ref f_is_edge)))
    (h_is_edge : FnIs K "_is_edge" "_is_edge" (top 33) f_is_edge)
    (n_edge_in_order : PySem.W.nsIn K mainGlobals "edge_in_order" = some (some (.ref f_edge_in_order)))
    (h_edge_in_order : FnIs K "edge_in_order" "edge_in_order" (top 11) f_edge_in_order)
    (n_odd_nodes : PySem.W.nsIn K mainGlobals "odd_nodes" = some (some (.ref f_odd_nodes)))
    (h_odd_nodes : FnIs K "odd_nodes" "odd_nodes" (top 16) f_odd_nodes)
    (n_negative_edges : PySem.W.nsIn K mainGlobals "negative_edges" = some (some (.ref f_negative_edges)))
    (h_negative_edges : FnIs K "negative_edges" "negative_edges" (top 15) f_negative_edges)
    (n_checked_edges : PySem.W.nsIn K mainGlobals "checked_edges" = some (some (.ref f_checked_edges)))
    (h_checked_edges : FnIs K "checked_edges" "checked_edges" (top 32) f_checked_edges)
    (n_law_made : PySem.W.nsIn K mainGlobals "_law_made" = some (some (.ref f_law_made)))
    (h_law_made : FnIs K "_law_made" "_law_made" (top 67) f_law_made)
    (n_law_gap : PySem.W.nsIn K mainGlobals "_law_gap" = some (some (.ref f_law_gap)))
    (h_law_gap : FnIs K "_law_gap" "_law_gap" (top 72) f_law_gap)
    (n_check_known_node : PySem.W.nsIn K mainGlobals "check_known_node" = some (some (.ref f_check_known_node)))
    (h_check_known_node : FnIs K "check_known_node" "check_known_node" (top 34) f_check_known_node)
    (n_edges_by_node : PySem.W.nsIn K mainGlobals "edges_by_node" = some (some (.ref f_edges_by_node)))
    (h_edges_by_node : FnIs K "edges_by_node" "edges_by_node" (top 17) f_edges_by_node)
    (n_names_of : PySem.W.nsIn K mainGlobals "names_of" = some (some (.ref f_names_of)))
    (h_names_of : FnIs K "names_of" "names_of" (top 12) f_names_of)
    (n_joins_of : PySem.W.nsIn K mainGlobals "joins_of" = some (some (.ref f_joins_of)))
    (h_joins_of : FnIs K "joins_of" "joins_of" (top 42) f_joins_of)
    (n_other_end : PySem.W.nsIn K mainGlobals "other_end" = some (some (.ref f_other_end)))
    (h_other_end : FnIs K "other_end" "other_end" (top 14) f_other_end)
    (n_routes_from : PySem.W.nsIn K mainGlobals "routes_from" = some (some (.ref f_routes_from)))
    (h_routes_from : FnIs K "routes_from" "routes_from" (top 43) f_routes_from)
    (n_without : PySem.W.nsIn K mainGlobals "_without" = some (some (.ref f_without)))
    (h_without : FnIs K "_without" "_without" (top 44) f_without)
    (n_calm_joins : PySem.W.nsIn K mainGlobals "calm_joins" = some (some (.ref f_calm_joins)))
    (h_calm_joins : FnIs K "calm_joins" "calm_joins" (top 47) f_calm_joins)
    (n_nearest : PySem.W.nsIn K mainGlobals "nearest" = some (some (.ref f_nearest)))
    (h_nearest : FnIs K "nearest" "nearest" (top 57) f_nearest)
    (n_law_first_of : PySem.W.nsIn K mainGlobals "_law_first_of" = some (some (.ref f_law_first_of)))
    (h_law_first_of : FnIs K "_law_first_of" "_law_first_of" (top 75) f_law_first_of)
    (n_law : PySem.W.nsIn K mainGlobals "law" = some (some (.ref f_law)))
    (h_law : FnIs K "law" "law" (top 76) f_law)
    (b_len : PySem.W.nsIn K mainGlobals "len" = some none)
    (b_abs : PySem.W.nsIn K mainGlobals "abs" = some none)
    (b_range : PySem.W.nsIn K mainGlobals "range" = some none)
    (b_list : PySem.W.nsIn K mainGlobals "list" = some none)
    (b_tuple : PySem.W.nsIn K mainGlobals "tuple" = some none)
    (b_int : PySem.W.nsIn K mainGlobals "int" = some none)
    (b_min : PySem.W.nsIn K mainGlobals "min" = some none)
    (b_max : PySem.W.nsIn K mainGlobals "max" = some none)
    (b_sorted : PySem.W.nsIn K mainGlobals "sorted" = some none)
    (b_str : PySem.W.nsIn K mainGlobals "str" = some none)
    (b_repr : PySem.W.nsIn K mainGlobals "repr" = some none)
    (b_isinstance : PySem.W.nsIn K mainGlobals "isinstance" = some none)
    (b_bool : PySem.W.nsIn K mainGlobals "bool" = some none)
    (b_enumerate : PySem.W.nsIn K mainGlobals "enumerate" = some none)
    (b_zip : PySem.W.nsIn K mainGlobals "zip" = some none)
    (b_dict : PySem.W.nsIn K mainGlobals "dict" = some none)
    (b_set : PySem.W.nsIn K mainGlobals "set" = some none)
    (b_any : PySem.W.nsIn K mainGlobals "any" = some none)
    (b_all : PySem.W.nsIn K mainGlobals "all" = some none)
    (b_sum : PySem.W.nsIn K mainGlobals "sum" = some none)
    (b_type : PySem.W.nsIn K mainGlobals "type" = some none)
    (n_C : PySem.W.nsIn K mainGlobals "Network" = some (some (.ref C)))
    (pg_C : PySem.W.plainGet K C Str.empty = true)
    (hd_C : PySem.W.hasDictIn K C = true)
    (po_C : PySem.W.plainOver K C = true)
    (sa_C : PySem.W.findIn K (.ref C) "__setattr__" = some (some (.builtin "object.__setattr__")))
    (a0_C : PySem.W.findIn K (.ref C) "_nodes" = some none)
    (a1_C : PySem.W.findIn K (.ref C) "_edges" = some none)
    (a2_C : PySem.W.findIn K (.ref C) "_by_name" = some none)
    (mk_C : PySem.W.makesIn K C = true)
    (ini_C : PySem.W.findIn K (.ref C) "__init__" = some (some (.ref f_Network__init)))
    (ifn_C : PySem.W.isFn K (.ref f_Network__init) = true)
    (kc_C : PySem.W.keepIn K (.ref C) = true)
    (n_L : PySem.W.nsIn K mainGlobals "LeastJoins" = some (some (.ref L)))
    (pg_L : PySem.W.plainGet K L Str.empty = true)
    (hd_L : PySem.W.hasDictIn K L = true)
    (po_L : PySem.W.plainOver K L = true)
    (sa_L : PySem.W.findIn K (.ref L) "__setattr__" = some (some (.builtin "object.__setattr__")))
    (a0_L : PySem.W.findIn K (.ref L) "_edge_of" = some none)
    (a1_L : PySem.W.findIn K (.ref L) "_steps" = some none)
    (a2_L : PySem.W.findIn K (.ref L) "_counted" = some none)
    (a3_L : PySem.W.findIn K (.ref L) "_odd" = some none)
    (a4_L : PySem.W.findIn K (.ref L) "_base" = some none)
    (a5_L : PySem.W.findIn K (.ref L) "_routes" = some none)
    (a6_L : PySem.W.findIn K (.ref L) "_best" = some none)
    (mk_L : PySem.W.makesIn K L = true)
    (ini_L : PySem.W.findIn K (.ref L) "__init__" = some (some (.ref f_LeastJoins__init)))
    (ifn_L : PySem.W.isFn K (.ref f_LeastJoins__init) = true)
    (kc_L : PySem.W.keepIn K (.ref L) = true)
    (v_LONGEST_NAME : PySem.W.nsIn K mainGlobals "LONGEST_NAME" = some (some (.int 8 t_LONGEST_NAME)))
    (kss : PySem.W.kitOne K (.type "str") (.type "str") = some true)
    (v_MAX_NODES : PySem.W.nsIn K mainGlobals "MAX_NODES" = some (some (.int 40 t_MAX_NODES)))
    (kl : PySem.W.kitAny K (.type "list") [.type "list", .type "tuple"] = some true)
    (kt : PySem.W.kitAny K (.type "tuple") [.type "list", .type "tuple"] = some true)
    (v_MAX_LENGTH : PySem.W.nsIn K mainGlobals "MAX_LENGTH" = some (some (.int 1000000 t_MAX_LENGTH)))
    (kii : PySem.W.kitOne K (.type "int") (.type "int") = some true)
    (kib : PySem.W.kitOne K (.type "int") (.type "bool") = some false)
    (ktt : PySem.W.kitOne K (.type "tuple") (.type "tuple") = some true)
    (v_MAX_EDGES : PySem.W.nsIn K mainGlobals "MAX_EDGES" = some (some (.int 100 t_MAX_EDGES)))
    (v_MAX_ODD : PySem.W.nsIn K mainGlobals "MAX_ODD" = some (some (.int 10 t_MAX_ODD)))
    (pa_Network_nodes : PySem.W.findIn K (.ref C) "nodes" = some (some (.ref p_Network_nodes)))
    (pg_Network_nodes : PySem.W.specialIn K (.ref p_Network_nodes) "__get__" = some (some (.builtin "property.__get__")))
    (pt_Network_nodes : PySem.W.takesIn K (.ref p_Network_nodes) = some true)
    (pr_Network_nodes : PySem.W.recIn K p_Network_nodes "property" = some (.ref f_Network_nodes :: rest_Network_nodes))
    (v_g_heappop : PySem.W.nsIn K mainGlobals "heappop" = some (some (.builtin "_heapq.heappop")))
    (v_g_heappush : PySem.W.nsIn K mainGlobals "heappush" = some (some (.builtin "_heapq.heappush")))
    (q_LeastJoins__best_pairing : PySem.W.findIn K (.ref L) "_best_pairing" = some (some (.ref f_LeastJoins__best_pairing)))
    (i_LeastJoins__best_pairing : PySem.W.isFn K (.ref f_LeastJoins__best_pairing) = true)
    (kp_LeastJoins__best_pairing : PySem.W.keepIn K (.ref f_LeastJoins__best_pairing) = true)
    (q_LeastJoins__searched_pairing : PySem.W.findIn K (.ref L) "_searched_pairing" = some (some (.ref f_LeastJoins__searched_pairing)))
    (i_LeastJoins__searched_pairing : PySem.W.isFn K (.ref f_LeastJoins__searched_pairing) = true)
    (kp_LeastJoins__searched_pairing : PySem.W.keepIn K (.ref f_LeastJoins__searched_pairing) = true)
    (q_LeastJoins__routes_from : PySem.W.findIn K (.ref L) "_routes_from" = some (some (.ref f_LeastJoins__routes_from)))
    (i_LeastJoins__routes_from : PySem.W.isFn K (.ref f_LeastJoins__routes_from) = true)
    (kp_LeastJoins__routes_from : PySem.W.keepIn K (.ref f_LeastJoins__routes_from) = true)
    (q_LeastJoins_best_pairing : PySem.W.findIn K (.ref L) "_best_pairing" = some (some (.ref f_LeastJoins__best_pairing)))
    (i_LeastJoins_best_pairing : PySem.W.isFn K (.ref f_LeastJoins__best_pairing) = true)
    (kp_LeastJoins_best_pairing : PySem.W.keepIn K (.ref f_LeastJoins__best_pairing) = true)
    (q_LeastJoins_points : PySem.W.findIn K (.ref L) "_points" = some (some (.ref f_LeastJoins__points)))
    (i_LeastJoins_points : PySem.W.isFn K (.ref f_LeastJoins__points) = true)
    (kp_LeastJoins_points : PySem.W.keepIn K (.ref f_LeastJoins__points) = true)
    (q_LeastJoins_least_length : PySem.W.findIn K (.ref L) "least_length" = some (some (.ref f_LeastJoins_least_length)))
    (i_LeastJoins_least_length : PySem.W.isFn K (.ref f_LeastJoins_least_length) = true)
    (kp_LeastJoins_least_length : PySem.W.keepIn K (.ref f_LeastJoins_least_length) = true)
    (pa_Network_edges : PySem.W.findIn K (.ref C) "edges" = some (some (.ref p_Network_edges)))
    (pg_Network_edges : PySem.W.specialIn K (.ref p_Network_edges) "__get__" = some (some (.builtin "property.__get__")))
    (pt_Network_edges : PySem.W.takesIn K (.ref p_Network_edges) = some true)
    (pr_Network_edges : PySem.W.recIn K p_Network_edges "property" = some (.ref f_Network_edges :: rest_Network_edges))
    (kp_calm_joins : PySem.W.keepIn K (.ref f_calm_joins) = true)
    (kp_nearest : PySem.W.keepIn K (.ref f_nearest) = true)
    (h_Network__init : FnIs1 K "__init__" "Network.__init__" (inClass (top 59) 3) f_Network__init)
    (h_Network_nodes : FnIs K "nodes" "Network.nodes" (inClass (top 59) 7) f_Network_nodes)
    (h_LeastJoins__init : FnIs K "__init__" "LeastJoins.__init__" (inClass (top 41) 0) f_LeastJoins__init)
    (h_LeastJoins__routes_from : FnIs K "_routes_from" "LeastJoins._routes_from" (inClass (top 41) 7) f_LeastJoins__routes_from)
    (h_LeastJoins__searched_pairing : FnIs K "_searched_pairing" "LeastJoins._searched_pairing" (inClass (top 41) 6) f_LeastJoins__searched_pairing)
    (h_LeastJoins__best_pairing : FnIs K "_best_pairing" "LeastJoins._best_pairing" (inClass (top 41) 5) f_LeastJoins__best_pairing)
    (h_LeastJoins__points : FnIs K "_points" "LeastJoins._points" (inClass (top 41) 4) f_LeastJoins__points)
    (h_LeastJoins_least_length : FnIs K "least_length" "LeastJoins.least_length" (inClass (top 41) 1) f_LeastJoins_least_length)
    (h_Network_edges : FnIs K "edges" "Network.edges" (inClass (top 59) 8) f_Network_edges)
    : ∃ fd : FuncData, (∀ (s : Shared) (v : Value), BindsTo s fd ⟨[v], []⟩ [("_law_script", v)]) ∧ ∀ base : Heap, K.In base → base.Ns mainGlobals mg → Gd.HasMods base → Gd.FnG l.prog w K mg base CX0 41 fa fd ["_law_script"] (spLaw K) := by
  have e := hfa.symm.trans (PySem.W.mg_of X G n_law)
  cases e
  have T : Bs mg bl := ⟨fun x hx => by
    have hx : x ∈ (["len", "abs", "range", "list", "tuple", "int", "min", "max", "sorted", "str", "repr", "isinstance", "bool", "enumerate", "zip", "dict", "set", "any", "all", "sum", "type"] : List Str) := hx
    simp only [List.mem_cons, List.mem_nil_iff, or_false] at hx
    rcases hx with rfl | rfl | rfl | rfl | rfl | rfl | rfl | rfl | rfl | rfl | rfl | rfl | rfl | rfl | rfl | rfl | rfl | rfl | rfl | rfl | rfl
    · exact PySem.W.mg_none_of X G b_len
    · exact PySem.W.mg_none_of X G b_abs
    · exact PySem.W.mg_none_of X G b_range
    · exact PySem.W.mg_none_of X G b_list
    · exact PySem.W.mg_none_of X G b_tuple
    · exact PySem.W.mg_none_of X G b_int
    · exact PySem.W.mg_none_of X G b_min
    · exact PySem.W.mg_none_of X G b_max
    · exact PySem.W.mg_none_of X G b_sorted
    · exact PySem.W.mg_none_of X G b_str
    · exact PySem.W.mg_none_of X G b_repr
    · exact PySem.W.mg_none_of X G b_isinstance
    · exact PySem.W.mg_none_of X G b_bool
    · exact PySem.W.mg_none_of X G b_enumerate
    · exact PySem.W.mg_none_of X G b_zip
    · exact PySem.W.mg_none_of X G b_dict
    · exact PySem.W.mg_none_of X G b_set
    · exact PySem.W.mg_none_of X G b_any
    · exact PySem.W.mg_none_of X G b_all
    · exact PySem.W.mg_none_of X G b_sum
    · exact PySem.W.mg_none_of X G b_type⟩
  obtain ⟨d_law_pen, G_law_pen⟩ := h_law_pen.fn
  have b_fn_law_pen := G_law_pen.binds (ps := ["_law_script"]) fun _ _ _ _ _ _ us hl => match us, hl with | [_], _ => rfl
  obtain ⟨d_law_draw, G_law_draw⟩ := h_law_draw.fn
  have b_fn_law_draw := G_law_draw.binds (ps := ["_law_pen_here", "_law_many"]) fun _ _ _ _ _ _ us hl => match us, hl with | [_, _], _ => rfl
  obtain ⟨d_law_pick, G_law_pick⟩ := h_law_pick.fn
  have b_fn_law_pick := G_law_pick.binds (ps := ["_law_pen_here", "_law_options"]) fun _ _ _ _ _ _ us hl => match us, hl with | [_, _], _ => rfl
  obtain ⟨d_law_names, G_law_names⟩ := h_law_names.fn
  have b_fn_law_names := G_law_names.binds (ps := ["_law_pen_here", "_law_many"]) fun _ _ _ _ _ _ us hl => match us, hl with | [_, _], _ => rfl
  obtain ⟨d_law_shuffled, G_law_shuffled⟩ := h_law_shuffled.fn
  have b_fn_law_shuffled := G_law_shuffled.binds (ps := ["_law_pen_here", "_law_items"]) fun _ _ _ _ _ _ us hl => match us, hl with | [_, _], _ => rfl
  obtain ⟨d_law_small, G_law_small⟩ := h_law_small.fn
  have b_fn_law_small := G_law_small.binds (ps := ["_law_pen_here", "_law_least", "_law_upto", "_law_wide"]) fun _ _ _ _ _ _ us hl => match us, hl with | [_, _, _, _], _ => rfl
  obtain ⟨d_law_walks, G_law_walks⟩ := h_law_walks.fn
  have b_fn_law_walks := G_law_walks.binds (ps := ["_law_edges", "_law_u", "_law_v"]) fun _ _ _ _ _ _ us hl => match us, hl with | [_, _, _], _ => rfl
  obtain ⟨d_law_cycles, G_law_cycles⟩ := h_law_cycles.fn
  have b_fn_law_cycles := G_law_cycles.binds (ps := ["_law_edges"]) fun _ _ _ _ _ _ us hl => match us, hl with | [_], _ => rfl
  obtain ⟨d_law_rows, G_law_rows⟩ := h_law_rows.fn
  have b_fn_law_rows := G_law_rows.binds (ps := ["_law_network", "_law_names_here"]) fun _ _ _ _ _ _ us hl => match us, hl with | [_, _], _ => rfl
  obtain ⟨d_law_total, G_law_total⟩ := h_law_total.fn
  have b_fn_law_total := G_law_total.binds (ps := ["_law_edges"]) fun _ _ _ _ _ _ us hl => match us, hl with | [_], _ => rfl
  obtain ⟨d_law_sunk_cycles, G_law_sunk_cycles⟩ := h_law_sunk_cycles.fn
  have b_fn_law_sunk_cycles := G_law_sunk_cycles.binds (ps := ["_law_network"]) fun _ _ _ _ _ _ us hl => match us, hl with | [_], _ => rfl
  obtain ⟨d_law_calm, G_law_calm⟩ := h_law_calm.fn
  have b_fn_law_calm := G_law_calm.binds (ps := ["_law_pen_here", "_law_least", "_law_upto", "_law_wide"]) fun _ _ _ _ _ _ us hl => match us, hl with | [_, _, _, _], _ => rfl
  obtain ⟨d_is_name, G_is_name⟩ := h_is_name.fn
  have b_fn_is_name := G_is_name.binds (ps := ["value"]) fun _ _ _ _ _ _ us hl => match us, hl with | [_], _ => rfl
  obtain ⟨d_checked_nodes, G_checked_nodes⟩ := h_checked_nodes.fn
  have b_fn_checked_nodes := G_checked_nodes.binds (ps := ["nodes"]) fun _ _ _ _ _ _ us hl => match us, hl with | [_], _ => rfl
  obtain ⟨d_is_whole, G_is_whole⟩ := h_is_whole.fn
  have b_fn_is_whole := G_is_whole.binds (ps := ["value"]) fun _ _ _ _ _ _ us hl => match us, hl with | [_], _ => rfl
  obtain ⟨d_is_length, G_is_length⟩ := h_is_length.fn
  have b_fn_is_length := G_is_length.binds (ps := ["value"]) fun _ _ _ _ _ _ us hl => match us, hl with | [_], _ => rfl
  obtain ⟨d_is_edge, G_is_edge⟩ := h_is_edge.fn
  have b_fn_is_edge := G_is_edge.binds (ps := ["nodes", "value"]) fun _ _ _ _ _ _ us hl => match us, hl with | [_, _], _ => rfl
  obtain ⟨d_edge_in_order, G_edge_in_order⟩ := h_edge_in_order.fn
  have b_fn_edge_in_order := G_edge_in_order.binds (ps := ["edge"]) fun _ _ _ _ _ _ us hl => match us, hl with | [_], _ => rfl
  obtain ⟨d_odd_nodes, G_odd_nodes⟩ := h_odd_nodes.fn
  have b_fn_odd_nodes := G_odd_nodes.binds (ps := ["edges"]) fun _ _ _ _ _ _ us hl => match us, hl with | [_], _ => rfl
  obtain ⟨d_negative_edges, G_negative_edges⟩ := h_negative_edges.fn
  have b_fn_negative_edges := G_negative_edges.binds (ps := ["edges"]) fun _ _ _ _ _ _ us hl => match us, hl with | [_], _ => rfl
  obtain ⟨d_checked_edges, G_checked_edges⟩ := h_checked_edges.fn
  have b_fn_checked_edges := G_checked_edges.binds (ps := ["nodes", "edges"]) fun _ _ _ _ _ _ us hl => match us, hl with | [_, _], _ => rfl
  obtain ⟨d_Network__init, E_Network__init, G_Network__init⟩ := h_Network__init.fn
  obtain ⟨ds_Network__init, vd_Network__init, b_fn_Network__init⟩ := G_Network__init.binds1 (ps := ["self", "nodes", "edges"]) 3 1 (by simp) rfl fun T kV doc pm an cdv ct us its l1 l2 => ⟨_, rfl, match us, l1, its, l2 with | [_, _, _], _, [_], _ => rfl⟩
  cases vd_Network__init
  obtain ⟨d_law_made, G_law_made⟩ := h_law_made.fn
  have b_fn_law_made := G_law_made.binds (ps := ["_law_network"]) fun _ _ _ _ _ _ us hl => match us, hl with | [_], _ => rfl
  obtain ⟨d_law_gap, G_law_gap⟩ := h_law_gap.fn
  have b_fn_law_gap := G_law_gap.binds (ps := ["_law_network", "_law_u", "_law_v"]) fun _ _ _ _ _ _ us hl => match us, hl with | [_, _, _], _ => rfl
  obtain ⟨d_Network_nodes, G_Network_nodes⟩ := h_Network_nodes.fn
  have b_fn_Network_nodes := G_Network_nodes.binds (ps := ["self"]) fun _ _ _ _ _ _ us hl => match us, hl with | [_], _ => rfl
  obtain ⟨d_check_known_node, G_check_known_node⟩ := h_check_known_node.fn
  have b_fn_check_known_node := G_check_known_node.binds (ps := ["network", "value"]) fun _ _ _ _ _ _ us hl => match us, hl with | [_, _], _ => rfl
  obtain ⟨d_edges_by_node, G_edges_by_node⟩ := h_edges_by_node.fn
  have b_fn_edges_by_node := G_edges_by_node.binds (ps := ["edges"]) fun _ _ _ _ _ _ us hl => match us, hl with | [_], _ => rfl
  obtain ⟨d_LeastJoins__init, G_LeastJoins__init⟩ := h_LeastJoins__init.fn
  have b_fn_LeastJoins__init := G_LeastJoins__init.binds (ps := ["self", "edges", "counted"]) fun _ _ _ _ _ _ us hl => match us, hl with | [_, _, _], _ => rfl
  obtain ⟨d_names_of, G_names_of⟩ := h_names_of.fn
  have b_fn_names_of := G_names_of.binds (ps := ["edges"]) fun _ _ _ _ _ _ us hl => match us, hl with | [_], _ => rfl
  obtain ⟨d_joins_of, G_joins_of⟩ := h_joins_of.fn
  have b_fn_joins_of := G_joins_of.binds (ps := ["edges"]) fun _ _ _ _ _ _ us hl => match us, hl with | [_], _ => rfl
  obtain ⟨d_other_end, G_other_end⟩ := h_other_end.fn
  have b_fn_other_end := G_other_end.binds (ps := ["edge", "node"]) fun _ _ _ _ _ _ us hl => match us, hl with | [_, _], _ => rfl
  obtain ⟨d_routes_from, G_routes_from⟩ := h_routes_from.fn
  have b_fn_routes_from := G_routes_from.binds (ps := ["steps", "start"]) fun _ _ _ _ _ _ us hl => match us, hl with | [_, _], _ => rfl
  obtain ⟨d_LeastJoins__routes_from, G_LeastJoins__routes_from⟩ := h_LeastJoins__routes_from.fn
  have b_fn_LeastJoins__routes_from := G_LeastJoins__routes_from.binds (ps := ["self", "start"]) fun _ _ _ _ _ _ us hl => match us, hl with | [_, _], _ => rfl
  obtain ⟨d_without, G_without⟩ := h_without.fn
  have b_fn_without := G_without.binds (ps := ["points", "one", "other"]) fun _ _ _ _ _ _ us hl => match us, hl with | [_, _, _], _ => rfl
  obtain ⟨d_LeastJoins__searched_pairing, G_LeastJoins__searched_pairing⟩ := h_LeastJoins__searched_pairing.fn
  have b_fn_LeastJoins__searched_pairing := G_LeastJoins__searched_pairing.binds (ps := ["self", "points"]) fun _ _ _ _ _ _ us hl => match us, hl with | [_, _], _ => rfl
  obtain ⟨d_LeastJoins__best_pairing, G_LeastJoins__best_pairing⟩ := h_LeastJoins__best_pairing.fn
  have b_fn_LeastJoins__best_pairing := G_LeastJoins__best_pairing.binds (ps := ["self", "points"]) fun _ _ _ _ _ _ us hl => match us, hl with | [_, _], _ => rfl
  obtain ⟨d_LeastJoins__points, G_LeastJoins__points⟩ := h_LeastJoins__points.fn
  have b_fn_LeastJoins__points := G_LeastJoins__points.binds (ps := ["self", "ends"]) fun _ _ _ _ _ _ us hl => match us, hl with | [_, _], _ => rfl
  obtain ⟨d_LeastJoins_least_length, G_LeastJoins_least_length⟩ := h_LeastJoins_least_length.fn
  have b_fn_LeastJoins_least_length := G_LeastJoins_least_length.binds (ps := ["self", "ends"]) fun _ _ _ _ _ _ us hl => match us, hl with | [_, _], _ => rfl
  obtain ⟨d_Network_edges, G_Network_edges⟩ := h_Network_edges.fn
  have b_fn_Network_edges := G_Network_edges.binds (ps := ["self"]) fun _ _ _ _ _ _ us hl => match us, hl with | [_], _ => rfl
  obtain ⟨d_law_first_of, G_law_first_of⟩ := h_law_first_of.fn
  have b_fn_law_first_of := G_law_first_of.binds (ps := ["_law_network", "_law_u", "_law_x"]) fun _ _ _ _ _ _ us hl => match us, hl with | [_, _, _], _ => rfl
  obtain ⟨d_law, G_law⟩ := h_law.fn
  have b_fn_law := G_law.binds (ps := ["_law_script"]) fun _ _ _ _ _ _ us hl => match us, hl with | [_], _ => rfl
  obtain ⟨oc, od, kV, doc, pm, an, cdv, ct, osl, el, lk, hcd⟩ := G_law.ex
  refine ⟨d_law, fun s v => ?_, fun base inB nsB hm => ?_⟩
  · rw [el]
    exact .of_eq rfl
  have NN : NwT K C := ⟨⟨pg_C, hd_C, po_C, sa_C⟩, a0_C, a1_C, a2_C⟩
  have g_C := PySem.W.mg_of X G n_C
  have M_C : Mk K C f_Network__init := ⟨mk_C, ini_C, ifn_C, kc_C⟩
  have NL : LjT K L := ⟨⟨pg_L, hd_L, po_L, sa_L⟩, a0_L, a1_L, a2_L, a3_L, a4_L, a5_L, a6_L⟩
  have g_L := PySem.W.mg_of X G n_L
  have M_L : Mk K L f_LeastJoins__init := ⟨mk_L, ini_L, ifn_L, kc_L⟩
  have K_law_pen := cf_mk X G n_law_pen G_law_pen b_fn_law_pen (ok_pen (P := l.prog) (w := w) (base := base) (k := 0) G_law_pen T)
  have K_law_draw := cf_mk X G n_law_draw G_law_draw b_fn_law_draw (ok_draw (P := l.prog) (w := w) (base := base) (k := 0) G_law_draw T)
  have K_law_pick := cf_mk X G n_law_pick G_law_pick b_fn_law_pick (ok_pick (P := l.prog) (w := w) (base := base) (k := 1) G_law_pick T (K_law_draw.up (by decide)))
  have K_law_names := cf_mk X G n_law_names G_law_names b_fn_law_names (ok_names (P := l.prog) (w := w) (base := base) (k := 2) G_law_names T (K_law_draw.up (by decide)) (K_law_pick.up (by decide)))
  have K_law_shuffled := cf_mk X G n_law_shuffled G_law_shuffled b_fn_law_shuffled (ok_shuffled (P := l.prog) (w := w) (base := base) (k := 1) G_law_shuffled T (K_law_draw.up (by decide)))
  have K_law_small := cf_mk X G n_law_small G_law_small b_fn_law_small (ok_small (P := l.prog) (w := w) (base := base) (k := 3) G_law_small T (K_law_draw.up (by decide)) (K_law_pick.up (by decide)) (K_law_names.up (by decide)) (K_law_shuffled.up (by decide)))
  have K_law_walks := cf_mk X G n_law_walks G_law_walks b_fn_law_walks (ok_walks (P := l.prog) (w := w) (base := base) (k := 0) G_law_walks T)
  have K_law_cycles := cf_mk X G n_law_cycles G_law_cycles b_fn_law_cycles (ok_cyclesL (P := l.prog) (w := w) (base := base) (k := 1) G_law_cycles T (K_law_walks.up (by decide)))
  have K_law_rows := cf_mk X G n_law_rows G_law_rows b_fn_law_rows (ok_rowsL (P := l.prog) (w := w) (base := base) (k := 0) G_law_rows T)
  have K_law_total := cf_mk X G n_law_total G_law_total b_fn_law_total (ok_total (P := l.prog) (w := w) (base := base) (k := 0) G_law_total T)
  have K_law_sunk_cycles := cf_mk X G n_law_sunk_cycles G_law_sunk_cycles b_fn_law_sunk_cycles (ok_sunkC (P := l.prog) (w := w) (base := base) (k := 2) G_law_sunk_cycles T (K_law_cycles.up (by decide)) (K_law_rows.up (by decide)) (K_law_total.up (by decide)))
  have K_law_calm := cf_mk X G n_law_calm G_law_calm b_fn_law_calm (ok_calmL (P := l.prog) (w := w) (base := base) (k := 4) G_law_calm T (K_law_small.up (by decide)) (K_law_sunk_cycles.up (by decide)))
  have K_is_name := cf_mk X G n_is_name G_is_name b_fn_is_name (ok_isname (P := l.prog) (w := w) (base := base) (k := 0) G_is_name T (PySem.W.mg_of X G v_LONGEST_NAME) ⟨_, rfl⟩ kss)
  have K_checked_nodes := cf_mk X G n_checked_nodes G_checked_nodes b_fn_checked_nodes (ok_chnodes (P := l.prog) (w := w) (base := base) (k := 1) G_checked_nodes T (PySem.W.mg_of X G v_MAX_NODES) ⟨_, rfl⟩ kl kt (K_is_name.up (by decide)))
  have K_is_whole := cf_mk X G n_is_whole G_is_whole b_fn_is_whole (ok_iswhole (P := l.prog) (w := w) (base := base) (k := 0) G_is_whole T)
  have K_is_length := cf_mk X G n_is_length G_is_length b_fn_is_length (ok_islength (P := l.prog) (w := w) (base := base) (k := 1) G_is_length T (PySem.W.mg_of X G v_MAX_LENGTH) ⟨_, rfl⟩ (K_is_whole.up (by decide)) kii kib)
  have K_is_edge := cf_mk X G n_is_edge G_is_edge b_fn_is_edge (ok_isedge (P := l.prog) (w := w) (base := base) (k := 2) G_is_edge T ktt (K_is_name.up (by decide)) (K_is_length.up (by decide)))
  have K_edge_in_order := cf_mk X G n_edge_in_order G_edge_in_order b_fn_edge_in_order (ok_ord (P := l.prog) (w := w) (base := base) (k := 0) G_edge_in_order T)
  have K_odd_nodes := cf_mk X G n_odd_nodes G_odd_nodes b_fn_odd_nodes (ok_odd (P := l.prog) (w := w) (base := base) (k := 0) G_odd_nodes T)
  have K_negative_edges := cf_mk X G n_negative_edges G_negative_edges b_fn_negative_edges (ok_neg (P := l.prog) (w := w) (base := base) (k := 0) G_negative_edges T)
  have K_checked_edges := cf_mk X G n_checked_edges G_checked_edges b_fn_checked_edges (ok_chedges (P := l.prog) (w := w) (base := base) (k := 3) G_checked_edges T (PySem.W.mg_of X G v_MAX_EDGES) ⟨_, rfl⟩ (PySem.W.mg_of X G v_MAX_ODD) ⟨_, rfl⟩ kl kt (K_is_edge.up (by decide)) (K_edge_in_order.up (by decide)) (K_odd_nodes.up (by decide)) (K_negative_edges.up (by decide)))
  have O_Network__init := ok_init (P := l.prog) (w := w) (base := base) (k := 4) G_Network__init T NN (K_checked_nodes.up (by decide)) (K_checked_edges.up (by decide))
  have K_law_made := cf_mk X G n_law_made G_law_made b_fn_law_made (ok_made (P := l.prog) (w := w) (base := base) (k := 5) G_law_made T g_C M_C (O_Network__init.mono (by decide)) b_fn_Network__init)
  have K_law_gap := cf_mk X G n_law_gap G_law_gap b_fn_law_gap (ok_gap (P := l.prog) (w := w) (base := base) (k := 1) G_law_gap T (K_law_walks.up (by decide)) (K_law_rows.up (by decide)) (K_law_total.up (by decide)))
  have O_Network_nodes := ok_nodes (P := l.prog) (w := w) (base := base) (k := 0) G_Network_nodes T NN
  have K_check_known_node := cf_mk X G n_check_known_node G_check_known_node b_fn_check_known_node (ok_knownN (P := l.prog) (w := w) (base := base) (k := 1) G_check_known_node T NN ⟨pa_Network_nodes, pg_Network_nodes, pt_Network_nodes, _, pr_Network_nodes⟩ (O_Network_nodes.mono (by decide)) b_fn_Network_nodes)
  have K_edges_by_node := cf_mk X G n_edges_by_node G_edges_by_node b_fn_edges_by_node (ok_bynode (P := l.prog) (w := w) (base := base) (k := 0) G_edges_by_node T)
  have O_LeastJoins__init := ok_ljInit (P := l.prog) (w := w) (base := base) (k := 1) G_LeastJoins__init T NL (K_edges_by_node.up (by decide)) (K_odd_nodes.up (by decide))
  have K_names_of := cf_mk X G n_names_of G_names_of b_fn_names_of (ok_namesL (P := l.prog) (w := w) (base := base) (k := 0) G_names_of T)
  have K_negative_edges_spNegT := cf_mk X G n_negative_edges G_negative_edges b_fn_negative_edges (ok_negT (P := l.prog) (w := w) (base := base) (k := 0) G_negative_edges T)
  have K_joins_of := cf_mk X G n_joins_of G_joins_of b_fn_joins_of (ok_joinsOf (P := l.prog) (w := w) (base := base) (k := 2) G_joins_of T M_L (O_LeastJoins__init.mono (by decide)) g_L b_fn_LeastJoins__init (K_names_of.up (by decide)) (K_negative_edges_spNegT.up (by decide)))
  have K_other_end := cf_mk X G n_other_end G_other_end b_fn_other_end (ok_other (P := l.prog) (w := w) (base := base) (k := 0) G_other_end T)
  have K_routes_from := cf_mk X G n_routes_from G_routes_from b_fn_routes_from (ok_routes (P := l.prog) (w := w) (base := base) (k := 1) G_routes_from T (PySem.W.mg_of X G v_g_heappop) (PySem.W.mg_of X G v_g_heappush) (K_other_end.up (by decide)))
  have O_LeastJoins__routes_from := ok_routesM (P := l.prog) (w := w) (base := base) (k := 2) G_LeastJoins__routes_from T NL (K_routes_from.up (by decide))
  have K_without := cf_mk X G n_without G_without b_fn_without (ok_without (P := l.prog) (w := w) (base := base) (k := 0) G_without T)
  have O_LeastJoins__best_pairing := ok_bests (P := l.prog) (w := w) (base := base) (k := 3) G_LeastJoins__best_pairing G_LeastJoins__searched_pairing T NL ⟨q_LeastJoins__best_pairing, i_LeastJoins__best_pairing, kp_LeastJoins__best_pairing⟩ ⟨q_LeastJoins__searched_pairing, i_LeastJoins__searched_pairing, kp_LeastJoins__searched_pairing⟩ ⟨q_LeastJoins__routes_from, i_LeastJoins__routes_from, kp_LeastJoins__routes_from⟩ b_fn_LeastJoins__best_pairing b_fn_LeastJoins__searched_pairing (O_LeastJoins__routes_from.mono (by decide)) b_fn_LeastJoins__routes_from (K_without.up (by decide)) 14
  have O_LeastJoins__points := ok_points (P := l.prog) (w := w) (base := base) (k := 0) G_LeastJoins__points T NL
  have O_LeastJoins_least_length := ok_length (P := l.prog) (w := w) (base := base) (k := 33) G_LeastJoins_least_length T NL ⟨q_LeastJoins_best_pairing, i_LeastJoins_best_pairing, kp_LeastJoins_best_pairing⟩ ⟨q_LeastJoins_points, i_LeastJoins_points, kp_LeastJoins_points⟩ (O_LeastJoins__best_pairing.mono (by decide)) b_fn_LeastJoins__best_pairing (O_LeastJoins__points.mono (by decide)) b_fn_LeastJoins__points
  have O_Network_edges := ok_edges (P := l.prog) (w := w) (base := base) (k := 0) G_Network_edges T NN
  have O_calm_joins := ok_calmJoins (P := l.prog) (w := w) (base := base) (k := 34) h_calm_joins T NN ⟨pg_L, hd_L, po_L, sa_L⟩ (K_check_known_node.up (by decide)) (K_joins_of.up (by decide)) ⟨q_LeastJoins_least_length, i_LeastJoins_least_length, kp_LeastJoins_least_length⟩ (O_LeastJoins_least_length.mono (by decide)) b_fn_LeastJoins_least_length ⟨pa_Network_edges, pg_Network_edges, pt_Network_edges, _, pr_Network_edges⟩ (O_Network_edges.mono (by decide)) b_fn_Network_edges
  have O_nearest := ok_nearest (P := l.prog) (w := w) (base := base) (k := 36) h_nearest T ⟨pg_L, hd_L, po_L, sa_L⟩ (O_calm_joins.mono (by decide)) kp_calm_joins (PySem.W.mg_of X G n_calm_joins) ⟨q_LeastJoins_least_length, i_LeastJoins_least_length, kp_LeastJoins_least_length⟩ (O_LeastJoins_least_length.mono (by decide)) b_fn_LeastJoins_least_length
  have K_law_first_of := cf_mk X G n_law_first_of G_law_first_of b_fn_law_first_of (ok_first (P := l.prog) (w := w) (base := base) (k := 38) G_law_first_of T (O_nearest.mono (by decide)) kp_nearest (PySem.W.mg_of X G n_nearest))
  exact Gd.FnG.of (ok_law (P := l.prog) (w := w) (base := base) (k := 39) G_law T (K_law_pen.up (by decide)) (K_law_pick.up (by decide)) (K_law_draw.up (by decide)) (K_law_calm.up (by decide)) (K_law_made.up (by decide)) (K_law_gap.up (by decide)) (K_law_first_of.up (by decide)))
end Lw

set_option maxHeartbeats 0
namespace Hv
open PySem PySem.Spec PyProof.Rows L2 Lw
theorem facts {l : PySem.W.OpenLaw} {w : World} {K : PySem.W.Frag} {h : Heap} {mg : Str → Option Value} {fa : Addr} (X : K.In h) (c : Hx.Told fs ds K) (G : h.Ns mainGlobals mg) (hfa : mg "law" = some (.ref fa)) : ∃ fd : FuncData, (∀ (s : Shared) (v : Value), BindsTo s fd ⟨[v], []⟩ [("_law_script", v)]) ∧ ∀ base : Heap, K.In base → base.Ns mainGlobals mg → Gd.HasMods base → Gd.FnG l.prog w K mg base CX0 41 fa fd ["_law_script"] (Lj.spLaw K) := by
  have n_law_pen : PySem.W.nsIn K mainGlobals "_law_pen" = some (some (.ref (a_f_law_pen K))) := He.eqO_ok (show He.eqO (PySem.W.nsIn K mainGlobals "_law_pen") (some (some (.ref (a_f_law_pen K)))) = true from c.fact 0 rfl)
  have h_law_pen : FnIs K "_law_pen" "_law_pen" (top 61) (a_f_law_pen K) := Hx.fnIs_of (c.fn 0 rfl)
  have n_law_draw : PySem.W.nsIn K mainGlobals "_law_draw" = some (some (.ref (a_f_law_draw K))) := He.eqO_ok (show He.eqO (PySem.W.nsIn K mainGlobals "_law_draw") (some (some (.ref (a_f_law_draw K)))) = true from c.fact 1 rfl)
  have h_law_draw : FnIs K "_law_draw" "_law_draw" (top 62) (a_f_law_draw K) := Hx.fnIs_of (c.fn 1 rfl)
  have n_law_pick : PySem.W.nsIn K mainGlobals "_law_pick" = some (some (.ref (a_f_law_pick K))) := He.eqO_ok (show He.eqO (PySem.W.nsIn K mainGlobals "_law_pick") (some (some (.ref (a_f_law_pick K)))) = true from c.fact 2 rfl)
  have h_law_pick : FnIs K "_law_pick" "_law_pick" (top 63) (a_f_law_pick K) := Hx.fnIs_of (c.fn 2 rfl)
  have n_law_names : PySem.W.nsIn K mainGlobals "_law_names" = some (some (.ref (a_f_law_names K))) := He.eqO_ok (show He.eqO (PySem.W.nsIn K mainGlobals "_law_names") (some (some (.ref (a_f_law_names K)))) = true from c.fact 3 rfl)
  have h_law_names : FnIs K "_law_names" "_law_names" (top 65) (a_f_law_names K) := Hx.fnIs_of (c.fn 3 rfl)
  have n_law_shuffled : PySem.W.nsIn K mainGlobals "_law_shuffled" = some (some (.ref (a_f_law_shuffled K))) := He.eqO_ok (show He.eqO (PySem.W.nsIn K mainGlobals "_law_shuffled") (some (some (.ref (a_f_law_shuffled K)))) = true from c.fact 4 rfl)
  have h_law_shuffled : FnIs K "_law_shuffled" "_law_shuffled" (top 64) (a_f_law_shuffled K) := Hx.fnIs_of (c.fn 4 rfl)
  have n_law_small : PySem.W.nsIn K mainGlobals "_law_small" = some (some (.ref (a_f_law_small K))) := He.eqO_ok (show He.eqO (PySem.W.nsIn K mainGlobals "_law_small") (some (some (.ref (a_f_law_small K)))) = true from c.fact 5 rfl)
  have h_law_small : FnIs K "_law_small" "_law_small" (top 66) (a_f_law_small K) := Hx.fnIs_of (c.fn 5 rfl)
  have n_law_walks : PySem.W.nsIn K mainGlobals "_law_walks" = some (some (.ref (a_f_law_walks K))) := He.eqO_ok (show He.eqO (PySem.W.nsIn K mainGlobals "_law_walks") (some (some (.ref (a_f_law_walks K)))) = true from c.fact 6 rfl)
  have h_law_walks : FnIs K "_law_walks" "_law_walks" (top 70) (a_f_law_walks K) := Hx.fnIs_of (c.fn 6 rfl)
  have n_law_cycles : PySem.W.nsIn K mainGlobals "_law_cycles" = some (some (.ref (a_f_law_cycles K))) := He.eqO_ok (show He.eqO (PySem.W.nsIn K mainGlobals "_law_cycles") (some (some (.ref (a_f_law_cycles K)))) = true from c.fact 7 rfl)
  have h_law_cycles : FnIs K "_law_cycles" "_law_cycles" (top 71) (a_f_law_cycles K) := Hx.fnIs_of (c.fn 7 rfl)
  have n_law_rows : PySem.W.nsIn K mainGlobals "_law_rows" = some (some (.ref (a_f_law_rows K))) := He.eqO_ok (show He.eqO (PySem.W.nsIn K mainGlobals "_law_rows") (some (some (.ref (a_f_law_rows K)))) = true from c.fact 8 rfl)
  have h_law_rows : FnIs K "_law_rows" "_law_rows" (top 68) (a_f_law_rows K) := Hx.fnIs_of (c.fn 8 rfl)
  have n_law_total : PySem.W.nsIn K mainGlobals "_law_total" = some (some (.ref (a_f_law_total K))) := He.eqO_ok (show He.eqO (PySem.W.nsIn K mainGlobals "_law_total") (some (some (.ref (a_f_law_total K)))) = true from c.fact 9 rfl)
  have h_law_total : FnIs K "_law_total" "_law_total" (top 69) (a_f_law_total K) := Hx.fnIs_of (c.fn 9 rfl)
  have n_law_sunk_cycles : PySem.W.nsIn K mainGlobals "_law_sunk_cycles" = some (some (.ref (a_f_law_sunk_cycles K))) := He.eqO_ok (show He.eqO (PySem.W.nsIn K mainGlobals "_law_sunk_cycles") (some (some (.ref (a_f_law_sunk_cycles K)))) = true from c.fact 10 rfl)
  have h_law_sunk_cycles : FnIs K "_law_sunk_cycles" "_law_sunk_cycles" (top 73) (a_f_law_sunk_cycles K) := Hx.fnIs_of (c.fn 10 rfl)
  have n_law_calm : PySem.W.nsIn K mainGlobals "_law_calm" = some (some (.ref (a_f_law_calm K))) := He.eqO_ok (show He.eqO (PySem.W.nsIn K mainGlobals "_law_calm") (some (some (.ref (a_f_law_calm K)))) = true from c.fact 11 rfl)
  have h_law_calm : FnIs K "_law_calm" "_law_calm" (top 74) (a_f_law_calm K) := Hx.fnIs_of (c.fn 11 rfl)
  have n_is_name : PySem.W.nsIn K mainGlobals "is_name" = some (some (.ref (a_f_is_name K))) := He.eqO_ok (show He.eqO (PySem.W.nsIn K mainGlobals "is_name") (some (some (.ref (a_f_is_name K)))) = true from c.fact 12 rfl)
  have h_is_name : FnIs K "is_name" "is_name" (top 9) (a_f_is_name K) := Hx.fnIs_of (c.fn 12 rfl)
  have n_checked_nodes : PySem.W.nsIn K mainGlobals "checked_nodes" = some (some (.ref (a_f_checked_nodes K))) := He.eqO_ok (show He.eqO (PySem.W.nsIn K mainGlobals "checked_nodes") (some (some (.ref (a_f_checked_nodes K)))) = true from c.fact 13 rfl)
  have h_checked_nodes : FnIs K "checked_nodes" "checked_nodes" (top 31) (a_f_checked_nodes K) := Hx.fnIs_of (c.fn 13 rfl)
  have n_is_whole : PySem.W.nsIn K mainGlobals "is_whole" = some (some (.ref (a_f_is_whole K))) := He.eqO_ok (show He.eqO (PySem.W.nsIn K mainGlobals "is_whole") (some (some (.ref (a_f_is_whole K)))) = true from c.fact 14 rfl)
  have h_is_whole : FnIs K "is_whole" "is_whole" (top 8) (a_f_is_whole K) := Hx.fnIs_of (c.fn 14 rfl)
  have n_is_length : PySem.W.nsIn K mainGlobals "is_length" = some (some (.ref (a_f_is_length K))) := He.eqO_ok (show He.eqO (PySem.W.nsIn K mainGlobals "is_length") (some (some (.ref (a_f_is_length K)))) = true from c.fact 15 rfl)
  have h_is_length : FnIs K "is_length" "is_length" (top 10) (a_f_is_length K) := Hx.fnIs_of (c.fn 15 rfl)
  have n_is_edge : PySem.W.nsIn K mainGlobals "_is_edge" = some (some (.ref (a_f_is_edge K))) := He.eqO_ok (show He.eqO (PySem.W.nsIn K mainGlobals "_is_edge") (some (some (.ref (a_f_is_edge K)))) = true from c.fact 16 rfl)
  have h_is_edge : FnIs K "_is_edge" "_is_edge" (top 33) (a_f_is_edge K) := Hx.fnIs_of (c.fn 16 rfl)
  have n_edge_in_order : PySem.W.nsIn K mainGlobals "edge_in_order" = some (some (.ref (a_f_edge_in_order K))) := He.eqO_ok (show He.eqO (PySem.W.nsIn K mainGlobals "edge_in_order") (some (some (.ref (a_f_edge_in_order K)))) = true from c.fact 17 rfl)
  have h_edge_in_order : FnIs K "edge_in_order" "edge_in_order" (top 11) (a_f_edge_in_order K) := Hx.fnIs_of (c.fn 17 rfl)
  have n_odd_nodes : PySem.W.nsIn K mainGlobals "odd_nodes" = some (some (.ref (a_f_odd_nodes K))) := He.eqO_ok (show He.eqO (PySem.W.nsIn K mainGlobals "odd_nodes") (some (some (.ref (a_f_odd_nodes K)))) = true from c.fact 18 rfl)
  have h_odd_nodes : FnIs K "odd_nodes" "odd_nodes" (top 16) (a_f_odd_nodes K) := Hx.fnIs_of (c.fn 18 rfl)
  have n_negative_edges : PySem.W.nsIn K mainGlobals "negative_edges" = some (some (.ref (a_f_negative_edges K))) := He.eqO_ok (show He.eqO (PySem.W.nsIn K mainGlobals "negative_edges") (some (some (.ref (a_f_negative_edges K)))) = true from c.fact 19 rfl)
  have h_negative_edges : FnIs K "negative_edges" "negative_edges" (top 15) (a_f_negative_edges K) := Hx.fnIs_of (c.fn 19 rfl)
  have n_checked_edges : PySem.W.nsIn K mainGlobals "checked_edges" = some (some (.ref (a_f_checked_edges K))) := He.eqO_ok (show He.eqO (PySem.W.nsIn K mainGlobals "checked_edges") (some (some (.ref (a_f_checked_edges K)))) = true from c.fact 20 rfl)
  have h_checked_edges : FnIs K "checked_edges" "checked_edges" (top 32) (a_f_checked_edges K) := Hx.fnIs_of (c.fn 20 rfl)
  have n_law_made : PySem.W.nsIn K mainGlobals "_law_made" = some (some (.ref (a_f_law_made K))) := He.eqO_ok (show He.eqO (PySem.W.nsIn K mainGlobals "_law_made") (some (some (.ref (a_f_law_made K)))) = true from c.fact 21 rfl)
  have h_law_made : FnIs K "_law_made" "_law_made" (top 67) (a_f_law_made K) := Hx.fnIs_of (c.fn 21 rfl)
  have n_law_gap : PySem.W.nsIn K mainGlobals "_law_gap" = some (some (.ref (a_f_law_gap K))) := He.eqO_ok (show He.eqO (PySem.W.nsIn K mainGlobals "_law_gap") (some (some (.ref (a_f_law_gap K)))) = true from c.fact 22 rfl)
  have h_law_gap : FnIs K "_law_gap" "_law_gap" (top 72) (a_f_law_gap K) := Hx.fnIs_of (c.fn 22 rfl)
  have n_check_known_node : PySem.W.nsIn K mainGlobals "check_known_node" = some (some (.ref (a_f_check_known_node K))) := He.eqO_ok (show He.eqO (PySem.W.nsIn K mainGlobals "check_known_node") (some (some (.ref (a_f_check_known_node K)))) = true from c.fact 23 rfl)
  have h_check_known_node : FnIs K "check_known_node" "check_known_node" (top 34) (a_f_check_known_node K) := Hx.fnIs_of (c.fn 23 rfl)
  have n_edges_by_node : PySem.W.nsIn K mainGlobals "edges_by_node" = some (some (.ref (a_f_edges_by_node K))) := He.eqO_ok (show He.eqO (PySem.W.nsIn K mainGlobals "edges_by_node") (some (some (.ref (a_f_edges_by_node K)))) = true from c.fact 24 rfl)
  have h_edges_by_node : FnIs K "edges_by_node" "edges_by_node" (top 17) (a_f_edges_by_node K) := Hx.fnIs_of (c.fn 24 rfl)
  have n_names_of : PySem.W.nsIn K mainGlobals "names_of" = some (some (.ref (a_f_names_of K))) := He.eqO_ok (show He.eqO (PySem.W.nsIn K mainGlobals "names_of") (some (some (.ref (a_f_names_of K)))) = true from c.fact 25 rfl)
  have h_names_of : FnIs K "names_of" "names_of" (top 12) (a_f_names_of K) := Hx.fnIs_of (c.fn 25 rfl)
  have n_joins_of : PySem.W.nsIn K mainGlobals "joins_of" = some (some (.ref (a_f_joins_of K))) := He.eqO_ok (show He.eqO (PySem.W.nsIn K mainGlobals "joins_of") (some (some (.ref (a_f_joins_of K)))) = true from c.fact 26 rfl)
  have h_joins_of : FnIs K "joins_of" "joins_of" (top 42) (a_f_joins_of K) := Hx.fnIs_of (c.fn 26 rfl)
  have n_other_end : PySem.W.nsIn K mainGlobals "other_end" = some (some (.ref (a_f_other_end K))) := He.eqO_ok (show He.eqO (PySem.W.nsIn K mainGlobals "other_end") (some (some (.ref (a_f_other_end K)))) = true from c.fact 27 rfl)
  have h_other_end : FnIs K "other_end" "other_end" (top 14) (a_f_other_end K) := Hx.fnIs_of (c.fn 27 rfl)
  have n_routes_from : PySem.W.nsIn K mainGlobals "routes_from" = some (some (.ref (a_f_routes_from K))) := He.eqO_ok (show He.eqO (PySem.W.nsIn K mainGlobals "routes_from") (some (some (.ref (a_f_routes_from K)))) = true from c.fact 28 rfl)
  have h_routes_from : FnIs K "routes_from" "routes_from" (top 43) (a_f_routes_from K) := Hx.fnIs_of (c.fn 28 rfl)
  have n_without : PySem.W.nsIn K mainGlobals "_without" = some (some (.ref (a_f_without K))) := He.eqO_ok (show He.eqO (PySem.W.nsIn K mainGlobals "_without") (some (some (.ref (a_f_without K)))) = true from c.fact 29 rfl)
  have h_without : FnIs K "_without" "_without" (top 44) (a_f_without K) := Hx.fnIs_of (c.fn 29 rfl)
  have n_calm_joins : PySem.W.nsIn K mainGlobals "calm_joins" = some (some (.ref (a_f_calm_joins K))) := He.eqO_ok (show He.eqO (PySem.W.nsIn K mainGlobals "calm_joins") (some (some (.ref (a_f_calm_joins K)))) = true from c.fact 30 rfl)
  have h_calm_joins : FnIs K "calm_joins" "calm_joins" (top 47) (a_f_calm_joins K) := Hx.fnIs_of (c.fn 30 rfl)
  have n_nearest : PySem.W.nsIn K mainGlobals "nearest" = some (some (.ref (a_f_nearest K))) := He.eqO_ok (show He.eqO (PySem.W.nsIn K mainGlobals "nearest") (some (some (.ref (a_f_nearest K)))) = true from c.fact 31 rfl)
  have h_nearest : FnIs K "nearest" "nearest" (top 57) (a_f_nearest K) := Hx.fnIs_of (c.fn 31 rfl)
  have n_law_first_of : PySem.W.nsIn K mainGlobals "_law_first_of" = some (some (.ref (a_f_law_first_of K))) := He.eqO_ok (show He.eqO (PySem.W.nsIn K mainGlobals "_law_first_of") (some (some (.ref (a_f_law_first_of K)))) = true from c.fact 32 rfl)
  have h_law_first_of : FnIs K "_law_first_of" "_law_first_of" (top 75) (a_f_law_first_of K) := Hx.fnIs_of (c.fn 32 rfl)
  have n_law : PySem.W.nsIn K mainGlobals "law" = some (some (.ref (a_f_law K))) := He.eqO_ok (show He.eqO (PySem.W.nsIn K mainGlobals "law") (some (some (.ref (a_f_law K)))) = true from c.fact 33 rfl)
  have h_law : FnIs K "law" "law" (top 76) (a_f_law K) := Hx.fnIs_of (c.fn 33 rfl)
  have b_len : PySem.W.nsIn K mainGlobals "len" = some none := He.eqO_ok (show He.eqO (PySem.W.nsIn K mainGlobals "len") (some none) = true from c.fact 34 rfl)
  have b_abs : PySem.W.nsIn K mainGlobals "abs" = some none := He.eqO_ok (show He.eqO (PySem.W.nsIn K mainGlobals "abs") (some none) = true from c.fact 35 rfl)
  have b_range : PySem.W.nsIn K mainGlobals "range" = some none := He.eqO_ok (show He.eqO (PySem.W.nsIn K mainGlobals "range") (some none) = true from c.fact 36 rfl)
  have b_list : PySem.W.nsIn K mainGlobals "list" = some none := He.eqO_ok (show He.eqO (PySem.W.nsIn K mainGlobals "list") (some none) = true from c.fact 37 rfl)
  have b_tuple : PySem.W.nsIn K mainGlobals "tuple" = some none := He.eqO_ok (show He.eqO (PySem.W.nsIn K mainGlobals "tuple") (some none) = true from c.fact 38 rfl)
  have b_int : PySem.W.nsIn K mainGlobals "int" = some none := He.eqO_ok (show He.eqO (PySem.W.nsIn K mainGlobals "int") (some none) = true from c.fact 39 rfl)
  have b_min : PySem.W.nsIn K mainGlobals "min" = some none := He.eqO_ok (show He.eqO (PySem.W.nsIn K mainGlobals "min") (some none) = true from c.fact 40 rfl)
  have b_max : PySem.W.nsIn K mainGlobals "max" = some none := He.eqO_ok (show He.eqO (PySem.W.nsIn K mainGlobals "max") (some none) = true from c.fact 41 rfl)
  have b_sorted : PySem.W.nsIn K mainGlobals "sorted" = some none := He.eqO_ok (show He.eqO (PySem.W.nsIn K mainGlobals "sorted") (some none) = true from c.fact 42 rfl)
  have b_str : PySem.W.nsIn K mainGlobals "str" = some none := He.eqO_ok (show He.eqO (PySem.W.nsIn K mainGlobals "str") (some none) = true from c.fact 43 rfl)
  have b_repr : PySem.W.nsIn K mainGlobals "repr" = some none := He.eqO_ok (show He.eqO (PySem.W.nsIn K mainGlobals "repr") (some none) = true from c.fact 44 rfl)
  have b_isinstance : PySem.W.nsIn K mainGlobals "isinstance" = some none := He.eqO_ok (show He.eqO (PySem.W.nsIn K mainGlobals "isinstance") (some none) = true from c.fact 45 rfl)
  have b_bool : PySem.W.nsIn K mainGlobals "bool" = some none := He.eqO_ok (show He.eqO (PySem.W.nsIn K mainGlobals "bool") (some none) = true from c.fact 46 rfl)
  have b_enumerate : PySem.W.nsIn K mainGlobals "enumerate" = some none := He.eqO_ok (show He.eqO (PySem.W.nsIn K mainGlobals "enumerate") (some none) = true from c.fact 47 rfl)
  have b_zip : PySem.W.nsIn K mainGlobals "zip" = some none := He.eqO_ok (show He.eqO (PySem.W.nsIn K mainGlobals "zip") (some none) = true from c.fact 48 rfl)
  have b_dict : PySem.W.nsIn K mainGlobals "dict" = some none := He.eqO_ok (show He.eqO (PySem.W.nsIn K mainGlobals "dict") (some none) = true from c.fact 49 rfl)
  have b_set : PySem.W.nsIn K mainGlobals "set" = some none := He.eqO_ok (show He.eqO (PySem.W.nsIn K mainGlobals "set") (some none) = true from c.fact 50 rfl)
  have b_any : PySem.W.nsIn K mainGlobals "any" = some none := He.eqO_ok (show He.eqO (PySem.W.nsIn K mainGlobals "any") (some none) = true from c.fact 51 rfl)
  have b_all : PySem.W.nsIn K mainGlobals "all" = some none := He.eqO_ok (show He.eqO (PySem.W.nsIn K mainGlobals "all") (some none) = true from c.fact 52 rfl)
  have b_sum : PySem.W.nsIn K mainGlobals "sum" = some none := He.eqO_ok (show He.eqO (PySem.W.nsIn K mainGlobals "sum") (some none) = true from c.fact 53 rfl)
  have b_type : PySem.W.nsIn K mainGlobals "type" = some none := He.eqO_ok (show He.eqO (PySem.W.nsIn K mainGlobals "type") (some none) = true from c.fact 54 rfl)
  have n_C : PySem.W.nsIn K mainGlobals "Network" = some (some (.ref (a_C K))) := He.eqO_ok (show He.eqO (PySem.W.nsIn K mainGlobals "Network") (some (some (.ref (a_C K)))) = true from c.fact 55 rfl)
  have pg_C : PySem.W.plainGet K (a_C K) Str.empty = true := c.fact 56 rfl
  have hd_C : PySem.W.hasDictIn K (a_C K) = true := c.fact 57 rfl
  have po_C : PySem.W.plainOver K (a_C K) = true := c.fact 58 rfl
  have sa_C : PySem.W.findIn K (.ref (a_C K)) "__setattr__" = some (some (.builtin "object.__setattr__")) := He.eqO_ok (show He.eqO (PySem.W.findIn K (.ref (a_C K)) "__setattr__") (some (some (.builtin "object.__setattr__"))) = true from c.fact 59 rfl)
  have a0_C : PySem.W.findIn K (.ref (a_C K)) "_nodes" = some none := He.eqO_ok (show He.eqO (PySem.W.findIn K (.ref (a_C K)) "_nodes") (some none) = true from c.fact 60 rfl)
  have a1_C : PySem.W.findIn K (.ref (a_C K)) "_edges" = some none := He.eqO_ok (show He.eqO (PySem.W.findIn K (.ref (a_C K)) "_edges") (some none) = true from c.fact 61 rfl)
  have a2_C : PySem.W.findIn K (.ref (a_C K)) "_by_name" = some none := He.eqO_ok (show He.eqO (PySem.W.findIn K (.ref (a_C K)) "_by_name") (some none) = true from c.fact 62 rfl)
  have mk_C : PySem.W.makesIn K (a_C K) = true := c.fact 63 rfl
  have ini_C : PySem.W.findIn K (.ref (a_C K)) "__init__" = some (some (.ref (a_f_Network__init K))) := He.eqO_ok (show He.eqO (PySem.W.findIn K (.ref (a_C K)) "__init__") (some (some (.ref (a_f_Network__init K)))) = true from c.fact 64 rfl)
  have ifn_C : PySem.W.isFn K (.ref (a_f_Network__init K)) = true := c.fact 65 rfl
  have kc_C : PySem.W.keepIn K (.ref (a_C K)) = true := c.fact 66 rfl
  have n_L : PySem.W.nsIn K mainGlobals "LeastJoins" = some (some (.ref (a_L K))) := He.eqO_ok (show He.eqO (PySem.W.nsIn K mainGlobals "LeastJoins") (some (some (.ref (a_L K)))) = true from c.fact 67 rfl)
  have pg_L : PySem.W.plainGet K (a_L K) Str.empty = true := c.fact 68 rfl
  have hd_L : PySem.W.hasDictIn K (a_L K) = true := c.fact 69 rfl
  have po_L : PySem.W.plainOver K (a_L K) = true := c.fact 70 rfl
  have sa_L : PySem.W.findIn K (.ref (a_L K)) "__setattr__" = some (some (.builtin "object.__setattr__")) := He.eqO_ok (show He.eqO (PySem.W.findIn K (.ref (a_L K)) "__setattr__") (some (some (.builtin "object.__setattr__"))) = true from c.fact 71 rfl)
  have a0_L : PySem.W.findIn K (.ref (a_L K)) "_edge_of" = some none := He.eqO_ok (show He.eqO (PySem.W.findIn K (.ref (a_L K)) "_edge_of") (some none) = true from c.fact 72 rfl)
  have a1_L : PySem.W.findIn K (.ref (a_L K)) "_steps" = some none := He.eqO_ok (show He.eqO (PySem.W.findIn K (.ref (a_L K)) "_steps") (some none) = true from c.fact 73 rfl)
  have a2_L : PySem.W.findIn K (.ref (a_L K)) "_counted" = some none := He.eqO_ok (show He.eqO (PySem.W.findIn K (.ref (a_L K)) "_counted") (some none) = true from c.fact 74 rfl)
  have a3_L : PySem.W.findIn K (.ref (a_L K)) "_odd" = some none := He.eqO_ok (show He.eqO (PySem.W.findIn K (.ref (a_L K)) "_odd") (some none) = true from c.fact 75 rfl)
  have a4_L : PySem.W.findIn K (.ref (a_L K)) "_base" = some none := He.eqO_ok (show He.eqO (PySem.W.findIn K (.ref (a_L K)) "_base") (some none) = true from c.fact 76 rfl)
  have a5_L : PySem.W.findIn K (.ref (a_L K)) "_routes" = some none := He.eqO_ok (show He.eqO (PySem.W.findIn K (.ref (a_L K)) "_routes") (some none) = true from c.fact 77 rfl)
  have a6_L : PySem.W.findIn K (.ref (a_L K)) "_best" = some none := He.eqO_ok (show He.eqO (PySem.W.findIn K (.ref (a_L K)) "_best") (some none) = true from c.fact 78 rfl)
  have mk_L : PySem.W.makesIn K (a_L K) = true := c.fact 79 rfl
  have ini_L : PySem.W.findIn K (.ref (a_L K)) "__init__" = some (some (.ref (a_f_LeastJoins__init K))) := He.eqO_ok (show He.eqO (PySem.W.findIn K (.ref (a_L K)) "__init__") (some (some (.ref (a_f_LeastJoins__init K)))) = true from c.fact 80 rfl)
  have ifn_L : PySem.W.isFn K (.ref (a_f_LeastJoins__init K)) = true := c.fact 81 rfl
  have kc_L : PySem.W.keepIn K (.ref (a_L K)) = true := c.fact 82 rfl
  obtain ⟨t_LONGEST_NAME, v_LONGEST_NAME⟩ := Hx.intB_ok (show Hx.intB K "LONGEST_NAME" 8 = true from c.fact 83 rfl)
  have kss : PySem.W.kitOne K (.type "str") (.type "str") = some true := Hx.boB_ok (show Hx.boB (PySem.W.kitOne K (.type "str") (.type "str")) (some true) = true from c.fact 84 rfl)
  obtain ⟨t_MAX_NODES, v_MAX_NODES⟩ := Hx.intB_ok (show Hx.intB K "MAX_NODES" 40 = true from c.fact 85 rfl)
  have kl : PySem.W.kitAny K (.type "list") [.type "list", .type "tuple"] = some true := Hx.boB_ok (show Hx.boB (PySem.W.kitAny K (.type "list") [.type "list", .type "tuple"]) (some true) = true from c.fact 86 rfl)
  have kt : PySem.W.kitAny K (.type "tuple") [.type "list", .type "tuple"] = some true := Hx.boB_ok (show Hx.boB (PySem.W.kitAny K (.type "tuple") [.type "list", .type "tuple"]) (some true) = true from c.fact 87 rfl)
  obtain ⟨t_MAX_LENGTH, v_MAX_LENGTH⟩ := Hx.intB_ok (show Hx.intB K "MAX_LENGTH" 1000000 = true from c.fact 88 rfl)
  have kii : PySem.W.kitOne K (.type "int") (.type "int") = some true := Hx.boB_ok (show Hx.boB (PySem.W.kitOne K (.type "int") (.type "int")) (some true) = true from c.fact 89 rfl)
  have kib : PySem.W.kitOne K (.type "int") (.type "bool") = some false := Hx.boB_ok (show Hx.boB (PySem.W.kitOne K (.type "int") (.type "bool")) (some false) = true from c.fact 90 rfl)
  have ktt : PySem.W.kitOne K (.type "tuple") (.type "tuple") = some true := Hx.boB_ok (show Hx.boB (PySem.W.kitOne K (.type "tuple") (.type "tuple")) (some true) = true from c.fact 91 rfl)
  obtain ⟨t_MAX_EDGES, v_MAX_EDGES⟩ := Hx.intB_ok (show Hx.intB K "MAX_EDGES" 100 = true from c.fact 92 rfl)
  obtain ⟨t_MAX_ODD, v_MAX_ODD⟩ := Hx.intB_ok (show Hx.intB K "MAX_ODD" 10 = true from c.fact 93 rfl)
  have pa_Network_nodes : PySem.W.findIn K (.ref (a_C K)) "nodes" = some (some (.ref (a_p_Network_nodes K))) := He.eqO_ok (show He.eqO (PySem.W.findIn K (.ref (a_C K)) "nodes") (some (some (.ref (a_p_Network_nodes K)))) = true from c.fact 94 rfl)
  have pg_Network_nodes : PySem.W.specialIn K (.ref (a_p_Network_nodes K)) "__get__" = some (some (.builtin "property.__get__")) := He.eqO_ok (show He.eqO (PySem.W.specialIn K (.ref (a_p_Network_nodes K)) "__get__") (some (some (.builtin "property.__get__"))) = true from c.fact 95 rfl)
  have pt_Network_nodes : PySem.W.takesIn K (.ref (a_p_Network_nodes K)) = some true := Hx.boB_ok (show Hx.boB (PySem.W.takesIn K (.ref (a_p_Network_nodes K))) (some true) = true from c.fact 96 rfl)
  obtain ⟨rest_Network_nodes, pr_Network_nodes⟩ := Hx.recB_ok (show Hx.recB K (a_p_Network_nodes K) "property" = true from c.fact 97 rfl)
  have v_g_heappop : PySem.W.nsIn K mainGlobals "heappop" = some (some (.builtin "_heapq.heappop")) := He.eqO_ok (show He.eqO (PySem.W.nsIn K mainGlobals "heappop") (some (some (.builtin "_heapq.heappop"))) = true from c.fact 98 rfl)
  have v_g_heappush : PySem.W.nsIn K mainGlobals "heappush" = some (some (.builtin "_heapq.heappush")) := He.eqO_ok (show He.eqO (PySem.W.nsIn K mainGlobals "heappush") (some (some (.builtin "_heapq.heappush"))) = true from c.fact 99 rfl)
  have q_LeastJoins__best_pairing : PySem.W.findIn K (.ref (a_L K)) "_best_pairing" = some (some (.ref (a_f_LeastJoins__best_pairing K))) := He.eqO_ok (show He.eqO (PySem.W.findIn K (.ref (a_L K)) "_best_pairing") (some (some (.ref (a_f_LeastJoins__best_pairing K)))) = true from c.fact 100 rfl)
  have i_LeastJoins__best_pairing : PySem.W.isFn K (.ref (a_f_LeastJoins__best_pairing K)) = true := c.fact 101 rfl
  have kp_LeastJoins__best_pairing : PySem.W.keepIn K (.ref (a_f_LeastJoins__best_pairing K)) = true := c.fact 102 rfl
  have q_LeastJoins__searched_pairing : PySem.W.findIn K (.ref (a_L K)) "_searched_pairing" = some (some (.ref (a_f_LeastJoins__searched_pairing K))) := He.eqO_ok (show He.eqO (PySem.W.findIn K (.ref (a_L K)) "_searched_pairing") (some (some (.ref (a_f_LeastJoins__searched_pairing K)))) = true from c.fact 103 rfl)
  have i_LeastJoins__searched_pairing : PySem.W.isFn K (.ref (a_f_LeastJoins__searched_pairing K)) = true := c.fact 104 rfl
  have kp_LeastJoins__searched_pairing : PySem.W.keepIn K (.ref (a_f_LeastJoins__searched_pairing K)) = true := c.fact 105 rfl
  have q_LeastJoins__routes_from : PySem.W.findIn K (.ref (a_L K)) "_routes_from" = some (some (.ref (a_f_LeastJoins__routes_from K))) := He.eqO_ok (show He.eqO (PySem.W.findIn K (.ref (a_L K)) "_routes_from") (some (some (.ref (a_f_LeastJoins__routes_from K)))) = true from c.fact 106 rfl)
  have i_LeastJoins__routes_from : PySem.W.isFn K (.ref (a_f_LeastJoins__routes_from K)) = true := c.fact 107 rfl
  have kp_LeastJoins__routes_from : PySem.W.keepIn K (.ref (a_f_LeastJoins__routes_from K)) = true := c.fact 108 rfl
  have q_LeastJoins_best_pairing : PySem.W.findIn K (.ref (a_L K)) "_best_pairing" = some (some (.ref (a_f_LeastJoins__best_pairing K))) := He.eqO_ok (show He.eqO (PySem.W.findIn K (.ref (a_L K)) "_best_pairing") (some (some (.ref (a_f_LeastJoins__best_pairing K)))) = true from c.fact 109 rfl)
  have i_LeastJoins_best_pairing : PySem.W.isFn K (.ref (a_f_LeastJoins__best_pairing K)) = true := c.fact 110 rfl
  have kp_LeastJoins_best_pairing : PySem.W.keepIn K (.ref (a_f_LeastJoins__best_pairing K)) = true := c.fact 111 rfl
  have q_LeastJoins_points : PySem.W.findIn K (.ref (a_L K)) "_points" = some (some (.ref (a_f_LeastJoins__points K))) := He.eqO_ok (show He.eqO (PySem.W.findIn K (.ref (a_L K)) "_points") (some (some (.ref (a_f_LeastJoins__points K)))) = true from c.fact 112 rfl)
  have i_LeastJoins_points : PySem.W.isFn K (.ref (a_f_LeastJoins__points K)) = true := c.fact 113 rfl
  have kp_LeastJoins_points : PySem.W.keepIn K (.ref (a_f_LeastJoins__points K)) = true := c.fact 114 rfl
  have q_LeastJoins_least_length : PySem.W.findIn K (.ref (a_L K)) "least_length" = some (some (.ref (a_f_LeastJoins_least_length K))) := He.eqO_ok (show He.eqO (PySem.W.findIn K (.ref (a_L K)) "least_length") (some (some (.ref (a_f_LeastJoins_least_length K)))) = true from c.fact 115 rfl)
  have i_LeastJoins_least_length : PySem.W.isFn K (.ref (a_f_LeastJoins_least_length K)) = true := c.fact 116 rfl
  have kp_LeastJoins_least_length : PySem.W.keepIn K (.ref (a_f_LeastJoins_least_length K)) = true := c.fact 117 rfl
  have pa_Network_edges : PySem.W.findIn K (.ref (a_C K)) "edges" = some (some (.ref (a_p_Network_edges K))) := He.eqO_ok (show He.eqO (PySem.W.findIn K (.ref (a_C K)) "edges") (some (some (.ref (a_p_Network_edges K)))) = true from c.fact 118 rfl)
  have pg_Network_edges : PySem.W.specialIn K (.ref (a_p_Network_edges K)) "__get__" = some (some (.builtin "property.__get__")) := He.eqO_ok (show He.eqO (PySem.W.specialIn K (.ref (a_p_Network_edges K)) "__get__") (some (some (.builtin "property.__get__"))) = true from c.fact 119 rfl)
  have pt_Network_edges : PySem.W.takesIn K (.ref (a_p_Network_edges K)) = some true := Hx.boB_ok (show Hx.boB (PySem.W.takesIn K (.ref (a_p_Network_edges K))) (some true) = true from c.fact 120 rfl)
  obtain ⟨rest_Network_edges, pr_Network_edges⟩ := Hx.recB_ok (show Hx.recB K (a_p_Network_edges K) "property" = true from c.fact 121 rfl)
  have kp_calm_joins : PySem.W.keepIn K (.ref (a_f_calm_joins K)) = true := c.fact 122 rfl
  have kp_nearest : PySem.W.keepIn K (.ref (a_f_nearest K)) = true := c.fact 123 rfl
  have h_Network__init : FnIs1 K "__init__" "Network.__init__" (inClass (top 59) 3) (a_f_Network__init K) := Hx.fnIs1_of (E := Hx.dfl0 a_f_Network__init K) (c.fn 34 rfl)
  have h_Network_nodes : FnIs K "nodes" "Network.nodes" (inClass (top 59) 7) (a_f_Network_nodes K) := Hx.fnIs_of (c.fn 35 rfl)
  have h_LeastJoins__init : FnIs K "__init__" "LeastJoins.__init__" (inClass (top 41) 0) (a_f_LeastJoins__init K) := Hx.fnIs_of (c.fn 36 rfl)
  have h_LeastJoins__routes_from : FnIs K "_routes_from" "LeastJoins._routes_from" (inClass (top 41) 7) (a_f_LeastJoins__routes_from K) := Hx.fnIs_of (c.fn 37 rfl)
  have h_LeastJoins__searched_pairing : FnIs K "_searched_pairing" "LeastJoins._searched_pairing" (inClass (top 41) 6) (a_f_LeastJoins__searched_pairing K) := Hx.fnIs_of (c.fn 38 rfl)
  have h_LeastJoins__best_pairing : FnIs K "_best_pairing" "LeastJoins._best_pairing" (inClass (top 41) 5) (a_f_LeastJoins__best_pairing K) := Hx.fnIs_of (c.fn 39 rfl)
  have h_LeastJoins__points : FnIs K "_points" "LeastJoins._points" (inClass (top 41) 4) (a_f_LeastJoins__points K) := Hx.fnIs_of (c.fn 40 rfl)
  have h_LeastJoins_least_length : FnIs K "least_length" "LeastJoins.least_length" (inClass (top 41) 1) (a_f_LeastJoins_least_length K) := Hx.fnIs_of (c.fn 41 rfl)
  have h_Network_edges : FnIs K "edges" "Network.edges" (inClass (top 59) 8) (a_f_Network_edges K) := Hx.fnIs_of (c.fn 42 rfl)
  exact Lw.all_mk X G hfa n_law_pen h_law_pen n_law_draw h_law_draw n_law_pick h_law_pick n_law_names h_law_names n_law_shuffled h_law_shuffled n_law_small h_law_small n_law_walks h_law_walks n_law_cycles h_law_cycles n_law_rows h_law_rows n_law_total h_law_total n_law_sunk_cycles h_law_sunk_cycles n_law_calm h_law_calm n_is_name h_is_name n_checked_nodes h_checked_nodes n_is_whole h_is_whole n_is_length h_is_length n_is_edge h_is_edge n_edge_in_order h_edge_in_order n_odd_nodes h_odd_nodes n_negative_edges h_negative_edges n_checked_edges h_checked_edges n_law_made h_law_made n_law_gap h_law_gap n_check_known_node h_check_known_node n_edges_by_node h_edges_by_node n_names_of h_names_of n_joins_of h_joins_of n_other_end h_other_end n_routes_from h_routes_from n_without h_without n_calm_joins h_calm_joins n_nearest h_nearest n_law_first_of h_law_first_of n_law h_law b_len b_abs b_range b_list b_tuple b_int b_min b_max b_sorted b_str b_repr b_isinstance b_bool b_enumerate b_zip b_dict b_set b_any b_all b_sum b_type n_C pg_C hd_C po_C sa_C a0_C a1_C a2_C mk_C ini_C ifn_C kc_C n_L pg_L hd_L po_L sa_L a0_L a1_L a2_L a3_L a4_L a5_L a6_L mk_L ini_L ifn_L kc_L v_LONGEST_NAME kss v_MAX_NODES kl kt v_MAX_LENGTH kii kib ktt v_MAX_EDGES v_MAX_ODD pa_Network_nodes pg_Network_nodes pt_Network_nodes pr_Network_nodes v_g_heappop v_g_heappush q_LeastJoins__best_pairing i_LeastJoins__best_pairing kp_LeastJoins__best_pairing q_LeastJoins__searched_pairing i_LeastJoins__searched_pairing kp_LeastJoins__searched_pairing q_LeastJoins__routes_from i_LeastJoins__routes_from kp_LeastJoins__routes_from q_LeastJoins_best_pairing i_LeastJoins_best_pairing kp_LeastJoins_best_pairing q_LeastJoins_points i_LeastJoins_points kp_LeastJoins_points q_LeastJoins_least_length i_LeastJoins_least_length kp_LeastJoins_least_length pa_Network_edges pg_Network_edges pt_Network_edges pr_Network_edges kp_calm_joins kp_nearest h_Network__init h_Network_nodes h_LeastJoins__init h_LeastJoins__routes_from h_LeastJoins__searched_pairing h_LeastJoins__best_pairing h_LeastJoins__points h_LeastJoins_least_length h_Network_edges
end Hv
open PySem PySem.W PyProof.Rows
set_option maxRecDepth 100000 in
set_option maxHeartbeats 0 in
theorem PySem.Challenge.cw_lendroads_k63_nearest_nodes_holds : PySem.Challenge.rw_lendroads_k63_nearest_nodes.Holds := by
  w_on; o_law
  refine HandSHeadRun.head_imp (r := OpenLaw.row PySem.Challenge.rw_lendroads_k63_nearest_nodes) (q := Hv.qv) (H := Hx.hk Hv.as Hv.fs Hv.ds) (ob := Hx.ob Hv.as Hv.fs Hv.ds) (M := 30000) (loose := Hv.names) (d := HandSHeadRun.topDef (OpenLaw.row PySem.Challenge.rw_lendroads_k63_nearest_nodes).prog 76) (kwd := []) (Hx.ob_eq Hv.as Hv.fs Hv.ds)
    Hv.run (by kernel_rfl) (by kernel_rfl) (by kernel_rfl) (by rfl) (by first | assumption | decide +kernel) (by decide +kernel) ⟨rfl, rfl, rfl, rfl, rfl, by decide +kernel⟩ ?hw ?hc
  case hw => w_witness2
  case hc =>
    refine Hx.walk (l := PySem.Challenge.rw_lendroads_k63_nearest_nodes) (n := 63) (k := 41) (x := "_law_script") (sp := fun K _ => Lj.spLaw K) rfl (by decide) (by kernel_rfl) ⟨rfl, by decide, by decide⟩ (by decide +kernel) ?F (fun K w H a ns hl _ hS => ⟨a, ns, rfl, hS, hl, fun _ => rfl⟩)
    intro K w mg fa h KX c G hmg0
    have hmg : mg ("law" : PySem.Str) = some (.ref fa) := by
      have e : (HandSHeadRun.topDef (OpenLaw.row PySem.Challenge.rw_lendroads_k63_nearest_nodes).prog 76).name = ("law" : PySem.Str) := by kernel_rfl
      rw [← e]
      exact hmg0
    exact Hv.facts KX c G hmg

