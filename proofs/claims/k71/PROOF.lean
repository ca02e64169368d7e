import PyProof.Rows.All
import Wide.All
import OpenK.AllK
import Wide.FinOn
import HandS.ForMost
import HandS.Evl
import HandS.TupAny
import HandS.StrMore
import KE.SortData
import HandS.Iter
import HandS.Property
import HandS.DictComp
import HandS.Defaults
import HandS.OwnEq
import HandS.IsInst
import HandS.Sort
import KE.KDictList
import PyProof.ReprRoads
import KE.BitLaws
import HandS.Style
import HandS.ClsMeth
import HandS.Codes
import OpenK.KOps
import OpenK.KMeth
import HandS.Star
import HandS.Small
import HandS.Set
import HandS.SetFor
import HandS.SetTxt0
import HandS.FStr
import HandS.Flow
import HandS.TryOnly
import PySem.Challenge.RW_lendroads_k71_parts_of_texts
set_option Elab.async false
set_option linter.all false
set_option maxRecDepth 100000
set_option maxHeartbeats 4000000
/-! the source of drawn numbers of a law, as a demon: the one object that a draw changes -/
namespace Lw
open PySem PySem.Spec PyProof.Rows L2
abbrev St := L2.St
/-- the built-in names that the module leaves alone -/
structure Bs (mg : Str → Option Value) (l : List Str) : Prop where
  b : ∀ x, x ∈ l → mg x = none
/-- a def of the module that lets nothing out -/
structure Cf (P : Program) (w : World) (K : PySem.W.Frag) (mg : Str → Option Value) (base : Heap) (x : Str) (ps : List Str) (k : Nat) (sp : Sp) (f : Addr) (fd : FuncData) : Prop where
  F : FnOk P w K mg base CX0 k f fd ps sp
  b : Binds K fd ps []
  g : mg x = some (.ref f)
  kp : PySem.W.keepIn K (.ref f) = true
def noE : XK := fun _ _ _ => False
section
variable {X : Cx} {k n : Nat} {f : Addr} {fd : FuncData} {ps : List Str} {sp : Sp} {x : Str} {p pos : Pos} {e : Expr} {es : List Expr} {t : TA}
theorem pe_cf (C : Cf X.prog X.w X.K X.mg X.base x ps k sp f fd) (hr : Room k X.A) (hg : Gl X x) (ha : PA X (e :: es) t) (hdb : (x == ("__debug__" : Str)) = false := by decide)
    (he : starEach (e :: es) X.env = (false, eval e X.env) :: starEach es X.env := by rfl) (hpl : (backTo pos (starEach es X.env)).any (·.1) = false := by rfl) : PE X (.Call (.Name x p) (e :: es) [] pos) (tCall sp [] noE t) :=
  pe_call C.F hr hg C.g C.kp C.b .nil pass0 ha hdb he hpl
end
theorem hu64 {A : Around} {k : Nat} (hr : Room k A) : A.units + 64 < cLine := hr.units
/-! ### all but one object are kept -/
def But (p : Addr) (H H' : Hp) : Prop := ∀ b o, b ≠ p → H b = some o → H' b = some o
theorem But.refl (p : Addr) (H : Hp) : But p H H := fun _ _ _ h => h
theorem But.trans {p : Addr} {H H1 H2 : Hp} (a : But p H H1) (b : But p H1 H2) : But p H H2 := fun x o n h => b x o n (a x o n h)
theorem But.of {p : Addr} {H H' : Hp} (e : Evl.Ex H H') : But p H H' := fun b o _ h => e b o h
theorem But.put {p : Addr} {H : Hp} {o : HO} : But p H (upd H p o) := fun b u n h => by
  rw [upd_ne n]
  exact h
/-- an object that was not there may change -/
theorem But.mut {p q : Addr} {H H' : Hp} {o : HO} (e : But p H H') (h : H q = none) : But p H (upd H' q o) := fun b u n hb => by
  rw [upd_ne (ne_of_none hb h)]
  exact e b u n hb
theorem But.back {p q : Addr} {H H' : Hp} (e : But p H H') (n : q ≠ p) (h : H' q = none) : H q = none := by
  cases h1 : H q with
  | none => rfl
  | some o =>
    rw [e q o n h1] at h
    cases h
abbrev kC : Key := .inr "cells"
abbrev kU : Key := .inr "used"
abbrev kL : Key := .inr "left"
def penO (c : Addr) (u l : Int) : HO := .dK [(kC, .ref c), (kU, .int u), (kL, .int l)]
/-- a source of drawn numbers stands at p, its cells at c, used at most n times -/
def Pen (p c : Addr) (n : Nat) (H : Hp) : Prop := ∃ (cs : List Int) (u l : Int), H p = some (penO c u l) ∧ H c = some (.lst (cs.map V.int)) ∧ cs.length ≤ 63 ∧ 0 ≤ u ∧ u ≤ n
theorem Pen.le {p c : Addr} {n m : Nat} {H : Hp} (h : Pen p c n H) (q : n ≤ m) : Pen p c m H := by
  obtain ⟨cs, u, l, h1, h2, h3, h4, h5⟩ := h
  exact ⟨cs, u, l, h1, h2, h3, h4, by omega⟩
theorem Pen.ex {p c : Addr} {n : Nat} {H H' : Hp} (h : Pen p c n H) (e : Evl.Ex H H') : Pen p c n H' := by
  obtain ⟨cs, u, l, h1, h2, h3, h4, h5⟩ := h
  exact ⟨cs, u, l, e _ _ h1, e _ _ h2, h3, h4, h5⟩
/-- what is new is neither -/
theorem Pen.far {p c q : Addr} {n : Nat} {H : Hp} (h : Pen p c n H) (e : H q = none) : q ≠ p ∧ q ≠ c := by
  obtain ⟨cs, u, l, h1, h2, _⟩ := h
  refine ⟨fun z => ?_, fun z => ?_⟩
  · rw [z, h1] at e
    exact nomatch e
  · rw [z, h2] at e
    exact nomatch e
theorem Pen.mut {p c q : Addr} {n : Nat} {H : Hp} {o : HO} (h : Pen p c n H) (hq : q ≠ p ∧ q ≠ c) : Pen p c n (upd H q o) := by
  obtain ⟨cs, u, l, h1, h2, h3, h4, h5⟩ := h
  refine ⟨cs, u, l, ?_, ?_, h3, h4, h5⟩
  · rw [upd_ne hq.1.symm]
    exact h1
  · rw [upd_ne hq.2.symm]
    exact h2
/-- an object that was not there stands apart from what was -/
theorem apart {p q : Addr} {H : Hp} {o : HO} (h : H p = some o) (e : H q = none) : q ≠ p := fun z => by
  rw [z, h] at e
  exact nomatch e
theorem s1 : ("cells" : Str) ≠ "used" := by decide +kernel
theorem s2 : ("cells" : Str) ≠ "left" := by decide +kernel
theorem s3 : ("used" : Str) ≠ "left" := by decide +kernel
theorem k1 : kC ≠ kU := by decide +kernel
theorem k2 : kC ≠ kL := by decide +kernel
theorem k3 : kU ≠ kL := by decide +kernel
section
variable {σ : St} {H : Hp} {p c : Addr} {u l : Int} {td ty tv : TE} {tz : TS} {D : Ends}
theorem ev_dget {kvs : List (Key × V)} {k : Key} {v : V} (hp : H p = some (.dK kvs)) (hv : valV kvs k = some v) (ha : Evl.Ev td σ H (.ref p)) (hb : Evl.Ev ty σ H (kV k)) : Evl.Ev (tDGet td ty) σ H v := fun H1 e Q q =>
  ha H1 e _ fun H2 e2 => hb H2 (e.trans e2) _ fun H3 e3 => ⟨p, v, rfl, .inl ⟨kvs, k, .inl (e3 _ _ (e2 _ _ (e _ _ hp))), rfl, hv.symm⟩, q H3 (e2.trans e3)⟩
theorem ev_cells (hp : H p = some (penO c u l)) (ha : Evl.Ev td σ H (.ref p)) : Evl.Ev (tDGet td (tC (.str "cells"))) σ H (.ref c) := ev_dget (k := kC) hp (valV_pos rfl) ha Evl.ev_c
theorem ev_used (hp : H p = some (penO c u l)) (ha : Evl.Ev td σ H (.ref p)) : Evl.Ev (tDGet td (tC (.str "used"))) σ H (.int u) := ev_dget (k := kU) hp ((valV_neg k1).trans (valV_pos rfl)) ha Evl.ev_c
theorem ev_left (hp : H p = some (penO c u l)) (ha : Evl.Ev td σ H (.ref p)) : Evl.Ev (tDGet td (tC (.str "left"))) σ H (.int l) :=
  ev_dget (k := kL) hp ((valV_neg k2).trans ((valV_neg k3).trans (valV_pos rfl))) ha Evl.ev_c
/-- d[k] = v, d at p, the rest as it was -/
theorem q_dput {kvs : List (Key × V)} {k : Key} {v : V} (hp : H p = some (.dK kvs)) (hl : kvs.length < 100000) (hv : Evl.Ev tv σ H v) (ha : Evl.Ev td σ H (.ref p)) (hb : Evl.Ev ty σ H (kV k))
    (q : ∀ H1, Evl.Ex H H1 → tz D σ (upd H1 p (.dK (putK kvs k v)))) : tSeq (sDPut td ty tv) tz D σ H :=
  hv H (Evl.Ex.refl _) _ fun H1 e1 => ha H1 e1 _ fun H2 e2 => hb H2 (e1.trans e2) _ fun H3 e3 => ⟨p, _, rfl, .inl ⟨kvs, k, ((e1.trans e2).trans e3) _ _ hp, rfl, Evl.sz_lt hl, rfl⟩, q H3 ((e1.trans e2).trans e3)⟩
theorem put_used {v : V} : putK [(kC, V.ref c), (kU, .int u), (kL, .int l)] kU v = [(kC, V.ref c), (kU, v), (kL, .int l)] := by
  simp [putK, s1, s3.symm]
theorem put_left {v : V} : putK [(kC, V.ref c), (kU, .int u), (kL, .int l)] kL v = [(kC, V.ref c), (kU, .int u), (kL, v)] := by
  simp [putK, s2, s3]
theorem q_used {v : Int} (hp : H p = some (penO c u l)) (hv : Evl.Ev tv σ H (.int v)) (ha : Evl.Ev td σ H (.ref p)) (q : ∀ H1, Evl.Ex H H1 → tz D σ (upd H1 p (penO c v l))) : tSeq (sDPut td (tC (.str "used")) tv) tz D σ H :=
  q_dput (k := kU) hp (by simp) hv ha Evl.ev_c fun H1 e1 => by
    rw [put_used]
    exact q H1 e1
theorem q_left {v : Int} (hp : H p = some (penO c u l)) (hv : Evl.Ev tv σ H (.int v)) (ha : Evl.Ev td σ H (.ref p)) (q : ∀ H1, Evl.Ex H H1 → tz D σ (upd H1 p (penO c u v))) : tSeq (sDPut td (tC (.str "left")) tv) tz D σ H :=
  q_dput (k := kL) hp (by simp) hv ha Evl.ev_c fun H1 e1 => by
    rw [put_left]
    exact q H1 e1
end
def big : Int := 10 ^ (18 : Int).toNat
theorem rv_big {H : Hp} : Evl.RV (rI CPow fun i j => .int (i ^ j.toNat)) (.int 10) (.int 18) H (.int big) := Evl.rv_I ⟨by decide, by decide, by decide⟩
/-- a draw from 0 to m - 1 -/
def spDraw : Sp := fun vs H Q _ => ∃ (p c : Addr) (m : Int) (n : Nat), vs = [V.ref p, .int m] ∧ Pen p c n H ∧ n ≤ 1000000 ∧ 0 < m ∧ m < 1073741824 ∧ ∀ d H', 0 ≤ d → d < m → But p H H' → Pen p c (n + 1) H' → Q (.int d) H'
end Lw

namespace Lw
open PySem L2
def top (i : Nat) : Stmt := PySem.Challenge.pw_lendroads_k71_parts_of_texts.main.body.getD i (.Pass ⟨0, 0, 0, 0⟩)
end Lw

set_option maxHeartbeats 1000000
namespace Lw
open PySem PySem.Spec PyProof.Rows L2
section
variable {X : Cx}
/-- a list of anything != a list without items -/
def rNeNil (K : PySem.W.Frag) : R2 := fun x y H Q => ∃ a b xs, x = .ref a ∧ y = .ref b ∧ SqL K H a xs ∧ SqL K H b [] ∧ Q (.bl (!xs.isEmpty)) H
theorem op_neNil (hu : X.A.units + 64 < cLine) : OpR X (compareOp .NotEq) (rNeNil X.K) := by
  intro pins s σ H x y v u Q I rx ry h
  obtain ⟨a, b, xs, rfl, rfl, ha, hb, q⟩ := h
  obtain rfl : v = Value.ref a := rx
  obtain rfl : u = Value.ref b := ry
  obtain ⟨us, r1, p1, -⟩ := I.list ha
  obtain ⟨ws, r2, p2, -⟩ := I.list hb
  have e2 : ws = [] := by
    have := r2.length
    exact List.eq_nil_of_length_eq_zero this.symm
  subst e2
  cases xs with
  | nil =>
    have e1 : us = [] := List.eq_nil_of_length_eq_zero r1.length.symm
    subst e1
    refine (SeqAt.RcNeAt.lists (e := fun _ => true) p1.isList p2.isList rfl (by omega) (fun j h1 _ => absurd h1 (Nat.not_lt_zero j))) X.prog X.w _ _ ⟨.bl false, H, I, rfl, q⟩
  | cons z zs =>
    have n1 : us.toArray.size ≠ 0 := by
      rw [List.size_toArray, ← r1.length]
      exact Nat.succ_ne_zero _
    exact (SeqAt.RcNeAt.lists_lengths p1.isList p2.isList (by simpa using n1) (by omega)) X.prog X.w _ _ ⟨.bl true, H, I, rfl, q⟩
end
/-- a while, its test on a list -/
theorem et_neNil {K : PySem.W.Frag} {σ : St} {H : Hp} {ta : TE} {a : Addr} {xs : List V} (h : Evl.Ev ta σ H (.ref a)) (hs : SqL K H a xs) : Evl.EvT (tTest (tOp (rNeNil K) ta (tLst tNil))) σ H (!xs.isEmpty) :=
  Evl.et_test (Evl.ev_opL h (Evl.el_lst Evl.ea_nil (by simp)) fun p H1 hp e H2 e2 Q q => ⟨a, p, xs, rfl, rfl, Evl.ex_l (e.trans e2) hs, .inl (.inl (e2 _ _ hp)), q H2 (Evl.Ex.refl _)⟩)
end Lw
namespace Lw
open PySem PySem.Spec PyProof.Rows L2
/-- if t: x = e, x having a value before -/
theorem q_whenAsg {σ : St} {H : Hp} {D : Ends} {tz : TS} {t : TT} {te : TE} {b : Bool} {i : Nat} (Pv : V → Prop) (h : Evl.EvT t σ H b) (h1 : b = true → ∃ v, Evl.Ev te σ H v ∧ Pv v) (h2 : b = false → ∃ v, σ.set i (some v) = σ ∧ Pv v)
    (k : ∀ v, Pv v → ∀ H1, Evl.Ex H H1 → tz D (σ.set i (some v)) H1) : tSeq (tIfS t (tAsg te (gName i)) tNext) tz D σ H :=
  Evl.q_when h (fun hb H1 e1 => by
    obtain ⟨v, hv, pv⟩ := h1 hb
    exact Evl.s_asg (D := { D with nx := tz D }) (hv.mono e1) fun H2 e2 => k v pv H2 (e1.trans e2)) (fun hb H1 e1 => by
    obtain ⟨v, hs, pv⟩ := h2 hb
    have g := k v pv H1 e1
    rw [hs] at g
    exact g)
/-- an item at a place that is there -/
theorem atI_some {α : Type} {xs : List α} {i : Int} {x : α} (h0 : 0 ≤ i) (h : xs[i.toNat]? = some x) : atI xs i = some x := by
  have hl : i.toNat < xs.length := (List.getElem?_eq_some_iff.mp h).1
  have e : i = (i.toNat : Int) := (Int.toNat_of_nonneg h0).symm
  unfold atI
  rw [e, Evl.ixN_nat hl]
  exact h
end Lw

set_option maxHeartbeats 1000000
namespace Lw
open PySem PySem.Spec PyProof.Rows L2
def rAddS : R2 := fun x y H Q => ∃ i j, x = .str i ∧ y = .str j ∧ i.length + j.length ≤ sizeLine ∧ Q (.str (i ++ j)) H
/-- a comprehension over range(m) whose items may draw, kk times each -/
theorem lcP {p c : Addr} {n kk m : Nat} {σ : St} {H1 : Hp} {te : TE} {j : Nat} {vs : List Nat} {Q : VK} (lo : Int) (Pv : Nat → List V → Hp → Prop) (hP : Pen p c n H1) (hm : m ≤ 1000) (p0 : ∀ H', Evl.Ex H1 H' → Pv 0 [] H') (hw : ∀ x, wipe ((wipe σ vs).set j (some x)) vs = wipe σ vs)
    (pm : ∀ i acc D ys H', (H' D = none ∨ ∃ xs, H' D = some (.lst xs)) → Pv i acc H' → Pv i acc (upd H' D (.lst ys)))
    (hs : ∀ i acc H', i < m → acc.length = i → Pv i acc H' → But p H1 H' → Pen p c (n + kk * i) H' → ∀ Q' : VK, (∀ y H'', Pv (i + 1) (acc ++ [y]) H'' → But p H' H'' → Pen p c (n + kk * (i + 1)) H'' → Q' y H'') → te ((wipe σ vs).set j (some (.int (lo + (i : Nat))))) H' Q')
    (hd : ∀ D acc H', H1 D = none → acc.length = m → Pv m acc H' → But p H1 H' → H' D = some (.lst acc) → Pen p c (n + kk * m) H' → Q (.ref D) H') :
    ∀ D, H1 D = none → ∃ W : Nat → Nat → Hp → Prop, (∃ m, W 0 m (upd H1 D (.lst []))) ∧ ∀ i m' H, W i m' H →
      ((Itr lo m).stop i H ∧ Q (.ref D) H) ∨ ((Itr lo m).go i H ∧ ∃ Nx : Hp → Prop, (∀ H', Nx H' → ∃ m2, m2 < m' ∧ W (i + 1) m2 H') ∧ ∀ x H', (Itr lo m).yld i H x H' → gName j x (wipe σ vs) H' fun σ2 H2 => wipe σ2 vs = wipe σ vs ∧ tYes σ2 H2 fun b H3 => if b = true then te σ2 H3 fun y H4 => ∃ acc, H4 D = some (.lst acc) ∧ acc.length < sizeLine ∧ Nx (upd H4 D (.lst (acc ++ [y]))) else Nx H3) := by
  intro D hD
  have far := hP.far hD
  refine lc_range (lo := lo) (n := m) (fun i H' => ∃ acc : List V, acc.length = i ∧ Pv i acc H' ∧ But p H1 H' ∧ H' D = some (.lst acc) ∧ Pen p c (n + kk * i) H') ⟨[], rfl, pm _ _ _ _ _ (.inl hD) (p0 _ (Evl.Ex.refl _)), (But.refl p H1).mut hD, upd_same, hP.mut far⟩ (fun i H' hi w => ?_)
    (fun H' w => ?_)
  · obtain ⟨acc, la, pa, ba, ha, Pa⟩ := w
    refine ⟨hw _, ?_⟩
    show te ((wipe σ vs).set j (some (.int (lo + (i : Nat))))) H' fun y H4 => ∃ acc, H4 D = some (.lst acc) ∧ acc.length < sizeLine ∧ ∃ acc' : List V, acc'.length = i + 1 ∧ Pv (i + 1) acc' (upd H4 D (.lst (acc ++ [y]))) ∧ But p H1 (upd H4 D (.lst (acc ++ [y]))) ∧ (upd H4 D (.lst (acc ++ [y]))) D = some (.lst acc') ∧ Pen p c (n + kk * (i + 1)) (upd H4 D (.lst (acc ++ [y])))
    refine hs i acc H' hi la pa ba Pa _ fun y H4 p4 b4 P4 => ?_
    exact ⟨acc, b4 _ _ far.1 ha, Evl.sz_lt (by omega), acc ++ [y], by simp [la], pm _ _ _ _ _ (.inr ⟨acc, b4 _ _ far.1 ha⟩) p4, (ba.trans b4).mut hD, upd_same, P4.mut far⟩
  · obtain ⟨acc, la, pa, ba, ha, Pa⟩ := w
    exact hd D acc H' hD la pa ba ha Pa
/-- if t: u, what holds behind it said once -/
theorem q_ifVia {t : TT} {tu tz : TS} {D : Ends} {σ : St} {H : Hp} {b : Bool} (M : St → Hp → Prop) (h : Evl.EvT t σ H b) (h1 : b = true → ∀ H1, Evl.Ex H H1 → ∀ D' : Ends, (∀ σ' H', M σ' H' → D'.nx σ' H') → tu D' σ H1)
    (h2 : b = false → ∀ H1, Evl.Ex H H1 → M σ H1) (k : ∀ σ' H', M σ' H' → tz D σ' H') : tSeq (tIfS t tu tNext) tz D σ H := Evl.q_when h (fun hb H1 e => h1 hb H1 e _ k) (fun hb H1 e => k _ _ (h2 hb H1 e))
/-- a reading cut off from what follows it -/
theorem via {te : TE} {σ : St} {H : Hp} {Q : VK} (S : V → Hp → Prop) (h1 : ∀ Q' : VK, (∀ v H', S v H' → Q' v H') → te σ H Q') (h2 : ∀ v H', S v H' → Q v H') : te σ H Q := h1 Q h2
/-- text * number -/
def rMulS : R2 := fun x y H Q => ∃ (z : Str) (i : Int), x = .str z ∧ y = .int i ∧ MulOk z i ∧ Q (.str (Txt.mul z i)) H
theorem op_mulS {X : Cx} : OpR X (binaryOp .Mult) rMulS := by
  intro pins s σ H x y v u Q I rx ry h
  obtain ⟨z, i, rfl, rfl, ok, q⟩ := h
  obtain ⟨t, rfl⟩ := rx
  obtain ⟨t', rfl⟩ := ry
  exact SB.mul ok fun t2 k => ⟨.str _, H, I.tok k, ⟨t2, rfl⟩, q⟩
/-- int(a bool) -/
def rIntB : List V → Hp → VK → Prop := fun xs H Q => ∃ k, xs = [.bl k] ∧ Q (.int (if k = true then 1 else 0)) H
theorem call_intB {X : Cx} : CallR X (.type "int") rIntB := fun pins s σ H xs us Q I r ⟨k, e, q⟩ => call_int1 pins s σ H xs us Q I r (.inr ⟨k, e, q⟩)
theorem mulOk1 (z : Str) (hz : z.length = 1) (b : Bool) : MulOk z (if b = true then 1 else 0) := by
  cases b
  · exact ⟨by decide, fun h => absurd (by decide) h, fun h => absurd (by decide) h⟩
  · exact ⟨by decide, fun _ h => absurd h (by simp), fun _ h => absurd h (by simp)⟩
/-- a new source of drawn numbers -/
def spPen (K : PySem.W.Frag) : Sp := fun vs H Q _ => ∃ (a : Addr) (ns : List Int), vs = [V.ref a] ∧ SqL K H a (ns.map V.int) ∧ ns.length ≤ 63 ∧ ∀ p c H', Evl.Ex H H' → H p = none → Pen p c 0 H' → Q (.ref p) H'
end Lw

set_option maxHeartbeats 1000000
/-! names: texts of one to eight small letters -/
namespace Lw
open PySem PySem.Spec PyProof.Rows L2
def Low (z : Str) : Prop := ∀ c ∈ z.cps.toList, 97 ≤ c ∧ c ≤ 122
def IsNm (z : Str) : Prop := 0 < z.length ∧ z.length ≤ 8 ∧ Low z
theorem app_cps (a b : Str) : (a ++ b).cps.toList = a.cps.toList ++ b.cps.toList := by
  show (a.cps ++ b.cps).toList = _
  simp
theorem len_cps (a : Str) : a.length = a.cps.toList.length := by
  show a.cps.size = _
  simp
theorem len_app (a b : Str) : (a ++ b).length = a.length + b.length := by
  rw [len_cps, app_cps, List.length_append, ← len_cps, ← len_cps]
theorem ext_cps {a b : Str} (h : a.cps.toList = b.cps.toList) : a = b := by
  cases a
  cases b
  congr 1
  exact Array.toList_inj.mp h
theorem low_app {a b : Str} (ha : Low a) (hb : Low b) : Low (a ++ b) := fun c h => by
  rw [app_cps] at h
  exact (List.mem_append.mp h).elim (ha c) (hb c)
def chr1 (c : Nat) : Str := ⟨#[c]⟩
theorem chr1_cps (c : Nat) : (chr1 c).cps.toList = [c] := rfl
theorem low_chr1 {c : Nat} (h : 97 ≤ c ∧ c ≤ 122) : Low (chr1 c) := fun d hd => by
  rw [chr1_cps] at hd
  rw [List.mem_singleton.mp hd]
  exact h
theorem join_len : ∀ cs : List Nat, (Txt.join "" (cs.map chr1)).cps.toList = cs := by
  intro cs
  rw [show Txt.join "" (cs.map chr1) = Str.join "" (cs.map chr1) from PySem.StrLaws.glued_eq_join _ _]
  induction cs with
  | nil => rfl
  | cons c r ih =>
    cases r with
    | nil => rfl
    | cons d r =>
      show (chr1 c ++ "" ++ Str.join "" ((d :: r).map chr1)).cps.toList = _
      rw [app_cps, app_cps, ih, chr1_cps]
      rfl
theorem cut_to (z : Str) (k : Nat) (h : k ≤ z.length) : (cutS z none (some (k : Int))).cps.toList = z.cps.toList.take k := by
  unfold cutS
  rw [HT.sIx_none, HT.sIx_nat, Nat.min_eq_left h]
  simp
theorem cut_from (z : Str) (k : Nat) (h : k ≤ z.length) : (cutS z (some (k : Int)) none).cps.toList = z.cps.toList.drop k := by
  unfold cutS
  rw [HT.sIx_none, HT.sIx_nat, Nat.min_eq_left h]
  have : (z.cps.toList.drop k).length = z.length - k := by rw [List.length_drop, ← len_cps]
  simp only [← this, List.take_length]
theorem cut_to' (z : Str) (k : Nat) : (cutS z none (some (k : Int))).cps.toList = z.cps.toList.take (min k z.length) := by
  unfold cutS
  rw [HT.sIx_none, HT.sIx_nat]
  simp
theorem mul01 (z : Str) (b : Bool) : (Txt.mul z (if b = true then 1 else 0)).cps.toList = if b = true then z.cps.toList else [] := by
  cases b
  · rfl
  · rfl
theorem mul_len (e : Nat) (b : Bool) : (Txt.mul (chr1 e) (if b = true then 1 else 0)).length ≤ 1 := by
  rw [len_cps, mul01]
  split <;> simp [chr1_cps]
abbrev abc : Str := "abcdefghijklmnopqrstuvwxyz"
theorem abc_at : ∀ i, i < 26 → abc.cps.toList[i]? = some (97 + i) := by decide +kernel
theorem abc_low : ∀ c ∈ abc.cps.toList, 97 ≤ c ∧ c ≤ 122 := by decide +kernel
theorem abc_len : abc.length = 26 := by decide +kernel
/-- the k-th name -/
def told (first step : Int) (many : Int) (k : Nat) : Str := chr1 (97 + ((first + step * k) % 26).toNat) ++ Txt.mul (chr1 (97 + k / 26)) (if decide (26 < many) = true then 1 else 0)
def tail (stem : Str) (at' : Nat) (cut : Int) (k : Nat) : Str := if cut = 0 then cutS stem (some (at' : Int)) none else cutS (cutS stem (some (at' : Int)) none) none (some ((k % 3 : Nat) : Int))
def nameK (stem : Str) (at' : Nat) (cut first step many : Int) (k : Nat) : Str := cutS stem none (some (at' : Int)) ++ told first step many k ++ tail stem at' cut k
theorem told_cps (first step many : Int) (k : Nat) : (told first step many k).cps.toList = (97 + ((first + step * k) % 26).toNat) :: (if decide (26 < many) = true then [97 + k / 26] else []) := by
  unfold told
  rw [app_cps, mul01, chr1_cps, chr1_cps]
  rfl
theorem tail_low {stem : Str} {at' : Nat} {cut : Int} {k : Nat} (h : Low stem) (ha : at' ≤ stem.length) : Low (tail stem at' cut k) ∧ (tail stem at' cut k).length ≤ stem.length - at' := by
  have base : (cutS stem (some (at' : Int)) none).cps.toList = stem.cps.toList.drop at' := cut_from _ _ ha
  unfold tail
  split
  · refine ⟨fun c hc => ?_, ?_⟩
    · rw [base] at hc
      exact h c (List.mem_of_mem_drop hc)
    · rw [len_cps, base, List.length_drop, ← len_cps]
      exact Nat.le_refl _
  · refine ⟨fun c hc => ?_, ?_⟩
    · rw [cut_to', base] at hc
      exact h c (List.mem_of_mem_drop (List.mem_of_mem_take hc))
    · rw [len_cps, cut_to', base, List.length_take, List.length_drop, ← len_cps]
      exact Nat.min_le_right _ _
theorem name_nm {stem : Str} {at' k : Nat} {cut first step many : Int} (h : Low stem) (h6 : stem.length ≤ 6) (ha : at' ≤ stem.length) (hk : k < 52) : IsNm (nameK stem at' cut first step many k) := by
  obtain ⟨t1, t2⟩ := tail_low (cut := cut) (k := k) h ha
  have p1 : (cutS stem none (some (at' : Int))).cps.toList = stem.cps.toList.take at' := cut_to _ _ ha
  have p2 : (cutS stem none (some (at' : Int))).length = at' := by
    rw [len_cps, p1, List.length_take, ← len_cps, Nat.min_eq_left ha]
  have m0 := Int.emod_nonneg (first + step * k) (b := 26) (by decide)
  have m1 := Int.emod_lt_of_pos (first + step * k) (b := 26) (by decide)
  have q2 : 1 ≤ (told first step many k).length ∧ (told first step many k).length ≤ 2 := by
    rw [len_cps, told_cps]
    split <;> simp
  refine ⟨?_, ?_, ?_⟩
  · unfold nameK
    rw [len_app, len_app]
    omega
  · unfold nameK
    rw [len_app, len_app]
    omega
  · unfold nameK
    refine low_app (low_app (fun c hc => ?_) (fun c hc => ?_)) t1
    · rw [p1] at hc
      exact h c (List.mem_of_mem_take hc)
    · rw [told_cps] at hc
      rcases List.mem_cons.mp hc with hc | hc
      · omega
      · split at hc
        · rw [List.mem_singleton.mp hc]
          omega
        · exact absurd hc (by simp)
theorem step_inj {step first : Int} (hs : step ∈ ([1, 3, 5, 7, 9, 11, 15, 17, 19, 21, 23, 25] : List Int)) {j k : Nat} (h : (first + step * j) % 26 = (first + step * k) % 26) : j % 26 = k % 26 := by
  simp only [List.mem_cons, List.mem_nil_iff, or_false] at hs
  rcases hs with rfl | rfl | rfl | rfl | rfl | rfl | rfl | rfl | rfl | rfl | rfl | rfl <;> omega
theorem name_inj {stem : Str} {at' j k : Nat} {cut first step many : Int} (ha : at' ≤ stem.length) (hs : step ∈ ([1, 3, 5, 7, 9, 11, 15, 17, 19, 21, 23, 25] : List Int)) (hj : j < many) (hk : k < many)
    (h : nameK stem at' cut first step many j = nameK stem at' cut first step many k) : j = k := by
  have e := congrArg (fun z : Str => z.cps.toList) h
  simp only [nameK, app_cps, told_cps, List.append_assoc, List.cons_append] at e
  have e2 := List.append_cancel_left e
  have m0 := Int.emod_nonneg (first + step * j) (b := 26) (by decide)
  have m1 := Int.emod_nonneg (first + step * k) (b := 26) (by decide)
  have c1 : 97 + ((first + step * j) % 26).toNat = 97 + ((first + step * k) % 26).toNat := (List.cons.inj e2).1
  have c2 : j % 26 = k % 26 := step_inj hs (first := first) (by omega)
  by_cases hm : 26 < many
  · rw [if_pos (decide_eq_true hm), if_pos (decide_eq_true hm)] at e2
    have c3 := (List.cons.inj (List.cons.inj e2).2).1
    omega
  · omega
theorem names_nodup {stem : Str} {at' : Nat} {cut first step : Int} (m : Nat) (ha : at' ≤ stem.length) (hs : step ∈ ([1, 3, 5, 7, 9, 11, 15, 17, 19, 21, 23, 25] : List Int)) : ((List.range m).map (nameK stem at' cut first step m)).Nodup := by
  rw [List.nodup_iff_pairwise_ne, List.pairwise_map]
  refine List.Pairwise.imp_of_mem ?_ (List.nodup_iff_pairwise_ne.mp List.nodup_range)
  intro j k hj hk hne h
  exact hne (name_inj ha hs (by have := List.mem_range.mp hj; omega) (by have := List.mem_range.mp hk; omega) h)
/-- many different names -/
def spNames : Sp := fun vs H Q _ => ∃ (p c : Addr) (m n : Nat), vs = [V.ref p, .int (m : Int)] ∧ Pen p c n H ∧ n ≤ 900000 ∧ m ≤ 52 ∧
  ∀ q (ys : List Str) H', ys.length = m → ys.Nodup → (∀ y ∈ ys, IsNm y) → H q = none → But p H H' → H' q = some (.lst (ys.map V.str)) → Pen p c (n + 11) H' → Q (.ref q) H'
end Lw
namespace Lw
open PySem PySem.Spec PyProof.Rows L2
section
variable {σ : St} {H : Hp} {ta tb : TE} {tl th : TO} {lo hi : Option Int} {a b : Str}
theorem ev_slS (h : Evl.Ev ta σ H (.str a)) (h1 : Evl.EvO tl σ H lo) (h2 : Evl.EvO th σ H hi) (hz : a.length ≤ 100000) : Evl.Ev (tSl rSlS ta tl th) σ H (.str (cutS a lo hi)) := fun H1 e _ q =>
  h H1 e _ fun H2 e2 => h1 H2 (e.trans e2) _ fun H3 e3 => h2 H3 ((e.trans e2).trans e3) _ fun H4 e4 => ⟨a, rfl, Evl.sz_of hz, q H4 ((e2.trans e3).trans e4)⟩
theorem ev_addS (h : Evl.Ev ta σ H (.str a)) (h1 : Evl.Ev tb σ H (.str b)) (hz : a.length + b.length ≤ 100000) : Evl.Ev (tOp (fun x y H Q => ∃ i j, x = .str i ∧ y = .str j ∧ i.length + j.length ≤ sizeLine ∧ Q (.str (i ++ j)) H) ta tb) σ H (.str (a ++ b)) :=
  Evl.ev_op h h1 fun H1 _ _ q => ⟨a, b, rfl, rfl, Evl.sz_of hz, q H1 (Evl.Ex.refl _)⟩
theorem ev_intB {c : Bool} (h : Evl.Ev ta σ H (.bl c)) : Evl.Ev (tCB rIntB (tCons ta tNil)) σ H (.int (if c = true then 1 else 0)) := Evl.ev_cb (Evl.ea_cons h Evl.ea_nil) fun H1 _ _ q => ⟨c, rfl, q H1 (Evl.Ex.refl _)⟩
theorem ev_mulS {c : Bool} (h : Evl.Ev ta σ H (.str a)) (h1 : Evl.Ev tb σ H (.int (if c = true then 1 else 0))) (hz : a.length = 1) : Evl.Ev (tOp rMulS ta tb) σ H (.str (Txt.mul a (if c = true then 1 else 0))) :=
  Evl.ev_op h h1 fun H1 _ _ q => ⟨a, _, rfl, rfl, mulOk1 a hz c, q H1 (Evl.Ex.refl _)⟩
/-- a letter by its place -/
theorem ev_abc {i : Int} (h : Evl.Ev ta σ H (.str abc)) (h1 : Evl.Ev tb σ H (.int i)) (h0 : 0 ≤ i) (hi : i < 26) : Evl.Ev (tOp rIxS ta tb) σ H (.str (chr1 (97 + i.toNat))) :=
  Evl.ev_op h h1 (Evl.rv_ixS (by rw [abc_len]; decide) (atI_some h0 (abc_at _ (by omega))))
end
end Lw

set_option maxHeartbeats 1000000
/-! nodes and edges as data of the heap -/
namespace Lw
open PySem PySem.Spec PyProof.Rows L2
abbrev Eg := Str × Str × Str × Int
/-- an edge as a tuple -/
def egV (e : Eg) : List V := [.str e.1, .str e.2.1, .str e.2.2.1, .int e.2.2.2]
/-- the edges es stand at as -/
def EgsAt (H : Hp) (as : List Addr) (es : List Eg) : Prop := Paired (fun a e => H a = some (.tup (egV e))) as es
/-- nodes and edges as the document wants them -/
structure IsNet (ns : List Str) (es : List Eg) : Prop where
  nm : ∀ y ∈ ns, IsNm y
  nd : ns.Nodup
  em : ∀ e ∈ es, IsNm e.1 ∧ e.2.1 ∈ ns ∧ e.2.2.1 ∈ ns ∧ e.2.1 ≠ e.2.2.1 ∧ -1000000 ≤ e.2.2.2 ∧ e.2.2.2 ≤ 1000000
  ed : (es.map (·.1)).Nodup
/-- tuples stay -/
def TK (H H' : Hp) : Prop := ∀ a xs, H a = some (.tup xs) → H' a = some (.tup xs)
theorem TK.trans {H H1 H2 : Hp} (a : TK H H1) (b : TK H1 H2) : TK H H2 := fun x xs h => b x xs (a x xs h)
theorem TK.but {p c : Addr} {n : Nat} {H H' : Hp} (hP : Pen p c n H) (b : But p H H') : TK H H' := fun a xs h => b a _ (fun z => by
  obtain ⟨cs, u, l, h1, _⟩ := hP
  rw [z, h1] at h
  exact nomatch h) h
theorem TK.ex {H H' : Hp} (e : Evl.Ex H H') : TK H H' := fun a xs h => e a _ h
theorem TK.put {q : Addr} {H : Hp} {ys : List V} (h : H q = none ∨ ∃ xs, H q = some (.lst xs)) : TK H (upd H q (.lst ys)) := fun a xs ha => by
  have n : a ≠ q := fun z => by
    rcases h with h | ⟨zs, h⟩
    · rw [z, h] at ha
      exact nomatch ha
    · rw [z, h] at ha
      exact nomatch ha
  rw [upd_ne n]
  exact ha
theorem paired_imp {α β : Type} {R S : α → β → Prop} (k : ∀ a b, R a b → S a b) : ∀ {as : List α} {bs : List β}, Paired R as bs → Paired S as bs
  | _, _, .nil => .nil
  | _, _, .cons h t => .cons (k _ _ h) (paired_imp k t)
theorem paired_snoc {α β : Type} {R : α → β → Prop} {a : α} {b : β} : ∀ {as : List α} {bs : List β}, Paired R as bs → R a b → Paired R (as ++ [a]) (bs ++ [b])
  | _, _, .nil, h => .cons h .nil
  | _, _, .cons x t, h => .cons x (paired_snoc t h)
theorem EgsAt.tk {H H' : Hp} {as : List Addr} {es : List Eg} (k : TK H H') (h : EgsAt H as es) : EgsAt H' as es := paired_imp (fun a e z => k _ _ z) h
def PairAt (ns : List Str) (H : Hp) (x : Addr) : Prop := ∃ u v, H x = some (.tup [.str u, .str v]) ∧ u ∈ ns ∧ v ∈ ns ∧ u ≠ v
theorem PairAt.tk {ns : List Str} {H H' : Hp} {x : Addr} (k : TK H H') (h : PairAt ns H x) : PairAt ns H' x := by
  obtain ⟨u, v, h1, h2⟩ := h
  exact ⟨u, v, k _ _ h1, h2⟩
/-- what stands between the steps: nodes at a, edges at eo, pairs of ends at no -/
structure Md (p c a eo no : Addr) (H : Hp) (n : Nat) (ns : List Str) (ed : List V) (as : List Addr) (H' : Hp) : Prop where
  b : But p H H'
  P : Pen p c n H'
  ha : H' a = some (.lst (ns.map V.str))
  he : H' eo = some (.lst ed)
  hn : H' no = some (.lst (as.map V.ref))
  pr : ∀ x ∈ as, PairAt ns H' x
  na : a ≠ p
  ne : eo ≠ p
  nn : no ≠ p
  fe : H eo = none
  fn : H no = none
  d1 : no ≠ a
  d2 : no ≠ eo
  d3 : a ≠ eo
theorem Md.but {p c a eo no : Addr} {H H' H'' : Hp} {n n' : Nat} {ns : List Str} {ed : List V} {as : List Addr} (h : Md p c a eo no H n ns ed as H') (b : But p H' H'') (P : Pen p c n' H'') : Md p c a eo no H n' ns ed as H'' :=
  ⟨h.b.trans b, P, b _ _ h.na h.ha, b _ _ h.ne h.he, b _ _ h.nn h.hn, fun x hx => (h.pr x hx).tk (TK.but h.P b), h.na, h.ne, h.nn, h.fe, h.fn, h.d1, h.d2, h.d3⟩
theorem Md.ex {p c a eo no : Addr} {H H' H'' : Hp} {n : Nat} {ns : List Str} {ed : List V} {as : List Addr} (h : Md p c a eo no H n ns ed as H') (e : Evl.Ex H' H'') : Md p c a eo no H n ns ed as H'' := h.but (But.of e) (h.P.ex e)
/-- one more couple of ends -/
theorem Md.app {p c a eo no l : Addr} {H H' : Hp} {n : Nat} {ns : List Str} {ed : List V} {as : List Addr} (h : Md p c a eo no H n ns ed as H') (hl : PairAt ns H' l) (hc : no ≠ c) : Md p c a eo no H n ns ed (as ++ [l]) (upd H' no (.lst (as.map V.ref ++ [.ref l]))) := by
  have k : TK H' (upd H' no (.lst (as.map V.ref ++ [.ref l]))) := TK.put (.inr ⟨_, h.hn⟩)
  refine ⟨h.b.mut h.fn, h.P.mut ⟨h.nn, hc⟩, ?_, ?_, ?_, fun x hx => ?_, h.na, h.ne, h.nn, h.fe, h.fn, h.d1, h.d2, h.d3⟩
  · rw [upd_ne h.d1.symm]
    exact h.ha
  · rw [upd_ne h.d2.symm]
    exact h.he
  · rw [upd_same, List.map_append]
    rfl
  · rcases List.mem_append.mp hx with hx | hx
    · exact (h.pr x hx).tk k
    · rw [List.mem_singleton.mp hx]
      exact hl.tk k
/-- one more edge -/
theorem Md.appE {p c a eo no : Addr} {v : V} {H H' : Hp} {n : Nat} {ns : List Str} {ed : List V} {as : List Addr} (h : Md p c a eo no H n ns ed as H') (hc : eo ≠ c) : Md p c a eo no H n ns (ed ++ [v]) as (upd H' eo (.lst (ed ++ [v]))) := by
  have k : TK H' (upd H' eo (.lst (ed ++ [v]))) := TK.put (.inr ⟨_, h.he⟩)
  refine ⟨h.b.mut h.fe, h.P.mut ⟨h.ne, hc⟩, ?_, upd_same, ?_, fun x hx => (h.pr x hx).tk k, h.na, h.ne, h.nn, h.fe, h.fn, h.d1, h.d2, h.d3⟩
  · rw [upd_ne h.d3]
    exact h.ha
  · rw [upd_ne h.d2]
    exact h.hn
/-- the permuted nodes are nodes -/
theorem perm_strs {ys : List V} {ns : List Str} (h : ys.Perm (ns.map V.str)) : ∃ ms : List Str, ms.Perm ns ∧ ys = ms.map V.str := by
  let g : V → Str := fun v => match v with
    | .str z => z
    | _ => Str.empty
  refine ⟨ys.map g, ?_, ?_⟩
  · have := h.map g
    rw [List.map_map] at this
    have e : ns.map (g ∘ V.str) = ns := by
      rw [show (g ∘ V.str) = id from rfl, List.map_id]
    rw [e] at this
    exact this
  · rw [List.map_map]
    have : ∀ y ∈ ys, (V.str ∘ g) y = y := fun y hy => by
      obtain ⟨z, _, rfl⟩ := List.mem_map.mp (h.mem_iff.mp hy)
      rfl
    exact (List.map_id ys).symm.trans (List.map_congr_left fun y hy => (this y hy).symm)
theorem cut2 (xs : List V) : cutV xs none (some 2) = xs.take 2 := by
  unfold cutV
  rw [HT.sIx_none, show (2 : Int) = ((2 : Nat) : Int) from rfl, HT.sIx_nat, List.drop_zero, Nat.sub_zero]
  rcases Nat.le_total 2 xs.length with h | h
  · rw [Nat.min_eq_left h]
  · rw [Nat.min_eq_right h, List.take_length, List.take_of_length_le h]
/-- nodes and edges of a small network, as a tuple of two lists -/
def spSmall : Sp := fun vs H Q _ => ∃ (p c : Addr) (least most wide n : Nat), vs = [V.ref p, .int (least : Int), .int (most : Int), .int (wide : Int)] ∧ Pen p c n H ∧ n ≤ 800000 ∧ 1 ≤ least ∧ least ≤ most ∧ most ≤ 40 ∧ wide ≤ 40 ∧
  ∀ t a b ns as es H', IsNet ns es → least ≤ ns.length → ns.length ≤ most → es.length ≤ wide → H t = none → H a = none → H b = none → (∀ x ∈ as, H x = none) → But p H H' → H' t = some (.tup [.ref a, .ref b]) → H' a = some (.lst (ns.map V.str)) →
    H' b = some (.lst (as.map V.ref)) → EgsAt H' as es → Pen p c (n + 10000) H' → Q (.ref t) H'
end Lw
namespace Lw
open PySem PySem.Spec PyProof.Rows L2
theorem asgVia {te : TE} {i : Nat} {D : Ends} {σ : St} {H : Hp} (S : V → Hp → Prop) (h1 : ∀ Q' : VK, (∀ v H', S v H' → Q' v H') → te σ H Q') (h2 : ∀ v H', S v H' → D.nx (σ.set i (some v)) H') : tAsg te (gName i) D σ H := h1 _ h2
theorem q_asgVia {te : TE} {i : Nat} {tz : TS} {D : Ends} {σ : St} {H : Hp} (S : V → Hp → Prop) (h1 : ∀ Q' : VK, (∀ v H', S v H' → Q' v H') → te σ H Q') (h2 : ∀ v H', S v H' → tz D (σ.set i (some v)) H') : tSeq (tAsg te (gName i)) tz D σ H := h1 _ h2
theorem g_name {i : Nat} {v : V} {σ : St} {H : Hp} {Q : St → Hp → Prop} (h : Q (σ.set i (some v)) H) : gName i v σ H Q := h
theorem get_str {ns : List Str} {i : Nat} (h : i < ns.length) : (ns.map V.str)[i]? = some (.str ns[i]) := by
  rw [List.getElem?_map, List.getElem?_eq_getElem h]
  rfl
theorem at_str {ns : List Str} {i : Int} (h0 : 0 ≤ i) (h : i.toNat < ns.length) : atI (ns.map V.str) i = some (.str ns[i.toNat]) := atI_some h0 (get_str h)
theorem at_last {ns : List Str} (h : ns.length - 1 < ns.length) : atI (ns.map V.str) (-1) = some (.str ns[ns.length - 1]) := by
  unfold atI
  have hl : (ns.map V.str).length = ns.length := List.length_map _
  have : ixN (ns.map V.str).length (-1) = some (ns.length - 1) := by
    unfold ixN
    rw [if_neg (by omega), if_pos (by omega), hl]
    congr 1
    omega
  rw [this]
  exact get_str h
theorem nd_ne {ns : List Str} (h : ns.Nodup) {i j : Nat} (hi : i < ns.length) (hj : j < ns.length) (n : i ≠ j) : ns[i] ≠ ns[j] := by
  rcases Nat.lt_or_gt_of_ne n with k | k
  · exact List.pairwise_iff_getElem.mp h i j hi hj k
  · exact fun e => List.pairwise_iff_getElem.mp h j i hj hi k e.symm
end Lw

set_option maxHeartbeats 1000000
/-! sorted of a list or a tuple whose items read as data -/
namespace Lw
open PySem PySem.Calls PyProof.Rows
section
variable {prog : Program} {w : World} {A : Around} {E : Value → Shared → Prop} {s : Shared}
/-- the items of a list or a tuple -/
theorem gather {a : Addr} {T : String} {o : Obj} {n : Nat} {vs : List Value} {Q : List Value → Shared → Prop} (hT : T = "list" ∨ T = "tuple") (ho : s.heap.get? a = some o) (hc : o.cls = .type T) (hd : o.data = .seq vs.toArray n) (hz : vs.length ≤ sizeLine)
    (k : Q vs { s with heap := (s.heap.push (seqObj "list" #[] 0)).update s.heap.objs.size (Obj.mapSeq (· ++ vs.toArray)) }) : wpAny (model prog w) A (collect (.ref a)) Q E s := by
  have zero : (s.heap.push (seqObj "list" #[] 0)).get? s.heap.objs.size = some (seqObj "list" #[] 0) := Heap.get?_push_size _ rfl
  have old : (s.heap.push (seqObj "list" #[] 0)).get? a = some o := Heap.get?_push_of_some _ ho
  unfold collect
  refine wpAny_bind (wpAny_runValue ?run)
  case run =>
    refine codeAny_builtin entry_proto_collect' ?_
    show wpAny _ _ (newList [] >>= fun fresh => again (.builtin "list.__iadd__" ⟨[fresh, .ref a], []⟩)) _ _ s
    refine wpAny_bind (wpAny_newList (wpAny_pure (And.intro (Code.quiet_builtin _ (by decide +kernel)) ?more)))
    refine codeAny_builtin entry_list_iadd' ?_
    show wpAny _ _ (Builtin.List.listExtendWith (.ref s.heap.objs.size) (.ref a) (.ref s.heap.objs.size)) _ _ (Shared.mk (s.heap.push (seqObj "list" #[] 0)) _ _ _ _)
    unfold Builtin.List.listExtendWith; skip
    refine wpAny_bind (wpAny_typeOf (T := T) (Exists.intro o (And.intro old hc)) ?_)
    have yes : (Builtin.List.listSameRef (.ref s.heap.objs.size) (.ref a) || Value.type T == Value.type "list" || Value.type T == Value.type "tuple") = true := by
      cases hT with
      | inl z => subst z; simp
      | inr z => subst z; simp
    rw [if_pos yes]
    refine wpAny_bind (listItems_at old hd ?_)
    refine wpAny_bind (listItems_at (n := 0) (xs := #[]) zero rfl ?_)
    rw [if_neg (show ¬ _ from by simp)]
    have few : ((#[] : Array Value) ++ vs.toArray).size ≤ sizeLine + 1 := by
      simp only [List.size_toArray, Array.size_append, List.length_nil]
      omega
    refine wpAny_bind (listUpdate_at (n := 0) (xs := #[]) zero rfl ?_ (Nat.zero_le _) few)
    refine wpAny_pure ?_
    refine wpAny_bind (wpAny_load (get?_update_seq zero _) ?_)
    have same : ((#[] : Array Value) ++ vs.toArray).toList = vs := by simp
    show wpAny (model prog w) _ (pure ((#[] : Array Value) ++ vs.toArray).toList) Q E _
    rw [same]
    exact wpAny_pure k
open PySem.W in
/-- sorted of it: a new list, in the order of the data -/
theorem sorted_seq {β : Type} {a : Addr} {T : String} {o : Obj} {n : Nat} {vs : List Value} {bs : List β} {enc : β → PyData} {R : Value → β → Prop} {Q : Value → Shared → Prop} (hT : T = "list" ∨ T = "tuple") (ho : s.heap.get? a = some o) (hc : o.cls = .type T)
    (hd : o.data = .seq vs.toArray n) (e : EachIs R vs bs) (er : EachIs (fun v b => ∃ as, Reads s.heap v (enc b) as) vs bs) (hal : AllAlike (bs.map enc)) (hk : Sortable (bs.map enc)) (hL : bs.length ≤ sizeLine) (hu : ∀ b, b ∈ bs → A.units + 2 + (enc b).depth < cLine)
    (k : ∀ out, out.length = bs.length → EachIs R out (bs.mergeSort (dataLe false enc)) → Q (.ref (s.heap.objs.size + 1)) { s with heap := sortedAll s.heap vs (List.toArray out) }) : wpAny (model prog w) A (call (.builtin "sorted") [.ref a]) Q E s := by
  have er' : EachIs (fun v b => ∃ as, Reads (sortingHeap (copyHeap s.heap vs) (s.heap.objs.size + 1) vs) v (enc b) as) vs bs := er.mono fun _ _ h => by
    obtain ⟨as, r⟩ := h
    exact ⟨as, PyProof.Rows.Reads.keeps (fun _ _ => sorting_copy_old) r⟩
  have few : vs.length ≤ sizeLine := by
    rw [e.length]
    exact hL
  have S := SortsAt.data (prog := prog) (w := w) (A := A.in1.in1) (s := { s with heap := sortingHeap (copyHeap s.heap vs) (s.heap.objs.size + 1) vs }) (each_map (R := fun v d => ∃ as, Reads (sortingHeap (copyHeap s.heap vs) (s.heap.objs.size + 1) vs) v d as) enc er') hal hk (bound_map hu)
  have got := k _ (by rw [sortVals_length false rfl]; exact e.length) (sortVals_data false e er' hal)
  refine call_function_entry_kw kind_sorted plain_sorted entry_sorted (args_sorted1 _) ?_
  unfold Builtin.«sorted»
  refine wpAny_bind (m := checkCount "sorted" 1 1 _) (wpAny_pure ?_) |> id
  refine wpAny_bind (gather hT ho hc hd few ?_)
  refine wpAny_bind (wpAny_newList ?_ few)
  have next : ((s.heap.push (seqObj "list" #[] 0)).update s.heap.objs.size (Obj.mapSeq (· ++ vs.toArray))).objs.size = s.heap.objs.size + 1 := (Heap.size_update _ _ _).trans (size_push' _ _)
  show wpAny _ _ _ _ _ (Shared.mk (copyHeap s.heap vs) _ _ _ _)
  rw [next]
  refine wpAny_bind (wpAny_holding (wpAny_call_entry_kw slot_list_sort (Exists.intro _ (And.intro (copyHeap_at s.heap vs) rfl)) entry_list_sort ?run (args_list_sort _)))
  case run =>
    refine wpAny_mono (list_sort_vals (s := { s with heap := copyHeap s.heap vs }) (P := fun f s' => f = .done (.ret .none) ∧ Q (.ref (s.heap.objs.size + 1)) s') (copyHeap_at s.heap vs) S few ⟨rfl, got⟩) (fun f s' hf => ?_) fun _ _ z => z
    obtain ⟨rfl, hq⟩ := hf
    exact Exists.intro _ (And.intro rfl (wpAny_pure (Exists.intro _ (And.intro rfl hq))))
end
end Lw
namespace Lw
open PySem PySem.Spec PyProof.Rows L2
/-- sorted(xs) of a list or a tuple of data: the items in the order of the data -/
def rSortedD (K : PySem.W.Frag) : List V → Hp → VK → Prop := fun vs H Q => ∃ (β : Type) (enc : β → PyData) (a : Addr) (ps : List (V × β)), vs = [V.ref a] ∧ (SqL K H a (ps.map (·.1)) ∨ SqT K H a (ps.map (·.1))) ∧ (∀ q ∈ ps, Dp K H q.1 (enc q.2)) ∧
  PySem.W.AllAlike (ps.map fun q => enc q.2) ∧ PySem.W.Sortable (ps.map fun q => enc q.2) ∧ (∀ q ∈ ps, (enc q.2).depth ≤ 20) ∧ ps.length ≤ 100000 ∧
  ∀ p, H p = none → Q (.ref p) (upd H p (.lst ((ps.mergeSort (PySem.W.dataLe false fun q => enc q.2)).map (·.1))))
theorem each_vals {β : Type} : ∀ {ps : List (V × β)} {its : List Value}, Vals (ps.map (·.1)) its → PySem.W.EachIs (fun (v : Value) (q : V × β) => RelV q.1 v) its ps
  | [], _, h => by
    cases h
    exact .nil
  | _ :: _, _, h => by
    cases h with
    | cons h1 h2 => exact .cons h1 (each_vals h2)
theorem vals_each {β : Type} : ∀ {ps : List (V × β)} {its : List Value}, PySem.W.EachIs (fun (v : Value) (q : V × β) => RelV q.1 v) its ps → Vals (ps.map (·.1)) its
  | _, _, .nil => .nil
  | _, _, .cons h1 h2 => .cons h1 (vals_each h2)
theorem each_all {α β : Type} {R S : α → β → Prop} : ∀ {as : List α} {bs : List β}, PySem.W.EachIs R as bs → (∀ a b, b ∈ bs → R a b → S a b) → PySem.W.EachIs S as bs
  | _, _, .nil, _ => .nil
  | _, _, .cons h t, k => .cons (k _ _ List.mem_cons_self h) (each_all t fun a b hb => k a b (List.mem_cons_of_mem _ hb))
theorem cr_sortedD {X : Cx} {k : Nat} (hr : Room k X.A) : CallR X (.builtin "sorted") (rSortedD X.K) := by
  intro pins s σ H vs us Q I r h
  obtain ⟨β, enc, a, ps, rfl, hs, hd, hal, hk, hdep, hz, q⟩ := h
  rw [Vals.ref1 r]
  have room := hr.units
  have sz : ps.length ≤ sizeLine := Evl.sz_of hz
  have fin : ∀ (its : List Value) (T : String) (o : Obj) (n : Nat), (T = "list" ∨ T = "tuple") → s.heap.get? a = some o → o.cls = .type T → o.data = .seq its.toArray n → Vals (ps.map (·.1)) its →
      wpAny (model X.prog X.w) X.A (call (.builtin "sorted") [.ref a]) (EP X pins σ Q) X.xe s := fun its T o n hT ho hc hdt rv => by
    have e := each_vals rv
    refine sorted_seq (enc := fun q : V × β => enc q.2) hT ho hc hdt e (each_all e fun v b hb rb => Dp.reads I _ _ _ (hd b hb) rb) hal hk sz (fun b hb => by have := hdep b hb; omega) fun out lo eo => ?_
    obtain ⟨ep, he⟩ := PyProof.Rows.sortedAll_at s.heap its (List.toArray out)
    have vo := vals_each eo
    have few : ((ps.mergeSort (PySem.W.dataLe false fun q => enc q.2)).map (·.1)).length ≤ sizeLine := by
      rw [List.length_map, List.length_mergeSort]
      exact sz
    have J := I.laid (a := s.heap.objs.size + 1) (o := .lst ((ps.mergeSort (PySem.W.dataLe false fun q => enc q.2)).map (·.1))) (t' := s.toks) (fun _ _ => PyProof.Rows.sortedAll_old) (Nat.le_succ _) ⟨few, out, ep, vo, he⟩
    exact ⟨.ref (s.heap.objs.size + 1), _, J, rfl, q _ (I.hok.fresh (Nat.le_succ _))⟩
  rcases hs with hs | hs
  · obtain ⟨its, rv, ⟨o, n, ho, hc, _, hdt⟩, _⟩ := I.list hs
    exact fin its "list" o n (.inl rfl) ho hc hdt rv
  · obtain ⟨its, rv, ⟨o, ho, hc, n, hdt⟩, _⟩ := I.tuple hs
    exact fin its "tuple" o n (.inr rfl) ho hc hdt rv
end Lw

set_option maxHeartbeats 1000000
/-! the order of names -/
namespace Lw
open PySem PySem.Spec PyProof.Rows
abbrev sk (z : Str) : List Nat := z.cps.toList
/-- ascending by name, no name twice -/
def Asc {α : Type} (f : α → Str) (xs : List α) : Prop := xs.Pairwise fun a b => sk (f a) < sk (f b)
theorem asc_unique {α : Type} {f : α → Str} : ∀ {xs ys : List α}, xs.Perm ys → Asc f xs → Asc f ys → xs = ys
  | [], ys, h, _, _ => (List.nil_perm.mp h).symm
  | x :: xs, [], h, _, _ => absurd (List.perm_nil.mp h) (by simp)
  | x :: xs, y :: ys, h, hx, hy => by
    obtain ⟨x1, x2⟩ := List.pairwise_cons.mp hx
    obtain ⟨y1, y2⟩ := List.pairwise_cons.mp hy
    have e : x = y := by
      have mx : x ∈ y :: ys := h.mem_iff.mp List.mem_cons_self
      have my : y ∈ x :: xs := h.mem_iff.mpr List.mem_cons_self
      rcases List.mem_cons.mp mx with mx | mx
      · exact mx
      · rcases List.mem_cons.mp my with my | my
        · exact my.symm
        · exact absurd (x1 y my) (List.lt_asymm (y1 x mx))
    subst e
    rw [asc_unique (List.Perm.cons_inv h) x2 y2]
/-- sorted, the keys compared first by a name that is no other's -/
theorem asc_sort {α : Type} {f : α → Str} {enc : α → PyData} (he : ∀ a b, f a ≠ f b → PySem.W.dataLt (enc a) (enc b) = decide (sk (f a) < sk (f b))) (xs : List α) (nd : (xs.map f).Nodup) : Asc f (xs.mergeSort (PySem.W.dataLe false enc)) := by
  have pm := List.mergeSort_perm xs (PySem.W.dataLe false enc)
  have pw : (xs.mergeSort (PySem.W.dataLe false enc)).Pairwise fun a b => PySem.W.dataLe false enc a b = true := PySem.W.sort_pairwise (PySem.W.sortLe_total _ false _) xs
  have nd2 : ((xs.mergeSort (PySem.W.dataLe false enc)).map f).Nodup := (pm.map f).nodup_iff.mpr nd
  have ne : (xs.mergeSort (PySem.W.dataLe false enc)).Pairwise fun a b => f a ≠ f b := List.pairwise_map.mp (List.nodup_iff_pairwise_ne.mp nd2)
  refine (List.Pairwise.and pw ne).imp fun {a b} h => ?_
  have h1 : PySem.W.dataLt (enc b) (enc a) = false := by
    have z : (!PySem.W.dataLt (enc b) (enc a)) = true := h.1
    simpa using z
  rw [he b a (Ne.symm h.2)] at h1
  have h2 := of_decide_eq_false h1
  refine Decidable.byContradiction fun k => ?_
  exact h.2 (ext_cps (List.le_antisymm (List.not_lt.mp h2) (List.not_lt.mp k)))
/-- nodes and edges in order -/
def leN : Str → Str → Bool := PySem.W.dataLe false fun z => .str z
abbrev egD (e : Eg) : PyData := .tuple [.str e.1, .str e.2.1, .str e.2.2.1, .int e.2.2.2]
def leE : Eg → Eg → Bool := PySem.W.dataLe false egD
theorem lt_str (a b : Str) : PySem.W.dataLt (.str a) (.str b) = decide (sk a < sk b) := PySem.W.dataLt_str a b
theorem lt_eg (a b : Eg) (h : a.1 ≠ b.1) : PySem.W.dataLt (egD a) (egD b) = decide (sk a.1 < sk b.1) := by
  have n : ¬ PyData.eqv (.str a.1) (.str b.1) = true := fun z => by
    simp only [PyData.eqv, beq_iff_eq] at z
    exact h z
  rw [egD, egD, PySem.W.dataLt_tuple, PySem.W.dataLt_cons (by simp [PySem.W.alike]), if_neg n]
  exact lt_str _ _
def srtN (ns : List Str) : List Str := ns.mergeSort leN
def srtE (es : List Eg) : List Eg := es.mergeSort leE
theorem srtN_asc {ns : List Str} (h : ns.Nodup) : Asc id (srtN ns) := asc_sort (f := id) (fun a b _ => lt_str a b) ns (by rw [List.map_id]; exact h)
theorem srtE_asc {es : List Eg} (h : (es.map (·.1)).Nodup) : Asc (·.1) (srtE es) := asc_sort (f := fun e : Eg => e.1) (fun a b n => lt_eg a b n) es h
theorem srtN_perm (ns : List Str) : (srtN ns).Perm ns := List.mergeSort_perm ns _
theorem srtE_perm (es : List Eg) : (srtE es).Perm es := List.mergeSort_perm es _
theorem srtN_eq {ns ms : List Str} (h : ns.Nodup) (p : ms.Perm ns) : srtN ms = srtN ns :=
  asc_unique (((srtN_perm ms).trans p).trans (srtN_perm ns).symm) (srtN_asc (p.nodup_iff.mpr h)) (srtN_asc h)
theorem srtE_eq {es fs : List Eg} (h : (es.map (·.1)).Nodup) (p : fs.Perm es) : srtE fs = srtE es :=
  asc_unique (((srtE_perm fs).trans p).trans (srtE_perm es).symm) (srtE_asc ((p.map _).nodup_iff.mpr h)) (srtE_asc h)
/-- the lesser end first -/
def minS (a b : Str) : Str := if sk b < sk a then b else a
def maxS (a b : Str) : Str := if sk a < sk b then b else a
def norm (e : Eg) : Eg := (e.1, minS e.2.1 e.2.2.1, maxS e.2.1 e.2.2.1, e.2.2.2)
theorem norm_names (es : List Eg) : (es.map norm).map (·.1) = es.map (·.1) := by
  rw [List.map_map]
  rfl
/-- the ends turned before or behind the sorting -/
theorem srtE_norm {es : List Eg} (h : (es.map (·.1)).Nodup) : srtE (es.map norm) = (srtE es).map norm := by
  refine asc_unique (((srtE_perm _).trans ((srtE_perm es).symm.map norm))) (srtE_asc (by rw [norm_names]; exact h)) ?_
  exact List.pairwise_map.mpr (srtE_asc h)
end Lw

set_option maxHeartbeats 1000000
/-! the lesser and the greater of two texts -/
namespace Lw
open PySem PySem.Spec PyProof.Rows L2
section
variable {prog : Program} {w : World} {A : Around} {E : Value → Shared → Prop} {s : Shared}
theorem pair_best {op : CmpOp} {x y : Value} {bt : Nat → Nat → Bool} {Q : Value → Shared → Prop} (hh : A.handled = none) (hc : CmpOf prog w A.in1 op (fun i v => (#[x, y] : Array Value)[i]? = some v) bt)
    (k : ∀ h' tk, (∀ c o, s.heap.get? c = some o → h'.get? c = some o) → Q (if bt 1 0 = true then y else x) { s with heap := h', toks := tk }) :
    wpAny (model prog w) A.in1 (pyIter (.ref s.heap.objs.size)) (fun it s₂ => ∃ I fp wr n P St bt, it = .ref I ∧ Walks prog w A.in1 I fp wr n P St ∧ St 0 s₂.heap ∧ (∀ b ∈ fp, b < s₂.heap.objs.size) ∧ 0 < n ∧ CmpOf prog w A.in1 op P bt ∧
      ∀ v h' tk, P (argBest bt (n - 1)) v → (∀ b o, b ∉ wr → s₂.heap.get? b = some o → h'.get? b = some o) → Q v { s₂ with heap := h', toks := tk }) E { s with heap := s.heap.push { cls := .type "tuple", data := .seq #[x, y] } } := by
  have tup : (s.heap.push { cls := .type "tuple", data := .seq #[x, y] }).IsTuple s.heap.objs.size #[x, y] := ⟨_, Heap.get?_push_size _ rfl, rfl, 0, rfl⟩
  have more : (s.heap.push { cls := .type "tuple", data := .seq #[x, y] }).objs.size = s.heap.objs.size + 1 := Heap.size_push ..
  refine wpAny_pyIter_tuple tup ?_
  refine ⟨_, [_, s.heap.objs.size], [_], _, _, _, bt, rfl, Walks.tuple (A := A.in1) hh _ s.heap.objs.size (by rw [more]; exact Nat.ne_of_lt (Nat.lt_succ_self _)) #[x, y], ⟨⟨_, Heap.get?_push_size _ rfl, rfl, rfl⟩, tup.push _⟩, fun c m => ?_, by simp, hc, fun v h' tk hP hk => ?_⟩
  · show (c : Nat) < ((s.heap.push _).push _).objs.size
    rw [Heap.size_push, more]
    simp only [List.mem_cons, List.mem_nil_iff, or_false] at m
    rcases m with m | m
    · rw [m, more]
      exact Nat.lt_succ_self _
    · rw [m]
      exact Nat.lt_succ_of_lt (Nat.lt_succ_self _)
  · have old : ∀ c o, s.heap.get? c = some o → h'.get? c = some o := fun c o z => by
      refine hk c o (fun m => ?_) (Heap.get?_push_of_some _ (Heap.get?_push_of_some _ z))
      have lt := Heap.lt_size z
      rw [List.mem_singleton.mp m, more] at lt
      exact absurd lt (Nat.not_lt_of_le (Nat.le_succ _))
    have got := k h' tk old
    have best : argBest bt 1 = if bt 1 0 = true then 1 else 0 := rfl
    have at1 : (#[x, y] : Array Value)[argBest bt 1]? = some v := hP
    rw [best] at at1
    by_cases z : bt 1 0 = true
    · rw [if_pos z] at at1 got
      cases at1
      exact got
    · rw [if_neg z] at at1 got
      cases at1
      exact got
end
section
variable {X : Cx}
theorem strs_at {a b : Str} {t u : Tok} {i : Nat} {v : Value} (h : (#[Value.str a t, Value.str b u] : Array Value)[i]? = some v) : ∃ t', v = .str (if i = 0 then a else b) t' := by
  match i, h with
  | 0, h => exact ⟨t, (Option.some.inj h).symm⟩
  | 1, h => exact ⟨u, (Option.some.inj h).symm⟩
theorem call_min2S (hc : X.calm = true) : CallR X (.builtin "min") (fun xs H Q => ∃ a b, xs = [V.str a, .str b] ∧ Q (.str (minS a b)) H) := by
  intro pins s σ H xs us Q I r h
  obtain ⟨a, b, rfl, q⟩ := h
  obtain ⟨u, w', rfl, ⟨t, rfl⟩, ⟨t', rfl⟩⟩ := vals2 r
  refine call_min_two (pair_best (I.ok.hd hc) (bt := fun i j => decide (sk (if i = 0 then a else b) < sk (if j = 0 then a else b))) (fun i j vi vj s Q E hi hj h => ?_) fun h' tk k => ⟨_, H, I.kept k, ?_, q⟩)
  · obtain ⟨t1, rfl⟩ := strs_at hi
    obtain ⟨t2, rfl⟩ := strs_at hj
    exact PySem.P.lt_str h
  · unfold minS
    by_cases z : sk b < sk a
    · rw [if_pos z, if_pos (by simpa using z)]
      exact ⟨_, rfl⟩
    · rw [if_neg z, if_neg (by simpa using z)]
      exact ⟨_, rfl⟩
theorem call_max2S (hc : X.calm = true) : CallR X (.builtin "max") (fun xs H Q => ∃ a b, xs = [V.str a, .str b] ∧ Q (.str (maxS a b)) H) := by
  intro pins s σ H xs us Q I r h
  obtain ⟨a, b, rfl, q⟩ := h
  obtain ⟨u, w', rfl, ⟨t, rfl⟩, ⟨t', rfl⟩⟩ := vals2 r
  refine call_max_two (pair_best (I.ok.hd hc) (bt := fun i j => decide (sk (if j = 0 then a else b) < sk (if i = 0 then a else b))) (fun i j vi vj s Q E hi hj h => ?_) fun h' tk k => ⟨_, H, I.kept k, ?_, q⟩)
  · obtain ⟨t1, rfl⟩ := strs_at hi
    obtain ⟨t2, rfl⟩ := strs_at hj
    exact PySem.P.gt_str h
  · unfold maxS
    by_cases z : sk a < sk b
    · rw [if_pos z, if_pos (by simpa using z)]
      exact ⟨_, rfl⟩
    · rw [if_neg z, if_neg (by simpa using z)]
      exact ⟨_, rfl⟩
end
end Lw

set_option maxHeartbeats 1000000
/-! the text of a network -/
namespace Lw
open PySem PySem.Spec PyProof.Rows L2
def isz (l : Int) : Str := Str.ofString (toString l)
theorem isz_len {l : Int} (h0 : -1000000 ≤ l) (h1 : l ≤ 1000000) : (isz l).length ≤ 8 := by
  unfold isz
  rw [PySem.ofString_length]
  exact int_text_length_le10 (k := 7) (by decide) (by omega)
theorem isz_log {l : Int} (h0 : -1000000 ≤ l) (h1 : l ≤ 1000000) : l.natAbs.log2 < 1920 := by
  have h : l.natAbs < 2 ^ 20 := by omega
  rcases Nat.eq_zero_or_pos l.natAbs with z | z
  · rw [z]
    decide
  · have := (Nat.log2_lt (Nat.ne_of_gt z)).mpr h
    omega
theorem emp_app (z : Str) : Str.empty ++ z = z := ext_cps (by rw [app_cps]; rfl)
theorem app_assoc (a b c : Str) : a ++ b ++ c = a ++ (b ++ c) := ext_cps (by rw [app_cps, app_cps, app_cps, app_cps, List.append_assoc])
def nodeLine (z : Str) : Str := "node " ++ z
def edgeLine (e : Eg) : Str := "edge " ++ e.1 ++ " " ++ e.2.1 ++ " " ++ e.2.2.1 ++ " " ++ isz e.2.2.2
theorem edge_sp : ("edge " : Str) = ("edge" : Str) ++ (" " : Str) := by decide +kernel
theorem edge_join (n u v s : Str) : Txt.join " " ["edge", n, u, v, s] = "edge " ++ n ++ " " ++ u ++ " " ++ v ++ " " ++ s := by
  rw [show Txt.join " " (["edge", n, u, v, s] : List Str) = Str.join " " ["edge", n, u, v, s] from PySem.StrLaws.glued_eq_join _ _, edge_sp]
  show ("edge" : Str) ++ " " ++ (n ++ " " ++ (u ++ " " ++ (v ++ " " ++ s))) = _
  simp only [app_assoc]
def linesOf (ns : List Str) (es : List Eg) : List Str := (srtN ns).map nodeLine ++ (srtE (es.map norm)).map edgeLine
def netText (ns : List Str) (es : List Eg) : Str := Txt.join "\n" (linesOf ns es)
theorem five : (("edge " : Str)).length = 5 ∧ (("node " : Str)).length = 5 ∧ ((" " : Str)).length = 1 ∧ (("\n" : Str)).length = 1 ∧ (("edge" : Str)).length = 4 := by decide +kernel
theorem node_len {z : Str} (h : z.length ≤ 8) : (nodeLine z).length ≤ 13 := by
  unfold nodeLine
  rw [len_app, five.2.1]
  omega
/-- an edge as short as those of networks are -/
def Short (e : Eg) : Prop := e.1.length ≤ 8 ∧ e.2.1.length ≤ 8 ∧ e.2.2.1.length ≤ 8 ∧ -1000000 ≤ e.2.2.2 ∧ e.2.2.2 ≤ 1000000
theorem edge_len {e : Eg} (h : Short e) : (edgeLine e).length ≤ 40 := by
  obtain ⟨h1, h2, h3, h4, h5⟩ := h
  have := isz_len h4 h5
  unfold edgeLine
  simp only [len_app, five.1, five.2.2.1]
  omega
theorem min_or (a b : Str) : minS a b = a ∨ minS a b = b := by
  unfold minS
  split
  · exact .inr rfl
  · exact .inl rfl
theorem max_or (a b : Str) : maxS a b = a ∨ maxS a b = b := by
  unfold maxS
  split
  · exact .inr rfl
  · exact .inl rfl
theorem IsNet.short {ns : List Str} {es : List Eg} (h : IsNet ns es) {e : Eg} (he : e ∈ es) : Short e := by
  obtain ⟨h1, h2, h3, h4, h5, h6⟩ := h.em e he
  exact ⟨h1.2.1, (h.nm _ h2).2.1, (h.nm _ h3).2.1, h5, h6⟩
theorem Short.norm {e : Eg} (h : Short e) : Short (norm e) := by
  obtain ⟨h1, h2, h3, h4, h5⟩ := h
  refine ⟨h1, ?_, ?_, h4, h5⟩
  · show (minS e.2.1 e.2.2.1).length ≤ 8
    rcases min_or e.2.1 e.2.2.1 with z | z <;> rw [z] <;> assumption
  · show (maxS e.2.1 e.2.2.1).length ≤ 8
    rcases max_or e.2.1 e.2.2.1 with z | z <;> rw [z] <;> assumption
/-- other orders, the ends turned: the same text -/
theorem netText_eq {ns ms : List Str} {es fs : List Eg} (h : IsNet ns es) (p : ms.Perm ns) (q : (fs.map norm).Perm (es.map norm)) : netText ms fs = netText ns es := by
  unfold netText linesOf
  rw [srtN_eq h.nd p, srtE_eq (by rw [norm_names]; exact h.ed) q]
/-! sorted of names, of edges -/
theorem dp_names {K : PySem.W.Frag} {H : Hp} (z : Str) : Dp K H (.str z) (.str z) := .str z
theorem rc_sortN {K : PySem.W.Frag} {H : Hp} {a : Addr} {ns : List Str} (hs : SqL K H a (ns.map V.str) ∨ SqT K H a (ns.map V.str)) (hz : ns.length ≤ 1000) : Evl.RCL (rSortedD K) [.ref a] H ((srtN ns).map V.str) := fun H1 e Q q => by
  have e1 : (ns.map fun z => (V.str z, z)).map (·.1) = ns.map V.str := by
    rw [List.map_map]
    rfl
  refine ⟨Str, fun z => .str z, a, ns.map fun z => (V.str z, z), rfl, ?_, fun p hp => ?_, ?_, ?_, fun p _ => by simp [PyData.depth], by rw [List.length_map]; omega, fun p hp => ?_⟩
  · rw [e1]
    exact hs.elim (fun z => .inl (Evl.ex_l e z)) fun z => .inr (Evl.ex_t e z)
  · obtain ⟨z, _, rfl⟩ := List.mem_map.mp hp
    exact .str z
  · exact PySem.W.AllAlike.of (enc := fun q : V × Str => .str q.2) fun b b' => by simp [PySem.W.alike]
  · exact PySem.W.Sortable.others (enc := fun q : V × Str => .str q.2) fun b => ⟨nofun, nofun⟩
  · have e2 : ((ns.map fun z => (V.str z, z)).mergeSort (PySem.W.dataLe false fun q => .str q.2)).map (·.1) = (srtN ns).map V.str := by
      have m2 : (srtN ns).map (fun z => (V.str z, z)) = (ns.map fun z => (V.str z, z)).mergeSort (PySem.W.dataLe false fun q => .str q.2) := PySem.W.sort_maps _ fun _ _ _ _ => rfl
      rw [← m2, List.map_map]
      rfl
    rw [e2]
    exact q p _ hp (Evl.Ex.new hp) upd_same
theorem egs_pairs {H : Hp} : ∀ {as : List Addr} {es : List Eg}, EgsAt H as es → ∃ ps : List (V × Eg), ps.map (·.1) = as.map V.ref ∧ ps.map (·.2) = es ∧ ∀ q ∈ ps, ∃ a, q.1 = .ref a ∧ H a = some (.tup (egV q.2))
  | _, _, .nil => ⟨[], rfl, rfl, fun q hq => absurd hq (by simp)⟩
  | a :: _, e :: _, .cons h t => by
    obtain ⟨ps, h1, h2, h3⟩ := egs_pairs t
    refine ⟨(.ref a, e) :: ps, by rw [List.map_cons, h1]; rfl, by rw [List.map_cons, h2], fun q hq => ?_⟩
    rcases List.mem_cons.mp hq with z | z
    · rw [z]
      exact ⟨a, rfl, h⟩
    · exact h3 q z
theorem pairs_egs {H : Hp} : ∀ {ps : List (V × Eg)}, (∀ q ∈ ps, ∃ a, q.1 = .ref a ∧ H a = some (.tup (egV q.2))) → ∃ as : List Addr, ps.map (·.1) = as.map V.ref ∧ EgsAt H as (ps.map (·.2))
  | [], _ => ⟨[], rfl, .nil⟩
  | q :: ps, h => by
    obtain ⟨as, h1, h2⟩ := pairs_egs (ps := ps) fun q hq => h q (List.mem_cons_of_mem _ hq)
    obtain ⟨a, e1, e2⟩ := h q List.mem_cons_self
    exact ⟨a :: as, by rw [List.map_cons, List.map_cons, e1, h1], .cons e2 h2⟩
theorem rc_sortE {K : PySem.W.Frag} {H : Hp} {a : Addr} {as : List Addr} {es : List Eg} {Q : VK} (hs : SqL K H a (as.map V.ref) ∨ SqT K H a (as.map V.ref)) (he : EgsAt H as es) (hz : as.length ≤ 1000)
    (q : ∀ p bs, H p = none → EgsAt H bs (srtE es) → Q (.ref p) (upd H p (.lst (bs.map V.ref)))) : rSortedD K [.ref a] H Q := by
  obtain ⟨ps, h1, h2, h3⟩ := egs_pairs he
  have len : ps.length = as.length := by
    have := congrArg List.length h1
    rwa [List.length_map, List.length_map] at this
  refine ⟨Eg, egD, a, ps, rfl, by rw [h1]; exact hs, fun p hp => ?_, ?_, ?_, fun p _ => by simp [egD, PyData.depth, PyData.depthAll], by omega, fun p hp => ?_⟩
  · obtain ⟨b, e1, e2⟩ := h3 p hp
    rw [e1]
    exact .tup (.inl (.inl e2)) (.cons (.str _) (.cons (.str _) (.cons (.str _) (.cons (.int _) .nil))))
  · exact PySem.W.AllAlike.of (enc := fun q : V × Eg => egD q.2) fun b b' => by simp [egD, PySem.W.alike, PySem.W.alikeAll]
  · exact PySem.W.Sortable.tuples (enc := fun q : V × Eg => egD q.2) fun b => ⟨_, _, rfl⟩
  · have pm := List.mergeSort_perm ps (PySem.W.dataLe false fun q => egD q.2)
    have m2 : (ps.mergeSort (PySem.W.dataLe false fun q => egD q.2)).map (·.2) = srtE es := by
      rw [← h2]
      exact PySem.W.sort_maps (fun q : V × Eg => q.2) fun _ _ _ _ => rfl
    obtain ⟨bs, b1, b2⟩ := pairs_egs (H := H) (ps := ps.mergeSort (PySem.W.dataLe false fun q => egD q.2)) fun q hq => h3 q (pm.mem_iff.mp hq)
    rw [b1]
    rw [m2] at b2
    exact q p bs hp b2
end Lw
namespace Lw
open PySem PySem.Spec PyProof.Rows L2
theorem et_yes {σ : St} {H : Hp} : Evl.EvT tYes σ H true := fun H1 _ _ q => q H1 (Evl.Ex.refl _)
theorem given_all {n : Nat} {v : Nat → V} : Evl.given n (fun _ => true) v = (List.range n).map v := by
  unfold Evl.given
  rw [List.filter_eq_self.mpr fun _ _ => rfl]
/-- [g(x) for x in a new list] -/
theorem el_lcMap {K : PySem.W.Frag} {σ : St} {H : Hp} {xs : List V} {tl te : TE} {j : Nat} {vs : List Nat} (g : V → V) (h : Evl.EvL tl σ H xs) (hz : xs.length ≤ 40000) (hw : ∀ x, wipe ((wipe σ vs).set j (some x)) vs = wipe σ vs)
    (he : ∀ x ∈ xs, ∀ H1, Evl.Ex H H1 → Evl.Ev te ((wipe σ vs).set j (some x)) H1 (g x)) : Evl.EvL (tLc (iList K tl) (gName j) tYes te vs) σ H (xs.map g) := by
  have k := Evl.el_lcNL (K := K) (te := te) (t := tYes) (fun _ => true) (fun i => g (xs.getD i .non)) h hz hw (fun _ _ _ _ _ => et_yes) fun i x H1 e hx _ => by
    have hm : x ∈ xs := List.mem_of_getElem? hx
    have hg : xs.getD i .non = x := by rw [List.getD_eq_getElem?_getD, hx]; rfl
    rw [hg]
    exact he x hm H1 e
  rw [given_all] at k
  have e : (List.range xs.length).map (fun i => g (xs.getD i .non)) = xs.map g := by
    refine List.ext_getElem (by simp) fun i h1 h2 => ?_
    rw [List.getElem_map, List.getElem_map, List.getElem_range]
    congr 1
    rw [List.length_map] at h2
    rw [List.getD_eq_getElem?_getD, List.getElem?_eq_getElem h2]
    rfl
  rw [e] at k
  exact k
end Lw
namespace Lw
open PySem PySem.Spec PyProof.Rows L2
/-- a for over a new list of which only something is known -/
theorem q_forVia {K : PySem.W.Frag} {tl : TE} {g : TG} {tu tz : TS} {D : Ends} {σ : St} {H : Hp} (S : Addr → List V → Hp → Prop) (h1 : ∀ Q' : VK, (∀ p xs H', S p xs H' → Q' (.ref p) H') → tl σ H Q') (Pv : Addr → List V → Nat → St → Hp → Prop)
    (h0 : ∀ p xs H', S p xs H' → Pv p xs 0 σ H') (hl : ∀ p xs i σ' H', Pv p xs i σ' H' → SqL K H' p xs)
    (hs : ∀ p xs i x σ' H', xs[i]? = some x → Pv p xs i σ' H' → g x σ' H' fun σ2 H2 => tu { D with nx := Pv p xs (i + 1), ct := Pv p xs (i + 1), bk := tz D } σ2 H2) (hd : ∀ p xs σ' H', Pv p xs xs.length σ' H' → tz D σ' H') :
    tSeq (tFor (iList K tl) g tu) tz D σ H :=
  h1 _ fun p xs H' hS => ⟨p, rfl, ⟨xs, hl _ _ _ _ _ (h0 _ _ _ hS)⟩, for_list (D := { D with nx := tz D }) (Pv p xs) (h0 _ _ _ hS) (fun i σ' H' _ z => hl _ _ _ _ _ z) (fun i x σ' H' hx z => hs p xs i x σ' H' hx z) (fun σ' H' z => hd p xs σ' H' z)⟩
theorem egs_get {H : Hp} : ∀ {as : List Addr} {es : List Eg}, EgsAt H as es → ∀ {i : Nat} {a : Addr}, as[i]? = some a → ∃ e, es[i]? = some e ∧ H a = some (.tup (egV e))
  | _, _, .nil, i, a, h => by simp at h
  | b :: _, e :: _, .cons x t, 0, a, h => ⟨e, rfl, by
    have : b = a := Option.some.inj h
    rw [← this]
    exact x⟩
  | _ :: _, _ :: _, .cons _ t, i + 1, a, h => egs_get t (i := i) h
theorem EgsAt.len {H : Hp} {as : List Addr} {es : List Eg} (h : EgsAt H as es) : as.length = es.length := Paired.length h
theorem lines_sum {ys : List Str} {n k : Nat} (h : ys.length ≤ n) (hk : ∀ y ∈ ys, y.length ≤ k) : (ys.map (·.length)).sum ≤ n * k := by
  have : ∀ l : List Str, (∀ y ∈ l, y.length ≤ k) → (l.map (·.length)).sum ≤ l.length * k := fun l => by
    induction l with
    | nil => exact fun _ => Nat.zero_le _
    | cons x r ih =>
      intro hx
      have h1 := ih fun y hy => hx y (List.mem_cons_of_mem _ hy)
      have h2 := hx x List.mem_cons_self
      rw [List.map_cons, List.sum_cons, List.length_cons, Nat.succ_mul]
      omega
  exact Nat.le_trans (this ys hk) (Nat.mul_le_mul_right _ h)
/-- the text of nodes and edges in any order -/
def spText (K : PySem.W.Frag) : Sp := fun vs H Q _ => ∃ (a b : Addr) (ns : List Str) (as : List Addr) (es : List Eg), vs = [V.ref a, .ref b] ∧ (SqL K H a (ns.map V.str) ∨ SqT K H a (ns.map V.str)) ∧ (SqL K H b (as.map V.ref) ∨ SqT K H b (as.map V.ref)) ∧
  EgsAt H as es ∧ IsNet ns es ∧ ns.length ≤ 100 ∧ es.length ≤ 200 ∧ ∀ H', Evl.Ex H H' → Q (.str (netText ns es)) H'
end Lw

set_option maxHeartbeats 1000000
/-! numbers as words -/
namespace Lw
open PySem PySem.Spec PyProof.Rows L2
theorem isz_nat (n : Nat) : (isz (n : Int)).cps.toList = TL.numL n := TL.tl_num n
theorem isz_neg {l : Int} (h : l < 0) : (isz l).cps.toList = 45 :: TL.numL l.natAbs := by
  unfold isz
  rw [toString_neg h, show (0 : Int) - l = (l.natAbs : Int) by omega, signs_ofString, String.toList_append, List.map_append, ← signs_ofString (toString ((l.natAbs : Nat) : Int))]
  rw [show (Str.ofString (toString ((l.natAbs : Nat) : Int))).cps.toList = TL.numL l.natAbs from TL.tl_num _]
  rfl
theorem isz_cases (l : Int) : (0 ≤ l ∧ (isz l).cps.toList = TL.numL l.natAbs) ∨ (l < 0 ∧ (isz l).cps.toList = 45 :: TL.numL l.natAbs) := by
  by_cases h : l < 0
  · exact .inr ⟨h, isz_neg h⟩
  · refine .inl ⟨by omega, ?_⟩
    have e : l = (l.natAbs : Int) := by omega
    rw [e, isz_nat]
    rfl
theorem numL_head : ∀ n : Nat, 0 < n → ∃ d r, TL.numL n = d :: r ∧ d ≠ 48 := by
  intro n
  induction n using Nat.strongRecOn with
  | _ n ih =>
    intro h
    by_cases z : n < 10
    · exact ⟨48 + n, [], TL.numL_lt z, by omega⟩
    · obtain ⟨d, r, e, hd⟩ := ih (n / 10) (by omega) (by omega)
      exact ⟨d, r ++ [48 + n % 10], by rw [TL.numL_step (by omega), e]; rfl, hd⟩
theorem isz_reads {l : Int} (h0 : -1000000 ≤ l) (h1 : l ≤ 1000000) : intText? (isz l) = some l := by
  have hl := isz_len h0 h1
  rcases isz_cases l with ⟨h, e⟩ | ⟨h, e⟩
  · have := PySem.intText_digits (x := isz l) (by rw [e]; exact TL.numL_digits _) (by rw [e]; exact TL.numL_ne _) (by omega)
    rw [this, e, TL.numL_val]
    congr 1
    omega
  · have := PySem.intText_neg (x := isz l) e (TL.numL_digits _) (TL.numL_ne _) (by omega)
    rw [this, TL.numL_val]
    congr 1
    omega
/-- without the sign -/
theorem rp_neg {w : Str} {cs : List Nat} (h : w.cps.toList = 45 :: cs) : (Txt.removeprefix w "-").cps.toList = cs := by
  have l1 : (("-" : String) : Str).length = 1 := by decide +kernel
  have c1 : (("-" : String) : Str).cps = #[45] := by decide +kernel
  have wl : w.length = cs.length + 1 := by
    rw [len_cps, h]
    rfl
  have yes : (decide (0 + (("-" : String) : Str).length ≤ w.length) && Builtin.Str.subAt w ("-" : String) 0) = true := by
    rw [l1, wl, Bool.and_eq_true]
    refine ⟨decide_eq_true (by omega), ?_⟩
    unfold Builtin.Str.subAt
    rw [l1, c1, beq_iff_eq]
    apply Array.toList_inj.mp
    rw [Array.toList_extract, h]
    rfl
  rw [StrLaws.removeprefix_eq, if_pos yes]
  show ((w.cps.toList.drop _).take _) = cs
  rw [l1, wl, h]
  simp
theorem rp_none {w : Str} (h : ∀ cs, w.cps.toList ≠ 45 :: cs) : Txt.removeprefix w "-" = w := by
  have l1 : (("-" : String) : Str).length = 1 := by decide +kernel
  have c1 : (("-" : String) : Str).cps = #[45] := by decide +kernel
  rw [StrLaws.removeprefix_eq, if_neg]
  rw [Bool.and_eq_true]
  rintro ⟨_, z⟩
  unfold Builtin.Str.subAt at z
  rw [l1, c1, beq_iff_eq] at z
  have := congrArg Array.toList z
  rw [Array.toList_extract] at this
  cases e : w.cps.toList with
  | nil =>
    rw [e] at this
    simp at this
  | cons c cs =>
    rw [e] at this
    have : c = 45 := by simpa using this
    exact h cs (by rw [e, this])
end Lw

set_option maxHeartbeats 1000000
/-! lines and words -/
namespace Lw
open PySem PySem.Spec PyProof.Rows L2
theorem q_forEnum {K : PySem.W.Frag} {ta : TA} {g : TG} {tu tz : TS} {D : Ends} {σ : St} {H : Hp} {a : Addr} {xs : List V} (h : Evl.EvA ta σ H [.ref a]) (hx : SqL K H a xs) (Pv : Nat → St → Hp → Prop) (h0 : ∀ H1, Evl.Ex H H1 → Pv 0 σ H1) (hl : ∀ i σ' H', Pv i σ' H' → SqL K H' a xs)
    (hs : ∀ i x T σ' H', xs[i]? = some x → Pv i σ' H' → H' T = none → g (.ref T) σ' (upd H' T (.tup [.int (i : Nat), x])) fun σ2 H2 => tu { D with nx := Pv (i + 1), ct := Pv (i + 1), bk := tz D } σ2 H2) (hd : ∀ σ' H', Pv xs.length σ' H' → tz D σ' H') :
    tSeq (tFor (iEnum K ta) g tu) tz D σ H := h H (Evl.Ex.refl _) _ fun H1 e1 => ⟨a, xs, rfl, Evl.ex_l e1 hx, fun i m σ' H' => m = xs.length - i ∧ i ≤ xs.length ∧ Pv i σ' H', ⟨_, rfl, Nat.zero_le _, h0 H1 e1⟩, fun i m σ' H' z => by
    obtain ⟨rfl, li, p⟩ := z
    have q := hl _ _ _ p
    by_cases lt : i < xs.length
    · refine .inr ⟨⟨xs, xs[i], q, List.getElem?_eq_getElem lt⟩, Pv (i + 1), fun σ2 H2 p2 => ⟨xs.length - (i + 1), by omega, rfl, lt, p2⟩, fun x H2 y => ?_⟩
      obtain ⟨T, x', rfl, nT, rfl, f⟩ := y
      exact hs i x' T σ' H' (f _ q) p nT
    · refine .inl ⟨⟨xs, q, by omega⟩, ?_⟩
      have : i = xs.length := by omega
      subst this
      exact hd σ' H' p⟩
theorem sp_cps : ((" " : String) : Str).cps.toList = [32] := by decide +kernel
theorem nl_cps : (("\n" : String) : Str).cps.toList = [10] := by decide +kernel
theorem low_free {z : Str} (h : Low z) {s : Nat} (hs : s < 97) : s ∉ z.cps.toList := fun m => by
  have := h s m
  omega
theorem kw_free : (32 ∉ (("node" : String) : Str).cps.toList) ∧ (32 ∉ (("edge" : String) : Str).cps.toList) ∧ (10 ∉ (("node " : String) : Str).cps.toList) ∧ (10 ∉ (("edge " : String) : Str).cps.toList) ∧ (10 ∉ ((" " : String) : Str).cps.toList) := by decide +kernel
theorem isz_free (l : Int) {s : Nat} (hs : s ≠ 45 ∧ (s < 48 ∨ 57 < s)) : s ∉ (isz l).cps.toList := fun m => by
  rcases isz_cases l with ⟨_, e⟩ | ⟨_, e⟩
  · rw [e] at m
    exact TL.numL_free hs.2 m
  · rw [e] at m
    rcases List.mem_cons.mp m with m | m
    · exact hs.1 m
    · exact TL.numL_free hs.2 m
theorem node_join (z : Str) : Txt.join " " ["node", z] = nodeLine z := by
  rw [show Txt.join " " (["node", z] : List Str) = Str.join " " ["node", z] from PySem.StrLaws.glued_eq_join _ _]
  show ("node" : Str) ++ " " ++ z = "node " ++ z
  have : (("node " : String) : Str) = ("node" : Str) ++ (" " : Str) := by decide +kernel
  rw [this]
theorem split_node {z : Str} (h : Low z) : Txt.split (nodeLine z) " " = ([("node" : Str), z] : List Str) := by
  rw [← node_join]
  refine TL.split_join (s := 32) (S := []) sp_cps (by decide +kernel) (by simp) fun p hp => ?_
  simp only [List.mem_cons, List.mem_nil_iff, or_false] at hp
  rcases hp with rfl | rfl
  · exact kw_free.1
  · exact low_free h (by decide)
theorem split_edge {e : Eg} (h1 : Low e.1) (h2 : Low e.2.1) (h3 : Low e.2.2.1) : Txt.split (edgeLine e) " " = ([("edge" : Str), e.1, e.2.1, e.2.2.1, isz e.2.2.2] : List Str) := by
  have j := edge_join e.1 e.2.1 e.2.2.1 (isz e.2.2.2)
  rw [show edgeLine e = Txt.join " " ["edge", e.1, e.2.1, e.2.2.1, isz e.2.2.2] from j.symm]
  refine TL.split_join (s := 32) (S := []) sp_cps (by decide +kernel) (by simp) fun p hp => ?_
  simp only [List.mem_cons, List.mem_nil_iff, or_false] at hp
  rcases hp with rfl | rfl | rfl | rfl | rfl
  · exact kw_free.2.1
  · exact low_free h1 (by decide)
  · exact low_free h2 (by decide)
  · exact low_free h3 (by decide)
  · exact isz_free _ ⟨by decide, by decide⟩
theorem mem_app {a b : Str} {s : Nat} (h : s ∈ (a ++ b).cps.toList) : s ∈ a.cps.toList ∨ s ∈ b.cps.toList := by
  rw [app_cps] at h
  exact List.mem_append.mp h
theorem norm_low {ns : List Str} {es : List Eg} (net : IsNet ns es) {e : Eg} (he : e ∈ es.map norm) : Low e.1 ∧ Low e.2.1 ∧ Low e.2.2.1 := by
  obtain ⟨f, hf, rfl⟩ := List.mem_map.mp he
  obtain ⟨h1, h2, h3, _⟩ := net.em f hf
  refine ⟨h1.2.2, ?_, ?_⟩
  · show Low (minS f.2.1 f.2.2.1)
    rcases min_or f.2.1 f.2.2.1 with z | z <;> rw [z]
    · exact (net.nm _ h2).2.2
    · exact (net.nm _ h3).2.2
  · show Low (maxS f.2.1 f.2.2.1)
    rcases max_or f.2.1 f.2.2.1 with z | z <;> rw [z]
    · exact (net.nm _ h2).2.2
    · exact (net.nm _ h3).2.2
theorem split_lines {ns : List Str} {es : List Eg} (net : IsNet ns es) (h0 : 0 < ns.length) : Txt.split (netText ns es) "\n" = linesOf ns es := by
  unfold netText
  refine TL.split_join (s := 10) (S := []) nl_cps (by decide +kernel) (fun z => ?_) fun p hp m => ?_
  · have := congrArg List.length z
    unfold linesOf at this
    rw [List.length_append, List.length_map, (srtN_perm ns).length_eq, List.length_nil] at this
    omega
  · rcases List.mem_append.mp hp with hp | hp
    · obtain ⟨z, hz, rfl⟩ := List.mem_map.mp hp
      have lz := (net.nm z ((srtN_perm ns).mem_iff.mp hz)).2.2
      rcases mem_app m with m | m
      · exact kw_free.2.2.1 m
      · exact low_free lz (by decide) m
    · obtain ⟨e, he, rfl⟩ := List.mem_map.mp hp
      obtain ⟨l1, l2, l3⟩ := norm_low net ((srtE_perm _).mem_iff.mp he)
      have f := kw_free.2.2.2.2
      unfold edgeLine at m
      rcases mem_app m with m | m
      · rcases mem_app m with m | m
        · rcases mem_app m with m | m
          · rcases mem_app m with m | m
            · rcases mem_app m with m | m
              · rcases mem_app m with m | m
                · rcases mem_app m with m | m
                  · exact kw_free.2.2.2.1 m
                  · exact low_free l1 (by decide) m
                · exact f m
              · exact low_free l2 (by decide) m
            · exact f m
          · exact low_free l3 (by decide) m
        · exact f m
      · exact isz_free _ ⟨by decide, by decide⟩ m
theorem min_lt {a b : Str} (h : a ≠ b) : sk (minS a b) < sk (maxS a b) := by
  unfold minS maxS
  by_cases z : sk b < sk a
  · rw [if_pos z, if_neg (List.lt_asymm z)]
    exact z
  · rw [if_neg z]
    by_cases y : sk a < sk b
    · rw [if_pos y]
      exact y
    · exact absurd (ext_cps (List.le_antisymm (List.not_lt.mp z) (List.not_lt.mp y))) h
end Lw

set_option maxHeartbeats 1000000
/-! many names: a letter, once or more -/
namespace Lw
open PySem PySem.Spec PyProof.Rows L2
theorem fold_rep (e : Nat) : ∀ (n : Nat) (acc : Array Nat), ((List.replicate n (#[e] : Array Nat)).foldl (· ++ ·) acc).toList = acc.toList ++ List.replicate n e
  | 0, acc => by simp
  | n + 1, acc => by
    rw [List.replicate_succ, List.foldl_cons, fold_rep e n, Array.toList_append, List.replicate_succ, List.append_assoc]
    rfl
theorem mul_rep (e n : Nat) (h : 1 ≤ n) : (Txt.mul (chr1 e) ((n : Nat) : Int)).cps.toList = List.replicate n e := by
  unfold Txt.mul
  rw [if_neg (by omega)]
  by_cases h1 : n = 1
  · subst h1
    rfl
  · have : ((((n : Nat) : Int) == 1) || (chr1 e).length == 0) = false := by
      rw [Bool.or_eq_false_iff]
      exact ⟨by simp; omega, rfl⟩
    rw [if_neg (by rw [this]; exact Bool.false_ne_true)]
    show ((List.replicate ((n : Nat) : Int).toNat (#[e] : Array Nat)).foldl (· ++ ·) #[]).toList = _
    rw [fold_rep]
    simp
theorem mulOk_few (e n : Nat) (h : 1 ≤ n) (h2 : n ≤ 1000) : MulOk (chr1 e) ((n : Nat) : Int) := by
  have l1 : (chr1 e).length = 1 := rfl
  refine ⟨?_, fun _ _ => ?_, fun _ _ => ?_⟩
  · rw [Bool.or_eq_false_iff]
    exact ⟨decide_eq_false (by omega), decide_eq_false (by omega)⟩
  · rw [l1]
    have : (1 : Int) ≤ (2 ^ 63 - 1) / ((n : Nat) : Int) := by
      rw [Int.le_ediv_iff_mul_le (by omega)]
      omega
    omega
  · rw [l1]
    have : 1 * ((n : Nat) : Int).toNat = n := by simp
    rw [this]
    unfold Builtin.Str.tooLong
    exact decide_eq_false (by rw [sizeLine_eq]; omega)
/-- the k-th of many names -/
def manyK (first : Int) (k : Nat) : Str := Txt.mul (chr1 (97 + ((first + k) % 26).toNat)) ((1 + k / 26 : Nat) : Int)
theorem many_cps (first : Int) (k : Nat) : (manyK first k).cps.toList = List.replicate (1 + k / 26) (97 + ((first + k) % 26).toNat) := mul_rep _ _ (by omega)
theorem many_nm {first : Int} {k : Nat} (h : k < 200) : IsNm (manyK first k) := by
  have m0 := Int.emod_nonneg (first + k) (b := 26) (by decide)
  have m1 := Int.emod_lt_of_pos (first + k) (b := 26) (by decide)
  have l := len_cps (manyK first k)
  rw [many_cps, List.length_replicate] at l
  refine ⟨by omega, by omega, fun c hc => ?_⟩
  rw [many_cps] at hc
  have := (List.mem_replicate.mp hc).2
  omega
theorem many_inj {first : Int} {j k : Nat} (h : manyK first j = manyK first k) : j = k := by
  have e := congrArg (fun z : Str => z.cps.toList) h
  simp only [many_cps] at e
  have l := congrArg List.length e
  rw [List.length_replicate, List.length_replicate] at l
  have hd := congrArg List.head? e
  rw [List.head?_replicate, List.head?_replicate, if_neg (by omega), if_neg (by omega)] at hd
  have hd := Option.some.inj hd
  have m0 := Int.emod_nonneg (first + j) (b := 26) (by decide)
  have m1 := Int.emod_nonneg (first + k) (b := 26) (by decide)
  omega
theorem manys_nodup (first : Int) (m : Nat) : ((List.range m).map (manyK first)).Nodup := by
  rw [List.nodup_iff_pairwise_ne, List.pairwise_map]
  exact (List.nodup_iff_pairwise_ne.mp List.nodup_range).imp fun hne h => hne (many_inj h)
end Lw

set_option maxHeartbeats 1000000
/-! list(d.values()); what networks are made of -/
namespace Lw
open PySem PySem.Spec PyProof.Rows L2
theorem kv_vals {κ : Type} {kvs : List (κ × V)} {vs : List (κ × Value)} (r : KV kvs vs) : Vals (kvs.map (·.2)) (vs.map (·.2)) := by
  unfold KV at r
  induction r with
  | nil => exact .nil
  | cons h t ih => exact .cons h.2 ih
/-- a new list of the values of a dict -/
def tListVals (td : TE) : TE := fun σ H Q => td σ H fun x H1 => ∃ a kvs, x = V.ref a ∧ H1 a = some (.dK kvs) ∧ ∀ p, H1 p = none → Q (.ref p) (upd H1 p (.lst (kvs.map (·.2))))
section
variable {X : Cx} {o : Expr} {p pos apos mpos : Pos} {td : TE}
theorem pe_listVals (hc : X.calm = true) (hg : Gl X "list") (hm : X.mg "list" = none) (hd : PE X o td) (hbase : attributeBase o "values" X.env (eval o X.env) = eval o X.env := by rfl) (hline : (apos.endLine == mpos.line) = true := by rfl)
    (hse : starEach [Expr.Call (.Attribute o "values" apos) [] [] mpos] X.env = [(false, eval (Expr.Call (.Attribute o "values" apos) [] [] mpos) X.env)] := by rfl) :
    PE X (.Call (.Name "list" p) [.Call (.Attribute o "values" apos) [] [] mpos] [] pos) (tListVals td) := by
  refine ⟨fun pins s σ H Q I h => ?_⟩
  refine wpAny_Call_Name_kw (ld_blt I hg hm (u := .type "list") (by first | rfl | decide +kernel) ?_ (by first | decide +kernel | decide) (by first | decide +kernel | decide))
  rw [hse]
  refine PySem.callWith_type1 (wpAny_Call_method0_late hbase hline (thn (hd.run pins s σ H _ I h) fun v s1 ⟨x, H1, I1, r1, a, kvs, ex, ha, q⟩ => ?_))
  subst ex
  obtain rfl : v = Value.ref a := r1
  obtain ⟨hz, hsys, vs, rel, dof⟩ := dk_of I1.hok ha
  obtain ⟨ep, dat⟩ := dof.dictAt
  have dat' := dat
  obtain ⟨ob, es, ho, ex, hdat, hko, hpr, hnd⟩ := dat'
  refine ⟨"dict", "dict.values", F.plainAttrs_dict, F.slot_dict_values, F.type_dict_values, ⟨ob, ho, ex.1⟩, fun b e => ?_, Calls.callWith_builtin rfl (PySem.evalArgs_none ?_)⟩
  · cases e
    exact ⟨ob, ho, ex.2.1⟩
  refine call_meetsIn F.slot_dict_values ⟨ob, ho, ex.1⟩ F.entry_dict_values (F.args_dict_values_1 _) (meets_dict_values (mixKind X.prog X.w) a hsys) ⟨⟨vs, dof⟩, ?_⟩
  have k1 : ∀ b u, s1.heap.get? b = some u → (s1.heap.push { cls := .type "dict_values", data := .fields #[.ref a] }).get? b = some u := fun b u e => Heap.get?_push_of_some _ e
  have dat1 : (s1.heap.push { cls := .type "dict_values", data := .fields #[.ref a] }).DictAt (mixKind X.prog X.w) a vs ep := dat.keep k1
  have hn : vs.length ≤ sizeLine := by
    rw [← KV.length rel]
    exact hz
  refine PySem.W.kdl_call (PySem.W.kdl_values (knd := mixKind X.prog X.w) (kvs := vs) (ep := ep) (r := s1.heap.objs.size) (d := a)) (I1.ok.hd hc) ⟨⟨_, Heap.get?_push_size _ rfl, rfl, rfl⟩, dat1⟩ hn fun h' tk acc c' hk hD hacc => ?_
  have ev : acc.toList = vs.map (·.2) := PySem.W.kdl_vals_eq acc.toList (by rw [Array.length_toList]; exact hacc.1) fun j v e => hacc.2 j v (by rw [← Array.getElem?_toList]; exact e)
  have sz : s1.heap.objs.size ≤ (s1.heap.push { cls := .type "dict_values", data := .fields #[.ref a] }).objs.size := by
    rw [Heap.size_push]
    exact Nat.le_succ _
  refine ⟨.ref _, _, I1.laid (t' := tk) (fun b o e => hk b o (k1 b o e)) sz (show ObjOk X.prog X.w _ h' _ (.lst (kvs.map (·.2))) from ⟨by rw [List.length_map]; exact hz, vs.map (·.2), c', kv_vals rel, ?_⟩), rfl, q _ (I1.hok.fresh sz)⟩
  rw [← ev, Array.toArray_toList]
  exact hD
end
/-- sorted(d), the keys texts, of any number: ascending -/
def rSortedDA : List V → Hp → VK → Prop := fun xs H Q => ∃ (a : Addr) (kvs : List (Key × V)) (ks : List Str), xs = [.ref a] ∧ Rd H a (.dK kvs) ∧ kvs.map (·.1) = ks.map Sum.inr ∧ ks.length ≤ 100000 ∧ ∀ p, H p = none → Q (.ref p) (upd H p (.lst ((srtN ks).map V.str)))
theorem each_strs : ∀ {ks : List Str} {vs : List Value}, vs.length = ks.length → (∀ (j : Nat) (v : Value), vs[j]? = some v → ∃ y t, ks[j]? = some y ∧ v = Value.str y t) → PySem.W.EachIs (fun (v : Value) (z : Str) => RelV (.str z) v) vs ks
  | [], [], _, _ => .nil
  | z :: ks, v :: vs, hl, h => by
    obtain ⟨y, t, e1, e2⟩ := h 0 v rfl
    have e1 : z = y := Option.some.inj e1
    subst e1
    exact .cons ⟨t, e2⟩ (each_strs (by simpa using hl) fun j u hu => h (j + 1) u (by simpa using hu))
  | [], _ :: _, hl, _ => by simp at hl
  | _ :: _, [], hl, _ => by simp at hl
theorem strs_vals : ∀ {ks : List Str} {vs : List Value}, PySem.W.EachIs (fun (v : Value) (z : Str) => RelV (.str z) v) vs ks → Vals (ks.map V.str) vs
  | _, _, .nil => .nil
  | _, _, .cons h t => .cons h (strs_vals t)
theorem call_sortedDA {X : Cx} {k : Nat} (hr : Room k X.A) (hcalm : X.calm = true) : CallR X (.builtin "sorted") rSortedDA := by
  intro pins s σ H xs us Q I r q
  obtain ⟨a, kvs, ks, ex, hd, hks, hz, q⟩ := q
  subst ex
  obtain ⟨u, eu, rx⟩ := vals1 r
  subst eu
  cases rx
  obtain ⟨z, lo, vs, rel, dd⟩ := dk_rd I.hok hd
  obtain ⟨ep, hat⟩ := dd.dictAt
  have room := hr.units
  have sz : ks.length ≤ sizeLine := Evl.sz_of hz
  have hkeys : vs.map (·.1) = ks.map Sum.inr := rel.keys.symm.trans hks
  have hl : vs.length = ks.length := by
    have e := congrArg List.length hkeys
    rw [List.length_map, List.length_map] at e
    exact e
  refine Calls.call_function_entry PyProof.Rows.kind_sorted PyProof.Rows.plain_sorted PyProof.Rows.entry_sorted (PyProof.Rows.args_sorted1 _) ?_
  unfold Builtin.«sorted»
  refine wpAny_bind (m := checkCount "sorted" 1 1 _) (wpAny_pure ?_)
  refine wpAny_bind (PySem.W.kdu_collect (A := X.A.in1) (PySem.W.kdl_dict (knd := mixKind X.prog X.w) (kvs := vs) (ep := ep) lo) (I.ok.hd hcalm) hat (by rw [hl]; exact sz) fun h' tk acc hk hacc => ?_)
  have hal : acc.toList.length = ks.length := by rw [Array.length_toList, hacc.1, hl]
  have hS : PySem.W.EachIs (fun (v : Value) (z : Str) => RelV (.str z) v) acc.toList ks := each_strs hal fun j v e => by
    obtain ⟨k, x, e1, e2⟩ := hacc.2 j v (by rw [← Array.getElem?_toList]; exact e)
    have e3 : (vs.map (·.1))[j]? = some k := by rw [List.getElem?_map, e1]; all_goals rfl
    rw [hkeys, List.getElem?_map] at e3
    cases e4 : ks[j]? with
    | none => rw [e4] at e3; cases e3
    | some y =>
      rw [e4] at e3
      have e5 : Sum.inr y = k := Option.some.inj e3
      subst e5
      obtain ⟨t, ev⟩ := Value.isStrOf_shape (x := y) (v := v) e2
      exact ⟨y, t, rfl, ev⟩
  have I1 : Inv X pins σ H { s with heap := h', toks := tk } := I.kept hk
  refine wpAny_bind (wpAny_newList ?_ (by rw [hal]; exact sz))
  have hoL : (h'.push (seqObj "list" acc.toList.toArray 0)).get? h'.objs.size = some (seqObj "list" acc.toList.toArray 0) := Heap.get?_push_size _ rfl
  have er : PySem.W.EachIs (fun v z => ∃ as, PySem.Reads (PySem.W.sortingHeap (h'.push (seqObj "list" acc.toList.toArray 0)) h'.objs.size acc.toList) v (PyData.str z) as) acc.toList ks := each_all hS fun v b _ rb => by
    obtain ⟨as, g⟩ := Dp.reads I1 _ _ _ (Dp.str b) rb
    exact ⟨as, PyProof.Rows.Reads.keeps (fun c o e => PySem.W.sortingHeap_old (Nat.ne_of_lt (Heap.lt_size e)) (Heap.get?_push_of_some _ e)) g⟩
  have hal2 : PySem.W.AllAlike (ks.map fun z => PyData.str z) := PySem.W.AllAlike.of (enc := fun z : Str => .str z) fun b b' => by simp [PySem.W.alike]
  have S := PySem.W.SortsAt.data (prog := X.prog) (w := X.w) (A := X.A.in1.in1) (s := { s with heap := PySem.W.sortingHeap (h'.push (seqObj "list" acc.toList.toArray 0)) h'.objs.size acc.toList, toks := tk }) (PySem.W.each_map (R := fun v d => ∃ as, PySem.Reads (PySem.W.sortingHeap (h'.push (seqObj "list" acc.toList.toArray 0)) h'.objs.size acc.toList) v d as) (fun z => PyData.str z) er) hal2
    (PySem.W.Sortable.others (enc := fun z : Str => .str z) fun b => ⟨nofun, nofun⟩) (PySem.W.bound_map fun b _ => by
      have : (PyData.str b).depth = 0 := by simp [PyData.depth]
      have u2 : X.A.in1.in1.units = X.A.units + 2 := rfl
      rw [this, u2]
      omega)
  have so := PySem.W.sortVals_data false hS er hal2
  have hlen : ((srtN ks).map V.str).length ≤ sizeLine := by
    rw [List.length_map, (srtN_perm ks).length_eq]
    exact sz
  show wpAny _ _ _ _ _ { s with heap := h'.push (seqObj "list" acc.toList.toArray 0), toks := tk }
  have fin : ∀ out : List Value, PySem.W.EachIs (fun (v : Value) (z : Str) => RelV (.str z) v) out (srtN ks) → EP X pins σ Q (.ref h'.objs.size) { s with heap := sortedHeap (h'.push (seqObj "list" acc.toList.toArray 0)) h'.objs.size acc.toList out.toArray, toks := tk } := fun out eo => by
    obtain ⟨e', he'⟩ := PyProof.Rows.sortedHeap_at (vs := acc.toList) (out := out.toArray) hoL
    refine ⟨.ref h'.objs.size, upd H h'.objs.size (.lst ((srtN ks).map V.str)), I1.laid (t' := tk) (fun b u e => ?_) (Nat.le_refl _) (show ObjOk X.prog X.w _ _ _ (.lst ((srtN ks).map V.str)) from ⟨hlen, out, e', strs_vals eo, he'⟩), rfl, q _ (I1.hok.fresh (Nat.le_refl _))⟩
    have hb : b < h'.objs.size := Heap.lt_size e
    rw [PyProof.Rows.sortedHeap_old (Nat.ne_of_lt hb) (by rw [size_push']; exact Nat.lt_succ_of_lt hb)]
    exact Heap.get?_push_of_some _ e
  refine wpAny_bind (wpAny_holding (wpAny_call_entry_kw PyProof.Rows.slot_list_sort ⟨_, hoL, rfl⟩ PyProof.Rows.entry_list_sort ?run (PyProof.Rows.args_list_sort _)))
  case run =>
    refine wpAny_mono (PySem.W.list_sort_vals (s := { s with heap := h'.push (seqObj "list" acc.toList.toArray 0), toks := tk }) (P := fun f s' => f = .done (.ret .none) ∧ EP X pins σ Q (.ref h'.objs.size) s') hoL S (by rw [hal]; exact sz) ⟨rfl, fin _ so⟩) (fun f s' hf => ?_) fun _ _ z => z
    obtain ⟨rfl, hq⟩ := hf
    exact Exists.intro _ (And.intro rfl (wpAny_pure (Exists.intro _ (And.intro rfl hq))))
/-! a dict from the names of edges to the edges -/
def edKv : List Eg → List Addr → List (Key × V)
  | e :: es, a :: as => (Sum.inr e.1, .ref a) :: edKv es as
  | _, _ => []
theorem edKv_len : ∀ {es : List Eg} {as : List Addr}, as.length = es.length → (edKv es as).length = es.length
  | [], [], _ => rfl
  | _ :: _, _ :: _, h => by
    rw [edKv, List.length_cons, List.length_cons, edKv_len (by simpa using h)]
  | [], _ :: _, h => by simp at h
  | _ :: _, [], h => by simp at h
theorem edKv_keys : ∀ {es : List Eg} {as : List Addr}, as.length = es.length → (edKv es as).map (·.1) = (es.map (·.1)).map Sum.inr
  | [], [], _ => rfl
  | _ :: _, _ :: _, h => by
    rw [edKv, List.map_cons, List.map_cons, List.map_cons, edKv_keys (by simpa using h)]
  | [], _ :: _, h => by simp at h
  | _ :: _, [], h => by simp at h
theorem edKv_vals : ∀ {es : List Eg} {as : List Addr}, as.length = es.length → (edKv es as).map (·.2) = as.map V.ref
  | [], [], _ => rfl
  | _ :: _, _ :: _, h => by
    rw [edKv, List.map_cons, List.map_cons, edKv_vals (by simpa using h)]
  | [], _ :: _, h => by simp at h
  | _ :: _, [], h => by simp at h
theorem edKv_none {n : Str} : ∀ {es : List Eg} {as : List Addr}, ¬ n ∈ es.map (·.1) → valV (edKv es as) (Sum.inr n) = none
  | [], _, _ => by
    rw [edKv]
    · rfl
    · exact fun _ _ _ _ z => absurd z (by simp)
  | _ :: _, [], _ => by
    rw [edKv]
    · rfl
    · exact fun _ _ _ _ _ z => absurd z (by simp)
  | e :: es, a :: as, h => by
    rw [edKv, valV_neg (fun z => h (by rw [List.map_cons]; exact List.mem_cons.mpr (.inl (Sum.inr.inj z).symm))), edKv_none fun z => h (by rw [List.map_cons]; exact List.mem_cons_of_mem _ z)]
theorem edKv_snoc {e : Eg} {a : Addr} : ∀ {es : List Eg} {as : List Addr}, as.length = es.length → edKv (es ++ [e]) (as ++ [a]) = edKv es as ++ [(Sum.inr e.1, .ref a)]
  | [], [], _ => rfl
  | _ :: _, _ :: _, h => by
    rw [List.cons_append, List.cons_append, edKv, edKv, edKv_snoc (by simpa using h), List.cons_append]
  | [], _ :: _, h => by simp at h
  | _ :: _, [], h => by simp at h
/-- what stands there under a name -/
theorem edKv_get {H : Hp} {n : Str} : ∀ {es : List Eg} {as : List Addr}, EgsAt H as es → n ∈ es.map (·.1) → ∃ e a, e ∈ es ∧ e.1 = n ∧ a ∈ as ∧ H a = some (.tup (egV e)) ∧ valV (edKv es as) (Sum.inr n) = some (.ref a)
  | [], _, _, h => absurd h (by simp)
  | e :: es, a :: as, .cons x t, h => by
    by_cases z : e.1 = n
    · exact ⟨e, a, List.mem_cons_self, z, List.mem_cons_self, x, valV_pos (by rw [z])⟩
    · have hm : n ∈ es.map (·.1) := by
        rcases List.mem_cons.mp (by rw [List.map_cons] at h; exact h) with q | q
        · exact absurd q.symm z
        · exact q
      obtain ⟨e', a', h1, h2, h3, h4, h5⟩ := edKv_get t hm
      exact ⟨e', a', List.mem_cons_of_mem _ h1, h2, List.mem_cons_of_mem _ h3, h4, by rw [edKv, valV_neg fun q => z (Sum.inr.inj q)]; exact h5⟩
theorem srt_names {es : List Eg} (nd : (es.map (·.1)).Nodup) : srtN (es.map (·.1)) = (srtE es).map (·.1) := by
  have p : ((srtE es).map (·.1)).Perm (es.map (·.1)) := (srtE_perm es).map _
  refine asc_unique (f := id) ((srtN_perm _).trans p.symm) (srtN_asc nd) ?_
  exact List.pairwise_map.mpr (srtE_asc nd)
theorem mem_uniq {es : List Eg} (nd : (es.map (·.1)).Nodup) {e f : Eg} (he : e ∈ es) (hf : f ∈ es) (h : e.1 = f.1) : e = f := by
  obtain ⟨i, hi, rfl⟩ := List.getElem_of_mem he
  obtain ⟨j, hj, rfl⟩ := List.getElem_of_mem hf
  by_cases ij : i = j
  · subst ij
    rfl
  · exact absurd (by rw [List.getElem_map, List.getElem_map]; exact h) (nd_ne nd (i := i) (j := j) (by rw [List.length_map]; exact hi) (by rw [List.length_map]; exact hj) ij)
/-- the values under the names, ascending -/
def edAt (kvs : List (Key × V)) (x : V) : V := match x with
  | .str z => (valV kvs (Sum.inr z)).getD .non
  | v => v
theorem edAt_some {H : Hp} {cs : List Addr} {fs : List Eg} (h : EgsAt H cs fs) (nd : (fs.map (·.1)).Nodup) : ∀ {l : List Eg}, (∀ e ∈ l, e ∈ fs) → ∃ bs : List Addr, ((l.map (·.1)).map V.str).map (edAt (edKv fs cs)) = bs.map V.ref ∧ EgsAt H bs l
  | [], _ => ⟨[], rfl, .nil⟩
  | e :: l, k => by
    obtain ⟨bs, h1, h2⟩ := edAt_some h nd (l := l) fun f hf => k f (List.mem_cons_of_mem _ hf)
    have me := k e List.mem_cons_self
    obtain ⟨e', a, m1, m2, m3, m4, m5⟩ := edKv_get h (n := e.1) (List.mem_map.mpr ⟨e, me, rfl⟩)
    have ee : e' = e := mem_uniq nd m1 me m2
    subst ee
    refine ⟨a :: bs, ?_, .cons m4 h2⟩
    rw [List.map_cons, List.map_cons, List.map_cons, List.map_cons, h1]
    show (valV (edKv fs cs) (Sum.inr e'.1)).getD .non :: _ = _
    rw [m5]
    rfl
theorem rc_sortDA {H : Hp} {d : Addr} {kvs : List (Key × V)} {ks : List Str} (hd : H d = some (.dK kvs)) (hk : kvs.map (·.1) = ks.map Sum.inr) (hz : ks.length ≤ 100000) : Evl.RCL rSortedDA [.ref d] H ((srtN ks).map V.str) := fun H1 e Q q =>
  ⟨d, kvs, ks, rfl, .inl (e _ _ hd), hk, hz, fun p hp => q p _ hp (Evl.Ex.new hp) upd_same⟩
theorem g_next {D : Ends} {σ : St} {H : Hp} (h : D.nx σ H) : tNext D σ H := h
theorem g_ret {te : TE} {D : Ends} {σ : St} {H : Hp} (h : te σ H D.rt) : tRet te D σ H := h
theorem g_cb1 {r : List V → Hp → VK → Prop} {te : TE} {σ : St} {H : Hp} {Q : VK} (h : te σ H fun x H1 => r [x] H1 Q) : tCB r (tCons te tNil) σ H Q := h
end Lw

set_option maxHeartbeats 4000000
/-! defs that may ask for repr of data: the stack bears no repr under way, and the table of modules stands in the base -/
namespace Gd
open PySem PySem.Spec PyProof.Rows L2
abbrev St := L2.St
/-- the table of modules is an object of the base -/
def HasMods (base : Heap) : Prop := ∃ o, base.get? sysModules = some o
/-- as FnOk, where no repr is under way -/
structure FnG (P : Program) (w : World) (K : PySem.W.Frag) (mg : Str → Option Value) (base : Heap) (CX : CXT) (k : Nat) (f : Addr) (fd : FuncData) (ps : List Str) (sp : Sp) : Prop where
  len : ∀ vs H Q E, sp vs H Q E → vs.length = ps.length
  run : ∀ (A : Around) (outer : List Env) (s : Shared) (H : Hp) (args : Args) (us : List Value) (vs : List V) (Q : VK) (E : XK),
    A.guards = some [] → Room k A → Env0 P w K mg base A outer s H → BindsTo s fd args (ps.zip us) → Vals vs us → sp vs H Q E →
    codeAny (model P w) A (.call (.ref f) args) (CR CX outer P w H s Q E) s
theorem FnG.of {P : Program} {w : World} {K : PySem.W.Frag} {mg : Str → Option Value} {base : Heap} {CX : CXT} {k : Nat} {f : Addr} {fd : FuncData} {ps : List Str} {sp : Sp} (F : FnOk P w K mg base CX k f fd ps sp) : FnG P w K mg base CX k f fd ps sp :=
  ⟨F.len, fun A outer s H args us vs Q E _ => F.run A outer s H args us vs Q E⟩
section
variable {P : Program} {w : World} {K : PySem.W.Frag} {mg : Str → Option Value} {base : Heap} {CX : CXT} {k : Nat}
/-- the rule for a def, with what stands around it -/
theorem fnG {f : Addr} {name qual : Str} {params : Arguments} {body : List Stmt} {scope : Scope} {dV kV doc pm cdv ct oc : Value} {an od : Option Addr} {osl : Array (Option Value)} {N ps : List Str} {sp : Sp}
    (lk : K.lookup f = some ⟨oc, od, .func (PySem.W.fnOf name qual params body scope dV kV doc pm an cdv ct), osl⟩) (hcd : PySem.W.codeIn K cdv qual = true) (S : FnScope N ps scope) (len : ∀ vs H Q E, sp vs H Q E → vs.length = ps.length)
    (bd : ∀ (A : Around) (outer : List Env) (s : Shared) (H : Hp) (vs : List V) (Q : VK) (E : XK), (A.deeper (envOfC qual scope s.heap.objs.size f cdv)).guards = some [] → Room k (A.deeper (envOfC qual scope s.heap.objs.size f cdv)) → sp vs H Q E →
      ∃ t, PSs (cxOf CX P w K mg base N qual scope f cdv A outer s H E) body t ∧ t { nx := fun _ H' => Q .non H', rt := Q } (start N vs) H) :
    FnG P w K mg base CX (k + 1) f (PySem.W.fnOf name qual params body scope dV kV doc pm an cdv ct) ps sp where
  len := len
  run := by
    intro A outer s H args us vs Q E gd room env binds rel want
    have old : ∀ b o, base.get? b = some o → s.heap.get? b = some o := fun b o z => (env.bs b o z).1
    have inK := env.mod.kin.keeps old
    have slots : ∀ y ∈ ps.zip us, scope.names.lookup y.1 = some .local ∨ (scope.names.lookup y.1 = some .cell ∧ ((cellsFrom (s.heap.objs.size + 1) scope.names []).lookup y.1).isSome = true) := by
      rintro ⟨n, v⟩ hy
      exact (S.par n (List.of_mem_zip hy).1).elim .inl fun z => .inr ⟨z, PySem.W.cellsFrom_some _ _ _ (.inl z)⟩
    obtain ⟨t, ht, ends⟩ := bd A outer s H vs Q E gd (room.deeper _) want
    refine codeAny_call_function room.depth (inK _ _ lk) rfl S.co S.gen rfl (PySem.W.codeRec_of inK hcd) (binds _ _ _ _ ?_)
    refine wpAny_newFunctionEnv_cells S.kind slots fun e0 he s1 x => ?_
    subst he
    have J := inv_start (CX := CX) (E := E) S room.hd env (len _ _ _ _ want) rel x
    refine ⟨(env.mod.nolimit.keeps old).keeps x.toInCall.keep, codeAny_func (wpAny_mono (ht.run [] s1 _ H _ J ends) (fun fl s' got => ?_) fun _ _ got => got)⟩
    cases fl with
    | ret u =>
      obtain ⟨v, _, H', J', rv, q⟩ := got
      exact ⟨v, H', J'.os, J'.bare, J'.base, J'.hok, rv, q⟩
    | next =>
      obtain ⟨_, H', J', q⟩ := got
      exact ⟨V.non, H', J'.os, J'.bare, J'.base, J'.hok, rfl, q⟩
    | brk =>
      obtain ⟨_, _, _, q⟩ := got
      exact q.elim
    | cont =>
      obtain ⟨_, _, _, q⟩ := got
      exact q.elim
theorem _root_.L2.Fun.okG {x qual : Str} {st : Stmt} {f : Addr} {fd : FuncData} {N ps : List Str} {sp : Sp} (F : Fun K x qual st f fd) (S : FnScope N ps (defScope st)) (len : ∀ vs H Q E, sp vs H Q E → vs.length = ps.length)
    (bd : ∀ (cdv : Value) (A : Around) (outer : List Env) (s : Shared) (H : Hp) (vs : List V) (Q : VK) (E : XK), (A.deeper (envOfC qual (defScope st) s.heap.objs.size f cdv)).guards = some [] → Room k (A.deeper (envOfC qual (defScope st) s.heap.objs.size f cdv)) → sp vs H Q E →
      ∃ t, PSs (cxOf CX P w K mg base N qual (defScope st) f cdv A outer s H E) (defBody st) t ∧ t { nx := fun _ H' => Q .non H', rt := Q } (start N vs) H) : FnG P w K mg base CX (k + 1) f fd ps sp := by
  obtain ⟨oc, od, kV, doc, pm, an, cdv, ct, osl, rfl, lk, hcd⟩ := F.ex
  exact fnG lk hcd S len fun A outer s H vs Q E => bd cdv A outer s H vs Q E
theorem _root_.L2.Fun.okG0 {x qual : Str} {st : Stmt} {f : Addr} {fd : FuncData} {N ps : List Str} {sp : Sp} (F : Fun K x qual st f fd) (S : FnScope N ps (defScope st)) (len : ∀ vs H Q E, sp vs H Q E → vs.length = ps.length)
    (bd : ∀ (cdv : Value) (A : Around) (outer : List Env) (s : Shared) (H : Hp) (vs : List V) (Q : VK) (E : XK), (A.deeper (envOfC qual (defScope st) s.heap.objs.size f cdv)).guards = some [] → Room k (A.deeper (envOfC qual (defScope st) s.heap.objs.size f cdv)) → sp vs H Q E →
      ∃ t, PSs (cxOf CX0 P w K mg base N qual (defScope st) f cdv A outer s H E).nox (defBody st) t ∧ t { nx := fun _ H' => Q .non H', rt := Q } (start N vs) H) : FnG P w K mg base CX0 (k + 1) f fd ps sp :=
  F.okG S len fun cdv A outer s H vs Q E gd hr z => by
    obtain ⟨t, ht, q⟩ := bd cdv A outer s H vs Q E gd hr z
    exact ⟨t, ht.nox, q⟩
end
section
variable {X : Cx} {CX : CXT} {k : Nat} {f : Addr} {fd : FuncData} {ps : List Str} {sp : Sp} {dvs : List V} {ds : List Value} {E : XK} {x : Str} {p pos : Pos} {e : Expr} {es : List Expr} {t : TA}
theorem pe_callG (F : FnG X.prog X.w X.K X.mg X.base CX k f fd ps sp) (gd : X.A.guards = some []) (hr : Room k X.A) (hg : Gl X x) (hm : X.mg x = some (.ref f)) (hk : PySem.W.keepIn X.K (.ref f) = true) (hb : Binds X.K fd ps ds) (hd : Vals dvs ds) (hx : Passes CX X E)
    (ha : PA X (e :: es) t) (hdb : (x == ("__debug__" : Str)) = false := by decide) (he : starEach (e :: es) X.env = (false, eval e X.env) :: starEach es X.env := by rfl) (hpl : (backTo pos (starEach es X.env)).any (·.1) = false := by rfl) :
    PE X (.Call (.Name x p) (e :: es) [] pos) (tCall sp dvs E t) := by
  refine ⟨fun pins s σ H Q I h => wpAny_Call_Name_kw (ld_glob I hg hm ?_ hdb)⟩
  refine PySem.W.callWith_K (h₀ := X.base) I.ok.mod.kin hk (thn (ha.run pos pins s σ H _ I h) fun us s1 got => ?_) he hpl
  obtain ⟨vs, H1, I1, r, q⟩ := got
  have all : Vals (vs ++ dvs) (us ++ ds) := r.append hd
  have many : (us ++ ds).length = ps.length := all.length.symm.trans (F.len _ _ _ _ q)
  refine ⟨I1.kIn, wpAny_call (codeAny_mono (F.run X.A X.stack s1 H1 ⟨us, []⟩ _ _ Q E gd hr I1.env0 (hb s1 us I1.kIn many) all q) fun r s' got => ?_)⟩
  cases r with
  | error e => exact hx pins σ H1 s1 e s' I1 got
  | ok fl =>
    cases fl with
    | ret u => exact I1.after got
    | next => exact got.elim
    | brk => exact got.elim
    | cont => exact got.elim
end
/-! ### data in the abstract heap -/
mutual
/-- v is the value of the data d, over what is tracked -/
inductive RD (H : Hp) : V → PyData → Prop
  | non : RD H .non .none
  | bl (b : Bool) : RD H (.bl b) (.bool b)
  | int (i : Int) : RD H (.int i) (.int i)
  | str (x : Str) : RD H (.str x) (.str x)
  | lst {a : Addr} {xs : List V} {ds : List PyData} : Rd H a (.lst xs) → RDs H xs ds → RD H (.ref a) (.list ds)
  | tup {a : Addr} {xs : List V} {ds : List PyData} : H a = some (.tup xs) → RDs H xs ds → RD H (.ref a) (.tuple ds)
  | dic {a : Addr} {kvs : List (Key × V)} {ps : List (PyData × PyData)} : H a = some (.dK kvs) → RDs H (kvs.map fun p => kV p.1) (ps.map (·.1)) → RDs H (kvs.map (·.2)) (ps.map (·.2)) → RD H (.ref a) (.dict ps)
inductive RDs (H : Hp) : List V → List PyData → Prop
  | nil : RDs H [] []
  | cons {v : V} {vs : List V} {d : PyData} {ds : List PyData} : RD H v d → RDs H vs ds → RDs H (v :: vs) (d :: ds)
end
mutual
theorem RD.mono {H H' : Hp} (k : ∀ b o, H b = some o → H' b = some o) : ∀ {v : V} {d : PyData}, RD H v d → RD H' v d
  | _, _, .non => .non
  | _, _, .bl b => .bl b
  | _, _, .int i => .int i
  | _, _, .str x => .str x
  | _, _, .lst h r => .lst (h.elim (fun z => .inl (k _ _ z)) fun ⟨o, z⟩ => .inr ⟨o, k _ _ z⟩) (RDs.mono k r)
  | _, _, .tup h r => .tup (k _ _ h) (RDs.mono k r)
  | _, _, .dic h r q => .dic (k _ _ h) (RDs.mono k r) (RDs.mono k q)
theorem RDs.mono {H H' : Hp} (k : ∀ b o, H b = some o → H' b = some o) : ∀ {vs : List V} {ds : List PyData}, RDs H vs ds → RDs H' vs ds
  | _, _, .nil => .nil
  | _, _, .cons h r => .cons (RD.mono k h) (RDs.mono k r)
end
theorem pairsV {P : Program} {w : World} : ∀ {kvs : List (Key × V)} {vs : List (Key × Value)} {es : List DictEntry}, KV kvs vs → Pairs (mixKind P w) es vs →
    Vals (kvs.map fun p => kV p.1) (es.map (·.key)) ∧ Vals (kvs.map (·.2)) (es.map (·.val))
  | _, _, _, .nil, .nil => ⟨.nil, .nil⟩
  | p :: _, q :: _, ent :: _, .cons h t, .cons k ev more => by
    obtain ⟨r1, r2⟩ := pairsV t more
    obtain ⟨e1, e2⟩ := h
    have b : RelV p.2 ent.val := by
      rw [ev]
      exact e2
    have a : RelV (kV p.1) ent.key := by
      rw [e1]
      rcases keyIs_shape (show keyIs q.1 ent.key = true from k) with ⟨i, u, x1, x2⟩ | ⟨y, u, x1, x2⟩
      · rw [x1, x2]
        exact ⟨u, rfl⟩
      · rw [x1, x2]
        exact ⟨u, rfl⟩
    exact ⟨.cons a r1, .cons b r2⟩
section
variable {X : Cx} {pins : List (Addr × Obj)} {σ : St} {H : Hp} {s : Shared}
theorem noMods (I : Inv X pins σ H s) (M : HasMods X.base) {a : Addr} {o : HO} (h : H a = some o) : a ≠ sysModules := fun z => by
  obtain ⟨ob, hb⟩ := M
  have n := (I.bs _ _ hb).2
  rw [z, n] at h
  cases h
mutual
theorem RD.reads (I : Inv X pins σ H s) (M : HasMods X.base) : ∀ {v : V} {d : PyData} {u : Value}, RD H v d → RelV v u → ∃ as, Reads s.heap u d as ∧ sysModules ∉ as
  | _, _, _, .non, r => by
    cases r
    exact ⟨_, .none, by simp⟩
  | _, _, _, .bl b, r => by
    cases r
    exact ⟨_, .bool b, by simp⟩
  | _, _, _, .int i, r => by
    obtain ⟨t, rfl⟩ := r
    exact ⟨_, .int i t, by simp⟩
  | _, _, _, .str x, r => by
    obtain ⟨t, rfl⟩ := r
    exact ⟨_, .str x t, by simp⟩
  | _, _, _, .lst (a := a) h q, r => by
    cases r
    obtain ⟨its, rv, ⟨o, n, ho, hc, _, hd⟩, _⟩ := I.list (.inl h)
    obtain ⟨as, hr, hn⟩ := RDs.reads I M q rv
    refine ⟨_, .list ho hc hd hr, fun z => ?_⟩
    rcases List.mem_cons.mp z with z | z
    · rcases h with h | ⟨o2, h⟩
      · exact noMods I M h z.symm
      · exact noMods I M h z.symm
    · exact hn z
  | _, _, _, .tup (a := a) h q, r => by
    cases r
    obtain ⟨_, its, rv, o, ho, hc, n, hd⟩ := (show ObjOk X.prog X.w H s.heap a (.tup _) from I.hok a _ h)
    obtain ⟨as, hr, hn⟩ := RDs.reads I M q rv
    exact ⟨_, .tuple ho hc hd hr, hn⟩
  | _, _, _, .dic (a := a) h q1 q2, r => by
    cases r
    obtain ⟨_, _, vs, kv, o, es, ep, ho, hx, hd, _, pr, _⟩ := (show ObjOk X.prog X.w H s.heap a (.dK _) from I.hok a _ h)
    obtain ⟨r1, r2⟩ := pairsV kv pr
    obtain ⟨as, h1, n1⟩ := RDs.reads I M q1 r1
    obtain ⟨bs, h2, n2⟩ := RDs.reads I M q2 r2
    refine ⟨_, .dict ho hx.1 hd h1 h2, fun z => ?_⟩
    rcases List.mem_append.mp z with z | z
    · rcases List.mem_cons.mp z with z | z
      · exact noMods I M h z.symm
      · exact n1 z
    · exact n2 z
theorem RDs.reads (I : Inv X pins σ H s) (M : HasMods X.base) : ∀ {vs : List V} {ds : List PyData} {us : List Value}, RDs H vs ds → Vals vs us → ∃ as, ReadsAll s.heap us ds as ∧ sysModules ∉ as
  | _, _, _, .nil, r => by
    cases r
    exact ⟨_, .nil, by simp⟩
  | _, _, _, .cons h q, r => by
    cases r with
    | cons r1 r2 =>
      obtain ⟨as, h1, n1⟩ := RD.reads I M h r1
      obtain ⟨bs, h2, n2⟩ := RDs.reads I M q r2
      exact ⟨_, .cons h1 h2, fun z => (List.mem_append.mp z).elim n1 n2⟩
end
/-- repr(x), x a list, a tuple or a dict of data -/
def rRepr : List V → Hp → VK → Prop := fun xs H Q => ∃ (a : Addr) (d : PyData), xs = [.ref a] ∧ RD H (.ref a) d ∧ d.showable = true ∧ d.depth ≤ 50 ∧ d.shown.length ≤ sizeLine ∧ Q (.str d.shown) H
theorem call_reprD {k : Nat} (gd : X.A.guards = some []) (hr : Room k X.A) (M : HasMods X.base) : CallR X (.builtin "repr") rRepr := by
  intro pins s σ H xs us Q I r h
  obtain ⟨a, d, rfl, rd, sh, dp, sz, q⟩ := h
  obtain ⟨u1, rfl, r1⟩ := vals1 r
  obtain ⟨as, re, hn⟩ := RD.reads I M rd r1
  obtain rfl : u1 = Value.ref a := r1
  have room := hr.units
  exact repr_of_reads' re sh (fun _ => hn) gd (by omega) (fun _ _ z => z) (fun h' u tk k => ⟨.str d.shown, H, I.kept (t' := tk) k, ⟨u, rfl⟩, q⟩) sz
end
/-! ### the end of a law over such defs -/
theorem lawG {P : Program} {w : World} {K : PySem.W.Frag} {mg mb : Str → Option Value} {CX : CXT} {k : Nat} {fa a : Addr} {fd : FuncData} {x : Str} {sp : Sp} {s1 : Shared} {vs : List Value} {ns : List Int}
    (inK : K.In s1.heap) (hg : s1.heap.Ns mainGlobals mg) (hb : s1.heap.Ns builtinsNs mb) (hbb : ∀ x : Str, x ≠ "__name__" → mb x = bootBuiltins x) (hlim : s1.heap.NoLimit) (hgen : s1.gens = #[]) (hmod : ∃ mm, s1.heap.Ns sysModules mm)
    (ha : s1.heap.get? a = some { cls := .type "list", data := .seq vs.toArray }) (hi : IntsAre vs ns) (hl : ns.length ≤ sizeLine) (room : Room k callerA)
    (F : ∀ base : Heap, K.In base → base.Ns mainGlobals mg → HasMods base → FnG P w K mg base CX k fa fd [x] sp) (bnd : ∀ (s : Shared) (u : Value), BindsTo s fd ⟨[u], []⟩ [(x, u)])
    (want : ∀ H : Hp, Only H → SqL K H a (ns.map V.int) → sp [.ref a] H (fun v _ => v = .bl true) fun _ _ _ => False) (noX : ∀ H e s', CX [] H s1 (fun _ _ _ => False) e s' → False) :
    codeAny (model P w) callerA (.call (.ref fa) ⟨[.ref a], []⟩) (fun r s' => r = .ok (.ret (.bool true)) ∧ OldK s1.heap s'.heap ∧ s'.os = s1.os ∧ AllBare s'.gens) s1 := by
  have many := hi.length
  have go : ∀ H : Hp, Only H → SqL K H a (ns.map V.int) → HOk P w H s1.heap → (∀ b, b ≠ a → H b = none) → (K.lookup a ≠ none → H a = none) →
      codeAny (model P w) callerA (.call (.ref fa) ⟨[.ref a], []⟩) (fun r s' => r = .ok (.ret (.bool true)) ∧ OldK s1.heap s'.heap ∧ s'.os = s1.os ∧ AllBare s'.gens) s1 := by
    intro H only seq ok off kept
    have nsOf : ∀ {b : Addr} {m : Str → Option Value}, s1.heap.Ns b m → (hidT s1.heap H).Ns b m := by
      rintro b m ⟨o, es, ep, e, d, r⟩
      refine ⟨o, es, ep, hidT_get e (off b fun z => ?_), d, r⟩
      rw [z, ha] at e
      cases e
      cases d
    have inB : K.In (hidT s1.heap H) := fun b o e => by
      refine hidT_get (inK b o e) ?_
      by_cases z : b = a
      · rw [z]
        exact kept (by rw [← z, e]; exact fun q => nomatch q)
      · exact off b z
    obtain ⟨mc, c1, c2⟩ := hlim
    obtain ⟨mm, m1⟩ := hmod
    have M : Mod K mg (hidT s1.heap H) := ⟨inB, nsOf hg, ⟨mb, nsOf hb, hbb⟩, ⟨mc, nsOf c1, c2⟩⟩
    have hm : HasMods (hidT s1.heap H) := by
      obtain ⟨o, _, _, e, _⟩ := nsOf m1
      exact ⟨o, e⟩
    have E0' : Env0 P w K mg (hidT s1.heap H) callerA [] s1 H :=
      ⟨rfl, M, fun b o e => of_hidT e, Nat.le_of_eq (hidT_size _ _), trivial, fun b z => absurd (show b ∈ ([] : List Addr) from z) (by simp), ok, .of_eq hgen⟩
    have R := (F _ inB (nsOf hg) hm).run callerA [] s1 H ⟨[.ref a], []⟩ [.ref a] [.ref a] _ _ rfl room E0' (bnd s1 (.ref a)) (.cons rfl .nil) (want H only seq)
    refine codeAny_mono R fun r s' got => ?_
    cases r with
    | error e => exact (noX H e s' got).elim
    | ok fl =>
      cases fl with
      | next => exact got.elim
      | brk => exact got.elim
      | cont => exact got.elim
      | ret u =>
        obtain ⟨v, H', os, bare, un, ok', rv, rfl⟩ := got
        obtain rfl : u = Value.bool true := rv
        refine ⟨rfl, OldK.of_keep fun b o e => ?_, os, bare⟩
        rcases only b with z | ⟨ob, xs, z⟩
        · exact un.keep b o e z (fun y => absurd (show b ∈ ([] : List Addr) from y) (by simp)) (by simp)
        · obtain ⟨e1, _⟩ := ok b _ z
          obtain ⟨e2, _⟩ := ok' b _ (un.frzs b ob _ z)
          rw [e] at e1
          cases e1
          exact e2
  have rel := vals_ints hi
  by_cases inside : K.lookup a = none
  · let H0 : Hp := fun b => if b = a then some (.frz { cls := .type "list", data := .seq vs.toArray } (.lst (ns.map V.int))) else none
    have at_ : H0 a = some (.frz { cls := .type "list", data := .seq vs.toArray } (.lst (ns.map V.int))) := if_pos rfl
    have out : ∀ b, b ≠ a → H0 b = none := fun b z => if_neg z
    refine go H0 (fun b => ?_) (.inl (.inr ⟨_, at_⟩)) (fun b u z => ?_) out fun z => absurd inside z
    · by_cases z : b = a
      · rw [z]
        exact .inr ⟨_, _, at_⟩
      · exact .inl (out b z)
    · by_cases y : b = a
      · subst y
        rw [at_] at z
        cases z
        exact ⟨ha, by rw [List.length_map]; exact hl, vs, _, rel, ha⟩
      · rw [out b y] at z
        cases z
  · obtain ⟨o, ho⟩ := Option.ne_none_iff_exists'.mp inside
    have same := inK a o ho
    rw [ha] at same
    cases same
    refine go (fun _ => none) (fun _ => .inl rfl) (.inr ⟨_, vs.toArray, _, ho, rfl, rfl, rfl, ?_, by simpa using rel⟩) (fun b u z => ?_) (fun _ _ => rfl) fun _ => rfl
    · rw [List.size_toArray, many]
      exact hl
    · cases (show (none : Option HO) = some u from z)
theorem walkG {l : PySem.W.OpenLaw} {n k : Nat} {q : Program} {loose : List Str} {XP : (Str → Option Value) → Heap → Prop} {YP : World → Heap → Prop} {d : DefRec} {K : Params → PySem.W.Frag} {CX : World → CXT} {sp : World → Sp} {x : Str}
    (hn : l.most = some n) (hn2 : n ≤ sizeLine) (hdf : d.params.defaults = []) (room : Room k callerA) (free : importsNone q = true) (hY : ∀ (w : World) (h : Heap), YP w h → (K w.params).In h)
    (F : ∀ (w : World) (mg : Str → Option Value) (fa : Addr) (h : Heap), (K w.params).In h → h.Ns mainGlobals mg → mg d.name = some (.ref fa) →
      ∃ fd : FuncData, (∀ (s : Shared) (u : Value), BindsTo s fd ⟨[u], []⟩ [(x, u)]) ∧
        ∀ base : Heap, (K w.params).In base → base.Ns mainGlobals mg → HasMods base → FnG l.prog w (K w.params) mg base (CX w) k fa fd [x] (sp w))
    (want : ∀ (w : World) (H : Hp) (a : Addr) (ns : List Int), ns.length ≤ n → Only H → SqL (K w.params) H a (ns.map V.int) → sp w [.ref a] H (fun v _ => v = .bl true) fun _ _ _ => False)
    (noX : ∀ (w : World) (H : Hp) (s : Shared) (e : Value) (s' : Shared), CX w [] H s (fun _ _ _ => False) e s' → False) :
    PySem.W.WalkO q loose XP YP l.row.toRowW d [] (fun f vs => PySem.call f vs) := by
  refine Att.attach_call hn hdf fun w s0 s1 mg mb fa o pm cd doc a vs ns G Y ho hd hcd hmg hobj hints hlen hgen => ?_
  have inK := hY w _ Y
  obtain ⟨fd, bnd, hF⟩ := F w mg fa _ inK G.T.g hmg
  obtain ⟨mm, hm, _⟩ := (G.T.seer free).mods
  exact lawG inK G.T.g G.T.b G.T.builtins G.T.nolimit hgen ⟨mm, hm⟩ hobj hints (Nat.le_trans hlen hn2) room hF bnd (fun H h1 h2 => want w H a ns hlen h1 h2) fun H e s' => noX w H s1 e s'
end Gd

set_option maxHeartbeats 1000000
/-! small data, for repr; a comprehension over a list whose items draw -/
namespace Lw
open PySem PySem.Spec PyProof.Rows L2
theorem name_ok {z : Str} (h : IsNm z) : PyData.strOk z = true := by
  obtain ⟨_, _, hl⟩ := h
  unfold PyData.strOk
  rw [← Array.all_toList, List.all_eq_true]
  exact fun c hc => decide_eq_true (by have := hl c hc; omega)
/-- data of at most this weight and depth, that repr can show -/
structure Sm (w dp : Nat) (d : PyData) : Prop where
  c : d.canLay0 = true
  s : d.showable = true
  i : d.intsShort 13 = true
  w : d.weight ≤ w
  d : d.depth ≤ dp
structure SmAll (w dp : Nat) (ds : List PyData) : Prop where
  c : PyData.canLayAll0 ds = true
  s : PyData.showableAll ds = true
  i : PyData.intsShortAll 13 ds = true
  w : PyData.weightAll ds ≤ w
  d : PyData.depthAll ds ≤ dp
theorem SmAll.nil {w dp : Nat} : SmAll w dp [] := ⟨by simp [PyData.canLayAll0], by simp [PyData.showableAll], by simp [PyData.intsShortAll], by simp [PyData.weightAll], by simp [PyData.depthAll]⟩
theorem SmAll.cons {w1 w2 w dp : Nat} {d : PyData} {ds : List PyData} (h : Sm w1 dp d) (t : SmAll w2 dp ds) (q : w1 + 1 + w2 ≤ w) : SmAll w dp (d :: ds) := by
  obtain ⟨a1, a2, a3, a4, a5⟩ := h
  obtain ⟨b1, b2, b3, b4, b5⟩ := t
  refine ⟨by simp [PyData.canLayAll0, a1, b1], by simp [PyData.showableAll, a2, b2], by simp [PyData.intsShortAll, a3, b3], ?_, ?_⟩
  · rw [PyData.weightAll]
    omega
  · rw [PyData.depthAll]
    omega
theorem SmAll.each {w dp n : Nat} : ∀ {ds : List PyData}, (∀ d ∈ ds, Sm w dp d) → ds.length ≤ n → SmAll (n * (w + 1)) dp ds
  | [], _, _ => .nil
  | d :: ds, h, l => by
    cases n with
    | zero => exact absurd l (by simp)
    | succ n =>
      refine SmAll.cons (h d List.mem_cons_self) (SmAll.each (n := n) (fun e he => h e (List.mem_cons_of_mem _ he)) (by simpa using l)) ?_
      rw [Nat.succ_mul]
      omega
theorem Sm.list {w dp : Nat} {ds : List PyData} (h : SmAll w dp ds) : Sm w (dp + 1) (.list ds) := by
  obtain ⟨b1, b2, b3, b4, b5⟩ := h
  exact ⟨by simpa [PyData.canLay0] using b1, by simpa [PyData.showable] using b2, by simpa [PyData.intsShort] using b3, by simpa [PyData.weight] using b4, by simp only [PyData.depth]; omega⟩
theorem Sm.tup {w dp : Nat} {ds : List PyData} (h : SmAll w dp ds) : Sm w (dp + 1) (.tuple ds) := by
  obtain ⟨b1, b2, b3, b4, b5⟩ := h
  exact ⟨by simpa [PyData.canLay0] using b1, by simpa [PyData.showable] using b2, by simpa [PyData.intsShort] using b3, by simpa [PyData.weight] using b4, by simp only [PyData.depth]; omega⟩
theorem Sm.str {z : Str} (h : IsNm z) : Sm 8 1 (.str z) := by
  refine ⟨by simpa [PyData.canLay0] using name_ok h, by simp [PyData.showable], by simp [PyData.intsShort], ?_, by simp [PyData.depth]⟩
  have := h.2.1
  simp only [PyData.weight]
  exact this
theorem Sm.int {l : Int} (h0 : -1000000 ≤ l) (h1 : l ≤ 1000000) : Sm 20 1 (.int l) := by
  refine ⟨by simp [PyData.canLay0], by simpa [PyData.showable] using isz_log h0 h1, ?_, ?_, by simp [PyData.depth]⟩
  · rw [PyData.intsShort]
    refine decide_eq_true ?_
    have := isz_len h0 h1
    rw [PyData.shown]
    show (isz l).length ≤ 13
    omega
  · simp only [PyData.weight]
    split
    · exact Nat.zero_le _
    · have h : l.natAbs < 2 ^ 20 := by omega
      rcases Nat.eq_zero_or_pos l.natAbs with z | z
      · rw [z]
        decide
      · have := (Nat.log2_lt (Nat.ne_of_gt z)).mpr h
        omega
theorem Sm.mono {w dp w' dp' : Nat} {d : PyData} (h : Sm w dp d) (a : w ≤ w') (b : dp ≤ dp') : Sm w' dp' d := ⟨h.c, h.s, h.i, Nat.le_trans h.w a, Nat.le_trans h.d b⟩
/-- what repr asks -/
theorem Sm.rep {w dp : Nat} {d : PyData} (h : Sm w dp d) (a : w ≤ 1000000) (b : dp ≤ 50) : d.showable = true ∧ d.depth ≤ 50 ∧ d.shown.length ≤ sizeLine := by
  obtain ⟨b1, b2, b3, b4, b5⟩ := h
  refine ⟨b2, Nat.le_trans b5 b, ?_⟩
  have l : PyData.layable0 d = true := by
    show (d.canLay0 && decide (d.depth ≤ 64) && decide (d.weight ≤ 2 ^ 20)) = true
    rw [b1, decide_eq_true (by omega), decide_eq_true (by omega)]
    rfl
  have := shown_le13 l b3
  rw [sizeLine_eq]
  omega
theorem sm_eg {e : Eg} (a : IsNm e.1) (b : IsNm e.2.1) (c : IsNm e.2.2.1) (h0 : -1000000 ≤ e.2.2.2) (h1 : e.2.2.2 ≤ 1000000) : Sm 50 2 (egD e) :=
  Sm.tup (SmAll.cons (w2 := 39) (Sm.str a) (SmAll.cons (w2 := 30) (Sm.str b) (SmAll.cons (w2 := 21) (Sm.str c) (SmAll.cons (w2 := 0) (Sm.int h0 h1) .nil (by decide)) (by decide)) (by decide)) (by decide))
theorem sm_strs {ns : List Str} (h : ∀ y ∈ ns, IsNm y) {n : Nat} (l : ns.length ≤ n) : SmAll (n * 9) 1 (ns.map PyData.str) := SmAll.each (w := 8) (fun d hd => by
  obtain ⟨z, hz, rfl⟩ := List.mem_map.mp hd
  exact Sm.str (h z hz)) (by rwa [List.length_map])
theorem sm_egs {ns : List Str} {es : List Eg} (h : IsNet ns es) {n : Nat} (l : es.length ≤ n) : SmAll (n * 51) 2 (es.map egD) := SmAll.each (w := 50) (fun d hd => by
  obtain ⟨e, he, rfl⟩ := List.mem_map.mp hd
  obtain ⟨h1, h2, h3, h4, h5, h6⟩ := h.em e he
  exact sm_eg h1 (h.nm _ h2) (h.nm _ h3) h5 h6) (by rwa [List.length_map])
theorem rd_strs {H : Hp} : ∀ ns : List Str, Gd.RDs H (ns.map V.str) (ns.map PyData.str)
  | [] => .nil
  | n :: ns => .cons (.str n) (rd_strs ns)
theorem rd_egs {H : Hp} : ∀ {as : List Addr} {es : List Eg}, EgsAt H as es → Gd.RDs H (as.map V.ref) (es.map egD)
  | _, _, .nil => .nil
  | _, _, .cons h t => .cons (.tup h (.cons (.str _) (.cons (.str _) (.cons (.str _) (.cons (.int _) .nil))))) (rd_egs t)
/-! orders -/
theorem perm_map_inv {α β : Type} {f : α → β} : ∀ {xs : List α} {ys : List β}, ys.Perm (xs.map f) → ∃ zs : List α, zs.Perm xs ∧ ys = zs.map f
  | [], ys, h => ⟨[], .nil, List.perm_nil.mp h⟩
  | x :: xs, ys, h => by
    have m : f x ∈ ys := h.mem_iff.mpr List.mem_cons_self
    obtain ⟨l1, l2, rfl⟩ := List.append_of_mem m
    have h2 : (l1 ++ l2).Perm (xs.map f) := List.Perm.cons_inv (a := f x) (List.perm_middle.symm.trans h)
    obtain ⟨zs, p, e⟩ := perm_map_inv h2
    obtain ⟨z1, z2, rfl, e1, e2⟩ := List.map_eq_append_iff.mp e.symm
    exact ⟨z1 ++ x :: z2, List.perm_middle.trans (p.cons x), by rw [List.map_append, List.map_cons, e1, e2]⟩
theorem perm_egs {H : Hp} {as : List Addr} {es : List Eg} {ys : List V} (h : EgsAt H as es) (p : ys.Perm (as.map V.ref)) : ∃ ds gs, ys = ds.map V.ref ∧ EgsAt H ds gs ∧ gs.Perm es := by
  obtain ⟨ps, h1, h2, h3⟩ := egs_pairs h
  rw [← h1] at p
  obtain ⟨zs, pz, rfl⟩ := perm_map_inv p
  obtain ⟨ds, d1, d2⟩ := pairs_egs (H := H) (ps := zs) fun q hq => h3 q (pz.mem_iff.mp hq)
  exact ⟨ds, zs.map (·.2), d1, d2, by rw [← h2]; exact pz.map _⟩
theorem norm_flip {e f : Eg} (h : f.1 = e.1) (l : f.2.2.2 = e.2.2.2) (k : f.2.1 = e.2.1 ∧ f.2.2.1 = e.2.2.1 ∨ f.2.1 = e.2.2.1 ∧ f.2.2.1 = e.2.1) : norm f = norm e := by
  obtain ⟨n, u, v, m⟩ := e
  obtain ⟨n', u', v', m'⟩ := f
  simp only at h l k
  subst h l
  rcases k with ⟨rfl, rfl⟩ | ⟨rfl, rfl⟩
  · rfl
  · have key : ∀ a b : Str, minS a b = minS b a ∧ maxS a b = maxS b a := fun a b => by
      unfold minS maxS
      by_cases h1 : sk b < sk a
      · have h2 : ¬ sk a < sk b := List.lt_asymm h1
        rw [if_pos h1, if_neg h2, if_neg h2, if_pos h1]
        exact ⟨rfl, rfl⟩
      · by_cases h2 : sk a < sk b
        · rw [if_neg h1, if_pos h2, if_pos h2, if_neg h1]
          exact ⟨rfl, rfl⟩
        · have e : a = b := ext_cps (List.le_antisymm (List.not_lt.mp h1) (List.not_lt.mp h2))
          subst e
          exact ⟨rfl, rfl⟩
    obtain ⟨e1, e2⟩ := key u' v'
    unfold norm
    simp only
    rw [e1, e2]
abbrev tri (e : Eg) : Str × Str × Str := (e.1, e.2.1, e.2.2.1)
theorem tri_names (es : List Eg) : (es.map tri).map (·.1) = es.map (·.1) := by
  rw [List.map_map]
  rfl
theorem net_tri {ns : List Str} {es fs : List Eg} (net : IsNet ns es) (h : fs.map tri = es.map tri) (b : ∀ f ∈ fs, -1000000 ≤ f.2.2.2 ∧ f.2.2.2 ≤ 1000000) : IsNet ns fs := by
  refine ⟨net.nm, net.nd, fun f hf => ?_, ?_⟩
  · have m : tri f ∈ es.map tri := by
      rw [← h]
      exact List.mem_map.mpr ⟨f, hf, rfl⟩
    obtain ⟨e, he, q⟩ := List.mem_map.mp m
    obtain ⟨h1, h2, h3, h4, _⟩ := net.em e he
    have q1 : e.1 = f.1 := congrArg (·.1) q
    have q2 : e.2.1 = f.2.1 := congrArg (·.2.1) q
    have q3 : e.2.2.1 = f.2.2.1 := congrArg (·.2.2) q
    rw [q1] at h1
    rw [q2] at h2 h4
    rw [q3] at h3 h4
    exact ⟨h1, h2, h3, h4, b f hf⟩
  · rw [← tri_names, h, tri_names]
    exact net.ed
theorem net_perm {ns : List Str} {es gs : List Eg} (net : IsNet ns es) (p : gs.Perm es) : IsNet ns gs := ⟨net.nm, net.nd, fun e he => net.em e (p.mem_iff.mp he), (p.map _).nodup_iff.mpr net.ed⟩
/-- the same edge, its ends exchanged perhaps -/
def Flip (e f : Eg) : Prop := f.1 = e.1 ∧ f.2.2.2 = e.2.2.2 ∧ (f.2.1 = e.2.1 ∧ f.2.2.1 = e.2.2.1 ∨ f.2.1 = e.2.2.1 ∧ f.2.2.1 = e.2.1)
theorem flip_norm : ∀ {es fs : List Eg}, Paired Flip es fs → fs.map norm = es.map norm
  | _, _, .nil => rfl
  | _, _, .cons h t => by
    rw [List.map_cons, List.map_cons, flip_norm t, norm_flip h.1 h.2.1 h.2.2]
theorem flip_names : ∀ {es fs : List Eg}, Paired Flip es fs → fs.map (·.1) = es.map (·.1)
  | _, _, .nil => rfl
  | _, _, .cons h t => by
    rw [List.map_cons, List.map_cons, flip_names t, h.1]
theorem flip_mem : ∀ {es fs : List Eg}, Paired Flip es fs → ∀ f ∈ fs, ∃ e ∈ es, Flip e f
  | _, _, .nil => fun f hf => absurd hf (by simp)
  | e :: _, f' :: _, .cons h t => fun f hf => by
    rcases List.mem_cons.mp hf with z | z
    · exact ⟨e, List.mem_cons_self, by rw [z]; exact h⟩
    · obtain ⟨e', m, q⟩ := flip_mem t f z
      exact ⟨e', List.mem_cons_of_mem _ m, q⟩
theorem net_flip {ns : List Str} {es fs : List Eg} (net : IsNet ns es) (h : Paired Flip es fs) : IsNet ns fs := by
  refine ⟨net.nm, net.nd, fun f hf => ?_, by rw [flip_names h]; exact net.ed⟩
  obtain ⟨e, he, q1, q2, q3⟩ := flip_mem h f hf
  obtain ⟨h1, h2, h3, h4, h5, h6⟩ := net.em e he
  rw [q1, q2]
  rcases q3 with ⟨a, b⟩ | ⟨a, b⟩
  · rw [a, b]
    exact ⟨h1, h2, h3, h4, h5, h6⟩
  · rw [a, b]
    exact ⟨h1, h3, h2, Ne.symm h4, h5, h6⟩
theorem perm_two {α : Type} {u v : α} {zs : List α} (h : zs.Perm [u, v]) : zs = [u, v] ∨ zs = [v, u] := by
  have l := h.length_eq
  match zs, l with
  | [x, y], _ =>
    have m : x ∈ [u, v] := h.mem_iff.mp List.mem_cons_self
    simp only [List.mem_cons, List.mem_nil_iff, or_false] at m
    rcases m with rfl | rfl
    · exact .inl (by rw [List.perm_singleton.mp (List.Perm.cons_inv h)])
    · exact .inr (by rw [List.perm_singleton.mp (List.Perm.cons_inv (h.trans (List.Perm.swap _ _ _)))])
theorem min_max (a b : Str) : minS a b = a ∧ maxS a b = b ∨ minS a b = b ∧ maxS a b = a := by
  unfold minS maxS
  by_cases h1 : sk b < sk a
  · have h2 : ¬ sk a < sk b := List.lt_asymm h1
    rw [if_pos h1, if_neg h2]
    exact .inr ⟨rfl, rfl⟩
  · by_cases h2 : sk a < sk b
    · rw [if_neg h1, if_pos h2]
      exact .inl ⟨rfl, rfl⟩
    · have e : a = b := ext_cps (List.le_antisymm (List.not_lt.mp h1) (List.not_lt.mp h2))
      subst e
      rw [if_neg h1]
      exact .inl ⟨rfl, rfl⟩
theorem flip_self (e : Eg) : Flip e (norm e) := ⟨rfl, rfl, min_max e.2.1 e.2.2.1⟩
theorem norm_norm (e : Eg) : norm (norm e) = norm e := norm_flip rfl rfl (flip_self e).2.2
theorem norms_norms (es : List Eg) : (es.map norm).map norm = es.map norm := by
  rw [List.map_map]
  exact List.map_congr_left fun e _ => norm_norm e
theorem flips_self : ∀ es : List Eg, Paired Flip es (es.map norm)
  | [] => .nil
  | e :: es => .cons (flip_self e) (flips_self es)
theorem net_permN {ns ms : List Str} {es : List Eg} (p : ms.Perm ns) (net : IsNet ns es) : IsNet ms es := ⟨fun y hy => net.nm y (p.mem_iff.mp hy), p.nodup_iff.mpr net.nd, fun e he => by
  obtain ⟨h1, h2, h3, h⟩ := net.em e he
  exact ⟨h1, p.mem_iff.mpr h2, p.mem_iff.mpr h3, h⟩, net.ed⟩
/-- the canonical nodes and edges are a network -/
theorem net_canon {ns : List Str} {es : List Eg} (net : IsNet ns es) : IsNet (srtN ns) (srtE (es.map norm)) := net_permN (srtN_perm ns) (net_perm (net_flip net (flips_self es)) (srtE_perm _))
theorem canon_canon {ns : List Str} {es : List Eg} (net : IsNet ns es) : srtN (srtN ns) = srtN ns ∧ srtE ((srtE (es.map norm)).map norm) = srtE (es.map norm) := by
  refine ⟨srtN_eq net.nd (srtN_perm ns), ?_⟩
  refine srtE_eq (by rw [norm_names]; exact net.ed) ?_
  have := (srtE_perm (es.map norm)).map norm
  rwa [norms_norms] at this
theorem text_canon {ns : List Str} {es : List Eg} (net : IsNet ns es) : netText (srtN ns) (srtE (es.map norm)) = netText ns es := by
  refine netText_eq net (srtN_perm ns) ?_
  have := (srtE_perm (es.map norm)).map norm
  rwa [norms_norms] at this
theorem nmEg_of {ns : List Str} {es : List Eg} (net : IsNet ns es) : ∀ e ∈ es, IsNm e.1 ∧ IsNm e.2.1 ∧ IsNm e.2.2.1 := fun e he => by
  obtain ⟨h1, h2, h3, _⟩ := net.em e he
  exact ⟨h1, net.nm _ h2, net.nm _ h3⟩
/-- behind the making of an object -/
theorem ex_make {H1 H2 : Hp} {x dx : Addr} {o o' : HO} (nx : H1 x = none) (nd : H1 dx = none) (b : But x (upd (upd H1 dx o) x o') H2) : Evl.Ex H1 H2 := fun c u hc => by
  have c1 : c ≠ x := fun z => by
    rw [z, nx] at hc
    exact nomatch hc
  have c2 : c ≠ dx := fun z => by
    rw [z, nd] at hc
    exact nomatch hc
  refine b c u c1 ?_
  rw [upd_ne c1, upd_ne c2]
  exact hc
/-- what repr shows of nodes and edges -/
def netL (ns : List Str) (es : List Eg) : PyData := .tuple [.list (ns.map PyData.str), .list (es.map egD)]
def netU (ns : List Str) (es : List Eg) : PyData := .tuple [.tuple (ns.map PyData.str), .tuple (es.map egD)]
theorem sm_netL {ns : List Str} {es : List Eg} (net : IsNet ns es) (h1 : ns.length ≤ 40) (h2 : es.length ≤ 100) : (netL ns es).showable = true ∧ (netL ns es).depth ≤ 50 ∧ (netL ns es).shown.length ≤ sizeLine :=
  Sm.rep (w := 10000) (dp := 4) (Sm.tup (SmAll.cons (w1 := 40 * 9) (w2 := 8000) ((Sm.list (sm_strs net.nm h1)).mono (Nat.le_refl _) (by decide)) (SmAll.cons (w1 := 100 * 51) (w2 := 0) (Sm.list (sm_egs net h2)) .nil (by decide)) (by decide))) (by decide) (by decide)
theorem sm_netU {ns : List Str} {es : List Eg} (net : IsNet ns es) (h1 : ns.length ≤ 40) (h2 : es.length ≤ 100) : (netU ns es).showable = true ∧ (netU ns es).depth ≤ 50 ∧ (netU ns es).shown.length ≤ sizeLine :=
  Sm.rep (w := 10000) (dp := 4) (Sm.tup (SmAll.cons (w1 := 40 * 9) (w2 := 8000) ((Sm.tup (sm_strs net.nm h1)).mono (Nat.le_refl _) (by decide)) (SmAll.cons (w1 := 100 * 51) (w2 := 0) (Sm.tup (sm_egs net h2)) .nil (by decide)) (by decide))) (by decide) (by decide)
theorem rd_netL {H : Hp} {t a b : Addr} {ns : List Str} {as : List Addr} {es : List Eg} (ht : H t = some (.tup [.ref a, .ref b])) (ha : H a = some (.lst (ns.map V.str))) (hb : H b = some (.lst (as.map V.ref))) (he : EgsAt H as es) : Gd.RD H (.ref t) (netL ns es) :=
  .tup ht (.cons (.lst (.inl ha) (rd_strs ns)) (.cons (.lst (.inl hb) (rd_egs he)) .nil))
theorem rd_netU {H : Hp} {t a b : Addr} {ns : List Str} {as : List Addr} {es : List Eg} (ht : H t = some (.tup [.ref a, .ref b])) (ha : H a = some (.tup (ns.map V.str))) (hb : H b = some (.tup (as.map V.ref))) (he : EgsAt H as es) : Gd.RD H (.ref t) (netU ns es) :=
  .tup ht (.cons (.tup ha (rd_strs ns)) (.cons (.tup hb (rd_egs he)) .nil))
/-- repr((nodes, edges)), both lists -/
theorem ev_reprL {σ : St} {H : Hp} {ta tb : TE} {a b : Addr} {ns : List Str} {as : List Addr} {es : List Eg} (h1 : Evl.Ev ta σ H (.ref a)) (h2 : Evl.Ev tb σ H (.ref b)) (ha : H a = some (.lst (ns.map V.str))) (hb : H b = some (.lst (as.map V.ref))) (he : EgsAt H as es) (net : IsNet ns es) (l1 : ns.length ≤ 40) (l2 : es.length ≤ 100) :
    Evl.Ev (tCB Gd.rRepr (tCons (tTup (tCons ta (tCons tb tNil))) tNil)) σ H (.str (netL ns es).shown) := fun H1 e Q q => h1 H1 e _ fun H2 e2 => h2 H2 (e.trans e2) _ fun H3 e3 => ⟨by simp [sizeLine_eq], fun t nt => by
  have eA := ((e.trans e2).trans e3).trans (Evl.Ex.new (o := .tup [.ref a, .ref b]) nt)
  obtain ⟨s1, s2, s3⟩ := sm_netL net l1 l2
  exact ⟨t, _, rfl, rd_netL upd_same (eA _ _ ha) (eA _ _ hb) (he.tk (TK.ex eA)), s1, s2, s3, q _ ((e2.trans e3).trans (Evl.Ex.new nt))⟩⟩
/-- a comprehension over a list that stays, whose items may draw, kk times each -/
theorem lcL {K : PySem.W.Frag} {p c a : Addr} {n kk : Nat} {xs : List V} {σ : St} {H1 : Hp} {te : TE} {j : Nat} {vs : List Nat} {Q : VK} (Pv : Nat → List V → Hp → Prop) (hP : Pen p c n H1) (ha : H1 a = some (.lst xs)) (hap : a ≠ p) (hm : xs.length ≤ 1000) (p0 : ∀ H', Evl.Ex H1 H' → Pv 0 [] H')
    (hw : ∀ x, wipe ((wipe σ vs).set j (some x)) vs = wipe σ vs) (pm : ∀ i acc D ys H', (H' D = none ∨ ∃ xs, H' D = some (.lst xs)) → Pv i acc H' → Pv i acc (upd H' D (.lst ys)))
    (hs : ∀ i x acc H', xs[i]? = some x → acc.length = i → Pv i acc H' → But p H1 H' → Pen p c (n + kk * i) H' → ∀ Q' : VK, (∀ y H'', Pv (i + 1) (acc ++ [y]) H'' → But p H' H'' → Pen p c (n + kk * (i + 1)) H'' → Q' y H'') → te ((wipe σ vs).set j (some x)) H' Q')
    (hd : ∀ D acc H', H1 D = none → acc.length = xs.length → Pv xs.length acc H' → But p H1 H' → H' D = some (.lst acc) → Pen p c (n + kk * xs.length) H' → Q (.ref D) H') :
    ∀ D, H1 D = none → ∃ W : Nat → Nat → Hp → Prop, (∃ m, W 0 m (upd H1 D (.lst []))) ∧ ∀ i m' H, W i m' H →
      ((Itl K a).stop i H ∧ Q (.ref D) H) ∨ ((Itl K a).go i H ∧ ∃ Nx : Hp → Prop, (∀ H', Nx H' → ∃ m2, m2 < m' ∧ W (i + 1) m2 H') ∧ ∀ x H', (Itl K a).yld i H x H' → gName j x (wipe σ vs) H' fun σ2 H2 => wipe σ2 vs = wipe σ vs ∧ tYes σ2 H2 fun b H3 => if b = true then te σ2 H3 fun y H4 => ∃ acc, H4 D = some (.lst acc) ∧ acc.length < sizeLine ∧ Nx (upd H4 D (.lst (acc ++ [y]))) else Nx H3) := by
  intro D hD
  have far := hP.far hD
  refine lc_list (K := K) (a := a) (xs := xs) (fun i H' => ∃ acc : List V, acc.length = i ∧ Pv i acc H' ∧ But p H1 H' ∧ H' D = some (.lst acc) ∧ Pen p c (n + kk * i) H') ⟨[], rfl, pm _ _ _ _ _ (.inl hD) (p0 _ (Evl.Ex.refl _)), (But.refl p H1).mut hD, upd_same, hP.mut far⟩ (fun i H' hi w => ?_) (fun i x H' hx w => ?_)
    (fun H' w => ?_)
  · obtain ⟨acc, la, pa, ba, hacc, Pa⟩ := w
    exact Evl.sq_of (ba _ _ hap ha)
  · obtain ⟨acc, la, pa, ba, hacc, Pa⟩ := w
    have hi : i < xs.length := (List.getElem?_eq_some_iff.mp hx).1
    refine ⟨hw _, ?_⟩
    show te ((wipe σ vs).set j (some x)) H' fun y H4 => ∃ acc, H4 D = some (.lst acc) ∧ acc.length < sizeLine ∧ ∃ acc' : List V, acc'.length = i + 1 ∧ Pv (i + 1) acc' (upd H4 D (.lst (acc ++ [y]))) ∧ But p H1 (upd H4 D (.lst (acc ++ [y]))) ∧ (upd H4 D (.lst (acc ++ [y]))) D = some (.lst acc') ∧ Pen p c (n + kk * (i + 1)) (upd H4 D (.lst (acc ++ [y])))
    refine hs i x acc H' hx la pa ba Pa _ fun y H4 p4 b4 P4 => ?_
    exact ⟨acc, b4 _ _ far.1 hacc, Evl.sz_lt (by omega), acc ++ [y], by simp [la], pm _ _ _ _ _ (.inr ⟨acc, b4 _ _ far.1 hacc⟩) p4, (ba.trans b4).mut hD, upd_same, P4.mut far⟩
  · obtain ⟨acc, la, pa, ba, hacc, Pa⟩ := w
    exact hd D acc H' hD la pa ba hacc Pa
end Lw

set_option maxHeartbeats 1000000
/-! how many edges end at a node; a for over a list or a tuple -/
namespace Lw
open PySem PySem.Spec PyProof.Rows L2
theorem nd_le : ∀ {ys ns : List Str}, ys.Nodup → (∀ y ∈ ys, y ∈ ns) → ys.length ≤ ns.length
  | [], _, _, _ => Nat.zero_le _
  | y :: ys, ns, h, k => by
    obtain ⟨h1, h2⟩ := List.nodup_cons.mp h
    have m := k y List.mem_cons_self
    have := nd_le (ns := ns.erase y) h2 fun z hz => (List.mem_erase_of_ne (fun (e : z = y) => h1 (by rw [← e]; exact hz))).mpr (k z (List.mem_cons_of_mem _ hz))
    rw [List.length_erase_of_mem m] at this
    have := List.length_pos_of_mem m
    rw [List.length_cons]
    omega
def ends (e : Eg) (z : Str) : Nat := (if e.2.1 = z then 1 else 0) + (if e.2.2.1 = z then 1 else 0)
def cnt (es : List Eg) (z : Str) : Nat := (es.map fun e => ends e z).sum
theorem cnt_nil (z : Str) : cnt [] z = 0 := rfl
theorem cnt_snoc (es : List Eg) (e : Eg) (z : Str) : cnt (es ++ [e]) z = cnt es z + ends e z := by
  unfold cnt
  rw [List.map_append, List.sum_append]
  simp
theorem cnt_cons (es : List Eg) (e : Eg) (z : Str) : cnt (e :: es) z = ends e z + cnt es z := by
  unfold cnt
  rw [List.map_cons, List.sum_cons]
theorem cnt_perm {es fs : List Eg} (p : es.Perm fs) (z : Str) : cnt es z = cnt fs z := (p.map _).sum_nat
theorem ends_norm (e : Eg) (z : Str) : ends (norm e) z = ends e z := by
  obtain ⟨n, u, v, l⟩ := e
  show (if minS u v = z then 1 else 0) + (if maxS u v = z then 1 else 0) = (if u = z then 1 else 0) + (if v = z then 1 else 0)
  rcases min_max u v with ⟨a, b⟩ | ⟨a, b⟩ <;> rw [a, b]
  exact Nat.add_comm _ _
theorem cnt_norm (es : List Eg) (z : Str) : cnt (es.map norm) z = cnt es z := by
  unfold cnt
  rw [List.map_map]
  congr 1
  exact List.map_congr_left fun e _ => ends_norm e z
theorem cnt_pos {es : List Eg} {z : Str} (h : 0 < cnt es z) : ∃ e ∈ es, e.2.1 = z ∨ e.2.2.1 = z := by
  induction es with
  | nil => exact absurd h (by simp [cnt])
  | cons e es ih =>
    rw [cnt_cons] at h
    by_cases q : e.2.1 = z
    · exact ⟨e, List.mem_cons_self, .inl q⟩
    · by_cases r : e.2.2.1 = z
      · exact ⟨e, List.mem_cons_self, .inr r⟩
      · have : ends e z = 0 := by
          unfold ends
          rw [if_neg q, if_neg r]
        obtain ⟨f, hf, k⟩ := ih (by omega)
        exact ⟨f, List.mem_cons_of_mem _ hf, k⟩
def isOdd (es : List Eg) (z : Str) : Prop := cnt es z % 2 = 1
instance (es : List Eg) (z : Str) : Decidable (isOdd es z) := inferInstanceAs (Decidable (_ = _))
def negs (es : List Eg) : List Eg := es.filter fun e => decide (e.2.2.2 < 0)
/-- at most ten nodes at which an odd number of the negative edges end -/
def Few (es : List Eg) : Prop := ∀ ys : List Str, ys.Nodup → (∀ y ∈ ys, isOdd (negs es) y) → ys.length ≤ 10
theorem negs_norm (es : List Eg) : negs (es.map norm) = (negs es).map norm := by
  unfold negs
  rw [List.filter_map]
  rfl
theorem negs_perm {es fs : List Eg} (p : es.Perm fs) : (negs es).Perm (negs fs) := p.filter _
theorem Few.perm {es fs : List Eg} (p : fs.Perm es) (h : Few es) : Few fs := fun ys nd k => h ys nd fun y hy => by
  have := k y hy
  unfold isOdd at this ⊢
  rwa [cnt_perm (negs_perm p)] at this
theorem Few.norms {es : List Eg} (h : Few es) : Few (es.map norm) := fun ys nd k => h ys nd fun y hy => by
  have := k y hy
  unfold isOdd at this ⊢
  rwa [negs_norm, cnt_norm] at this
theorem Few.canon {es : List Eg} (h : Few es) : Few (srtE (es.map norm)) := h.norms.perm (srtE_perm _)
theorem Few.small {ns : List Str} {es : List Eg} (net : IsNet ns es) (l : ns.length ≤ 10) : Few es := fun ys nd k => by
  refine Nat.le_trans ?_ l
  have sub : ∀ y ∈ ys, y ∈ ns := fun y hy => by
    have := k y hy
    unfold isOdd at this
    obtain ⟨e, he, q⟩ := cnt_pos (es := negs es) (z := y) (by omega)
    obtain ⟨_, h2, h3, _⟩ := net.em e (List.mem_filter.mp he).1
    rcases q with q | q
    · rw [← q]
      exact h2
    · rw [← q]
      exact h3
  exact nd_le nd sub
section
variable {K : PySem.W.Frag}
/-- a for over a list or tuple that stays -/
theorem q_forSeq {tl : TE} {g : TG} {tu tz : TS} {D : Ends} {σ : St} {H0 H : Hp} {a : Addr} {xs : List V} (e0 : Evl.Ex H0 H) (h : Evl.Ev tl σ H (.ref a)) (hx : H0 a = some (.lst xs) ∨ H0 a = some (.tup xs)) (Pv : Nat → St → Hp → Prop) (h0 : ∀ H1, Evl.Ex H H1 → Pv 0 σ H1) (hl : ∀ i σ' H', Pv i σ' H' → Evl.Ex H0 H')
    (hs : ∀ i x σ' H', xs[i]? = some x → Pv i σ' H' → g x σ' H' fun σ2 H2 => tu { D with nx := Pv (i + 1), ct := Pv (i + 1), bk := tz D } σ2 H2) (hd : ∀ σ' H', Pv xs.length σ' H' → tz D σ' H') :
    tSeq (tFor (fun σ H R => iList K tl σ H R ∨ iTup K tl σ H R) g tu) tz D σ H :=
  hx.elim (fun hx => .inl (Evl.q_forL h (Evl.sq_of (e0 _ _ hx)) Pv h0 (fun i σ' H' _ z => Evl.sq_of (hl i σ' H' z _ _ hx)) hs hd)) fun hx => .inr (Evl.q_forT h (Evl.st_of (e0 _ _ hx)) Pv h0 (fun i σ' H' _ z => Evl.st_of (hl i σ' H' z _ _ hx)) hs hd)
end
end Lw

set_option maxHeartbeats 1000000
namespace Lw
open PySem PySem.Spec PyProof.Rows L2
/-! the data of nodes and edges -/
theorem dp_strs {K : PySem.W.Frag} {H : Hp} : ∀ ns : List Str, DpAll K H (ns.map V.str) (ns.map PyData.str)
  | [] => .nil
  | n :: ns => .cons (.str n) (dp_strs ns)
theorem dp_eg {K : PySem.W.Frag} {H : Hp} {a : Addr} {e : Eg} (h : H a = some (.tup (egV e))) : Dp K H (.ref a) (egD e) := .tup (Evl.st_of h) (.cons (.str _) (.cons (.str _) (.cons (.str _) (.cons (.int _) .nil))))
theorem dp_egs {K : PySem.W.Frag} {H : Hp} : ∀ {as : List Addr} {es : List Eg}, EgsAt H as es → DpAll K H (as.map V.ref) (es.map egD)
  | _, _, .nil => .nil
  | _, _, .cons h t => .cons (dp_eg h) (dp_egs t)
theorem nm_ok {z : Str} (h : IsNm z) : PyData.strOk z = true := by
  obtain ⟨_, _, hl⟩ := h
  unfold PyData.strOk
  rw [← Array.all_toList, List.all_eq_true]
  exact fun c hc => decide_eq_true (by have := hl c hc; omega)
def NmEg (e : Eg) : Prop := IsNm e.1 ∧ IsNm e.2.1 ∧ IsNm e.2.2.1
theorem lay_strs : ∀ {ns : List Str}, (∀ y ∈ ns, IsNm y) → PyData.canLayAll0 (ns.map PyData.str) = true ∧ PyData.depthAll (ns.map PyData.str) ≤ 1
  | [], _ => by simp [PyData.canLayAll0, PyData.depthAll]
  | n :: ns, h => by
    obtain ⟨h1, h2⟩ := lay_strs (ns := ns) fun y hy => h y (List.mem_cons_of_mem _ hy)
    simp [PyData.canLayAll0, PyData.canLay0, PyData.depthAll, PyData.depth, h1, h2, nm_ok (h n List.mem_cons_self)]
theorem lay_egs : ∀ {es : List Eg}, (∀ e ∈ es, NmEg e) → PyData.canLayAll0 (es.map egD) = true ∧ PyData.depthAll (es.map egD) ≤ 2
  | [], _ => by simp [PyData.canLayAll0, PyData.depthAll]
  | e :: es, h => by
    obtain ⟨h1, h2⟩ := lay_egs (es := es) fun y hy => h y (List.mem_cons_of_mem _ hy)
    obtain ⟨a, b, c⟩ := h e List.mem_cons_self
    simp [egD, PyData.canLayAll0, PyData.canLay0, PyData.depthAll, PyData.depth, nm_ok a, nm_ok b, nm_ok c] at h1 h2 ⊢
    exact ⟨h1, by omega⟩
theorem sh_of {d : PyData} (c : d.canLay0 = true) (h : d.depth ≤ 64) : SeqAt.shaped d = true ∧ PyData.eqv d d = true := by
  refine ⟨?_, PySem.SeqAt.eqv_refl _ c⟩
  show (d.canLay0 && decide (d.depth ≤ 64)) = true
  rw [c, Bool.true_and]
  exact decide_eq_true h
theorem sh_strs {ns : List Str} (h : ∀ y ∈ ns, IsNm y) : SeqAt.shaped (.tuple (ns.map PyData.str)) = true ∧ PyData.eqv (.tuple (ns.map PyData.str)) (.tuple (ns.map PyData.str)) = true := by
  obtain ⟨h1, h2⟩ := lay_strs h
  exact sh_of (by simpa [PyData.canLay0] using h1) (by simp only [PyData.depth]; omega)
theorem sh_egs {es : List Eg} (h : ∀ e ∈ es, NmEg e) : SeqAt.shaped (.tuple (es.map egD)) = true ∧ PyData.eqv (.tuple (es.map egD)) (.tuple (es.map egD)) = true := by
  obtain ⟨h1, h2⟩ := lay_egs h
  exact sh_of (by simpa [PyData.canLay0] using h1) (by simp only [PyData.depth]; omega)
theorem lay_lists : ∀ {gs : List (List Str)}, (∀ g ∈ gs, ∀ y ∈ g, IsNm y) → PyData.canLayAll0 (gs.map fun g => PyData.list (g.map PyData.str)) = true ∧ PyData.depthAll (gs.map fun g => PyData.list (g.map PyData.str)) ≤ 2
  | [], _ => by simp [PyData.canLayAll0, PyData.depthAll]
  | g :: gs, h => by
    obtain ⟨h1, h2⟩ := lay_lists (gs := gs) fun y hy => h y (List.mem_cons_of_mem _ hy)
    obtain ⟨h3, h4⟩ := lay_strs (h g List.mem_cons_self)
    refine ⟨by simp [PyData.canLayAll0, PyData.canLay0, h1, h3], ?_⟩
    simp only [List.map_cons, PyData.depthAll, PyData.depth]
    omega
theorem sh_listS {ns : List Str} (h : ∀ y ∈ ns, IsNm y) : SeqAt.shaped (.list (ns.map PyData.str)) = true ∧ PyData.eqv (.list (ns.map PyData.str)) (.list (ns.map PyData.str)) = true := by
  obtain ⟨h1, h2⟩ := lay_strs h
  exact sh_of (by simpa [PyData.canLay0] using h1) (by simp only [PyData.depth]; omega)
theorem sh_lists {gs : List (List Str)} (h : ∀ g ∈ gs, ∀ y ∈ g, IsNm y) : SeqAt.shaped (.list (gs.map fun g => PyData.list (g.map PyData.str))) = true := by
  obtain ⟨h1, h2⟩ := lay_lists h
  exact (sh_of (by simpa [PyData.canLay0] using h1) (by simp only [PyData.depth]; omega)).1
end Lw

set_option maxHeartbeats 1000000
/-! lists of lists of names; readings cut off from what follows them -/
namespace Lw
open PySem PySem.Spec PyProof.Rows L2
theorem hu65 {k : Nat} {A : Around} (hr : Room k A) : A.units + 65 < cLine := by
  have := hr.un
  omega
theorem q_par2Via {i j : Nat} {ta : TA} {tz : TS} {D : Ends} {σ : St} {H : Hp} (S : V → V → Hp → Prop) (h1 : ∀ Q' : List V → Hp → Prop, (∀ u v H', S u v H' → Q' [u, v] H') → ta σ H Q') (h2 : ∀ u v H', S u v H' → tz D ((σ.set i (some u)).set j (some v)) H') : tSeq (tPar i j ta) tz D σ H :=
  h1 _ fun u v H' s => ⟨u, v, rfl, h2 u v H' s⟩
theorem q_par3Via {i j l : Nat} {ta : TA} {tz : TS} {D : Ends} {σ : St} {H : Hp} (S : V → V → V → Hp → Prop) (h1 : ∀ Q' : List V → Hp → Prop, (∀ u v w H', S u v w H' → Q' [u, v, w] H') → ta σ H Q') (h2 : ∀ u v w H', S u v w H' → tz D (((σ.set i (some u)).set j (some v)).set l (some w)) H') : tSeq (tPar3 i j l ta) tz D σ H :=
  h1 _ fun u v w H' s => ⟨u, v, w, rfl, h2 u v w H' s⟩
/-- if t: u, the test of any kind, what holds behind it said once -/
theorem q_ifM {t : TT} {tu tz : TS} {D : Ends} {σ : St} {H : Hp} (S : Bool → Hp → Prop) (M : St → Hp → Prop) (h : ∀ Q' : Bool → Hp → Prop, (∀ b H', S b H' → Q' b H') → t σ H Q') (h1 : ∀ H', S true H' → ∀ D' : Ends, (∀ σ' H', M σ' H' → D'.nx σ' H') → tu D' σ H') (h2 : ∀ H', S false H' → M σ H') (k : ∀ σ' H', M σ' H' → tz D σ' H') : tSeq (tIfS t tu tNext) tz D σ H :=
  h _ fun b H' s => by
    cases b with
    | true => exact ite2 (fun _ => h1 H' s _ k) (fun z => absurd rfl z)
    | false => exact ite2 (fun z => absurd z (by decide)) (fun _ => k _ _ (h2 H' s))
theorem s_ifM {t : TT} {tu : TS} {D : Ends} {σ : St} {H : Hp} (S : Bool → Hp → Prop) (h : ∀ Q' : Bool → Hp → Prop, (∀ b H', S b H' → Q' b H') → t σ H Q') (h1 : ∀ H', S true H' → tu D σ H') (h2 : ∀ H', S false H' → D.nx σ H') : tIfS t tu tNext D σ H :=
  h _ fun b H' s => by
    cases b with
    | true => exact ite2 (fun _ => h1 H' s) (fun z => absurd rfl z)
    | false => exact ite2 (fun z => absurd z (by decide)) (fun _ => h2 H' s)
/-- t and u, of any kind -/
theorem t_andM {t u : TT} {σ : St} {H : Hp} {Q : Bool → Hp → Prop} (S : Bool → Hp → Prop) (h : ∀ Q' : Bool → Hp → Prop, (∀ b H', S b H' → Q' b H') → t σ H Q') (h1 : ∀ H', S true H' → u σ H' Q) (h2 : ∀ H', S false H' → Q false H') : tAnd t u σ H Q :=
  h _ fun b H' s => by
    cases b with
    | true => exact ite2 (fun _ => h1 H' s) (fun z => absurd rfl z)
    | false => exact ite2 (fun z => absurd z (by decide)) (fun _ => h2 H' s)
theorem pen_ne {p c x : Addr} {n : Nat} {H : Hp} {o : HO} (h : Pen p c n H) (hx : H x = some o) (k : ∀ kvs, o ≠ .dK kvs) : x ≠ p := fun z => by
  obtain ⟨_, _, _, hp, _⟩ := h
  rw [z, hp] at hx
  exact k _ (Option.some.inj hx).symm
theorem pen_neL {p c x : Addr} {n : Nat} {H : Hp} {xs : List V} (h : Pen p c n H) (hx : H x = some (.lst xs)) : x ≠ p := pen_ne h hx fun _ z => nomatch z
theorem pen_neU {p c x : Addr} {n : Nat} {H : Hp} {xs : List V} (h : Pen p c n H) (hx : H x = some (.tup xs)) : x ≠ p := pen_ne h hx fun _ z => nomatch z
/-! groups of names -/
def GAt (H : Hp) (as : List Addr) (gs : List (List Str)) : Prop := Paired (fun a (g : List Str) => H a = some (.lst (g.map V.str))) as gs
theorem GAt.len {H : Hp} {as : List Addr} {gs : List (List Str)} (h : GAt H as gs) : as.length = gs.length := Paired.length h
/-- all lists but the one at fo are kept -/
theorem GAt.keep {H H' : Hp} {fo : Addr} (k : ∀ b xs, b ≠ fo → H b = some (.lst xs) → H' b = some (.lst xs)) : ∀ {as : List Addr} {gs : List (List Str)}, GAt H as gs → (∀ x ∈ as, x ≠ fo) → GAt H' as gs
  | _, _, .nil, _ => .nil
  | a :: _, _ :: _, .cons h t, n => .cons (k _ _ (n a List.mem_cons_self) h) (GAt.keep k t fun x hx => n x (List.mem_cons_of_mem _ hx))
theorem g_pairs {H : Hp} : ∀ {as : List Addr} {gs : List (List Str)}, GAt H as gs → ∃ ps : List (Addr × List Str), ps.map (·.1) = as ∧ ps.map (·.2) = gs ∧ ∀ q ∈ ps, H q.1 = some (.lst (q.2.map V.str))
  | _, _, .nil => ⟨[], rfl, rfl, fun q hq => absurd hq (by simp)⟩
  | a :: _, g :: _, .cons h t => by
    obtain ⟨ps, h1, h2, h3⟩ := g_pairs t
    refine ⟨(a, g) :: ps, by rw [List.map_cons, h1], by rw [List.map_cons, h2], fun q hq => ?_⟩
    rcases List.mem_cons.mp hq with z | z
    · rw [z]
      exact h
    · exact h3 q z
theorem pairs_g {H : Hp} : ∀ {ps : List (Addr × List Str)}, (∀ q ∈ ps, H q.1 = some (.lst (q.2.map V.str))) → GAt H (ps.map (·.1)) (ps.map (·.2))
  | [], _ => .nil
  | q :: ps, h => .cons (h q List.mem_cons_self) (pairs_g fun r hr => h r (List.mem_cons_of_mem _ hr))
theorem perm_groups {H : Hp} {as : List Addr} {gs : List (List Str)} {ys : List V} (h : GAt H as gs) (p : ys.Perm (as.map V.ref)) : ∃ bs hs, ys = bs.map V.ref ∧ GAt H bs hs ∧ hs.Perm gs ∧ bs.Perm as := by
  obtain ⟨ps, h1, h2, h3⟩ := g_pairs h
  have e : as.map V.ref = ps.map fun q => V.ref q.1 := by
    rw [← h1, List.map_map]
    rfl
  rw [e] at p
  obtain ⟨zs, pz, rfl⟩ := perm_map_inv p
  refine ⟨zs.map (·.1), zs.map (·.2), by rw [List.map_map]; rfl, pairs_g fun q hq => h3 q (pz.mem_iff.mp hq), by rw [← h2]; exact pz.map _, by rw [← h1]; exact pz.map _⟩
abbrev Rw := List Str × Int
/-- sets of nodes with their amounts -/
def RowsAt (H : Hp) (ts : List Addr) (rows : List Rw) : Prop := Paired (fun t (r : Rw) => ∃ q, H t = some (.tup [.ref q, .int r.2]) ∧ H q = some (.lst (r.1.map V.str))) ts rows
def RowsF (fo : Addr) (H : Hp) (ts : List Addr) (rows : List Rw) : Prop := Paired (fun t (r : Rw) => ∃ q, H t = some (.tup [.ref q, .int r.2]) ∧ H q = some (.lst (r.1.map V.str)) ∧ q ≠ fo) ts rows
theorem RowsF.keep {fo : Addr} {H H' : Hp} {ts : List Addr} {rows : List Rw} (k : ∀ b xs, b ≠ fo → H b = some (.lst xs) → H' b = some (.lst xs)) (u : TK H H') (h : RowsF fo H ts rows) : RowsF fo H' ts rows :=
  paired_imp (fun t r ⟨q, h1, h2, h3⟩ => ⟨q, u _ _ h1, k _ _ h3 h2, h3⟩) h
theorem RowsF.at {fo : Addr} {H : Hp} {ts : List Addr} {rows : List Rw} (h : RowsF fo H ts rows) : RowsAt H ts rows := paired_imp (fun t r ⟨q, h1, h2, _⟩ => ⟨q, h1, h2⟩) h
theorem fl_single : ∀ ms : List Str, (ms.map fun z => [z]).flatten = ms
  | [] => rfl
  | z :: zs => by
    rw [List.map_cons, List.flatten_cons, fl_single zs]
    rfl
/-- what stands between the turns -/
structure Nst (p c fo g : Addr) (H : Hp) (n : Nat) (ns : List Str) (as : List Addr) (gs : List (List Str)) (ts : List Addr) (rows : List Rw) (H' : Hp) : Prop where
  b : But p H H'
  P : Pen p c n H'
  hg : H' g = some (.lst (as.map V.ref))
  ga : GAt H' as gs
  gf : g ≠ fo
  af : ∀ x ∈ as, x ≠ fo
  hf : H' fo = some (.lst (ts.map V.ref))
  ra : RowsF fo H' ts rows
  ff : H fo = none
  pm : gs.flatten.Perm ns
  ok : ∀ r ∈ rows, (∀ y ∈ r.1, y ∈ ns) ∧ 2 ≤ r.2 ∧ r.2 ≤ 2000
  l1 : gs.length ≤ 40
theorem Nst.but {p c fo g : Addr} {H H' H'' : Hp} {n m : Nat} {ns : List Str} {as : List Addr} {gs : List (List Str)} {ts : List Addr} {rows : List Rw} (h : Nst p c fo g H n ns as gs ts rows H') (b : But p H' H'') (P : Pen p c m H'') : Nst p c fo g H m ns as gs ts rows H'' := by
  have k : ∀ b xs, b ≠ fo → H' b = some (.lst xs) → H'' b = some (.lst xs) := fun x xs _ hx => b x _ (pen_neL h.P hx) hx
  exact ⟨h.b.trans b, P, b _ _ (pen_neL h.P h.hg) h.hg, GAt.keep k h.ga h.af, h.gf, h.af, b _ _ (pen_neL h.P h.hf) h.hf, h.ra.keep k (TK.but h.P b), h.ff, h.pm, h.ok, h.l1⟩
theorem Nst.ex {p c fo g : Addr} {H H' H'' : Hp} {n : Nat} {ns : List Str} {as : List Addr} {gs : List (List Str)} {ts : List Addr} {rows : List Rw} (h : Nst p c fo g H n ns as gs ts rows H') (e : Evl.Ex H' H'') : Nst p c fo g H n ns as gs ts rows H'' := h.but (But.of e) (h.P.ex e)
/-- other groups -/
theorem Nst.grp {p c fo g g' : Addr} {H H' : Hp} {n : Nat} {ns : List Str} {as bs : List Addr} {gs hs : List (List Str)} {ts : List Addr} {rows : List Rw} (h : Nst p c fo g H n ns as gs ts rows H') (hg : H' g' = some (.lst (bs.map V.ref))) (ga : GAt H' bs hs) (gf : g' ≠ fo) (af : ∀ x ∈ bs, x ≠ fo) (pm : hs.flatten.Perm ns) (l1 : hs.length ≤ 40) : Nst p c fo g' H n ns bs hs ts rows H' :=
  ⟨h.b, h.P, hg, ga, gf, af, h.hf, h.ra, h.ff, pm, h.ok, l1⟩
/-- one more row -/
theorem Nst.row {p c fo g t q : Addr} {H H' : Hp} {n : Nat} {ns : List Str} {as : List Addr} {gs : List (List Str)} {ts : List Addr} {rows : List Rw} {r : Rw} (h : Nst p c fo g H n ns as gs ts rows H') (hc : fo ≠ c) (ht : H' t = some (.tup [.ref q, .int r.2])) (hq : H' q = some (.lst (r.1.map V.str))) (qf : q ≠ fo)
    (k : (∀ y ∈ r.1, y ∈ ns) ∧ 2 ≤ r.2 ∧ r.2 ≤ 2000) : Nst p c fo g H n ns as gs (ts ++ [t]) (rows ++ [r]) (upd H' fo (.lst (ts.map V.ref ++ [.ref t]))) := by
  have u : TK H' (upd H' fo (.lst (ts.map V.ref ++ [.ref t]))) := TK.put (.inr ⟨_, h.hf⟩)
  have kl : ∀ b xs, b ≠ fo → H' b = some (.lst xs) → (upd H' fo (.lst (ts.map V.ref ++ [.ref t]))) b = some (.lst xs) := fun b xs n hb => by
    rw [upd_ne n]
    exact hb
  refine ⟨h.b.mut h.ff, h.P.mut ⟨pen_neL h.P h.hf, hc⟩, kl _ _ h.gf h.hg, GAt.keep kl h.ga h.af, h.gf, h.af, by rw [upd_same, List.map_append]; rfl, paired_snoc (h.ra.keep kl u) ⟨q, u _ _ ht, kl _ _ qf hq, qf⟩, h.ff, h.pm, fun r' hr => ?_, h.l1⟩
  rcases List.mem_append.mp hr with hr | hr
  · exact h.ok r' hr
  · rw [List.mem_singleton.mp hr]
    exact k
/-- for i in range(n), n drawn -/
theorem q_forRVia {ta : TA} {j : Nat} {tu tz : TS} {D : Ends} {σ : St} {H : Hp} (S : Int → Hp → Prop) (h1 : ∀ Q' : List V → Hp → Prop, (∀ n H', S n H' → Q' [.int n] H') → ta σ H Q') (hn : ∀ n H', S n H' → 0 ≤ n ∧ n ≤ 100000) (Pv : Int → Nat → St → Hp → Prop) (h0 : ∀ n H', S n H' → Pv n 0 σ H')
    (hs : ∀ (n : Int) (i : Nat) σ' H', (i : Int) < n → Pv n i σ' H' → tu { D with nx := Pv n (i + 1), ct := Pv n (i + 1), bk := tz D } (σ'.set j (some (.int (i : Int)))) H') (hd : ∀ n σ' H', Pv n n.toNat σ' H' → tz D σ' H') : tSeq (tFor (iRng1 ta) (gName j) tu) tz D σ H :=
  h1 _ fun n H1 s => by
    obtain ⟨n0, n1⟩ := hn n H1 s
    exact ⟨n, rfl, by omega, by omega, for_range (D := { D with nx := tz D }) (lo := 0) (n := n.toNat) (Pv n) (h0 n H1 s) (fun i σ' H' hi p => by
      have e0 : (0 : Int) + (i : Int) = (i : Int) := Int.zero_add _
      show tu { D with nx := Pv n (i + 1), ct := Pv n (i + 1), bk := tz D } (σ'.set j (some (.int ((0 : Int) + (i : Int))))) H'
      rw [e0]
      exact hs n i σ' H' (by omega) p) (hd n)⟩
theorem cut_fromL (xs : List V) (k : Nat) : cutV xs (some (k : Int)) none = xs.drop k := by
  unfold cutV
  rw [HT.sIx_none, HT.sIx_nat]
  rcases Nat.le_total k xs.length with h | h
  · rw [Nat.min_eq_left h]
    exact List.take_of_length_le (by rw [List.length_drop]; omega)
  · rw [Nat.min_eq_right h, Nat.sub_self, List.take_zero, List.drop_of_length_le h]
theorem cut_uptoL (xs : List V) (k : Nat) : cutV xs none (some (k : Int)) = xs.take k := by
  unfold cutV
  rw [HT.sIx_none, HT.sIx_nat, List.drop_zero, Nat.sub_zero]
  rcases Nat.le_total k xs.length with h | h
  · rw [Nat.min_eq_left h]
  · rw [Nat.min_eq_right h, List.take_length, List.take_of_length_le h]
theorem GAt.two {H : Hp} : ∀ {as : List Addr} {gs : List (List Str)}, GAt H as gs → 2 < gs.length → ∃ a0 a1 ar g0 g1 gr, as = a0 :: a1 :: ar ∧ gs = g0 :: g1 :: gr ∧ H a0 = some (.lst (g0.map V.str)) ∧ H a1 = some (.lst (g1.map V.str))
  | _, _, .nil, l => absurd l (by simp)
  | _, _, .cons _ .nil, l => absurd l (by simp)
  | a0 :: a1 :: ar, g0 :: g1 :: gr, .cons h0 (.cons h1 _), _ => ⟨a0, a1, ar, g0, g1, gr, rfl, rfl, h0, h1⟩
theorem GAt.one {H : Hp} : ∀ {as : List Addr} {gs : List (List Str)}, GAt H as gs → 1 < gs.length → ∃ a0 ar g0 gr, as = a0 :: ar ∧ gs = g0 :: gr ∧ H a0 = some (.lst (g0.map V.str))
  | _, _, .nil, l => absurd l (by simp)
  | a0 :: ar, g0 :: gr, .cons h0 _, _ => ⟨a0, ar, g0, gr, rfl, rfl, h0⟩
theorem GAt.tail2 {H : Hp} {a0 a1 : Addr} {ar : List Addr} {g0 g1 : List Str} {gr : List (List Str)} (h : GAt H (a0 :: a1 :: ar) (g0 :: g1 :: gr)) : GAt H ar gr := match h with
  | .cons _ (.cons _ t) => t
theorem paired_get {α β : Type} {R : α → β → Prop} : ∀ {as : List α} {bs : List β}, Paired R as bs → ∀ {i : Nat} {a : α}, as[i]? = some a → ∃ b, bs[i]? = some b ∧ R a b
  | _, _, .nil, i, a, h => by simp at h
  | x :: _, y :: _, .cons h t, 0, a, e => ⟨y, rfl, by
    have : x = a := Option.some.inj e
    rw [← this]
    exact h⟩
  | _ :: _, _ :: _, .cons _ t, i + 1, a, e => paired_get t (i := i) e
theorem dp_lists {K : PySem.W.Frag} {H : Hp} : ∀ {as : List Addr} {gs : List (List Str)}, GAt H as gs → DpAll K H (as.map V.ref) (gs.map fun g => PyData.list (g.map PyData.str))
  | _, _, .nil => .nil
  | _, _, .cons h t => .cons (.lst (Evl.sq_of h) (dp_strs _)) (dp_lists t)
theorem q_tup3Via {K : PySem.W.Frag} {i j l m : Nat} {ta : TA} {tz : TS} {D : Ends} {σ : St} {H : Hp} (S : V → V → V → Hp → Prop) (h1 : ∀ Q' : List V → Hp → Prop, (∀ u v w H', S u v w H' → Q' [u, v, w] H') → ta σ H Q') (hm : m = 3 := by rfl)
    (h2 : ∀ u v w H' t, S u v w H' → H' t = none → tz D (((σ.set i (some u)).set j (some v)).set l (some w)) (upd H' t (.tup [u, v, w]))) : tSeq (tAsg (tTup ta) (gTup K m (gCons (gName i) (gCons (gName j) (gCons (gName l) gNil))))) tz D σ H :=
  h1 _ fun u v w H' s => ⟨by simp [sizeLine_eq], fun t nt => ⟨t, _, rfl, .inl (.inl upd_same), hm.symm, _, _, rfl, _, _, rfl, _, _, rfl, rfl, h2 u v w H' t s nt⟩⟩
end Lw

set_option maxHeartbeats 1000000
/-! for large networks that are made around sets of nodes -/
namespace Lw
open PySem PySem.Spec PyProof.Rows L2
theorem v_andM {ta tb : TE} {σ : St} {H : Hp} {Q : VK} {b : Bool} (h : Evl.Ev ta σ H (.bl b)) (h1 : ∀ H', Evl.Ex H H' → tb σ H' Q) (h2 : ∀ H', Evl.Ex H H' → Q (.bl false) H') : tAndV ta tb σ H Q := h H (Evl.Ex.refl _) _ fun H1 e => ⟨b, rfl, by
  cases b with
  | true => exact h1 H1 e
  | false => exact h2 H1 e⟩
theorem dp_ints {K : PySem.W.Frag} {H : Hp} : ∀ l : List Int, DpAll K H (l.map V.int) (l.map PyData.int)
  | [] => .nil
  | n :: l => .cons (.int n) (dp_ints l)
theorem lay_ints : ∀ l : List Int, PyData.canLayAll0 (l.map PyData.int) = true ∧ PyData.depthAll (l.map PyData.int) ≤ 1
  | [] => by simp [PyData.canLayAll0, PyData.depthAll]
  | n :: l => by
    obtain ⟨h1, h2⟩ := lay_ints l
    simp [PyData.canLayAll0, PyData.canLay0, PyData.depthAll, PyData.depth, h1, h2]
theorem sh_ints (l : List Int) : SeqAt.shaped (.list (l.map PyData.int)) = true := by
  obtain ⟨h1, h2⟩ := lay_ints l
  exact (sh_of (by simpa [PyData.canLay0] using h1) (by simp only [PyData.depth]; omega)).1
theorem given_ints (n : Nat) (f : Nat → Bool) (m : Nat → Int) : Evl.given n f (fun i => .int (m i)) = (((List.range n).filter f).map m).map V.int := by
  unfold Evl.given
  rw [List.map_map]
  rfl
theorem flat_ints (l : List Int) : (l.map V.int).all flatV = true := by
  rw [List.all_eq_true]
  intro x hx
  obtain ⟨z, _, rfl⟩ := List.mem_map.mp hx
  rfl
theorem sum_bound : ∀ {l : List Int}, (∀ x ∈ l, 0 ≤ x ∧ x ≤ 2000) → 0 ≤ l.sum ∧ l.sum ≤ 2000 * l.length
  | [], _ => by simp
  | x :: l, h => by
    obtain ⟨h1, h2⟩ := sum_bound (l := l) fun y hy => h y (List.mem_cons_of_mem _ hy)
    obtain ⟨h3, h4⟩ := h x List.mem_cons_self
    rw [List.sum_cons, List.length_cons]
    omega
theorem rows_getD {rows : List Rw} {k : Nat} (hk : k < rows.length) : rows.getD k ([], 0) = rows[k] := by
  rw [List.getD_eq_getElem?_getD, List.getElem?_eq_getElem hk]
  rfl
theorem rows_get {H : Hp} {ts : List Addr} {rows : List Rw} (h : RowsAt H ts rows) {i : Nat} (hi : i < rows.length) : ∃ t q, ts[i]? = some t ∧ H t = some (.tup [.ref q, .int rows[i].2]) ∧ H q = some (.lst (rows[i].1.map V.str)) := by
  have lt : i < ts.length := by
    rw [Paired.length h]
    exact hi
  obtain ⟨r, h1, q, h2, h3⟩ := paired_get h (List.getElem?_eq_getElem lt)
  have e : rows[i] = r := by
    rw [List.getElem?_eq_getElem hi] at h1
    exact Option.some.inj h1
  exact ⟨_, q, List.getElem?_eq_getElem lt, by rw [e]; exact h2, by rw [e]; exact h3⟩
theorem at_ref {as : List Addr} {i : Int} {a : Addr} (h0 : 0 ≤ i) (h : as[i.toNat]? = some a) : atI (as.map V.ref) i = some (.ref a) := atI_some h0 (by rw [List.getElem?_map, h]; rfl)
theorem RowsAt.but {p c : Addr} {n : Nat} {H H' : Hp} {ts : List Addr} {rows : List Rw} (hP : Pen p c n H) (b : But p H H') (h : RowsAt H ts rows) : RowsAt H' ts rows := paired_imp (fun t r ⟨q, h1, h2⟩ => ⟨q, b _ _ (pen_neU hP h1) h1, b _ _ (pen_neL hP h2) h2⟩) h
theorem RowsAt.ex {H H' : Hp} {ts : List Addr} {rows : List Rw} (e : Evl.Ex H H') (h : RowsAt H ts rows) : RowsAt H' ts rows := paired_imp (fun t r ⟨q, h1, h2⟩ => ⟨q, e _ _ h1, e _ _ h2⟩) h
/-- what stands between the edges -/
structure Plt (p c eo nb : Addr) (H3 : Hp) (n : Nat) (ns : List Str) (as : List Addr) (es : List Eg) (en : List Str) (H' : Hp) : Prop where
  b : But p H3 H'
  P : Pen p c n H'
  he : H' eo = some (.lst (as.map V.ref))
  hes : EgsAt H' as es
  hn : H' nb = some (.lst (en.map V.str))
  fe : H3 eo = none
  fb : H3 nb = none
  d : eo ≠ nb
  ec : eo ≠ c
  bc : nb ≠ c
  em : ∀ e ∈ es, IsNm e.1 ∧ e.2.1 ∈ ns ∧ e.2.2.1 ∈ ns ∧ e.2.1 ≠ e.2.2.1 ∧ -1000000 ≤ e.2.2.2 ∧ e.2.2.2 ≤ 1000000
  nd : (es.map (·.1) ++ en).Nodup
  nn : ∀ y ∈ en, IsNm y
  fw : Few es
theorem Plt.but {p c eo nb : Addr} {H3 H' H'' : Hp} {n m : Nat} {ns : List Str} {as : List Addr} {es : List Eg} {en : List Str} (h : Plt p c eo nb H3 n ns as es en H') (b : But p H' H'') (P : Pen p c m H'') : Plt p c eo nb H3 m ns as es en H'' :=
  ⟨h.b.trans b, P, b _ _ (pen_neL h.P h.he) h.he, h.hes.tk (TK.but h.P b), b _ _ (pen_neL h.P h.hn) h.hn, h.fe, h.fb, h.d, h.ec, h.bc, h.em, h.nd, h.nn, h.fw⟩
theorem Plt.ex {p c eo nb : Addr} {H3 H' H'' : Hp} {n : Nat} {ns : List Str} {as : List Addr} {es : List Eg} {en : List Str} (h : Plt p c eo nb H3 n ns as es en H') (e : Evl.Ex H' H'') : Plt p c eo nb H3 n ns as es en H'' := h.but (But.of e) (h.P.ex e)
/-- a name is taken -/
theorem Plt.pop {p c eo nb : Addr} {H3 H' : Hp} {n : Nat} {ns : List Str} {as : List Addr} {es : List Eg} {en : List Str} {y : Str} (h : Plt p c eo nb H3 n ns as es (en ++ [y]) H') : Plt p c eo nb H3 n ns as es en (upd H' nb (.lst (en.map V.str))) ∧ IsNm y ∧ ((es.map (·.1) ++ [y]) ++ en).Nodup := by
  have nd2 : ((es.map (·.1) ++ [y]) ++ en).Nodup := by
    refine (List.Perm.nodup_iff ?_).mpr h.nd
    rw [List.append_assoc]
    exact List.Perm.append_left _ List.perm_append_comm
  refine ⟨⟨h.b.mut h.fb, h.P.mut ⟨pen_neL h.P h.hn, h.bc⟩, by rw [upd_ne h.d]; exact h.he, h.hes.tk (TK.put (.inr ⟨_, h.hn⟩)), upd_same, h.fe, h.fb, h.d, h.ec, h.bc, h.em, ?_, fun z hz => h.nn z (List.mem_append_left _ hz), h.fw⟩, h.nn y (by simp), nd2⟩
  have := h.nd
  rw [← List.append_assoc] at this
  exact (List.nodup_append.mp this).1
/-- one more edge -/
theorem Plt.app {p c eo nb t : Addr} {H3 H' : Hp} {n : Nat} {ns : List Str} {as : List Addr} {es : List Eg} {en : List Str} {e : Eg} (h : Plt p c eo nb H3 n ns as es en H') (ht : H' t = some (.tup (egV e))) (k : IsNm e.1 ∧ e.2.1 ∈ ns ∧ e.2.2.1 ∈ ns ∧ e.2.1 ≠ e.2.2.1 ∧ -1000000 ≤ e.2.2.2 ∧ e.2.2.2 ≤ 1000000)
    (nd : ((es.map (·.1) ++ [e.1]) ++ en).Nodup) (fw : Few (es ++ [e])) : Plt p c eo nb H3 n ns (as ++ [t]) (es ++ [e]) en (upd H' eo (.lst (as.map V.ref ++ [.ref t]))) := by
  have u : TK H' (upd H' eo (.lst (as.map V.ref ++ [.ref t]))) := TK.put (.inr ⟨_, h.he⟩)
  refine ⟨h.b.mut h.fe, h.P.mut ⟨pen_neL h.P h.he, h.ec⟩, by rw [upd_same, List.map_append]; rfl, paired_snoc (h.hes.tk u) (u _ _ ht), by rw [upd_ne h.d.symm]; exact h.hn, h.fe, h.fb, h.d, h.ec, h.bc, fun f hf => ?_, by rw [List.map_append]; exact nd, h.nn, fw⟩
  rcases List.mem_append.mp hf with hf | hf
  · exact h.em f hf
  · rw [List.mem_singleton.mp hf]
    exact k
theorem Few.nil : Few [] := fun ys _ k => by
  cases ys with
  | nil => exact Nat.zero_le _
  | cons y _ =>
    have := k y List.mem_cons_self
    exact absurd this (by unfold isOdd negs; simp [cnt])
theorem Few.nonneg {es : List Eg} {e : Eg} (h : Few es) (k : 0 ≤ e.2.2.2) : Few (es ++ [e]) := fun ys nd q => h ys nd fun y hy => by
  have := q y hy
  have en : negs (es ++ [e]) = negs es := by
    unfold negs
    rw [List.filter_append, List.filter_cons, if_neg (by simp; omega)]
    exact List.append_nil _
  rwa [en] at this
end Lw

set_option maxHeartbeats 1000000
/-! a local name that holds a class, called -/
namespace Lw
open PySem PySem.Spec PyProof.Rows L2
def tMakeV (i : Nat) (C : Addr) (sp : Sp) (dvs : List V) (E : XK) (t : TA) : TE := fun σ H Q => σ[i]? = some (some (.ref C)) ∧ tMake C sp dvs E t σ H Q
theorem pe_makeV {X : Cx} {CX : CXT} {k i : Nat} {f C : Addr} {fd : FuncData} {ps : List Str} {sp : Sp} {dvs : List V} {ds : List Value} {E : XK} {x : Str} {p pos : Pos} {e : Expr} {es : List Expr} {t : TA} (M : Mk X.K C f) (F : FnOk X.prog X.w X.K X.mg X.base CX k f fd ps sp) (hr : Room (k + 1) X.A) (hN : X.N[i]? = some x) (hv : Vis X.env.scope x)
    (hb : Binds X.K fd ps ds) (hd : Vals dvs ds) (hx : Passes CX X E) (ha : PA X (e :: es) t) (hdb : (x == ("__debug__" : Str)) = false := by decide) (hcd : (x == ("__classdict__" : Str)) = false := by decide)
    (he : starEach (e :: es) X.env = (false, eval e X.env) :: starEach es X.env := by rfl) (hpl : (backTo pos (starEach es X.env)).any (·.1) = false := by rfl) : PE X (.Call (.Name x p) (e :: es) [] pos) (tMakeV i C sp dvs E t) := by
  refine ⟨fun pins s σ H Q I h => ?_⟩
  obtain ⟨hs, ht⟩ := h
  refine wpAny_Call_Name_kw (thn ((pe_var (pos := p) hN hv hdb hcd).run pins s σ H (fun v H1 => v = .ref C ∧ H1 = H) I ⟨.ref C, hs, rfl, rfl⟩) fun u s1 ⟨v, H1, I1, r1, q1⟩ => ?_)
  obtain ⟨rfl, rfl⟩ := q1
  cases r1
  refine PySem.W.callWith_K (h₀ := X.base) I.ok.mod.kin M.kp (thn (ha.run pos pins s1 σ _ _ I1 ht) fun us s2 ⟨vs, H2, I2, r, q⟩ => ⟨I2.kIn, ?_⟩) he hpl
  exact run_make M F hr hb hd hx I2 r q
end Lw

set_option maxHeartbeats 1000000
/-! what the top has written, told for the end of a law -/
namespace Lw
open PySem PySem.Spec PyProof.Rows L2
/-- a def of the program, where it stands -/
def FnIs (K : PySem.W.Frag) (x qual : Str) (st : Stmt) (f : Addr) : Prop := ∃ (oc : Value) (od : Option Addr) (kV doc pm : Value) (an : Option Addr) (cdv ct : Value) (osl : Array (Option Value)),
  K.lookup f = some ⟨oc, od, .func (PySem.W.fnOf x qual (defArgs st) (defBody st) (defScope st) .none kV doc pm an cdv ct), osl⟩ ∧ PySem.W.codeIn K cdv qual = true ∧ PySem.W.keepIn K (.ref f) = true
theorem fnIs {K : PySem.W.Frag} {x qual : Str} {st : Stmt} {f : Addr} {oc : Value} {od : Option Addr} {kV doc pm : Value} {an : Option Addr} {cdv ct : Value} {osl : Array (Option Value)}
    (l : K.lookup f = some ⟨oc, od, .func (PySem.W.fnOf x qual (defArgs st) (defBody st) (defScope st) .none kV doc pm an cdv ct), osl⟩) (c : PySem.W.codeIn K cdv qual = true) (k : PySem.W.keepIn K (.ref f) = true) : FnIs K x qual st f :=
  ⟨oc, od, kV, doc, pm, an, cdv, ct, osl, l, c, k⟩
theorem FnIs.fn {K : PySem.W.Frag} {x qual : Str} {st : Stmt} {f : Addr} (h : FnIs K x qual st f) : ∃ fd, Fun K x qual st f fd := by
  obtain ⟨oc, od, kV, doc, pm, an, cdv, ct, osl, l, c, k⟩ := h
  exact ⟨_, fun_mk l c k⟩
/-- a def with one default, an object of the top -/
def FnIs1 (K : PySem.W.Frag) (x qual : Str) (st : Stmt) (f : Addr) : Prop := ∃ (oc : Value) (od : Option Addr) (kV doc pm : Value) (an : Option Addr) (cdv ct : Value) (osl : Array (Option Value)) (E T : Addr) (o : Obj) (n : Nat),
  K.lookup f = some ⟨oc, od, .func (PySem.W.fnOf x qual (defArgs st) (defBody st) (defScope st) (.ref T) kV doc pm an cdv ct), osl⟩ ∧ K.lookup T = some o ∧ o.data = .seq #[.ref E] n ∧ PySem.W.codeIn K cdv qual = true ∧ PySem.W.keepIn K (.ref f) = true
theorem fnIs1 {K : PySem.W.Frag} {x qual : Str} {st : Stmt} {f : Addr} {oc : Value} {od : Option Addr} {kV doc pm : Value} {an : Option Addr} {cdv ct : Value} {osl : Array (Option Value)} {E T : Addr} {oT : Value} {dT : Option Addr} {n : Nat} {sl : Array (Option Value)}
    (l : K.lookup f = some ⟨oc, od, .func (PySem.W.fnOf x qual (defArgs st) (defBody st) (defScope st) (.ref T) kV doc pm an cdv ct), osl⟩) (lT : K.lookup T = some ⟨oT, dT, .seq #[.ref E] n, sl⟩) (c : PySem.W.codeIn K cdv qual = true) (k : PySem.W.keepIn K (.ref f) = true) : FnIs1 K x qual st f :=
  ⟨oc, od, kV, doc, pm, an, cdv, ct, osl, E, T, _, n, l, lT, rfl, c, k⟩
theorem FnIs1.fn {K : PySem.W.Frag} {x qual : Str} {st : Stmt} {f : Addr} (h : FnIs1 K x qual st f) : ∃ fd E, FunD K x qual (defArgs st) (defBody st) (defScope st) [V.ref E] [] f fd := by
  obtain ⟨oc, od, kV, doc, pm, an, cdv, ct, osl, E, T, o, n, l, lT, oT, c, k⟩ := h
  exact ⟨_, E, ⟨⟨oc, od, .ref T, kV, doc, pm, an, cdv, ct, osl, rfl, l, c, .inr ⟨by simp, T, o, [.ref E], n, rfl, lT, oT, .cons rfl .nil⟩, .inl rfl⟩, k⟩⟩
section
variable {P : Program} {w : World} {K : PySem.W.Frag} {mg : Str → Option Value} {base h : Heap} {x : Str} {ps : List Str} {k j : Nat} {sp : Sp} {f : Addr} {fd : FuncData}
theorem Cf.up (C : Cf P w K mg base x ps j sp f fd) (q : j ≤ k) : Cf P w K mg base x ps k sp f fd := ⟨C.F.mono q, C.b, C.g, C.kp⟩
theorem cf_mk {st : Stmt} (X : K.In h) (G : h.Ns mainGlobals mg) (n : PySem.W.nsIn K mainGlobals x = some (some (.ref f))) (F : Fun K x x st f fd) (b : Binds K fd ps []) (q : FnOk P w K mg base CX0 k f fd ps sp) : Cf P w K mg base x ps k sp f fd :=
  ⟨q, b, PySem.W.mg_of X G n, F.kp⟩
end
end Lw

set_option maxHeartbeats 1000000
/-! operators that a class of the program defines itself -/
namespace Lw
open PySem PySem.Spec PyProof.Rows L2
section
variable {X : Cx} {CX : CXT} {k : Nat} {f C : Addr} {fd : FuncData} {ps : List Str} {sp : Sp} {E : XK}
/-- the callee runs one level deeper (below a built-in) -/
theorem run_in1 {pins : List (Addr × Obj)} {σ : St} {H : Hp} {s : Shared} {Q : VK} {us : List Value} {vs : List V} (F : FnOk X.prog X.w X.K X.mg X.base CX k f fd ps sp) (hr : Room (k + 1) X.A) (hb : Binds X.K fd ps []) (hx : Passes CX X E)
    (I : Inv X pins σ H s) (r : Vals vs us) (h : sp vs H Q E) : wpAny (model X.prog X.w) X.A.in1 (call (.ref f) us) (EP X pins σ Q) X.xe s := by
  have hl : (us ++ []).length = ps.length := by rw [List.append_nil, ← r.length]; exact F.len _ _ _ _ h
  have hb' := hb s us I.kIn hl
  rw [List.append_nil] at hb'
  refine wpAny_call (codeAny_mono (F.run X.A.in1 X.stack s H ⟨us, []⟩ us vs Q E hr.in1 I.env0.in1 hb' r h) fun r s' hq => ?_)
  cases r with
  | error e => exact hx pins σ H s e s' I hq
  | ok fl =>
    cases fl with
    | ret u => exact I.after hq
    | next => exact False.elim hq
    | brk => exact False.elim hq
    | cont => exact False.elim hq
/-- a own== b, both of the class at C -/
def rOwn (C : Addr) (sp : Sp) (E : XK) : R2 := fun x y H Q => ∃ a b dx dy fs gs, x = .ref a ∧ y = .ref b ∧ H a = some (.ins C dx fs) ∧ H b = some (.ins C dy gs) ∧ sp [.ref a, .ref b] H (fun v H' => ∃ c, v = .bl c ∧ Q (.bl c) H') E
def rOwnNe (C : Addr) (sp : Sp) (E : XK) : R2 := fun x y H Q => ∃ a b dx dy fs gs, x = .ref a ∧ y = .ref b ∧ H a = some (.ins C dx fs) ∧ H b = some (.ins C dy gs) ∧ sp [.ref a, .ref b] H (fun v H' => ∃ c, v = .bl c ∧ Q (.bl (!c)) H') E
theorem op_ownEq (F : FnOk X.prog X.w X.K X.mg X.base CX k f fd ps sp) (hr : Room k X.A) (hs : PySem.W.findIn X.K (.ref C) "__eq__" = some (some (.ref f))) (hf : PySem.W.isFn X.K (.ref f) = true) (hb : Binds X.K fd ps []) (hx : Passes CX X E) : OpR X (compareOp .Eq) (rOwn C sp E) := by
  intro pins s σ H x y v u Q I rx ry h
  obtain ⟨a, b, dx, dy, fs, gs, rfl, rfl, ha, hb', hsp⟩ := h
  cases rx
  cases ry
  obtain ⟨mA, J, _⟩ := ins_get I.hok ha
  obtain ⟨mB, J', _⟩ := ins_get I.hok hb'
  obtain ⟨od, J, _⟩ := J.look
  obtain ⟨od', J', _⟩ := J'.look
  obtain ⟨m, hF⟩ := I.fr
  show wpAny (model X.prog X.w) X.A (richCompare .Eq (.ref a) (.ref b)) (EP X pins σ Q) X.xe s
  refine PySem.W.cmp_K (op := .Eq) (tb := .ref C) hr.units0 hF I.ok.mod.kin J J'.type (by simp [PySem.W.notFirst]) hs hf ?_
  refine wpAny_mono (run_fn (vs := [.ref a, .ref b]) (us := [.ref a, .ref b]) F hr hb .nil hx I (.cons rfl (.cons rfl .nil)) hsp) (fun r s' q => ?_) fun _ _ e => e
  obtain ⟨v, H', I', rv, c, rfl, q⟩ := q
  cases rv
  exact ⟨.bl c, H', I', rfl, q⟩
theorem ifBound_objNe {M : Model} {A : Around} {E : Value → Shared → Prop} {s : Shared} {K : PySem.W.Frag} {x C : Addr} {ox : Obj} {od : Option Obj} {args : List Value} {Q : Option Value → Shared → Prop} (XI : K.In s.heap) (I : PySem.W.InstAt s.heap x ox C od) (hs : PySem.W.findIn K (.ref C) "__ne__" = some (some (.builtin "object.__ne__")))
    (h : wpAny M A (call (.builtin "object.__ne__") (.ref x :: args)) (fun v => Q (some v)) E s) : wpAny M A (callSpecialIfBound? (.ref x) "__ne__" args) Q E s := by
  simp only [callSpecialIfBound?, bindSpecialIfBound?]
  refine wpAny_holding (wpAny_bind (wpAny_bind (wpAny_bind (I.type.here ((PySem.W.looks_findIn XI hs).here ?_)))))
  refine wpAny_bind (wpAny_askSetting (wpAny_ite ?_))
  have fin : wpAny M A (call (.builtin "object.__ne__") ([.ref x] ++ args) >>= fun v => pure (some v)) Q E s := wpAny_bind (wpAny_mono h (fun v s' h' => wpAny_pure h') fun _ _ h' => h')
  split
  · exact wpAny_bind (wpAny_of_eq (F.cmp_object.ne.bind _) (wpAny_pure (by exact fin)))
  · exact wpAny_tryCatch (wpAny_bind (wpAny_of_eq (F.cmp_object.ne.bind _) (wpAny_pure (by exact fin))))
theorem op_ownNe (F : FnOk X.prog X.w X.K X.mg X.base CX k f fd ps sp) (hr : Room (k + 1) X.A) (hs : PySem.W.findIn X.K (.ref C) "__eq__" = some (some (.ref f))) (hn : PySem.W.findIn X.K (.ref C) "__ne__" = some (some (.builtin "object.__ne__"))) (hm : PySem.W.mroIn X.K C (.type "object") = some true)
    (hf : PySem.W.isFn X.K (.ref f) = true) (hb : Binds X.K fd ps []) (hx : Passes CX X E) : OpR X (compareOp .NotEq) (rOwnNe C sp E) := by
  intro pins s σ H x y v u Q I rx ry h
  obtain ⟨a, b, dx, dy, fs, gs, rfl, rfl, ha, hb', hsp⟩ := h
  cases rx
  cases ry
  obtain ⟨mA, J, _⟩ := ins_get I.hok ha
  obtain ⟨mB, J', _⟩ := ins_get I.hok hb'
  obtain ⟨od, J, _⟩ := J.look
  obtain ⟨od', J', _⟩ := J'.look
  have hu := hr.units0
  have hu1 : X.A.in1.units < cLine := hr.in1.units0
  show wpAny (model X.prog X.w) X.A (richCompare .NotEq (.ref a) (.ref b)) (EP X pins σ Q) X.xe s
  have entry : wpAny (model X.prog X.w) X.A.in1 (Builtin.«object.__ne__» ⟨[.ref a, .ref b], []⟩) (fun fin s' => ∃ v, fin = .done (.ret v) ∧ EP X pins σ Q v s' ∧ ∃ c, v = .bool c) X.xe s := by
    unfold Builtin.«object.__ne__»
    refine wpAny_bind (m := slotArgs "__ne__" 1 _) (wpAny_pure ?_)
    refine wpAny_bind (wpAny_cRoomFor hu1 ?_)
    refine wpAny_bind (m := callSpecialIfBound? (.ref a) (Str.ofString "__eq__") [.ref b]) (PySem.W.ifBound_K I.kIn J hs hf ?_)
    refine wpAny_mono (run_in1 (vs := [.ref a, .ref b]) (us := [.ref a, .ref b]) F hr hb hx I (.cons rfl (.cons rfl .nil)) hsp) (fun r s' q => ?_) fun _ _ e => e
    obtain ⟨v, H', I', rv, c, rfl, q⟩ := q
    cases rv
    refine wpAny_bind (wpAny_truthy_bool ?_)
    exact wpAny_pure ⟨_, rfl, ⟨.bl (!c), H', I', rfl, q⟩, _, rfl⟩
  have one : wpAny (model X.prog X.w) X.A (tryCompare (.ref a) "__ne__" (.ref b)) (fun r s' => ∃ v, r = some v ∧ EP X pins σ Q v s') X.xe s := by
    unfold tryCompare
    refine wpAny_bind (ifBound_objNe I.kIn J hn (wpAny_call (codeAny_call_builtin PySem.F.cmp_object.ne.plain PySem.F.cmpEntry_ne (PySem.W.check_slot PySem.F.cmpKind_ne PySem.F.cmpSplit_ne (J.type.andThen (PySem.W.looks_mroIn I.kIn hm)) (PySem.F.cmpArgs_ne _ _) ?_))))
    refine wpAny_mono entry (fun fin s' q => ?_) fun _ _ e => e
    obtain ⟨v, rfl, q, c, rfl⟩ := q
    exact wpAny_pure ⟨_, rfl, q⟩
  unfold richCompare
  simp only [oneThing_ref]
  refine wpAny_holding (wpAny_bind (wpAny_cRoomFor hu ?_))
  rw [cmpInfo_NotEq]
  dsimp only
  refine wpAny_bind (J.type.here (wpAny_bind (J'.type.here ?_)))
  rw [show (Value.ref C != Value.ref C) = false from by simp]
  simp only [Bool.false_eq_true, if_false]
  refine wpAny_bind (wpAny_pure ?_)
  simp only [Bool.false_eq_true, if_false]
  refine wpAny_bind (wpAny_mono one (fun r s' z => ?_) fun _ _ e => e)
  obtain ⟨v, rfl, hq⟩ := z
  exact wpAny_pure hq
end
end Lw

set_option maxHeartbeats 1000000
/-! binary operators, in, [ ], len and truth that a class of the program defines itself -/
namespace Lw
open PySem PySem.Spec PyProof.Rows L2
section
variable {X : Cx} {CX : CXT} {k : Nat} {f C : Addr} {fd : FuncData} {ps : List Str} {sp : Sp} {E : XK}
/-- a op b, both of the class at C, a new object -/
def rOwnBin (C : Addr) (sp : Sp) (E : XK) : R2 := fun x y H Q => ∃ a b dx dy fs gs, x = .ref a ∧ y = .ref b ∧ H a = some (.ins C dx fs) ∧ H b = some (.ins C dy gs) ∧ sp [.ref a, .ref b] H (fun v H' => ∃ t, v = .ref t ∧ Q (.ref t) H') E
theorem op_ownBin {op : Operator} (F : FnOk X.prog X.w X.K X.mg X.base CX k f fd ps sp) (hr : Room k X.A) (hc : PySem.W.selfFirst X.K C = true) (hs : PySem.W.findIn X.K (.ref C) (PySem.dunder op.info.2) = some (some (.ref f))) (hf : PySem.W.isFn X.K (.ref f) = true) (hb : Binds X.K fd ps []) (hx : Passes CX X E) :
    OpR X (binaryOp op) (rOwnBin C sp E) := by
  intro pins s σ H x y v u Q I rx ry h
  obtain ⟨a, b, dx, dy, fs, gs, rfl, rfl, ha, hb', hsp⟩ := h
  cases rx
  cases ry
  obtain ⟨mA, J, _⟩ := ins_get I.hok ha
  obtain ⟨mB, J', _⟩ := ins_get I.hok hb'
  obtain ⟨od, J, _⟩ := J.look
  obtain ⟨od', J', _⟩ := J'.look
  obtain ⟨m, hF⟩ := I.fr
  refine PySem.W.binop_K hF I.ok.mod.kin J J'.type hc hs hf ?_
  refine wpAny_mono (run_fn (vs := [.ref a, .ref b]) (us := [.ref a, .ref b]) F hr hb .nil hx I (.cons rfl (.cons rfl .nil)) hsp) (fun r s' q => ?_) fun _ _ e => e
  obtain ⟨v, H', I', rv, t, rfl, q⟩ := q
  cases rv
  exact ⟨.ref t, H', I', rfl, q⟩
/-- v in b, v not in b, b of the class at C -/
def rOwnIn (C : Addr) (sp : Sp) (E : XK) (g : Bool → Bool) : R2 := fun x y H Q => ∃ b dy gs, y = .ref b ∧ H b = some (.ins C dy gs) ∧ sp [.ref b, x] H (fun v H' => ∃ c, v = .bl c ∧ Q (.bl (g c)) H') E
theorem op_ownNotIn (F : FnOk X.prog X.w X.K X.mg X.base CX k f fd ps sp) (hr : Room k X.A) (hs : PySem.W.findIn X.K (.ref C) "__contains__" = some (some (.ref f))) (hf : PySem.W.isFn X.K (.ref f) = true) (hb : Binds X.K fd ps []) (hx : Passes CX X E) :
    OpR X (compareOp .NotIn) (rOwnIn C sp E fun c => !c) := by
  intro pins s σ H x y v u Q I rx ry h
  obtain ⟨b, dy, gs, rfl, hb', hsp⟩ := h
  cases ry
  obtain ⟨mB, J', _⟩ := ins_get I.hok hb'
  obtain ⟨od', J', _⟩ := J'.look
  obtain ⟨m, hF⟩ := I.fr
  refine PySem.W.notIn_K hF I.ok.mod.kin J' hs hf ?_
  refine wpAny_mono (run_fn (vs := [.ref b, x]) (us := [.ref b, v]) F hr hb .nil hx I (.cons rfl (.cons rx .nil)) hsp) (fun r s' q => ?_) fun _ _ e => e
  obtain ⟨v, H', I', rv, c, rfl, q⟩ := q
  cases rv
  exact wpAny_truthy_bool ⟨.bl (!c), H', I', rfl, q⟩
/-- a[e], a of the class at C -/
def rOwnSub (C : Addr) (sp : Sp) (E : XK) : R2 := fun x y H Q => ∃ a dx fs, x = .ref a ∧ H a = some (.ins C dx fs) ∧ sp [.ref a, y] H Q E
theorem pe_ownSub {a b : Expr} {ta tb : TE} {pos : Pos} (F : FnOk X.prog X.w X.K X.mg X.base CX k f fd ps sp) (hr : Room (k + 1) X.A) (hs : PySem.W.findIn X.K (.ref C) "__getitem__" = some (some (.ref f))) (hfn : PySem.W.fnIn X.K f = true) (hf : PySem.W.isFn X.K (.ref f) = true) (hb : Binds X.K fd ps []) (hx : Passes CX X E)
    (ha : PE X a ta) (he : PE X b tb) (hsl : ∀ x i, subscripted b true (.ref x) i = runValue (.builtin "lifetime.subscript" ⟨[.ref x, i], []⟩)) : PE X (.Subscript a b pos) (tOp (rOwnSub C sp E) ta tb) := by
  refine ⟨fun pins s σ H Q I h => ?_⟩
  refine Subscript_ (binT ha he I h fun v u s2 x y H2 I2 rx ry q => ?_)
  obtain ⟨a, dx, fs, rfl, ha, hsp⟩ := q
  cases rx
  obtain ⟨mA, J, _⟩ := ins_get I2.hok ha
  obtain ⟨od, J, _⟩ := J.look
  obtain ⟨m, hF⟩ := I2.fr
  exact PySem.W.sub_K hF I2.ok.mod.kin J hs hfn hf (run_in1 (vs := [.ref a, y]) (us := [.ref a, u]) F hr hb hx I2 (.cons rfl (.cons ry .nil)) hsp) (hsl _ _)
/-- len(a), a of the class at C -/
def rOwnLen (C : Addr) (sp : Sp) (E : XK) : List V → Hp → VK → Prop := fun xs H Q => ∃ a dx fs, xs = [.ref a] ∧ H a = some (.ins C dx fs) ∧ sp [.ref a] H (fun v H' => ∃ n : Int, v = .int n ∧ 0 ≤ n ∧ n < 2 ^ 63 ∧ Q (.int n) H') E
theorem cr_ownLen (F : FnOk X.prog X.w X.K X.mg X.base CX k f fd ps sp) (hr : Room (k + 1) X.A) (hs : PySem.W.findIn X.K (.ref C) "__len__" = some (some (.ref f))) (hf : PySem.W.isFn X.K (.ref f) = true) (hb : Binds X.K fd ps []) (hx : Passes CX X E) : CallR X (.builtin "len") (rOwnLen C sp E) := by
  intro pins s σ H xs us Q I r h
  obtain ⟨a, dx, fs, rfl, ha, hsp⟩ := h
  obtain rfl := Vals.ref1 r
  obtain ⟨mA, J, _⟩ := ins_get I.hok ha
  obtain ⟨od, J, _⟩ := J.look
  obtain ⟨m, hF⟩ := I.fr
  refine PySem.W.len_K hF I.ok.mod.kin J hs hf ?_
  refine wpAny_mono (run_in1 (vs := [.ref a]) (us := [.ref a]) F hr hb hx I (.cons rfl .nil) hsp) (fun r s' q => ?_) fun _ _ e => e
  obtain ⟨v, H', I', rv, n, rfl, n0, n1, q⟩ := q
  obtain ⟨t, rfl⟩ := rv
  exact ⟨⟨n0, n1⟩, .int n, H', I'.tok _, ⟨_, rfl⟩, q⟩
/-- truth by an own len, no own truth -/
def rOwnTru (C : Addr) (sp : Sp) (E : XK) : V → Hp → (Bool → Hp → Prop) → Prop := fun x H Q => ∃ a dx fs, x = .ref a ∧ H a = some (.ins C dx fs) ∧ sp [.ref a] H (fun v H' => ∃ n : Int, v = .int n ∧ 0 ≤ n ∧ n < 2 ^ 63 ∧ Q (n != 0) H') E
/-- the callee at any place -/
theorem run_A {A : Around} {pins : List (Addr × Obj)} {σ : St} {H : Hp} {s : Shared} {Q : VK} {us : List Value} {vs : List V} (F : FnOk X.prog X.w X.K X.mg X.base CX k f fd ps sp) (hr : Room k A) (e0 : Env0 X.prog X.w X.K X.mg X.base A X.stack s H) (hb : Binds X.K fd ps []) (hx : Passes CX X E)
    (I : Inv X pins σ H s) (r : Vals vs us) (h : sp vs H Q E) : wpAny (model X.prog X.w) A (call (.ref f) us) (EP X pins σ Q) X.xe s := by
  have hl : (us ++ []).length = ps.length := by rw [List.append_nil, ← r.length]; exact F.len _ _ _ _ h
  have hb' := hb s us I.kIn hl
  rw [List.append_nil] at hb'
  refine wpAny_call (codeAny_mono (F.run A X.stack s H ⟨us, []⟩ us vs Q E hr e0 hb' r h) fun r s' hq => ?_)
  cases r with
  | error e => exact hx pins σ H s e s' I hq
  | ok fl =>
    cases fl with
    | ret u => exact I.after hq
    | next => exact False.elim hq
    | brk => exact False.elim hq
    | cont => exact False.elim hq
theorem tru_A {A : Around} {pins : List (Addr × Obj)} {s : Shared} {σ : St} {H : Hp} {x : V} {v : Value} {Q : Bool → Hp → Prop} (F : FnOk X.prog X.w X.K X.mg X.base CX k f fd ps sp) (hr : Room k A.in1) (e0 : Env0 X.prog X.w X.K X.mg X.base A.in1 X.stack s H)
    (hs : PySem.W.findIn X.K (.ref C) "__len__" = some (some (.ref f))) (hn : PySem.W.findIn X.K (.ref C) "__bool__" = some none) (hf : PySem.W.isFn X.K (.ref f) = true) (hb : Binds X.K fd ps []) (hx : Passes CX X E) (I : Inv X pins σ H s) (rx : RelV x v) (h : rOwnTru C sp E x H Q) :
    wpAny (model X.prog X.w) A (truthy v) (TP X pins σ Q) X.xe s := by
  obtain ⟨a, dx, fs, rfl, ha, hsp⟩ := h
  cases rx
  obtain ⟨mA, J, _⟩ := ins_get I.hok ha
  obtain ⟨od, J, _⟩ := J.look
  obtain ⟨m, hF⟩ := I.fr
  have XK := I.ok.mod.kin.keeps hF.keep
  unfold truthy
  refine wpAny_bind (m := callSpecial? (.ref a) (Str.ofString "__bool__")) (wpAny_bind (wpAny_bind (J.type.here ((PySem.W.looks_findIn XK hn).here (wpAny_pure ?_)))))
  refine wpAny_bind (wpAny_bind (J.type.here ((PySem.W.looks_findIn XK hs).here ?_)))
  rw [if_neg (by simp)]
  refine wpAny_bind (wpAny_runValue (codeAny_builtin entry_len ?_))
  rw [Around.under_plainId plain_len _]
  unfold Builtin.«len»
  refine wpAny_bind (m := oneArg "len" _) (wpAny_pure ?_)
  refine wpAny_bind (m := callSpecial? (.ref a) (Str.ofString "__len__")) (PySem.W.special_fn XK J hs (beq_iff_eq.mp hf) ?_)
  refine wpAny_mono (run_A (vs := [.ref a]) (us := [.ref a]) F hr e0 hb hx I (.cons rfl .nil) hsp) (fun r s' q => ?_) fun _ _ e => e
  obtain ⟨v, H', I', rv, n, rfl, n0, n1, q⟩ := q
  obtain ⟨t, rfl⟩ := rv
  refine wpAny_bind (wpAny_holding (wpAny_pure ?_))
  refine wpAny_bind (wpAny_letGo ?_)
  show wpAny _ _ (if n < 0 then _ else _) _ _ _
  rw [if_neg (by omega)]
  show wpAny _ _ (if n ≥ 2 ^ 63 then _ else _) _ _ _
  rw [if_neg (by omega)]
  refine wpAny_bind (wpAny_mkInt (wpAny_pure ?_))
  exact wpAny_pure ⟨H', I'.tok _, q⟩
theorem tru_own (F : FnOk X.prog X.w X.K X.mg X.base CX k f fd ps sp) (hr : Room (k + 1) X.A) (hs : PySem.W.findIn X.K (.ref C) "__len__" = some (some (.ref f))) (hn : PySem.W.findIn X.K (.ref C) "__bool__" = some none) (hf : PySem.W.isFn X.K (.ref f) = true) (hb : Binds X.K fd ps []) (hx : Passes CX X E) : TruR X (rOwnTru C sp E) :=
  fun pins s σ H x v Q I rx h => tru_A F hr.in1 I.env0.in1 hs hn hf hb hx I rx h
theorem bool_new (x : Addr) (prog : Program) (w : World) : MeetsIn prog w (Builtin.«bool.__new__» ⟨[.type "bool", .ref x], []⟩) (fun A R s => wpAny (model prog w) A.in1 (truthy (.ref x)) (fun b s' => R (.ok (.ret (.bool b))) s') (fun e s' => R (.error e) s') s) := fun A R s h => by
  obtain ⟨hp, g, d, tk, os⟩ := s
  have f1 := F.conv_sub_bool
  unfold Builtin.«bool.__new__»
  generalize ht : truthy = T at h ⊢
  repeat (any_goals (first | assumption | wp_step))
  exact wpAny_mono h (fun b s' z => wpAny_pure z) fun _ _ z => z
theorem cr_ownBool (F : FnOk X.prog X.w X.K X.mg X.base CX k f fd ps sp) (hr : Room (k + 3) X.A) (hs : PySem.W.findIn X.K (.ref C) "__len__" = some (some (.ref f))) (hn : PySem.W.findIn X.K (.ref C) "__bool__" = some none) (hf : PySem.W.isFn X.K (.ref f) = true) (hb : Binds X.K fd ps []) (hx : Passes CX X E) :
    CallR X (.type "bool") (fun xs H Q => ∃ x, xs = [x] ∧ rOwnTru C sp E x H fun c H' => Q (.bl c) H') := by
  intro pins s σ H xs us Q I r h
  obtain ⟨x, rfl, h⟩ := h
  have h' := h
  obtain ⟨a, dx, fs, rfl, ha, hsp⟩ := h'
  obtain rfl := Vals.ref1 r
  refine callType_newIn PySem.F.called_bool PySem.F.newNe_bool (PySem.F.typeCall_bool_1 (.ref a)) (PySem.F.newCall_bool_1 (.ref a)) (fun obj => PySem.F.args_object_init_2 obj (.ref a)) PySem.F.entry_bool_new (bool_new a X.prog X.w) ?_
  exact wpAny_mono (tru_A F hr.in1.in1.in1 I.env0.in1.in1.in1 hs hn hf hb hx I (x := .ref a) rfl h) (fun c s' ⟨H', I', q⟩ => ⟨PySem.typeIs_bool _ _, .bl c, H', I', rfl, q⟩) fun _ _ z => z
/-- not a -/
theorem pe_ownNot {a : Expr} {ta : TE} {pos : Pos} {r : V → Hp → (Bool → Hp → Prop) → Prop} (ht : TruR X r) (ha : PE X a ta) : PE X (.UnaryOp .Not a pos) (fun σ H Q => ta σ H fun x H1 => r x H1 fun c H2 => Q (.bl (!c)) H2) := by
  refine ⟨fun pins s σ H Q I h => ?_⟩
  refine UnaryOp_ (thn (ha.run pins s σ H _ I h) fun v s1 ⟨x, H1, I1, r1, q1⟩ => ?_)
  exact not_of (thn (ht pins s1 σ H1 x v (fun c H2 => Q (.bl (!c)) H2) I1 r1 q1) fun c s2 ⟨H2, I2, q2⟩ => ⟨.bl (!c), H2, I2, rfl, q2⟩)
end
end Lw

set_option maxHeartbeats 1000000
/-! staticmethods called through the class; instances made with starred arguments -/
namespace Lw
open PySem PySem.Spec PyProof.Rows L2 ClX StX
/-- a staticmethod m of the class at C, its def at g -/
structure SMet (K : PySem.W.Frag) (C : Addr) (mc : Value) (m : Str) (p g : Addr) : Prop where
  at_ : PySem.W.findCls K (.ref C) mc m = some (.get (.builtin "staticmethod.__get__") (.ref p) .none (.ref C))
  rc : ∃ rest, PySem.W.recIn K p "staticmethod" = some (.ref g :: rest)
  hd : PySem.W.handedIn (.ref g) = true
  kp : PySem.W.keepIn K (.ref g) = true
/-- e.m(..), e the class at C, m a staticmethod -/
def tSMeth (C : Addr) (sp : Sp) (E : XK) (ta : TE) (t : TA) : TE := fun σ H Q => ta σ H fun x H1 => x = .ref C ∧ t σ H1 fun vs H2 => sp vs H2 Q E
section
variable {X : Cx} {CX : CXT} {k : Nat} {C p g f : Addr} {mc : Value} {sp : Sp} {E : XK} {o e : Expr} {es : List Expr} {m x : Str} {pos apos p0 : Pos} {ta : TE} {t : TA} {pl : Sem Bool}
theorem pe_smeth (he : PE X o ta) (r : CRead X.K C mc) (c : SMet X.K C mc m p g) (F : FnR X.prog X.w X.K X.mg X.base CX k g sp) (hr : Room k X.A) (hx : Passes CX X E) (ha : PA X (e :: es) t)
    (hst : starEach (e :: es) X.env = (false, eval e X.env) :: starEach es X.env := by rfl) (hpl : (backTo pos (starEach es X.env)).any (·.1) = false := by rfl)
    (ht : eval (.Call (.Attribute o m apos) (e :: es) [] pos) X.env = (do
      let ov ← eval o X.env
      standAt apos.atName
      let (f, first) ← holding [ov] (getMethod ov m pl)
      callWith pos f first (backTo pos (starEach (e :: es) X.env)) (backToKw pos (keywordEach [] X.env))) := by rfl) :
    PE X (.Call (.Attribute o m apos) (e :: es) [] pos) (tSMeth C sp E ta t) := by
  refine ⟨fun pins s σ H Q I h => ?_⟩
  refine PySem.W.methodCall_KW (pl := pl) (thn (he.run pins s σ H _ I h) fun u s1 ⟨x, H1, I1, rx, ex, q⟩ => ?_) ht
  subst ex
  obtain rfl : u = Value.ref C := rx
  obtain ⟨rest, hp⟩ := c.rc
  refine PySem.W.method_cls I1.kIn r.ga (PySem.W.cls_bind I1.kIn r.rd c.at_ (wpAny_call (PySem.W.sm_get (s := { s1 with toks := s1.toks + 1 }) I1.kIn hp (PySem.W.handed_on c.hd ?_))))
  have I2 : Inv X pins σ H1 { s1 with toks := s1.toks + 1 } := I1.tok _
  refine PySem.W.callWith_K (h₀ := X.base) I2.ok.mod.kin c.kp (thn (ha.run pos pins _ σ H1 _ I2 q) fun us s3 ⟨vs, H2, I3, rv, q2⟩ => ⟨I3.kIn, ?_⟩) hst hpl
  exact wpAny_call (run_fnR F hr hx I3 rv q2)
/-- C(e, .., *y) -/
theorem pe_makeS (M : Mk X.K C f) (F : FnR X.prog X.w X.K X.mg X.base CX k f sp) (hr : Room (k + 1) X.A) (hg : Gl X x) (hm : X.mg x = some (.ref C)) (hx : Passes CX X E) (ha : PA X (e :: es) t) (hd : (x == ("__debug__" : Str)) = false := by decide)
    (he : starEach (e :: es) X.env = (false, eval e X.env) :: starEach es X.env := by rfl) (hst : (backTo pos (starEach es X.env)).any (·.1) = true := by rfl) : PE X (.Call (.Name x p0) (e :: es) [] pos) (tMakeR C sp E t) := by
  refine ⟨fun pins s σ H Q I h => ?_⟩
  refine wpAny_Call_Name_kw (ld_glob I hg hm ?_ hd)
  refine PySem.W.callWith_S2 (h₀ := X.base) I.ok.mod.kin M.kp (thn (ha.run pos pins s σ H _ I h) fun us s1 ⟨vs, H1, I1, r, q⟩ => ⟨I1.kIn, ?_⟩) he hst
  exact run_makeR M F hr hx I1 r q
end
end Lw

set_option maxHeartbeats 3200000
/-! sets of texts: made of a tuple, and sorted -/
namespace Lw
open PySem PySem.Spec PyProof.Rows L2 PySem.Froz
def xKey (e : Int × Value) : Str := match e.2 with | .str k _ => k | _ => ⟨#[]⟩
def GoodX (w : World) (e : Int × Value) : Prop := ∃ k tk, e.2 = Value.str k tk ∧ e.1 = hashStr w k
/-- what stands in the set: the texts of ks -/
def HoldX (w : World) (ks : List Str) (l : List (Int × Value)) : Prop := (∀ e ∈ l, GoodX w e) ∧ (l.map xKey).Nodup ∧ ∀ k, k ∈ l.map xKey ↔ k ∈ ks
/-- the set of texts at a; its table can be walked -/
def SetX (w : World) (h : Heap) (a : Addr) (ks : List Str) : Prop :=
  ∃ o es ep t, h.get? a = some o ∧ o.ExactSet ∧ o.data = .set es ep t ∧ HoldX w ks es.toList ∧ es.size ≤ ks.length ∧ ks.length + 1 < scanBound ∧ t.fits es.size = true ∧ Ris t.place.toList ∧ (w.params.followText "set-order" = true ∨ t.led = true)
section
variable {P : Program} {w : World} {h h' : Heap} {a : Addr} {ks : List Str} {l l' : List (Int × Value)}
theorem HoldX.perm (H : HoldX w ks l) (p : l'.Perm l) : HoldX w ks l' :=
  ⟨fun e he => H.1 e (p.mem_iff.mp he), (p.map xKey).nodup_iff.mpr H.2.1, fun k => (p.map xKey).mem_iff.trans (H.2.2 k)⟩
theorem HoldX.elems (H : HoldX w ks l) : ElemsOf (strKind P w) l := fun e he => by
  obtain ⟨k, tk, h1, h2⟩ := H.1 e he
  exact ⟨⟨k, by rw [h1]; exact is_str k tk, h2⟩, by rw [h1] <;> rfl⟩
theorem GoodX.is {e : Int × Value} (g : GoodX w e) (k : Str) : (strKind P w).is k e.2 = true ↔ xKey e = k := by
  obtain ⟨k0, tk, h1, _⟩ := g
  unfold xKey
  rw [h1]
  constructor
  · intro z
    exact (strKind P w).inj _ _ _ (is_str k0 tk) z
  · intro z
    subst z
    exact is_str k0 tk
theorem HoldX.mem (H : HoldX w ks l) (k : Str) : k ∈ ks ↔ ∃ e ∈ l, (strKind P w).is k e.2 = true := by
  rw [← H.2.2 k, List.mem_map]
  exact ⟨fun ⟨e, he, q⟩ => ⟨e, he, ((H.1 e he).is k).2 q⟩, fun ⟨e, he, q⟩ => ⟨e, he, ((H.1 e he).is (P := P) k).1 q⟩⟩
theorem SetX.at (R : SetX w h a ks) (k : ∀ o, h.get? a = some o → h'.get? a = some o) : SetX w h' a ks := by
  obtain ⟨o, es, ep, t, ho, r⟩ := R
  exact ⟨o, es, ep, t, k o ho, r⟩
end
section
variable {P : Program} {w : World} {A : Around} {E : Value → Shared → Prop} {s : Shared} {a : Addr} {ks : List Str}
/-- behind the laying of one more: stored, and laid anew where the table is too full -/
theorem addX_tail {g : Bool → Sem Unit} (hg : ∀ (b : Bool) (s₁ : Shared) (Q' : Unit → Shared → Prop), Q' () s₁ → wpAny (model P w) A (g b) Q' E s₁)
    {o : Obj} {es : Array (Int × Value)} {ep : Nat} {t : SetTable} (ho : s.heap.get? a = some o) (hex : o.ExactSet) (hd : o.data = .set es ep t)
    {es1 : Array (Int × Value)} {t2 : SetTable} (g1 : HoldX w ks es1.toList) (hz1 : es1.size ≤ ks.length) (hb1 : ks.length + 1 < scanBound) (hf2 : t2.fits es1.size = true) (hr : Ris t2.place.toList)
    (hl : w.params.followText "set-order" = true ∨ t2.led = true) {wasDummy : Bool} {R : Option Bool → Shared → Prop}
    (hR : ∀ h', Heap.SameBut a s.heap h' → SetX w h' a ks → R (some true) { s with heap := h' }) :
    wpAny (model P w) A (do
        storeSet a es1 t2
        if (!wasDummy && t2.tooFull) = true then do
            g (relayAll t2 es1 (SetTable.grown es1.size)).2.2
            storeSet a (relayAll t2 es1 (SetTable.grown es1.size)).1 (relayAll t2 es1 (SetTable.grown es1.size)).2.1
            pure (some true)
          else pure (some true)) R E s := by
  have b1 : es1.size < scanBound := by omega
  refine wpAny_bind (wpAny_storeSet_of ho hd ?_ (fits_of_scanBound b1))
  have ho1 := store_at (es' := es1) (t' := t2) ho hd
  have sb1 := Heap.SameBut.update s.heap a (Obj.putSet es1 t2)
  split
  · have pm := relayAll_perm t2 es1 (SetTable.grown es1.size)
    have hf3 := relayAll_fits t2 es1 (SetTable.grown es1.size)
    have hr3 := relayAll_ris t2 es1 (SetTable.grown es1.size)
    have hl3 := relayAll_led t2 es1 (SetTable.grown es1.size)
    revert pm hf3 hr3 hl3
    generalize relayAll t2 es1 (SetTable.grown es1.size) = Z
    intro pm hf3 hr3 hl3
    have hsz : Z.1.size = es1.size := by rw [← Array.length_toList, pm.length_eq, Array.length_toList]
    have b2 : Z.1.size < scanBound := by omega
    refine wpAny_bind (hg _ _ _ ?_)
    refine wpAny_bind (wpAny_storeSet_of ho1 rfl ?_ (fits_of_scanBound b2))
    have ho2 := store_at (es' := Z.1) (t' := Z.2.1) ho1 rfl
    exact wpAny_pure (hR _ (sb1.trans (Heap.SameBut.update _ a _)) ⟨_, Z.1, _, Z.2.1, ho2, hex, rfl, g1.perm pm, by omega, hb1, hf3, hr3, hl.imp id fun z => by rw [hl3]; exact z⟩)
  · exact wpAny_pure (hR _ sb1 ⟨_, es1, _, t2, ho1, hex, rfl, g1, hz1, hb1, hf2, hr, hl⟩)
/-- one more text -/
theorem addX {k : Str} {tk : Tok} {Q : Bool → Shared → Prop} (R : SetX w s.heap a ks) (room : ks.length + 2 < scanBound)
    (hQ : ∀ h' b, Heap.SameBut a s.heap h' → SetX w h' a (ks ++ [k]) → Q b { s with heap := h' }) :
    wpAny (model P w) A (setAddHashed a (.str k tk) ((strKind P w).hash k)) Q E s := by
  obtain ⟨o, es, ep, t, ho, hex, hd, H, hn, hb, hf, hr, hl⟩ := R
  have hel : ElemsOf (strKind P w) es.toList := H.elems
  have b0 : es.size < scanBound := by omega
  have room' : (ks ++ [k]).length + 1 < scanBound := by rw [List.length_append]; exact room
  unfold setAddHashed setAddHashedIn
  refine wpAny_holding (wpAny_bind (wpAny_setState_of ho hd hf ?_))
  dsimp only
  rw [byScan_of (x := .str k tk) rfl b0 hel]
  simp only [↓reduceIte]
  unfold setAddByScan
  refine wpAny_bind ?_
  refine wpAny_bind (wpAny_rule ?_)
  refine wpAny_bind (wpAny_setScan_of (is_str k tk) ho hd hf hel ?_)
  cases hfi : List.findIdx? (fun e => (strKind P w).is k e.2) es.toList with
  | some j =>
    dsimp only
    obtain ⟨hj, pj, _⟩ := List.findIdx?_eq_some_iff_getElem.mp hfi
    have hk : k ∈ ks := (H.mem (P := P) k).2 ⟨es.toList[j], List.getElem_mem hj, pj⟩
    refine wpAny_pure (wpAny_pure (hQ s.heap _ (Heap.SameBut.refl a s.heap) ⟨o, es, ep, t, ho, hex, hd, ⟨H.1, H.2.1, fun i => ?_⟩, ?_, room', hf, hr, hl⟩))
    · rw [H.2.2 i, List.mem_append, List.mem_singleton]
      exact ⟨.inl, fun z => z.elim id fun e => e ▸ hk⟩
    · rw [List.length_append]; omega
  | none =>
    dsimp only
    have hnk : k ∉ es.toList.map xKey := fun z => by
      obtain ⟨e, he, q⟩ := (H.mem (P := P) k).1 ((H.2.2 k).1 z)
      have c := List.findIdx?_eq_none_iff.mp hfi e he
      rw [q] at c
      cases c
    have hgw : ∀ (b : Bool) {s₁ : Shared} {Q' : Unit → Shared → Prop}, Q' () s₁ → wpAny (model P w) A (match b with | true => rule "set.scan.the-table-gave-way" | false => pure ()) Q' E s₁ :=
      fun b s₁ Q' q => by cases b <;> first | exact wpAny_pure q | exact wpAny_rule q
    have pm := layNew_perm t es ((strKind P w).hash k) (.str k tk)
    have hf1 := layNew_fits t es ((strKind P w).hash k) (.str k tk)
    have hr1 := layNew_ris t es ((strKind P w).hash k) (.str k tk) hr
    have hl1 := layNew_led t es ((strKind P w).hash k) (.str k tk)
    revert pm hf1 hr1 hl1
    generalize layNew t es ((strKind P w).hash k) (.str k tk) = Z
    intro pm hf1 hr1 hl1
    obtain ⟨es1, t1, wasDummy, gave⟩ := Z
    dsimp only at pm hf1 hr1 hl1 ⊢
    rw [Array.toList_push] at pm
    have pc : es1.toList.Perm (((strKind P w).hash k, Value.str k tk) :: es.toList) := pm.trans (List.perm_append_singleton _ _)
    have g1 : HoldX w (ks ++ [k]) es1.toList := by
      refine HoldX.perm (l := ((strKind P w).hash k, Value.str k tk) :: es.toList) ⟨fun e he => ?_, ?_, fun i => ?_⟩ pc
      · rcases List.mem_cons.mp he with z | z
        · rw [z]; exact ⟨k, tk, rfl, rfl⟩
        · exact H.1 e z
      · exact List.nodup_cons.mpr ⟨hnk, H.2.1⟩
      · rw [List.map_cons, List.mem_cons, H.2.2 i, List.mem_append, List.mem_singleton]
        exact Or.comm
    have hsz : es1.size ≤ (ks ++ [k]).length := by rw [← Array.length_toList, pc.length_eq, List.length_cons, Array.length_toList, List.length_append]; exact Nat.succ_le_succ hn
    have hled : w.params.followText "set-order" = true ∨ t1.led = true := hl.imp id fun z => by rw [hl1]; exact z
    refine wpAny_bind (hgw _ ?_)
    split
    · refine wpAny_bind ?_
      rw [hashByValue_scannable 8 (x := .str k tk) rfl]
      refine wpAny_pure ?_
      refine addX_tail ?_ ho hex hd g1 hsz room' ?_ ?_ ?_ ?_
      · intro b s₁ Q' q; cases b <;> first | exact wpAny_pure q | exact wpAny_rule q
      · first | (split <;> first | exact hf1 | exact SetTable.fits_plain_off hf1) | exact hf1
      · first | (split <;> exact hr1) | exact hr1
      · first | (split <;> exact hled) | exact hled
      · intro h' sb r; dsimp only; exact wpAny_pure (hQ h' _ sb r)
    · refine wpAny_bind (wpAny_pure ?_)
      simp only [↓reduceIte]
      refine addX_tail ?_ ho hex hd g1 hsz room' hf1 hr1 hled ?_
      · intro b s₁ Q' q; cases b <;> first | exact wpAny_pure q | exact wpAny_rule q
      · intro h' sb r; dsimp only; exact wpAny_pure (hQ h' _ sb r)
end
end Lw

set_option maxHeartbeats 3200000
/-! set(t) of a tuple of texts; sorted of a set of texts -/
namespace Lw
open PySem PySem.Spec PyProof.Rows L2 PySem.Froz
/-- a new set, nothing in it yet -/
abbrev newSet (w : World) : Obj := { cls := .type "set", dict := none, data := .set #[] 0 (.fresh 0 0 (!w.params.followText "set-order")) }
theorem newSet_x {w : World} {h : Heap} {a : Addr} (ho : h.get? a = some (newSet w)) : SetX w h a [] :=
  ⟨_, #[], 0, _, ho, ⟨rfl, rfl, rfl⟩, rfl, ⟨fun e he => by simp at he, by simp, fun k => by simp⟩, Nat.le_refl _, by decide, by rfl, List.Pairwise.nil, by
    show _ ∨ (!w.params.followText "set-order") = true
    cases w.params.followText "set-order"
    · exact .inr rfl
    · exact .inl rfl⟩
theorem take_next' {ns : List Str} {i : Nat} {z : Str} (h : ns[i]? = some z) : ns.take (i + 1) = ns.take i ++ [z] := by
  rw [List.take_add_one, h]
  rfl
section
variable {P : Program} {w : World} {A : Around} {E : Value → Shared → Prop} {s : Shared}
/-- the loop over an iterator that gives the texts ns -/
theorem update_x {I : Addr} {fp wr : List Addr} {G : Array GenState → Array GenState → Prop} {n : Nat} {Pv : Nat → Value → Prop} {St : Nat → Shared → Prop} {R : Result → Shared → Prop}
    (W : WalksS P w A.in1 I fp wr G n Pv St) (S : Addr) (hSf : S ∉ fp) (ns : List Str) (hn : n = ns.length) (hb : ns.length + 1 < scanBound) (hval : ∀ i v, Pv i v → ∃ k t, ns[i]? = some k ∧ v = .str k t) :
    ∀ (k i : Nat) (s : Shared), n - i = k → i ≤ n → St i s → SetX w s.heap S (ns.take i) →
      (∀ s', Moved (S :: wr) G s s' → SetX w s'.heap S ns → R (.ok (.ret .none)) s') →
      codeAny (model P w) A (.builtin "set.update.loop" ⟨[.ref S, .ref I], []⟩) R s := by
  have hSw : S ∉ wr := fun h => hSf (W.sub _ h)
  have hsub : ∀ b ∈ wr, b ∈ S :: wr := fun b hb => List.mem_cons_of_mem _ hb
  intro k
  induction k with
  | zero =>
    intro i s hk hi hst hS hR
    obtain rfl : i = n := by omega
    refine codeAny_builtin F.entry_set_update_loop ?_
    rw [Around.under_plainId F.plain_set_update_loop _]
    show wpAny _ A.in1 (pyNext (.ref I) >>= _) _ _ s
    refine wpAny_bind (W.done s _ _ hst fun s' hm => ?_)
    show wpAny _ A.in1 (ret Value.none) _ _ s'
    rw [List.take_of_length_le (by omega)] at hS
    exact wpAny_pure (hR s' (hm.mono hsub) (hS.at fun o e => hm.heap S o hSw e))
  | succ k ih =>
    intro i s hk hi hst hS hR
    have hlt : i < n := by omega
    refine codeAny_builtin F.entry_set_update_loop ?_
    rw [Around.under_plainId F.plain_set_update_loop _]
    show wpAny _ A.in1 (pyNext (.ref I) >>= _) _ _ s
    refine wpAny_bind (W.item i s _ _ hlt hst fun v s' hP hst' hm => ?_)
    obtain ⟨z, t, hz, rfl⟩ := hval i v hP
    have hS' : SetX w s'.heap S (ns.take i) := hS.at fun o e => hm.heap S o hSw e
    show wpAny _ A.in1 (holding [Value.str z t] (setAdd S (.str z t)) >>= _) _ _ s'
    refine wpAny_bind (wpAny_holding ?_)
    unfold setAdd
    refine wpAny_holding ?_
    refine wpAny_bind ((strKind P w).pyHash (k := z) (is_str z t) ?_)
    have zl := (List.getElem?_eq_some_iff.mp hz).1
    refine addX (s := { s' with toks := s'.toks + 1 }) hS' (by rw [List.length_take]; omega) fun h' b hsb hS2 => ?_
    rw [← take_next' hz] at hS2
    refine wpAny_pure ⟨plainId_quiet F.plain_set_update_loop _, ih (i + 1) _ (by omega) hlt (W.frame _ s' _ _ hst' (Nat.le_succ _) fun b hb o e => ?_) hS2 fun s'' hm'' hS'' => ?_⟩
    · rw [hsb.2 b (fun h : b = S => hSf (by rw [← h]; exact hb))]; exact e
    · refine hR s'' (Moved.trans W.gtrans ((hm.mono hsub).then_heap (Nat.le_succ _) fun b o hb e => ?_) hm'') hS''
      rw [hsb.2 b (fun h : b = S => hb (by rw [h]; exact List.mem_cons_self))]; exact e
/-- set.__init__ of a new set and a tuple of texts -/
theorem init_x {l S : Addr} {items : Array Value} {ns : List Str} {R : Result → Shared → Prop} (hh : A.handled = none) (hS : s.heap.get? S = some (newSet w)) (hl : s.heap.IsTuple l items) (hlS : l ≠ S) (hit : ∀ (i : Nat) (v : Value), items[i]? = some v → ∃ k t, ns[i]? = some k ∧ v = .str k t)
    (hz : items.size = ns.length) (hb : ns.length + 1 < scanBound)
    (h : ∀ (h' : Heap) (tk : Nat), SetX w h' S ns → (∀ b o, b ≠ S → s.heap.get? b = some o → h'.get? b = some o) → R (.ok (.ret .none)) { s with heap := h', toks := tk }) :
    wpAny (model P w) A.in1 (Builtin.«set.__init__» ⟨[.ref S, .ref l], []⟩) (fun fin s' => match fin with
      | .done f => R (.ok f) s'
      | .again c' => c'.quiet = true ∧ codeAny (model P w) A c' R s') (fun e s' => R (.error e) s') s := by
  obtain ⟨ol, hol, hcl, nl, hdl⟩ := hl
  obtain ⟨ocls, odict, odata, oslots⟩ := ol
  simp only at hcl hdl
  subst hcl; subst hdl
  have hl1 : s.heap.IsTuple l items := ⟨_, hol, rfl, nl, rfl⟩
  have hsls := F.sub_tuple_set
  have hslf := F.sub_tuple_frozenset
  have hne : (Value.type "tuple" == Value.type "dict") = false := by decide
  have hT : s.TypeIs (.ref S) "set" := ⟨_, hS, rfl⟩
  unfold Builtin.«set.__init__» noKeywords Builtin.Frozenset.updateFrom
  generalize hPI : pyIter = PI
  wp_walk
  subst hPI
  refine wpAny_pyIter_tuple hl1 ?_
  refine wpAny_bind (wpAny_runValue ?_)
  have hhA : A.in1.in1.handled = none := by simp [hh]
  have hneI : l ≠ s.heap.objs.size := Nat.ne_of_lt (Heap.lt_size hol)
  have hSs : S < s.heap.objs.size := Heap.lt_size hS
  have hSf : S ∉ [s.heap.objs.size, l] := by
    simp only [List.mem_cons, List.mem_singleton, List.not_mem_nil, or_false, not_or]
    exact ⟨Nat.ne_of_lt hSs, fun e => hlS e.symm⟩
  have up := fun R' => update_x (P := P) (w := w) (A := A.in1) (R := R') ((Walks.tuple hhA _ l hneI items).toS) S hSf ns hz hb hit (items.size - 0) 0
    { s with heap := s.heap.push { cls := .type "tuple_iterator", data := .fields #[.ref l, .int 0 0] } } (by omega) (Nat.zero_le _) ⟨⟨_, Heap.get?_push_size _ rfl, rfl, rfl⟩, hl1.push _⟩
    (by
      rw [List.take_zero]
      exact newSet_x (Heap.get?_push_of_some _ hS))
  refine up _ fun s' hm hS' => ?_
  obtain ⟨h', g2, d', tk', os'⟩ := s'
  have eg : g2 = s.gens := hm.gens
  have ed : d' = s.drawn := hm.drawn
  have eo : os' = s.os := hm.os
  subst eg; subst ed; subst eo
  show wpAny _ _ _ _ _ _
  refine wpAny_pure ?_
  show wpAny _ _ (ret Value.none) _ _ _
  refine wpAny_pure (h h' tk' hS' fun b o hb e => ?_)
  have hb0 : b < s.heap.objs.size := Heap.lt_size e
  exact hm.heap b o (by simp only [List.mem_cons, List.mem_singleton, List.not_mem_nil, or_false, not_or]; exact ⟨hb, Nat.ne_of_lt hb0⟩) (Heap.get?_push_of_some _ e)
set_option maxHeartbeats 6400000 in
/-- set(t), t a tuple of texts -/
theorem call_setX {l : Addr} {items : Array Value} {ns : List Str} {Q : Value → Shared → Prop} (hh : A.handled = none) (hl : s.heap.IsTuple l items) (hit : ∀ (i : Nat) (v : Value), items[i]? = some v → ∃ k t, ns[i]? = some k ∧ v = .str k t)
    (hz : items.size = ns.length) (hb : ns.length + 1 < scanBound)
    (h : ∀ (h' : Heap) (tk : Nat), SetX w h' s.heap.objs.size ns → (∀ b o, s.heap.get? b = some o → h'.get? b = some o) → Q (.ref s.heap.objs.size) { s with heap := h', toks := tk }) :
    wpAny (model P w) A (call (.type "set") [.ref l]) Q E s := by
  obtain ⟨c, tl, hmro⟩ := F.called_set.mro
  have hmade := F.called_set.made
  have hsub := F.called_set.sub
  refine wpAny_call (codeAny_of_tree ?_)
  show wpAny _ _ (callAny (.type "set") _) _ _ _
  refine wpAny_pure ⟨Code.quiet_builtin _ (by decide +kernel), codeAny_builtin F.entry_type_call ?_⟩
  rw [Around.under_plain (weight_type_call_type "set" [.ref l] []) rfl]
  have h1 := F.called_set.notType
  have h2 := F.called_set.canCreate
  have hct := F.typeCall_set_1 (.ref l)
  repeat (any_goals (first | assumption | wp_step))
  refine codeAny_mono (code_set_led1 (.ref l) (E := E) (Q₁ := fun obj s₁ => obj = .ref s.heap.objs.size ∧ s₁ = { s with heap := s.heap.push (newSet w) }) ⟨rfl, rfl⟩) fun r s₁ hr => ?_
  cases r with
  | error e => exact hr
  | ok fl =>
    cases fl with
    | ret obj =>
      obtain ⟨rfl, rfl⟩ := hr
      have hS : (s.heap.push (newSet w)).get? s.heap.objs.size = some (newSet w) := Heap.get?_push_size _ rfl
      have hT : Shared.TypeIs { s with heap := s.heap.push (newSet w) } (.ref s.heap.objs.size) "set" := ⟨_, hS, rfl⟩
      have hli := F.called_set.init.lookup
      have hbi := F.called_set.init.bind (.ref s.heap.objs.size)
      repeat (any_goals (first | assumption | wp_step))
      refine codeAny_mono (codeAny_call_builtin (R := wants (fun r s₂ => r = .none ∧ ∃ h' tk, s₂ = { s with heap := h', toks := tk } ∧ SetX w h' s.heap.objs.size ns ∧ (∀ b o, s.heap.get? b = some o → h'.get? b = some o)) E) F.called_set.init.plain F.entry_set_init
        (check_set_init_1 hT ?_)) fun r₂ s₂ hr₂ => ?_
      · have hlS : l ≠ s.heap.objs.size := by
          obtain ⟨o, ho, _⟩ := hl
          exact Nat.ne_of_lt (Heap.lt_size ho)
        refine init_x (s := { s with heap := s.heap.push (newSet w) }) (ns := ns) ?hh hS (hl.push _) hlS hit hz hb fun h' tk x k => ⟨rfl, h', tk, rfl, x, fun b o e => k b o (Nat.ne_of_lt (Heap.lt_size e)) (Heap.get?_push_of_some _ e)⟩
        case hh => simp [hh]
      · cases r₂ with
        | error e => exact hr₂
        | ok fl₂ =>
          cases fl₂ with
          | ret r =>
            obtain ⟨rfl, h', tk, rfl, x, k⟩ := hr₂
            repeat (any_goals (first | assumption | wp_step))
            exact h _ _ x k
          | _ => exact hr₂.elim
    | _ => exact hr.elim
end
end Lw

set_option maxHeartbeats 3200000
/-! sorted of a set of texts; both as rules -/
namespace Lw
open PySem PySem.Spec PyProof.Rows L2 PySem.Froz PySem.Calls
open PySem.W (sortingHeap list_sort_vals)
abbrev isTx (v : Value) (k : Str) : Prop := ∃ t, v = .str k t
theorem each_tx {w : World} : ∀ {vs : List Value}, (∀ v ∈ vs, ∃ k t, v = Value.str k t) → PySem.W.EachIs isTx vs (vs.map fun v => xKey (0, v))
  | [], _ => .nil
  | v :: vs, h => by
    obtain ⟨k, t, rfl⟩ := h v List.mem_cons_self
    exact .cons ⟨t, rfl⟩ (each_tx (w := w) fun u hu => h u (List.mem_cons_of_mem _ hu))
theorem tx_vals : ∀ {ps : List Str} {its : List Value}, PySem.W.EachIs isTx its ps → Vals (ps.map V.str) its
  | _, _, .nil => .nil
  | _, _, .cons h1 h2 => .cons (by obtain ⟨t, rfl⟩ := h1; exact ⟨t, rfl⟩) (tx_vals h2)
section
variable {P : Program} {w : World} {A : Around} {E : Value → Shared → Prop} {s : Shared}
theorem sortedX {a : Addr} {ks : List Str} {Q : Value → Shared → Prop} (R : SetX w s.heap a ks) (hh : A.handled = none) (hu : A.units + 20 < cLine)
    (hQ : ∀ s' p (out : Array Value) (c : Nat) (ys : List Str), (∀ b o, s.heap.get? b = some o → s'.heap.get? b = some o) → s'.gens = s.gens → s'.os = s.os → s.heap.objs.size ≤ p →
      s'.heap.get? p = some (seqObj "list" out c) → PySem.W.EachIs isTx out.toList ys → Asc id ys → (∀ k, k ∈ ys ↔ k ∈ ks) → ys.length ≤ ks.length → Q (.ref p) s') :
    wpAny (model P w) A (call (.builtin "sorted") [.ref a]) Q E s := by
  obtain ⟨o, es, ep, t, ho, hex, hd, H, hn, hb, hf, hr, hl⟩ := R
  have b0 : es.size < scanBound := by omega
  have sb : scanBound = 4096 := rfl
  refine Calls.call_function_entry kind_sorted plain_sorted entry_sorted (args_sorted1 _) ?_
  unfold Builtin.«sorted»
  refine wpAny_bind (m := checkCount "sorted" 1 1 _) (wpAny_pure ?_)
  refine wpAny_bind (collect_set (A := A.in1) hh ⟨o, ho, hex.1, hd⟩ hf b0 hr hl fun s1 vs k1 hz g1 o1 pm => ?_)
  have hvl : vs.length ≤ ks.length := by
    rw [pm.length_eq, List.length_map, Array.length_toList]
    exact hn
  have few : vs.length ≤ sizeLine := by rw [sizeLine_eq]; omega
  have str : ∀ v ∈ vs, ∃ k t, v = Value.str k t := fun v hv => by
    obtain ⟨e, he, q⟩ := List.mem_map.mp (pm.mem_iff.mp hv)
    obtain ⟨k, tk, h1, _⟩ := H.1 e he
    exact ⟨k, tk, by rw [← q]; exact h1⟩
  have hI := each_tx (w := w) str
  have pk : (vs.map fun v => xKey (0, v)).Perm (es.toList.map xKey) := by
    have q := pm.map fun v => xKey (0, v)
    rw [List.map_map] at q
    exact q
  generalize vs.map (fun v => xKey (0, v)) = bs at hI pk
  have nd : bs.Nodup := pk.nodup_iff.mpr H.2.1
  have hal : PySem.W.AllAlike (bs.map PyData.str) := PySem.W.AllAlike.of (enc := PyData.str) fun b b' => by simp [PySem.W.alike]
  have hso : PySem.W.Sortable (bs.map PyData.str) := PySem.W.Sortable.others (enc := PyData.str) fun b => ⟨nofun, nofun⟩
  have er : ∀ h' : Heap, PySem.W.EachIs (fun v b => ∃ as, PySem.Reads h' v (PyData.str b) as) vs bs := fun h' => hI.mono fun v b ⟨t, e⟩ => ⟨[], by subst e; exact .str b t⟩
  refine wpAny_bind (wpAny_newList ?_ few)
  have hoL : (s1.heap.push (seqObj "list" vs.toArray 0)).get? s1.heap.objs.size = some (seqObj "list" vs.toArray 0) := Heap.get?_push_size _ rfl
  have S := PySem.W.SortsAt.data (prog := P) (w := w) (A := A.in1.in1) (s := { s1 with heap := sortingHeap (s1.heap.push (seqObj "list" vs.toArray 0)) s1.heap.objs.size vs })
    (PySem.W.each_map (R := fun v d => ∃ as, PySem.Reads _ v d as) PyData.str (er _)) hal hso (fun d hd => by
      obtain ⟨b, _, rfl⟩ := List.mem_map.mp hd
      simp [PyData.depth]
      omega)
  have got := PySem.W.sortVals_data false hI (er (sortingHeap (s1.heap.push (seqObj "list" vs.toArray 0)) s1.heap.objs.size vs)) hal
  refine wpAny_bind (wpAny_holding (wpAny_call_entry slot_list_sort ⟨_, hoL, rfl⟩ entry_list_sort ?run (args_list_sort _)))
  case run =>
    refine wpAny_mono (list_sort_vals (s := { s1 with heap := s1.heap.push (seqObj "list" vs.toArray 0) }) (P := fun f s' => f = .done (.ret .none) ∧ s' = { s1 with heap := sortedHeap (s1.heap.push (seqObj "list" vs.toArray 0)) s1.heap.objs.size vs (PySem.W.sortVals (PySem.W.dataKind (sortingHeap (s1.heap.push (seqObj "list" vs.toArray 0)) s1.heap.objs.size vs) (bs.map PyData.str)) false vs vs).toArray }) hoL S few ⟨rfl, rfl⟩) (fun f s' hf => ?_) fun _ _ z => z
    obtain ⟨rfl, rfl⟩ := hf
    refine ⟨_, rfl, ?_⟩
    obtain ⟨c, hc⟩ := sortedHeap_at (vs := vs) (out := (PySem.W.sortVals (PySem.W.dataKind (sortingHeap (s1.heap.push (seqObj "list" vs.toArray 0)) s1.heap.objs.size vs) (bs.map PyData.str)) false vs vs).toArray) hoL
    refine wpAny_pure ⟨_, rfl, hQ _ s1.heap.objs.size _ c (srtN bs) (fun b u e => ?_) g1 o1 hz hc (by rw [List.toList_toArray]; exact got) (srtN_asc nd) (fun k => ?_) ?_⟩
    · have q := k1 b u e
      have hlt := Heap.lt_size q
      show (sortedHeap (s1.heap.push (seqObj "list" vs.toArray 0)) s1.heap.objs.size vs _).get? b = some u
      rw [sortedHeap_old (Nat.ne_of_lt hlt) (by rw [size_push']; exact Nat.lt_succ_of_lt hlt)]
      exact Heap.get?_push_of_some _ q
    · rw [(srtN_perm bs).mem_iff, pk.mem_iff]
      exact H.2.2 k
    · rw [(srtN_perm bs).length_eq, pk.length_eq, List.length_map, Array.length_toList]
      exact hn
end
/-- the set of the texts ks at a -/
def SetXO (w : World) (a : Addr) (ks : List Str) : HO := .ext fun h => SetX w h a ks
theorem setXO_new {w : World} {P : Program} {H : Hp} {h : Heap} {a : Addr} {ks : List Str} (R : SetX w h a ks) : ObjOk P w H h a (SetXO w a ks) := by
  have ⟨o, _, _, _, ho, _⟩ := R
  exact ⟨R, ⟨o, ho⟩, fun h1 h2 p k => SetX.at p k⟩
/-- set(t), t a tuple of texts -/
def rSetX (K : PySem.W.Frag) (w : World) : List V → Hp → VK → Prop := fun xs H Q => ∃ (l : Addr) (ns : List Str), xs = [.ref l] ∧ SqT K H l (ns.map V.str) ∧ ns.length ≤ 4000 ∧ ∀ a, H a = none → Q (.ref a) (upd H a (SetXO w a ns))
theorem str_at : ∀ {ns : List Str} {us : List Value}, Vals (ns.map V.str) us → us.length = ns.length ∧ ∀ (i : Nat) (v : Value), us[i]? = some v → ∃ k t, ns[i]? = some k ∧ v = .str k t
  | [], _, .nil => ⟨rfl, fun i v h => by simp at h⟩
  | n :: ns, _, .cons r t => by
    obtain ⟨h1, h2⟩ := str_at t
    refine ⟨by simp [h1], fun i v h => ?_⟩
    cases i with
    | zero =>
      obtain ⟨tk, rfl⟩ := r
      cases h
      exact ⟨n, tk, rfl, rfl⟩
    | succ i => exact h2 i v h
theorem cr_setX {X : Cx} (hc : X.calm = true) : CallR X (.type "set") (rSetX X.K X.w) := by
  intro pins s σ H xs us Q I r h
  obtain ⟨l, ns, rfl, hl, hf, q⟩ := h
  rw [Vals.ref1 r]
  obtain ⟨its, rv, pl, hz⟩ := I.tuple hl
  have hn : H s.heap.objs.size = none := I.hok.fresh (Nat.le_refl _)
  obtain ⟨h1, h2⟩ := str_at rv
  have sb : scanBound = 4096 := rfl
  refine call_setX (P := X.prog) (w := X.w) (ns := ns) (I.ok.hd hc) pl (fun i v hv => h2 i v (by simpa using hv)) (by simpa using h1) (by omega) fun h' tk x k => ?_
  exact ⟨.ref s.heap.objs.size, upd H s.heap.objs.size (SetXO X.w s.heap.objs.size ns), I.laid (t' := tk) k (Nat.le_refl _) (setXO_new x), rfl, q _ hn⟩
/-- sorted(set of texts) -/
def rSortedX (w : World) : List V → Hp → VK → Prop := fun vs H Q => ∃ (a : Addr) (ks : List Str), vs = [V.ref a] ∧ H a = some (SetXO w a ks) ∧
  ∀ (ys : List Str) (p : Addr), Asc id ys → (∀ k, k ∈ ys ↔ k ∈ ks) → H p = none → Q (.ref p) (upd H p (.lst (ys.map V.str)))
theorem cr_sortedX {X : Cx} {k : Nat} (hc : X.calm = true) (hr : Room k X.A) : CallR X (.builtin "sorted") (rSortedX X.w) := by
  intro pins s σ H vs us Q I r h
  obtain ⟨a, ks, rfl, ha, q⟩ := h
  have R : SetX X.w s.heap a ks := (I.hok a _ ha).1
  rw [Vals.ref1 r]
  have room := hr.units
  refine sortedX R (I.ok.hd hc) (by omega) fun s' p out c ys k g o hp hg hi hs hm hle => ?_
  have sb : scanBound = 4096 := rfl
  have lk : ks.length ≤ 4096 := by
    obtain ⟨_, _, _, _, _, _, _, _, _, z, _⟩ := R
    omega
  have hlen : (ys.map V.str).length ≤ sizeLine := by rw [List.length_map, sizeLine_eq]; omega
  have hn : H p = none := I.hok.fresh hp
  have J : Inv X pins σ (upd H p (.lst (ys.map V.str))) { s with heap := s'.heap, gens := s'.gens, drawn := s'.drawn, toks := s'.toks } :=
    I.call (ch := []) (Un.laid k hp hn) (I.hok.laid k hp ⟨hlen, out.toList, c, tx_vals hi, hg⟩) (by rw [g]; exact I.bare) (fun _ z => nomatch z)
  have e : s' = { s with heap := s'.heap, gens := s'.gens, drawn := s'.drawn, toks := s'.toks } := by
    cases s'
    cases s
    cases o
    rfl
  rw [e]
  exact ⟨.ref p, _, J, rfl, q ys p hs hm hn⟩
end Lw

set_option maxHeartbeats 2000000
namespace Lw
open PySem PySem.Spec PyProof.Rows L2
open Evl (EvL EvA EvT RC)
abbrev nm__law_draw : List Str := ["_law_pen_here", "_law_many", "_law_digit", "_law_used", "_law_cell", "_law_mixed"]
theorem sc__law_draw : FnScope nm__law_draw ["_law_pen_here", "_law_many"] (defScope (top 38)) := ⟨rfl, rfl, rfl, by decide +kernel, rfl, by decide +kernel, by decide +kernel⟩
abbrev nm__law_pick : List Str := ["_law_pen_here", "_law_options"]
theorem sc__law_pick : FnScope nm__law_pick ["_law_pen_here", "_law_options"] (defScope (top 39)) := ⟨rfl, rfl, rfl, by decide +kernel, rfl, by decide +kernel, by decide +kernel⟩
abbrev nm__law_shuffled : List Str := ["_law_pen_here", "_law_items", "_law_rest", "_law_found"]
theorem sc__law_shuffled : FnScope nm__law_shuffled ["_law_pen_here", "_law_items"] (defScope (top 40)) := ⟨rfl, rfl, rfl, by decide +kernel, rfl, by decide +kernel, by decide +kernel⟩
section
variable {P : Program} {w : World} {K : PySem.W.Frag} {mg : Str → Option Value} {base : Heap}
theorem ev_abs {σ : St} {H : Hp} {ta : TE} {i : Int} (h : Evl.Ev ta σ H (.int i)) : Evl.Ev (tCB (fun xs H Q => ∃ i, xs = [V.int i] ∧ Q (.int (if i < 0 then -i else i)) H) (tCons ta tNil)) σ H (.int (if i < 0 then -i else i)) :=
  Evl.ev_cb (Evl.ea_cons h Evl.ea_nil) fun H1 _ _ q => ⟨i, rfl, q H1 (Evl.Ex.refl _)⟩
theorem ev_lenT {σ : St} {H : Hp} {ta : TE} {a : Addr} {xs : List V} (h : Evl.Ev ta σ H (.ref a)) (hs : SqL K H a xs ∨ SqT K H a xs) :
    Evl.Ev (tCB (fun xs H Q => ∃ p ys, xs = [V.ref p] ∧ (SqL K H p ys ∨ SqT K H p ys) ∧ Q (.int ys.length) H) (tCons ta tNil)) σ H (.int xs.length) :=
  Evl.ev_cb (Evl.ea_cons h Evl.ea_nil) fun H1 e _ q => ⟨a, xs, rfl, hs.elim (fun z => .inl (Evl.ex_l e z)) (fun z => .inr (Evl.ex_t e z)), q H1 (Evl.Ex.refl _)⟩
abbrev bl : List Str := ["len", "abs", "range", "list", "tuple", "int", "min", "max", "sorted", "str", "repr", "isinstance", "bool", "enumerate", "zip", "dict", "set", "any", "all", "sum", "type"]
theorem ok_draw {f : Addr} {fd : FuncData} {k : Nat} (F : Fun K "_law_draw" "_law_draw" (top 38) f fd) (T : Bs mg bl) : FnOk P w K mg base CX0 (k + 1) f fd ["_law_pen_here", "_law_many"] spDraw := by
  refine F.ok sc__law_draw (fun vs H Q E h => ?_) (fun cdv A outer s H vs Q E hr h => ?_)
  · obtain ⟨p, c, m, n, rfl, _⟩ := h
    rfl
  · obtain ⟨p, c, m, n, rfl, hP, hn, m0, m1, q⟩ := h
    refine ⟨_, (pss_cons (ps_if (pt_cmpR op_gt (pe_dget (hu_of hr) (pv 0) pe_str (fun _ _ => rfl)) pe_int (nomark _)) (pss_cons (ps_set (i := 2) sc__law_draw.nd rfl (Or.inl rfl) (pe_op op_mod (pe_dget (hu_of hr) (pv 0) pe_str (fun _ _ => rfl)) (pv 1)))
      (pss_cons (ps_dput (hu_of hr) (pv 0) pe_str (pe_op op_fdiv (pe_dget (hu_of hr) (pv 0) pe_str (fun _ _ => rfl)) (pv 1)) rfl)
      (pss_one (ps_ret (pv 2))))) pss_nil)
      (pss_cons (ps_set (i := 3) sc__law_draw.nd rfl (Or.inl rfl) (pe_dget (hu_of hr) (pv 0) pe_str (fun _ _ => rfl)))
      (pss_cons (ps_dput (hu_of hr) (pv 0) pe_str (pe_op op_add (pv 3) pe_int) rfl)
      (pss_cons (ps_set (i := 4) sc__law_draw.nd rfl (Or.inl rfl) (pe_op op_add (pe_op op_mul pe_int (pv 3)) pe_int))
      (pss_cons (ps_if (pt_cmpR (op_neNil (hu64 hr)) (pe_dget (hu_of hr) (pv 0) pe_str (fun _ _ => rfl)) (pe_lst pa_nil) (nomark _)) (pss_one (ps_set (i := 4) sc__law_draw.nd rfl (Or.inl rfl) (pe_ix ix_list (pe_dget (hu_of hr) (pv 0) pe_str (fun _ _ => rfl)) (pe_op op_mod (pv 3) (pe_callB call_len_seq (by rfl) (T.b "len" (by decide)) (by decide +kernel) (pa_cons (pe_dget (hu_of hr) (pv 0) pe_str (fun _ _ => rfl)) pa_nil))) (fun _ _ => rfl)))) pss_nil)
      (pss_cons (ps_if (PW.pt (pw_and (pt_cmpR op_lt (pv 3) (pe_callB call_len_seq (by rfl) (T.b "len" (by decide)) (by decide +kernel) (pa_cons (pe_dget (hu_of hr) (pv 0) pe_str (fun _ _ => rfl)) pa_nil)) (nomark _)) (pw_and1 (pt_cmpR op_ge (pe_callB call_abs (by rfl) (T.b "abs" (by decide)) (by decide +kernel) (pa_cons (pv 4) pa_nil)) (pe_op op_pow pe_int pe_int) (nomark _))))) (pss_cons (ps_dput (hu_of hr) (pv 0) pe_str (pe_op op_fdiv (pe_op op_sub (pe_callB call_abs (by rfl) (T.b "abs" (by decide)) (by decide +kernel) (pa_cons (pv 4) pa_nil)) (pe_op op_pow pe_int pe_int)) (pv 1)) rfl)
      (pss_one (ps_ret (pe_op op_mod (pe_op op_sub (pe_callB call_abs (by rfl) (T.b "abs" (by decide)) (by decide +kernel) (pa_cons (pv 4) pa_nil)) (pe_op op_pow pe_int pe_int)) (pv 1))))) pss_nil)
      (pss_cons (ps_set (i := 5) sc__law_draw.nd rfl (Or.inl rfl) (pe_op op_mod (pe_op op_add (pe_op op_add (pe_op op_add (pe_op op_mul (pe_op op_mod (pv 4) pe_int) pe_int) (pe_op op_mul (pe_op op_mul pe_int (pv 3)) (pv 3))) (pe_op op_mul pe_int (pv 3))) pe_int) pe_int))
      (pss_cons (ps_set (i := 5) sc__law_draw.nd rfl (Or.inl rfl) (pe_op op_mod (pe_op op_add (pe_op op_add (pe_op op_add (pe_op op_mul (pv 5) (pv 5)) (pe_op op_mul pe_int (pv 5))) (pe_op op_mul pe_int (pv 3))) pe_int) pe_int))
      (pss_one (ps_ret (pe_op op_mod (pe_op op_fdiv (pe_op op_mod (pe_op op_mul (pv 5) (pe_op op_add (pv 5) pe_int)) pe_int) pe_int) (pv 1)))))))))))), ?_⟩
    obtain ⟨cs, u, l, hp, hc, hcs, u0, un⟩ := hP
    have far : c ≠ p := fun z => by
      rw [z, hp] at hc
      exact nomatch hc
    have done : ∀ (u' l' : Int) (H3 H4 : Hp), But p H H3 → H3 c = some (.lst (cs.map V.int)) → Evl.Ex (upd H3 p (penO c u' l')) H4 → 0 ≤ u' → u' ≤ (n + 1 : Nat) → But p H H4 ∧ Pen p c (n + 1) H4 := fun u' l' H3 H4 b1 h3 e4 z1 z2 =>
      ⟨(b1.trans But.put).trans (But.of e4), cs, u', l', e4 _ _ upd_same, e4 _ _ (by rw [upd_ne far]; exact h3), hcs, z1, z2⟩
    have cell : ∀ j : Int, 0 ≤ j → j < cs.length → ∃ x, (cs.map V.int)[j.toNat]? = some (.int x) := fun j j0 j1 => by
      have hj : j.toNat < cs.length := by omega
      exact ⟨cs[j.toNat], by rw [List.getElem?_map, List.getElem?_eq_getElem hj]; rfl⟩
    refine Evl.q_when (b := decide (0 < l)) (Evl.et_test (Evl.ev_op (ev_left hp (Evl.ev_var rfl)) Evl.ev_c Evl.rv_I0)) (fun hb H1 e1 => ?_) (fun hb H1 e1 => ?_)
    · refine Evl.q_asg (Evl.ev_op (ev_left (e1 _ _ hp) (Evl.ev_var rfl)) (Evl.ev_var rfl) (Evl.rv_I m0)) fun H2 e2 => ?_
      refine q_left (e2 _ _ (e1 _ _ hp)) (Evl.ev_op (ev_left (e2 _ _ (e1 _ _ hp)) (Evl.ev_var rfl)) (Evl.ev_var rfl) (Evl.rv_I ⟨m0, m1⟩)) (Evl.ev_var rfl) fun H3 e3 => ?_
      have e13 := (e1.trans e2).trans e3
      refine Evl.s_ret (Evl.ev_var rfl) fun H4 e4 => ?_
      obtain ⟨d1, d2⟩ := done u (l / m) H3 H4 (But.of e13) (e13 _ _ hc) e4 u0 (by omega)
      exact q _ H4 (Int.emod_nonneg _ (by omega)) (Int.emod_lt_of_pos _ m0) d1 d2
    · refine Evl.q_asg (ev_used (e1 _ _ hp) (Evl.ev_var rfl)) fun H2 e2 => ?_
      have e12 := e1.trans e2
      refine q_used (e12 _ _ hp) (Evl.ev_op (Evl.ev_var rfl) Evl.ev_c Evl.rv_I0) (Evl.ev_var rfl) fun H3 e3 => ?_
      have e13 := e12.trans e3
      generalize hH : upd H3 p (penO c (u + 1) l) = H3'
      have hp3 : H3' p = some (penO c (u + 1) l) := by
        rw [← hH]
        exact upd_same
      have hc3 : H3' c = some (.lst (cs.map V.int)) := by
        rw [← hH, upd_ne far]
        exact e13 _ _ hc
      have b3 : But p H H3' := by
        rw [← hH]
        exact (But.of e13).trans But.put
      refine Evl.q_asg (Evl.ev_op (Evl.ev_op Evl.ev_c (Evl.ev_var rfl) (Evl.rv_I (Or.inl (by decide)))) Evl.ev_c Evl.rv_I0) fun H4 e4 => ?_
      refine q_whenAsg (fun v => ∃ x, v = V.int x) (et_neNil (ev_cells (e4 _ _ hp3) (Evl.ev_var rfl)) (Evl.sq_of (e4 _ _ hc3))) (fun hb => ?_) (fun hb => ⟨_, rfl, _, rfl⟩) ?_
      · have len0 : 0 < cs.length := by
          cases cs with
          | nil => exact absurd hb (by simp)
          | cons z zs => exact Nat.succ_pos _
        have j0 : 0 ≤ u % ((cs.map V.int).length : Int) := Int.emod_nonneg _ (by rw [List.length_map]; omega)
        have j1 : u % ((cs.map V.int).length : Int) < cs.length := by
          rw [List.length_map]
          exact Int.emod_lt_of_pos _ (by omega)
        obtain ⟨x, hx⟩ := cell _ j0 j1
        exact ⟨_, Evl.ev_op (ev_cells (e4 _ _ hp3) (Evl.ev_var rfl)) (Evl.ev_op (Evl.ev_var rfl) (ev_lenT (ev_cells (e4 _ _ hp3) (Evl.ev_var rfl)) (.inl (Evl.sq_of (e4 _ _ hc3)))) (Evl.rv_I (by rw [List.length_map]; omega)))
          (Evl.rv_ixL (Evl.sq_of (e4 _ _ hc3)) (atI_some j0 hx)), x, rfl⟩
      · rintro v ⟨x, rfl⟩ H5 e5
        have e35 := e4.trans e5
        generalize hx : (if x < 0 then -x else x) = y
        refine Evl.q_when (Evl.et_and (Evl.et_test (Evl.ev_op (Evl.ev_var rfl) (ev_lenT (ev_cells (e35 _ _ hp3) (Evl.ev_var rfl)) (.inl (Evl.sq_of (e35 _ _ hc3)))) Evl.rv_I0)) fun _ =>
          Evl.et_test (Evl.ev_op (ev_abs (i := x) (Evl.ev_var rfl)) (Evl.ev_op Evl.ev_c Evl.ev_c rv_big) Evl.rv_I0)) (fun hb H6 e6 => ?_) (fun hb H6 e6 => ?_)
        · have e36 := e35.trans e6
          refine q_left (e36 _ _ hp3) (Evl.ev_op (Evl.ev_op (ev_abs (i := x) (Evl.ev_var rfl)) (Evl.ev_op Evl.ev_c Evl.ev_c rv_big) Evl.rv_I0) (Evl.ev_var rfl) (Evl.rv_I ⟨m0, m1⟩)) (Evl.ev_var rfl) fun H7 e7 => ?_
          refine Evl.s_ret (Evl.ev_op (Evl.ev_op (ev_abs (i := x) (Evl.ev_var rfl)) (Evl.ev_op Evl.ev_c Evl.ev_c rv_big) Evl.rv_I0) (Evl.ev_var rfl) (Evl.rv_I m0)) fun H8 e8 => ?_
          obtain ⟨d1, d2⟩ := done (u + 1) _ H7 H8 (b3.trans (But.of (e36.trans e7))) ((e36.trans e7) _ _ hc3) e8 (by omega) (by omega)
          exact q _ H8 (Int.emod_nonneg _ (by omega)) (Int.emod_lt_of_pos _ m0) d1 d2
        · have e36 := e35.trans e6
          have ub : -(2 ^ 64) < u ∧ u < 2 ^ 64 := ⟨by omega, by omega⟩
          refine Evl.q_asg (Evl.ev_op (Evl.ev_op (Evl.ev_op (Evl.ev_op (Evl.ev_op (Evl.ev_op (x := .int x) (Evl.ev_var rfl) Evl.ev_c (Evl.rv_I (by decide))) Evl.ev_c (Evl.rv_I (Or.inr (by decide)))) (Evl.ev_op (Evl.ev_op Evl.ev_c (Evl.ev_var rfl) (Evl.rv_I (Or.inl (by decide)))) (Evl.ev_var rfl) (Evl.rv_I (Or.inr ub))) Evl.rv_I0)
            (Evl.ev_op Evl.ev_c (Evl.ev_var rfl) (Evl.rv_I (Or.inl (by decide)))) Evl.rv_I0) Evl.ev_c Evl.rv_I0) Evl.ev_c (Evl.rv_I (by decide))) fun H7 e7 => ?_
          have z0 := Int.emod_nonneg (x % 2147483647 * 39373 + 52501 * u * u + 8117 * u + 23) (b := 2147483629) (by decide)
          have z1 := Int.emod_lt_of_pos (x % 2147483647 * 39373 + 52501 * u * u + 8117 * u + 23) (b := 2147483629) (by decide)
          generalize (x % 2147483647 * 39373 + 52501 * u * u + 8117 * u + 23) % 2147483629 = z at z0 z1 ⊢
          have zb : -(2 ^ 64) < z ∧ z < 2 ^ 64 := ⟨by omega, by omega⟩
          refine Evl.q_asg (Evl.ev_op (Evl.ev_op (Evl.ev_op (Evl.ev_op (Evl.ev_op (x := .int z) (Evl.ev_var rfl) (Evl.ev_var rfl) (Evl.rv_I (Or.inl zb))) (Evl.ev_op Evl.ev_c (Evl.ev_var rfl) (Evl.rv_I (Or.inl (by decide)))) Evl.rv_I0) (Evl.ev_op Evl.ev_c (Evl.ev_var rfl) (Evl.rv_I (Or.inl (by decide)))) Evl.rv_I0) Evl.ev_c Evl.rv_I0) Evl.ev_c
            (Evl.rv_I (by decide))) fun H8 e8 => ?_
          have y0 := Int.emod_nonneg (z * z + 28411 * z + 11 * u + 5) (b := 2147483587) (by decide)
          have y1 := Int.emod_lt_of_pos (z * z + 28411 * z + 11 * u + 5) (b := 2147483587) (by decide)
          generalize (z * z + 28411 * z + 11 * u + 5) % 2147483587 = v at y0 y1 ⊢
          have vb : -(2 ^ 64) < v ∧ v < 2 ^ 64 := ⟨by omega, by omega⟩
          refine Evl.s_ret (Evl.ev_op (Evl.ev_op (Evl.ev_op (Evl.ev_op (x := .int v) (Evl.ev_var rfl) (Evl.ev_op (Evl.ev_var rfl) Evl.ev_c Evl.rv_I0) (Evl.rv_I (Or.inl vb))) Evl.ev_c (Evl.rv_I (by decide))) Evl.ev_c (Evl.rv_I ⟨by decide, by decide⟩)) (Evl.ev_var rfl) (Evl.rv_I m0)) fun H9 e9 => ?_
          have e39 := ((e36.trans e7).trans e8).trans e9
          refine q _ H9 (Int.emod_nonneg _ (by omega)) (Int.emod_lt_of_pos _ m0) (b3.trans (But.of e39)) ⟨cs, u + 1, l, e39 _ _ hp3, e39 _ _ hc3, hcs, by omega, by omega⟩
/-- one of the items of a list or a tuple -/
def spPick (K : PySem.W.Frag) : Sp := fun vs H Q _ => ∃ (p c a : Addr) (xs : List V) (n : Nat), vs = [V.ref p, .ref a] ∧ Pen p c n H ∧ n ≤ 1000000 ∧ (SqL K H a xs ∨ SqT K H a xs) ∧ a ≠ p ∧ 0 < xs.length ∧ xs.length < 100000 ∧
  ∀ v H', v ∈ xs → But p H H' → Pen p c (n + 1) H' → Q v H'
/-- one of the signs of a text -/
def spPickS : Sp := fun vs H Q _ => ∃ (p c : Addr) (z : Str) (n : Nat), vs = [V.ref p, .str z] ∧ Pen p c n H ∧ n ≤ 1000000 ∧ 0 < z.length ∧ z.length < 100000 ∧
  ∀ e H', e ∈ z.cps.toList → But p H H' → Pen p c (n + 1) H' → Q (.str ⟨#[e]⟩) H'
def spPicks (K : PySem.W.Frag) : Sp := fun vs H Q E => spPick K vs H Q E ∨ spPickS vs H Q E
theorem But.rd {p a : Addr} {H H' : Hp} {u : HO} (e : But p H H') (n : a ≠ p) (h : Rd H a u) : Rd H' a u := h.elim (fun z => .inl (e _ _ n z)) fun ⟨o, z⟩ => .inr ⟨o, e _ _ n z⟩
theorem But.seq {p a : Addr} {H H' : Hp} {xs : List V} (e : But p H H') (n : a ≠ p) (h : SqL K H a xs) : SqL K H' a xs := h.elim (fun z => .inl (e.rd n z)) .inr
theorem But.tup {p a : Addr} {H H' : Hp} {xs : List V} (e : But p H H') (n : a ≠ p) (h : SqT K H a xs) : SqT K H' a xs := h.elim (fun z => .inl (e.rd n z)) .inr
theorem ok_pick {f fD : Addr} {fd dD : FuncData} {k : Nat} (F : Fun K "_law_pick" "_law_pick" (top 39) f fd) (T : Bs mg bl) (F_law_draw : Cf P w K mg base "_law_draw" ["_law_pen_here", "_law_many"] k spDraw fD dD) :
    FnOk P w K mg base CX0 (k + 1) f fd ["_law_pen_here", "_law_options"] (spPicks K) := by
  refine F.ok sc__law_pick (fun vs H Q E h => ?_) (fun cdv A outer s H vs Q E hr h => ?_)
  · rcases h with ⟨p, c, a, xs, n, rfl, _⟩ | ⟨p, c, z, n, rfl, _⟩ <;> rfl
  · refine ⟨_, (pss_one (ps_ret (pe_ix ix_seq (pv 1) (pe_cf F_law_draw (hr.mono (by omega)) (by rfl) (pa_cons (pv 0) (pa_cons (pe_callB (CallR.or call_len_seq call_len_str) (by rfl) (T.b "len" (by decide)) (by decide +kernel) (pa_cons (pv 1) pa_nil)) pa_nil))) (fun _ _ => rfl)))), ?_⟩
    rcases h with ⟨p, c, a, xs, n, rfl, hP, hn, ha, far, l0, l1, q⟩ | ⟨p, c, z, n, rfl, hP, hn, l0, l1, q⟩
    · refine ⟨.ref a, rfl, .ref p, rfl, .ref a, rfl, .inl ⟨a, xs, rfl, ha, p, c, xs.length, n, rfl, hP, hn, by omega, by omega, fun d H1 d0 d1 b1 P1 => ?_⟩⟩
      have hd : d.toNat < xs.length := by omega
      have hx : xs[d.toNat]? = some xs[d.toNat] := List.getElem?_eq_getElem hd
      have hm : xs[d.toNat] ∈ xs := List.getElem_mem hd
      rcases ha with ha | ha
      · exact .inl ⟨a, xs, d, _, rfl, rfl, b1.seq far ha, atI_some d0 hx, q _ H1 hm b1 P1⟩
      · exact .inr (.inl ⟨a, xs, d, _, rfl, rfl, b1.tup far ha, atI_some d0 hx, q _ H1 hm b1 P1⟩)
    · refine ⟨.str z, rfl, .ref p, rfl, .str z, rfl, .inr ⟨z, rfl, Evl.sz_of (by omega), p, c, z.length, n, rfl, hP, hn, by omega, by omega, fun d H1 d0 d1 b1 P1 => ?_⟩⟩
      have hd : d.toNat < z.cps.toList.length := by
        have : z.length = z.cps.toList.length := rfl
        omega
      have hx : z.cps.toList[d.toNat]? = some z.cps.toList[d.toNat] := List.getElem?_eq_getElem hd
      exact .inr (.inr ⟨z, d, _, rfl, rfl, Evl.sz_of (by omega), atI_some d0 hx, q _ H1 (List.getElem_mem hd) b1 P1⟩)
end
end Lw

set_option maxHeartbeats 2000000
namespace Lw
open PySem PySem.Spec PyProof.Rows L2
open Evl (EvL EvA EvT RC)
section
variable {P : Program} {w : World} {K : PySem.W.Frag} {mg : Str → Option Value} {base : Heap}
/-- the items in some order -/
def spShuf (K : PySem.W.Frag) : Sp := fun vs H Q _ => ∃ (p c a : Addr) (xs : List V) (n : Nat), vs = [V.ref p, .ref a] ∧ Pen p c n H ∧ n ≤ 900000 ∧ (SqL K H a xs ∨ SqT K H a xs) ∧ a ≠ p ∧ xs.length ≤ 1000 ∧
  ∀ q ys H', ys.Perm xs → H q = none → But p H H' → H' q = some (.lst ys) → Pen p c (n + xs.length) H' → Q (.ref q) H'
theorem seqIndex_nat {i : Int} {n : Nat} (h0 : 0 ≤ i) (h1 : i < n) : seqIndex? i n = some i.toNat := by
  simp [seqIndex?, show ¬ i < 0 by omega, h0, h1]
theorem cut_perm {α : Type} : ∀ (xs : List α) (i : Nat) (h : i < xs.length), (xs[i] :: xs.eraseIdx i).Perm xs
  | x :: xs, 0, _ => List.Perm.refl _
  | x :: xs, i + 1, h => (List.Perm.swap x _ _).trans ((cut_perm xs i (Nat.lt_of_succ_lt_succ h)).cons x)
theorem ok_shuffled {f fD : Addr} {fd dD : FuncData} {k : Nat} (F : Fun K "_law_shuffled" "_law_shuffled" (top 40) f fd) (T : Bs mg bl) (F_law_draw : Cf P w K mg base "_law_draw" ["_law_pen_here", "_law_many"] k spDraw fD dD) :
    FnOk P w K mg base CX0 (k + 1) f fd ["_law_pen_here", "_law_items"] (spShuf K) := by
  refine F.ok sc__law_shuffled (fun vs H Q E h => ?_) (fun cdv A outer s H vs Q E hr h => ?_)
  · obtain ⟨p, c, a, xs, n, rfl, _⟩ := h
    rfl
  · obtain ⟨p, c, a, xs, n, rfl, hP, hn, ha, far, l1, q⟩ := h
    refine ⟨_, (pss_cons (ps_par (i := 2) (j := 3) rfl sc__law_shuffled.nd rfl rfl (by decide) rfl rfl (pa_cons (pe_callTy call_list_of (by rfl) (T.b "list" (by decide)) (by decide +kernel) (pa_cons (pv 1) pa_nil)) (pa_cons (pe_lst pa_nil) pa_nil)) (by rfl))
      (pss_cons (ps_while PassesOwn.never (pt_cmpR (op_neNil (hu64 hr)) (pv 2) (pe_lst pa_nil) (nomark _)) (pss_one (ps_expr (pe_bm PySem.F.plainAttrs_list PySem.F.slot_list_append PySem.F.type_list_append mt_append (pv 3) (pa_cons (pe_bm PySem.F.plainAttrs_list PySem.F.slot_list_pop PySem.F.type_list_pop mt_popAt (pv 2) (pa_cons (pe_cf F_law_draw (hr.mono (by omega)) (by rfl) (pa_cons (pv 0) (pa_cons (pe_callB call_len_seq (by rfl) (T.b "len" (by decide)) (by decide +kernel) (pa_cons (pv 2) pa_nil)) pa_nil))) pa_nil)) pa_nil)))))
      (pss_one (ps_ret (pv 3))))), ?_⟩
    refine ⟨.ref a, rfl, a, xs, rfl, ha, fun ro nro => ?_⟩
    generalize hH1 : upd H ro (.lst xs) = H1
    have e1 : Evl.Ex H H1 := by
      rw [← hH1]
      exact Evl.Ex.new nro
    have l1ro : H1 ro = some (.lst xs) := by
      rw [← hH1]
      exact upd_same
    refine ⟨Nat.zero_le _, fun fo nfo => ?_⟩
    have nfo0 : H fo = none := Evl.fresh_back e1 nfo
    have rofo : ro ≠ fo := fun z => by
      rw [z, nfo] at l1ro
      exact nomatch l1ro
    refine ⟨_, _, rfl, ?_⟩
    have P0 : Pen p c n (upd H1 fo (.lst [])) := (hP.ex e1).mut (hP.far nfo0)
    refine Evl.q_while (fun m σ' H' => ∃ rest found, m = rest.length ∧ σ' = [some (.ref p), some (.ref a), some (.ref ro), some (.ref fo)] ∧ But p H H' ∧ H' ro = some (.lst rest) ∧ H' fo = some (.lst found) ∧ (found ++ rest).Perm xs ∧ Pen p c (n + found.length) H')
      xs.length ⟨xs, [], rfl, rfl, (But.of e1).mut nfo0, ?_, upd_same, List.Perm.refl _, P0⟩ ?_
    · rw [upd_ne rofo]
      exact l1ro
    · rintro m σ' H' ⟨rest, found, rfl, rfl, b1, hr1, hf1, pm, P1⟩
      refine ⟨!rest.isEmpty, et_neNil (Evl.ev_var rfl) (Evl.sq_of hr1), fun hb H2 e2 => ?_, fun hb H2 e2 => ?_⟩
      · have len0 : 0 < rest.length := by
          cases rest with
          | nil => exact absurd hb (by simp)
          | cons z zs => exact Nat.succ_pos _
        have lens : found.length + rest.length = xs.length := by
          rw [← List.length_append]
          exact pm.length_eq
        refine ⟨fun σ3 H3 => ∃ m', m' < rest.length ∧ ∃ rest found, m' = rest.length ∧ σ3 = [some (.ref p), some (.ref a), some (.ref ro), some (.ref fo)] ∧ But p H H3 ∧ H3 ro = some (.lst rest) ∧ H3 fo = some (.lst found) ∧ (found ++ rest).Perm xs ∧ Pen p c (n + found.length) H3, fun _ _ z => z, ?_⟩
        refine ⟨.ref fo, rfl, .inl ⟨rfl, _, Evl.sq_of (e2 _ _ hf1)⟩, .ref ro, rfl, .inl ⟨rfl, _, Evl.sq_of (e2 _ _ hr1)⟩, .ref p, rfl, .ref ro, rfl, ro, rest, rfl, .inl (Evl.sq_of (e2 _ _ hr1)), p, c, rest.length, n + found.length, rfl, P1.ex e2, by omega, by omega, by omega, fun d H3 d0 d1 b3 P3 => ?_⟩
        have hd : d.toNat < rest.length := by omega
        have nro1 : ro ≠ p := (hP.far nro).1
        have nfo1 : fo ≠ p := (hP.far nfo0).1
        have hr3 : H3 ro = some (.lst rest) := b3 _ _ nro1 (e2 _ _ hr1)
        have hf3 : H3 fo = some (.lst found) := b3 _ _ nfo1 (e2 _ _ hf1)
        refine ⟨ro, rest, d, d.toNat, rest[d.toNat], rfl, rfl, hr3, by omega, by omega, seqIndex_nat d0 d1, List.getElem?_eq_getElem hd, ?_⟩
        refine ⟨fo, found, _, rfl, rfl, ?_, ?_, ?_⟩
        · rw [upd_ne rofo.symm]
          exact hf3
        · exact Evl.sz_lt (by omega)
        · refine ⟨_, ?_, rest.eraseIdx d.toNat, found ++ [rest[d.toNat]], rfl, rfl, ?_, ?_, upd_same, ?_, ?_⟩
          · rw [List.length_eraseIdx_of_lt hd]
            omega
          · exact (((b1.trans (But.of e2)).trans b3).mut nro).mut nfo0
          · rw [upd_ne rofo, upd_same]
          · refine List.Perm.trans ?_ pm
            rw [List.append_assoc]
            refine List.Perm.append_left _ ?_
            exact cut_perm rest d.toNat hd
          · have : n + (found ++ [rest[d.toNat]]).length = n + found.length + 1 := by simp; omega
            rw [this]
            exact (P3.mut (hP.far nro)).mut (hP.far nfo0)
      · have r0 : rest = [] := by
          cases rest with
          | nil => rfl
          | cons z zs => exact absurd hb (by simp)
        subst r0
        rw [List.append_nil] at pm
        refine Evl.s_ret (Evl.ev_var rfl) fun H3 e3 => ?_
        have e23 := e2.trans e3
        refine q fo found H3 pm nfo0 (b1.trans (But.of e23)) (e23 _ _ hf1) ?_
        rw [← pm.length_eq]
        exact P1.ex e23
end
end Lw

set_option maxHeartbeats 2000000
namespace Lw
open PySem PySem.Spec PyProof.Rows L2
open Evl (EvL EvA EvT RC)
abbrev nm__law_pen : List Str := ["_law_script"]
theorem sc__law_pen : FnScope nm__law_pen ["_law_script"] (defScope (top 37)) := ⟨rfl, rfl, rfl, by decide +kernel, rfl, by decide +kernel, by decide +kernel⟩
abbrev nm__law_names : List Str := ["_law_pen_here", "_law_many", "_law_letters", "_law_stem", "_law_at", "_law_cut", "_law_first", "_law_step", "_law_found", "_law_k", "_law_told", "_law_tail"]
theorem sc__law_names : FnScope nm__law_names ["_law_pen_here", "_law_many"] (defScope (top 41)) := ⟨rfl, rfl, rfl, by decide +kernel, rfl, by decide +kernel, by decide +kernel⟩
section
variable {P : Program} {w : World} {K : PySem.W.Frag} {mg : Str → Option Value} {base : Heap}
theorem ok_pen {f : Addr} {fd : FuncData} {k : Nat} (F : Fun K "_law_pen" "_law_pen" (top 37) f fd) (T : Bs mg bl) : FnOk P w K mg base CX0 (k + 1) f fd ["_law_script"] (spPen K) := by
  refine F.ok sc__law_pen (fun vs H Q E h => ?_) (fun cdv A outer s H vs Q E hr h => ?_)
  · obtain ⟨a, ns, rfl, _⟩ := h
    rfl
  · obtain ⟨a, ns, rfl, ha, hn, q⟩ := h
    refine ⟨_, (pss_one (ps_ret (pe_disp (pps_cons pe_str (pe_callTy call_list_of (by rfl) (T.b "list" (by decide)) (by decide +kernel) (pa_cons (pe_slice sl_list (pv 0) po_none (po_some pe_int)) pa_nil)) (pps_cons pe_str pe_int (pps_cons pe_str pe_int pps_nil))) rfl rfl (by simp) (by decide)))), ?_⟩
    refine fun p np => ⟨.ref a, rfl, 63, rfl, a, ns.map V.int, rfl, Evl.ex_l (Evl.Ex.new np) ha, fun q1 nq => ⟨q1, _, rfl, .inl (Evl.sq_of upd_same), fun l nl => ?_⟩⟩
    have cut : cutV (ns.map V.int) none (some 63) = ns.map V.int := by
      unfold cutV
      rw [HT.sIx_none, show (63 : Int) = ((63 : Nat) : Int) from rfl, HT.sIx_nat]
      have : (ns.map V.int).length ≤ 63 := by
        rw [List.length_map]
        exact hn
      rw [List.drop_zero, Nat.sub_zero, Nat.min_eq_right this, List.take_length]
    rw [cut] at nl ⊢
    have q1p : q1 ≠ p := fun z => by
      rw [z, upd_same] at nq
      exact nomatch nq
    have lp : l ≠ p := fun z => by
      rw [z, upd_ne q1p.symm, upd_same] at nl
      exact nomatch nl
    have lq : l ≠ q1 := fun z => by
      rw [z, upd_same] at nl
      exact nomatch nl
    refine ⟨?_, [(kC, .ref l), (kU, .int 0), (kL, .int 0)], rfl, by simp, ?_⟩
    · rw [upd_ne lp.symm, upd_ne q1p.symm, upd_same]
    · have mk : mergeK [] [(kC, V.ref l), (kU, .int 0), (kL, .int 0)] = [(kC, V.ref l), (kU, .int 0), (kL, .int 0)] := by
        simp [mergeK, putK, s1, s2, s3, s1.symm, s2.symm, s3.symm]
      rw [mk]
      refine q p l _ (fun b o hb => ?_) np ⟨ns, 0, 0, upd_same, ?_, hn, Int.le_refl _, Int.le_refl _⟩
      · have n1 : b ≠ p := ne_of_none hb np
        have h2 : (upd H p (.dK [])) b = some o := by
          rw [upd_ne n1]
          exact hb
        have n2 : b ≠ q1 := ne_of_none h2 nq
        have h3 : (upd (upd H p (.dK [])) q1 (.lst (ns.map V.int))) b = some o := by
          rw [upd_ne n2]
          exact h2
        have n3 : b ≠ l := ne_of_none h3 nl
        rw [upd_ne n1, upd_ne n3]
        exact h3
      · rw [upd_ne lp, upd_same]
theorem ok_names {f fD fP : Addr} {fd dD dP : FuncData} {k : Nat} (F : Fun K "_law_names" "_law_names" (top 41) f fd) (T : Bs mg bl) (F_law_draw : Cf P w K mg base "_law_draw" ["_law_pen_here", "_law_many"] k spDraw fD dD)
    (F_law_pick : Cf P w K mg base "_law_pick" ["_law_pen_here", "_law_options"] k (spPicks K) fP dP) : FnOk P w K mg base CX0 (k + 1) f fd ["_law_pen_here", "_law_many"] spNames := by
  refine F.ok sc__law_names (fun vs H Q E h => ?_) (fun cdv A outer s H vs Q E hr h => ?_)
  · obtain ⟨p, c, m, n, rfl, _⟩ := h
    rfl
  · obtain ⟨p, c, m, n, rfl, hP, hn, hm, q⟩ := h
    refine ⟨_, (pss_cons (ps_set (i := 2) sc__law_names.nd rfl (Or.inr rfl) pe_str)
      (pss_cons (ps_set (i := 3) sc__law_names.nd rfl (Or.inl rfl) (pe_join pe_str (pe_lc (own := [("_law_k", 9)]) (g := (gName 9)) (tt := tYes) (te := (tCall (spPicks K) [] noE (tCons (tVar 0) (tCons (tVar 2) tNil)))) rfl sc__law_names.nd (pi_range1 (by rfl) (T.b "range" (by decide)) (pa_cons (pe_cf F_law_draw (hr.mono (by omega)) (by rfl) (pa_cons (pv 0) (pa_cons pe_int pa_nil))) pa_nil)) (blkOk_by (N := nm__law_names) (sc := defScope (top 41)) (by decide +kernel)) (fun _ _ _ _ _ => pg_name (i := 9) sc__law_names.nd rfl (Or.inl rfl)) (fun _ _ _ _ _ => pts_nil) (fun _ _ _ _ _ => (pe_cf F_law_pick (hr.mono (by omega)) (by rfl) (pa_cons (pv 0) (pa_cons (pv 2) pa_nil)))))))
      (pss_cons (ps_par3 (i := 4) (j := 5) (l := 6) rfl sc__law_names.nd rfl rfl rfl (by decide) (by decide) (by decide) rfl rfl rfl (pa_cons (pe_cf F_law_draw (hr.mono (by omega)) (by rfl) (pa_cons (pv 0) (pa_cons (pe_op op_add (pe_callB call_len_str (by rfl) (T.b "len" (by decide)) (by decide +kernel) (pa_cons (pv 3) pa_nil)) pe_int) pa_nil))) (pa_cons (pe_cf F_law_draw (hr.mono (by omega)) (by rfl) (pa_cons (pv 0) (pa_cons pe_int pa_nil))) (pa_cons (pe_cf F_law_draw (hr.mono (by omega)) (by rfl) (pa_cons (pv 0) (pa_cons pe_int pa_nil))) pa_nil))) (by rfl))
      (pss_cons (ps_par (i := 7) (j := 8) rfl sc__law_names.nd rfl rfl (by decide) rfl rfl (pa_cons (pe_cf F_law_pick (hr.mono (by omega)) (by rfl) (pa_cons (pv 0) (pa_cons (pe_lst (pa_cons pe_int (pa_cons pe_int (pa_cons pe_int (pa_cons pe_int (pa_cons pe_int (pa_cons pe_int (pa_cons pe_int (pa_cons pe_int (pa_cons pe_int (pa_cons pe_int (pa_cons pe_int (pa_cons pe_int pa_nil))))))))))))) pa_nil))) (pa_cons (pe_lst pa_nil) pa_nil)) (by rfl))
      (pss_cons (ps_for PassesOwn.never rfl (pi_range1 (by rfl) (T.b "range" (by decide)) (pa_cons (pv 1) pa_nil)) (pg_name (i := 9) sc__law_names.nd rfl (Or.inl rfl)) (pss_cons (ps_set (i := 10) sc__law_names.nd rfl (Or.inl rfl) (pe_ix ix_str (pv 2) (pe_op op_mod (pe_op op_add (pv 6) (pe_op op_mul (pv 7) (pv 9))) pe_int) (fun _ _ => rfl)))
      (pss_cons (ps_set (i := 10) sc__law_names.nd rfl (Or.inl rfl) (pe_op op_add_str (pv 10) (pe_op op_mulS (pe_ix ix_str (pv 2) (pe_op op_fdiv (pv 9) pe_int) (fun _ _ => rfl)) (pe_callTy call_intB (by rfl) (T.b "int" (by decide)) (by decide +kernel) (pa_cons (pe_cmpR op_gt (pv 1) pe_int (nomark _)) pa_nil)))))
      (pss_cons (ps_set (i := 11) sc__law_names.nd rfl (Or.inl rfl) (pe_ifExp (pt_cmpR op_eq (pv 5) pe_int (nomark _)) (pe_slice sl_str (pv 3) (po_some (pv 4)) po_none) (pe_slice sl_str (pe_slice sl_str (pv 3) (po_some (pv 4)) po_none) po_none (po_some (pe_op op_mod (pv 9) pe_int)))))
      (pss_one (ps_expr (pe_bm PySem.F.plainAttrs_list PySem.F.slot_list_append PySem.F.type_list_append mt_append (pv 8) (pa_cons (pe_op op_add_str (pe_op op_add_str (pe_slice sl_str (pv 3) po_none (po_some (pv 4))) (pv 10)) (pv 11)) pa_nil))))))))
      (pss_one (ps_ret (pv 8)))))))), ?_⟩
    -- letters, stem
    refine ⟨⟨_, rfl⟩, via (fun v H2 => ∃ (D : Addr) (cs : List Nat), v = .ref D ∧ H D = none ∧ (∀ e ∈ cs, 97 ≤ e ∧ e ≤ 122) ∧ cs.length ≤ 6 ∧ But p H H2 ∧ H2 D = some (.lst (cs.map (fun e => V.str (chr1 e)))) ∧ Pen p c (n + 7) H2) (fun Q' hQ' => ?_) ?_⟩
    · refine ⟨.ref p, rfl, p, c, 7, n, rfl, hP, by omega, by decide, by decide, fun d0 H1 d00 d01 b1 P1 => ⟨d0, rfl, by omega, by omega, ?_⟩⟩
      refine lcP (Q := Q') (p := p) (c := c) (n := n + 1) (kk := 1) (m := d0.toNat) 0 (fun i acc _ => ∃ cs : List Nat, acc = cs.map (fun e => V.str (chr1 e)) ∧ ∀ e ∈ cs, 97 ≤ e ∧ e ≤ 122) P1 (by omega) (fun _ _ => ⟨[], rfl, fun e he => absurd he (by simp)⟩) ?hw (fun _ _ _ _ _ _ z => z)
        (fun i acc H' hi la pa ba Pa Q' k => ?_) (fun D acc H2 nD la pa b2 hD P2 => ?_)
      case hw => exact fun _ => rfl
      · obtain ⟨cs, rfl, hcs⟩ := pa
        refine ⟨.ref p, rfl, .str abc, rfl, .inr ⟨p, c, abc, _, rfl, Pa, by omega, by rw [abc_len]; decide, by rw [abc_len]; decide, fun e H'' he bb PP => k _ H'' ⟨cs ++ [e], ?_, ?_⟩ bb ?_⟩⟩
        · rw [List.map_append]
          rfl
        · intro e' h'
          rcases List.mem_append.mp h' with h' | h'
          · exact hcs e' h'
          · rw [List.mem_singleton.mp h']
            exact abc_low e he
        · rw [Nat.mul_succ, ← Nat.add_assoc]
          exact PP
      · obtain ⟨cs, rfl, hcs⟩ := pa
        rw [List.length_map] at la
        exact hQ' _ _ ⟨D, cs, rfl, b1.back (P1.far nD).1 nD, hcs, by omega, b1.trans b2, hD, P2.le (by omega)⟩
    · rintro v H2 ⟨D, cs, rfl, nD, hcs, lcs, b2, hD, P2⟩
      have sum1 : ∀ l : List Nat, ((l.map chr1).map (·.length)).sum = l.length := fun l => by
        induction l with
        | nil => rfl
        | cons x r ih =>
          show (chr1 x).length + ((r.map chr1).map (·.length)).sum = r.length + 1
          rw [ih]
          show 1 + r.length = r.length + 1
          omega
      refine ⟨"", D, cs.map chr1, rfl, rfl, .inl (.inl (.inl ?_)), ?_, ?_⟩
      · rw [List.map_map]
        exact hD
      · rw [sum1, List.length_map]
        have : (("" : String) : Str).length = 0 := by decide +kernel
        rw [this]
        omega
      · have z1 := join_len cs
        generalize Txt.join ("" : String) (cs.map chr1) = z at z1
        have zl : Low z := fun e he => hcs e (by rw [← z1]; exact he)
        have z6 : z.length ≤ 6 := by
          rw [len_cps, z1]
          exact lcs
        -- at, cut, first
        refine ⟨.ref p, rfl, .str z, rfl, z, rfl, Evl.sz_of (by omega), _, _, rfl, rfl, p, c, (z.length : Int) + 1, n + 7, rfl, P2, by omega, by omega, by omega, fun at0 H3 a0 a1 b3 P3 => ?_⟩
        refine ⟨.ref p, rfl, p, c, 2, n + 8, rfl, P3, by omega, by decide, by decide, fun cut H4 c0 c1 b4 P4 => ?_⟩
        refine ⟨.ref p, rfl, p, c, 26, n + 9, rfl, P4, by omega, by decide, by decide, fun first H5 f0 f1 b5 P5 => ⟨_, _, _, rfl, ?_⟩⟩
        obtain ⟨at', rfl⟩ := Int.eq_ofNat_of_zero_le a0
        have hat : at' ≤ z.length := by omega
        -- step, found
        refine ⟨.ref p, rfl, by simp [sizeLine_eq], fun L nL => .inl ⟨p, c, L, [1, 3, 5, 7, 9, 11, 15, 17, 19, 21, 23, 25].map V.int, n + 10, rfl, P5.mut (P5.far nL), by omega, .inl (Evl.sq_of upd_same), (P5.far nL).1, by decide, by decide, fun v H6 hv b6 P6 => ?_⟩⟩
        obtain ⟨step, hst, rfl⟩ := List.mem_map.mp hv
        have sb : -(2 ^ 64) < step ∧ step < 2 ^ 64 := by
          simp only [List.mem_cons, List.mem_nil_iff, or_false] at hst
          rcases hst with rfl | rfl | rfl | rfl | rfl | rfl | rfl | rfl | rfl | rfl | rfl | rfl <;> decide
        refine ⟨Nat.zero_le _, fun fo nfo => ⟨_, _, rfl, ?_⟩⟩
        have b05 : But p H H5 := ((b2.trans b3).trans b4).trans b5
        have b06 : But p H H6 := (b05.mut (b05.back (P5.far nL).1 nL)).trans b6
        have nfo0 : H fo = none := b06.back (P6.far nfo).1 nfo
        refine Evl.q_forR1 (Evl.ea_cons (Evl.ev_var rfl) Evl.ea_nil) ⟨by omega, by omega⟩ (fun i σ' H' => ∃ x1 x2 x3, σ' = [some (.ref p), some (.int m), some (.str abc), some (.str z), some (.int at'), some (.int cut), some (.int first), some (.int step), some (.ref fo), x1, x2, x3] ∧
          But p H H' ∧ Pen p c (n + 11) H' ∧ H' fo = some (.lst (((List.range i).map (nameK z at' cut first step m)).map V.str)))
          (fun H7 e7 => ⟨none, none, none, rfl, (b06.mut nfo0).trans (But.of e7), (P6.mut (P6.far nfo)).ex e7, e7 _ _ upd_same⟩) ?_ ?_
        · rintro i σ' H' hi ⟨x1, x2, x3, rfl, b7, P7, h7⟩
          have m0 := Int.emod_nonneg (first + step * i) (b := 26) (by decide)
          have m1 := Int.emod_lt_of_pos (first + step * i) (b := 26) (by decide)
          refine Evl.q_asg (ev_abc (Evl.ev_var rfl) (Evl.ev_op (Evl.ev_op (Evl.ev_var rfl) (Evl.ev_op (x := .int step) (Evl.ev_var rfl) (Evl.ev_var rfl) (Evl.rv_I (Or.inl sb))) Evl.rv_I0) Evl.ev_c (Evl.rv_I (by decide))) m0 m1) fun H8 e8 => ?_
          refine Evl.q_asg (ev_addS (Evl.ev_var rfl) (ev_mulS (ev_abc (i := (i : Int) / 26) (Evl.ev_var rfl) (Evl.ev_op (Evl.ev_var rfl) Evl.ev_c (Evl.rv_I ⟨by decide, by decide⟩)) (by omega) (by omega)) (ev_intB (Evl.ev_op (Evl.ev_var rfl) Evl.ev_c Evl.rv_I0)) rfl) ?_) fun H9 e9 => ?_
          · have := mul_len (97 + ((i : Int) / 26).toNat) (decide (26 < (m : Int)))
            show 1 + (Txt.mul (chr1 _) _).length ≤ 100000
            omega
          · have et : chr1 (97 + ((first + step * (i : Int)) % 26).toNat) ++ Txt.mul (chr1 (97 + ((i : Int) / 26).toNat)) (if decide (26 < (m : Int)) = true then 1 else 0) = told first step m i := by
              rw [show ((i : Int) / 26).toNat = i / 26 by omega]
              rfl
            rw [et]
            generalize ht : told first step m i = td
            have t2 : td.length ≤ 2 := by
              rw [← ht, len_cps, told_cps]
              split <;> simp
            have nm : cutS z none (some (at' : Int)) ++ td ++ tail z at' cut i = nameK z at' cut first step m i := by
              rw [← ht]
              rfl
            have l1 : (cutS z none (some (at' : Int))).length ≤ 6 := by
              rw [len_cps, cut_to _ _ hat, List.length_take, ← len_cps]
              omega
            have l2 := (tail_low (cut := cut) (k := i) zl hat).2
            have e79 := e8.trans e9
            refine Evl.q_asg (v := .str (tail z at' cut i)) (Evl.ev_if (Evl.et_test (Evl.ev_op (x := .int cut) (Evl.ev_var rfl) Evl.ev_c (Evl.rv_eq rfl))) (fun hc => ?_) (fun hc => ?_)) fun H10 e10 => ?_
            · have c0 : cut = 0 := V.int.inj (of_decide_eq_true hc)
              have : tail z at' cut i = cutS z (some (at' : Int)) none := if_pos c0
              rw [this]
              exact ev_slS (Evl.ev_var rfl) (Evl.eo_some (Evl.ev_var rfl)) Evl.eo_none (by omega)
            · have c0 : cut ≠ 0 := fun z => of_decide_eq_false hc (by rw [z])
              have : tail z at' cut i = cutS (cutS z (some (at' : Int)) none) none (some ((i : Int) % 3)) := (if_neg c0).trans (by rw [Int.natCast_emod]; rfl)
              rw [this]
              refine ev_slS (ev_slS (Evl.ev_var rfl) (Evl.eo_some (Evl.ev_var rfl)) Evl.eo_none (by omega)) Evl.eo_none (Evl.eo_some (Evl.ev_op (Evl.ev_var rfl) Evl.ev_c (Evl.rv_I (by decide)))) ?_
              rw [len_cps, cut_from _ _ hat, List.length_drop, ← len_cps]
              omega
            · have e710 := e79.trans e10
              refine Evl.s_app (e710 _ _ h7) (Evl.ev_var rfl) (ev_addS (ev_addS (ev_slS (Evl.ev_var rfl) Evl.eo_none (Evl.eo_some (Evl.ev_var rfl)) (by omega)) (Evl.ev_var rfl) (by omega)) (Evl.ev_var rfl) ?_) ?_ fun H11 e11 => ?_
              · rw [len_app]
                omega
              · rw [List.length_map, List.length_map, List.length_range]
                omega
              · refine ⟨_, _, _, rfl, (b7.trans (But.of (e710.trans e11))).mut nfo0, (P7.ex (e710.trans e11)).mut (hP.far nfo0), ?_⟩
                rw [upd_same, nm, List.range_succ, List.map_append, List.map_append]
                rfl
        · rintro σ' H' ⟨x1, x2, x3, rfl, b7, P7, h7⟩
          refine Evl.s_ret (Evl.ev_var rfl) fun H8 e8 => ?_
          refine q fo ((List.range m).map (nameK z at' cut first step m)) H8 (by rw [List.length_map, List.length_range]) (names_nodup m hat hst) (fun y hy => ?_) nfo0 (b7.trans (But.of e8)) (e8 _ _ h7) (P7.ex e8)
          obtain ⟨k, hk, rfl⟩ := List.mem_map.mp hy
          exact name_nm zl z6 hat (by have := List.mem_range.mp hk; omega)
end
end Lw

set_option maxHeartbeats 2000000
namespace Lw
open PySem PySem.Spec PyProof.Rows L2
open Evl (EvL EvA EvT RC)
abbrev nm__law_small : List Str := ["_law_pen_here", "_law_least", "_law_most", "_law_wide", "_law_nodes", "_law_shape", "_law_edges", "_law_many", "_law_ends", "_law_turn", "_law_below", "_law_bound", "_law_names_here", "_law_k", "_law_length"]
theorem sc__law_small : FnScope nm__law_small ["_law_pen_here", "_law_least", "_law_most", "_law_wide"] (defScope (top 42)) := ⟨rfl, rfl, rfl, by decide +kernel, rfl, by decide +kernel, by decide +kernel⟩
section
variable {P : Program} {w : World} {K : PySem.W.Frag} {mg : Str → Option Value} {base : Heap}
theorem ok_small {f fD fP fN fS : Addr} {fd dD dP dN dS : FuncData} {k : Nat} (F : Fun K "_law_small" "_law_small" (top 42) f fd) (T : Bs mg bl) (F_law_draw : Cf P w K mg base "_law_draw" ["_law_pen_here", "_law_many"] k spDraw fD dD)
    (F_law_pick : Cf P w K mg base "_law_pick" ["_law_pen_here", "_law_options"] k (spPicks K) fP dP) (F_law_names : Cf P w K mg base "_law_names" ["_law_pen_here", "_law_many"] k spNames fN dN) (F_law_shuffled : Cf P w K mg base "_law_shuffled" ["_law_pen_here", "_law_items"] k (spShuf K) fS dS) :
    FnOk P w K mg base CX0 (k + 1) f fd ["_law_pen_here", "_law_least", "_law_most", "_law_wide"] spSmall := by
  refine F.ok sc__law_small (fun vs H Q E h => ?_) (fun cdv A outer s H vs Q E hr h => ?_)
  · obtain ⟨p, c, least, most, wide, n, rfl, _⟩ := h
    rfl
  · obtain ⟨p, c, least, most, wide, n, rfl, hP, hn, l0, l1, l2, l3, q⟩ := h
    refine ⟨_, (pss_cons (ps_set (i := 4) sc__law_small.nd rfl (Or.inr rfl) (pe_cf F_law_names (hr.mono (by omega)) (by rfl) (pa_cons (pv 0) (pa_cons (pe_op op_add (pv 1) (pe_cf F_law_draw (hr.mono (by omega)) (by rfl) (pa_cons (pv 0) (pa_cons (pe_op op_add (pe_op op_sub (pv 2) (pv 1)) pe_int) pa_nil)))) pa_nil))))
      (pss_cons (ps_asg (pe_tup (pa_cons (pe_cf F_law_draw (hr.mono (by omega)) (by rfl) (pa_cons (pv 0) (pa_cons pe_int pa_nil))) (pa_cons (pe_lst pa_nil) (pa_cons (pe_cf F_law_draw (hr.mono (by omega)) (by rfl) (pa_cons (pv 0) (pa_cons (pe_op op_add (pv 3) pe_int) pa_nil))) (pa_cons (pe_lst pa_nil) pa_nil))))) (pg_tup rfl (pgs_cons (pg_name (i := 5) sc__law_small.nd rfl (Or.inl rfl)) (pgs_cons (pg_name (i := 6) sc__law_small.nd rfl (Or.inl rfl)) (pgs_cons (pg_name (i := 7) sc__law_small.nd rfl (Or.inl rfl)) (pgs_cons (pg_name (i := 8) sc__law_small.nd rfl (Or.inl rfl)) pgs_nil))))))
      (pss_cons (ps_if (pt_cmpR op_eq (pv 5) pe_int (nomark _)) (pss_one (ps_setLc (i := 8) (own := [("_law_k", 13)]) (g := (gName 13)) (tt := tYes) (te := (tTup (tCons (tOp (rIxL K) (tVar 4) (tVar 13)) (tCons (tOp (rIxL K) (tVar 4) (tCall spDraw [] noE (tCons (tVar 0) (tCons (tVar 13) tNil)))) tNil)))) rfl sc__law_small.nd rfl rfl (by rfl) (pi_range2 (by rfl) (T.b "range" (by decide)) (pa_cons pe_int (pa_cons (pe_callB call_len_seq (by rfl) (T.b "len" (by decide)) (by decide +kernel) (pa_cons (pv 4) pa_nil)) pa_nil))) (blkOk_by (N := nm__law_small) (sc := defScope (top 42)) (by decide +kernel)) (fun _ _ _ _ _ => pg_name (i := 13) sc__law_small.nd rfl (Or.inl rfl)) (fun _ _ _ _ _ => pts_nil) (fun _ _ _ _ _ => (pe_tup (pa_cons (pe_ix ix_list (pv 4) (pv 13) (fun _ _ => rfl)) (pa_cons (pe_ix ix_list (pv 4) (pe_cf F_law_draw (hr.mono (by omega)) (by rfl) (pa_cons (pv 0) (pa_cons (pv 13) pa_nil))) (fun _ _ => rfl)) pa_nil)))))) pss_nil)
      (pss_cons (ps_if (PW.pt (pw_and (pt_cmpR op_eq (pv 5) pe_int (nomark _)) (pw_and1 (pt_cmpR op_gt (pe_callB call_len_seq (by rfl) (T.b "len" (by decide)) (by decide +kernel) (pa_cons (pv 4) pa_nil)) pe_int (nomark _))))) (pss_one (ps_setLc (i := 8) (own := [("_law_k", 13)]) (g := (gName 13)) (tt := tYes) (te := (tTup (tCons (tOp (rIxL K) (tVar 4) (tVar 13)) (tCons (tOp (rIxL K) (tVar 4) (tOp (rI0 fun i j => .int (i - j)) (tVar 13) (tC (.int 1)))) tNil)))) rfl sc__law_small.nd rfl rfl (by rfl) (pi_range2 (by rfl) (T.b "range" (by decide)) (pa_cons (pe_callTy call_intB (by rfl) (T.b "int" (by decide)) (by decide +kernel) (pa_cons (pe_cmpR op_eq (pe_callB call_len_seq (by rfl) (T.b "len" (by decide)) (by decide +kernel) (pa_cons (pv 4) pa_nil)) pe_int (nomark _)) pa_nil)) (pa_cons (pe_callB call_len_seq (by rfl) (T.b "len" (by decide)) (by decide +kernel) (pa_cons (pv 4) pa_nil)) pa_nil))) (blkOk_by (N := nm__law_small) (sc := defScope (top 42)) (by decide +kernel)) (fun _ _ _ _ _ => pg_name (i := 13) sc__law_small.nd rfl (Or.inl rfl)) (fun _ _ _ _ _ => pts_nil) (fun _ _ _ _ _ => (pe_tup (pa_cons (pe_ix ix_list (pv 4) (pv 13) (fun _ _ => rfl)) (pa_cons (pe_ix ix_list (pv 4) (pe_op op_sub (pv 13) pe_int) (fun _ _ => rfl)) pa_nil)))))) pss_nil)
      (pss_cons (ps_for PassesOwn.never rfl (pi_range1 (by rfl) (T.b "range" (by decide)) (pa_cons (pe_ifExp (pt_cmpR op_gt (pe_callB call_len_seq (by rfl) (T.b "len" (by decide)) (by decide +kernel) (pa_cons (pv 4) pa_nil)) pe_int (nomark _)) (pv 7) pe_int) pa_nil)) (pg_name (i := 9) sc__law_small.nd rfl (Or.inl rfl)) (pss_one (ps_expr (pe_bm PySem.F.plainAttrs_list PySem.F.slot_list_append PySem.F.type_list_append mt_append (pv 8) (pa_cons (pe_callTy call_tuple_of (by rfl) (T.b "tuple" (by decide)) (by decide +kernel) (pa_cons (pe_slice sl_list (pe_cf F_law_shuffled (hr.mono (by omega)) (by rfl) (pa_cons (pv 0) (pa_cons (pv 4) pa_nil))) po_none (po_some pe_int)) pa_nil)) pa_nil)))))
      (pss_cons (ps_par (i := 10) (j := 11) rfl sc__law_small.nd rfl rfl (by decide) rfl rfl (pa_cons (pe_cf F_law_draw (hr.mono (by omega)) (by rfl) (pa_cons (pv 0) (pa_cons pe_int pa_nil))) (pa_cons (pe_cf F_law_pick (hr.mono (by omega)) (by rfl) (pa_cons (pv 0) (pa_cons (pe_lst (pa_cons pe_int (pa_cons pe_int (pa_cons pe_int (pa_cons pe_int (pa_cons pe_int (pa_cons pe_int pa_nil))))))) pa_nil))) pa_nil)) (by rfl))
      (pss_cons (ps_set (i := 12) sc__law_small.nd rfl (Or.inl rfl) (pe_cf F_law_names (hr.mono (by omega)) (by rfl) (pa_cons (pv 0) (pa_cons (pv 3) pa_nil))))
      (pss_cons (ps_for PassesOwn.never rfl (pi_range1 (by rfl) (T.b "range" (by decide)) (pa_cons (pe_callB (call_min2 rfl) (by rfl) (T.b "min" (by decide)) (by decide +kernel) (pa_cons (pv 3) (pa_cons (pe_callB call_len_seq (by rfl) (T.b "len" (by decide)) (by decide +kernel) (pa_cons (pv 8) pa_nil)) pa_nil))) pa_nil)) (pg_name (i := 13) sc__law_small.nd rfl (Or.inl rfl)) (pss_cons (ps_set (i := 14) sc__law_small.nd rfl (Or.inl rfl) (pe_cf F_law_draw (hr.mono (by omega)) (by rfl) (pa_cons (pv 0) (pa_cons (pe_op op_add (pv 11) pe_int) pa_nil))))
      (pss_cons (ps_set (i := 14) sc__law_small.nd rfl (Or.inl rfl) (pe_ifExp (pt_cmpR op_lt (pe_cf F_law_draw (hr.mono (by omega)) (by rfl) (pa_cons (pv 0) (pa_cons pe_int pa_nil))) (pv 10) (nomark _)) (pe_op op_sub pe_int (pv 14)) (pv 14)))
      (pss_one (ps_expr (pe_bm PySem.F.plainAttrs_list PySem.F.slot_list_append PySem.F.type_list_append mt_append (pv 6) (pa_cons (pe_tup (pa_cons (pe_ix ix_list (pv 12) (pv 13) (fun _ _ => rfl)) (pa_cons (pe_ix ix_tup (pe_ix ix_list (pv 8) (pv 13) (fun _ _ => rfl)) pe_int (fun _ _ => rfl)) (pa_cons (pe_ix ix_tup (pe_ix ix_list (pv 8) (pv 13) (fun _ _ => rfl)) pe_int (fun _ _ => rfl)) (pa_cons (pv 14) pa_nil))))) pa_nil)))))))
      (pss_one (ps_ret (pe_tup (pa_cons (pv 4) (pa_cons (pv 6) pa_nil))))))))))))), ?_⟩
    -- nodes
    refine ⟨.ref p, rfl, .int least, rfl, .ref p, rfl, .int most, rfl, .int least, rfl, _, _, rfl, rfl, _, _, rfl, rfl, p, c, (most : Int) - least + 1, n, rfl, hP, by omega, by omega, by omega, fun d H1 d0 d1 b1 P1 => ?_⟩
    obtain ⟨d, rfl⟩ := Int.eq_ofNat_of_zero_le d0
    refine ⟨_, _, rfl, rfl, p, c, least + d, n + 1, rfl, P1, by omega, by omega, fun a ns H2 lns nd nm na1 b2 ha2 P2 => ?_⟩
    have na : a ≠ p := (P1.far na1).1
    have fa : H a = none := b1.back na na1
    -- shape, edges, many, ends
    refine ⟨.ref p, rfl, p, c, 4, n + 12, rfl, P2, by omega, by decide, by decide, fun shape H3 s0 s1 b3 P3 => ⟨Nat.zero_le _, fun eo neo => ?_⟩⟩
    have ne : eo ≠ p := (P3.far neo).1
    have b03 := (b1.trans b2).trans b3
    have fe : H eo = none := b03.back ne neo
    refine ⟨.ref p, rfl, .int wide, rfl, _, _, rfl, rfl, p, c, (wide : Int) + 1, n + 13, rfl, P3.mut (P3.far neo), by omega, by omega, by omega, fun many H4 m0 m1 b4 P4 => ⟨Nat.zero_le _, fun no nno => ⟨by simp [sizeLine_eq], fun t nt => ?_⟩⟩⟩
    have nn : no ≠ p := (P4.far nno).1
    have b04 := (b03.trans (But.of (Evl.Ex.new neo))).trans b4
    have fn : H no = none := b04.back nn nno
    refine ⟨t, _, rfl, .inl (.inl upd_same), rfl, _, _, rfl, _, _, rfl, _, _, rfl, _, _, rfl, rfl, ?_⟩
    have e45 : Evl.Ex H4 (upd (upd H4 no (.lst [])) t (.tup [.int shape, .ref eo, .int many, .ref no])) := (Evl.Ex.new nno).trans (Evl.Ex.new nt)
    have M5 : Md p c a eo no H (n + 14) ns [] [] (upd (upd H4 no (.lst [])) t (.tup [.int shape, .ref eo, .int many, .ref no])) :=
      ⟨b04.trans (But.of e45), P4.ex e45, e45 _ _ (b4 _ _ na (Evl.Ex.new neo _ _ (b3 _ _ na ha2))), e45 _ _ (b4 _ _ ne upd_same), Evl.Ex.new nt _ _ upd_same, fun x hx => absurd hx (by simp), na, ne, nn, fe, fn, apart (b4 _ _ na (Evl.Ex.new neo _ _ (b3 _ _ na ha2))) nno, apart (b4 _ _ ne upd_same) nno, (apart (b3 _ _ na ha2) neo).symm⟩
    generalize (upd (upd H4 no (.lst [])) t (.tup [.int shape, .ref eo, .int many, .ref no])) = H5 at M5 ⊢
    have hl : (ns.map V.str).length = ns.length := List.length_map _
    -- a tree
    refine q_ifVia (fun σ' H' => ∃ (no : Addr) (as : List Addr), σ' = [some (.ref p), some (.int least), some (.int most), some (.int wide), some (.ref a), some (.int shape), some (.ref eo), some (.int many), some (.ref no), none, none, none, none, none, none] ∧ as.length ≤ 40 ∧
      Md p c a eo no H (n + 60) ns [] as H') (Evl.et_test (Evl.ev_op (x := .int shape) (Evl.ev_var rfl) Evl.ev_c (Evl.rv_eq rfl))) (fun hb H6 e6 D' kD => ?_) (fun hb H6 e6 => ⟨no, [], rfl, by simp, (M5.ex e6).but (But.refl _ _) ((M5.ex e6).P.le (by omega))⟩) ?_
    · have M6 := M5.ex e6
      refine asgVia (fun v H' => ∃ (no : Addr) (as : List Addr), v = .ref no ∧ as.length ≤ 40 ∧ Md p c a eo no H (n + 60) ns [] as H') (fun Q' hQ' => ?_) (fun v H' ⟨no, as, hv, la, M⟩ => kD _ _ ⟨no, as, by rw [hv]; rfl, la, M⟩)
      refine ⟨.ref a, rfl, a, _, rfl, .inl (Evl.sq_of M6.ha), 1, _, rfl, ⟨by decide, by decide, by omega, by omega⟩, lcP (Q := Q') (p := p) (c := c) (n := n + 14) (kk := 1) (m := (((ns.map V.str).length : Int) - 1).toNat) 1
        (fun i acc H' => ∃ as : List Addr, acc = as.map V.ref ∧ ∀ x ∈ as, PairAt ns H' x) M6.P (by omega) (fun _ _ => ⟨[], rfl, fun x hx => absurd hx (by simp)⟩) ?hw (fun i acc D ys H' hq ⟨as, e, h⟩ => ⟨as, e, fun x hx => (h x hx).tk (TK.put hq)⟩)
        (fun i acc H' hi la pa ba Pa Q2 k => ?_) (fun D acc H7 nD la pa b7 hD P7 => ?_)⟩
      case hw => exact fun _ => rfl
      · obtain ⟨as, rfl, pas⟩ := pa
        have ha' := ba _ _ na M6.ha
        refine ⟨.ref a, rfl, .int (1 + (i : Nat)), rfl, a, _, _, _, rfl, rfl, Evl.sq_of ha', at_str (by omega) (by omega), .ref a, rfl, .ref p, rfl, .int (1 + (i : Nat)), rfl, p, c, 1 + (i : Nat), _, rfl, Pa, by omega, by omega, by omega, fun d H8 d0 d1 b8 P8 => ?_⟩
        refine ⟨a, _, _, _, rfl, rfl, Evl.sq_of (b8 _ _ na ha'), at_str d0 (by omega), by simp [sizeLine_eq], fun t nt => k _ _ ⟨as ++ [t], ?_, ?_⟩ (b8.trans (But.of (Evl.Ex.new nt))) ?_⟩
        · rw [List.map_append]
          rfl
        · intro x hx
          rcases List.mem_append.mp hx with hx | hx
          · exact (pas x hx).tk ((TK.but Pa b8).trans (TK.ex (Evl.Ex.new nt)))
          · rw [List.mem_singleton.mp hx]
            exact ⟨_, _, upd_same, List.getElem_mem _, List.getElem_mem _, nd_ne nd _ _ (by omega)⟩
        · rw [Nat.mul_succ, ← Nat.add_assoc]
          exact P8.ex (Evl.Ex.new nt)
      · obtain ⟨as, rfl, pas⟩ := pa
        rw [List.length_map] at la
        have nD' := (M6.P.far nD).1
        exact hQ' _ _ ⟨D, as, rfl, by omega, ⟨M6.b.trans b7, P7.le (by omega), b7 _ _ na M6.ha, b7 _ _ ne M6.he, hD, pas, na, ne, nD', fe, M6.b.back nD' nD, apart M6.ha nD, apart M6.he nD, M6.d3⟩⟩
    rintro σ6 H6 ⟨no, as, rfl, las, M6⟩
    -- a ring
    refine q_ifVia (fun σ' H' => ∃ (no : Addr) (as : List Addr), σ' = [some (.ref p), some (.int least), some (.int most), some (.int wide), some (.ref a), some (.int shape), some (.ref eo), some (.int many), some (.ref no), none, none, none, none, none, none] ∧ as.length ≤ 40 ∧
      Md p c a eo no H (n + 60) ns [] as H') (Evl.et_and (Evl.et_test (Evl.ev_op (x := .int shape) (Evl.ev_var rfl) Evl.ev_c (Evl.rv_eq rfl))) fun _ => Evl.et_test (Evl.ev_op (ev_lenT (Evl.ev_var rfl) (.inl (Evl.sq_of M6.ha))) Evl.ev_c Evl.rv_I0)) (fun hb H7 e7 D' kD => ?_) (fun hb H7 e7 => ⟨no, as, rfl, las, M6.ex e7⟩) ?_
    · have M7 := M6.ex e7
      have big1 : 1 < ns.length := by
        have := of_decide_eq_true (Bool.and_eq_true_iff.mp hb).2
        rw [hl] at this
        omega
      refine asgVia (fun v H' => ∃ (no : Addr) (as : List Addr), v = .ref no ∧ as.length ≤ 40 ∧ Md p c a eo no H (n + 60) ns [] as H') (fun Q' hQ' => ?_) (fun v H' ⟨no, as, hv, la, M⟩ => kD _ _ ⟨no, as, by rw [hv]; rfl, la, M⟩)
      refine ⟨.ref a, rfl, a, _, rfl, .inl (Evl.sq_of M7.ha), rfl, _, rfl, .ref a, rfl, a, _, rfl, .inl (Evl.sq_of M7.ha), ?_⟩
      have hlo : ∃ lo : Int, (if decide (V.int ((ns.map V.str).length : Int) = V.int 2) = true then (1 : Int) else 0) = lo ∧ (lo = 0 ∨ lo = 1) ∧ (lo = 0 → ns.length ≠ 2) := by
        rw [hl]
        by_cases h2 : ns.length = 2
        · refine ⟨1, by rw [h2]; rfl, .inr rfl, fun z => absurd z (by decide)⟩
        · refine ⟨0, if_neg fun z => h2 ?_, .inl rfl, fun _ => h2⟩
          have := V.int.inj (of_decide_eq_true z)
          omega
      obtain ⟨lo, elo, lo01, lo2⟩ := hlo
      rw [elo]
      refine ⟨lo, _, rfl, ⟨by omega, by omega, by omega, by omega⟩, lcP (Q := Q') (p := p) (c := c) (n := n + 60) (kk := 0) (m := (((ns.map V.str).length : Int) - lo).toNat) lo
        (fun i acc H' => ∃ as : List Addr, acc = as.map V.ref ∧ ∀ x ∈ as, PairAt ns H' x) M7.P (by omega) (fun _ _ => ⟨[], rfl, fun x hx => absurd hx (by simp)⟩) ?hw2 (fun i acc D ys H' hq ⟨as, e, h⟩ => ⟨as, e, fun x hx => (h x hx).tk (TK.put hq)⟩)
        (fun i acc H' hi la pa ba Pa Q2 k => ?_) (fun D acc H8 nD la pa b8 hD P8 => ?_)⟩
      case hw2 => exact fun _ => rfl
      · obtain ⟨as, rfl, pas⟩ := pa
        have ha' := ba _ _ na M7.ha
        refine ⟨.ref a, rfl, .int (lo + (i : Nat)), rfl, a, _, _, _, rfl, rfl, Evl.sq_of ha', at_str (by omega) (by omega), .ref a, rfl, .int (lo + (i : Nat)), rfl, _, _, rfl, rfl, ?_⟩
        have hv : ∃ j, ∃ hj : j < ns.length, atI (ns.map V.str) (lo + (i : Nat) - 1) = some (.str ns[j]) ∧ (lo + (i : Nat)).toNat ≠ j := by
          by_cases z : lo + (i : Nat) - 1 = -1
          · have l0 : lo = 0 := by omega
            have := lo2 l0
            refine ⟨ns.length - 1, by omega, ?_, by omega⟩
            rw [z]
            exact at_last (by omega)
          · exact ⟨(lo + (i : Nat) - 1).toNat, by omega, at_str (by omega) (by omega), by omega⟩
        obtain ⟨j, hj, ej, nj⟩ := hv
        refine ⟨a, _, _, _, rfl, rfl, Evl.sq_of ha', ej, by simp [sizeLine_eq], fun t nt => k _ _ ⟨as ++ [t], ?_, ?_⟩ (But.of (Evl.Ex.new nt)) (Pa.ex (Evl.Ex.new nt))⟩
        · rw [List.map_append]
          rfl
        · intro x hx
          rcases List.mem_append.mp hx with hx | hx
          · exact (pas x hx).tk (TK.ex (Evl.Ex.new nt))
          · rw [List.mem_singleton.mp hx]
            exact ⟨_, _, upd_same, List.getElem_mem _, List.getElem_mem _, nd_ne nd _ _ nj⟩
      · obtain ⟨as, rfl, pas⟩ := pa
        rw [List.length_map] at la
        have nD' := (M7.P.far nD).1
        exact hQ' _ _ ⟨D, as, rfl, by omega, ⟨M7.b.trans b8, P8.le (by omega), b8 _ _ na M7.ha, b8 _ _ ne M7.he, hD, pas, na, ne, nD', fe, M7.b.back nD' nD, apart M7.ha nD, apart M7.he nD, M7.d3⟩⟩
    rintro σ7 H7 ⟨no, as, rfl, las, M7⟩
    -- any ends
    have nn : no ≠ p := M7.nn
    refine Evl.q_forR1 (n := if 1 < ns.length then many else 0) (Evl.ea_cons (Evl.ev_if (Evl.et_test (Evl.ev_op (ev_lenT (Evl.ev_var rfl) (.inl (Evl.sq_of M7.ha))) Evl.ev_c Evl.rv_I0)) (fun h => ?_) (fun h => ?_)) Evl.ea_nil) ⟨by split <;> omega, by split <;> omega⟩
      (fun i σ' H' => ∃ as x9, σ' = [some (.ref p), some (.int least), some (.int most), some (.int wide), some (.ref a), some (.int shape), some (.ref eo), some (.int many), some (.ref no), x9, none, none, none, none, none] ∧ as.length ≤ 40 + i ∧
      Md p c a eo no H (n + 60 + 40 * i) ns [] as H') (fun H8 e8 => ⟨as, none, rfl, las, M7.ex e8⟩) ?_ ?_
    · rw [hl] at h
      have h := of_decide_eq_true h
      rw [if_pos (by omega)]
      exact Evl.ev_var rfl
    · rw [hl] at h
      have h := of_decide_eq_false h
      rw [if_neg (by omega)]
      exact Evl.ev_c
    · rintro i σ8 H8 hi ⟨as, x9, rfl, las, M8⟩
      have big1 : 1 < ns.length := by
        by_cases z : 1 < ns.length
        · exact z
        · rw [if_neg z] at hi
          omega
      rw [if_pos big1] at hi
      refine ⟨.ref no, rfl, .inl ⟨rfl, _, Evl.sq_of M8.hn⟩, .ref p, rfl, .ref a, rfl, p, c, a, ns.map V.str, _, rfl, M8.P, by omega, .inl (Evl.sq_of M8.ha), na, by omega, fun q9 ys H9 pm nq b9 hq P9 => ?_⟩
      refine ⟨2, rfl, q9, ys, rfl, .inl (.inl hq), fun r nr => ⟨r, _, rfl, .inl ⟨.inl (.inl upd_same), fun l nl => ?_⟩⟩⟩
      obtain ⟨ms, pms, rfl⟩ := perm_strs pm
      have lms : 1 < ms.length := by
        rw [pms.length_eq]
        exact big1
      obtain ⟨u, v, rest, rfl⟩ : ∃ u v rest, ms = u :: v :: rest := by
        match ms, lms with
        | u :: v :: rest, _ => exact ⟨u, v, rest, rfl⟩
      have ndm := pms.nodup_iff.mpr nd
      have uv : u ≠ v := fun z => by
        rw [z] at ndm
        exact (List.nodup_cons.mp ndm).1 List.mem_cons_self
      have e9 : Evl.Ex H9 (upd (upd H9 r (.lst (cutV ((u :: v :: rest).map V.str) none (some 2)))) l (.tup (cutV ((u :: v :: rest).map V.str) none (some 2)))) := (Evl.Ex.new nr).trans (Evl.Ex.new nl)
      have M9 := (M8.but b9 P9).ex e9
      have pl : PairAt ns (upd (upd H9 r (.lst (cutV ((u :: v :: rest).map V.str) none (some 2)))) l (.tup (cutV ((u :: v :: rest).map V.str) none (some 2)))) l := by
        refine ⟨u, v, ?_, pms.mem_iff.mp List.mem_cons_self, pms.mem_iff.mp (List.mem_cons_of_mem _ List.mem_cons_self), uv⟩
        rw [upd_same, cut2]
        rfl
      have noc : no ≠ c := (hP.far M8.fn).2
      refine ⟨no, _, _, rfl, rfl, M9.hn, ?_, as ++ [l], _, rfl, ?_, ?_⟩
      · rw [List.length_map]
        exact Evl.sz_lt (by omega)
      · rw [List.length_append]
        show as.length + 1 ≤ _
        omega
      · have := M9.app pl noc
        exact (this.but (But.refl _ _) (this.P.le (by rw [hl]; omega)))
    · rintro σ8 H8 ⟨as, x9, rfl, las, M8⟩
      have M8 : Md p c a eo no H (n + 1700) ns [] as H8 := M8.but (But.refl _ _) (M8.P.le (by split <;> omega))
      have las : as.length ≤ 80 := by
        split at las <;> omega
      -- below, bound
      refine ⟨.ref p, rfl, p, c, 4, n + 1700, rfl, M8.P, by omega, by decide, by decide, fun below H9 be0 be1 b9 P9 => ⟨.ref p, rfl, by simp [sizeLine_eq], fun L nL => .inl ⟨p, c, L, [0, 1, 2, 5, 5, 1000000].map V.int, n + 1701, rfl, P9.mut (P9.far nL), by omega, .inl (Evl.sq_of upd_same), (P9.far nL).1, by decide, by decide,
        fun v H10 hv b10 P10 => ⟨_, _, rfl, ?_⟩⟩⟩⟩
      obtain ⟨bound, hbo, rfl⟩ := List.mem_map.mp hv
      have bo : 0 ≤ bound ∧ bound ≤ 1000000 := by
        simp only [List.mem_cons, List.mem_nil_iff, or_false] at hbo
        rcases hbo with rfl | rfl | rfl | rfl | rfl | rfl <;> decide
      have M10 := (((M8.but b9 P9).ex (Evl.Ex.new nL)).but b10 P10)
      -- the names of the edges
      refine ⟨.ref p, rfl, .int wide, rfl, p, c, wide, n + 1702, rfl, M10.P, by omega, by omega, fun nb en H11 len' nde nme nbn b11 hnb P11 => ?_⟩
      have M11 := M10.but b11 P11
      have fnb : nb ≠ p := (M10.P.far nbn).1
      have nba : eo ≠ nb := (apart M10.he nbn).symm
      refine g_name ?_
      dsimp only
      refine Evl.q_forR1 (n := if ((as.map V.ref).length : Int) < (wide : Int) then ((as.map V.ref).length : Int) else (wide : Int)) ?hmin ⟨by split <;> omega, by rw [List.length_map]; split <;> omega⟩
        (fun i σ' H' => ∃ (es : List Addr) (eds : List Eg) (x13 x14 : Option V), σ' = [some (.ref p), some (.int least), some (.int most), some (.int wide), some (.ref a), some (.int shape), some (.ref eo), some (.int many), some (.ref no), x9, some (.int below), some (.int bound), some (.ref nb), x13, x14] ∧
          Md p c a eo no H (n + 1713 + 2 * i) ns (es.map V.ref) as H' ∧ H' nb = some (.lst (en.map V.str)) ∧ EgsAt H' es eds ∧ (∀ x ∈ es, H x = none) ∧ eds.map (·.1) = en.take i ∧ ∀ e ∈ eds, IsNm e.1 ∧ e.2.1 ∈ ns ∧ e.2.2.1 ∈ ns ∧ e.2.1 ≠ e.2.2.1 ∧ -1000000 ≤ e.2.2.2 ∧ e.2.2.2 ≤ 1000000)
        (fun H12 e12 => ⟨[], [], none, none, rfl, M11.ex e12, e12 _ _ hnb, .nil, fun x hx => absurd hx (by simp), rfl, fun x hx => absurd hx (by simp)⟩) ?_ ?_
      case hmin =>
        exact (Evl.ea_cons (Evl.ev_cb (Evl.ea_cons (x := .int wide) (Evl.ev_var rfl) (Evl.ea_cons (ev_lenT (Evl.ev_var rfl) (.inl (Evl.sq_of M11.hn))) Evl.ea_nil)) (fun H1 _ _ q => ⟨_, _, rfl, q H1 (Evl.Ex.refl _)⟩)) Evl.ea_nil)
      · rintro i σ12 H12 hi ⟨es, eds, x13, x14, rfl, M12, hb12, ea12, fr12, nm12, em12⟩
        rw [List.length_map] at hi
        have hi1 : i < as.length := by
          split at hi <;> omega
        have hi2 : i < en.length := by
          rw [len']
          split at hi <;> omega
        refine ⟨.ref p, rfl, .int bound, rfl, _, _, rfl, rfl, p, c, bound + 1, _, rfl, M12.P, by omega, by omega, by omega, fun ln H13 ln0 ln1 b13 P13 => ?_⟩
        have M13 := M12.but b13 P13
        refine g_name ?_
        dsimp only
        refine q_asgVia (fun v H' => ∃ z, v = V.int z ∧ -1000000 ≤ z ∧ z ≤ 1000000 ∧ But p H13 H' ∧ Pen p c (n + 1713 + 2 * (i + 1)) H') (fun Q' hQ' => ?_) ?_
        · refine ⟨.ref p, rfl, p, c, 8, _, rfl, P13, by omega, by decide, by decide, fun d8 H14 _ _ b14 P14 => ⟨.int below, rfl, _, _, rfl, rfl, _, rfl, ?_⟩⟩
          have P14 := P14.le (m := n + 1713 + 2 * (i + 1)) (by omega)
          refine ite2 (fun hc => ?_) (fun hc => ?_)
          · exact ⟨.int ln, rfl, _, _, rfl, rfl, hQ' _ _ ⟨_, rfl, by omega, by omega, b14, P14⟩⟩
          · exact ⟨.int ln, rfl, hQ' _ _ ⟨_, rfl, by omega, by omega, b14, P14⟩⟩
        · rintro v H14 ⟨z, rfl, z0, z1, b14, P14⟩
          have M14 := M13.but b14 P14
          have hb14 : H14 nb = some (.lst (en.map V.str)) := b14 _ _ fnb (b13 _ _ fnb hb12)
          have ea14 := (ea12.tk (TK.but M12.P b13)).tk (TK.but M13.P b14)
          obtain ⟨u, v, hx, hu, hv, uv⟩ := M14.pr as[i] (List.getElem_mem hi1)
          have hno : atI (as.map V.ref) (i : Int) = some (.ref as[i]) := atI_some (by omega) (by rw [Int.toNat_natCast, List.getElem?_map, List.getElem?_eq_getElem hi1]; rfl)
          refine ⟨.ref eo, rfl, .inl ⟨rfl, _, Evl.sq_of M14.he⟩, .ref nb, rfl, .int i, rfl, nb, _, _, _, rfl, rfl, Evl.sq_of hb14, at_str (by omega) (by omega), .ref no, rfl, .int i, rfl, no, _, _, _, rfl, rfl, Evl.sq_of M14.hn, hno, as[i], _, 0, .str u, rfl, rfl, .inl (.inl hx), rfl,
            .ref no, rfl, .int i, rfl, no, _, _, _, rfl, rfl, Evl.sq_of M14.hn, hno, as[i], _, 1, .str v, rfl, rfl, .inl (.inl hx), rfl, .int z, rfl, by simp [sizeLine_eq], fun t nt => ?_⟩
          have M15 := M14.ex (Evl.Ex.new (o := .tup [.str en[i], .str u, .str v, .int z]) nt)
          have tk : TK H14 (upd H14 t (.tup [.str en[i], .str u, .str v, .int z])) := TK.ex (Evl.Ex.new nt)
          have tk2 : TK (upd H14 t (.tup [.str en[i], .str u, .str v, .int z])) (upd (upd H14 t (.tup [.str en[i], .str u, .str v, .int z])) eo (.lst (es.map V.ref ++ [.ref t]))) := TK.put (.inr ⟨_, M15.he⟩)
          have ft : H t = none := M14.b.back (M14.P.far nt).1 nt
          have les : es.length ≤ 40 := by
            have l1 : es.length = eds.length := Paired.length ea12
            have l2 : (eds.map (·.1)).length = (en.take i).length := by rw [nm12]
            rw [List.length_map, List.length_take] at l2
            omega
          refine ⟨eo, _, _, rfl, rfl, M15.he, ?_, es ++ [t], eds ++ [(en[i], u, v, z)], _, _, rfl, ?_, ?_, ?_, ?_, ?_, ?_⟩
          · rw [List.length_map]
            exact Evl.sz_lt (by omega)
          · have := M15.appE (v := .ref t) (hP.far fe).2
            rw [List.map_append]
            exact this
          · rw [upd_ne nba.symm]
            exact Evl.Ex.new nt _ _ hb14
          · exact paired_snoc ((ea14.tk tk).tk tk2) (tk2 _ _ upd_same)
          · intro x hx
            rcases List.mem_append.mp hx with hx | hx
            · exact fr12 x hx
            · rw [List.mem_singleton.mp hx]
              exact ft
          · rw [List.map_append, nm12, List.take_add_one, List.getElem?_eq_getElem hi2]
            rfl
          · intro e he
            rcases List.mem_append.mp he with he | he
            · exact em12 e he
            · rw [List.mem_singleton.mp he]
              exact ⟨nme _ (List.getElem_mem hi2), hu, hv, uv, z0, z1⟩
      · rintro σ12 H12 ⟨es, eds, x13, x14, rfl, M12, hb12, ea12, fr12, nm12, em12⟩
        refine ⟨.ref a, rfl, .ref eo, rfl, by simp [sizeLine_eq], fun t nt => ?_⟩
        have M13 := M12.ex (Evl.Ex.new (o := .tup [.ref a, .ref eo]) nt)
        have led : eds.length ≤ wide := by
          have l2 := congrArg List.length nm12
          rw [List.length_map, List.length_take] at l2
          omega
        refine q t a eo ns es eds _ ⟨nm, nd, em12, ?_⟩ (by omega) (by omega) led (M12.b.back (M12.P.far nt).1 nt) fa fe fr12 M13.b upd_same M13.ha M13.he (ea12.tk (TK.ex (Evl.Ex.new nt))) (M13.P.le ?_)
        · rw [nm12]
          exact (List.take_sublist _ _).nodup nde
        · rw [List.length_map]
          split <;> omega
end
end Lw

set_option maxHeartbeats 2000000
namespace Lw
open PySem PySem.Spec PyProof.Rows L2
open Evl (EvL EvA EvT RC)
theorem pi_or {X : Cx} {tg it : Expr} {wi wi' : TI} (h : PI X tg it wi) (h' : PI X tg it wi') : PI X tg it (fun σ H R => wi σ H R ∨ wi' σ H R) := ⟨fun pins s σ H R I z => z.elim (h.run pins s σ H R I) (h'.run pins s σ H R I)⟩
abbrev nm_edge_in_order : List Str := ["edge", "name", "u", "v", "length"]
theorem sc_edge_in_order : FnScope nm_edge_in_order ["edge"] (defScope (top 16)) := ⟨rfl, rfl, rfl, by decide +kernel, rfl, by decide +kernel, by decide +kernel⟩
abbrev nm_network_text : List Str := ["nodes", "edges", "lines", "name", "u", "v", "length", "node", "edge"]
theorem sc_network_text : FnScope nm_network_text ["nodes", "edges"] (defScope (top 23)) := ⟨rfl, rfl, rfl, by decide +kernel, rfl, by decide +kernel, by decide +kernel⟩
section
variable {P : Program} {w : World} {K : PySem.W.Frag} {mg : Str → Option Value} {base : Heap}
/-- an edge, the lesser end first -/
def spOrd : Sp := fun vs H Q _ => ∃ (a : Addr) (e : Eg), vs = [V.ref a] ∧ H a = some (.tup (egV e)) ∧ ∀ t H', Evl.Ex H H' → H t = none → H' t = some (.tup (egV (norm e))) → Q (.ref t) H'
theorem ok_ord {f : Addr} {fd : FuncData} {k : Nat} (F : Fun K "edge_in_order" "edge_in_order" (top 16) f fd) (T : Bs mg bl) : FnOk P w K mg base CX0 (k + 1) f fd ["edge"] spOrd := by
  refine F.ok sc_edge_in_order (fun vs H Q E h => ?_) (fun cdv A outer s H vs Q E hr h => ?_)
  · obtain ⟨a, e, rfl, _⟩ := h
    rfl
  · obtain ⟨a, ⟨n, u, v, l⟩, rfl, ha, q⟩ := h
    refine ⟨_, (pss_cons (ps_asg (pv 0) (pg_tup rfl (pgs_cons (pg_name (i := 1) sc_edge_in_order.nd rfl (Or.inl rfl)) (pgs_cons (pg_name (i := 2) sc_edge_in_order.nd rfl (Or.inl rfl)) (pgs_cons (pg_name (i := 3) sc_edge_in_order.nd rfl (Or.inl rfl)) (pgs_cons (pg_name (i := 4) sc_edge_in_order.nd rfl (Or.inl rfl)) pgs_nil))))))
      (pss_one (ps_ret (pe_tup (pa_cons (pv 1) (pa_cons (pe_callB (call_min2S rfl) (by rfl) (T.b "min" (by decide)) (by decide +kernel) (pa_cons (pv 2) (pa_cons (pv 3) pa_nil))) (pa_cons (pe_callB (call_max2S rfl) (by rfl) (T.b "max" (by decide)) (by decide +kernel) (pa_cons (pv 2) (pa_cons (pv 3) pa_nil))) (pa_cons (pv 4) pa_nil)))))))), ?_⟩
    refine ⟨.ref a, rfl, a, _, rfl, .inl (.inl ha), rfl, _, _, rfl, _, _, rfl, _, _, rfl, _, _, rfl, rfl, ?_⟩
    refine ⟨.str n, rfl, .str u, rfl, .str v, rfl, u, v, rfl, .str u, rfl, .str v, rfl, u, v, rfl, .int l, rfl, by simp [sizeLine_eq], fun t nt => ?_⟩
    exact q t _ (Evl.Ex.new nt) nt upd_same
theorem ok_ntext {f fO : Addr} {fd dO : FuncData} {k : Nat} (F : Fun K "network_text" "network_text" (top 23) f fd) (T : Bs mg bl) (F_edge_in_order : Cf P w K mg base "edge_in_order" ["edge"] k spOrd fO dO) :
    FnOk P w K mg base CX0 (k + 1) f fd ["nodes", "edges"] (spText K) := by
  refine F.ok sc_network_text (fun vs H Q E h => ?_) (fun cdv A outer s H vs Q E hr h => ?_)
  · obtain ⟨a, b, ns, as, es, rfl, _⟩ := h
    rfl
  · obtain ⟨a, b, ns, as, es, rfl, ha, hb, he, net, l0, l1, q⟩ := h
    refine ⟨_, (pss_cons (ps_setLc (i := 2) (own := [("node", 7)]) (g := (gName 7)) (tt := tYes) (te := (fun σ H Q => tJs [tC (.str "node "), tFmt (tVar 7)] Str.empty σ H fun out H1 => Q (.str out) H1)) rfl sc_network_text.nd rfl rfl (by rfl) (pi_list (pe_callB (cr_sortedD hr) (by rfl) (T.b "sorted" (by decide)) (by decide +kernel) (pa_cons (pv 0) pa_nil))) (blkOk_by (N := nm_network_text) (sc := defScope (top 23)) (by decide +kernel)) (fun _ _ _ _ _ => pg_name (i := 7) sc_network_text.nd rfl (Or.inl rfl)) (fun _ _ _ _ _ => pts_nil) (fun _ _ _ _ _ => (pe_joined (PJ.cons pe_str (PJ.cons (pe_fmt (pv 7)) PJ.nil)))))
      (pss_cons (ps_for PassesOwn.never rfl (pi_list (pe_callB (cr_sortedD hr) (by rfl) (T.b "sorted" (by decide)) (by decide +kernel) (pa_cons (pe_lc (own := [("edge", 8)]) (g := (gName 8)) (tt := tYes) (te := (tCall spOrd [] noE (tCons (tVar 8) tNil))) rfl sc_network_text.nd (pi_or (pi_list (pv 1)) (pi_tup (pv 1))) (blkOk_by (N := nm_network_text) (sc := defScope (top 23)) (by decide +kernel)) (fun _ _ _ _ _ => pg_name (i := 8) sc_network_text.nd rfl (Or.inl rfl)) (fun _ _ _ _ _ => pts_nil) (fun _ _ _ _ _ => (pe_cf F_edge_in_order (hr.mono (by omega)) (by rfl) (pa_cons (pv 8) pa_nil)))) pa_nil))) (pg_tup rfl (pgs_cons (pg_name (i := 3) sc_network_text.nd rfl (Or.inl rfl)) (pgs_cons (pg_name (i := 4) sc_network_text.nd rfl (Or.inl rfl)) (pgs_cons (pg_name (i := 5) sc_network_text.nd rfl (Or.inl rfl)) (pgs_cons (pg_name (i := 6) sc_network_text.nd rfl (Or.inl rfl)) pgs_nil))))) (pss_one (ps_expr (pe_bm PySem.F.plainAttrs_list PySem.F.slot_list_append PySem.F.type_list_append mt_append (pv 2) (pa_cons (pe_joined (PJ.cons pe_str (PJ.cons (pe_fmt (pv 3)) (PJ.cons pe_str (PJ.cons (pe_fmt (pv 4)) (PJ.cons pe_str (PJ.cons (pe_fmt (pv 5)) (PJ.cons pe_str (PJ.cons (pe_fmt (pv 6)) PJ.nil))))))))) pa_nil)))))
      (pss_one (ps_ret (pe_join pe_str (pv 2)))))), ?_⟩
    have g0 := five
    -- the lines of the nodes
    refine Evl.q_asgL (el_lcMap (fun x => match x with | .str z => .str (nodeLine z) | v => v) (Evl.el_cb (Evl.ea_cons (Evl.ev_var rfl) Evl.ea_nil) (rc_sortN ha (by omega))) (by rw [List.length_map, (srtN_perm ns).length_eq]; omega) (fun _ => rfl) (fun x hx H1 e1 => ?_)) fun lo H1 nlo e1 hlo => ?_
    · obtain ⟨z, hz, rfl⟩ := List.mem_map.mp hx
      have zl := (net.nm z ((srtN_perm ns).mem_iff.mp hz)).2.1
      intro H2 e2 Q2 k
      refine ⟨"node ", rfl, Evl.sz_of (by rw [emp_app]; omega), .str z, rfl, .inl ⟨z, rfl, Evl.sz_of (by omega), z, rfl, Evl.sz_of (by rw [emp_app, len_app]; omega), ?_⟩⟩
      show Q2 (.str (Str.empty ++ "node " ++ z)) _
      rw [emp_app]
      exact k _ (Evl.Ex.refl _)
    · have hlo : H1 lo = some (.lst (((srtN ns).map nodeLine).map V.str)) := by
        rw [hlo, List.map_map, List.map_map]
        rfl
      have he1 : EgsAt H1 as es := he.tk (TK.ex e1)
      have lae := he.len
      -- the edges in order
      refine q_forVia (fun p xs H' => ∃ bs, xs = bs.map V.ref ∧ Evl.Ex H1 H' ∧ H' p = some (.lst xs) ∧ H1 p = none ∧ EgsAt H' bs (srtE (es.map norm))) (fun Q' hQ' => ?_)
        (fun p xs i σ' H' => ∃ bs x3 x4 x5 x6, xs = bs.map V.ref ∧ σ' = [some (.ref a), some (.ref b), some (.ref lo), x3, x4, x5, x6, none, none] ∧ But lo H1 H' ∧ p ≠ lo ∧ H' p = some (.lst xs) ∧ EgsAt H' bs (srtE (es.map norm)) ∧
          H' lo = some (.lst (((srtN ns).map nodeLine ++ ((srtE (es.map norm)).take i).map edgeLine).map V.str)))
        (fun p xs H' ⟨bs, e, e2, hp, np, hbs⟩ => ⟨bs, none, none, none, none, e, rfl, But.of e2, apart hlo np, hp, hbs, by rw [e2 _ _ hlo, List.take_zero, List.map_nil, List.append_nil]⟩) (fun p xs i σ' H' ⟨_, _, _, _, _, _, _, _, _, hp, _⟩ => Evl.sq_of hp) (fun p xs i x σ' H' hx z => ?_) (fun p xs σ' H' z => ?_)
      · have turn : ∀ (D i : Addr) (x : V) (H' : Hp), H1 D = none → (as.map V.ref)[i]? = some x → (∃ cs : List Addr, EgsAt H' cs ((es.take i).map norm) ∧ Evl.Ex H1 H' ∧ H' D = some (.lst (cs.map V.ref))) →
            tCall spOrd [] noE (tCons (tVar 8) tNil) ((wipe [some (.ref a), some (.ref b), some (.ref lo), none, none, none, none, none, none] [8]).set 8 (some x)) H' fun y H4 => ∃ acc, H4 D = some (.lst acc) ∧ acc.length < sizeLine ∧
              ∃ cs : List Addr, EgsAt (upd H4 D (.lst (acc ++ [y]))) cs ((es.take (i + 1)).map norm) ∧ Evl.Ex H1 (upd H4 D (.lst (acc ++ [y]))) ∧ (upd H4 D (.lst (acc ++ [y]))) D = some (.lst (cs.map V.ref)) := fun D i x H' nD hx ⟨cs, hcs, e2, hD⟩ => by
          rw [List.getElem?_map] at hx
          obtain ⟨a', ha', rfl⟩ := Option.map_eq_some_iff.mp hx
          obtain ⟨e, hei, hae⟩ := egs_get he1 ha'
          have lc : cs.length ≤ 200 := by
            have := hcs.len
            rw [List.length_map, List.length_take] at this
            omega
          refine ⟨.ref a', rfl, a', e, rfl, e2 _ _ hae, fun t H4 e4 nt ht => ⟨_, e4 _ _ hD, by rw [List.length_map]; exact Evl.sz_lt (by omega), cs ++ [t], ?_, ?_, ?_⟩⟩
          · have k : TK H4 (upd H4 D (.lst (cs.map V.ref ++ [.ref t]))) := TK.put (.inr ⟨_, e4 _ _ hD⟩)
            rw [List.take_add_one, hei, List.map_append]
            exact paired_snoc ((hcs.tk (TK.ex e4)).tk k) (k _ _ ht)
          · exact (e2.trans e4).mut nD
          · rw [upd_same, List.map_append]
            rfl
        have last : ∀ (D : Addr) (H' : Hp), (∃ cs : List Addr, EgsAt H' cs ((es.take (as.map V.ref).length).map norm) ∧ Evl.Ex H1 H' ∧ H' D = some (.lst (cs.map V.ref))) → rSortedD K [.ref D] H' Q' := fun D H' ⟨cs, hcs, e2, hD⟩ => by
          rw [List.length_map, lae, List.take_length] at hcs
          have lc := hcs.len
          rw [List.length_map] at lc
          exact rc_sortE (.inl (Evl.sq_of hD)) hcs (by omega) fun p bs np hbs => hQ' p _ _ ⟨bs, rfl, e2.trans (Evl.Ex.new np), upd_same, Evl.fresh_back e2 np, hbs.tk (TK.ex (Evl.Ex.new np))⟩
        have first : ∀ D : Addr, H1 D = none → ∃ cs : List Addr, EgsAt (upd H1 D (.lst [])) cs ((es.take 0).map norm) ∧ Evl.Ex H1 (upd H1 D (.lst [])) ∧ (upd H1 D (.lst [])) D = some (.lst (cs.map V.ref)) := fun D nD => ⟨[], .nil, Evl.Ex.new nD, upd_same⟩
        rcases hb with hb | hb
        · exact .inl ⟨.ref b, rfl, b, rfl, ⟨_, Evl.ex_l e1 hb⟩, fun D nD => lc_list (fun i H' => ∃ cs : List Addr, EgsAt H' cs ((es.take i).map norm) ∧ Evl.Ex H1 H' ∧ H' D = some (.lst (cs.map V.ref))) (first D nD) (fun i H' _ ⟨_, _, e2, _⟩ => Evl.ex_l (e1.trans e2) hb)
            (fun i x H' hx z => ⟨rfl, turn D i x H' nD hx z⟩) (fun H' z => last D H' z)⟩
        · exact .inr ⟨.ref b, rfl, b, rfl, ⟨_, Evl.ex_t e1 hb⟩, fun D nD => lc_tup (fun i H' => ∃ cs : List Addr, EgsAt H' cs ((es.take i).map norm) ∧ Evl.Ex H1 H' ∧ H' D = some (.lst (cs.map V.ref))) (first D nD) (fun i H' _ ⟨_, _, e2, _⟩ => Evl.ex_t (e1.trans e2) hb)
            (fun i x H' hx z => ⟨rfl, turn D i x H' nD hx z⟩) (fun H' z => last D H' z)⟩
      · obtain ⟨bs, x3, x4, x5, x6, rfl, rfl, b2, plo, hp, hbs, hl⟩ := z
        rw [List.getElem?_map] at hx
        obtain ⟨a', ha', rfl⟩ := Option.map_eq_some_iff.mp hx
        obtain ⟨⟨n, u, v, l⟩, hei, hae⟩ := egs_get hbs ha'
        obtain ⟨s1, s2, s3, s4, s5⟩ : Short (n, u, v, l) := by
          have hm : (n, u, v, l) ∈ es.map norm := (srtE_perm _).mem_iff.mp (List.mem_of_getElem? hei)
          obtain ⟨e, h1, h2⟩ := List.mem_map.mp hm
          rw [← h2]
          exact (net.short h1).norm
        have s1 : n.length ≤ 8 := s1
        have s2 : u.length ≤ 8 := s2
        have s3 : v.length ≤ 8 := s3
        have s6 : (isz l).length ≤ 8 := isz_len s4 s5
        have ll : ((srtN ns).map nodeLine ++ ((srtE (es.map norm)).take i).map edgeLine).length ≤ 300 := by
          rw [List.length_append, List.length_map, List.length_map, List.length_take, (srtN_perm ns).length_eq, (srtE_perm _).length_eq, List.length_map]
          omega
        refine ⟨a', _, rfl, .inl (.inl hae), rfl, _, _, rfl, _, _, rfl, _, _, rfl, _, _, rfl, rfl, ?_⟩
        refine ⟨.ref lo, rfl, .inl ⟨rfl, _, Evl.sq_of hl⟩, "edge ", rfl, Evl.sz_of (by simp only [emp_app, len_app]; omega), .str n, rfl, .inl ⟨n, rfl, Evl.sz_of (by omega), n, rfl, Evl.sz_of (by simp only [emp_app, len_app]; omega), " ", rfl, Evl.sz_of (by simp only [emp_app, len_app]; omega), .str u, rfl,
          .inl ⟨u, rfl, Evl.sz_of (by omega), u, rfl, Evl.sz_of (by simp only [emp_app, len_app]; omega), " ", rfl, Evl.sz_of (by simp only [emp_app, len_app]; omega), .str v, rfl, .inl ⟨v, rfl, Evl.sz_of (by omega), v, rfl, Evl.sz_of (by simp only [emp_app, len_app]; omega), " ", rfl, Evl.sz_of (by simp only [emp_app, len_app]; omega),
          .int l, rfl, .inr ⟨l, rfl, isz_log s4 s5, isz l, rfl, Evl.sz_of (by simp only [emp_app, len_app]; omega), ?_⟩⟩⟩⟩⟩
        refine ⟨lo, _, _, rfl, rfl, hl, by rw [List.length_map]; exact Evl.sz_lt (by omega), bs, _, _, _, _, rfl, rfl, b2.trans But.put, plo, ?_, hbs.tk (TK.put (.inr ⟨_, hl⟩)), ?_⟩
        · rw [upd_ne plo]
          exact hp
        · rw [upd_same, emp_app, List.take_add_one, hei]
          simp only [Option.toList, List.map_append, ← List.append_assoc]
          rfl
      · obtain ⟨bs, x3, x4, x5, x6, rfl, rfl, b2, plo, hp, hbs, hl⟩ := z
        have lb := hbs.len
        rw [List.length_map, lb, List.take_length] at hl
        have lz : (linesOf ns es).length ≤ 300 := by
          unfold linesOf
          rw [List.length_append, List.length_map, List.length_map, (srtN_perm ns).length_eq, (srtE_perm _).length_eq, List.length_map]
          omega
        have sum := lines_sum lz (k := 40) fun y hy => by
          rcases List.mem_append.mp hy with hy | hy
          · obtain ⟨z, hz, rfl⟩ := List.mem_map.mp hy
            have := node_len (net.nm z ((srtN_perm ns).mem_iff.mp hz)).2.1
            omega
          · obtain ⟨e, h1, rfl⟩ := List.mem_map.mp hy
            obtain ⟨f, h2, rfl⟩ := List.mem_map.mp ((srtE_perm _).mem_iff.mp h1)
            exact edge_len (net.short h2).norm
        refine ⟨⟨_, rfl⟩, .ref lo, rfl, "\n", lo, linesOf ns es, rfl, rfl, .inl (.inl (.inl hl)), ?_, ?_⟩
        · rw [g0.2.2.2.1]
          omega
        · refine q H' (fun c o hc => b2 _ _ (fun z => ?_) (e1 _ _ hc))
          rw [z, nlo] at hc
          exact nomatch hc
end
end Lw

set_option maxHeartbeats 2000000
namespace Lw
open PySem PySem.Spec PyProof.Rows L2
open Evl (EvL EvA EvT RC)
abbrev nm__law_text : List Str := ["_law_plain", "_law_lines", "_law_name", "_law_u", "_law_v", "_law_length", "_law_node"]
theorem sc__law_text : FnScope nm__law_text ["_law_plain"] (defScope (top 43)) := ⟨rfl, rfl, rfl, by decide +kernel, rfl, by decide +kernel, by decide +kernel⟩
section
variable {P : Program} {w : World} {K : PySem.W.Frag} {mg : Str → Option Value} {base : Heap}
/-- the law's own text of nodes and edges -/
def spLText : Sp := fun vs H Q _ => ∃ (t a b : Addr) (rest : List V) (ns : List Str) (as : List Addr) (es : List Eg), vs = [V.ref t] ∧ H t = some (.tup (.ref a :: .ref b :: rest)) ∧ H a = some (.lst (ns.map V.str)) ∧ H b = some (.lst (as.map V.ref)) ∧ EgsAt H as es ∧ IsNet ns es ∧ ns.length ≤ 100 ∧ es.length ≤ 200 ∧
  ∀ H', Evl.Ex H H' → Q (.str (netText ns es)) H'
theorem ok_ltext {f : Addr} {fd : FuncData} {k : Nat} (F : Fun K "_law_text" "_law_text" (top 43) f fd) (T : Bs mg bl) : FnOk P w K mg base CX0 (k + 1) f fd ["_law_plain"] spLText := by
  refine F.ok sc__law_text (fun vs H Q E h => ?_) (fun cdv A outer s H vs Q E hr h => ?_)
  · obtain ⟨t, a, b, rest, ns, as, es, rfl, _⟩ := h
    rfl
  · obtain ⟨t, a, b, rest, ns, as, es, rfl, ht, ha, hb, he, net, l0, l1, q⟩ := h
    refine ⟨_, (pss_cons (ps_setLc (i := 1) (own := [("_law_node", 6)]) (g := (gName 6)) (tt := tYes) (te := (tOp rAddS (tC (.str "node ")) (tVar 6))) rfl sc__law_text.nd rfl rfl (by rfl) (pi_list (pe_callB (cr_sortedD hr) (by rfl) (T.b "sorted" (by decide)) (by decide +kernel) (pa_cons (pe_ix ix_tup (pv 0) pe_int (fun _ _ => rfl)) pa_nil))) (blkOk_by (N := nm__law_text) (sc := defScope (top 43)) (by decide +kernel)) (fun _ _ _ _ _ => pg_name (i := 6) sc__law_text.nd rfl (Or.inl rfl)) (fun _ _ _ _ _ => pts_nil) (fun _ _ _ _ _ => (pe_op op_add_str pe_str (pv 6))))
      (pss_cons (ps_for PassesOwn.never rfl (pi_list (pe_callB (cr_sortedD hr) (by rfl) (T.b "sorted" (by decide)) (by decide +kernel) (pa_cons (pe_ix ix_tup (pv 0) pe_int (fun _ _ => rfl)) pa_nil))) (pg_tup rfl (pgs_cons (pg_name (i := 2) sc__law_text.nd rfl (Or.inl rfl)) (pgs_cons (pg_name (i := 3) sc__law_text.nd rfl (Or.inl rfl)) (pgs_cons (pg_name (i := 4) sc__law_text.nd rfl (Or.inl rfl)) (pgs_cons (pg_name (i := 5) sc__law_text.nd rfl (Or.inl rfl)) pgs_nil))))) (pss_one (ps_expr (pe_bm PySem.F.plainAttrs_list PySem.F.slot_list_append PySem.F.type_list_append mt_append (pv 1) (pa_cons (pe_join pe_str (pe_lst (pa_cons pe_str (pa_cons (pv 2) (pa_cons (pe_callB (call_min2S rfl) (by rfl) (T.b "min" (by decide)) (by decide +kernel) (pa_cons (pv 3) (pa_cons (pv 4) pa_nil))) (pa_cons (pe_callB (call_max2S rfl) (by rfl) (T.b "max" (by decide)) (by decide +kernel) (pa_cons (pv 3) (pa_cons (pv 4) pa_nil))) (pa_cons (pe_callTy call_str_int (by rfl) (T.b "str" (by decide)) (by decide +kernel) (pa_cons (pv 5) pa_nil)) pa_nil))))))) pa_nil)))))
      (pss_one (ps_ret (pe_join pe_str (pv 1)))))), ?_⟩
    have g0 := five
    refine Evl.q_asgL (el_lcMap (fun x => match x with | .str z => .str (nodeLine z) | v => v) (Evl.el_cb (vs := [.ref a]) (Evl.ea_cons (Evl.ev_op (Evl.ev_var rfl) Evl.ev_c (Evl.rv_ixT (xs := .ref a :: .ref b :: rest) (.inl (.inl ht)) (atI_some (by decide) rfl))) Evl.ea_nil) (rc_sortN (.inl (Evl.sq_of ha)) (by omega))) (by rw [List.length_map, (srtN_perm ns).length_eq]; omega) (fun _ => rfl) (fun x hx H1 e1 => ?_)) fun lo H1 nlo e1 hlo => ?_
    · obtain ⟨z, hz, rfl⟩ := List.mem_map.mp hx
      have zl := (net.nm z ((srtN_perm ns).mem_iff.mp hz)).2.1
      exact ev_addS Evl.ev_c (Evl.ev_var rfl) (by omega)
    · have hlo : H1 lo = some (.lst (((srtN ns).map nodeLine).map V.str)) := by
        rw [hlo, List.map_map, List.map_map]
        rfl
      have he1 : EgsAt H1 as es := he.tk (TK.ex e1)
      have lae := he.len
      refine q_forVia (fun p xs H' => ∃ bs, xs = bs.map V.ref ∧ Evl.Ex H1 H' ∧ H' p = some (.lst xs) ∧ H1 p = none ∧ EgsAt H' bs (srtE es)) (fun Q' hQ' => ?_)
        (fun p xs i σ' H' => ∃ bs x2 x3 x4 x5, xs = bs.map V.ref ∧ σ' = [some (.ref t), some (.ref lo), x2, x3, x4, x5, none] ∧ But lo H1 H' ∧ p ≠ lo ∧ H' p = some (.lst xs) ∧ EgsAt H' bs (srtE es) ∧
          H' lo = some (.lst (((srtN ns).map nodeLine ++ (((srtE es).take i).map norm).map edgeLine).map V.str)))
        (fun p xs H' ⟨bs, e, e2, hp, np, hbs⟩ => ⟨bs, none, none, none, none, e, rfl, But.of e2, apart hlo np, hp, hbs, by rw [e2 _ _ hlo, List.take_zero, List.map_nil, List.map_nil, List.append_nil]⟩) (fun p xs i σ' H' ⟨_, _, _, _, _, _, _, _, _, hp, _⟩ => Evl.sq_of hp) (fun p xs i x σ' H' hx z => ?_) (fun p xs σ' H' z => ?_)
      · exact ⟨.ref t, rfl, t, _, 1, .ref b, rfl, rfl, .inl (.inl (e1 _ _ ht)), atI_some (by decide) rfl, rc_sortE (.inl (Evl.sq_of (e1 _ _ hb))) he1 (by omega) fun p bs np hbs => hQ' p _ _ ⟨bs, rfl, Evl.Ex.new np, upd_same, np, hbs.tk (TK.ex (Evl.Ex.new np))⟩⟩
      · obtain ⟨bs, x3, x4, x5, x6, rfl, rfl, b2, plo, hp, hbs, hl⟩ := z
        rw [List.getElem?_map] at hx
        obtain ⟨a', ha', rfl⟩ := Option.map_eq_some_iff.mp hx
        obtain ⟨⟨n, u, v, l⟩, hei, hae⟩ := egs_get hbs ha'
        have hm : (n, u, v, l) ∈ es := (srtE_perm _).mem_iff.mp (List.mem_of_getElem? hei)
        have sh := (net.short hm).norm
        have sl := edge_len sh
        obtain ⟨s1, s2, s3, s4, s5⟩ := sh
        have ll : ((srtN ns).map nodeLine ++ (((srtE es).take i).map norm).map edgeLine).length ≤ 300 := by
          rw [List.length_append, List.length_map, List.length_map, List.length_map, List.length_take, (srtN_perm ns).length_eq, (srtE_perm _).length_eq]
          omega
        refine ⟨a', _, rfl, .inl (.inl hae), rfl, _, _, rfl, _, _, rfl, _, _, rfl, _, _, rfl, rfl, ?_⟩
        have il : (isz l).length ≤ 8 := isz_len s4 s5
        have ml : (minS u v).length ≤ 8 := s2
        have xl : (maxS u v).length ≤ 8 := s3
        have nl : n.length ≤ 8 := s1
        refine ⟨.ref lo, rfl, .inl ⟨rfl, _, Evl.sq_of hl⟩, ⟨_, rfl⟩, .str n, rfl, .str u, rfl, .str v, rfl, u, v, rfl, .str u, rfl, .str v, rfl, u, v, rfl, .int l, rfl, l, rfl, isz_log s4 s5, by simp [sizeLine_eq], fun jl nj => ?_⟩
        refine ⟨" ", jl, ["edge", n, minS u v, maxS u v, isz l], rfl, rfl, .inl (.inl (.inl upd_same)), ?_, ?_⟩
        · have : (["edge", n, minS u v, maxS u v, isz l] : List Str).length = 5 := rfl
          simp only [List.map_cons, List.map_nil, List.sum_cons, List.sum_nil]
          rw [this]
          omega
        · have hl2 := Evl.Ex.new (o := .lst [.str "edge", .str n, .str (minS u v), .str (maxS u v), .str (isz l)]) nj _ _ hl
          refine ⟨lo, _, _, rfl, rfl, hl2, by rw [List.length_map]; exact Evl.sz_lt (by omega), bs, _, _, _, _, rfl, rfl, (b2.trans (But.of (Evl.Ex.new nj))).trans But.put, plo, ?_, (hbs.tk (TK.ex (Evl.Ex.new nj))).tk (TK.put (.inr ⟨_, hl2⟩)), ?_⟩
          · rw [upd_ne plo]
            exact Evl.Ex.new nj _ _ hp
          · rw [upd_same, edge_join, List.take_add_one, hei]
            simp only [Option.toList, List.map_append, ← List.append_assoc]
            rfl
      · obtain ⟨bs, x3, x4, x5, x6, rfl, rfl, b2, plo, hp, hbs, hl⟩ := z
        have lb := hbs.len
        rw [List.length_map, lb, List.take_length, ← srtE_norm net.ed] at hl
        have lz : (linesOf ns es).length ≤ 300 := by
          unfold linesOf
          rw [List.length_append, List.length_map, List.length_map, (srtN_perm ns).length_eq, (srtE_perm _).length_eq, List.length_map]
          omega
        have sum := lines_sum lz (k := 40) fun y hy => by
          rcases List.mem_append.mp hy with hy | hy
          · obtain ⟨z, hz, rfl⟩ := List.mem_map.mp hy
            have := node_len (net.nm z ((srtN_perm ns).mem_iff.mp hz)).2.1
            omega
          · obtain ⟨e, h1, rfl⟩ := List.mem_map.mp hy
            obtain ⟨f, h2, rfl⟩ := List.mem_map.mp ((srtE_perm _).mem_iff.mp h1)
            exact edge_len (net.short h2).norm
        refine ⟨⟨_, rfl⟩, .ref lo, rfl, "\n", lo, linesOf ns es, rfl, rfl, .inl (.inl (.inl hl)), ?_, ?_⟩
        · rw [g0.2.2.2.1]
          omega
        · refine q H' (fun c o hc => b2 _ _ (fun z => ?_) (e1 _ _ hc))
          rw [z, nlo] at hc
          exact nomatch hc
end
end Lw

set_option maxHeartbeats 2000000
namespace Lw
open PySem PySem.Spec PyProof.Rows L2
open Evl (EvL EvA EvT RC)
abbrev nm_is_whole : List Str := ["value"]
theorem sc_is_whole : FnScope nm_is_whole ["value"] (defScope (top 13)) := ⟨rfl, rfl, rfl, by decide +kernel, rfl, by decide +kernel, by decide +kernel⟩
abbrev nm_is_name : List Str := ["value"]
theorem sc_is_name : FnScope nm_is_name ["value"] (defScope (top 14)) := ⟨rfl, rfl, rfl, by decide +kernel, rfl, by decide +kernel, by decide +kernel⟩
abbrev nm_is_length : List Str := ["value"]
theorem sc_is_length : FnScope nm_is_length ["value"] (defScope (top 15)) := ⟨rfl, rfl, rfl, by decide +kernel, rfl, by decide +kernel, by decide +kernel⟩
theorem tyOf_ex {K : PySem.W.Frag} {H H' : Hp} {x : V} {t : Value} (e : Evl.Ex H H') (h : TyOf K H x t) : TyOf K H' x t := by
  cases h <;> first
    | exact .non
    | exact .bl _
    | exact .int _
    | exact .str _
    | exact .flt _
    | exact .lst (e _ _ (by assumption))
    | exact .frz (e _ _ (by assumption))
    | exact .tup (e _ _ (by assumption))
    | exact .dK (e _ _ (by assumption))
    | exact .dT (e _ _ (by assumption))
    | exact .ins (e _ _ (by assumption)) (by assumption) (by assumption) (by assumption) (by assumption) (by assumption)
theorem tyX_ex {K : PySem.W.Frag} {H H' : Hp} {x : V} {t : Value} (e : Evl.Ex H H') (h : TyX K H x t) : TyX K H' x t := by
  cases h <;> first
    | exact .base (tyOf_ex e (by assumption))
    | exact .byt _
    | exact .set (e _ _ (by assumption))
    | exact .kList (by assumption) (by assumption)
    | exact .kTuple (by assumption) (by assumption)
    | exact .kDict (by assumption) (by assumption)
    | exact .fTuple (e _ _ (by assumption))
    | exact .fDict (e _ _ (by assumption))
def nameB (z : Str) : Bool := !decide (8 < (z.length : Int)) && (Txt.isascii z && (Txt.isalpha z && Txt.islower z))
section
variable {P : Program} {w : World} {K : PySem.W.Frag} {mg : Str → Option Value} {base : Heap} {uN uL : Value}
theorem ev_isi {σ : St} {H : Hp} {ta : TE} {x : V} {t : Value} {n : String} {b : Bool} (ht : TyX K H x t) (hk : PySem.W.kitOne K t (.type n) = some b) (h : Evl.Ev ta σ H x) : Evl.Ev (tCB (rIsi K) (tCons ta (tCons (tC (.ty n)) tNil))) σ H (.bl b) :=
  Evl.ev_cb (Evl.ea_cons h (Evl.ea_cons Evl.ev_c Evl.ea_nil)) fun H1 e _ q => ⟨x, .ty n, t, .type n, b, rfl, .ty n, tyX_ex e ht, hk, q H1 (Evl.Ex.refl _)⟩
theorem ev_m0 {σ : St} {H : Hp} {to : TE} {z : Str} {g : Str → Bool} (h : Evl.Ev to σ H (.str z)) : Evl.Ev (tM0 (fun x xs H Q => ∃ a, x = .str a ∧ xs = [] ∧ True ∧ Q (.bl (g a)) H) to) σ H (.bl (g z)) := fun H1 e Q q =>
  h H1 e _ fun H2 e2 => ⟨⟨z, rfl⟩, z, rfl, rfl, trivial, q H2 e2⟩
/-- a text, or no text -/
def spName (K : PySem.W.Frag) : Sp := fun vs H Q _ => (∃ z : Str, vs = [V.str z] ∧ z.length ≤ 100000 ∧ ∀ H', Evl.Ex H H' → Q (.bl (nameB z)) H') ∨ ∃ (x : V) (t : Value), vs = [x] ∧ TyX K H x t ∧ PySem.W.kitOne K t (.type "str") = some false ∧ ∀ H', Evl.Ex H H' → Q (.bl false) H'
theorem ok_isname {f : Addr} {fd : FuncData} {k : Nat} (F : Fun K "is_name" "is_name" (top 14) f fd) (T : Bs mg bl) (c_LONGEST_NAME : mg "LONGEST_NAME" = some uN) (r_LONGEST_NAME : RelV (.int 8) uN)
    (kss : PySem.W.kitOne K (.type "str") (.type "str") = some true) : FnOk P w K mg base CX0 (k + 1) f fd ["value"] (spName K) := by
  refine F.ok sc_is_name (fun vs H Q E h => ?_) (fun cdv A outer s H vs Q E hr h => ?_)
  · rcases h with ⟨z, rfl, _⟩ | ⟨x, t, rfl, _⟩ <;> rfl
  · refine ⟨_, (pss_cons (ps_if (PW.pt (pw_or (pt_not (pt_val (pe_callB call_isi (by rfl) (T.b "isinstance" (by decide)) (by decide +kernel) (pa_cons (pv 0) (pa_cons (pe_bltn (v := .ty "str") (by rfl) (T.b "str" (by decide)) (by decide +kernel) rfl) pa_nil))))) (pw_or1 (pt_cmpR op_gt (pe_callB call_len_str (by rfl) (T.b "len" (by decide)) (by decide +kernel) (pa_cons (pv 0) pa_nil)) (pe_glob rfl c_LONGEST_NAME r_LONGEST_NAME) (nomark _))))) (pss_one (ps_ret pe_bl)) pss_nil)
      (pss_one (ps_ret (pe_and (pe_m0 PySem.F.slot_str_isascii PySem.F.type_str_isascii mt_isascii (pv 0)) (pe_and (pe_m0 PySem.F.slot_str_isalpha PySem.F.type_str_isalpha mt_isalpha (pv 0)) (pe_one (pe_m0 PySem.F.slot_str_islower PySem.F.type_str_islower mt_islower (pv 0)))))))), ?_⟩
    rcases h with ⟨z, rfl, zl, q⟩ | ⟨x, t, rfl, ht, hk, q⟩
    · refine Evl.q_when (Evl.et_or (Evl.et_not (Evl.et_B (ev_isi (.base (.str z)) kss (Evl.ev_var rfl)))) fun _ => Evl.et_test (Evl.ev_op (Evl.ev_cb (r := fun xs H Q => ∃ z, xs = [.str z] ∧ z.length ≤ sizeLine ∧ Q (.int z.length) H) (Evl.ea_cons (Evl.ev_var rfl) Evl.ea_nil) fun H1 _ _ q => ⟨z, rfl, Evl.sz_of zl, q H1 (Evl.Ex.refl _)⟩) (Evl.ev_c (v := .int 8)) Evl.rv_I0)) (fun hb H1 e1 => ?_) (fun hb H1 e1 => ?_)
      · rw [Bool.not_true, Bool.false_or] at hb
        refine Evl.s_ret Evl.ev_c fun H2 e2 => ?_
        have := q H2 (e1.trans e2)
        unfold nameB at this
        rwa [hb, Bool.not_true, Bool.false_and] at this
      · rw [Bool.not_true, Bool.false_or] at hb
        refine Evl.s_ret (Evl.ev_andV (ev_m0 (Evl.ev_var rfl)) fun _ => Evl.ev_andV (ev_m0 (Evl.ev_var rfl)) fun _ => ev_m0 (Evl.ev_var rfl)) fun H2 e2 => ?_
        have := q H2 (e1.trans e2)
        unfold nameB at this
        rwa [hb, Bool.not_false, Bool.true_and] at this
    · refine Evl.q_when (b := true) (Evl.et_is (Evl.et_or (b := true) (Evl.et_not (Evl.et_B (ev_isi ht hk (Evl.ev_var rfl)))) fun z => absurd z (by decide)) rfl) (fun hb H1 e1 => ?_) (fun hb => absurd hb (by decide))
      exact Evl.s_ret Evl.ev_c fun H2 e2 => q H2 (e1.trans e2)
/-- an integer that is no bool -/
def spWhole (K : PySem.W.Frag) : Sp := fun vs H Q _ => ∃ (x : V) (t : Value) (b1 b2 : Bool), vs = [x] ∧ TyX K H x t ∧ PySem.W.kitOne K t (.type "int") = some b1 ∧ PySem.W.kitOne K t (.type "bool") = some b2 ∧ ∀ H', Evl.Ex H H' → Q (.bl (b1 && !b2)) H'
theorem ok_iswhole {f : Addr} {fd : FuncData} {k : Nat} (F : Fun K "is_whole" "is_whole" (top 13) f fd) (T : Bs mg bl) : FnOk P w K mg base CX0 (k + 1) f fd ["value"] (spWhole K) := by
  refine F.ok sc_is_whole (fun vs H Q E h => ?_) (fun cdv A outer s H vs Q E hr h => ?_)
  · obtain ⟨x, t, b1, b2, rfl, _⟩ := h
    rfl
  · obtain ⟨x, t, b1, b2, rfl, ht, h1, h2, q⟩ := h
    refine ⟨_, (pss_one (ps_ret (pe_and (pe_callB call_isi (by rfl) (T.b "isinstance" (by decide)) (by decide +kernel) (pa_cons (pv 0) (pa_cons (pe_bltn (v := .ty "int") (by rfl) (T.b "int" (by decide)) (by decide +kernel) rfl) pa_nil))) (pe_one (pe_not (pe_callB call_isi (by rfl) (T.b "isinstance" (by decide)) (by decide +kernel) (pa_cons (pv 0) (pa_cons (pe_bltn (v := .ty "bool") (by rfl) (T.b "bool" (by decide)) (by decide +kernel) rfl) pa_nil)))))))), ?_⟩
    exact Evl.s_ret (Evl.ev_andV (ev_isi ht h1 (Evl.ev_var rfl)) fun _ => Evl.ev_notV (ev_isi ht h2 (Evl.ev_var rfl))) q
def lenB (i : Int) : Bool := decide (-1000000 ≤ i) && decide (i ≤ 1000000)
/-- a whole number, or none -/
def spLen (K : PySem.W.Frag) : Sp := fun vs H Q _ => (∃ i : Int, vs = [.int i] ∧ ∀ H', Evl.Ex H H' → Q (.bl (lenB i)) H') ∨
  ∃ (x : V) (t : Value) (b1 b2 : Bool), vs = [x] ∧ TyX K H x t ∧ PySem.W.kitOne K t (.type "int") = some b1 ∧ PySem.W.kitOne K t (.type "bool") = some b2 ∧ (b1 && !b2) = false ∧ ∀ H', Evl.Ex H H' → Q (.bl false) H'
theorem ok_islength {f fW : Addr} {fd dW : FuncData} {k : Nat} (F : Fun K "is_length" "is_length" (top 15) f fd) (T : Bs mg bl) (c_MAX_LENGTH : mg "MAX_LENGTH" = some uL) (r_MAX_LENGTH : RelV (.int 1000000) uL)
    (F_is_whole : Cf P w K mg base "is_whole" ["value"] k (spWhole K) fW dW) (kii : PySem.W.kitOne K (.type "int") (.type "int") = some true) (kib : PySem.W.kitOne K (.type "int") (.type "bool") = some false) : FnOk P w K mg base CX0 (k + 1) f fd ["value"] (spLen K) := by
  refine F.ok sc_is_length (fun vs H Q E h => ?_) (fun cdv A outer s H vs Q E hr h => ?_)
  · rcases h with ⟨i, rfl, _⟩ | ⟨x, t, b1, b2, rfl, _⟩ <;> rfl
  · refine ⟨_, (pss_one (ps_ret (pe_and (pe_cf F_is_whole (hr.mono (by omega)) (by rfl) (pa_cons (pv 0) pa_nil)) (pe_one (pe_chain op_le op_le (pe_un un_neg (pe_glob rfl c_MAX_LENGTH r_MAX_LENGTH)) (pv 0) (pe_glob rfl c_MAX_LENGTH r_MAX_LENGTH)))))), ?_⟩
    rcases h with ⟨i, rfl, q⟩ | ⟨x, t, b1, b2, rfl, ht, h1, h2, h3, q⟩
    · refine ⟨.int i, rfl, .int i, .type "int", true, false, rfl, .base (.int i), kii, kib, fun H1 e1 => ⟨_, rfl, ?_⟩⟩
      refine ⟨1000000, rfl, .int i, rfl, _, _, rfl, rfl, _, rfl, ?_⟩
      have h := q H1 e1
      unfold lenB at h
      refine ite2 (fun hc => ?_) (fun hc => ?_)
      · have hc : decide (-1000000 ≤ i) = true := hc
        rw [hc, Bool.true_and] at h
        exact ⟨_, _, rfl, rfl, h⟩
      · have hc : ¬ decide (-1000000 ≤ i) = true := hc
        rw [Bool.not_eq_true] at hc
        rw [hc, Bool.false_and] at h
        exact h
    · refine ⟨x, rfl, x, t, b1, b2, rfl, ht, h1, h2, fun H1 e1 => ⟨_, rfl, ?_⟩⟩
      rw [h3]
      exact q H1 e1
end
end Lw

set_option maxHeartbeats 2000000
namespace Lw
open PySem PySem.Spec PyProof.Rows L2
open Evl (EvL EvA EvT RC)
abbrev nm_is_number : List Str := ["word", "digits"]
theorem sc_is_number : FnScope nm_is_number ["word"] (defScope (top 25)) := ⟨rfl, rfl, rfl, by decide +kernel, rfl, by decide +kernel, by decide +kernel⟩
abbrev nm__is_length_word : List Str := ["word"]
theorem sc__is_length_word : FnScope nm__is_length_word ["word"] (defScope (top 28)) := ⟨rfl, rfl, rfl, by decide +kernel, rfl, by decide +kernel, by decide +kernel⟩
abbrev nm__can_be_node : List Str := ["words", "nodes", "edges"]
theorem sc__can_be_node : FnScope nm__can_be_node ["words", "nodes", "edges"] (defScope (top 26)) := ⟨rfl, rfl, rfl, by decide +kernel, rfl, by decide +kernel, by decide +kernel⟩
abbrev nm__can_be_edge : List Str := ["words", "nodes", "edges", "_", "name", "u", "v", "length"]
theorem sc__can_be_edge : FnScope nm__can_be_edge ["words", "nodes", "edges"] (defScope (top 27)) := ⟨rfl, rfl, rfl, by decide +kernel, rfl, by decide +kernel, by decide +kernel⟩
section
variable {P : Program} {w : World} {K : PySem.W.Frag} {mg : Str → Option Value} {base : Heap} {uN uL : Value}
theorem digs : ∀ c, c < 10 → Unicode.isDigit (48 + c) = true := by decide +kernel
/-- the word of a length is a number -/
def spNum : Sp := fun vs H Q _ => ∃ l : Int, vs = [.str (isz l)] ∧ -1000000 ≤ l ∧ l ≤ 1000000 ∧ ∀ H', Evl.Ex H H' → Q (.bl true) H'
theorem ok_isnumber {f : Addr} {fd : FuncData} {k : Nat} (F : Fun K "is_number" "is_number" (top 25) f fd) (T : Bs mg bl) : FnOk P w K mg base CX0 (k + 1) f fd ["word"] spNum := by
  refine F.ok sc_is_number (fun vs H Q E h => ?_) (fun cdv A outer s H vs Q E hr h => ?_)
  · obtain ⟨l, rfl, _⟩ := h
    rfl
  · obtain ⟨l, rfl, l0, l1, q⟩ := h
    refine ⟨_, (pss_cons (ps_set (i := 1) sc_is_number.nd rfl (Or.inl rfl) (pe_m1 PySem.F.slot_str_removeprefix PySem.F.type_str_removeprefix mt_removeprefix (pv 0) pe_str))
      (pss_cons (ps_if (PW.pt (pw_or (pt_not (pt_val (pe_m0 PySem.F.slot_str_isascii PySem.F.type_str_isascii mt_isascii (pv 1)))) (pw_or1 (pt_not (pt_val (pe_m0 PySem.F.slot_str_isdigit PySem.F.type_str_isdigit mt_isdigit (pv 1))))))) (pss_one (ps_ret pe_bl)) pss_nil)
      (pss_one (ps_ret (pe_or (pe_cmpR op_eq (pv 0) pe_str (nomark _)) (pe_one (pe_cmpR op_ne (pe_ix ix_str (pv 1) pe_int (fun _ _ => rfl)) pe_str (nomark _)))))))), ?_⟩
    have wl := isz_len l0 l1
    have hd : (Txt.removeprefix (isz l) "-").cps.toList = TL.numL l.natAbs := by
      rcases isz_cases l with ⟨h, e⟩ | ⟨h, e⟩
      · rw [rp_none fun cs z => ?_]
        · exact e
        · rw [e] at z
          have := TL.numL_digits l.natAbs 45 (by rw [z]; exact List.mem_cons_self)
          omega
      · exact rp_neg e
    refine Evl.q_asg (v := .str (Txt.removeprefix (isz l) "-")) (fun H1 e1 Q1 k => ⟨.str (isz l), rfl, ⟨_, rfl⟩, isz l, "-", rfl, rfl, Evl.sz_of (by omega), k H1 (Evl.Ex.refl _)⟩) fun H1 e1 => ?_
    generalize Txt.removeprefix (isz l) "-" = d at hd ⊢
    have dg : ∀ c ∈ d.cps.toList, 48 ≤ c ∧ c ≤ 57 := fun c hc => TL.numL_digits _ c (by rw [← hd]; exact hc)
    have dl : 0 < d.length := by
      rw [len_cps, hd]
      exact List.length_pos_iff.mpr (TL.numL_ne _)
    have dl2 : d.length ≤ 8 := by
      have : d.length ≤ (isz l).length := by
        rw [len_cps, len_cps, hd]
        rcases isz_cases l with ⟨_, e⟩ | ⟨_, e⟩ <;> rw [e] <;> simp
      omega
    have a1 : Txt.isascii d = true := by
      unfold Txt.isascii
      rw [← Array.all_toList, List.all_eq_true]
      exact fun c hc => decide_eq_true (by have := dg c hc; omega)
    have a2 : Txt.isdigit d = true := by
      unfold Txt.isdigit
      rw [Bool.and_eq_true, ← Array.all_toList, List.all_eq_true]
      refine ⟨decide_eq_true dl, fun c hc => ?_⟩
      have h := dg c hc
      have := digs (c - 48) (by omega)
      rwa [show 48 + (c - 48) = c by omega] at this
    refine Evl.q_when (b := false) (Evl.et_is (Evl.et_or (Evl.et_not (Evl.et_B (ev_m0 (Evl.ev_var rfl)))) fun _ => Evl.et_not (Evl.et_B (ev_m0 (Evl.ev_var rfl)))) (by rw [a1, a2]; rfl)) (fun hb => absurd hb (by decide)) (fun hb H2 e2 => ?_)
    obtain ⟨c, r, hc⟩ : ∃ c r, d.cps.toList = c :: r := by
      cases z : d.cps.toList with
      | nil => exact absurd (hd.symm.trans z) (TL.numL_ne _)
      | cons c r => exact ⟨c, r, rfl⟩
    have fin : (decide (V.str (isz l) = V.str "0") || !decide (V.str ⟨#[c]⟩ = V.str "0")) = true := by
      by_cases z : l = 0
      · rw [z]
        have : isz 0 = "0" := by decide +kernel
        rw [this]
        simp
      · obtain ⟨x, r', e, hx⟩ := numL_head l.natAbs (by omega)
        have : c = x := by
          have := hc.symm.trans (hd.trans e)
          exact (List.cons.inj this).1
        have ne : ¬ V.str ⟨#[c]⟩ = V.str "0" := fun z => by
          have z1 := V.str.inj z
          have z2 : (⟨#[c]⟩ : Str).cps.toList = (("0" : String) : Str).cps.toList := by rw [z1]
          have z3 : (("0" : String) : Str).cps.toList = [48] := by decide +kernel
          rw [z3] at z2
          have : c = 48 := (List.cons.inj z2).1
          omega
        rw [decide_eq_false ne]
        simp
    refine Evl.s_ret (Evl.ev_is (Evl.ev_orV (Evl.ev_op (Evl.ev_var rfl) Evl.ev_c (Evl.rv_eq rfl)) fun _ => Evl.ev_op (Evl.ev_op (Evl.ev_var rfl) Evl.ev_c (Evl.rv_ixS (by omega) (atI_some (i := 0) (Int.le_refl 0) (by rw [hc]; rfl)))) Evl.ev_c (Evl.rv_ne rfl)) (by rw [fin])) fun H3 e3 => q H3 ((e1.trans e2).trans e3)
/-- the word of a length, read -/
def spLWord : Sp := fun vs H Q _ => ∃ l : Int, vs = [.str (isz l)] ∧ -1000000 ≤ l ∧ l ≤ 1000000 ∧ ∀ H', Evl.Ex H H' → Q (.bl true) H'
theorem ok_lword {f fN fL : Addr} {fd dN dL : FuncData} {k : Nat} {uG : Value} (F : Fun K "_is_length_word" "_is_length_word" (top 28) f fd) (T : Bs mg bl) (c_LONGEST_LENGTH : mg "LONGEST_LENGTH" = some uG) (r_LONGEST_LENGTH : RelV (.int 8) uG)
    (F_is_number : Cf P w K mg base "is_number" ["word"] k spNum fN dN) (F_is_length : Cf P w K mg base "is_length" ["value"] k (spLen K) fL dL) : FnOk P w K mg base CX0 (k + 1) f fd ["word"] spLWord := by
  refine F.ok sc__is_length_word (fun vs H Q E h => ?_) (fun cdv A outer s H vs Q E hr h => ?_)
  · obtain ⟨l, rfl, _⟩ := h
    rfl
  · obtain ⟨l, rfl, l0, l1, q⟩ := h
    have wl := isz_len l0 l1
    refine ⟨_, (pss_one (ps_ret (pe_and (pe_cmpR op_le (pe_callB call_len_str (by rfl) (T.b "len" (by decide)) (by decide +kernel) (pa_cons (pv 0) pa_nil)) (pe_glob rfl c_LONGEST_LENGTH r_LONGEST_LENGTH) (nomark _)) (pe_and (pe_cf F_is_number (hr.mono (by omega)) (by rfl) (pa_cons (pv 0) pa_nil)) (pe_one (pe_cf F_is_length (hr.mono (by omega)) (by rfl) (pa_cons (pe_callTy call_int_str (by rfl) (T.b "int" (by decide)) (by decide +kernel) (pa_cons (pv 0) pa_nil)) pa_nil))))))), ?_⟩
    have lb : lenB l = true := by
      unfold lenB
      rw [decide_eq_true l0, decide_eq_true l1]
      rfl
    have wb : decide (((isz l).length : Int) ≤ 8) = true := decide_eq_true (by omega)
    refine Evl.s_ret (Evl.ev_is (Evl.ev_andV (Evl.ev_op (Evl.ev_cb (vs := [.str (isz l)]) (z := .int (isz l).length) (Evl.ea_cons (Evl.ev_var rfl) Evl.ea_nil) fun H1 _ _ q => ⟨isz l, rfl, Evl.sz_of (by omega), q H1 (Evl.Ex.refl _)⟩) (Evl.ev_c (v := .int 8)) Evl.rv_I0) fun _ =>
      Evl.ev_andV (a := true) (b := true) (Evl.ev_call (vs := [.str (isz l)]) (Evl.ea_cons (Evl.ev_var rfl) Evl.ea_nil) fun H1 _ _ q _ => ⟨l, rfl, l0, l1, fun H2 e2 => q H2 e2⟩) fun _ =>
        Evl.ev_call (vs := [.int l]) (Evl.ea_cons (Evl.ev_cb (vs := [.str (isz l)]) (Evl.ea_cons (Evl.ev_var rfl) Evl.ea_nil) fun H1 _ _ q => ⟨isz l, l, rfl, isz_reads l0 l1, by omega, q H1 (Evl.Ex.refl _)⟩) Evl.ea_nil) fun H1 _ _ q _ => .inl ⟨l, rfl, fun H2 e2 => by rw [lb]; exact q H2 e2⟩) (by rw [wb]; rfl)) q
end
end Lw

set_option maxHeartbeats 2000000
namespace Lw
open PySem PySem.Spec PyProof.Rows L2
open Evl (EvL EvA EvT RC)
theorem lets : ∀ c, c < 26 → Unicode.isAlpha (97 + c) = true ∧ Unicode.isLower (97 + c) = true ∧ (Unicode.isUpper (97 + c) || Unicode.isTitle (97 + c)) = false := by decide +kernel
theorem nm_yes {z : Str} (h : IsNm z) : nameB z = true := by
  obtain ⟨h0, h8, hl⟩ := h
  have ne : z.cps.toList ≠ [] := fun e => by
    rw [len_cps, e] at h0
    exact absurd h0 (by simp)
  have a1 : Txt.isascii z = true := by
    unfold Txt.isascii
    rw [← Array.all_toList, List.all_eq_true]
    exact fun c hc => decide_eq_true (by have := hl c hc; omega)
  have at' : ∀ c ∈ z.cps.toList, Unicode.isAlpha c = true ∧ Unicode.isLower c = true ∧ (Unicode.isUpper c || Unicode.isTitle c) = false := fun c hc => by
    have h := hl c hc
    have := lets (c - 97) (by omega)
    rwa [show 97 + (c - 97) = c by omega] at this
  have a2 : Txt.isalpha z = true := by
    unfold Txt.isalpha
    rw [Bool.and_eq_true, ← Array.all_toList, List.all_eq_true]
    exact ⟨decide_eq_true h0, fun c hc => (at' c hc).1⟩
  have a3 : Txt.islower z = true := by
    unfold Txt.islower
    rw [Bool.and_eq_true, ← Array.any_toList, ← Array.any_toList]
    refine ⟨?_, ?_⟩
    · rw [List.any_eq_true]
      obtain ⟨c, hc⟩ := List.exists_mem_of_ne_nil _ ne
      exact ⟨c, hc, (at' c hc).2.1⟩
    · rw [Bool.not_eq_true', List.any_eq_false]
      exact fun c hc => by rw [(at' c hc).2.2]; exact Bool.false_ne_true
  unfold nameB
  rw [a1, a2, a3, decide_eq_false (by omega)]
  rfl
section
variable {P : Program} {w : World} {K : PySem.W.Frag} {mg : Str → Option Value} {base : Heap} {uM uE : Value}
theorem et_tru {σ : St} {H : Hp} {ta : TE} {a : Addr} {xs : List V} (h : Evl.Ev ta σ H (.ref a)) (hs : H a = some (.lst xs)) : Evl.EvT (fun σ H Q => ta σ H fun x H' => ∃ k, TruV K x H' k ∧ Q k H') σ H (!xs.isEmpty) := fun H1 e Q q =>
  h H1 e _ fun H2 e2 => ⟨_, .inl ⟨xs, Evl.sq_of (e2 _ _ (e _ _ hs)), rfl⟩, q H2 e2⟩
theorem ev_notT {σ : St} {H : Hp} {ta : TE} {a : Addr} {xs : List V} (h : Evl.Ev ta σ H (.ref a)) (hs : H a = some (.lst xs)) : Evl.Ev (tNotT K ta) σ H (.bl (!(!xs.isEmpty))) := fun H1 e Q q =>
  h H1 e _ fun H2 e2 => ⟨_, .inl ⟨xs, Evl.sq_of (e2 _ _ (e _ _ hs)), rfl⟩, q H2 e2⟩
theorem ev_ixS {σ : St} {H : Hp} {ta tb : TE} {a : Addr} {ws : List Str} {i : Int} {z : Str} (h : Evl.Ev ta σ H (.ref a)) (hs : H a = some (.lst (ws.map V.str))) (h1 : Evl.Ev tb σ H (.int i)) (hz : atI (ws.map V.str) i = some (.str z)) : Evl.Ev (tOp (rIxL K) ta tb) σ H (.str z) :=
  Evl.ev_op h h1 (Evl.rv_ixL (Evl.sq_of hs) hz)
theorem ev_name {σ : St} {H : Hp} {ta : TE} {z : Str} (h : Evl.Ev ta σ H (.str z)) (hz : IsNm z) : Evl.Ev (tCall (spName K) [] noE (tCons ta tNil)) σ H (.bl true) :=
  Evl.ev_call (vs := [.str z]) (Evl.ea_cons h Evl.ea_nil) fun H1 _ Q q _ => .inl ⟨z, rfl, by have := hz.2.1; omega, fun H2 e2 => by rw [nm_yes hz]; exact q H2 e2⟩
/-- the words of a line, where a node may stand -/
def spCanN : Sp := fun vs H Q _ => ∃ (wl nl el : Addr) (ws ns : List Str) (ed : List V), vs = [.ref wl, .ref nl, .ref el] ∧ H wl = some (.lst (ws.map V.str)) ∧ H nl = some (.lst (ns.map V.str)) ∧ H el = some (.lst ed) ∧ ws.length ≤ 1000 ∧
  ((∃ z : Str, ws = [("node" : Str), z] ∧ IsNm z ∧ ed = [] ∧ ns.length < 40 ∧ (∀ y ∈ ns, sk y < sk z) ∧ ∀ H', Evl.Ex H H' → Q (.bl true) H') ∨ (ws.length ≠ 2 ∧ ∀ H', Evl.Ex H H' → Q (.bl false) H'))
theorem ok_canNode {f fN : Addr} {fd dN : FuncData} {k : Nat} (F : Fun K "_can_be_node" "_can_be_node" (top 26) f fd) (T : Bs mg bl) (c_MAX_NODES : mg "MAX_NODES" = some uM) (r_MAX_NODES : RelV (.int 40) uM)
    (F_is_name : Cf P w K mg base "is_name" ["value"] k (spName K) fN dN) : FnOk P w K mg base CX0 (k + 1) f fd ["words", "nodes", "edges"] spCanN := by
  refine F.ok sc__can_be_node (fun vs H Q E h => ?_) (fun cdv A outer s H vs Q E hr h => ?_)
  · obtain ⟨wl, nl, el, ws, ns, ed, rfl, _⟩ := h
    rfl
  · obtain ⟨wl, nl, el, ws, ns, ed, rfl, hw, hn, he, l0, h⟩ := h
    refine ⟨_, (pss_cons (ps_if (PW.pt (pw_or (pt_cmpR op_ne (pe_callB call_len_seq (by rfl) (T.b "len" (by decide)) (by decide +kernel) (pa_cons (pv 0) pa_nil)) pe_int (nomark _)) (pw_or (pt_cmpR op_ne (pe_ix ix_list (pv 0) pe_int (fun _ _ => rfl)) pe_str (nomark _)) (pw_or1 (pt_not (pt_val (pe_cf F_is_name (hr.mono (by omega)) (by rfl) (pa_cons (pe_ix ix_list (pv 0) pe_int (fun _ _ => rfl)) pa_nil)))))))) (pss_one (ps_ret pe_bl)) pss_nil)
      (pss_cons (ps_if (PW.pt (pw_or (pt_truth (pv 2) (fun _ => rfl)) (pw_or1 (pt_cmpR op_eq (pe_callB call_len_seq (by rfl) (T.b "len" (by decide)) (by decide +kernel) (pa_cons (pv 1) pa_nil)) (pe_glob rfl c_MAX_NODES r_MAX_NODES) (nomark _))))) (pss_one (ps_ret pe_bl)) pss_nil)
      (pss_one (ps_ret (pe_or (pe_notT (pv 1)) (pe_one (pe_cmpR op_lt_str (pe_ix ix_list (pv 1) (pe_un un_neg pe_int) (fun _ _ => rfl)) (pe_ix ix_list (pv 0) pe_int (fun _ _ => rfl)) (nomark _)))))))), ?_⟩
    rcases h with ⟨z, rfl, hz, rfl, l1, lt, q⟩ | ⟨l1, q⟩
    · refine Evl.q_when (b := false) (Evl.et_is (Evl.et_or (Evl.et_test (Evl.ev_op (ev_lenT (Evl.ev_var rfl) (.inl (Evl.sq_of hw))) Evl.ev_c (Evl.rv_ne rfl))) fun _ => Evl.et_or (Evl.et_test (Evl.ev_op (ev_ixS (z := "node") (i := 0) (Evl.ev_var rfl) hw Evl.ev_c rfl) Evl.ev_c (Evl.rv_ne rfl))) fun _ =>
        Evl.et_not (Evl.et_B (ev_name (ev_ixS (i := 1) (Evl.ev_var rfl) hw Evl.ev_c rfl) hz))) (by simp)) (fun hb => absurd hb (by decide)) (fun hb H1 e1 => ?_)
      refine Evl.q_when (b := false) (Evl.et_is (Evl.et_or (et_tru (Evl.ev_var rfl) (e1 _ _ he)) fun _ => Evl.et_test (Evl.ev_op (ev_lenT (Evl.ev_var rfl) (.inl (Evl.sq_of (e1 _ _ hn)))) (Evl.ev_c (v := .int 40)) (Evl.rv_eq rfl))) ?_) (fun hb => absurd hb (by decide)) (fun hb H2 e2 => ?_)
      · rw [List.length_map]
        have : ¬ V.int (ns.length : Int) = V.int 40 := fun z => by
          have := V.int.inj z
          omega
        rw [decide_eq_false this]
        rfl
      · have e12 := e1.trans e2
        by_cases n0 : ns = []
        · subst n0
          exact Evl.s_ret (Evl.ev_is (Evl.ev_orV (a := true) (b := true) (ev_notT (Evl.ev_var rfl) (e12 _ _ hn)) fun z => absurd z (by decide)) rfl) fun H3 e3 => q H3 (e12.trans e3)
        · have nl0 : ns.length - 1 < ns.length := by
            have := List.length_pos_iff.mpr n0
            omega
          have ll := lt _ (List.getElem_mem nl0)
          refine Evl.s_ret (Evl.ev_is (Evl.ev_orV (ev_notT (Evl.ev_var rfl) (e12 _ _ hn)) fun _ => Evl.ev_op (ev_ixS (Evl.ev_var rfl) (e12 _ _ hn) (Evl.ev_un Evl.ev_c Evl.ru_neg) (at_last nl0)) (ev_ixS (z := z) (i := 1) (Evl.ev_var rfl) (e12 _ _ hw) Evl.ev_c rfl) fun H3 _ _ q => ⟨_, _, rfl, rfl, q H3 (Evl.Ex.refl _)⟩) ?_) fun H3 e3 => q H3 (e12.trans e3)
          rw [decide_eq_true ll, Bool.or_true]
    · refine Evl.q_when (b := true) (Evl.et_is (Evl.et_or (a := true) (b := true) (Evl.et_is (Evl.et_test (Evl.ev_op (ev_lenT (Evl.ev_var rfl) (.inl (Evl.sq_of hw))) Evl.ev_c (Evl.rv_ne rfl))) ?_) fun z => absurd z (by decide)) rfl) (fun hb H1 e1 => Evl.s_ret Evl.ev_c fun H2 e2 => q H2 (e1.trans e2)) (fun hb => absurd hb (by decide))
      rw [List.length_map]
      have : ¬ V.int (ws.length : Int) = V.int 2 := fun z => by
        have := V.int.inj z
        omega
      rw [decide_eq_false this]
      rfl
theorem in_strs {u : Str} {ns : List Str} (h : u ∈ ns) : inV (.str u) (ns.map V.str) = true := by
  unfold inV
  rw [List.any_eq_true]
  exact ⟨.str u, List.mem_map.mpr ⟨u, h, rfl⟩, by simp [eqV]⟩
theorem flat_strs (ns : List Str) : (ns.map V.str).all flatV = true := by
  rw [List.all_eq_true]
  intro x hx
  obtain ⟨z, _, rfl⟩ := List.mem_map.mp hx
  rfl
theorem ev_lword {σ : St} {H : Hp} {ta : TE} {l : Int} (h : Evl.Ev ta σ H (.str (isz l))) (l0 : -1000000 ≤ l) (l1 : l ≤ 1000000) : Evl.Ev (tCall spLWord [] noE (tCons ta tNil)) σ H (.bl true) :=
  Evl.ev_call (vs := [.str (isz l)]) (Evl.ea_cons h Evl.ea_nil) fun H1 _ Q q _ => ⟨l, rfl, l0, l1, fun H2 e2 => q H2 e2⟩
/-- the words of the line of an edge, where it may stand -/
def spCanE : Sp := fun vs H Q _ => ∃ (wl nl el : Addr) (ns : List Str) (as : List Addr) (es : List Eg) (e : Eg), vs = [.ref wl, .ref nl, .ref el] ∧ H wl = some (.lst (([("edge" : Str), e.1, e.2.1, e.2.2.1, isz e.2.2.2]).map V.str)) ∧ H nl = some (.lst (ns.map V.str)) ∧ H el = some (.lst (as.map V.ref)) ∧ EgsAt H as es ∧
  IsNm e.1 ∧ e.2.1 ∈ ns ∧ e.2.2.1 ∈ ns ∧ sk e.2.1 < sk e.2.2.1 ∧ -1000000 ≤ e.2.2.2 ∧ e.2.2.2 ≤ 1000000 ∧ es.length < 100 ∧ (∀ f ∈ es, sk f.1 < sk e.1) ∧ ∀ H', Evl.Ex H H' → Q (.bl true) H'
theorem ok_canEdge {f fN fL : Addr} {fd dN dL : FuncData} {k : Nat} (F : Fun K "_can_be_edge" "_can_be_edge" (top 27) f fd) (T : Bs mg bl) (c_MAX_EDGES : mg "MAX_EDGES" = some uE) (r_MAX_EDGES : RelV (.int 100) uE)
    (F_is_name : Cf P w K mg base "is_name" ["value"] k (spName K) fN dN) (F_is_length_word : Cf P w K mg base "_is_length_word" ["word"] k spLWord fL dL) : FnOk P w K mg base CX0 (k + 1) f fd ["words", "nodes", "edges"] spCanE := by
  refine F.ok sc__can_be_edge (fun vs H Q E h => ?_) (fun cdv A outer s H vs Q E hr h => ?_)
  · obtain ⟨wl, nl, el, ns, as, es, e, rfl, _⟩ := h
    rfl
  · obtain ⟨wl, nl, el, ns, as, es, ⟨n, u, v, l⟩, rfl, hw, hn, he, hes, hz, hu, hv, uv, l0, l1, le, lt, q⟩ := h
    have hz : IsNm n := hz
    have hu : u ∈ ns := hu
    have hv : v ∈ ns := hv
    have uv : sk u < sk v := uv
    have l0 : -1000000 ≤ l := l0
    have l1 : l ≤ 1000000 := l1
    refine ⟨_, (pss_cons (ps_if (PW.pt (pw_or (pt_cmpR op_ne (pe_callB call_len_seq (by rfl) (T.b "len" (by decide)) (by decide +kernel) (pa_cons (pv 0) pa_nil)) pe_int (nomark _)) (pw_or (pt_cmpR op_ne (pe_ix ix_list (pv 0) pe_int (fun _ _ => rfl)) pe_str (nomark _)) (pw_or1 (pt_not (pt_val (pe_cf F_is_name (hr.mono (by omega)) (by rfl) (pa_cons (pe_ix ix_list (pv 0) pe_int (fun _ _ => rfl)) pa_nil)))))))) (pss_one (ps_ret pe_bl)) pss_nil)
      (pss_cons (ps_asg (pv 0) (pg_lst rfl (pgs_cons (pg_name (i := 3) sc__can_be_edge.nd rfl (Or.inl rfl)) (pgs_cons (pg_name (i := 4) sc__can_be_edge.nd rfl (Or.inl rfl)) (pgs_cons (pg_name (i := 5) sc__can_be_edge.nd rfl (Or.inl rfl)) (pgs_cons (pg_name (i := 6) sc__can_be_edge.nd rfl (Or.inl rfl)) (pgs_cons (pg_name (i := 7) sc__can_be_edge.nd rfl (Or.inl rfl)) pgs_nil)))))))
      (pss_cons (ps_if (PW.pt (pw_or (pt_cmpR op_notIn_seq (pv 5) (pv 1) rfl) (pw_or (pt_cmpR op_notIn_seq (pv 6) (pv 1) rfl) (pw_or1 (pt_cmpR op_ge_str (pv 5) (pv 6) (nomark _)))))) (pss_one (ps_ret pe_bl)) pss_nil)
      (pss_cons (ps_if (PW.pt (pw_or (pt_not (pt_val (pe_cf F_is_length_word (hr.mono (by omega)) (by rfl) (pa_cons (pv 7) pa_nil)))) (pw_or1 (pt_cmpR op_eq (pe_callB call_len_seq (by rfl) (T.b "len" (by decide)) (by decide +kernel) (pa_cons (pv 2) pa_nil)) (pe_glob rfl c_MAX_EDGES r_MAX_EDGES) (nomark _))))) (pss_one (ps_ret pe_bl)) pss_nil)
      (pss_one (ps_ret (pe_or (pe_notT (pv 2)) (pe_one (pe_cmpR op_lt_str (pe_ix ix_tup (pe_ix ix_list (pv 2) (pe_un un_neg pe_int) (fun _ _ => rfl)) pe_int (fun _ _ => rfl)) (pv 4) (nomark _)))))))))), ?_⟩
    refine Evl.q_when (b := false) (Evl.et_is (Evl.et_or (Evl.et_test (Evl.ev_op (ev_lenT (Evl.ev_var rfl) (.inl (Evl.sq_of hw))) Evl.ev_c (Evl.rv_ne rfl))) fun _ => Evl.et_or (Evl.et_test (Evl.ev_op (ev_ixS (z := "edge") (i := 0) (Evl.ev_var rfl) hw Evl.ev_c rfl) Evl.ev_c (Evl.rv_ne rfl))) fun _ =>
      Evl.et_not (Evl.et_B (ev_name (ev_ixS (i := 1) (Evl.ev_var rfl) hw Evl.ev_c rfl) hz))) (by simp)) (fun hb => absurd hb (by decide)) (fun hb H1 e1 => ?_)
    refine ⟨.ref wl, rfl, wl, _, rfl, Evl.sq_of (e1 _ _ hw), rfl, _, _, rfl, _, _, rfl, _, _, rfl, _, _, rfl, _, _, rfl, rfl, ?_⟩
    refine Evl.q_when (b := false) (Evl.et_is (Evl.et_or (Evl.et_test (Evl.ev_op (x := .str u) (Evl.ev_var rfl) (Evl.ev_var rfl) (Evl.rv_niL (Evl.sq_of (e1 _ _ hn)) rfl (flat_strs ns)))) fun _ => Evl.et_or (Evl.et_test (Evl.ev_op (x := .str v) (Evl.ev_var rfl) (Evl.ev_var rfl) (Evl.rv_niL (Evl.sq_of (e1 _ _ hn)) rfl (flat_strs ns)))) fun _ =>
      Evl.et_test (Evl.ev_op (x := .str u) (y := .str v) (z := .bl (!decide (sk u < sk v))) (Evl.ev_var rfl) (Evl.ev_var rfl) fun H3 _ _ q => ⟨_, _, rfl, rfl, q H3 (Evl.Ex.refl _)⟩)) (by rw [in_strs hu, in_strs hv, decide_eq_true uv]; rfl)) (fun hb => absurd hb (by decide)) (fun hb H2 e2 => ?_)
    have e12 := e1.trans e2
    refine Evl.q_when (b := false) (Evl.et_is (Evl.et_or (Evl.et_not (Evl.et_B (ev_lword (Evl.ev_var rfl) l0 l1))) fun _ => Evl.et_test (Evl.ev_op (ev_lenT (Evl.ev_var rfl) (.inl (Evl.sq_of (e12 _ _ he)))) (Evl.ev_c (v := .int 100)) (Evl.rv_eq rfl))) ?_) (fun hb => absurd hb (by decide)) (fun hb H3 e3 => ?_)
    · rw [List.length_map, hes.len]
      have : ¬ V.int (es.length : Int) = V.int 100 := fun z => by
        have := V.int.inj z
        omega
      rw [decide_eq_false this]
      rfl
    · have e13 := e12.trans e3
      by_cases n0 : as = []
      · subst n0
        exact Evl.s_ret (Evl.ev_is (Evl.ev_orV (a := true) (b := true) (ev_notT (Evl.ev_var rfl) (e13 _ _ he)) fun z => absurd z (by decide)) rfl) fun H4 e4 => q H4 (e13.trans e4)
      · have nl0 : as.length - 1 < as.length := by
          have := List.length_pos_iff.mpr n0
          omega
        obtain ⟨f, hf, hfa⟩ := egs_get hes (List.getElem?_eq_getElem nl0)
        have ll := lt f (List.mem_of_getElem? hf)
        have at1 : atI (as.map V.ref) (-1) = some (.ref as[as.length - 1]) := by
          have hl : (as.map V.ref).length = as.length := List.length_map _
          unfold atI
          have : ixN (as.map V.ref).length (-1) = some (as.length - 1) := by
            unfold ixN
            rw [if_neg (by omega), if_pos (by omega), hl]
            congr 1
            omega
          rw [this]
          show (as.map V.ref)[as.length - 1]? = _
          rw [List.getElem?_map, List.getElem?_eq_getElem nl0]
          rfl
        refine Evl.s_ret (Evl.ev_is (Evl.ev_orV (ev_notT (Evl.ev_var rfl) (e13 _ _ he)) fun _ => Evl.ev_op (x := .str f.1) (y := .str n) (z := .bl (decide (sk f.1 < sk n))) (Evl.ev_op (Evl.ev_op (Evl.ev_var rfl) (Evl.ev_un Evl.ev_c Evl.ru_neg) (Evl.rv_ixL (Evl.sq_of (e13 _ _ he)) at1)) Evl.ev_c (Evl.rv_ixT (.inl (.inl (e13 _ _ hfa))) rfl)) (Evl.ev_var rfl) fun H4 _ _ q => ⟨_, _, rfl, rfl, q H4 (Evl.Ex.refl _)⟩) ?_) fun H4 e4 => q H4 (e13.trans e4)
        rw [decide_eq_true ll, Bool.or_true]
end
end Lw

set_option maxHeartbeats 2000000
namespace Lw
open PySem PySem.Spec PyProof.Rows L2
open Evl (EvL EvA EvT RC)
abbrev nm_odd_nodes : List Str := ["edges", "counts", "edge", "node"]
theorem sc_odd_nodes : FnScope nm_odd_nodes ["edges"] (defScope (top 20)) := ⟨rfl, rfl, rfl, by decide +kernel, rfl, by decide +kernel, by decide +kernel⟩
section
variable {P : Program} {w : World} {K : PySem.W.Frag} {mg : Str → Option Value} {base : Heap}
/-- the nodes at which an odd number of edges end, ascending -/
def spOdd : Sp := fun vs H Q _ => ∃ (b : Addr) (as : List Addr) (es : List Eg) (ns : List Str), vs = [.ref b] ∧ (H b = some (.lst (as.map V.ref)) ∨ H b = some (.tup (as.map V.ref))) ∧ EgsAt H as es ∧ es.length ≤ 1000 ∧ ns.length ≤ 1000 ∧ (∀ e ∈ es, e.2.1 ∈ ns ∧ e.2.2.1 ∈ ns) ∧
  ∀ p (ys : List Str) H', Evl.Ex H H' → H p = none → H' p = some (.tup (ys.map V.str)) → ys.Nodup → (∀ y, y ∈ ys ↔ isOdd es y) → Asc id ys → Q (.ref p) H'
def num (n : Nat) : Option V := if n = 0 then none else some (.int (n : Nat))
/-- counts by name -/
def Cn (ns : List Str) (kvs : List (Key × V)) : Prop := ∃ ps : List (Str × Int), kvs = ps.map (fun q => (Sum.inr q.1, V.int q.2)) ∧ (ps.map (·.1)).Nodup ∧ ∀ q ∈ ps, q.1 ∈ ns
theorem cn_get {ns : List Str} {kvs : List (Key × V)} (h : Cn ns kvs) (z : Str) : valV kvs (Sum.inr z) = none ∨ ∃ k, valV kvs (Sum.inr z) = some (.int k) := by
  obtain ⟨ps, rfl, h2⟩ := h
  clear h2
  induction ps with
  | nil => exact .inl rfl
  | cons q r ih =>
    by_cases e : (Sum.inr q.1 : Key) = Sum.inr z
    · exact .inr ⟨q.2, valV_pos e⟩
    · rw [List.map_cons, valV_neg e]
      exact ih
theorem cn_at {ns : List Str} {kvs : List (Key × V)} (h : Cn ns kvs) {z : Str} {v : V} (hm : (Sum.inr z, v) ∈ kvs) : ∃ k, valV kvs (Sum.inr z) = some (.int k) := by
  rcases cn_get h z with n | n
  · unfold valV at n
    rw [Option.map_eq_none_iff, List.find?_eq_none] at n
    exact absurd (n _ hm) (by simp)
  · exact n
theorem cn_len {ns : List Str} {kvs : List (Key × V)} (h : Cn ns kvs) : kvs.length ≤ ns.length := by
  obtain ⟨ps, rfl, nd, hm⟩ := h
  have := nd_le nd fun y hy => by
    obtain ⟨q, hq, rfl⟩ := List.mem_map.mp hy
    exact hm q hq
  rw [List.length_map] at this ⊢
  exact this
theorem cn_put {ns : List Str} {kvs : List (Key × V)} (h : Cn ns kvs) {z : Str} (hz : z ∈ ns) (n : Int) : Cn ns (putK kvs (Sum.inr z) (.int n)) := by
  obtain ⟨ps, rfl, nd, hm⟩ := h
  unfold putK
  split
  · refine ⟨ps.map fun q => if q.1 = z then (q.1, n) else q, ?_, ?_, fun q hq => ?_⟩
    · rw [List.map_map, List.map_map]
      refine List.map_congr_left fun q _ => ?_
      by_cases e : q.1 = z
      · simp [e]
      · simp [e]
    · rw [List.map_map]
      have : ps.map ((fun x : Str × Int => x.1) ∘ fun q => if q.1 = z then (q.1, n) else q) = ps.map (·.1) := List.map_congr_left fun q _ => by
        by_cases e : q.1 = z
        · simp [e]
        · simp [e]
      rw [this]
      exact nd
    · obtain ⟨q', hq', rfl⟩ := List.mem_map.mp hq
      by_cases e : q'.1 = z
      · simp [e, hz]
      · simp [e, hm q' hq']
  · rename_i no
    refine ⟨ps ++ [(z, n)], ?_, ?_, fun q hq => ?_⟩
    · rw [List.map_append]
      rfl
    · rw [List.map_append, List.nodup_append]
      refine ⟨nd, by simp, fun a ha b hb => ?_⟩
      obtain ⟨q, hq, rfl⟩ := List.mem_map.mp ha
      rw [List.map_cons, List.map_nil, List.mem_singleton] at hb
      rw [hb]
      intro e
      exact no (List.any_eq_true.mpr ⟨_, List.mem_map.mpr ⟨q, hq, rfl⟩, decide_eq_true (by show (Sum.inr q.1 : Key) = Sum.inr z; rw [e])⟩)
    · rcases List.mem_append.mp hq with h | h
      · exact hm q h
      · rw [List.mem_singleton.mp h]
        exact hz
/-- a for over a new tuple of which the items are known -/
theorem s_forTupVia {tl : TE} {g : TG} {tu : TS} {D : Ends} {σ : St} {H : Hp} (S : Addr → Hp → Prop) (xs : List V) (h1 : ∀ Q' : VK, (∀ p H', S p H' → Q' (.ref p) H') → tl σ H Q') (Pv : Addr → Nat → St → Hp → Prop) (h0 : ∀ p H', S p H' → Pv p 0 σ H') (hl : ∀ p i σ' H', Pv p i σ' H' → SqT K H' p xs)
    (hs : ∀ p i x σ' H', xs[i]? = some x → Pv p i σ' H' → g x σ' H' fun σ2 H2 => tu { D with nx := Pv p (i + 1), ct := Pv p (i + 1), bk := D.nx } σ2 H2) (hd : ∀ p σ' H', Pv p xs.length σ' H' → D.nx σ' H') : tFor (iTup K tl) g tu D σ H :=
  h1 _ fun p H' hS => ⟨p, rfl, ⟨xs, hl _ _ _ _ (h0 _ _ hS)⟩, for_tup (Pv p) (h0 _ _ hS) (fun i σ' H' _ z => hl _ _ _ _ z) (fun i x σ' H' hx z => hs p i x σ' H' hx z) (fun σ' H' z => hd p σ' H' z)⟩
theorem g_nil {σ : St} {H : Hp} {Q : List V → Hp → Prop} (h : Q [] H) : tNil σ H Q := h
theorem ok_odd {f : Addr} {fd : FuncData} {k : Nat} (F : Fun K "odd_nodes" "odd_nodes" (top 20) f fd) (T : Bs mg bl) : FnOk P w K mg base CX0 (k + 1) f fd ["edges"] spOdd := by
  refine F.ok sc_odd_nodes (fun vs H Q E h => ?_) (fun cdv A outer s H vs Q E hr h => ?_)
  · obtain ⟨b, as, es, ns, rfl, _⟩ := h
    rfl
  · obtain ⟨b, as, es, ns, rfl, hb, he, l0, l1, inn, q⟩ := h
    refine ⟨_, (pss_cons (ps_set (i := 1) sc_odd_nodes.nd rfl (Or.inr rfl) pe_dnewK)
      (pss_cons (ps_for PassesOwn.never rfl (pi_or (pi_list (pv 0)) (pi_tup (pv 0))) (pg_name (i := 2) sc_odd_nodes.nd rfl (Or.inl rfl)) (pss_one (ps_for PassesOwn.never rfl (pi_tup (pe_slice sl_tupA (pv 2) (po_some pe_int) (po_some pe_int))) (pg_name (i := 3) sc_odd_nodes.nd rfl (Or.inl rfl)) (pss_one (ps_dput (hu_of hr) (pv 1) (pv 3) (pe_op op_add (pe_dget2 (hu_of hr) (pv 1) (pv 3) pe_int ⟨by rfl, by rfl, by rfl, by rfl⟩) pe_int) rfl)))))
      (pss_one (ps_ret (pe_callTy call_tuple_of (by rfl) (T.b "tuple" (by decide)) (by decide +kernel) (pa_cons (pe_callB (cr_sortedD hr) (by rfl) (T.b "sorted" (by decide)) (by decide +kernel) (pa_cons (pe_lock (pe_lc (own := [("node", 3)]) (g := (gName 3)) (tt := (fun σ H Q => (tOp (rI0 fun i j => .int (Builtin.bitAnd i j)) (tDGet (tVar 1) (tVar 3)) (tC (.int 1))) σ H fun x H' => ∃ k, TruV K x H' k ∧ Q k H')) (te := (tVar 3)) rfl sc_odd_nodes.nd (pi_keys (pv 1)) (blkOk_by (N := nm_odd_nodes) (sc := defScope (top 20)) (by decide +kernel)) (fun _ _ _ _ _ => pg_name (i := 3) sc_odd_nodes.nd rfl (Or.inl rfl)) (fun _ _ _ _ _ => (pts_one (pt_truth (pe_op op_and (pe_dget (hu_of hr) (pv 1) (pv 3) (fun _ _ => rfl)) pe_int) (fun _ => rfl)))) (fun _ _ _ _ _ => (pv 3)))) pa_nil)) pa_nil)))))), ?_⟩
    refine fun c nc => ?_
    refine g_name ?_
    dsimp only
    refine q_forSeq (xs := as.map V.ref) (Evl.Ex.new nc) (Evl.ev_var rfl) hb (fun i σ' H' => ∃ x2 x3 kvs, σ' = [some (.ref b), some (.ref c), x2, x3] ∧ Evl.Ex H H' ∧ H' c = some (.dK kvs) ∧ Cn ns kvs ∧ ∀ z, valV kvs (Sum.inr z) = num (cnt (es.take i) z)) (fun H1 e1 => ⟨none, none, [], rfl, (Evl.Ex.new nc).trans e1, e1 _ _ upd_same, ⟨[], rfl, by simp, fun q hq => absurd hq (by simp)⟩, fun z => rfl⟩)
      (fun i σ' H' ⟨_, _, _, _, e, _⟩ => e) (fun i x σ' H' hx z => ?_) (fun σ' H' z => ?_)
    · obtain ⟨x2, x3, kvs, rfl, eH, hc, cn, vv⟩ := z
      rw [List.getElem?_map] at hx
      obtain ⟨a', ha', rfl⟩ := Option.map_eq_some_iff.mp hx
      obtain ⟨e, hei, hae⟩ := egs_get he ha'
      obtain ⟨i2, i3⟩ := inn e (List.mem_of_getElem? hei)
      have tk : es.take (i + 1) = es.take i ++ [e] := by
        rw [List.take_add_one, hei]
        rfl
      let part : Nat → Str → Nat := fun j z => match j with
        | 0 => 0
        | 1 => if e.2.1 = z then 1 else 0
        | _ => ends e z
      refine s_forTupVia (fun p H2 => H' p = none ∧ H2 = upd H' p (.tup [V.str e.2.1, V.str e.2.2.1])) [V.str e.2.1, V.str e.2.2.1] (fun Q' hQ' => ⟨.ref a', rfl, 1, rfl, 3, rfl, a', egV e, rfl, .inl (.inl (eH _ _ hae)), fun z => absurd z.1 (by show ¬ HT.sIx 4 0 (some 1) = 0; decide), fun _ p np => hQ' p _ ⟨np, rfl⟩⟩)
        (fun p j σ2 H2 => ∃ x3 kvs, σ2 = [some (.ref b), some (.ref c), some (.ref a'), x3] ∧ Evl.Ex H H2 ∧ H2 c = some (.dK kvs) ∧ Cn ns kvs ∧ p ≠ c ∧ H2 p = some (.tup [V.str e.2.1, V.str e.2.2.1]) ∧ ∀ z, valV kvs (Sum.inr z) = num (cnt (es.take i) z + part j z))
        (fun p H2 ⟨np, e2⟩ => ⟨x3, kvs, rfl, by rw [e2]; exact eH.trans (Evl.Ex.new np), by rw [e2]; exact Evl.Ex.new np _ _ hc, cn, apart hc np, by rw [e2]; exact upd_same, vv⟩) (fun _ _ _ _ ⟨_, _, _, _, _, _, _, h, _⟩ => .inl (.inl h)) (fun p j x σ2 H2 hx z => ?_) (fun p σ2 H2 z => ?_)
      · obtain ⟨x3, kvs, rfl, eH2, hc2, cn2, pc, hp2, vv2⟩ := z
        obtain ⟨z, rfl, hz, step⟩ : ∃ z, x = V.str z ∧ z ∈ ns ∧ ∀ y, part (j + 1) y = part j y + (if z = y then 1 else 0) := by
          match j, hx with
          | 0, hx => exact ⟨e.2.1, (Option.some.inj hx).symm, i2, fun y => (Nat.zero_add _).symm⟩
          | 1, hx => exact ⟨e.2.2.1, (Option.some.inj hx).symm, i3, fun y => rfl⟩
          | j + 2, hx => exact absurd hx (by simp)
        have small : kvs.length < sizeLine := Evl.sz_lt (by have := cn_len cn2; omega)
        have nxt : ∀ n : Nat, valV kvs (Sum.inr z) = num n → ∃ x3 kvs', [some (V.ref b), some (V.ref c), some (V.ref a'), some (V.str z)] = [some (.ref b), some (.ref c), some (.ref a'), x3] ∧ Evl.Ex H (upd H2 c (.dK (putK kvs (Sum.inr z) (.int ((n : Nat) + 1 : Int))))) ∧ (upd H2 c (.dK (putK kvs (Sum.inr z) (.int ((n : Nat) + 1 : Int))))) c = some (.dK kvs') ∧ Cn ns kvs' ∧ p ≠ c ∧
            (upd H2 c (.dK (putK kvs (Sum.inr z) (.int ((n : Nat) + 1 : Int))))) p = some (.tup [V.str e.2.1, V.str e.2.2.1]) ∧ ∀ y, valV kvs' (Sum.inr y) = num (cnt (es.take i) y + part (j + 1) y) := fun n hn => by
          refine ⟨_, _, rfl, eH2.mut nc, upd_same, cn_put cn2 hz _, pc, by rw [upd_ne pc]; exact hp2, fun y => ?_⟩
          rw [valV_put, step]
          by_cases e1 : z = y
          · subst e1
            rw [if_pos rfl, if_pos rfl]
            have hv := vv2 z
            rw [hn] at hv
            have hn' : n = cnt (es.take i) z + part j z := by
              unfold num at hv
              by_cases h0 : n = 0
              · by_cases h1 : cnt (es.take i) z + part j z = 0
                · omega
                · rw [if_pos h0, if_neg h1] at hv
                  exact absurd hv (by simp)
              · by_cases h1 : cnt (es.take i) z + part j z = 0
                · rw [if_neg h0, if_pos h1] at hv
                  exact absurd hv (by simp)
                · rw [if_neg h0, if_neg h1] at hv
                  have := V.int.inj (Option.some.inj hv)
                  omega
            unfold num
            rw [if_neg (by omega)]
            congr 2
            omega
          · rw [if_neg (fun q => e1 (Sum.inr.inj q).symm), if_neg e1, Nat.add_zero]
            exact vv2 y
        refine ⟨.ref c, rfl, c, rfl, .inl ⟨kvs, .inl hc2⟩, .str z, rfl, valV kvs (Sum.inr z), .inl ⟨kvs, Sum.inr z, .inl hc2, rfl, rfl⟩, ?_⟩
        by_cases h0 : cnt (es.take i) z + part j z = 0
        · have hv : valV kvs (Sum.inr z) = none := by
            rw [vv2 z]
            unfold num
            rw [if_pos h0]
          rw [hv]
          exact ⟨0, 1, rfl, rfl, .ref c, rfl, .str z, rfl, c, _, rfl, .inl ⟨kvs, Sum.inr z, hc2, rfl, small, rfl⟩, nxt 0 (by rw [hv]; rfl)⟩
        · have hv : valV kvs (Sum.inr z) = some (.int ((cnt (es.take i) z + part j z : Nat) : Int)) := by
            rw [vv2 z]
            unfold num
            rw [if_neg h0]
          rw [hv]
          exact ⟨_, 1, rfl, rfl, .ref c, rfl, .str z, rfl, c, _, rfl, .inl ⟨kvs, Sum.inr z, hc2, rfl, small, rfl⟩, nxt _ (vv2 z)⟩
      · obtain ⟨x3, kvs, rfl, eH2, hc2, cn2, pc, hp2, vv2⟩ := z
        exact ⟨_, _, kvs, rfl, eH2, hc2, cn2, fun z => by rw [tk, cnt_snoc]; exact vv2 z⟩
    · obtain ⟨x2, x3, kvs, rfl, eH, hc, cn, vv⟩ := z
      rw [List.length_map, he.len, List.take_length] at vv
      obtain ⟨ps, rfl, nd, hm⟩ := cn
      have cn : Cn ns (ps.map fun q => ((Sum.inr q.1 : Key), V.int q.2)) := ⟨ps, rfl, nd, hm⟩
      generalize hk : (ps.map fun q => ((Sum.inr q.1 : Key), V.int q.2)) = kvs at hc cn vv
      have lk : kvs.length = ps.length := by
        rw [← hk, List.length_map]
      have small : ps.length ≤ 1000 := by
        have := cn_len cn
        omega
      have keys : ∀ (i : Nat) (kk : Key) (v : V), kvs[i]? = some (kk, v) → ∃ z, kk = Sum.inr z ∧ (ps.map (·.1))[i]? = some z := fun i kk v h => by
        rw [← hk, List.getElem?_map] at h
        obtain ⟨p, hp, e⟩ := Option.map_eq_some_iff.mp h
        refine ⟨p.1, (congrArg Prod.fst e).symm, ?_⟩
        rw [List.getElem?_map, hp]
        rfl
      have has : ∀ y, isOdd es y → y ∈ ps.map (·.1) := fun y hy => by
        have hv := vv y
        unfold isOdd at hy
        unfold num at hv
        rw [if_neg (by omega)] at hv
        have := valV_in hv
        rw [← hk, List.map_map] at this
        obtain ⟨q, hq, e⟩ := List.mem_map.mp this
        exact List.mem_map.mpr ⟨q, hq, Sum.inr.inj e⟩
      refine ⟨c, .dK kvs, hc, trivial, fun od => ⟨.ref c, rfl, c, od, rfl, .inl ⟨kvs, upd_same, fun D nD => ?_⟩⟩⟩
      have eF : Evl.Ex H (upd H' c (.frz od (.dK kvs))) := eH.mut nc
      have cF : (upd H' c (.frz od (.dK kvs))) c = some (.frz od (.dK kvs)) := upd_same
      generalize (upd H' c (.frz od (.dK kvs))) = HF at eF cF nD
      have Dc : D ≠ c := apart cF nD
      refine ⟨fun i m H2 => m = kvs.length - i ∧ i ≤ kvs.length ∧ Evl.Ex HF H2 ∧ H2 D = some (.lst ((((ps.map (·.1)).take i).filter fun z => decide (isOdd es z)).map V.str)), ⟨_, rfl, Nat.zero_le _, Evl.Ex.new nD, upd_same⟩, fun i m H2 z => ?_⟩
      obtain ⟨rfl, li, e2, hD⟩ := z
      have c2 := e2 _ _ cF
      have yl : (((ps.map (·.1)).take i).filter fun z => decide (isOdd es z)).length ≤ ps.length := by
        have h1 := List.length_filter_le (fun z => decide (isOdd es z)) ((ps.map (·.1)).take i)
        rw [List.length_take, List.length_map] at h1
        omega
      by_cases lt : i < kvs.length
      · refine .inr ⟨⟨c2, lt⟩, fun H3 => i + 1 ≤ kvs.length ∧ Evl.Ex HF H3 ∧ H3 D = some (.lst ((((ps.map (·.1)).take (i + 1)).filter fun z => decide (isOdd es z)).map V.str)), fun H3 ⟨a1, a2, a3⟩ => ⟨kvs.length - (i + 1), by omega, rfl, a1, a2, a3⟩, fun x H3 y => ?_⟩
        obtain ⟨rfl, kk, v, hkv, rfl⟩ := y
        obtain ⟨z, rfl, hz⟩ := keys i kk v hkv
        have hv := vv z
        obtain ⟨n, hn⟩ := cn_at cn (List.mem_of_getElem? hkv)
        have tk : (ps.map (·.1)).take (i + 1) = (ps.map (·.1)).take i ++ [z] := by
          rw [List.take_add_one, hz]
          rfl
        have en : n = (cnt es z : Int) := by
          rw [hn] at hv
          unfold num at hv
          by_cases h1 : cnt es z = 0
          · rw [if_pos h1] at hv
            exact absurd hv (by simp)
          · rw [if_neg h1] at hv
            exact V.int.inj (Option.some.inj hv)
        refine ⟨rfl, .ref c, rfl, .str z, rfl, c, .int n, rfl, .inl ⟨kvs, Sum.inr z, .inr ⟨od, c2⟩, rfl, hn.symm⟩, _, _, rfl, rfl, _, rfl, ?_⟩
        have key : (decide (isOdd es z) = true) ↔ ¬ (Builtin.bitAnd n 1 = 0) := by
          rw [bitAnd_m1, en, decide_eq_true_iff]
          unfold isOdd
          omega
        rw [tk, List.filter_append]
        refine ite2 (fun h1 => ?_) (fun h1 => ?_)
        · have h1 : (Builtin.bitAnd n 1 != 0) = true := h1
          have od : decide (isOdd es z) = true := key.mpr (by simpa using h1)
          have f1 : [z].filter (fun z => decide (isOdd es z)) = [z] := by
            rw [List.filter_cons, if_pos od]
            rfl
          rw [f1]
          refine ⟨.str z, rfl, _, hD, ?_, lt, e2.mut nD, ?_⟩
          · rw [List.length_map]
            exact Evl.sz_lt (by omega)
          · rw [upd_same, List.map_append]
            rfl
        · have h1 : ¬ (Builtin.bitAnd n 1 != 0) = true := h1
          have od : ¬ decide (isOdd es z) = true := fun q => h1 (by simpa using key.mp q)
          have f1 : [z].filter (fun z => decide (isOdd es z)) = [] := by
            rw [List.filter_cons, if_neg od]
            rfl
          rw [f1, List.append_nil]
          exact ⟨lt, e2, hD⟩
      · refine .inl ⟨⟨c2, by omega⟩, c2, ?_⟩
        rw [List.take_of_length_le (by rw [List.length_map]; omega)] at hD yl
        have hD4 : (upd H2 c (.dK kvs)) D = some (.lst (((ps.map (·.1)).filter fun z => decide (isOdd es z)).map V.str)) := by
          rw [upd_ne Dc]
          exact hD
        have e4 : Evl.Ex H (upd H2 c (.dK kvs)) := (eF.trans e2).mut nc
        have nodup : ((ps.map (·.1)).filter fun z => decide (isOdd es z)).Nodup := List.Sublist.nodup List.filter_sublist nd
        refine g_nil ?_
        dsimp only
        refine rc_sortN (.inl (Evl.sq_of hD4)) (by omega) _ (Evl.Ex.refl _) _ fun p H5 np e5 hp => ⟨p, _, rfl, .inl ⟨Evl.sq_of hp, fun r nr => ?_⟩⟩
        refine q r (srtN _) _ ((e4.trans e5).trans (Evl.Ex.new nr)) (Evl.fresh_back (e4.trans e5) nr) upd_same ((srtN_perm _).nodup_iff.mpr nodup) (fun y => ?_) (srtN_asc nodup)
        rw [(srtN_perm _).mem_iff, List.mem_filter, decide_eq_true_iff]
        exact ⟨fun h => h.2, fun h => ⟨has y h, h⟩⟩
end
end Lw

set_option maxHeartbeats 2000000
namespace Lw
open PySem PySem.Spec PyProof.Rows L2
open Evl (EvL EvA EvT RC)
abbrev nm_negative_edges : List Str := ["edges", "edge"]
theorem sc_negative_edges : FnScope nm_negative_edges ["edges"] (defScope (top 19)) := ⟨rfl, rfl, rfl, by decide +kernel, rfl, by decide +kernel, by decide +kernel⟩
abbrev nm_read_parts : List Str := ["text", "nodes", "edges", "lines", "index", "line", "words"]
theorem sc_read_parts : FnScope nm_read_parts ["text"] (defScope (top 24)) := ⟨rfl, rfl, rfl, by decide +kernel, rfl, by decide +kernel, by decide +kernel⟩
section
variable {P : Program} {w : World} {K : PySem.W.Frag} {mg : Str → Option Value} {base : Heap} {uO : Value}
/-- the edges of negative length -/
def spNeg : Sp := fun vs H Q _ => ∃ (b : Addr) (as : List Addr) (es : List Eg), vs = [.ref b] ∧ H b = some (.lst (as.map V.ref)) ∧ EgsAt H as es ∧ es.length ≤ 1000 ∧
  ∀ p cs H', Evl.Ex H H' → H p = none → H' p = some (.lst (cs.map V.ref)) → EgsAt H' cs (es.filter fun e => decide (e.2.2.2 < 0)) → Q (.ref p) H'
theorem ok_neg {f : Addr} {fd : FuncData} {k : Nat} (F : Fun K "negative_edges" "negative_edges" (top 19) f fd) (T : Bs mg bl) : FnOk P w K mg base CX0 (k + 1) f fd ["edges"] spNeg := by
  refine F.ok sc_negative_edges (fun vs H Q E h => ?_) (fun cdv A outer s H vs Q E hr h => ?_)
  · obtain ⟨b, as, es, rfl, _⟩ := h
    rfl
  · obtain ⟨b, as, es, rfl, hb, he, l0, q⟩ := h
    refine ⟨_, (pss_one (ps_ret (pe_lc (own := [("edge", 1)]) (g := (gName 1)) (tt := (tTest (tOp (rI0 fun i j => .bl (decide (i < j))) (tOp (rIxT K) (tVar 1) (tC (.int 3))) (tC (.int 0))))) (te := (tVar 1)) rfl sc_negative_edges.nd (pi_list (pv 0)) (blkOk_by (N := nm_negative_edges) (sc := defScope (top 19)) (by decide +kernel)) (fun _ _ _ _ _ => pg_name (i := 1) sc_negative_edges.nd rfl (Or.inl rfl)) (fun _ _ _ _ _ => (pts_one (pt_cmpR op_lt (pe_ix ix_tup (pv 1) pe_int (fun _ _ => rfl)) pe_int (nomark _)))) (fun _ _ _ _ _ => (pv 1))))), ?_⟩
    have lae := he.len
    refine ⟨.ref b, rfl, b, rfl, ⟨_, Evl.sq_of hb⟩, fun D nD => lc_list (fun i H' => ∃ cs : List Addr, EgsAt H' cs ((es.take i).filter fun e => decide (e.2.2.2 < 0)) ∧ Evl.Ex H H' ∧ H' D = some (.lst (cs.map V.ref)) ∧ cs.length ≤ i) ⟨[], .nil, Evl.Ex.new nD, upd_same, Nat.le_refl _⟩
      (fun i H' _ ⟨_, _, e2, _⟩ => Evl.ex_l e2 (Evl.sq_of hb)) (fun i x H' hx z => ⟨rfl, ?_⟩) (fun H' z => ?_)⟩
    · obtain ⟨cs, hcs, e2, hD, lc⟩ := z
      rw [List.getElem?_map] at hx
      obtain ⟨a', ha', rfl⟩ := Option.map_eq_some_iff.mp hx
      obtain ⟨⟨n, u, v, l⟩, hei, hae⟩ := egs_get he ha'
      have li : i < as.length := (List.getElem?_eq_some_iff.mp ha').1
      refine ⟨.ref a', rfl, a', _, 3, .int l, rfl, rfl, .inl (.inl (e2 _ _ hae)), rfl, _, _, rfl, rfl, _, rfl, ?_⟩
      by_cases hl : l < 0
      · have t1 : (es.take (i + 1)).filter (fun e => decide (e.2.2.2 < 0)) = (es.take i).filter (fun e => decide (e.2.2.2 < 0)) ++ [(n, u, v, l)] := by
          rw [List.take_add_one, hei, List.filter_append]
          show _ ++ List.filter _ [(n, u, v, l)] = _
          rw [List.filter_cons, if_pos (decide_eq_true hl)]
          rfl
        rw [decide_eq_true hl]
        refine ite2 (fun _ => ?_) (fun z => absurd rfl z)
        refine ⟨.ref a', rfl, _, hD, by rw [List.length_map]; exact Evl.sz_lt (by omega), cs ++ [a'], ?_, e2.mut nD, by rw [upd_same, List.map_append]; rfl, by rw [List.length_append]; exact Nat.succ_le_succ lc⟩
        have k : TK H' (upd H' D (.lst (cs.map V.ref ++ [.ref a']))) := TK.put (.inr ⟨_, hD⟩)
        rw [t1]
        exact paired_snoc (hcs.tk k) (k _ _ (e2 _ _ hae))
      · have t1 : (es.take (i + 1)).filter (fun e => decide (e.2.2.2 < 0)) = (es.take i).filter (fun e => decide (e.2.2.2 < 0)) := by
          rw [List.take_add_one, hei, List.filter_append]
          show _ ++ List.filter _ [(n, u, v, l)] = _
          rw [List.filter_cons, if_neg (by simpa using hl)]
          exact List.append_nil _
        rw [decide_eq_false hl]
        exact ite2 (fun z => absurd z (by decide)) fun _ => ⟨cs, by rw [t1]; exact hcs, e2, hD, by omega⟩
    · obtain ⟨cs, hcs, e2, hD, lc⟩ := z
      rw [List.length_map, lae, List.take_length] at hcs
      exact q D cs H' e2 nD hD hcs
theorem asc_take {α : Type} {f : α → Str} {xs : List α} (h : Asc f xs) {i : Nat} (hi : i < xs.length) : ∀ y ∈ xs.take i, sk (f y) < sk (f xs[i]) := fun y hy => by
  obtain ⟨j, hj, e⟩ := List.getElem_of_mem hy
  rw [List.length_take] at hj
  rw [List.getElem_take] at e
  rw [← e]
  exact List.pairwise_iff_getElem.mp h j i (by omega) hi (by omega)
theorem net_len {ns : List Str} {es : List Eg} (net : IsNet ns es) (l0 : ns.length ≤ 100) (l1 : es.length ≤ 200) : (netText ns es).length ≤ 20000 := by
  have lz : (linesOf ns es).length ≤ 300 := by
    unfold linesOf
    rw [List.length_append, List.length_map, List.length_map, (srtN_perm ns).length_eq, (srtE_perm _).length_eq, List.length_map]
    omega
  have sum := lines_sum lz (k := 40) fun y hy => by
    rcases List.mem_append.mp hy with hy | hy
    · obtain ⟨z, hz, rfl⟩ := List.mem_map.mp hy
      have := node_len (net.nm z ((srtN_perm ns).mem_iff.mp hz)).2.1
      omega
    · obtain ⟨e, h1, rfl⟩ := List.mem_map.mp hy
      obtain ⟨f, h2, rfl⟩ := List.mem_map.mp ((srtE_perm _).mem_iff.mp h1)
      exact edge_len (net.short h2).norm
  have g := PySem.size_glued ("\n" : String) (linesOf ns es)
  have : (netText ns es).length = _ := g
  rw [this, five.2.2.2.1]
  omega
/-- the nodes and edges of a text, ascending -/
def spRead : Sp := fun vs H Q _ => ∃ (ns : List Str) (es : List Eg), vs = [.str (netText ns es)] ∧ IsNet ns es ∧ 0 < ns.length ∧ ns.length ≤ 40 ∧ es.length ≤ 100 ∧ Few es ∧
  ∀ t a b bs H', Evl.Ex H H' → H t = none → H a = none → H b = none → H' t = some (.tup [.ref a, .ref b]) → H' a = some (.tup ((srtN ns).map V.str)) → H' b = some (.tup (bs.map V.ref)) → EgsAt H' bs (srtE (es.map norm)) → Q (.ref t) H'
theorem ok_read {f fO fN fC fE : Addr} {fd dO dN dC dE : FuncData} {k : Nat} (F : Fun K "read_parts" "read_parts" (top 24) f fd) (T : Bs mg bl) (c_MAX_ODD : mg "MAX_ODD" = some uO) (r_MAX_ODD : RelV (.int 10) uO) (kss : PySem.W.kitOne K (.type "str") (.type "str") = some true)
    (F_odd_nodes : Cf P w K mg base "odd_nodes" ["edges"] k spOdd fO dO) (F_negative_edges : Cf P w K mg base "negative_edges" ["edges"] k spNeg fN dN)
    (F_can_be_node : Cf P w K mg base "_can_be_node" ["words", "nodes", "edges"] k spCanN fC dC) (F_can_be_edge : Cf P w K mg base "_can_be_edge" ["words", "nodes", "edges"] k spCanE fE dE) : FnOk P w K mg base CX0 (k + 1) f fd ["text"] spRead := by
  refine F.ok sc_read_parts (fun vs H Q E h => ?_) (fun cdv A outer s H vs Q E hr h => ?_)
  · obtain ⟨ns, es, rfl, _⟩ := h
    rfl
  · obtain ⟨ns, es, rfl, net, n0, n1, m1, fw, q⟩ := h
    refine ⟨_, (pss_cons (ps_if (pt_not (pt_val (pe_callB call_isi (by rfl) (T.b "isinstance" (by decide)) (by decide +kernel) (pa_cons (pv 0) (pa_cons (pe_bltn (v := .ty "str") (by rfl) (T.b "str" (by decide)) (by decide +kernel) rfl) pa_nil))))) (pss_one ps_never) pss_nil)
      (pss_cons (ps_set (i := 1) sc_read_parts.nd rfl (Or.inl rfl) (pe_lst pa_nil))
      (pss_cons (ps_set (i := 2) sc_read_parts.nd rfl (Or.inl rfl) (pe_lst pa_nil))
      (pss_cons (ps_set (i := 3) sc_read_parts.nd rfl (Or.inl rfl) (pe_m1 PySem.F.slot_str_split PySem.F.type_str_split mt_split (pv 0) pe_str))
      (pss_cons (ps_for PassesOwn.never rfl (pi_enum (by rfl) (T.b "enumerate" (by decide)) (pa_cons (pv 3) pa_nil)) (pg_tup rfl (pgs_cons (pg_name (i := 4) sc_read_parts.nd rfl (Or.inl rfl)) (pgs_cons (pg_name (i := 5) sc_read_parts.nd rfl (Or.inl rfl)) pgs_nil))) (pss_cons (ps_set (i := 6) sc_read_parts.nd rfl (Or.inl rfl) (pe_m1 PySem.F.slot_str_split PySem.F.type_str_split mt_split (pv 5) pe_str))
      (pss_one (ps_if (pt_val (pe_cf F_can_be_node (hr.mono (by omega)) (by rfl) (pa_cons (pv 6) (pa_cons (pv 1) (pa_cons (pv 2) pa_nil))))) (pss_one (ps_expr (pe_bm PySem.F.plainAttrs_list PySem.F.slot_list_append PySem.F.type_list_append mt_append (pv 1) (pa_cons (pe_ix ix_list (pv 6) pe_int (fun _ _ => rfl)) pa_nil)))) (pss_one (ps_if (pt_val (pe_cf F_can_be_edge (hr.mono (by omega)) (by rfl) (pa_cons (pv 6) (pa_cons (pv 1) (pa_cons (pv 2) pa_nil))))) (pss_one (ps_expr (pe_bm PySem.F.plainAttrs_list PySem.F.slot_list_append PySem.F.type_list_append mt_append (pv 2) (pa_cons (pe_tup (pa_cons (pe_ix ix_list (pv 6) pe_int (fun _ _ => rfl)) (pa_cons (pe_ix ix_list (pv 6) pe_int (fun _ _ => rfl)) (pa_cons (pe_ix ix_list (pv 6) pe_int (fun _ _ => rfl)) (pa_cons (pe_callTy call_int_str (by rfl) (T.b "int" (by decide)) (by decide +kernel) (pa_cons (pe_ix ix_list (pv 6) pe_int (fun _ _ => rfl)) pa_nil)) pa_nil))))) pa_nil)))) (pss_one ps_never)))))))
      (pss_cons (ps_if (pt_cmpR op_gt (pe_callB call_len_seq (by rfl) (T.b "len" (by decide)) (by decide +kernel) (pa_cons (pe_cf F_odd_nodes (hr.mono (by omega)) (by rfl) (pa_cons (pe_cf F_negative_edges (hr.mono (by omega)) (by rfl) (pa_cons (pv 2) pa_nil)) pa_nil)) pa_nil)) (pe_glob rfl c_MAX_ODD r_MAX_ODD) (nomark _)) (pss_one ps_never) pss_nil)
      (pss_one (ps_ret (pe_tup (pa_cons (pe_callTy call_tuple_of (by rfl) (T.b "tuple" (by decide)) (by decide +kernel) (pa_cons (pv 1) pa_nil)) (pa_cons (pe_callTy call_tuple_of (by rfl) (T.b "tuple" (by decide)) (by decide +kernel) (pa_cons (pv 2) pa_nil)) pa_nil))))))))))), ?_⟩
    have tl := net_len net (by omega) (by omega)
    have g0 := five
    refine Evl.q_when (b := false) (Evl.et_is (Evl.et_not (Evl.et_B (ev_isi (.base (.str _)) kss (Evl.ev_var rfl)))) rfl) (fun hb => absurd hb (by decide)) (fun hb H1 e1 => ?_)
    refine Evl.q_asgL (Evl.el_lst Evl.ea_nil (by simp)) fun nl H2 nn e2 hn2 => Evl.q_asgL (Evl.el_lst Evl.ea_nil (by simp)) fun el H3 ne e3 he3 => ?_
    refine ⟨.str (netText ns es), rfl, ⟨_, rfl⟩, netText ns es, "\n", rfl, rfl, by rw [g0.2.2.2.1]; rfl, by rw [sizeLine_eq]; omega, fun lp np => ?_⟩
    rw [split_lines net n0]
    have hn3 := e3 _ _ hn2
    have d1 : el ≠ nl := apart hn2 ne
    have d2 : lp ≠ nl := apart hn3 np
    have d3 : lp ≠ el := apart he3 np
    have fn : H nl = none := Evl.fresh_back e1 nn
    have fe : H el = none := Evl.fresh_back (e1.trans e2) ne
    have lenN : (srtN ns).length = ns.length := (srtN_perm ns).length_eq
    have lenE : (srtE (es.map norm)).length = es.length := by
      rw [(srtE_perm _).length_eq, List.length_map]
    refine q_forEnum (Evl.ea_cons (Evl.ev_var rfl) Evl.ea_nil) (.inl (.inl upd_same)) (fun i σ' H' => ∃ x4 x5 x6 cs, σ' = [some (.str (netText ns es)), some (.ref nl), some (.ref el), some (.ref lp), x4, x5, x6] ∧ Evl.Ex H H' ∧ H' nl = some (.lst (((srtN ns).take i).map V.str)) ∧ H' el = some (.lst (cs.map V.ref)) ∧
      EgsAt H' cs ((srtE (es.map norm)).take (i - ns.length)) ∧ H' lp = some (.lst ((linesOf ns es).map V.str))) (fun H4 e4 => ⟨none, none, none, [], rfl, (((e1.trans e2).trans e3).trans (Evl.Ex.new np)).trans e4, e4 _ _ (Evl.Ex.new np _ _ hn3), e4 _ _ (Evl.Ex.new np _ _ he3), by rw [Nat.zero_sub]; exact .nil, e4 _ _ upd_same⟩)
      (fun i σ' H' ⟨_, _, _, _, _, _, _, _, _, h⟩ => Evl.sq_of h) (fun i x TT σ' H' hx z nT => ?_) (fun σ' H' z => ?_)
    · obtain ⟨x4, x5, x6, cs, rfl, eH, hn, he, hcs, hl⟩ := z
      rw [List.getElem?_map] at hx
      obtain ⟨line, hline, rfl⟩ := Option.map_eq_some_iff.mp hx
      have neT : ∀ {b o}, H' b = some o → (upd H' TT (.tup [.int (i : Nat), .str line])) b = some o := fun {b o} h => Evl.Ex.new nT _ _ h
      refine ⟨TT, _, rfl, .inl (.inl upd_same), rfl, _, _, rfl, _, _, rfl, rfl, ?_⟩
      have ll : line.length ≤ 40 := by
        rcases List.mem_append.mp (List.mem_of_getElem? hline) with hy | hy
        · obtain ⟨z, hz, rfl⟩ := List.mem_map.mp hy
          have := node_len (net.nm z ((srtN_perm ns).mem_iff.mp hz)).2.1
          omega
        · obtain ⟨e, h1, rfl⟩ := List.mem_map.mp hy
          obtain ⟨f, h2, rfl⟩ := List.mem_map.mp ((srtE_perm _).mem_iff.mp h1)
          exact edge_len (net.short h2).norm
      refine ⟨.str line, rfl, ⟨_, rfl⟩, line, " ", rfl, rfl, by rw [g0.2.2.1]; rfl, by rw [sizeLine_eq]; omega, fun wp nwp => ?_⟩
      have e5 : Evl.Ex H' (upd (upd H' TT (.tup [.int (i : Nat), .str line])) wp (.lst ((Txt.split line " ").map V.str))) := (Evl.Ex.new nT).trans (Evl.Ex.new nwp)
      have hw : (upd (upd H' TT (.tup [.int (i : Nat), .str line])) wp (.lst ((Txt.split line " ").map V.str))) wp = some (.lst ((Txt.split line " ").map V.str)) := upd_same
      generalize (upd (upd H' TT (.tup [.int (i : Nat), .str line])) wp (.lst ((Txt.split line " ").map V.str))) = H5 at e5 hw ⊢
      have ln : (linesOf ns es)[i]? = some line := hline
      unfold linesOf at ln
      by_cases hi : i < ns.length
      · have hi' : i < (srtN ns).length := by omega
        rw [List.getElem?_append_left (by rw [List.length_map]; exact hi'), List.getElem?_map, List.getElem?_eq_getElem hi'] at ln
        have hlz : line = nodeLine (srtN ns)[i] := (Option.some.inj ln).symm
        have nz : IsNm (srtN ns)[i] := net.nm _ ((srtN_perm ns).mem_iff.mp (List.getElem_mem hi'))
        rw [hlz, split_node nz.2.2] at hw
        rw [Nat.sub_eq_zero_of_le (Nat.le_of_lt hi)] at hcs
        have cs0 : cs = [] := by
          have := hcs.len
          exact List.eq_nil_of_length_eq_zero this
        subst cs0
        refine Evl.s_if (b := true) (Evl.et_B (Evl.ev_call (vs := [.ref wp, .ref nl, .ref el]) (Evl.ea_cons (Evl.ev_var rfl) (Evl.ea_cons (Evl.ev_var rfl) (Evl.ea_cons (Evl.ev_var rfl) Evl.ea_nil))) fun H6 e6 Q2 q2 _ => ⟨wp, nl, el, _, _, [], rfl, e6 _ _ hw, e6 _ _ (e5 _ _ hn), e6 _ _ (e5 _ _ he), by simp,
          .inl ⟨_, rfl, nz, rfl, by rw [List.length_take]; omega, asc_take (f := id) (srtN_asc net.nd) hi', fun H7 e7 => q2 H7 e7⟩⟩)) (fun hb H6 e6 => ?_) (fun hb => absurd hb (by decide))
        refine Evl.s_app (e6 _ _ (e5 _ _ hn)) (Evl.ev_var rfl) (ev_ixS (z := (srtN ns)[i]) (i := 1) (Evl.ev_var rfl) (e6 _ _ hw) Evl.ev_c rfl) (by rw [List.length_map, List.length_take]; omega) fun H7 e7 => ?_
        have e57 := (e5.trans e6).trans e7
        refine ⟨_, _, _, [], rfl, (eH.trans e57).mut fn, ?_, ?_, ?_, ?_⟩
        · rw [upd_same, List.take_add_one, List.getElem?_eq_getElem hi', List.map_append]
          rfl
        · rw [upd_ne d1]
          exact e57 _ _ he
        · rw [Nat.sub_eq_zero_of_le hi]
          exact .nil
        · rw [upd_ne d2]
          exact e57 _ _ hl
      · have hj : i - ns.length < (srtE (es.map norm)).length := by
          have := (List.getElem?_eq_some_iff.mp hline).1
          unfold linesOf at this
          rw [List.length_append, List.length_map, List.length_map] at this
          omega
        rw [List.getElem?_append_right (by rw [List.length_map]; omega), List.length_map, lenN, List.getElem?_map, List.getElem?_eq_getElem hj] at ln
        have hlz : line = edgeLine (srtE (es.map norm))[i - ns.length] := (Option.some.inj ln).symm
        have me : (srtE (es.map norm))[i - ns.length] ∈ es.map norm := (srtE_perm _).mem_iff.mp (List.getElem_mem hj)
        have tk := asc_take (srtE_asc (by rw [norm_names]; exact net.ed)) hj
        have tk1 : (srtE (es.map norm)).take (i + 1 - ns.length) = (srtE (es.map norm)).take (i - ns.length) ++ [(srtE (es.map norm))[i - ns.length]] := by
          rw [show i + 1 - ns.length = i - ns.length + 1 by omega, List.take_add_one, List.getElem?_eq_getElem hj]
          rfl
        obtain ⟨w1, w2, w3⟩ := norm_low net me
        obtain ⟨f, hf, ef⟩ := List.mem_map.mp me
        obtain ⟨h1, h2, h3, h4, h5, h6⟩ := net.em f hf
        generalize (srtE (es.map norm))[i - ns.length] = e at hlz me tk tk1 w1 w2 w3 ef
        rw [hlz, split_edge w1 w2 w3] at hw
        have inS : ∀ z, z ∈ ns → z ∈ (srtN ns).take i := fun z hz => by
          rw [List.take_of_length_le (by omega)]
          exact (srtN_perm ns).mem_iff.mpr hz
        have i2 : e.2.1 ∈ ns := by
          rw [← ef]
          show minS f.2.1 f.2.2.1 ∈ ns
          rcases min_or f.2.1 f.2.2.1 with z | z <;> rw [z] <;> assumption
        have i3 : e.2.2.1 ∈ ns := by
          rw [← ef]
          show maxS f.2.1 f.2.2.1 ∈ ns
          rcases max_or f.2.1 f.2.2.1 with z | z <;> rw [z] <;> assumption
        have n1' : IsNm e.1 := by
          rw [← ef]
          exact h1
        have uv : sk e.2.1 < sk e.2.2.1 := by
          rw [← ef]
          exact min_lt h4
        have b5 : -1000000 ≤ e.2.2.2 := by
          rw [← ef]
          exact h5
        have b6 : e.2.2.2 ≤ 1000000 := by
          rw [← ef]
          exact h6
        have il := isz_len b5 b6
        refine Evl.s_if (b := false) (Evl.et_B (Evl.ev_call (vs := [.ref wp, .ref nl, .ref el]) (Evl.ea_cons (Evl.ev_var rfl) (Evl.ea_cons (Evl.ev_var rfl) (Evl.ea_cons (Evl.ev_var rfl) Evl.ea_nil))) fun H6 e6 Q2 q2 _ => ⟨wp, nl, el, _, _, _, rfl, e6 _ _ hw, e6 _ _ (e5 _ _ hn), e6 _ _ (e5 _ _ he), by simp,
          .inr ⟨by simp, fun H7 e7 => q2 H7 e7⟩⟩)) (fun hb => absurd hb (by decide)) (fun hb H6 e6 => ?_)
        have he6 : EgsAt H6 cs ((srtE (es.map norm)).take (i - ns.length)) := (hcs.tk (TK.ex e5)).tk (TK.ex e6)
        refine Evl.s_if (b := true) (Evl.et_B (Evl.ev_call (vs := [.ref wp, .ref nl, .ref el]) (Evl.ea_cons (Evl.ev_var rfl) (Evl.ea_cons (Evl.ev_var rfl) (Evl.ea_cons (Evl.ev_var rfl) Evl.ea_nil))) fun H7 e7 Q2 q2 _ => ⟨wp, nl, el, _, _, _, e, rfl, e7 _ _ (e6 _ _ hw), e7 _ _ (e6 _ _ (e5 _ _ hn)), e7 _ _ (e6 _ _ (e5 _ _ he)), he6.tk (TK.ex e7),
          n1', inS _ i2, inS _ i3, uv, b5, b6, by rw [List.length_take]; omega, tk, fun H8 e8 => q2 H8 e8⟩)) (fun hb H7 e7 => ?_) (fun hb => absurd hb (by decide))
        have hw7 := e7 _ _ (e6 _ _ hw)
        have he7 := e7 _ _ (e6 _ _ (e5 _ _ he))
        have lcs : cs.length ≤ 100 := by
          have := hcs.len
          rw [List.length_take] at this
          omega
        refine Evl.s_appU he7 (Evl.ev_var rfl) (Evl.eu_tup (vs := egV e) (Evl.ea_cons (ev_ixS (z := e.1) (i := 1) (Evl.ev_var rfl) hw7 Evl.ev_c rfl) (Evl.ea_cons (ev_ixS (z := e.2.1) (i := 2) (Evl.ev_var rfl) hw7 Evl.ev_c rfl) (Evl.ea_cons (ev_ixS (z := e.2.2.1) (i := 3) (Evl.ev_var rfl) hw7 Evl.ev_c rfl)
          (Evl.ea_cons (Evl.ev_cb (vs := [.str (isz e.2.2.2)]) (Evl.ea_cons (ev_ixS (i := 4) (Evl.ev_var rfl) hw7 Evl.ev_c rfl) Evl.ea_nil) fun H8 _ _ q => ⟨_, _, rfl, isz_reads b5 b6, by omega, q H8 (Evl.Ex.refl _)⟩) Evl.ea_nil)))) (by simp [egV])) (by rw [List.length_map]; omega) fun t H8 nt e8 ht => ?_
        have e58 := ((e5.trans e6).trans e7).trans e8
        have he8 := e58 _ _ he
        have tk8 : TK H8 (upd H8 el (.lst (cs.map V.ref ++ [.ref t]))) := TK.put (.inr ⟨_, he8⟩)
        refine ⟨_, _, _, cs ++ [t], rfl, (eH.trans e58).mut fe, ?_, ?_, ?_, ?_⟩
        · rw [upd_ne d1.symm, List.take_of_length_le (by omega)]
          have := e58 _ _ hn
          rwa [List.take_of_length_le (by omega)] at this
        · rw [upd_same, List.map_append]
          rfl
        · rw [tk1]
          exact paired_snoc (((hcs.tk (TK.ex e58))).tk tk8) (tk8 _ _ ht)
        · rw [upd_ne d3]
          exact e58 _ _ hl
    · obtain ⟨x4, x5, x6, cs, rfl, eH, hn, he, hcs, hl⟩ := z
      have lx : (((linesOf ns es).map V.str)).length = ns.length + es.length := by
        unfold linesOf
        rw [List.length_map, List.length_append, List.length_map, List.length_map, lenN, lenE]
      rw [lx] at hn hcs
      rw [List.take_of_length_le (by omega)] at hn
      rw [List.take_of_length_le (by omega)] at hcs
      have ends : ∀ e ∈ (srtE (es.map norm)).filter fun e => decide (e.2.2.2 < 0), e.2.1 ∈ ns ∧ e.2.2.1 ∈ ns := fun e he => by
        have me : e ∈ es.map norm := (srtE_perm _).mem_iff.mp (List.mem_filter.mp he).1
        obtain ⟨f, hf, rfl⟩ := List.mem_map.mp me
        obtain ⟨h1, h2, h3, _⟩ := net.em f hf
        refine ⟨?_, ?_⟩
        · show minS f.2.1 f.2.2.1 ∈ ns
          rcases min_or f.2.1 f.2.2.1 with z | z <;> rw [z] <;> assumption
        · show maxS f.2.1 f.2.2.1 ∈ ns
          rcases max_or f.2.1 f.2.2.1 with z | z <;> rw [z] <;> assumption
      refine ⟨.ref el, rfl, el, cs, _, rfl, he, hcs, by omega, fun p ds H5 e5 np' hp hds => ⟨p, ds, _, ns, rfl, .inl hp, hds, by have := List.length_filter_le (fun e : Eg => decide (e.2.2.2 < 0)) (srtE (es.map norm)); omega, by omega, ends, fun r ys H6 e6 nr hr ynd yin ysr => ⟨r, _, rfl, .inr (.inl (.inl hr)), _, _, rfl, rfl, _, rfl, ?_⟩⟩⟩
      have few : ¬ (10 : Int) < ((ys.map V.str).length : Int) := by
        have := fw.canon ys ynd fun y hy => (yin y).mp hy
        rw [List.length_map]
        omega
      refine ite2 (fun z => absurd (of_decide_eq_true z) few) fun _ => ?_
      have e56 := e5.trans e6
      refine ⟨.ref nl, rfl, nl, _, rfl, .inl ⟨Evl.sq_of (e56 _ _ hn), fun a na => ⟨.ref el, rfl, el, _, rfl, .inl ⟨Evl.sq_of (Evl.Ex.new na _ _ (e56 _ _ he)), fun b nb => ⟨by simp [sizeLine_eq], fun t nt => ?_⟩⟩⟩⟩⟩
      have ea := e56.trans (Evl.Ex.new (o := .tup ((srtN ns).map V.str)) na)
      have eb := ea.trans (Evl.Ex.new (o := .tup (cs.map V.ref)) nb)
      have et := eb.trans (Evl.Ex.new (o := .tup [.ref a, .ref b]) nt)
      exact q t a b cs _ (eH.trans et) (Evl.fresh_back (eH.trans eb) nt) (Evl.fresh_back (eH.trans e56) na) (Evl.fresh_back (eH.trans ea) nb) upd_same (Evl.Ex.new nt _ _ (Evl.Ex.new nb _ _ upd_same)) (Evl.Ex.new nt _ _ upd_same) (hcs.tk (TK.ex et))
end
end Lw

set_option maxHeartbeats 2000000
namespace Lw
open PySem PySem.Spec PyProof.Rows L2
open Evl (EvL EvA EvT RC)
abbrev nm__is_edge : List Str := ["nodes", "value", "name", "u", "v", "length"]
theorem sc__is_edge : FnScope nm__is_edge ["nodes", "value"] (defScope (top 32)) := ⟨rfl, rfl, rfl, by decide +kernel, rfl, by decide +kernel, by decide +kernel⟩
abbrev nm_checked_nodes : List Str := ["nodes", "found", "node"]
theorem sc_checked_nodes : FnScope nm_checked_nodes ["nodes"] (defScope (top 30)) := ⟨rfl, rfl, rfl, by decide +kernel, rfl, by decide +kernel, by decide +kernel⟩
abbrev nm_checked_edges : List Str := ["nodes", "edges", "found", "edge", "name"]
theorem sc_checked_edges : FnScope nm_checked_edges ["nodes", "edges"] (defScope (top 31)) := ⟨rfl, rfl, rfl, by decide +kernel, rfl, by decide +kernel, by decide +kernel⟩

theorem inV_str {z : Str} : ∀ {ns : List Str}, inV (.str z) (ns.map V.str) = decide (z ∈ ns)
  | [] => rfl
  | y :: ns => by
    have := inV_str (z := z) (ns := ns)
    unfold inV at this ⊢
    rw [List.map_cons, List.any_cons, this]
    by_cases e : y = z
    · subst e
      simp [eqV]
    · have : eqV (V.str y) (V.str z) = false := by simp [eqV, e]
      rw [this]
      simp [Ne.symm e]
section
variable {P : Program} {w : World} {K : PySem.W.Frag} {mg : Str → Option Value} {base : Heap} {uM uE uO : Value}
theorem ev_isiT {σ : St} {H : Hp} {ta : TE} {x : V} {t : Value} {n m : String} {b : Bool} (ht : TyX K H x t) (hk : PySem.W.kitAny K t [.type n, .type m] = some b) (h : Evl.Ev ta σ H x) :
    Evl.Ev (tCB (rIsiT K) (tCons ta (tCons (tTup (tCons (tC (.ty n)) (tCons (tC (.ty m)) tNil))) tNil))) σ H (.bl b) := fun H1 e Q q =>
  h H1 e _ fun H2 e2 => ⟨by simp [sizeLine_eq], fun p hp => ⟨x, p, _, t, _, b, rfl, upd_same, .cons (.ty n) (.cons (.ty m) .nil), tyX_ex ((e.trans e2).trans (Evl.Ex.new hp)) ht, hk, q _ (e2.trans (Evl.Ex.new hp))⟩⟩
theorem ev_din {σ : St} {H : Hp} {td ty : TE} {d : Addr} {kvs : List (Key × V)} {k : Key} {o : Option V} (hd : H d = some (.dK kvs)) (hv : valV kvs k = o) (hb : Evl.Ev ty σ H (kV k)) (ha : Evl.Ev td σ H (.ref d)) : Evl.Ev (tDIn ty td) σ H (.bl o.isSome) := fun H1 e Q q =>
  hb H1 e _ fun H2 e2 => ha H2 (e.trans e2) _ fun H3 e3 => ⟨d, o, rfl, .inl ⟨kvs, k, .inl (e3 _ _ (e2 _ _ (e _ _ hd))), rfl, hv.symm⟩, q H3 (e2.trans e3)⟩
theorem ev_lenD {σ : St} {H : Hp} {td : TE} {d : Addr} {kvs : List (Key × V)} (hd : H d = some (.dK kvs)) (ha : Evl.Ev td σ H (.ref d)) : Evl.Ev (tCB (fun xs H Q => ∃ a kvs, xs = [V.ref a] ∧ H a = some (.dK kvs) ∧ Q (.int kvs.length) H) (tCons td tNil)) σ H (.int (kvs.length : Nat)) := fun H1 e Q q =>
  ha H1 e _ fun H2 e2 => ⟨d, kvs, rfl, e2 _ _ (e _ _ hd), q H2 e2⟩
/-- a part of an edge by its place -/
theorem ev_eg {σ : St} {H : Hp} {ta tb : TE} {a : Addr} {e : Eg} {i : Int} {v : V} (ha : Evl.Ev ta σ H (.ref a)) (hb : Evl.Ev tb σ H (.int i)) (h : H a = some (.tup (egV e))) (hv : atI (egV e) i = some v) : Evl.Ev (tOp (rIxT K) ta tb) σ H v := Evl.ev_op ha hb (Evl.rv_ixT (Evl.st_of h) hv)
/-- a valid edge -/
def spIsEdge : Sp := fun vs H Q _ => ∃ (t a : Addr) (ns : List Str) (e : Eg), vs = [V.ref t, .ref a] ∧ H t = some (.tup (ns.map V.str)) ∧ H a = some (.tup (egV e)) ∧ IsNm e.1 ∧ e.2.1 ∈ ns ∧ e.2.2.1 ∈ ns ∧ e.2.1 ≠ e.2.2.1 ∧ -1000000 ≤ e.2.2.2 ∧ e.2.2.2 ≤ 1000000 ∧ ∀ H', Evl.Ex H H' → Q (.bl true) H'
theorem ok_isedge {f fN fL : Addr} {fd dN dL : FuncData} {k : Nat} (F : Fun K "_is_edge" "_is_edge" (top 32) f fd) (T : Bs mg bl) (ktt : PySem.W.kitOne K (.type "tuple") (.type "tuple") = some true)
    (F_is_name : Cf P w K mg base "is_name" ["value"] k (spName K) fN dN) (F_is_length : Cf P w K mg base "is_length" ["value"] k (spLen K) fL dL) : FnOk P w K mg base CX0 (k + 1) f fd ["nodes", "value"] spIsEdge := by
  refine F.ok sc__is_edge (fun vs H Q E h => ?_) (fun cdv A outer s H vs Q E hr h => ?_)
  · obtain ⟨t, a, ns, e, rfl, _⟩ := h
    rfl
  · obtain ⟨t, a, ns, ⟨n, u, v, l⟩, rfl, ht, ha, h1, h2, h3, h4, h5, h6, q⟩ := h
    refine ⟨_, (pss_cons (ps_if (PW.pt (pw_or (pt_not (pt_val (pe_callB call_isi (by rfl) (T.b "isinstance" (by decide)) (by decide +kernel) (pa_cons (pv 1) (pa_cons (pe_bltn (v := .ty "tuple") (by rfl) (T.b "tuple" (by decide)) (by decide +kernel) rfl) pa_nil))))) (pw_or1 (pt_cmpR op_ne (pe_callB call_len_seq (by rfl) (T.b "len" (by decide)) (by decide +kernel) (pa_cons (pv 1) pa_nil)) pe_int (nomark _))))) (pss_one (ps_ret pe_bl)) pss_nil)
      (pss_cons (ps_asg (pv 1) (pg_tup rfl (pgs_cons (pg_name (i := 2) sc__is_edge.nd rfl (Or.inl rfl)) (pgs_cons (pg_name (i := 3) sc__is_edge.nd rfl (Or.inl rfl)) (pgs_cons (pg_name (i := 4) sc__is_edge.nd rfl (Or.inl rfl)) (pgs_cons (pg_name (i := 5) sc__is_edge.nd rfl (Or.inl rfl)) pgs_nil))))))
      (pss_one (ps_ret (pe_and (pe_cf F_is_name (hr.mono (by omega)) (by rfl) (pa_cons (pv 2) pa_nil)) (pe_and (pe_cmpR op_in_seq (pv 3) (pv 0) rfl) (pe_and (pe_cmpR op_in_seq (pv 4) (pv 0) rfl) (pe_and (pe_cmpR op_ne (pv 3) (pv 4) (nomark _)) (pe_one (pe_cf F_is_length (hr.mono (by omega)) (by rfl) (pa_cons (pv 5) pa_nil))))))))))), ?_⟩
    refine Evl.q_when (b := false) (Evl.et_is (Evl.et_or (Evl.et_not (Evl.et_B (ev_isi (.base (.tup ha)) ktt (Evl.ev_var rfl)))) fun _ => Evl.et_test (Evl.ev_op (ev_lenT (Evl.ev_var rfl) (.inr (Evl.st_of ha))) Evl.ev_c (Evl.rv_ne rfl))) rfl) (fun hb => absurd hb (by decide)) (fun hb H1 e1 => ?_)
    have ha1 := e1 _ _ ha
    have ht1 := e1 _ _ ht
    refine ⟨.ref a, rfl, a, _, rfl, .inl (.inl ha1), rfl, _, _, rfl, _, _, rfl, _, _, rfl, _, _, rfl, rfl, ?_⟩
    refine Evl.s_ret (Evl.ev_is (Evl.ev_andV (ev_name (Evl.ev_var rfl) h1) fun _ => Evl.ev_andV (Evl.ev_op (Evl.ev_var rfl) (Evl.ev_var rfl) (Evl.rv_isT (Evl.st_of ht1) rfl (flat_strs _))) fun _ => Evl.ev_andV (Evl.ev_op (Evl.ev_var rfl) (Evl.ev_var rfl) (Evl.rv_isT (Evl.st_of ht1) rfl (flat_strs _))) fun _ =>
      Evl.ev_andV (Evl.ev_op (Evl.ev_var rfl) (Evl.ev_var rfl) (Evl.rv_ne rfl)) fun _ => Evl.ev_call (vs := [.int l]) (Evl.ea_cons (Evl.ev_var rfl) Evl.ea_nil) fun H2 _ Q2 q2 _ => .inl ⟨l, rfl, q2⟩) ?_) fun H2 e2 => q H2 (e1.trans e2)
    have h2 : u ∈ ns := h2
    have h3 : v ∈ ns := h3
    have h4 : ¬ V.str u = V.str v := fun z => h4 (V.str.inj z)
    rw [inV_str, inV_str, decide_eq_true h2, decide_eq_true h3, decide_eq_false h4]
    unfold lenB
    rw [decide_eq_true h5, decide_eq_true h6]
    rfl
/-- valid nodes, a list or a tuple: a new tuple, ascending -/
def spChN : Sp := fun vs H Q _ => ∃ (a : Addr) (ns : List Str), vs = [V.ref a] ∧ (H a = some (.lst (ns.map V.str)) ∨ H a = some (.tup (ns.map V.str))) ∧ (∀ y ∈ ns, IsNm y) ∧ ns.Nodup ∧ 0 < ns.length ∧ ns.length ≤ 40 ∧
  ∀ t H', Evl.Ex H H' → H t = none → H' t = some (.tup ((srtN ns).map V.str)) → Q (.ref t) H'
theorem ok_chnodes {f fN : Addr} {fd dN : FuncData} {k : Nat} (F : Fun K "checked_nodes" "checked_nodes" (top 30) f fd) (T : Bs mg bl) (c_MAX_NODES : mg "MAX_NODES" = some uM) (r_MAX_NODES : RelV (.int 40) uM)
    (kl : PySem.W.kitAny K (.type "list") [.type "list", .type "tuple"] = some true) (kt : PySem.W.kitAny K (.type "tuple") [.type "list", .type "tuple"] = some true)
    (F_is_name : Cf P w K mg base "is_name" ["value"] k (spName K) fN dN) : FnOk P w K mg base CX0 (k + 1) f fd ["nodes"] spChN := by
  refine F.ok sc_checked_nodes (fun vs H Q E h => ?_) (fun cdv A outer s H vs Q E hr h => ?_)
  · obtain ⟨a, ns, rfl, _⟩ := h
    rfl
  · obtain ⟨a, ns, rfl, ha, nm, nd, n0, n1, q⟩ := h
    refine ⟨_, (pss_cons (ps_if (pt_not (pt_val (pe_callB call_isiT (by rfl) (T.b "isinstance" (by decide)) (by decide +kernel) (pa_cons (pv 0) (pa_cons (pe_tup (pa_cons (pe_bltn (v := .ty "list") (by rfl) (T.b "list" (by decide)) (by decide +kernel) rfl) (pa_cons (pe_bltn (v := .ty "tuple") (by rfl) (T.b "tuple" (by decide)) (by decide +kernel) rfl) pa_nil))) pa_nil))))) (pss_one ps_never) pss_nil)
      (pss_cons (ps_set (i := 1) sc_checked_nodes.nd rfl (Or.inl rfl) (pe_lst pa_nil))
      (pss_cons (ps_for PassesOwn.never rfl (pi_or (pi_list (pv 0)) (pi_tup (pv 0))) (pg_name (i := 2) sc_checked_nodes.nd rfl (Or.inl rfl)) (pss_cons (ps_if (PW.pt (pw_or (pt_not (pt_val (pe_cf F_is_name (hr.mono (by omega)) (by rfl) (pa_cons (pv 2) pa_nil)))) (pw_or (pt_cmpR op_in_seq (pv 2) (pv 1) rfl) (pw_or1 (pt_cmpR op_eq (pe_callB call_len_seq (by rfl) (T.b "len" (by decide)) (by decide +kernel) (pa_cons (pv 1) pa_nil)) (pe_glob rfl c_MAX_NODES r_MAX_NODES) (nomark _)))))) (pss_one ps_never) pss_nil)
      (pss_one (ps_expr (pe_bm PySem.F.plainAttrs_list PySem.F.slot_list_append PySem.F.type_list_append mt_append (pv 1) (pa_cons (pv 2) pa_nil))))))
      (pss_cons (ps_if (pt_not (pt_truth (pv 1) (fun _ => rfl))) (pss_one ps_never) pss_nil)
      (pss_one (ps_ret (pe_callTy call_tuple_of (by rfl) (T.b "tuple" (by decide)) (by decide +kernel) (pa_cons (pe_callB (cr_sortedD hr) (by rfl) (T.b "sorted" (by decide)) (by decide +kernel) (pa_cons (pv 1) pa_nil)) pa_nil)))))))), ?_⟩
    obtain ⟨t, ht, hk⟩ : ∃ t, TyX K H (.ref a) t ∧ PySem.W.kitAny K t [.type "list", .type "tuple"] = some true := ha.elim (fun h => ⟨_, .base (.lst h), kl⟩) fun h => ⟨_, .base (.tup h), kt⟩
    refine Evl.q_when (b := false) (Evl.et_is (Evl.et_not (Evl.et_B (ev_isiT ht hk (Evl.ev_var rfl)))) rfl) (fun hb => absurd hb (by decide)) (fun hb H1 e1 => ?_)
    refine Evl.q_asgL (Evl.el_lst Evl.ea_nil (by simp)) fun fo H2 nf e2 hf => ?_
    have e12 := e1.trans e2
    have ff : H fo = none := Evl.fresh_back e1 nf
    refine q_forSeq (xs := ns.map V.str) e12 (Evl.ev_var rfl) ha (fun i σ' H' => ∃ x2, σ' = [some (.ref a), some (.ref fo), x2] ∧ Evl.Ex H H' ∧ H' fo = some (.lst ((ns.take i).map V.str))) (fun H3 e3 => ⟨none, rfl, e12.trans e3, e3 _ _ hf⟩) (fun i σ' H' ⟨_, _, e, _⟩ => e) (fun i x σ' H' hx z => ?_) (fun σ' H' z => ?_)
    · obtain ⟨x2, rfl, eH, hfo⟩ := z
      rw [List.getElem?_map] at hx
      obtain ⟨z, hz, rfl⟩ := Option.map_eq_some_iff.mp hx
      have li : i < ns.length := (List.getElem?_eq_some_iff.mp hz).1
      have mz : z ∈ ns := List.mem_of_getElem? hz
      have tk : ns.take (i + 1) = ns.take i ++ [z] := by
        rw [List.take_add_one, hz]
        rfl
      have out : ¬ z ∈ ns.take i := fun hm => by
        have nd2 : (ns.take i ++ [z]).Nodup := by
          rw [← tk]
          exact (List.take_sublist _ _).nodup nd
        exact (List.nodup_append.mp nd2).2.2 _ hm _ (List.mem_singleton.mpr rfl) rfl
      have lt : (ns.take i).length < 40 := by
        rw [List.length_take]
        omega
      refine g_name ?_
      dsimp only
      refine Evl.q_when (b := false) (Evl.et_is (Evl.et_or (Evl.et_not (Evl.et_B (ev_name (Evl.ev_var rfl) (nm z mz)))) fun _ => Evl.et_or (Evl.et_test (Evl.ev_op (Evl.ev_var rfl) (Evl.ev_var rfl) (Evl.rv_isL (Evl.sq_of hfo) rfl (flat_strs _)))) fun _ => Evl.et_test (Evl.ev_op (ev_lenT (Evl.ev_var rfl) (.inl (Evl.sq_of hfo))) (Evl.ev_c (v := .int 40)) (Evl.rv_eq rfl))) ?_) (fun hb => absurd hb (by decide)) (fun hb H3 e3 => ?_)
      · have n40 : ¬ V.int (((ns.take i).map V.str).length : Int) = V.int 40 := fun z => by
          have := V.int.inj z
          rw [List.length_map] at this
          omega
        rw [inV_str, decide_eq_false out, decide_eq_false n40]
        rfl
      · refine Evl.s_app (e3 _ _ hfo) (Evl.ev_var rfl) (Evl.ev_var rfl) (by rw [List.length_map]; omega) fun H4 e4 => ?_
        refine ⟨_, rfl, ((eH.trans e3).trans e4).mut ff, ?_⟩
        rw [upd_same, tk, List.map_append]
        rfl
    · obtain ⟨x2, rfl, eH, hfo⟩ := z
      rw [List.length_map, List.take_length] at hfo
      have ne : (ns.map V.str).isEmpty = false := by
        cases ns with
        | nil => exact absurd n0 (by decide)
        | cons => rfl
      refine Evl.q_when (b := false) (Evl.et_is (Evl.et_not (et_tru (Evl.ev_var rfl) hfo)) (by rw [ne]; rfl)) (fun hb => absurd hb (by decide)) (fun hb H3 e3 => ?_)
      refine ⟨.ref fo, rfl, ?_⟩
      refine g_nil ?_
      dsimp only
      refine rc_sortN (.inl (Evl.sq_of (e3 _ _ hfo))) (by omega) _ (Evl.Ex.refl _) _ fun p H5 np e5 hp => ⟨p, _, rfl, .inl ⟨Evl.sq_of hp, fun r nr => ?_⟩⟩
      exact q r _ (((eH.trans e3).trans e5).trans (Evl.Ex.new nr)) (Evl.fresh_back ((eH.trans e3).trans e5) nr) upd_same
/-- valid edges, a list or a tuple: a new tuple, ascending, the lesser ends first -/
def spChE : Sp := fun vs H Q _ => ∃ (t a : Addr) (ms ns : List Str) (as : List Addr) (es : List Eg), vs = [V.ref t, .ref a] ∧ H t = some (.tup (ms.map V.str)) ∧ ms.Perm ns ∧ (H a = some (.lst (as.map V.ref)) ∨ H a = some (.tup (as.map V.ref))) ∧ EgsAt H as es ∧ IsNet ns es ∧ es.length ≤ 100 ∧ ns.length ≤ 1000 ∧ Few es ∧
  ∀ r bs H', Evl.Ex H H' → H r = none → H' r = some (.tup (bs.map V.ref)) → EgsAt H' bs (srtE (es.map norm)) → Q (.ref r) H'
theorem ok_chedges {f fN fO fI fD : Addr} {fd dN dO dI dD : FuncData} {k : Nat} (F : Fun K "checked_edges" "checked_edges" (top 31) f fd) (T : Bs mg bl) (c_MAX_EDGES : mg "MAX_EDGES" = some uE) (r_MAX_EDGES : RelV (.int 100) uE) (c_MAX_ODD : mg "MAX_ODD" = some uO) (r_MAX_ODD : RelV (.int 10) uO)
    (kl : PySem.W.kitAny K (.type "list") [.type "list", .type "tuple"] = some true) (kt : PySem.W.kitAny K (.type "tuple") [.type "list", .type "tuple"] = some true)
    (F_is_edge : Cf P w K mg base "_is_edge" ["nodes", "value"] k spIsEdge fI dI) (F_edge_in_order : Cf P w K mg base "edge_in_order" ["edge"] k spOrd fO dO)
    (F_odd_nodes : Cf P w K mg base "odd_nodes" ["edges"] k spOdd fD dD) (F_negative_edges : Cf P w K mg base "negative_edges" ["edges"] k spNeg fN dN) : FnOk P w K mg base CX0 (k + 1) f fd ["nodes", "edges"] spChE := by
  refine F.ok sc_checked_edges (fun vs H Q E h => ?_) (fun cdv A outer s H vs Q E hr h => ?_)
  · obtain ⟨t, a, ms, ns, as, es, rfl, _⟩ := h
    rfl
  · obtain ⟨t, a, ms, ns, as, es, rfl, ht, pm, ha, he, net, l1, l2, fw, q⟩ := h
    refine ⟨_, (pss_cons (ps_if (pt_not (pt_val (pe_callB call_isiT (by rfl) (T.b "isinstance" (by decide)) (by decide +kernel) (pa_cons (pv 1) (pa_cons (pe_tup (pa_cons (pe_bltn (v := .ty "list") (by rfl) (T.b "list" (by decide)) (by decide +kernel) rfl) (pa_cons (pe_bltn (v := .ty "tuple") (by rfl) (T.b "tuple" (by decide)) (by decide +kernel) rfl) pa_nil))) pa_nil))))) (pss_one ps_never) pss_nil)
      (pss_cons (ps_set (i := 2) sc_checked_edges.nd rfl (Or.inr rfl) pe_dnewK)
      (pss_cons (ps_for PassesOwn.never rfl (pi_or (pi_list (pv 1)) (pi_tup (pv 1))) (pg_name (i := 3) sc_checked_edges.nd rfl (Or.inl rfl)) (pss_cons (ps_if (PW.pt (pw_or (pt_not (pt_val (pe_cf F_is_edge (hr.mono (by omega)) (by rfl) (pa_cons (pv 0) (pa_cons (pv 3) pa_nil))))) (pw_or1 (pt_cmp (pc_din (hu_of hr) (pe_ix ix_tup (pv 3) pe_int (fun _ _ => rfl)) (pv 2)))))) (pss_one ps_never) pss_nil)
      (pss_one (ps_dput (hu_of hr) (pv 2) (pe_ix ix_tup (pv 3) pe_int (fun _ _ => rfl)) (pe_cf F_edge_in_order (hr.mono (by omega)) (by rfl) (pa_cons (pv 3) pa_nil)) rfl))))
      (pss_cons (ps_if (pt_cmpR op_gt (pe_callB call_lenD (by rfl) (T.b "len" (by decide)) (by decide +kernel) (pa_cons (pv 2) pa_nil)) (pe_glob rfl c_MAX_EDGES r_MAX_EDGES) (nomark _)) (pss_one ps_never) pss_nil)
      (pss_cons (ps_if (pt_cmpR op_gt (pe_callB call_len_seq (by rfl) (T.b "len" (by decide)) (by decide +kernel) (pa_cons (pe_cf F_odd_nodes (hr.mono (by omega)) (by rfl) (pa_cons (pe_cf F_negative_edges (hr.mono (by omega)) (by rfl) (pa_cons (pe_listVals rfl (by rfl) (T.b "list" (by decide)) (pv 2)) pa_nil)) pa_nil)) pa_nil)) (pe_glob rfl c_MAX_ODD r_MAX_ODD) (nomark _)) (pss_one ps_never) pss_nil)
      (pss_one (ps_ret (pe_callTy call_tuple_of (by rfl) (T.b "tuple" (by decide)) (by decide +kernel) (pa_cons (pe_lc (own := [("name", 4)]) (g := (gName 4)) (tt := tYes) (te := (tDGet (tVar 2) (tVar 4))) rfl sc_checked_edges.nd (pi_list (pe_callB (call_sortedDA hr rfl) (by rfl) (T.b "sorted" (by decide)) (by decide +kernel) (pa_cons (pv 2) pa_nil))) (blkOk_by (N := nm_checked_edges) (sc := defScope (top 31)) (by decide +kernel)) (fun _ _ _ _ _ => pg_name (i := 4) sc_checked_edges.nd rfl (Or.inl rfl)) (fun _ _ _ _ _ => pts_nil) (fun _ _ _ _ _ => (pe_dget (hu_of hr) (pv 2) (pv 4) (fun _ _ => rfl)))) pa_nil))))))))), ?_⟩
    obtain ⟨ty, hty, hk⟩ : ∃ t, TyX K H (.ref a) t ∧ PySem.W.kitAny K t [.type "list", .type "tuple"] = some true := ha.elim (fun h => ⟨_, .base (.lst h), kl⟩) fun h => ⟨_, .base (.tup h), kt⟩
    refine Evl.q_when (b := false) (Evl.et_is (Evl.et_not (Evl.et_B (ev_isiT hty hk (Evl.ev_var rfl)))) rfl) (fun hb => absurd hb (by decide)) (fun hb H1 e1 => ?_)
    refine fun fo nf => ?_
    refine g_name ?_
    dsimp only
    have e12 : Evl.Ex H (upd H1 fo (.dK [])) := e1.trans (Evl.Ex.new nf)
    have hf : (upd H1 fo (.dK [])) fo = some (.dK []) := upd_same
    have ff : H fo = none := Evl.fresh_back e1 nf
    generalize (upd H1 fo (.dK [])) = H2 at e12 hf ⊢
    refine q_forSeq (xs := as.map V.ref) e12 (Evl.ev_var rfl) ha (fun i σ' H' => ∃ x3 cs, σ' = [some (.ref t), some (.ref a), some (.ref fo), x3, none] ∧ Evl.Ex H H' ∧ H' fo = some (.dK (edKv ((es.take i).map norm) cs)) ∧ EgsAt H' cs ((es.take i).map norm)) (fun H3 e3 => ⟨none, [], rfl, e12.trans e3, e3 _ _ hf, .nil⟩) (fun i σ' H' ⟨_, _, _, e, _⟩ => e) (fun i x σ' H' hx z => ?_) (fun σ' H' z => ?_)
    · obtain ⟨x3, cs, rfl, eH, hfo, hcs⟩ := z
      rw [List.getElem?_map] at hx
      obtain ⟨a', ha', rfl⟩ := Option.map_eq_some_iff.mp hx
      obtain ⟨e, hei, hae⟩ := egs_get he ha'
      have li : i < es.length := (List.getElem?_eq_some_iff.mp hei).1
      have me : e ∈ es := List.mem_of_getElem? hei
      obtain ⟨m1, m2, m3, m4, m5, m6⟩ := net.em e me
      have tk : es.take (i + 1) = es.take i ++ [e] := by
        rw [List.take_add_one, hei]
        rfl
      have out : ¬ e.1 ∈ ((es.take i).map norm).map (·.1) := fun hm => by
        rw [norm_names] at hm
        have nd2 : ((es.take i).map (·.1) ++ [e.1]).Nodup := by
          have : (es.take i).map (·.1) ++ [e.1] = (es.take (i + 1)).map (·.1) := by
            rw [tk, List.map_append]
            rfl
          rw [this, List.map_take]
          exact (List.take_sublist _ _).nodup net.ed
        exact (List.nodup_append.mp nd2).2.2 _ hm _ (List.mem_singleton.mpr rfl) rfl
      have lcs : cs.length = ((es.take i).map norm).length := hcs.len
      have hv := edKv_none (as := cs) out
      refine g_name ?_
      dsimp only
      refine Evl.q_when (b := false) (Evl.et_is (Evl.et_or (Evl.et_not (Evl.et_B (Evl.ev_call (z := .bl true) (vs := [.ref t, .ref a']) (Evl.ea_cons (Evl.ev_var rfl) (Evl.ea_cons (Evl.ev_var rfl) Evl.ea_nil)) fun H2 e2 Q2 q2 _ => ⟨t, a', ms, e, rfl, e2 _ _ (eH _ _ ht), e2 _ _ (eH _ _ hae), m1, pm.mem_iff.mpr m2, pm.mem_iff.mpr m3, m4, m5, m6, q2⟩))) fun _ =>
        Evl.et_test (ev_din hfo hv (ev_eg (v := .str e.1) (Evl.ev_var rfl) Evl.ev_c (eH _ _ hae) rfl) (Evl.ev_var rfl))) rfl) (fun hb => absurd hb (by decide)) (fun hb H3 e3 => ?_)
      refine ⟨.ref a', rfl, a', e, rfl, e3 _ _ (eH _ _ hae), fun r H4 e4 nr hr4 => ⟨.ref fo, rfl, .ref a', rfl, a', egV e, 0, .str e.1, rfl, rfl, .inl (.inl (e4 _ _ (e3 _ _ (eH _ _ hae)))), rfl, fo, _, rfl, .inl ⟨_, Sum.inr e.1, e4 _ _ (e3 _ _ hfo), rfl, ?_, rfl⟩, ?_⟩⟩
      · rw [edKv_len lcs, List.length_map, List.length_take]
        exact Evl.sz_lt (by omega)
      · refine ⟨_, cs ++ [r], rfl, (((eH.trans e3).trans e4).mut ff), ?_, ?_⟩
        · rw [upd_same, putK_new _ hv, tk, List.map_append]
          show _ = some (HO.dK (edKv ((es.take i).map norm ++ [norm e]) (cs ++ [r])))
          rw [edKv_snoc lcs]
          rfl
        · have nfo : ∀ b xs, H4 b = some (.tup xs) → (upd H4 fo (.dK (putK (edKv ((es.take i).map norm) cs) (Sum.inr e.1) (.ref r)))) b = some (.tup xs) := fun b xs hb => by
            have : b ≠ fo := fun z => by
              rw [z, e4 _ _ (e3 _ _ hfo)] at hb
              exact nomatch hb
            rw [upd_ne this]
            exact hb
          rw [tk, List.map_append]
          exact paired_snoc (paired_imp (fun b f z => nfo _ _ (e4 _ _ (e3 _ _ z))) hcs) (nfo _ _ hr4)
    · obtain ⟨x3, cs, rfl, eH, hfo, hcs⟩ := z
      rw [List.length_map, he.len, List.take_length] at hfo hcs
      have lcs : cs.length = (es.map norm).length := hcs.len
      have les : (es.map norm).length = es.length := List.length_map _
      have nd : ((es.map norm).map (·.1)).Nodup := by
        rw [norm_names]
        exact net.ed
      have lkv : (edKv (es.map norm) cs).length = es.length := by rw [edKv_len lcs, les]
      refine Evl.q_when (b := false) (Evl.et_is (Evl.et_test (Evl.ev_op (ev_lenD hfo (Evl.ev_var rfl)) (Evl.ev_c (v := .int 100)) Evl.rv_I0)) (by rw [lkv]; exact decide_eq_false (by omega))) (fun hb => absurd hb (by decide)) (fun hb H3 e3 => ?_)
      have ends : ∀ e ∈ (es.map norm).filter fun e => decide (e.2.2.2 < 0), e.2.1 ∈ ns ∧ e.2.2.1 ∈ ns := fun e he => by
        have me : e ∈ es.map norm := (List.mem_filter.mp he).1
        obtain ⟨f, hf, rfl⟩ := List.mem_map.mp me
        obtain ⟨h1, h2, h3, _⟩ := net.em f hf
        refine ⟨?_, ?_⟩
        · show minS f.2.1 f.2.2.1 ∈ ns
          rcases min_or f.2.1 f.2.2.1 with z | z <;> rw [z] <;> assumption
        · show maxS f.2.1 f.2.2.1 ∈ ns
          rcases max_or f.2.1 f.2.2.1 with z | z <;> rw [z] <;> assumption
      refine ⟨.ref fo, rfl, fo, _, rfl, e3 _ _ hfo, fun p np => ?_⟩
      rw [edKv_vals lcs]
      have eN : Evl.Ex H3 (upd H3 p (.lst (cs.map V.ref))) := Evl.Ex.new np
      have hp0 : (upd H3 p (.lst (cs.map V.ref))) p = some (.lst (cs.map V.ref)) := upd_same
      generalize (upd H3 p (.lst (cs.map V.ref))) = H4 at eN hp0 ⊢
      refine ⟨p, cs, es.map norm, rfl, hp0, hcs.tk (TK.ex (e3.trans eN)), by omega, fun p2 ds H5 e5 np2 hp2 hds => ⟨p2, ds, _, ns, rfl, .inl hp2, hds, by have := List.length_filter_le (fun e : Eg => decide (e.2.2.2 < 0)) (es.map norm); omega, by omega, ends, fun r ys H6 e6 nr hr ynd yin ysr => ⟨r, _, rfl, .inr (.inl (.inl hr)), _, _, rfl, rfl, _, rfl, ?_⟩⟩⟩
      have few : ¬ (10 : Int) < ((ys.map V.str).length : Int) := by
        have := fw.norms ys ynd fun y hy => (yin y).mp hy
        rw [List.length_map]
        omega
      refine ite2 (fun z => absurd (of_decide_eq_true z) few) fun _ => ?_
      have e36 : Evl.Ex H' H6 := ((e3.trans eN).trans e5).trans e6
      have hfo6 := e36 _ _ hfo
      obtain ⟨bs, hb1, hb2⟩ := edAt_some hcs nd (l := srtE (es.map norm)) fun e he => (srtE_perm _).mem_iff.mp he
      rw [← srt_names nd] at hb1
      refine g_next ?_
      dsimp only
      refine g_ret (g_cb1 ?_)
      dsimp only
      refine (el_lcMap (K := K) (tl := tCB rSortedDA (tCons (tVar 2) tNil)) (te := tDGet (tVar 2) (tVar 4)) (j := 4) (vs := [4]) (σ := [some (.ref t), some (.ref a), some (.ref fo), x3, none]) (edAt (edKv (es.map norm) cs)) (Evl.el_cb (Evl.ea_cons (Evl.ev_var rfl) Evl.ea_nil) (rc_sortDA hfo6 (edKv_keys lcs) (by rw [List.length_map, les]; omega))) (by rw [List.length_map, (srtN_perm _).length_eq, List.length_map, les]; omega) (fun _ => rfl) (fun x hx H7 e7 => ?_)) H6 (Evl.Ex.refl _) _ fun l H7 nl e7 hl => ?_
      · obtain ⟨n, hn, rfl⟩ := List.mem_map.mp hx
        obtain ⟨e', a', m1, m2, m3, m4, m5⟩ := edKv_get hcs (n := n) ((srtN_perm _).mem_iff.mp hn)
        refine ev_dget (k := Sum.inr n) (e7 _ _ hfo6) ?_ (Evl.ev_var rfl) (Evl.ev_var rfl)
        show _ = some ((valV (edKv (es.map norm) cs) (Sum.inr n)).getD .non)
        rw [m5]
        rfl
      · refine ⟨l, _, rfl, .inl ⟨Evl.sq_of hl, fun r nr => ?_⟩⟩
        have eA : Evl.Ex H (upd H7 r (.tup (((srtN ((es.map norm).map (·.1))).map V.str).map (edAt (edKv (es.map norm) cs))))) := ((eH.trans e36).trans e7).trans (Evl.Ex.new nr)
        refine q r bs _ eA (Evl.fresh_back ((eH.trans e36).trans e7) nr) (by rw [upd_same, hb1]) (hb2.tk (TK.ex ((e36.trans e7).trans (Evl.Ex.new nr))))
end
end Lw

set_option maxHeartbeats 2000000
namespace Lw
open PySem PySem.Spec PyProof.Rows L2
open Evl (EvL EvA EvT RC)
abbrev nm_Network___init__ : List Str := ["self", "nodes", "edges", "edge"]
theorem sc_Network___init__ : FnScope nm_Network___init__ ["self", "nodes", "edges"] (defScope (inClass (top 35) 3)) := ⟨rfl, rfl, rfl, by decide +kernel, rfl, by decide +kernel, by decide +kernel⟩
abbrev nm_Network___eq__ : List Str := ["self", "other"]
theorem sc_Network___eq__ : FnScope nm_Network___eq__ ["self", "other"] (defScope (inClass (top 35) 16)) := ⟨rfl, rfl, rfl, by decide +kernel, rfl, by decide +kernel, by decide +kernel⟩
/-- the three fields of a network -/
def nwF (t r d : Addr) : List (Str × V) := putF "_by_name" (.ref d) (putF "_edges" (.ref r) (putF "_nodes" (.ref t) []))
theorem f12 : ¬ (("_nodes" : Str) = "_edges") := by decide +kernel
theorem f13 : ¬ (("_nodes" : Str) = "_by_name") := by decide +kernel
theorem f23 : ¬ (("_edges" : Str) = "_by_name") := by decide +kernel
theorem nw_nodes (t r d : Addr) : (nwF t r d).lookup ("_nodes" : Str) = some (.ref t) := by
  unfold nwF
  rw [lookup_putF, if_neg f13, lookup_putF, if_neg f12, lookup_putF, if_pos rfl]
theorem nw_edges (t r d : Addr) : (nwF t r d).lookup ("_edges" : Str) = some (.ref r) := by
  unfold nwF
  rw [lookup_putF, if_neg f23, lookup_putF, if_pos rfl]
theorem nw_names (t r d : Addr) : (nwF t r d).lookup ("_by_name" : Str) = some (.ref d) := by
  unfold nwF
  rw [lookup_putF, if_pos rfl]
/-- a network stands at x: its nodes and edges, ascending -/
def NetAt (C : Addr) (H : Hp) (x : Addr) (ns : List Str) (es : List Eg) : Prop := ∃ dx t r d bs, H x = some (.ins C dx (nwF t r d)) ∧ H t = some (.tup (ns.map V.str)) ∧ H r = some (.tup (bs.map V.ref)) ∧ EgsAt H bs es ∧ H d = some (.dK (edKv es bs))
theorem NetAt.ex {C : Addr} {H H' : Hp} {x : Addr} {ns : List Str} {es : List Eg} (e : Evl.Ex H H') (h : NetAt C H x ns es) : NetAt C H' x ns es := by
  obtain ⟨dx, t, r, d, bs, h1, h2, h3, h4, h5⟩ := h
  exact ⟨dx, t, r, d, bs, e _ _ h1, e _ _ h2, e _ _ h3, h4.tk (TK.ex e), e _ _ h5⟩
/-- what the text holds of the class -/
structure NwT (K : PySem.W.Frag) (C : Addr) : Prop where
  cl : Cls K C
  n1 : NoAttr K C "_nodes"
  n2 : NoAttr K C "_edges"
  n3 : NoAttr K C "_by_name"
section
variable {P : Program} {w : World} {K : PySem.W.Frag} {mg : Str → Option Value} {base : Heap} {C : Addr}
theorem ev_fldN {σ : St} {H : Hp} {ta : TE} {a dx : Addr} {fs : List (Str × V)} {f : Str} {v : V} (c : Cls K C) (n : NoAttr K C f) (h : H a = some (.ins C dx fs)) (l : fs.lookup f = some v) (ha : Evl.Ev ta σ H (.ref a)) : Evl.Ev (tFld K ta f) σ H v := fun H1 e Q q =>
  ha H1 e _ fun H2 e2 => ⟨a, C, dx, fs, v, rfl, e2 _ _ (e _ _ h), c, n, l, q H2 e2⟩
/-- a new network of valid nodes and edges -/
def spInit (C : Addr) : Sp := fun vs H Q _ => ∃ (x dx a b : Addr) (ns : List Str) (as : List Addr) (es : List Eg), vs = [V.ref x, .ref a, .ref b] ∧ H x = some (.ins C dx []) ∧ (H a = some (.lst (ns.map V.str)) ∨ H a = some (.tup (ns.map V.str))) ∧ (H b = some (.lst (as.map V.ref)) ∨ H b = some (.tup (as.map V.ref))) ∧ EgsAt H as es ∧
  IsNet ns es ∧ 0 < ns.length ∧ ns.length ≤ 40 ∧ es.length ≤ 100 ∧ Few es ∧ ∀ H', But x H H' → NetAt C H' x (srtN ns) (srtE (es.map norm)) → Q .non H'
theorem ok_init {f fN fE : Addr} {fd dN dE : FuncData} {k : Nat} {dvs : List V} (F : FunD K "__init__" "Network.__init__" (defArgs (inClass (top 35) 3)) (defBody (inClass (top 35) 3)) (defScope (inClass (top 35) 3)) dvs [] f fd) (T : Bs mg bl) (N : NwT K C)
    (F_checked_nodes : Cf P w K mg base "checked_nodes" ["nodes"] k spChN fN dN) (F_checked_edges : Cf P w K mg base "checked_edges" ["nodes", "edges"] k spChE fE dE) : FnOk P w K mg base CX0 (k + 1) f fd ["self", "nodes", "edges"] (spInit C) := by
  refine F.ok sc_Network___init__ (fun vs H Q E h => ?_) (fun cdv A outer s H vs Q E hr h => ?_)
  · obtain ⟨x, dx, a, b, ns, as, es, rfl, _⟩ := h
    rfl
  · obtain ⟨x, dx, a, b, ns, as, es, rfl, hx, ha, hb, he, net, n0, n1, n2, fw, q⟩ := h
    refine ⟨_, (pss_cons (ps_fld (pv 0) (pe_cf F_checked_nodes (hr.mono (by omega)) (by rfl) (pa_cons (pv 1) pa_nil)) rfl)
      (pss_cons (ps_fld (pv 0) (pe_cf F_checked_edges (hr.mono (by omega)) (by rfl) (pa_cons (pe_fld (pv 0) rfl) (pa_cons (pv 2) pa_nil))) rfl)
      (pss_one (ps_fld (pv 0) (pe_dc (own := [("edge", 3)]) (g := (gName 3)) (tt := tYes) (tk := (tOp (rIxT K) (tVar 3) (tC (.int 0)))) (tv := (tVar 3)) rfl sc_Network___init__.nd (pi_tup (pe_fld (pv 0) rfl)) (blkOk_by (N := nm_Network___init__) (sc := defScope (inClass (top 35) 3)) (by decide +kernel)) (fun _ _ _ _ _ => pg_name (i := 3) sc_Network___init__.nd rfl (Or.inl rfl)) (fun _ _ _ _ _ => pts_nil) (fun _ _ _ _ _ => (pe_ix ix_tup (pv 3) pe_int (fun _ _ => rfl))) (fun _ _ _ _ _ => (pv 3))) rfl)))), ?_⟩
    refine ⟨.ref a, rfl, a, ns, rfl, ha, net.nm, net.nd, n0, by omega, fun t H1 e1 nt ht => ⟨.ref x, rfl, x, C, dx, [], rfl, e1 _ _ hx, N.cl, N.n1, by decide, ?_⟩⟩
    have tx : t ≠ x := apart hx nt
    have b2 : But x H (upd H1 x (.ins C dx (putF "_nodes" (.ref t) []))) := (But.of e1).trans But.put
    have hx2 : (upd H1 x (.ins C dx (putF "_nodes" (.ref t) []))) x = some (.ins C dx (putF "_nodes" (.ref t) [])) := upd_same
    have ht2 : (upd H1 x (.ins C dx (putF "_nodes" (.ref t) []))) t = some (.tup ((srtN ns).map V.str)) := by
      rw [upd_ne tx]
      exact ht
    generalize (upd H1 x (.ins C dx (putF "_nodes" (.ref t) []))) = H2 at b2 hx2 ht2 ⊢
    have nx : ∀ {c : Addr} {o : HO}, H c = some o → (∀ C d fs, o ≠ .ins C d fs) → c ≠ x := fun {c o} hc n z => by
      rw [z, hx] at hc
      exact n _ _ _ (Option.some.inj hc).symm
    have tkH : ∀ {H' : Hp}, But x H H' → TK H H' := fun b c xs h => b c _ (nx h (by intro _ _ _ z; exact nomatch z)) h
    have hb2 : H2 b = some (.lst (as.map V.ref)) ∨ H2 b = some (.tup (as.map V.ref)) := hb.imp (fun h => b2 _ _ (nx h (by intro _ _ _ z; exact nomatch z)) h) fun h => b2 _ _ (nx h (by intro _ _ _ z; exact nomatch z)) h
    refine ⟨.ref x, rfl, x, C, dx, _, .ref t, rfl, hx2, N.cl, N.n1, by rw [lookup_putF, if_pos rfl], .ref b, rfl, t, b, srtN ns, ns, as, es, rfl, ht2, srtN_perm ns, hb2, he.tk (tkH b2), net, by omega, by omega, fw, fun r bs H3 e3 nr hr3 hbs => ⟨.ref x, rfl, x, C, dx, _, rfl, e3 _ _ hx2, N.cl, N.n2, by show 1 < 1000; decide, ?_⟩⟩
    have rx : r ≠ x := apart hx2 nr
    have b4 : But x H2 (upd H3 x (.ins C dx (putF "_edges" (.ref r) (putF "_nodes" (.ref t) [])))) := (But.of e3).trans But.put
    have hx4 : (upd H3 x (.ins C dx (putF "_edges" (.ref r) (putF "_nodes" (.ref t) [])))) x = some (.ins C dx (putF "_edges" (.ref r) (putF "_nodes" (.ref t) []))) := upd_same
    have hr4 : (upd H3 x (.ins C dx (putF "_edges" (.ref r) (putF "_nodes" (.ref t) [])))) r = some (.tup (bs.map V.ref)) := by
      rw [upd_ne rx]
      exact hr3
    have tk34 : TK H3 (upd H3 x (.ins C dx (putF "_edges" (.ref r) (putF "_nodes" (.ref t) [])))) := fun c xs h => by
      have : c ≠ x := fun z => by
        rw [z, e3 _ _ hx2] at h
        exact nomatch h
      rw [upd_ne this]
      exact h
    have hbs4 := hbs.tk tk34
    generalize (upd H3 x (.ins C dx (putF "_edges" (.ref r) (putF "_nodes" (.ref t) [])))) = H4 at b4 hx4 hr4 hbs4 ⊢
    have lb : bs.length = (srtE (es.map norm)).length := hbs4.len
    have le : (srtE (es.map norm)).length = es.length := by rw [(srtE_perm _).length_eq, List.length_map]
    have nd : ((srtE (es.map norm)).map (·.1)).Nodup := ((srtE_perm _).map _).nodup_iff.mpr (by rw [norm_names]; exact net.ed)
    refine ⟨.ref x, rfl, x, C, dx, _, .ref r, rfl, hx4, N.cl, N.n2, by rw [lookup_putF, if_pos rfl], r, rfl, ⟨_, Evl.st_of hr4⟩, fun D nD => ?_⟩
    refine dc_tup (K := K) (xs := bs.map V.ref) (fun i H' => Evl.Ex H4 H' ∧ H' D = some (.dK (edKv ((srtE (es.map norm)).take i) (bs.take i)))) ⟨Evl.Ex.new nD, upd_same⟩ (fun i H' _ ⟨e, _⟩ => Evl.ex_t e (Evl.st_of hr4)) (fun i y H' hy ⟨e, hD⟩ => ⟨rfl, ?_⟩) (fun H' ⟨e, hD⟩ => ?_)
    · rw [List.getElem?_map] at hy
      obtain ⟨a', ha', rfl⟩ := Option.map_eq_some_iff.mp hy
      obtain ⟨g, hgi, hag⟩ := egs_get hbs4 ha'
      have li : i < (srtE (es.map norm)).length := (List.getElem?_eq_some_iff.mp hgi).1
      have tk1 : (srtE (es.map norm)).take (i + 1) = (srtE (es.map norm)).take i ++ [g] := by
        rw [List.take_add_one, hgi]
        rfl
      have tk2 : bs.take (i + 1) = bs.take i ++ [a'] := by
        rw [List.take_add_one, ha']
        rfl
      have out : ¬ g.1 ∈ ((srtE (es.map norm)).take i).map (·.1) := fun hm => by
        have nd2 : (((srtE (es.map norm)).take i).map (·.1) ++ [g.1]).Nodup := by
          have : ((srtE (es.map norm)).take i).map (·.1) ++ [g.1] = ((srtE (es.map norm)).take (i + 1)).map (·.1) := by
            rw [tk1, List.map_append]
            rfl
          rw [this, List.map_take]
          exact (List.take_sublist _ _).nodup nd
        exact (List.nodup_append.mp nd2).2.2 _ hm _ (List.mem_singleton.mpr rfl) rfl
      have lk : (bs.take i).length = ((srtE (es.map norm)).take i).length := by
        rw [List.length_take, List.length_take, lb]
      refine ⟨.ref a', rfl, a', egV g, 0, .str g.1, rfl, rfl, .inl (.inl (e _ _ hag)), rfl, .ref a', rfl, _, Sum.inr g.1, rfl, hD, ?_, e.mut nD, ?_⟩
      · rw [edKv_len lk, List.length_take]
        exact Evl.sz_lt (by omega)
      · rw [upd_same, putK_new _ (edKv_none out), tk1, tk2, edKv_snoc lk]
    · rw [List.length_map, lb, List.take_length, ← lb, List.take_length] at hD
      refine ⟨.ref x, rfl, x, C, dx, _, rfl, e _ _ hx4, N.cl, N.n3, by show 2 < 1000; decide, ?_⟩
      have Dx : D ≠ x := apart hx4 nD
      have tk5 : TK H' (upd H' x (.ins C dx (nwF t r D))) := fun c xs h => by
        have : c ≠ x := fun z => by
          rw [z, e _ _ hx4] at h
          exact nomatch h
        rw [upd_ne this]
        exact h
      refine q _ (((b2.trans b4).trans (But.of e)).trans But.put) ⟨dx, t, r, D, bs, upd_same, tk5 _ _ (e _ _ (b4 _ _ tx ht2)), tk5 _ _ (e _ _ hr4), (hbs4.tk (TK.ex e)).tk tk5, ?_⟩
      rw [upd_ne Dx]
      exact hD
/-- two networks with the same nodes and edges -/
def SameNet (C : Addr) (a b : Addr) (H : Hp) : Prop := ∃ ns es, (∀ y ∈ ns, IsNm y) ∧ (∀ e ∈ es, NmEg e) ∧ NetAt C H a ns es ∧ NetAt C H b ns es
theorem ok_eq {f : Addr} {fd : FuncData} {k : Nat} (F : Fun K "__eq__" "Network.__eq__" (inClass (top 35) 16) f fd) (T : Bs mg bl) (N : NwT K C) (I_Network : C8.InsC K C) (c_Network : mg "Network" = some (.ref C)) (r_Network : RelV (.ref C) (.ref C)) : FnOk P w K mg base CX0 (k + 1) f fd ["self", "other"] (spEq (SameNet C)) := by
  refine F.ok sc_Network___eq__ (fun vs H Q E h => ?_) (fun cdv A outer s H vs Q E hr h => ?_)
  · obtain ⟨a, b, rfl, _⟩ := h
    rfl
  · obtain ⟨a, b, rfl, ⟨ns, es, nn, ne, ⟨dx, t, r, d, bs, h1, h2, h3, h4, h5⟩, ⟨dx', t', r', d', bs', h1', h2', h3', h4', h5'⟩⟩, q⟩ := h
    refine ⟨_, (pss_one (ps_ret (pe_and (pe_callB (C8.call_isC I_Network) (by rfl) (T.b "isinstance" (by decide)) (by decide +kernel) (pa_cons (pv 1) (pa_cons (pe_glob rfl c_Network r_Network) pa_nil))) (pe_and (pe_cmpR (op_eqD (hu64 hr)) (pe_fld (pv 0) rfl) (pe_fld (pv 1) rfl) (nomark _)) (pe_one (pe_cmpR (op_eqD (hu64 hr)) (pe_fld (pv 0) rfl) (pe_fld (pv 1) rfl) (nomark _))))))), ?_⟩
    refine Evl.s_ret (Evl.ev_is (Evl.ev_andV (a := true) (Evl.ev_cb (vs := [.ref b, .ref C]) (Evl.ea_cons (Evl.ev_var rfl) (Evl.ea_cons Evl.ev_c Evl.ea_nil)) fun H1 e1 Q1 q1 => ⟨b, dx', _, rfl, e1 _ _ h1', q1 _ (Evl.Ex.refl _)⟩) fun _ => Evl.ev_andV (a := true) (Evl.ev_is (Evl.ev_op (ev_fldN N.cl N.n1 h1 (nw_nodes _ _ _) (Evl.ev_var rfl)) (ev_fldN N.cl N.n1 h1' (nw_nodes _ _ _) (Evl.ev_var rfl))
      fun H1 e1 Q1 q1 => ⟨_, _, .tup (Evl.st_of (e1 _ _ h2)) (dp_strs ns), .tup (Evl.st_of (e1 _ _ h2')) (dp_strs ns), (sh_strs nn).1, (sh_strs nn).1, q1 _ (Evl.Ex.refl _)⟩) (by rw [(sh_strs nn).2])) fun _ => Evl.ev_is (Evl.ev_op (ev_fldN N.cl N.n2 h1 (nw_edges _ _ _) (Evl.ev_var rfl)) (ev_fldN N.cl N.n2 h1' (nw_edges _ _ _) (Evl.ev_var rfl))
      fun H1 e1 Q1 q1 => ⟨_, _, .tup (Evl.st_of (e1 _ _ h3)) (dp_egs (h4.tk (TK.ex e1))), .tup (Evl.st_of (e1 _ _ h3')) (dp_egs (h4'.tk (TK.ex e1))), (sh_egs ne).1, (sh_egs ne).1, q1 _ (Evl.Ex.refl _)⟩) (by rw [(sh_egs ne).2])) rfl) fun H1 e1 => q H1 e1
end
end Lw

set_option maxHeartbeats 2000000
namespace Lw
open PySem PySem.Spec PyProof.Rows L2
open Evl (EvL EvA EvT RC)
abbrev nm_law : List Str := ["_law_script", "_law_pen_here", "_law_turn", "_law_nodes", "_law_edges", "_law_due", "_law_some", "_law_kept", "_law_told", "_law_edge"]
theorem sc_law : FnScope nm_law ["_law_script"] (defScope (top 44)) := ⟨rfl, rfl, rfl, by decide +kernel, rfl, by decide +kernel, by decide +kernel⟩
section
variable {P : Program} {w : World} {K : PySem.W.Frag} {mg : Str → Option Value} {base : Heap} {C : Addr}
def spLaw (K : PySem.W.Frag) : Sp := fun vs H Q _ => ∃ (a : Addr) (ns : List Int), vs = [V.ref a] ∧ SqL K H a (ns.map V.int) ∧ ns.length ≤ 63 ∧ ∀ H', Q (.bl true) H'
theorem ok_law {f fP fK fS fM fT fX fR fI fE : Addr} {fd dP dK dS dM dT dX dR dI dE : FuncData} {k : Nat} (F : Fun K "law" "law" (top 44) f fd) (T : Bs mg bl) (hm : Gd.HasMods base) (gC : mg "Network" = some (.ref C))
    (F_law_pen : Cf P w K mg base "_law_pen" ["_law_script"] k (spPen K) fP dP) (F_law_pick : Cf P w K mg base "_law_pick" ["_law_pen_here", "_law_options"] k (spPicks K) fK dK) (F_law_shuffled : Cf P w K mg base "_law_shuffled" ["_law_pen_here", "_law_items"] k (spShuf K) fS dS)
    (F_law_small : Cf P w K mg base "_law_small" ["_law_pen_here", "_law_least", "_law_most", "_law_wide"] k spSmall fM dM) (F_law_text : Cf P w K mg base "_law_text" ["_law_plain"] k spLText fT dT) (F_network_text : Cf P w K mg base "network_text" ["nodes", "edges"] k (spText K) fX dX)
    (F_read_parts : Cf P w K mg base "read_parts" ["text"] k spRead fR dR) (M_Network : Mk K C fI) (F_Network : FnOk P w K mg base CX0 k fI dI ["self", "nodes", "edges"] (spInit C)) (b_Network : Binds K dI ["self", "nodes", "edges"] [])
    (F_Network_eq : FnOk P w K mg base CX0 k fE dE ["self", "other"] (spEq (SameNet C))) (q_Network : PySem.W.findIn K (.ref C) "__eq__" = some (some (.ref fE))) (i_Network : PySem.W.isFn K (.ref fE) = true) (b_Network_eq : Binds K dE ["self", "other"] []) :
    Gd.FnG P w K mg base CX0 (k + 2) f fd ["_law_script"] (spLaw K) := by
  refine F.okG0 sc_law (fun vs H Q E h => ?_) (fun cdv A outer s H vs Q E gd hr h => ?_)
  · obtain ⟨a, ns, rfl, _⟩ := h
    rfl
  · obtain ⟨a, ns, rfl, hS, hl, q⟩ := h
    have g_Network := gC
    refine ⟨_, (pss_cons (ps_set (i := 1) sc_law.nd rfl (Or.inr rfl) (pe_cf F_law_pen (hr.mono (by omega)) (by rfl) (pa_cons (pv 0) pa_nil)))
      (pss_cons (ps_for PassesOwn.never rfl (pi_range1 (by rfl) (T.b "range" (by decide)) (pa_cons (pe_op op_add pe_int (pe_callB (call_min2 rfl) (by rfl) (T.b "min" (by decide)) (by decide +kernel) (pa_cons pe_int (pa_cons (pe_callB call_len_seq (by rfl) (T.b "len" (by decide)) (by decide +kernel) (pa_cons (pv 0) pa_nil)) pa_nil)))) pa_nil)) (pg_name (i := 2) sc_law.nd rfl (Or.inl rfl)) (pss_cons (ps_asg (pe_cf F_law_small (hr.mono (by omega)) (by rfl) (pa_cons (pv 1) (pa_cons pe_int (pa_cons pe_int (pa_cons pe_int pa_nil))))) (pg_tup rfl (pgs_cons (pg_name (i := 3) sc_law.nd rfl (Or.inl rfl)) (pgs_cons (pg_name (i := 4) sc_law.nd rfl (Or.inl rfl)) pgs_nil))))
      (pss_cons (ps_setLc (i := 4) (own := [("_law_edge", 9)]) (g := (gName 9)) (tt := tYes) (te := (tOp (rCatT K) (tSl (rSlA K) (tVar 9) tNoPart (tPart (tC (.int 3)))) (tTup (tCons (tCall (spPicks K) [] noE (tCons (tVar 1) (tCons (tLst (tCons (tOp (rIxT K) (tVar 9) (tC (.int 3))) (tCons (tOp (rIxT K) (tVar 9) (tC (.int 3))) (tCons (tC (.int 1000000)) (tCons (tUn (rU fun i => .int (-i)) (tC (.int 1000000))) tNil))))) tNil))) tNil)))) rfl sc_law.nd rfl rfl (by rfl) (pi_list (pv 4)) (blkOk_by (N := nm_law) (sc := defScope (top 44)) (by decide +kernel)) (fun _ _ _ _ _ => pg_name (i := 9) sc_law.nd rfl (Or.inl rfl)) (fun _ _ _ _ _ => pts_nil) (fun _ _ _ _ _ => (pe_op op_catT (pe_slice sl_tupA (pv 9) po_none (po_some pe_int)) (pe_tup (pa_cons (pe_cf F_law_pick (hr.mono (by omega)) (by rfl) (pa_cons (pv 1) (pa_cons (pe_lst (pa_cons (pe_ix ix_tup (pv 9) pe_int (fun _ _ => rfl)) (pa_cons (pe_ix ix_tup (pv 9) pe_int (fun _ _ => rfl)) (pa_cons pe_int (pa_cons (pe_un un_neg pe_int) pa_nil))))) pa_nil))) pa_nil)))))
      (pss_cons (ps_set (i := 5) sc_law.nd rfl (Or.inl rfl) (pe_cf F_law_text (hr.mono (by omega)) (by rfl) (pa_cons (pe_tup (pa_cons (pv 3) (pa_cons (pv 4) pa_nil))) pa_nil)))
      (pss_cons (ps_setLc (i := 6) (own := [("_law_edge", 9)]) (g := (gName 9)) (tt := tYes) (te := (tOp (rCatT K) (tOp (rCatT K) (tSl (rSlA K) (tVar 9) tNoPart (tPart (tC (.int 1)))) (tCB (fun xs H Q => ∃ p ys, xs = [V.ref p] ∧ ((SqL K H p ys ∧ ∀ l, H l = none → Q (.ref l) (upd H l (.tup ys))) ∨ (SqT K H p ys ∧ Q (.ref p) H))) (tCons (tCall (spShuf K) [] noE (tCons (tVar 1) (tCons (tSl (rSlA K) (tVar 9) (tPart (tC (.int 1))) (tPart (tC (.int 3)))) tNil))) tNil))) (tSl (rSlA K) (tVar 9) (tPart (tC (.int 3))) tNoPart))) rfl sc_law.nd rfl rfl (by rfl) (pi_list (pe_cf F_law_shuffled (hr.mono (by omega)) (by rfl) (pa_cons (pv 1) (pa_cons (pv 4) pa_nil)))) (blkOk_by (N := nm_law) (sc := defScope (top 44)) (by decide +kernel)) (fun _ _ _ _ _ => pg_name (i := 9) sc_law.nd rfl (Or.inl rfl)) (fun _ _ _ _ _ => pts_nil) (fun _ _ _ _ _ => (pe_op op_catT (pe_op op_catT (pe_slice sl_tupA (pv 9) po_none (po_some pe_int)) (pe_callTy call_tuple_of (by rfl) (T.b "tuple" (by decide)) (by decide +kernel) (pa_cons (pe_cf F_law_shuffled (hr.mono (by omega)) (by rfl) (pa_cons (pv 1) (pa_cons (pe_slice sl_tupA (pv 9) (po_some pe_int) (po_some pe_int)) pa_nil))) pa_nil))) (pe_slice sl_tupA (pv 9) (po_some pe_int) po_none))))
      (pss_cons (ps_set (i := 7) sc_law.nd rfl (Or.inl rfl) (pe_callB (Gd.call_reprD gd hr hm) (by rfl) (T.b "repr" (by decide)) (by decide +kernel) (pa_cons (pe_tup (pa_cons (pv 3) (pa_cons (pv 6) pa_nil))) pa_nil)))
      (pss_cons (ps_if (PW.pt (pw_or (pt_cmpR op_ne (pe_cf F_network_text (hr.mono (by omega)) (by rfl) (pa_cons (pe_cf F_law_shuffled (hr.mono (by omega)) (by rfl) (pa_cons (pv 1) (pa_cons (pv 3) pa_nil))) (pa_cons (pv 6) pa_nil))) (pv 5) (nomark _)) (pw_or1 (pt_cmpR op_ne (pe_cf F_network_text (hr.mono (by omega)) (by rfl) (pa_cons (pe_callTy call_tuple_of (by rfl) (T.b "tuple" (by decide)) (by decide +kernel) (pa_cons (pv 3) pa_nil)) (pa_cons (pe_callTy call_tuple_of (by rfl) (T.b "tuple" (by decide)) (by decide +kernel) (pa_cons (pv 6) pa_nil)) pa_nil))) (pv 5) (nomark _))))) (pss_one (ps_ret pe_bl)) pss_nil)
      (pss_cons (ps_set (i := 8) sc_law.nd rfl (Or.inl rfl) (pe_cf F_read_parts (hr.mono (by omega)) (by rfl) (pa_cons (pv 5) pa_nil)))
      (pss_cons (ps_if (PW.pt (pw_or (pt_cmpR op_ne (pe_cf F_network_text (hr.mono (by omega)) (by rfl) (pa_cons (pe_ix ix_tup (pv 8) pe_int (fun _ _ => rfl)) (pa_cons (pe_ix ix_tup (pv 8) pe_int (fun _ _ => rfl)) pa_nil))) (pv 5) (nomark _)) (pw_or (pt_cmpR op_ne (pe_callB (Gd.call_reprD gd hr hm) (by rfl) (T.b "repr" (by decide)) (by decide +kernel) (pa_cons (pe_tup (pa_cons (pv 3) (pa_cons (pv 6) pa_nil))) pa_nil)) (pv 7) (nomark _)) (pw_or1 (pt_cmpR op_ne (pe_callB (Gd.call_reprD gd hr hm) (by rfl) (T.b "repr" (by decide)) (by decide +kernel) (pa_cons (pe_cf F_read_parts (hr.mono (by omega)) (by rfl) (pa_cons (pv 5) pa_nil)) pa_nil)) (pe_callB (Gd.call_reprD gd hr hm) (by rfl) (T.b "repr" (by decide)) (by decide +kernel) (pa_cons (pv 8) pa_nil)) (nomark _)))))) (pss_one (ps_ret pe_bl)) pss_nil)
      (pss_one (ps_if (pt_not (pt_cmpR (op_eqG (rcG_ins F_Network_eq q_Network i_Network b_Network_eq pass0) (hr.mono (by omega))) (pe_make M_Network F_Network (hr.mono (by omega)) (by rfl) g_Network b_Network .nil pass0 (pa_cons (pe_ix ix_tup (pv 8) pe_int (fun _ _ => rfl)) (pa_cons (pe_ix ix_tup (pv 8) pe_int (fun _ _ => rfl)) pa_nil))) (pe_make M_Network F_Network (hr.mono (by omega)) (by rfl) g_Network b_Network .nil pass0 (pa_cons (pv 3) (pa_cons (pv 4) pa_nil))) (nomark _))) (pss_one (ps_ret pe_bl)) pss_nil)))))))))))
      (pss_one (ps_ret pe_bl)))), ?_⟩
    refine ⟨.ref a, rfl, a, ns, rfl, hS, hl, fun p c H1 e1 np hP => ?_⟩
    refine g_name ?_
    dsimp only
    refine Evl.q_forR1 (n := 5 + (if (ns.length : Int) < 5 then (ns.length : Int) else 5)) ?hn ⟨by split <;> omega, by split <;> omega⟩ (fun i σ' H' => ∃ x2 x3 x4 x5 x6 x7 x8, σ' = [some (.ref a), some (.ref p), x2, x3, x4, x5, x6, x7, x8, none] ∧ Pen p c (11000 * i) H') (fun H2 e2 => ⟨none, none, none, none, none, none, none, rfl, hP.ex e2⟩) (fun i σ' H' hi z => ?_) (fun σ' H' z => ?_)
    case hn =>
      refine Evl.ea_cons (Evl.ev_op Evl.ev_c (Evl.ev_is (Evl.ev_cb (Evl.ea_cons (x := .int 5) Evl.ev_c (Evl.ea_cons (ev_lenT (Evl.ev_var rfl) (.inl (Evl.ex_l e1 hS))) Evl.ea_nil)) fun H1 _ _ q => ⟨_, _, rfl, q H1 (Evl.Ex.refl _)⟩) (by rw [List.length_map])) Evl.rv_I0) Evl.ea_nil
    · obtain ⟨x2, x3, x4, x5, x6, x7, x8, rfl, hP⟩ := z
      have hi10 : i < 10 := by
        split at hi <;> omega
      -- nodes and edges
      refine ⟨.ref p, rfl, p, c, 1, 10, 14, 11000 * i, rfl, hP, by omega, by decide, by decide, by decide, by decide, fun t na nb ns as es H3 net l0 l1 l2 nt n_a n_b nas b3 ht hna hnb hes P3 => ?_⟩
      refine ⟨t, _, rfl, .inl (.inl ht), rfl, _, _, rfl, _, _, rfl, rfl, ?_⟩
      dsimp only
      have fa : na ≠ p := (hP.far n_a).1
      have fb : nb ≠ p := (hP.far n_b).1
      have les := hes.len
      refine q_asgVia (fun v H' => ∃ (q : Addr) (bs : List Addr) (fs : List Eg), v = V.ref q ∧ H' q = some (.lst (bs.map V.ref)) ∧ EgsAt H' bs fs ∧ IsNet ns fs ∧ fs.length ≤ 14 ∧ But p H3 H' ∧ Pen p c (11000 * i + 10014) H' ∧ q ≠ p) (fun Q' hQ' => ?_) ?_
      · refine ⟨.ref nb, rfl, nb, rfl, ⟨_, Evl.sq_of hnb⟩, lcL (K := K) (Q := Q') (p := p) (c := c) (n := 11000 * i + 10000) (kk := 1) (xs := as.map V.ref) (fun j acc H' => ∃ (bs : List Addr) (fs : List Eg), acc = bs.map V.ref ∧ EgsAt H' bs fs ∧ fs.map tri = (es.take j).map tri ∧ ∀ f ∈ fs, -1000000 ≤ f.2.2.2 ∧ f.2.2.2 ≤ 1000000)
          P3 hnb fb (by rw [List.length_map]; omega) (fun _ _ => ⟨[], [], rfl, .nil, rfl, fun f hf => absurd hf (by simp)⟩) ?hw (fun j acc D ys H' hq ⟨bs, fs, e, h1, h2, h3⟩ => ⟨bs, fs, e, h1.tk (TK.put hq), h2, h3⟩) (fun j x acc H' hx la pa ba Pa Q2 k => ?_) (fun D acc H7 nD la pa b7 hD P7 => ?_)⟩
        case hw => exact fun _ => rfl
        · obtain ⟨bs, fs, rfl, h1, h2, h3⟩ := pa
          rw [List.getElem?_map] at hx
          obtain ⟨a', ha', rfl⟩ := Option.map_eq_some_iff.mp hx
          obtain ⟨⟨m, u, v, l⟩, hei, hae⟩ := egs_get hes ha'
          have hae' : H' a' = some (.tup (egV (m, u, v, l))) := TK.but P3 ba _ _ hae
          have li : j < es.length := (List.getElem?_eq_some_iff.mp hei).1
          refine ⟨.ref a', rfl, 3, rfl, a', egV (m, u, v, l), rfl, .inl (.inl hae'), fun z => absurd z.2 (by show ¬ (3 : Nat) = 4; decide), fun _ p1 np1 => ?_⟩
          have e1 : Evl.Ex H' (upd H' p1 (.tup (cutV (egV (m, u, v, l)) none (some 3)))) := Evl.Ex.new np1
          have h11 : (upd H' p1 (.tup (cutV (egV (m, u, v, l)) none (some 3)))) p1 = some (.tup [.str m, .str u, .str v]) := upd_same
          generalize (upd H' p1 (.tup (cutV (egV (m, u, v, l)) none (some 3)))) = H5 at e1 h11 ⊢
          have P5 := Pa.ex e1
          refine ⟨.ref p, rfl, ?_⟩
          refine (Evl.el_lst (vs := [.int l, .int l, .int 1000000, .int (-1000000)]) (Evl.ea_cons (ev_eg (e := (m, u, v, l)) (Evl.ev_var rfl) Evl.ev_c (e1 _ _ hae') rfl) (Evl.ea_cons (ev_eg (e := (m, u, v, l)) (Evl.ev_var rfl) Evl.ev_c (e1 _ _ hae') rfl) (Evl.ea_cons Evl.ev_c (Evl.ea_cons (Evl.ev_un Evl.ev_c Evl.ru_neg) Evl.ea_nil)))) (by simp)) _ (Evl.Ex.refl _) _ fun L H6 nL e6 hL => ?_
          refine Or.inl ⟨p, c, L, _, 11000 * i + 10000 + 1 * j, rfl, P5.ex e6, by omega, .inl (Evl.sq_of hL), (P5.far nL).1, by simp, by simp, fun y H7 hy b7 P7 => ?_⟩
          refine ⟨by simp [sizeLine_eq], fun t nt => ?_⟩
          obtain ⟨l', rfl, l0', l1'⟩ : ∃ l' : Int, y = .int l' ∧ -1000000 ≤ l' ∧ l' ≤ 1000000 := by
            obtain ⟨_, _, _, _, z5, z6⟩ := net.em _ (List.mem_of_getElem? hei)
            simp only [List.mem_cons, List.mem_nil_iff, or_false] at hy
            rcases hy with rfl | rfl | rfl | rfl
            · exact ⟨_, rfl, z5, z6⟩
            · exact ⟨_, rfl, z5, z6⟩
            · exact ⟨_, rfl, by decide, by decide⟩
            · exact ⟨_, rfl, by decide, by decide⟩
          have np1' : p1 ≠ p := (Pa.far np1).1
          have h17 := Evl.Ex.new (o := .tup [.int l']) nt _ _ (b7 _ _ np1' (e6 _ _ h11))
          refine ⟨p1, t, _, _, rfl, rfl, .inl (.inl h17), .inl (.inl upd_same), by simp, by simp [sizeLine_eq], fun z => absurd z (by simp), fun _ r nr => ?_⟩
          have bb : But p H' (upd (upd H7 t (.tup [.int l'])) r (.tup ([.str m, .str u, .str v] ++ [.int l']))) := ((But.of (e1.trans e6)).trans b7).trans (But.of ((Evl.Ex.new nt).trans (Evl.Ex.new nr)))
          have tk1 : (es.take (j + 1)).map tri = (es.take j).map tri ++ [(m, u, v)] := by
            rw [List.take_add_one, hei, List.map_append]
            rfl
          refine k _ _ ⟨bs ++ [r], fs ++ [(m, u, v, l')], by rw [List.map_append]; rfl, paired_snoc (h1.tk (TK.but Pa bb)) upd_same, by rw [List.map_append, h2, tk1]; rfl, fun f hf => ?_⟩ bb ?_
          · rcases List.mem_append.mp hf with hf | hf
            · exact h3 f hf
            · rw [List.mem_singleton.mp hf]
              exact ⟨l0', l1'⟩
          · exact (P7.ex ((Evl.Ex.new nt).trans (Evl.Ex.new nr))).le (by omega)
        · obtain ⟨bs, fs, rfl, h1, h2, h3⟩ := pa
          rw [List.length_map, les, List.take_length] at h2
          have lf : fs.length = es.length := by
            have := congrArg List.length h2
            rwa [List.length_map, List.length_map] at this
          exact hQ' _ _ ⟨D, bs, fs, rfl, hD, h1, net_tri net h2 h3, by omega, b7, P7.le (by rw [List.length_map]; omega), (P3.far nD).1⟩
      · rintro v H4 ⟨q4, bs, fs, rfl, h4, hbs, net4, l4, b4, P4, n4⟩
        have hna4 : H4 na = some (.lst (ns.map V.str)) := b4 _ _ fa hna
        refine ⟨.ref na, rfl, .ref q4, rfl, by simp [sizeLine_eq], fun t5 nt5 => ⟨t5, na, q4, [], ns, bs, fs, rfl, upd_same, Evl.Ex.new nt5 _ _ hna4, Evl.Ex.new nt5 _ _ h4, hbs.tk (TK.ex (Evl.Ex.new nt5)), net4, by omega, by omega, fun H5 e5' => ?_⟩⟩
        have e5 := (Evl.Ex.new nt5).trans e5'
        clear e5'
        refine g_name ?_
        dsimp only
        have P5 := P4.ex e5
        have hbs5 := hbs.tk (TK.ex e5)
        have lbs := hbs.len
        refine q_asgVia (fun v H' => ∃ (q : Addr) (cs : List Addr) (ks gs : List Eg), v = V.ref q ∧ H' q = some (.lst (cs.map V.ref)) ∧ EgsAt H' cs ks ∧ gs.Perm fs ∧ Paired Flip gs ks ∧ But p H5 H' ∧ Pen p c (11000 * i + 10100) H' ∧ q ≠ p) (fun Q' hQ' => ?_) ?_
        · refine ⟨.ref p, rfl, .ref q4, rfl, p, c, q4, _, _, rfl, P5, by omega, .inl (Evl.sq_of (e5 _ _ h4)), n4, by rw [List.length_map]; omega, fun q5 ys H6 pm nq5 b6 hq5 P6 => ?_⟩
          obtain ⟨ds, gs, rfl, hds, pg⟩ := perm_egs hbs5 pm
          have hds6 := hds.tk (TK.but P5 b6)
          have lds := hds.len
          have lgs := pg.length_eq
          refine ⟨q5, rfl, ⟨_, Evl.sq_of hq5⟩, lcL (K := K) (Q := Q') (p := p) (c := c) (n := 11000 * i + 10028) (kk := 2) (xs := ds.map V.ref) (fun j acc H' => ∃ (cs : List Addr) (ks : List Eg), acc = cs.map V.ref ∧ EgsAt H' cs ks ∧ Paired Flip (gs.take j) ks)
            (P6.le (by rw [List.length_map]; omega)) hq5 (P5.far nq5).1 (by rw [List.length_map]; omega) (fun _ _ => ⟨[], [], rfl, .nil, .nil⟩) ?hw (fun j acc D ys H' hq ⟨cs, ks, e, h1, h2⟩ => ⟨cs, ks, e, h1.tk (TK.put hq), h2⟩) (fun j x acc H' hx la pa ba Pa Q2 k => ?_) (fun D acc H7 nD la pa b7 hD P7 => ?_)⟩
          case hw => exact fun _ => rfl
          · obtain ⟨cs, ks, rfl, h1, h2⟩ := pa
            rw [List.getElem?_map] at hx
            obtain ⟨a', ha', rfl⟩ := Option.map_eq_some_iff.mp hx
            obtain ⟨⟨m, u, v, l⟩, hgi, hag⟩ := egs_get hds6 ha'
            have lj : j < gs.length := (List.getElem?_eq_some_iff.mp hgi).1
            have hae' : H' a' = some (.tup (egV (m, u, v, l))) := TK.but P6 ba _ _ hag
            refine ⟨.ref a', rfl, 1, rfl, a', egV (m, u, v, l), rfl, .inl (.inl hae'), fun z => absurd z.2 (by show ¬ (1 : Nat) = 4; decide), fun _ p1 np1 => ?_⟩
            have e1 : Evl.Ex H' (upd H' p1 (.tup (cutV (egV (m, u, v, l)) none (some 1)))) := Evl.Ex.new np1
            have h11 : (upd H' p1 (.tup (cutV (egV (m, u, v, l)) none (some 1)))) p1 = some (.tup [.str m]) := upd_same
            generalize (upd H' p1 (.tup (cutV (egV (m, u, v, l)) none (some 1)))) = G1 at e1 h11 ⊢
            refine ⟨.ref p, rfl, .ref a', rfl, 1, rfl, 3, rfl, a', egV (m, u, v, l), rfl, .inl (.inl (e1 _ _ hae')), fun z => absurd z.1 (by show ¬ (1 : Nat) = 0; decide), fun _ p2 np2 => ?_⟩
            have e2 : Evl.Ex G1 (upd G1 p2 (.tup (cutV (egV (m, u, v, l)) (some 1) (some 3)))) := Evl.Ex.new np2
            have h22 : (upd G1 p2 (.tup (cutV (egV (m, u, v, l)) (some 1) (some 3)))) p2 = some (.tup [.str u, .str v]) := upd_same
            generalize (upd G1 p2 (.tup (cutV (egV (m, u, v, l)) (some 1) (some 3)))) = G2 at e2 h22 ⊢
            have PG := (Pa.ex e1).ex e2
            have np1' : p1 ≠ p := (Pa.far np1).1
            have np2' : p2 ≠ p := ((Pa.ex e1).far np2).1
            refine ⟨p, c, p2, _, _, rfl, PG, by omega, .inr (Evl.st_of h22), np2', by simp, fun q7 zs G3 pm8 nq7 b8 hq7 P8 => ⟨q7, _, rfl, .inl ⟨Evl.sq_of hq7, fun tl ntl => ?_⟩⟩⟩
            have bg3 : But p H' (upd G3 tl (.tup zs)) := ((But.of (e1.trans e2)).trans b8).trans (But.of (Evl.Ex.new ntl))
            have h13 : (upd G3 tl (.tup zs)) p1 = some (.tup [.str m]) := Evl.Ex.new ntl _ _ (b8 _ _ np1' (e2 _ _ h11))
            have htl : (upd G3 tl (.tup zs)) tl = some (.tup zs) := upd_same
            have na' : a' ≠ p := fun z => by
              obtain ⟨_, _, _, hp, _⟩ := Pa
              rw [z, hp] at hae'
              exact nomatch hae'
            have ha3 := bg3 _ _ na' hae'
            have P9 := P8.ex (Evl.Ex.new (o := .tup zs) ntl)
            generalize (upd G3 tl (.tup zs)) = G4 at bg3 h13 htl ha3 P9 ⊢
            have lz := pm8.length_eq
            obtain ⟨u', v', rfl, hf⟩ : ∃ u' v', zs = [V.str u', V.str v'] ∧ (u' = u ∧ v' = v ∨ u' = v ∧ v' = u) := by
              rcases perm_two pm8 with rfl | rfl
              · exact ⟨_, _, rfl, .inl ⟨rfl, rfl⟩⟩
              · exact ⟨_, _, rfl, .inr ⟨rfl, rfl⟩⟩
            refine ⟨p1, tl, _, _, rfl, rfl, .inl (.inl h13), .inl (.inl htl), by simp, by simp [sizeLine_eq], fun z => absurd z (by simp), fun _ r nr => ?_⟩
            have er := Evl.Ex.new (o := .tup ([.str m] ++ [.str u', .str v'])) nr
            have hr5 : (upd G4 r (.tup ([.str m] ++ [.str u', .str v']))) r = some (.tup [.str m, .str u', .str v']) := upd_same
            generalize (upd G4 r (.tup ([.str m] ++ [.str u', .str v']))) = G5 at er hr5 ⊢
            refine ⟨.ref a', rfl, 3, rfl, a', egV (m, u, v, l), rfl, .inl (.inl (er _ _ ha3)), fun z => absurd z.1 (by show ¬ (3 : Nat) = 0; decide), fun _ p3 np3 => ?_⟩
            have e3 : Evl.Ex G5 (upd G5 p3 (.tup (cutV (egV (m, u, v, l)) (some 3) none))) := Evl.Ex.new np3
            have h33 : (upd G5 p3 (.tup (cutV (egV (m, u, v, l)) (some 3) none))) p3 = some (.tup [.int l]) := upd_same
            generalize (upd G5 p3 (.tup (cutV (egV (m, u, v, l)) (some 3) none))) = G6 at e3 h33 ⊢
            refine ⟨r, p3, _, _, rfl, rfl, .inl (.inl (e3 _ _ hr5)), .inl (.inl h33), by simp, by simp [sizeLine_eq], fun z => absurd z (by simp), fun _ r2 nr2 => ?_⟩
            have e46 := (er.trans e3).trans (Evl.Ex.new (o := .tup ([.str m, .str u', .str v'] ++ [.int l])) nr2)
            have bb : But p H' (upd G6 r2 (.tup ([.str m, .str u', .str v'] ++ [.int l]))) := bg3.trans (But.of e46)
            have tk1 : gs.take (j + 1) = gs.take j ++ [(m, u, v, l)] := by
              rw [List.take_add_one, hgi]
              rfl
            refine k _ _ ⟨cs ++ [r2], ks ++ [(m, u', v', l)], by rw [List.map_append]; rfl, paired_snoc (h1.tk (TK.but Pa bb)) upd_same, by rw [tk1]; exact paired_snoc h2 ⟨rfl, rfl, hf⟩⟩ bb ?_
            exact (P9.ex e46).le (by simp only [List.length_cons, List.length_nil]; omega)
          · obtain ⟨cs, ks, rfl, h1, h2⟩ := pa
            rw [List.length_map, lds, List.take_length] at h2
            exact hQ' _ _ ⟨D, cs, ks, gs, rfl, hD, h1, pg, h2, b6.trans b7, P7.le (by rw [List.length_map]; omega), (P6.far nD).1⟩
        · rintro v H6 ⟨q6, cs, ks, gs, rfl, h6, hcs, pg, hfl, b6, P6, n6⟩
          have lbs := hbs.len
          have netk : IsNet ns ks := net_flip (net_perm net4 pg) hfl
          have lks : ks.length ≤ 14 := by
            have := (flip_names hfl)
            have := congrArg List.length this
            rw [List.length_map, List.length_map, pg.length_eq] at this
            omega
          have nk : (ks.map norm).Perm (fs.map norm) := by
            rw [flip_norm hfl]
            exact pg.map norm
          have hna6 : H6 na = some (.lst (ns.map V.str)) := b6 _ _ fa (e5 _ _ hna4)
          have h46 : H6 q4 = some (.lst (bs.map V.ref)) := b6 _ _ n4 (e5 _ _ h4)
          have hbs6 : EgsAt H6 bs fs := hbs5.tk (TK.but P5 b6)
          -- what is kept
          refine Evl.q_asg (v := .str (netL ns ks).shown) (ev_reprL (Evl.ev_var rfl) (Evl.ev_var rfl) hna6 h6 hcs netk (by omega) (by omega)) fun H7 e7 => ?_
          have P7 := P6.ex e7
          -- the texts
          refine ⟨.ref p, rfl, .ref na, rfl, p, c, na, _, _, rfl, P7, by omega, .inl (Evl.sq_of (e7 _ _ hna6)), fa, by rw [List.length_map]; omega, fun q8 zs H8 pm8 nq8 b8 hq8 P8 => ?_⟩
          obtain ⟨ms, pms, rfl⟩ := perm_strs pm8
          have t1 : netText ms ks = netText ns fs := netText_eq net4 pms nk
          have t2 : netText ns ks = netText ns fs := netText_eq net4 (List.Perm.refl _) nk
          have tk68 : TK H6 H8 := (TK.ex e7).trans (TK.but P7 b8)
          refine ⟨.ref q6, rfl, q8, q6, ms, cs, ks, rfl, .inl (Evl.sq_of hq8), .inl (Evl.sq_of (b8 _ _ n6 (e7 _ _ h6))), hcs.tk tk68, net_permN pms netk, by rw [pms.length_eq]; omega, by omega, fun H9 e9 => ⟨.str (netText ns fs), rfl, rfl, _, rfl, ?_⟩⟩
          rw [t1, decide_eq_true rfl]
          refine ite2 (fun z => absurd z (by decide)) fun _ => ?_
          have hna9 : H9 na = some (.lst (ns.map V.str)) := e9 _ _ (b8 _ _ fa (e7 _ _ hna6))
          have h69 : H9 q6 = some (.lst (cs.map V.ref)) := e9 _ _ (b8 _ _ n6 (e7 _ _ h6))
          have tk69 : TK H6 H9 := tk68.trans (TK.ex e9)
          have P9 := P8.ex e9
          refine ⟨.ref na, rfl, na, _, rfl, .inl ⟨Evl.sq_of hna9, fun l1 nl1 => ⟨.ref q6, rfl, q6, _, rfl, .inl ⟨Evl.sq_of (Evl.Ex.new nl1 _ _ h69), fun l2 nl2 => ?_⟩⟩⟩⟩
          have e10 := (Evl.Ex.new (o := .tup (ns.map V.str)) nl1).trans (Evl.Ex.new (o := .tup (cs.map V.ref)) nl2)
          refine ⟨l1, l2, ns, cs, ks, rfl, .inr (Evl.st_of (Evl.Ex.new nl2 _ _ upd_same)), .inr (Evl.st_of upd_same), (hcs.tk tk69).tk (TK.ex e10), netk, by omega, by omega, fun H10 e10' => ⟨.str (netText ns fs), rfl, rfl, _, rfl, ?_⟩⟩
          rw [t2, decide_eq_true rfl]
          refine ite2 (fun z => absurd z (by decide)) fun _ => ?_
          have e910 := e10.trans e10'
          clear e10 e10'
          have P10 := P9.ex e910
          have tk6A : TK H6 H10 := tk69.trans (TK.ex e910)
          -- read
          refine ⟨.str (netText ns fs), rfl, ns, fs, rfl, net4, by omega, by omega, by omega, Few.small net4 (by omega), fun t8 a8 b8' bs8 H11 e11 nt8 na8 nb8 ht8 ha8 hb8 hbs8 => ?_⟩
          refine g_name ?_
          dsimp only
          have netc := net_canon net4
          have lcn : (srtN ns).length = ns.length := (srtN_perm ns).length_eq
          have lce : (srtE (fs.map norm)).length = fs.length := by rw [(srtE_perm _).length_eq, List.length_map]
          have e6B : Evl.Ex H9 H11 := e910.trans e11
          have P11 := P10.ex e11
          have hna11 := e6B _ _ hna9
          have h611 := e6B _ _ h69
          have hcs11 : EgsAt H11 cs ks := (hcs.tk tk69).tk (TK.ex e6B)
          obtain ⟨s1, s2, s3⟩ := sm_netU netc (by omega) (by omega)
          refine Evl.q_when (b := false) (Evl.et_is (Evl.et_or (Evl.et_test (Evl.ev_op (x := .str (netText ns fs)) (Evl.ev_call (vs := [.ref a8, .ref b8']) (Evl.ea_cons (Evl.ev_op (Evl.ev_var rfl) Evl.ev_c (Evl.rv_ixT (Evl.st_of ht8) rfl)) (Evl.ea_cons (Evl.ev_op (Evl.ev_var rfl) Evl.ev_c (Evl.rv_ixT (Evl.st_of ht8) rfl)) Evl.ea_nil)) fun H2 e2 Q2 q2 _ =>
            ⟨a8, b8', srtN ns, bs8, _, rfl, .inr (Evl.st_of (e2 _ _ ha8)), .inr (Evl.st_of (e2 _ _ hb8)), hbs8.tk (TK.ex e2), netc, by omega, by omega, fun H3 e3 => by rw [text_canon net4]; exact q2 H3 e3⟩) (Evl.ev_var rfl) (Evl.rv_ne rfl))) fun _ =>
            Evl.et_or (Evl.et_test (Evl.ev_op (ev_reprL (Evl.ev_var rfl) (Evl.ev_var rfl) hna11 h611 hcs11 netk (by omega) (by omega)) (Evl.ev_var rfl) (Evl.rv_ne rfl))) fun _ =>
            Evl.et_test (Evl.ev_op (x := .str (netU (srtN ns) (srtE (fs.map norm))).shown) (y := .str (netU (srtN ns) (srtE (fs.map norm))).shown) (fun H1 e Q1 q1 => ⟨.str (netText ns fs), rfl, ns, fs, rfl, net4, by omega, by omega, by omega, Few.small net4 (by omega), fun t a b bs H2 e2 _ _ _ ht ha hb hbs => ⟨t, _, rfl, rd_netU ht ha hb hbs, s1, s2, s3, q1 H2 e2⟩⟩)
              (fun H1 e Q1 q1 => ⟨.ref t8, rfl, t8, _, rfl, rd_netU (e _ _ ht8) (e _ _ ha8) (e _ _ hb8) (hbs8.tk (TK.ex e)), s1, s2, s3, q1 H1 (Evl.Ex.refl _)⟩) (Evl.rv_ne rfl))) ?_) (fun hb => absurd hb (by decide)) (fun hb H12 e12 => ?_)
          · rw [decide_eq_true rfl, decide_eq_true rfl, decide_eq_true rfl]
            rfl
          · have ht12 := e12 _ _ ht8
            refine ⟨.ref t8, rfl, t8, _, 0, _, rfl, rfl, .inl (.inl ht12), rfl, .ref t8, rfl, t8, _, 1, _, rfl, rfl, .inl (.inl ht12), rfl, fun x dx nx ndx nex => ?_⟩
            have em : Evl.Ex H12 (upd (upd H12 dx (.own x)) x (.ins C dx [])) := fun c u hc => by
              rw [upd_ne (ne_of_none hc nx), upd_ne (ne_of_none hc ndx)]
              exact hc
            refine ⟨x, dx, a8, b8', srtN ns, bs8, _, rfl, upd_same, .inr (em _ _ (e12 _ _ ha8)), .inr (em _ _ (e12 _ _ hb8)), (hbs8.tk (TK.ex e12)).tk (TK.ex em), netc, by omega, by omega, by omega, (Few.small net4 (by omega)).canon, fun H13 b13 N13 => ⟨rfl, ?_⟩⟩
            have e13 := ex_make nx ndx b13
            refine ⟨.ref na, rfl, .ref q4, rfl, fun y dy ny ndy ney => ?_⟩
            have e613 : ∀ {c' : Addr} {o : HO}, c' ≠ p → H6 c' = some o → H13 c' = some o := fun n h => e13 _ _ (e12 _ _ (e6B _ _ (e9 _ _ (b8 _ _ n (e7 _ _ h)))))
            have tk613 : TK H6 H13 := ((tk69.trans (TK.ex e6B)).trans (TK.ex e12)).trans (TK.ex e13)
            have em2 : Evl.Ex H13 (upd (upd H13 dy (.own y)) y (.ins C dy [])) := fun c u hc => by
              rw [upd_ne (ne_of_none hc ny), upd_ne (ne_of_none hc ndy)]
              exact hc
            refine ⟨y, dy, na, q4, ns, bs, fs, rfl, upd_same, .inl (em2 _ _ (e613 fa hna6)), .inl (em2 _ _ (e613 n4 h46)), (hbs6.tk tk613).tk (TK.ex em2), net4, by omega, by omega, by omega, Few.small net4 (by omega), fun H14 b14 N14 => ⟨rfl, ?_⟩⟩
            have e14 := ex_make ny ndy b14
            have N13' := N13.ex e14
            obtain ⟨c1, c2⟩ := canon_canon net4
            rw [c1, c2] at N13'
            have same : SameNet C x y H14 := ⟨_, _, netc.nm, nmEg_of netc, N13', N14⟩
            obtain ⟨ex', _, _, _, _, hx14, _⟩ := id N13'
            obtain ⟨ey', _, _, _, _, hy14, _⟩ := id N14
            refine ⟨⟨x, y, _, _, _, _, rfl, rfl, hx14, hy14, same⟩, fun H15 e15 => ⟨true, rfl, ?_⟩⟩
            refine ite2 (fun z => absurd z (by decide)) fun _ => ?_
            refine ⟨_, _, _, _, _, _, _, rfl, ?_⟩
            exact ((((P11.ex e12).ex e13).ex e14).ex e15).le (by rw [List.length_map]; omega)
    · exact Evl.s_ret Evl.ev_c fun H3 _ => q H3
end
end Lw

set_option maxHeartbeats 2000000
namespace Lw
open PySem PySem.Spec PyProof.Rows L2
theorem all_mk {l : PySem.W.OpenLaw} {w : World} {K : PySem.W.Frag} {h : Heap} {mg : Str → Option Value} {fa : Addr} (X : K.In h) (G : h.Ns mainGlobals mg) (hfa : mg "law" = some (.ref fa)) {f_law_pen f_law_draw f_law_pick f_law_shuffled f_law_names f_law_small f_law_text f_edge_in_order f_network_text f_odd_nodes f_negative_edges f_is_name f_can_be_node f_is_number f_is_whole f_is_length f_is_length_word f_can_be_edge f_read_parts f_checked_nodes f_is_edge f_checked_edges f_Network__init f_Network__eq f_law C : Addr} {t_LONGEST_NAME : Tok} {t_MAX_NODES : Tok} {t_MAX_LENGTH : Tok} {t_LONGEST_LENGTH : Tok} {t_MAX_EDGES : Tok} {t_MAX_ODD : Tok}
    (n_law_pen : PySem.W.nsIn K mainGlobals "_law_pen" = some (some (.ref f_law_pen))) (h_law_pen : FnIs K "_law_pen" "_law_pen" (top 37) f_law_pen)
    (n_law_draw : PySem.W.nsIn K mainGlobals "_law_draw" = some (some (.ref f_law_draw))) (h_law_draw : FnIs K "_law_draw" "_law_draw" (top 38) f_law_draw)
    (n_law_pick : PySem.W.nsIn K mainGlobals "_law_pick" = some (some (.ref f_law_pick))) (h_law_pick : FnIs K "_law_pick" "_law_pick" (top 39) f_law_pick)
    (n_law_shuffled : PySem.W.nsIn K mainGlobals "_law_shuffled" = some (some (.ref f_law_shuffled))) (h_law_shuffled : FnIs K "_law_shuffled" "_law_shuffled" (top 40) f_law_shuffled)
    (n_law_names : PySem.W.nsIn K mainGlobals "_law_names" = some (some (.ref f_law_names))) (h_law_names : FnIs K "_law_names" "_law_names" (top 41) f_law_names)
    (n_law_small : PySem.W.nsIn K mainGlobals "_law_small" = some (some (.ref f_law_small))) (h_law_small : FnIs K "_law_small" "_law_small" (top 42) f_law_small)
    (n_law_text : PySem.W.nsIn K mainGlobals "_law_text" = some (some (.ref f_law_text))) (h_law_text : FnIs K "_law_text" "_law_text" (top 43) f_law_text)
    (n_edge_in_order : PySem.W.nsIn K mainGlobals "edge_in_order" = some (some (.ref f_edge_in_order))) (h_edge_in_order : FnIs K "edge_in_order" "edge_in_order" (top 16) f_edge_in_order)
    (n_network_text : PySem.W.nsIn K mainGlobals "network_text" = some (some (.ref f_network_text))) (h_network_text : FnIs K "network_text" "network_text" (top 23) f_network_text)
    (n_odd_nodes : PySem.W.nsIn K mainGlobals "odd_nodes" = some (some (.ref f_odd_nodes))) (h_odd_nodes : FnIs K "odd_nodes" "odd_nodes" (top 20) f_odd_nodes)
    (n_negative_edges : PySem.W.nsIn K mainGlobals "negative_edges" = some (some (.ref f_negative_edges))) (h_negative_edges : FnIs K "negative_edges" "negative_edges" (top 19) f_negative_edges)
    (n_is_name : PySem.W.nsIn K mainGlobals "is_name" = some (some (.ref f_is_name))) (h_is_name : FnIs K "is_name" "is_name" (top 14) f_is_name)
    (n_can_be_node : PySem.W.nsIn K mainGlobals "_can_be_node" = some (some (.ref f_can_be_node))) (h_can_be_node : FnIs K "_can_be_node" "_can_be_node" (top 26) f_can_be_node)
    (n_is_number : PySem.W.nsIn K mainGlobals "is_number" = some (some (.ref f_is_number))) (h_is_number : FnIs K "is_number" "is_number" (top 25) f_is_number)
    (n_is_whole : PySem.W.nsIn K mainGlobals "is_whole" = some (some (.ref f_is_whole))) (h_is_whole : FnIs K "is_whole" "is_whole" (top 13) f_is_whole)
    (n_is_length : PySem.W.nsIn K mainGlobals "is_length" = some (some (.ref f_is_length))) (h_is_length : FnIs K "is_length" "is_length" (top 15) f_is_length)
    (n_is_length_word : PySem.W.nsIn K mainGlobals "_is_length_word" = some (some (.ref f_is_length_word))) (h_is_length_word : FnIs K "_is_length_word" "_is_length_word" (top 28) f_is_length_word)
    (n_can_be_edge : PySem.W.nsIn K mainGlobals "_can_be_edge" = some (some (.ref f_can_be_edge))) (h_can_be_edge : FnIs K "_can_be_edge" "_can_be_edge" (top 27) f_can_be_edge)
    (n_read_parts : PySem.W.nsIn K mainGlobals "read_parts" = some (some (.ref f_read_parts))) (h_read_parts : FnIs K "read_parts" "read_parts" (top 24) f_read_parts)
    (n_checked_nodes : PySem.W.nsIn K mainGlobals "checked_nodes" = some (some (.ref f_checked_nodes))) (h_checked_nodes : FnIs K "checked_nodes" "checked_nodes" (top 30) f_checked_nodes)
    (n_is_edge : PySem.W.nsIn K mainGlobals "_is_edge" = some (some (.ref f_is_edge))) (h_is_edge : FnIs K "_is_edge" "_is_edge" (top 32) f_is_edge)
    (n_checked_edges : PySem.W.nsIn K mainGlobals "checked_edges" = some (some (.ref f_checked_edges))) (h_checked_edges : FnIs K "checked_edges" "checked_edges" (top 31) f_checked_edges)
    (n_law : PySem.W.nsIn K mainGlobals "law" = some (some (.ref f_law))) (h_law : FnIs K "law" "law" (top 44) f_law)
    (v_LONGEST_NAME : PySem.W.nsIn K mainGlobals "LONGEST_NAME" = some (some (.int 8 t_LONGEST_NAME)))
    (v_MAX_NODES : PySem.W.nsIn K mainGlobals "MAX_NODES" = some (some (.int 40 t_MAX_NODES)))
    (v_MAX_LENGTH : PySem.W.nsIn K mainGlobals "MAX_LENGTH" = some (some (.int 1000000 t_MAX_LENGTH)))
    (v_LONGEST_LENGTH : PySem.W.nsIn K mainGlobals "LONGEST_LENGTH" = some (some (.int 8 t_LONGEST_LENGTH)))
    (v_MAX_EDGES : PySem.W.nsIn K mainGlobals "MAX_EDGES" = some (some (.int 100 t_MAX_EDGES)))
    (v_MAX_ODD : PySem.W.nsIn K mainGlobals "MAX_ODD" = some (some (.int 10 t_MAX_ODD)))
    (b_len : PySem.W.nsIn K mainGlobals "len" = some none)
    (b_abs : PySem.W.nsIn K mainGlobals "abs" = some none)
    (b_range : PySem.W.nsIn K mainGlobals "range" = some none)
    (b_list : PySem.W.nsIn K mainGlobals "list" = some none)
    (b_tuple : PySem.W.nsIn K mainGlobals "tuple" = some none)
    (b_int : PySem.W.nsIn K mainGlobals "int" = some none)
    (b_min : PySem.W.nsIn K mainGlobals "min" = some none)
    (b_max : PySem.W.nsIn K mainGlobals "max" = some none)
    (b_sorted : PySem.W.nsIn K mainGlobals "sorted" = some none)
    (b_str : PySem.W.nsIn K mainGlobals "str" = some none)
    (b_repr : PySem.W.nsIn K mainGlobals "repr" = some none)
    (b_isinstance : PySem.W.nsIn K mainGlobals "isinstance" = some none)
    (b_bool : PySem.W.nsIn K mainGlobals "bool" = some none)
    (b_enumerate : PySem.W.nsIn K mainGlobals "enumerate" = some none)
    (b_zip : PySem.W.nsIn K mainGlobals "zip" = some none)
    (b_dict : PySem.W.nsIn K mainGlobals "dict" = some none)
    (b_set : PySem.W.nsIn K mainGlobals "set" = some none)
    (b_any : PySem.W.nsIn K mainGlobals "any" = some none)
    (b_all : PySem.W.nsIn K mainGlobals "all" = some none)
    (b_sum : PySem.W.nsIn K mainGlobals "sum" = some none)
    (b_type : PySem.W.nsIn K mainGlobals "type" = some none)
    (kss : PySem.W.kitOne K (.type "str") (.type "str") = some true)
    (kii : PySem.W.kitOne K (.type "int") (.type "int") = some true)
    (kib : PySem.W.kitOne K (.type "int") (.type "bool") = some false)
    (kl : PySem.W.kitAny K (.type "list") [.type "list", .type "tuple"] = some true)
    (kt : PySem.W.kitAny K (.type "tuple") [.type "list", .type "tuple"] = some true)
    (ktt : PySem.W.kitOne K (.type "tuple") (.type "tuple") = some true)
    (n_C : PySem.W.nsIn K mainGlobals "Network" = some (some (.ref C)))
    (pg : PySem.W.plainGet K C Str.empty = true)
    (hd : PySem.W.hasDictIn K C = true)
    (po : PySem.W.plainOver K C = true)
    (sa : PySem.W.findIn K (.ref C) "__setattr__" = some (some (.builtin "object.__setattr__")))
    (a1 : PySem.W.findIn K (.ref C) "_nodes" = some none)
    (a2 : PySem.W.findIn K (.ref C) "_edges" = some none)
    (a3 : PySem.W.findIn K (.ref C) "_by_name" = some none)
    (mk : PySem.W.makesIn K C = true)
    (ini : PySem.W.findIn K (.ref C) "__init__" = some (some (.ref f_Network__init)))
    (ifn : PySem.W.isFn K (.ref f_Network__init) = true)
    (kc : PySem.W.keepIn K (.ref C) = true)
    (eqs : PySem.W.findIn K (.ref C) "__eq__" = some (some (.ref f_Network__eq)))
    (efn : PySem.W.isFn K (.ref f_Network__eq) = true)
    (ha : PySem.W.findIn K (.ref C) "__class__" = some (some (.builtin "object.__class__")))
    (hn : PySem.W.specialIn K (.builtin "object.__class__") "__get__" = some (some (.builtin "getset_descriptor.__get__")))
    (htk : PySem.W.takesIn K (.builtin "object.__class__") = some true)
    (hmo : PySem.W.mroIn K C (.type "object") = some true)
    (me : PySem.W.kitOne K (.ref C) (.ref C) = some true)
    (h_Network__init : FnIs1 K "__init__" "Network.__init__" (inClass (top 35) 3) f_Network__init)
    (h_Network__eq : FnIs K "__eq__" "Network.__eq__" (inClass (top 35) 16) f_Network__eq)
    : ∃ fd : FuncData, (∀ (s : Shared) (v : Value), BindsTo s fd ⟨[v], []⟩ [("_law_script", v)]) ∧ ∀ base : Heap, K.In base → base.Ns mainGlobals mg → Gd.HasMods base → Gd.FnG l.prog w K mg base CX0 7 fa fd ["_law_script"] (spLaw K) := by
  have e := hfa.symm.trans (PySem.W.mg_of X G n_law)
  cases e
  have T : Bs mg bl := ⟨fun x hx => by
    have hx : x ∈ (["len", "abs", "range", "list", "tuple", "int", "min", "max", "sorted", "str", "repr", "isinstance", "bool", "enumerate", "zip", "dict", "set", "any", "all", "sum", "type"] : List Str) := hx
    simp only [List.mem_cons, List.mem_nil_iff, or_false] at hx
    rcases hx with rfl | rfl | rfl | rfl | rfl | rfl | rfl | rfl | rfl | rfl | rfl | rfl | rfl | rfl | rfl | rfl | rfl | rfl | rfl | rfl | rfl
    · exact PySem.W.mg_none_of X G b_len
    · exact PySem.W.mg_none_of X G b_abs
    · exact PySem.W.mg_none_of X G b_range
    · exact PySem.W.mg_none_of X G b_list
    · exact PySem.W.mg_none_of X G b_tuple
    · exact PySem.W.mg_none_of X G b_int
    · exact PySem.W.mg_none_of X G b_min
    · exact PySem.W.mg_none_of X G b_max
    · exact PySem.W.mg_none_of X G b_sorted
    · exact PySem.W.mg_none_of X G b_str
    · exact PySem.W.mg_none_of X G b_repr
    · exact PySem.W.mg_none_of X G b_isinstance
    · exact PySem.W.mg_none_of X G b_bool
    · exact PySem.W.mg_none_of X G b_enumerate
    · exact PySem.W.mg_none_of X G b_zip
    · exact PySem.W.mg_none_of X G b_dict
    · exact PySem.W.mg_none_of X G b_set
    · exact PySem.W.mg_none_of X G b_any
    · exact PySem.W.mg_none_of X G b_all
    · exact PySem.W.mg_none_of X G b_sum
    · exact PySem.W.mg_none_of X G b_type⟩
  obtain ⟨d_law_pen, G_law_pen⟩ := h_law_pen.fn
  have b_fn_law_pen := G_law_pen.binds (ps := ["_law_script"]) fun _ _ _ _ _ _ us hl => match us, hl with | [_], _ => rfl
  obtain ⟨d_law_draw, G_law_draw⟩ := h_law_draw.fn
  have b_fn_law_draw := G_law_draw.binds (ps := ["_law_pen_here", "_law_many"]) fun _ _ _ _ _ _ us hl => match us, hl with | [_, _], _ => rfl
  obtain ⟨d_law_pick, G_law_pick⟩ := h_law_pick.fn
  have b_fn_law_pick := G_law_pick.binds (ps := ["_law_pen_here", "_law_options"]) fun _ _ _ _ _ _ us hl => match us, hl with | [_, _], _ => rfl
  obtain ⟨d_law_shuffled, G_law_shuffled⟩ := h_law_shuffled.fn
  have b_fn_law_shuffled := G_law_shuffled.binds (ps := ["_law_pen_here", "_law_items"]) fun _ _ _ _ _ _ us hl => match us, hl with | [_, _], _ => rfl
  obtain ⟨d_law_names, G_law_names⟩ := h_law_names.fn
  have b_fn_law_names := G_law_names.binds (ps := ["_law_pen_here", "_law_many"]) fun _ _ _ _ _ _ us hl => match us, hl with | [_, _], _ => rfl
  obtain ⟨d_law_small, G_law_small⟩ := h_law_small.fn
  have b_fn_law_small := G_law_small.binds (ps := ["_law_pen_here", "_law_least", "_law_most", "_law_wide"]) fun _ _ _ _ _ _ us hl => match us, hl with | [_, _, _, _], _ => rfl
  obtain ⟨d_law_text, G_law_text⟩ := h_law_text.fn
  have b_fn_law_text := G_law_text.binds (ps := ["_law_plain"]) fun _ _ _ _ _ _ us hl => match us, hl with | [_], _ => rfl
  obtain ⟨d_edge_in_order, G_edge_in_order⟩ := h_edge_in_order.fn
  have b_fn_edge_in_order := G_edge_in_order.binds (ps := ["edge"]) fun _ _ _ _ _ _ us hl => match us, hl with | [_], _ => rfl
  obtain ⟨d_network_text, G_network_text⟩ := h_network_text.fn
  have b_fn_network_text := G_network_text.binds (ps := ["nodes", "edges"]) fun _ _ _ _ _ _ us hl => match us, hl with | [_, _], _ => rfl
  obtain ⟨d_odd_nodes, G_odd_nodes⟩ := h_odd_nodes.fn
  have b_fn_odd_nodes := G_odd_nodes.binds (ps := ["edges"]) fun _ _ _ _ _ _ us hl => match us, hl with | [_], _ => rfl
  obtain ⟨d_negative_edges, G_negative_edges⟩ := h_negative_edges.fn
  have b_fn_negative_edges := G_negative_edges.binds (ps := ["edges"]) fun _ _ _ _ _ _ us hl => match us, hl with | [_], _ => rfl
  obtain ⟨d_is_name, G_is_name⟩ := h_is_name.fn
  have b_fn_is_name := G_is_name.binds (ps := ["value"]) fun _ _ _ _ _ _ us hl => match us, hl with | [_], _ => rfl
  obtain ⟨d_can_be_node, G_can_be_node⟩ := h_can_be_node.fn
  have b_fn_can_be_node := G_can_be_node.binds (ps := ["words", "nodes", "edges"]) fun _ _ _ _ _ _ us hl => match us, hl with | [_, _, _], _ => rfl
  obtain ⟨d_is_number, G_is_number⟩ := h_is_number.fn
  have b_fn_is_number := G_is_number.binds (ps := ["word"]) fun _ _ _ _ _ _ us hl => match us, hl with | [_], _ => rfl
  obtain ⟨d_is_whole, G_is_whole⟩ := h_is_whole.fn
  have b_fn_is_whole := G_is_whole.binds (ps := ["value"]) fun _ _ _ _ _ _ us hl => match us, hl with | [_], _ => rfl
  obtain ⟨d_is_length, G_is_length⟩ := h_is_length.fn
  have b_fn_is_length := G_is_length.binds (ps := ["value"]) fun _ _ _ _ _ _ us hl => match us, hl with | [_], _ => rfl
  obtain ⟨d_is_length_word, G_is_length_word⟩ := h_is_length_word.fn
  have b_fn_is_length_word := G_is_length_word.binds (ps := ["word"]) fun _ _ _ _ _ _ us hl => match us, hl with | [_], _ => rfl
  obtain ⟨d_can_be_edge, G_can_be_edge⟩ := h_can_be_edge.fn
  have b_fn_can_be_edge := G_can_be_edge.binds (ps := ["words", "nodes", "edges"]) fun _ _ _ _ _ _ us hl => match us, hl with | [_, _, _], _ => rfl
  obtain ⟨d_read_parts, G_read_parts⟩ := h_read_parts.fn
  have b_fn_read_parts := G_read_parts.binds (ps := ["text"]) fun _ _ _ _ _ _ us hl => match us, hl with | [_], _ => rfl
  obtain ⟨d_checked_nodes, G_checked_nodes⟩ := h_checked_nodes.fn
  have b_fn_checked_nodes := G_checked_nodes.binds (ps := ["nodes"]) fun _ _ _ _ _ _ us hl => match us, hl with | [_], _ => rfl
  obtain ⟨d_is_edge, G_is_edge⟩ := h_is_edge.fn
  have b_fn_is_edge := G_is_edge.binds (ps := ["nodes", "value"]) fun _ _ _ _ _ _ us hl => match us, hl with | [_, _], _ => rfl
  obtain ⟨d_checked_edges, G_checked_edges⟩ := h_checked_edges.fn
  have b_fn_checked_edges := G_checked_edges.binds (ps := ["nodes", "edges"]) fun _ _ _ _ _ _ us hl => match us, hl with | [_, _], _ => rfl
  obtain ⟨d_Network__init, E_Network__init, G_Network__init⟩ := h_Network__init.fn
  obtain ⟨ds_Network__init, vd_Network__init, b_fn_Network__init⟩ := G_Network__init.binds1 (ps := ["self", "nodes", "edges"]) 3 1 (by simp) rfl fun T kV doc pm an cdv ct us its l1 l2 => ⟨_, rfl, match us, l1, its, l2 with | [_, _, _], _, [_], _ => rfl⟩
  cases vd_Network__init
  obtain ⟨d_Network__eq, G_Network__eq⟩ := h_Network__eq.fn
  have b_fn_Network__eq := G_Network__eq.binds (ps := ["self", "other"]) fun _ _ _ _ _ _ us hl => match us, hl with | [_, _], _ => rfl
  obtain ⟨d_law, G_law⟩ := h_law.fn
  have b_fn_law := G_law.binds (ps := ["_law_script"]) fun _ _ _ _ _ _ us hl => match us, hl with | [_], _ => rfl
  obtain ⟨oc, od, kV, doc, pm, an, cdv, ct, osl, el, lk, hcd⟩ := G_law.ex
  refine ⟨d_law, fun s v => ?_, fun base inB nsB hm => ?_⟩
  · rw [el]
    exact .of_eq rfl
  have N : NwT K C := ⟨⟨pg, hd, po, sa⟩, a1, a2, a3⟩
  have gC := PySem.W.mg_of X G n_C
  have I_Network : C8.InsC K C := ⟨N.cl, ha, hn, htk, hmo, me⟩
  have M_Network : Mk K C f_Network__init := ⟨mk, ini, ifn, kc⟩
  have K_law_pen := cf_mk X G n_law_pen G_law_pen b_fn_law_pen (ok_pen (P := l.prog) (w := w) (base := base) (k := 0) G_law_pen T)
  have K_law_draw := cf_mk X G n_law_draw G_law_draw b_fn_law_draw (ok_draw (P := l.prog) (w := w) (base := base) (k := 0) G_law_draw T)
  have K_law_pick := cf_mk X G n_law_pick G_law_pick b_fn_law_pick (ok_pick (P := l.prog) (w := w) (base := base) (k := 1) G_law_pick T (K_law_draw.up (by decide)))
  have K_law_shuffled := cf_mk X G n_law_shuffled G_law_shuffled b_fn_law_shuffled (ok_shuffled (P := l.prog) (w := w) (base := base) (k := 1) G_law_shuffled T (K_law_draw.up (by decide)))
  have K_law_names := cf_mk X G n_law_names G_law_names b_fn_law_names (ok_names (P := l.prog) (w := w) (base := base) (k := 2) G_law_names T (K_law_draw.up (by decide)) (K_law_pick.up (by decide)))
  have K_law_small := cf_mk X G n_law_small G_law_small b_fn_law_small (ok_small (P := l.prog) (w := w) (base := base) (k := 3) G_law_small T (K_law_draw.up (by decide)) (K_law_pick.up (by decide)) (K_law_names.up (by decide)) (K_law_shuffled.up (by decide)))
  have K_law_text := cf_mk X G n_law_text G_law_text b_fn_law_text (ok_ltext (P := l.prog) (w := w) (base := base) (k := 0) G_law_text T)
  have K_edge_in_order := cf_mk X G n_edge_in_order G_edge_in_order b_fn_edge_in_order (ok_ord (P := l.prog) (w := w) (base := base) (k := 0) G_edge_in_order T)
  have K_network_text := cf_mk X G n_network_text G_network_text b_fn_network_text (ok_ntext (P := l.prog) (w := w) (base := base) (k := 1) G_network_text T (K_edge_in_order.up (by decide)))
  have K_odd_nodes := cf_mk X G n_odd_nodes G_odd_nodes b_fn_odd_nodes (ok_odd (P := l.prog) (w := w) (base := base) (k := 0) G_odd_nodes T)
  have K_negative_edges := cf_mk X G n_negative_edges G_negative_edges b_fn_negative_edges (ok_neg (P := l.prog) (w := w) (base := base) (k := 0) G_negative_edges T)
  have K_is_name := cf_mk X G n_is_name G_is_name b_fn_is_name (ok_isname (P := l.prog) (w := w) (base := base) (k := 0) G_is_name T (PySem.W.mg_of X G v_LONGEST_NAME) ⟨_, rfl⟩ kss)
  have K_can_be_node := cf_mk X G n_can_be_node G_can_be_node b_fn_can_be_node (ok_canNode (P := l.prog) (w := w) (base := base) (k := 1) G_can_be_node T (PySem.W.mg_of X G v_MAX_NODES) ⟨_, rfl⟩ (K_is_name.up (by decide)))
  have K_is_number := cf_mk X G n_is_number G_is_number b_fn_is_number (ok_isnumber (P := l.prog) (w := w) (base := base) (k := 0) G_is_number T)
  have K_is_whole := cf_mk X G n_is_whole G_is_whole b_fn_is_whole (ok_iswhole (P := l.prog) (w := w) (base := base) (k := 0) G_is_whole T)
  have K_is_length := cf_mk X G n_is_length G_is_length b_fn_is_length (ok_islength (P := l.prog) (w := w) (base := base) (k := 1) G_is_length T (PySem.W.mg_of X G v_MAX_LENGTH) ⟨_, rfl⟩ (K_is_whole.up (by decide)) kii kib)
  have K_is_length_word := cf_mk X G n_is_length_word G_is_length_word b_fn_is_length_word (ok_lword (P := l.prog) (w := w) (base := base) (k := 2) G_is_length_word T (PySem.W.mg_of X G v_LONGEST_LENGTH) ⟨_, rfl⟩ (K_is_number.up (by decide)) (K_is_length.up (by decide)))
  have K_can_be_edge := cf_mk X G n_can_be_edge G_can_be_edge b_fn_can_be_edge (ok_canEdge (P := l.prog) (w := w) (base := base) (k := 3) G_can_be_edge T (PySem.W.mg_of X G v_MAX_EDGES) ⟨_, rfl⟩ (K_is_name.up (by decide)) (K_is_length_word.up (by decide)))
  have K_read_parts := cf_mk X G n_read_parts G_read_parts b_fn_read_parts (ok_read (P := l.prog) (w := w) (base := base) (k := 4) G_read_parts T (PySem.W.mg_of X G v_MAX_ODD) ⟨_, rfl⟩ kss (K_odd_nodes.up (by decide)) (K_negative_edges.up (by decide)) (K_can_be_node.up (by decide)) (K_can_be_edge.up (by decide)))
  have K_checked_nodes := cf_mk X G n_checked_nodes G_checked_nodes b_fn_checked_nodes (ok_chnodes (P := l.prog) (w := w) (base := base) (k := 1) G_checked_nodes T (PySem.W.mg_of X G v_MAX_NODES) ⟨_, rfl⟩ kl kt (K_is_name.up (by decide)))
  have K_is_edge := cf_mk X G n_is_edge G_is_edge b_fn_is_edge (ok_isedge (P := l.prog) (w := w) (base := base) (k := 2) G_is_edge T ktt (K_is_name.up (by decide)) (K_is_length.up (by decide)))
  have K_checked_edges := cf_mk X G n_checked_edges G_checked_edges b_fn_checked_edges (ok_chedges (P := l.prog) (w := w) (base := base) (k := 3) G_checked_edges T (PySem.W.mg_of X G v_MAX_EDGES) ⟨_, rfl⟩ (PySem.W.mg_of X G v_MAX_ODD) ⟨_, rfl⟩ kl kt (K_is_edge.up (by decide)) (K_edge_in_order.up (by decide)) (K_odd_nodes.up (by decide)) (K_negative_edges.up (by decide)))
  have O_Network__init := ok_init (P := l.prog) (w := w) (base := base) (k := 4) G_Network__init T N (K_checked_nodes.up (by decide)) (K_checked_edges.up (by decide))
  have O_Network__eq := ok_eq (P := l.prog) (w := w) (base := base) (k := 0) G_Network__eq T N I_Network gC rfl
  exact ok_law (P := l.prog) (w := w) (base := base) (k := 5) G_law T hm gC (K_law_pen.up (by decide)) (K_law_pick.up (by decide)) (K_law_shuffled.up (by decide)) (K_law_small.up (by decide)) (K_law_text.up (by decide)) (K_network_text.up (by decide)) (K_read_parts.up (by decide)) M_Network (O_Network__init.mono (by decide)) b_fn_Network__init (O_Network__eq.mono (by decide)) eqs efn b_fn_Network__eq
end Lw

open PySem PySem.W PyProof.Rows
set_option maxRecDepth 100000 in
set_option maxHeartbeats 0 in
theorem PySem.Challenge.cw_lendroads_k71_parts_of_texts_holds : PySem.Challenge.rw_lendroads_k71_parts_of_texts.Holds := by
  w_on; o_law; k_head; (case hw => w_witness2)
  k_fill
  refine Gd.walkG (l := PySem.Challenge.rw_lendroads_k71_parts_of_texts) (n := 63) (k := 7) (x := "_law_script") (CX := fun _ => L2.CX0) (sp := fun w => Lw.spLaw _) rfl (by decide) rfl ⟨rfl, by decide, by decide⟩ (by decide +kernel) (fun w h Y => PySem.W.kIn_of Y) ?F
    (fun w H a ns hl _ hS => ⟨a, ns, rfl, hS, hl, fun _ => rfl⟩) (fun _ _ _ _ _ z => z)
  case F =>
    intro w mg fa h KX G hmg
    refine' Lw.all_mk KX G hmg ?n_law_pen ?h_law_pen ?n_law_draw ?h_law_draw ?n_law_pick ?h_law_pick ?n_law_shuffled ?h_law_shuffled ?n_law_names ?h_law_names ?n_law_small ?h_law_small ?n_law_text ?h_law_text ?n_edge_in_order ?h_edge_in_order ?n_network_text ?h_network_text ?n_odd_nodes ?h_odd_nodes ?n_negative_edges ?h_negative_edges ?n_is_name ?h_is_name ?n_can_be_node ?h_can_be_node ?n_is_number ?h_is_number ?n_is_whole ?h_is_whole ?n_is_length ?h_is_length ?n_is_length_word ?h_is_length_word ?n_can_be_edge ?h_can_be_edge ?n_read_parts ?h_read_parts ?n_checked_nodes ?h_checked_nodes ?n_is_edge ?h_is_edge ?n_checked_edges ?h_checked_edges ?n_law ?h_law ?v_LONGEST_NAME ?v_MAX_NODES ?v_MAX_LENGTH ?v_LONGEST_LENGTH ?v_MAX_EDGES ?v_MAX_ODD ?b_len ?b_abs ?b_range ?b_list ?b_tuple ?b_int ?b_min ?b_max ?b_sorted ?b_str ?b_repr ?b_isinstance ?b_bool ?b_enumerate ?b_zip ?b_dict ?b_set ?b_any ?b_all ?b_sum ?b_type ?kss ?kii ?kib ?kl ?kt ?ktt ?n_C ?pg ?hd ?po ?sa ?a1 ?a2 ?a3 ?mk ?ini ?ifn ?kc ?eqs ?efn ?ha ?hn ?htk ?hmo ?me ?h_Network__init ?h_Network__eq
    (case n_law_pen => k_is)
    (case h_law_pen => refine' Lw.fnIs ?l ?c ?k; (case l => k_is); (case c => k_is); (case k => k_is))
    (case n_law_draw => k_is)
    (case h_law_draw => refine' Lw.fnIs ?l ?c ?k; (case l => k_is); (case c => k_is); (case k => k_is))
    (case n_law_pick => k_is)
    (case h_law_pick => refine' Lw.fnIs ?l ?c ?k; (case l => k_is); (case c => k_is); (case k => k_is))
    (case n_law_shuffled => k_is)
    (case h_law_shuffled => refine' Lw.fnIs ?l ?c ?k; (case l => k_is); (case c => k_is); (case k => k_is))
    (case n_law_names => k_is)
    (case h_law_names => refine' Lw.fnIs ?l ?c ?k; (case l => k_is); (case c => k_is); (case k => k_is))
    (case n_law_small => k_is)
    (case h_law_small => refine' Lw.fnIs ?l ?c ?k; (case l => k_is); (case c => k_is); (case k => k_is))
    (case n_law_text => k_is)
    (case h_law_text => refine' Lw.fnIs ?l ?c ?k; (case l => k_is); (case c => k_is); (case k => k_is))
    (case n_edge_in_order => k_is)
    (case h_edge_in_order => refine' Lw.fnIs ?l ?c ?k; (case l => k_is); (case c => k_is); (case k => k_is))
    (case n_network_text => k_is)
    (case h_network_text => refine' Lw.fnIs ?l ?c ?k; (case l => k_is); (case c => k_is); (case k => k_is))
    (case n_odd_nodes => k_is)
    (case h_odd_nodes => refine' Lw.fnIs ?l ?c ?k; (case l => k_is); (case c => k_is); (case k => k_is))
    (case n_negative_edges => k_is)
    (case h_negative_edges => refine' Lw.fnIs ?l ?c ?k; (case l => k_is); (case c => k_is); (case k => k_is))
    (case n_is_name => k_is)
    (case h_is_name => refine' Lw.fnIs ?l ?c ?k; (case l => k_is); (case c => k_is); (case k => k_is))
    (case n_can_be_node => k_is)
    (case h_can_be_node => refine' Lw.fnIs ?l ?c ?k; (case l => k_is); (case c => k_is); (case k => k_is))
    (case n_is_number => k_is)
    (case h_is_number => refine' Lw.fnIs ?l ?c ?k; (case l => k_is); (case c => k_is); (case k => k_is))
    (case n_is_whole => k_is)
    (case h_is_whole => refine' Lw.fnIs ?l ?c ?k; (case l => k_is); (case c => k_is); (case k => k_is))
    (case n_is_length => k_is)
    (case h_is_length => refine' Lw.fnIs ?l ?c ?k; (case l => k_is); (case c => k_is); (case k => k_is))
    (case n_is_length_word => k_is)
    (case h_is_length_word => refine' Lw.fnIs ?l ?c ?k; (case l => k_is); (case c => k_is); (case k => k_is))
    (case n_can_be_edge => k_is)
    (case h_can_be_edge => refine' Lw.fnIs ?l ?c ?k; (case l => k_is); (case c => k_is); (case k => k_is))
    (case n_read_parts => k_is)
    (case h_read_parts => refine' Lw.fnIs ?l ?c ?k; (case l => k_is); (case c => k_is); (case k => k_is))
    (case n_checked_nodes => k_is)
    (case h_checked_nodes => refine' Lw.fnIs ?l ?c ?k; (case l => k_is); (case c => k_is); (case k => k_is))
    (case n_is_edge => k_is)
    (case h_is_edge => refine' Lw.fnIs ?l ?c ?k; (case l => k_is); (case c => k_is); (case k => k_is))
    (case n_checked_edges => k_is)
    (case h_checked_edges => refine' Lw.fnIs ?l ?c ?k; (case l => k_is); (case c => k_is); (case k => k_is))
    (case n_law => k_is)
    (case h_law => refine' Lw.fnIs ?l ?c ?k; (case l => k_is); (case c => k_is); (case k => k_is))
    (case v_LONGEST_NAME => k_is)
    (case v_MAX_NODES => k_is)
    (case v_MAX_LENGTH => k_is)
    (case v_LONGEST_LENGTH => k_is)
    (case v_MAX_EDGES => k_is)
    (case v_MAX_ODD => k_is)
    (case b_len => k_is)
    (case b_abs => k_is)
    (case b_range => k_is)
    (case b_list => k_is)
    (case b_tuple => k_is)
    (case b_int => k_is)
    (case b_min => k_is)
    (case b_max => k_is)
    (case b_sorted => k_is)
    (case b_str => k_is)
    (case b_repr => k_is)
    (case b_isinstance => k_is)
    (case b_bool => k_is)
    (case b_enumerate => k_is)
    (case b_zip => k_is)
    (case b_dict => k_is)
    (case b_set => k_is)
    (case b_any => k_is)
    (case b_all => k_is)
    (case b_sum => k_is)
    (case b_type => k_is)
    (case kss => kernel_rfl)
    (case kii => kernel_rfl)
    (case kib => kernel_rfl)
    (case kl => kernel_rfl)
    (case kt => kernel_rfl)
    (case ktt => kernel_rfl)
    (case n_C => k_is)
    (case pg => k_is)
    (case hd => k_is)
    (case po => k_is)
    (case sa => k_is)
    (case a1 => k_is)
    (case a2 => k_is)
    (case a3 => k_is)
    (case mk => k_is)
    (case ini => k_is)
    (case ifn => k_is)
    (case kc => k_is)
    (case eqs => k_is)
    (case efn => k_is)
    (case ha => k_is)
    (case hn => k_is)
    (case htk => k_is)
    (case hmo => kernel_rfl)
    (case me => kernel_rfl)
    (case h_Network__init => refine' Lw.fnIs1 ?l ?lT ?c ?k; (case l => k_is); (case lT => k_is); (case c => k_is); (case k => k_is))
    (case h_Network__eq => refine' Lw.fnIs ?l ?c ?k; (case l => k_is); (case c => k_is); (case k => k_is))

