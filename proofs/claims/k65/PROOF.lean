import PyProof.Rows.All
import Wide.All
import OpenK.AllK
import Wide.FinOn
import PyProof.EqAt
import PyProof.EqKinds
import PyProof.TupleCall
import PyProof.NeKinds
import PyProof.TwoTypesSub
import HandS.Base
import HandS.Call
import HandS.List
import KE.KOpsOwn
import PyProof.ReprRoads
import PyProof.AutoIntOps
import HandS.Words
import HandS.Ends
import HandS.Comp
import HandS.Lambda
import HandS.Exc
import HandS.ExcInit
import HandS.ExcOwn
import HandS.ExcField
import HandS.IsInst
import HandS.Property
import HandS.Dict
import HandS.Iter
import HandS.WordsExc
import HandS.WordsDict
import HandS.WordsList
import HandS.MakeKw
import PyProof.ReprLen
import HandS.ExcIs
import HandS.ExcValue
import KE.KExcIs
import HandS.MakeKwOnly
import HandS.Walk
import HandS.EndTab
import HandS.SetFor
import HandS.Head0
import HandS.Head1
import HandS.Head2
import HandS.HeadHook1
import HandS.HeadHook2
import KE.GoesEnum
import HandS.Zip
import HandS.Star
import HandS.DictComp
import HandS.TupMul
import HandS.TupAny
import HandS.Small
import HandS.Defaults
import HandS.More
import PyProof.InstNe
import KE.KRevSl
import PyProof.ReprReads
import PyProof.PureStr
import PyProof.P3Statements
import KE.KEqDict
import PyProof.TupleOfStr
import PyProof.ListStr
import KE.KeyNested
import KE.KDictKeyed
import PyProof.DictFindH
import PyProof.DictRoadsH
import KE.GoesZip
import KE.GoesMore
import KE.KTurns
import HandS.Conv
import HandS.Text
import HandS.Style
import PySem.Challenge.RW_tapedonce_k65_whole_orders_of_doings
set_option Elab.async false
set_option linter.all false
set_option maxRecDepth 100000
set_option maxHeartbeats 4400000
/-! operators between instances of an own class and ints, both ways -/
namespace HX
open PySem PySem.W PySem.Spec PySem.Calls PyProof.Rows
/-- the builtin declines the plain object at x -/
def Decl (B : Builtin) : Prop := ∀ (i : Int) (t : Tok) (x : Addr) (c : Value) (dd : Option Addr) (sl : Array (Option Value)),
  Meets (B ⟨[.int i t, .ref x], []⟩) (fun _ R s => s.heap.get? x = some { cls := c, dict := dd, data := .plain, slots := sl } ∧ R (.ok (.ret .notImplemented)) s)
theorem decl_add : Decl Builtin.«int.__add__» := fun i t x c dd sl => .of_wp fun prog w A R s h => by obtain ⟨hp, g, d, tk, os⟩ := s; obtain ⟨hl, h⟩ := h; wp_walk using AutoSeq1.wpAny_loadPart' hl, wpAny_load hl; exact ⟨_, rfl, h⟩
theorem decl_sub : Decl Builtin.«int.__sub__» := fun i t x c dd sl => .of_wp fun prog w A R s h => by obtain ⟨hp, g, d, tk, os⟩ := s; obtain ⟨hl, h⟩ := h; wp_walk using AutoSeq1.wpAny_loadPart' hl, wpAny_load hl; exact ⟨_, rfl, h⟩
theorem decl_mul : Decl Builtin.«int.__mul__» := fun i t x c dd sl => .of_wp fun prog w A R s h => by obtain ⟨hp, g, d, tk, os⟩ := s; obtain ⟨hl, h⟩ := h; wp_walk using AutoSeq1.wpAny_loadPart' hl, wpAny_load hl; exact ⟨_, rfl, h⟩
theorem decl_floordiv : Decl Builtin.«int.__floordiv__» := fun i t x c dd sl => .of_wp fun prog w A R s h => by obtain ⟨hp, g, d, tk, os⟩ := s; obtain ⟨hl, h⟩ := h; wp_walk using AutoSeq1.wpAny_loadPart' hl, wpAny_load hl; exact ⟨_, rfl, h⟩
theorem decl_eq : Decl Builtin.«int.__eq__» := fun i t x c dd sl => .of_wp fun prog w A R s h => by obtain ⟨hp, g, d, tk, os⟩ := s; obtain ⟨hl, h⟩ := h; wp_walk using AutoSeq1.wpAny_loadPart' hl, wpAny_load hl; exact ⟨_, rfl, h⟩
theorem decl_ne : Decl Builtin.«int.__ne__» := fun i t x c dd sl => .of_wp fun prog w A R s h => by obtain ⟨hp, g, d, tk, os⟩ := s; obtain ⟨hl, h⟩ := h; wp_walk using AutoSeq1.wpAny_loadPart' hl, wpAny_load hl; exact ⟨_, rfl, h⟩
theorem decl_lt : Decl Builtin.«int.__lt__» := fun i t x c dd sl => .of_wp fun prog w A R s h => by obtain ⟨hp, g, d, tk, os⟩ := s; obtain ⟨hl, h⟩ := h; wp_walk using AutoSeq1.wpAny_loadPart' hl, wpAny_load hl; exact ⟨_, rfl, h⟩
theorem decl_le : Decl Builtin.«int.__le__» := fun i t x c dd sl => .of_wp fun prog w A R s h => by obtain ⟨hp, g, d, tk, os⟩ := s; obtain ⟨hl, h⟩ := h; wp_walk using AutoSeq1.wpAny_loadPart' hl, wpAny_load hl; exact ⟨_, rfl, h⟩
theorem decl_gt : Decl Builtin.«int.__gt__» := fun i t x c dd sl => .of_wp fun prog w A R s h => by obtain ⟨hp, g, d, tk, os⟩ := s; obtain ⟨hl, h⟩ := h; wp_walk using AutoSeq1.wpAny_loadPart' hl, wpAny_load hl; exact ⟨_, rfl, h⟩
theorem decl_ge : Decl Builtin.«int.__ge__» := fun i t x c dd sl => .of_wp fun prog w A R s h => by obtain ⟨hp, g, d, tk, os⟩ := s; obtain ⟨hl, h⟩ := h; wp_walk using AutoSeq1.wpAny_loadPart' hl, wpAny_load hl; exact ⟨_, rfl, h⟩
end HX
set_option Elab.async false
set_option linter.all false
set_option maxRecDepth 100000
set_option maxHeartbeats 4400000
namespace HX
open PySem PySem.W PySem.Spec PySem.Calls PyProof.Rows
section
variable {prog : Program} {w : World} {A : Around} {E : Value → Shared → Prop} {s : Shared} {K : Frag} {x C L f g : Addr} {h₀ : Heap} {m : Str → Option Value} {ox : Obj} {od : Option Obj}
theorem looks_nip {M : Model} {h : Heap} {nm : String} (X : K.In h) (hs : findIn K (.ref C) (PySem.dunder nm) = some (some (.ref f))) (hr : findIn K (.ref C) (dunderR nm) = some (some (.ref g))) : Looks M h (numberSlotInPython (.ref C) nm) true := by
  intro A Q E s k q
  unfold numberSlotInPython
  refine wpAny_bind (looks_findIn X hs A _ E s k (wpAny_bind (wpAny_pure ?_)))
  refine wpAny_bind (looks_findIn X hr A _ E s k (wpAny_bind (wpAny_pure ?_)))
  simp only [Bool.or_true, if_true]
  exact wpAny_pure q
theorem binop1_KI {nm : String} {i : Int} {t : Tok} {idr : String} {Q : Option Value → Shared → Prop} (F : Fr h₀ L s.heap m) (X₀ : K.In h₀) (I : InstAt s.heap x ox C od) (hc : selfFirst K C = true)
    (hs : findIn K (.ref C) (PySem.dunder nm) = some (some (.ref f))) (hf : isFn K (.ref f) = true) (hr : findIn K (.ref C) (dunderR nm) = some (some (.ref g)))
    (hfi : fillsNumberSlot (.type "int") nm = pure true) (hni : subIn K (.type "int") (.ref C) = some false) (hri : typeLookup (.type "int") (dunderR nm) = pure (some (.builtin idr)))
    (h : wpAny (model prog w) A (call (.ref f) [.ref x, .int i t]) (W.CmpBack fun v s' => Q (some v) s') E s) : wpAny (model prog w) A (binaryOp1 nm (.ref x) (.int i t)) Q E s := by
  have X := X₀.keeps F.keep
  obtain ⟨cd, rest, hcd, hm⟩ := ksp_first hc
  have hpy : numberSlotInPython (.type "int") nm = pure false := rfl
  have hne : (Value.ref C == Value.type "int") = false := by simp
  unfold binaryOp1
  refine wpAny_bind (I.type.here (wpAny_bind (wpAny_typeOf (typeIs_int s i t) (wpAny_bind ((fills_K X hcd hm hs).here ?_))))); simp only [hne, Bool.false_eq_true, if_false]
  refine wpAny_bind (wpAny_of_eq hfi ?_); simp only [Bool.and_self, if_true]
  refine wpAny_bind ((looks_subIn X hni).here ?_)
  simp only [Bool.false_eq_true, if_false, pure_bind, Bool.not_false, Bool.and_self, if_true]
  refine wpAny_bind ((looks_nip X hs hr).here ?_)
  simp only [hpy, pure_bind, if_true, Bool.not_false]
  refine wpAny_bind (wpAny_of_eq hri ?_)
  unfold tryMethod
  refine wpAny_bind (wpAny_bind (special_fn X I hs (beq_iff_eq.mp hf) (wpAny_mono h (fun v s' hv => ?_) fun _ _ e => e)))
  cases v <;> first | exact hv.elim | exact wpAny_pure (wpAny_pure hv)
theorem binop_KI {op : Operator} {i : Int} {t : Tok} {idr : String} {Q : Value → Shared → Prop} (F : Fr h₀ L s.heap m) (X₀ : K.In h₀) (I : InstAt s.heap x ox C od) (hc : selfFirst K C = true)
    (hs : findIn K (.ref C) (PySem.dunder op.info.2) = some (some (.ref f))) (hf : isFn K (.ref f) = true) (hr : findIn K (.ref C) (dunderR op.info.2) = some (some (.ref g)))
    (hfi : fillsNumberSlot (.type "int") op.info.2 = pure true) (hni : subIn K (.type "int") (.ref C) = some false) (hri : typeLookup (.type "int") (dunderR op.info.2) = pure (some (.builtin idr)))
    (h : wpAny (model prog w) A (call (.ref f) [.ref x, .int i t]) (W.CmpBack Q) E s) : wpAny (model prog w) A (binaryOp op (.ref x) (.int i t)) Q E s := by
  unfold binaryOp; refine wpAny_holding (wpAny_bind ?_)
  refine binop1_KI F X₀ I hc hs hf hr hfi hni hri (wpAny_mono h (fun v s' hv => ?_) fun _ _ e => e)
  cases v <;> first | exact hv.elim | exact wpAny_pure hv
/-- int op instance: the reflected method -/
theorem binop1_IK {nm : String} {i : Int} {t : Tok} {id : String} {B : Builtin} {Q : Option Value → Shared → Prop} (F : Fr h₀ L s.heap m) (X₀ : K.In h₀) (I : InstAt s.heap x ox C od) (hp : ox.data = .plain) (hc : selfFirst K C = true)
    (hs : findIn K (.ref C) (PySem.dunder nm) = some (some (.ref g))) (hr : findIn K (.ref C) (dunderR nm) = some (some (.ref f))) (hf : isFn K (.ref f) = true)
    (hfi : fillsNumberSlot (.type "int") nm = pure true) (hni : subIn K (.ref C) (.type "int") = some false) (slot : Slot "int" (PySem.dunder nm) id) (entry : entryFor table id = some B) (args : ∀ a b, argsOk id ⟨[a, b], []⟩) (D : Decl B)
    (h : wpAny (model prog w) A (call (.ref f) [.ref x, .int i t]) (W.CmpBack fun v s' => Q (some v) s') E s) : wpAny (model prog w) A (binaryOp1 nm (.int i t) (.ref x)) Q E s := by
  have X := X₀.keeps F.keep
  obtain ⟨cd, rest, hcd, hm⟩ := ksp_first hc
  have hpy : numberSlotInPython (.type "int") nm = pure false := rfl
  have hne : (Value.type "int" == Value.ref C) = false := by simp
  obtain ⟨oc, odd, odt, osl⟩ := ox
  simp only at hp
  subst hp
  have hx := I.at_
  unfold binaryOp1
  refine wpAny_bind (wpAny_typeOf (typeIs_int s i t) (wpAny_bind (I.type.here (wpAny_bind (wpAny_of_eq hfi ?_))))); simp only [hne, Bool.false_eq_true, if_false]
  refine wpAny_bind ((fills_K X hcd hm hs).here ?_); simp only [Bool.and_self, if_true]
  refine wpAny_bind ((looks_subIn X hni).here ?_); simp only [hpy, Bool.false_eq_true, if_false, pure_bind, Bool.not_false, Bool.and_self, if_true]
  refine wpAny_bind (wpAny_tryMethod_declines (typeIs_int s i t) slot (call_meets slot (typeIs_int s i t) entry (args _ _) (D i t x _ _ _) ⟨hx, ?_⟩))
  refine ⟨rfl, ?_⟩
  unfold tryMethod
  refine wpAny_bind (wpAny_bind (special_fn X I hr (beq_iff_eq.mp hf) (wpAny_mono h (fun v s' hv => ?_) fun _ _ e => e)))
  cases v <;> first | exact hv.elim | exact wpAny_pure (wpAny_bind (wpAny_rule (wpAny_pure hv)))
theorem binop_IK {op : Operator} {i : Int} {t : Tok} {id : String} {B : Builtin} {Q : Value → Shared → Prop} (F : Fr h₀ L s.heap m) (X₀ : K.In h₀) (I : InstAt s.heap x ox C od) (hp : ox.data = .plain) (hc : selfFirst K C = true)
    (hs : findIn K (.ref C) (PySem.dunder op.info.2) = some (some (.ref g))) (hr : findIn K (.ref C) (dunderR op.info.2) = some (some (.ref f))) (hf : isFn K (.ref f) = true)
    (hfi : fillsNumberSlot (.type "int") op.info.2 = pure true) (hni : subIn K (.ref C) (.type "int") = some false) (slot : Slot "int" (PySem.dunder op.info.2) id) (entry : entryFor table id = some B) (args : ∀ a b, argsOk id ⟨[a, b], []⟩) (D : Decl B)
    (h : wpAny (model prog w) A (call (.ref f) [.ref x, .int i t]) (W.CmpBack Q) E s) : wpAny (model prog w) A (binaryOp op (.int i t) (.ref x)) Q E s := by
  unfold binaryOp; refine wpAny_holding (wpAny_bind ?_)
  refine binop1_IK F X₀ I hp hc hs hr hf hfi hni slot entry args D (wpAny_mono h (fun v s' hv => ?_) fun _ _ e => e)
  cases v <;> first | exact hv.elim | exact wpAny_pure hv
/-- int < instance: the reflected comparison -/
theorem cmp_IK {op : CmpOp} {i : Int} {t : Tok} {id : String} {B : Builtin} {Q : Value → Shared → Prop} (hu : A.units < cLine) (F : Fr h₀ L s.heap m) (X₀ : K.In h₀) (I : InstAt s.heap x ox C od) (hp : ox.data = .plain)
    (hr : findIn K (.ref C) (cmpInfo op).2.2 = some (some (.ref f))) (hf : isFn K (.ref f) = true) (hni : subIn K (.ref C) (.type "int") = some false)
    (slot : Slot "int" (cmpInfo op).2.1 id) (entry : entryFor table id = some B) (args : ∀ a b, argsOk id ⟨[a, b], []⟩) (D : Decl B)
    (h : wpAny (model prog w) A (call (.ref f) [.ref x, .int i t]) (W.CmpBack Q) E s) : wpAny (model prog w) A (richCompare op (.int i t) (.ref x)) Q E s := by
  have X := X₀.keeps F.keep
  have hne : (Value.type "int" != Value.ref C) = true := by simp
  obtain ⟨oc, odd, odt, osl⟩ := ox
  simp only at hp
  subst hp
  have hx := I.at_
  have one : wpAny (model prog w) A (tryCompare (.ref x) (cmpInfo op).2.2 (.int i t)) (fun r s' => ∃ v, r = some v ∧ Q v s') E s := by
    unfold tryCompare
    refine wpAny_bind (ifBound_K X I hr hf (wpAny_mono h (fun v s' hv => ?_) fun _ _ e => e)); cases v <;> first | exact hv.elim | exact wpAny_pure ⟨_, rfl, hv⟩
  unfold richCompare
  have ho : oneThing? op (.int i t) (.ref x) = none := by cases op <;> rfl
  simp only [ho]; refine wpAny_holding (wpAny_bind (wpAny_cRoomFor hu ?_))
  refine wpAny_bind (wpAny_typeOf (typeIs_int s i t) (wpAny_bind (I.type.here ?_)))
  rw [if_pos hne]
  refine wpAny_bind ((looks_subIn X hni).here ?_); simp only [Bool.false_eq_true, if_false, Bool.not_false, if_true]
  refine wpAny_bind (wpAny_tryCompare_declines (typeIs_int s i t) slot (call_meets slot (typeIs_int s i t) entry (args _ _) (D i t x _ _ _) ⟨hx, ?_⟩))
  refine ⟨rfl, wpAny_bind (wpAny_mono one (fun r s' z => ?_) fun _ _ e => e)⟩
  obtain ⟨v, rfl, hq⟩ := z
  exact wpAny_pure hq
end
end HX
set_option Elab.async false
set_option linter.all false
set_option maxRecDepth 100000
set_option maxHeartbeats 4400000
namespace HX
open L2 PyProof.Rows PySem.Spec PySem
section
variable {X : Cx}
/-- what stands behind a method's call is never NotImplemented -/
theorem ep_back {pins : List (Addr × Obj)} {σ : L2.St} {Q : VK} {u : Value} {s' : Shared} (h : EP X pins σ Q u s') : PySem.W.CmpBack (EP X pins σ Q) u s' := by
  have h' := h
  obtain ⟨v, H', I', r, q⟩ := h
  have ne : u ≠ .notImplemented := by
    intro z
    subst z
    cases v <;> first | (obtain ⟨t, z⟩ := r; cases z; done) | cases r
  cases u <;> first | exact absurd rfl ne | exact h'
/-- the facts of an int's operator -/
structure IntOp (op : Operator) : Prop where
  fi : fillsNumberSlot (.type "int") op.info.2 = pure true
  ri : ∃ idr, typeLookup (.type "int") (dunderR op.info.2) = pure (some (.builtin idr))
  le : ∃ (id : String) (B : Builtin), Slot "int" (PySem.dunder op.info.2) id ∧ entryFor table id = some B ∧ (∀ a b, argsOk id ⟨[a, b], []⟩) ∧ Decl B
theorem io_add : IntOp .Add := ⟨F.fills_int_add, ⟨_, F.slot_int_radd.lookup⟩, _, _, F.slot_int_add, F.entry_int_add, F.args_int_add_2, decl_add⟩
theorem io_sub : IntOp .Sub := ⟨F.fills_int_sub, ⟨_, F.slot_int_rsub.lookup⟩, _, _, F.slot_int_sub, F.entry_int_sub, F.args_int_sub_2, decl_sub⟩
theorem io_mul : IntOp .Mult := ⟨F.fills_int_mul, ⟨_, F.slot_int_rmul.lookup⟩, _, _, F.slot_int_mul, F.entry_int_mul, F.args_int_mul_2, decl_mul⟩
theorem io_fdv : IntOp .FloorDiv := ⟨F.fills_int_floordiv, ⟨_, F.slot_int_rfloordiv.lookup⟩, _, _, F.slot_int_floordiv, F.entry_int_floordiv, F.args_int_floordiv_2, decl_floordiv⟩
structure IntCmp (op : CmpOp) : Prop where
  le : ∃ (id : String) (B : Builtin), Slot "int" (cmpInfo op).2.1 id ∧ entryFor table id = some B ∧ (∀ a b, argsOk id ⟨[a, b], []⟩) ∧ Decl B
theorem ic_eq : IntCmp .Eq := ⟨_, _, F.slot_int_eq, F.entry_int_eq, F.args_int_eq_2, decl_eq⟩
theorem ic_ne : IntCmp .NotEq := ⟨_, _, F.slot_int_ne, F.entry_int_ne, F.args_int_ne_2, decl_ne⟩
theorem ic_lt : IntCmp .Lt := ⟨_, _, F.slot_int_lt, F.entry_int_lt, F.args_int_lt_2, decl_lt⟩
theorem ic_le : IntCmp .LtE := ⟨_, _, F.slot_int_le, F.entry_int_le, F.args_int_le_2, decl_le⟩
theorem ic_gt : IntCmp .Gt := ⟨_, _, F.slot_int_gt, F.entry_int_gt, F.args_int_gt_2, decl_gt⟩
theorem ic_ge : IntCmp .GtE := ⟨_, _, F.slot_int_ge, F.entry_int_ge, F.args_int_ge_2, decl_ge⟩
/-- the class's own operator and its reflected one -/
structure ArC (K : PySem.W.Frag) (C : Addr) (op : Operator) (f g : Addr) : Prop where
  sf : PySem.W.selfFirst K C = true
  hs : PySem.W.findIn K (.ref C) (PySem.dunder op.info.2) = some (some (.ref f))
  hf : PySem.W.isFn K (.ref f) = true
  hr : PySem.W.findIn K (.ref C) (dunderR op.info.2) = some (some (.ref g))
  hg : PySem.W.isFn K (.ref g) = true
  n1 : PySem.W.subIn K (.type "int") (.ref C) = some false
  n2 : PySem.W.subIn K (.ref C) (.type "int") = some false
def isI (C : Addr) (H : Hp) (x : V) : Prop := ∃ a dx fs, x = .ref a ∧ H a = some (.ins C dx fs)
theorem isI_inst {pins : List (Addr × Obj)} {σ : L2.St} {H : Hp} {s : Shared} {C a dx : Addr} {fs : List (Str × V)} (I : Inv X pins σ H s) (e : H a = some (.ins C dx fs)) : ∃ od, PySem.W.InstAt s.heap a (PySem.W.instObj C dx) C od := by
  obtain ⟨mA, O, _⟩ := ins_get I.hok e
  obtain ⟨od, J, _⟩ := O.look
  exact ⟨_, J⟩
/-- x op y, one of the two at least an instance of the class at C, the other one too, or an int -/
def rOwn (C : Addr) (sp spR : Sp) (E : XK) : R2 := fun x y H Q => (isI C H x ∧ (isI C H y ∨ ∃ i, y = .int i) ∧ sp [x, y] H Q E) ∨ (isI C H y ∧ (∃ i, x = .int i) ∧ spR [y, x] H Q E)
theorem op_own {op : Operator} {CX : CXT} {C f g : Addr} {k : Nat} {fd gd : FuncData} {ps ps' : List Str} {sp spR : Sp} {E : XK} (IO : IntOp op) (T : ArC X.K C op f g) (F1 : FnOk X.prog X.w X.K X.mg X.base CX k f fd ps sp) (b1 : Binds X.K fd ps [])
    (F2 : FnOk X.prog X.w X.K X.mg X.base CX k g gd ps' spR) (b2 : Binds X.K gd ps' []) (hr : Room k X.A) (hx : Passes CX X E) : OpR X (binaryOp op) (rOwn C sp spR E) := by
  intro pins s σ H x y v u; intro Q I rx ry h
  obtain ⟨m, hF⟩ := I.fr
  rcases h with ⟨⟨a, dx, fs, rfl, ea⟩, hy, q⟩ | ⟨⟨b, dx, fs, rfl, eb⟩, ⟨i, rfl⟩, q⟩
  · obtain ⟨od, J⟩ := isI_inst I ea
    cases (id rx : v = Value.ref a)
    rcases hy with ⟨b, dy, gs, rfl, eb⟩ | ⟨i, rfl⟩
    · obtain ⟨od', J'⟩ := isI_inst I eb
      cases (id ry : u = Value.ref b)
      exact PySem.W.binop_K hF I.ok.mod.kin J J'.type T.sf T.hs T.hf (thn (run_fn (us := [.ref a, .ref b]) (vs := [.ref a, .ref b]) F1 hr b1 .nil hx I (.cons rfl (.cons rfl .nil)) q) fun u s' z => ep_back z)
    · obtain ⟨t, e⟩ := (show ∃ t, u = Value.int i t from ry)
      subst e
      obtain ⟨idr, ri⟩ := IO.ri
      exact binop_KI hF I.ok.mod.kin J T.sf T.hs T.hf T.hr IO.fi T.n1 ri (thn (run_fn (us := [.ref a, .int i t]) (vs := [.ref a, .int i]) F1 hr b1 .nil hx I (.cons rfl (.cons ⟨t, rfl⟩ .nil)) q) fun u s' z => ep_back z)
  · obtain ⟨od, J⟩ := isI_inst I eb
    cases (id ry : u = Value.ref b)
    obtain ⟨t, e⟩ := (show ∃ t, v = Value.int i t from rx)
    subst e
    obtain ⟨id, B, sl, en, ar, D⟩ := IO.le
    exact binop_IK hF I.ok.mod.kin J rfl T.sf T.hs T.hr T.hg IO.fi T.n2 sl en ar D (thn (run_fn (us := [.ref b, .int i t]) (vs := [.ref b, .int i]) F2 hr b2 .nil hx I (.cons rfl (.cons ⟨t, rfl⟩ .nil)) q) fun u s' z => ep_back z)
structure CmC (K : PySem.W.Frag) (C : Addr) (op : CmpOp) (f g : Addr) : Prop where
  hs : PySem.W.findIn K (.ref C) (cmpInfo op).2.1 = some (some (.ref f))
  hf : PySem.W.isFn K (.ref f) = true
  hr : PySem.W.findIn K (.ref C) (cmpInfo op).2.2 = some (some (.ref g))
  hg : PySem.W.isFn K (.ref g) = true
  nc : PySem.W.notFirst K C (.ref C) = true
  n1 : PySem.W.notFirst K C (.type "int") = true
  n2 : PySem.W.subIn K (.ref C) (.type "int") = some false
theorem op_cmpW {op : CmpOp} {CX : CXT} {C f g : Addr} {k : Nat} {fd gd : FuncData} {ps ps' : List Str} {sp spR : Sp} {E : XK} (IO : IntCmp op) (T : CmC X.K C op f g) (F1 : FnOk X.prog X.w X.K X.mg X.base CX k f fd ps sp) (b1 : Binds X.K fd ps [])
    (F2 : FnOk X.prog X.w X.K X.mg X.base CX k g gd ps' spR) (b2 : Binds X.K gd ps' []) (hr : Room k X.A) (hx : Passes CX X E) : OpR X (richCompare op) (rOwn C sp spR E) := by
  intro pins s σ H x y v u; intro Q I rx ry h
  obtain ⟨m, hF⟩ := I.fr
  have hu := hr.units0
  rcases h with ⟨⟨a, dx, fs, rfl, ea⟩, hy, q⟩ | ⟨⟨b, dx, fs, rfl, eb⟩, ⟨i, rfl⟩, q⟩
  · obtain ⟨od, J⟩ := isI_inst I ea
    cases (id rx : v = Value.ref a)
    rcases hy with ⟨b, dy, gs, rfl, eb⟩ | ⟨i, rfl⟩
    · obtain ⟨od', J'⟩ := isI_inst I eb
      cases (id ry : u = Value.ref b)
      exact PySem.W.cmp_K hu hF I.ok.mod.kin J J'.type T.nc T.hs T.hf (thn (run_fn (us := [.ref a, .ref b]) (vs := [.ref a, .ref b]) F1 hr b1 .nil hx I (.cons rfl (.cons rfl .nil)) q) fun u s' z => ep_back z)
    · obtain ⟨t, e⟩ := (show ∃ t, u = Value.int i t from ry)
      subst e
      exact PySem.W.cmp_K hu hF I.ok.mod.kin J (fun A Q E s k q => wpAny_typeOf (typeIs_int s i t) q) T.n1 T.hs T.hf (thn (run_fn (us := [.ref a, .int i t]) (vs := [.ref a, .int i]) F1 hr b1 .nil hx I (.cons rfl (.cons ⟨t, rfl⟩ .nil)) q) fun u s' z => ep_back z)
  · obtain ⟨od, J⟩ := isI_inst I eb
    cases (id ry : u = Value.ref b)
    obtain ⟨t, e⟩ := (show ∃ t, v = Value.int i t from rx)
    subst e
    obtain ⟨id, B, sl, en, ar, D⟩ := IO.le
    exact cmp_IK hu hF I.ok.mod.kin J rfl T.hr T.hg T.n2 sl en ar D (thn (run_fn (us := [.ref b, .int i t]) (vs := [.ref b, .int i]) F2 hr b2 .nil hx I (.cons rfl (.cons ⟨t, rfl⟩ .nil)) q) fun u s' z => ep_back z)
/-- -x of an own class -/
def rNegO (C : Addr) (sp : Sp) (E : XK) : V → Hp → VK → Prop := fun x H Q => isI C H x ∧ sp [x] H Q E
theorem un_negO {CX : CXT} {C f : Addr} {k : Nat} {fd : FuncData} {ps : List Str} {sp : Sp} {E : XK} (hs : PySem.W.findIn X.K (.ref C) "__neg__" = some (some (.ref f))) (hf : PySem.W.isFn X.K (.ref f) = true) (F1 : FnOk X.prog X.w X.K X.mg X.base CX k f fd ps sp)
    (b1 : Binds X.K fd ps []) (hr : Room k X.A) (hx : Passes CX X E) : UnR X (unaryOp .USub) (rNegO C sp E) := by
  intro pins s σ H x v Q I rx h
  obtain ⟨m, hF⟩ := I.fr
  obtain ⟨⟨a, dx, fs, rfl, ea⟩, q⟩ := h
  obtain ⟨od, J⟩ := isI_inst I ea
  cases (id rx : v = Value.ref a)
  exact PySem.W.ksp_neg hF I.ok.mod.kin J hs hf (run_fn (us := [.ref a]) (vs := [.ref a]) F1 hr b1 .nil hx I (.cons rfl .nil) q)
end
end HX
set_option Elab.async false
set_option linter.all false
set_option maxRecDepth 100000
set_option maxHeartbeats 4400000
namespace HX
open L2 PyProof.Rows PySem.Spec PySem
/-- a def's promise where no repr is under way around the call -/
structure FnG (P : Program) (w : World) (K : PySem.W.Frag) (mg : Str → Option Value) (base : Heap) (CX : CXT) (k : Nat) (f : Addr) (fd : FuncData) (ps : List Str) (sp : Sp) : Prop where
  ln : ∀ vs H Q E, sp vs H Q E → vs.length = ps.length
  go : ∀ (A : Around) (outer : List Env) (s : Shared) (H : Hp) (args : Args) (us : List Value) (vs : List V) (Q : VK) (E : XK), A.guards = some [] → Room k A → Env0 P w K mg base A outer s H → BindsTo s fd args (ps.zip us) → Vals vs us →
    sp vs H Q E → codeAny (model P w) A (.call (.ref f) args) (CR CX outer P w H s Q E) s
theorem FnG.of {P : Program} {w : World} {K : PySem.W.Frag} {mg : Str → Option Value} {base : Heap} {CX : CXT} {k : Nat} {f : Addr} {fd : FuncData} {ps : List Str} {sp : Sp} (F : FnOk P w K mg base CX k f fd ps sp) : FnG P w K mg base CX k f fd ps sp :=
  ⟨F.len, fun A o s H args us vs Q E _ => F.run A o s H args us vs Q E⟩
/-- a def by its body, for FnG; exceptions may leave -/
theorem okG {CX : CXT} {P : Program} {w : World} {K : PySem.W.Frag} {mg : Str → Option Value} {base : Heap} {x qual : Str} {st : Stmt} {f : Addr} {fd : FuncData} {N ps : List Str} {k : Nat} {sp : Sp} (F : Fun K x qual st f fd) (S : FnScope N ps (defScope st)) (len : ∀ vs H Q E, sp vs H Q E → vs.length = ps.length)
    (hbody : ∀ (cdv : Value) (A : Around) (outer : List Env) (s : Shared) (H : Hp) (vs : List V) (Q : VK) (E : XK), A.guards = some [] → Room k (A.deeper (envOfC qual (defScope st) s.heap.objs.size f cdv)) → sp vs H Q E →
      ∃ t, PSs (cxOf CX P w K mg base N qual (defScope st) f cdv A outer s H E) (defBody st) t ∧ t { nx := fun _ H' => Q .non H', rt := Q } (L2.start N vs) H) : FnG P w K mg base CX (k + 1) f fd ps sp := by
  let ⟨oc, od, kV, doc, pm, an, cdv, ct, osl, e0, lk, hcd⟩ := F.ex; subst e0
  exact ⟨len, fun A o s H args us vs Q E hg hr e0 hb r hsp => LamX.run_ofS lk hcd S hr e0 hb r (len _ _ _ _ hsp) fun hr' => hbody cdv A o s H vs Q E hg hr' hsp⟩
/-- .. no exception leaves -/
theorem okG0 {P : Program} {w : World} {K : PySem.W.Frag} {mg : Str → Option Value} {base : Heap} {x qual : Str} {st : Stmt} {f : Addr} {fd : FuncData} {N ps : List Str} {k : Nat} {sp : Sp} (F : Fun K x qual st f fd) (S : FnScope N ps (defScope st)) (len : ∀ vs H Q E, sp vs H Q E → vs.length = ps.length)
    (hbody : ∀ (cdv : Value) (A : Around) (outer : List Env) (s : Shared) (H : Hp) (vs : List V) (Q : VK) (E : XK), A.guards = some [] → Room k (A.deeper (envOfC qual (defScope st) s.heap.objs.size f cdv)) → sp vs H Q E →
      ∃ t, PSs (cxOf CX0 P w K mg base N qual (defScope st) f cdv A outer s H E).nox (defBody st) t ∧ t { nx := fun _ H' => Q .non H', rt := Q } (L2.start N vs) H) : FnG P w K mg base CX0 (k + 1) f fd ps sp :=
  okG F S len fun cdv A outer s H vs Q E hg hr h => let ⟨t, p, q⟩ := hbody cdv A outer s H vs Q E hg hr h; ⟨t, p.nox, q⟩
section
variable {sp : Sp} {CX : CXT} {X : Cx} {k : Nat} {f C : Addr} {fd : FuncData} {ps : List Str} {dvs : List V} {ds : List Value} {E : XK} {x m : Str} {p pos apos : Pos} {e o : Expr} {es : List Expr} {ta : TE} {t : TA}
theorem run_g {pins : List (Addr × Obj)} {σ : L2.St} {H : Hp} {s : Shared} {Q : VK} {us : List Value} {vs : List V} (hgd : X.A.guards = some []) (F : FnG X.prog X.w X.K X.mg X.base CX k f fd ps sp) (hr : Room k X.A) (hb : Binds X.K fd ps ds) (hd : Vals dvs ds) (hx : Passes CX X E)
    (I : L2.Inv X pins σ H s) (r : Vals vs us) (h : sp (vs ++ dvs) H Q E) : wpAny (model X.prog X.w) X.A (call (.ref f) us) (EP X pins σ Q) X.xe s := by
  have rr : Vals (vs ++ dvs) (us ++ ds) := r.append hd; have hl : (us ++ ds).length = ps.length := rr.length.symm.trans (F.ln _ _ _ _ h)
  refine wpAny_call (codeAny_mono (F.go X.A X.stack s H ⟨us, []⟩ (us ++ ds) (vs ++ dvs) Q E hgd hr I.env0 (hb s us I.kIn hl) rr h) fun z s' hq => ?_)
  match z, hq with
  | .error er, hq => exact hx pins σ H s er s' I hq
  | .ok (.ret u), hq => exact I.after hq
  | .ok .next, hq => exact False.elim hq
  | .ok .brk, hq => exact False.elim hq
  | .ok .cont, hq => exact False.elim hq
theorem pe_callG (hgd : X.A.guards = some []) (F : FnG X.prog X.w X.K X.mg X.base CX k f fd ps sp) (hr : Room k X.A) (hg : Gl X x) (hm : X.mg x = some (.ref f)) (hk : PySem.W.keepIn X.K (.ref f) = true) (hb : Binds X.K fd ps ds) (hd : Vals dvs ds) (hx : Passes CX X E) (ha : PA X (e :: es) t)
    (hdb : (x == ("__debug__" : Str)) = false := by decide) (he : starEach (e :: es) X.env = (false, eval e X.env) :: starEach es X.env := by rfl) (hpl : (backTo pos (starEach es X.env)).any (·.1) = false := by rfl) :
    PE X (.Call (.Name x p) (e :: es) [] pos) (tCall sp dvs E t) := ⟨fun pins s σ H Q I h => wpAny_Call_Name_kw (ld_glob I hg hm (PySem.W.callWith_K (h₀ := X.base) I.ok.mod.kin hk (thn (ha.run pos pins s σ H _ I h) fun us s1 z => by
      obtain ⟨vs, H1, I1, r, q⟩ := z; exact ⟨I1.kIn, run_g hgd F hr hb hd hx I1 r q⟩) he hpl) hdb)⟩
end
/-- data at any depth, dicts too -/
inductive Dq (K : PySem.W.Frag) (H : Hp) : V → PyData → Prop
  | non : Dq K H .non .none
  | bl (b : Bool) : Dq K H (.bl b) (.bool b)
  | int (i : Int) : Dq K H (.int i) (.int i)
  | str (x : Str) : Dq K H (.str x) (.str x)
  | lst {a : Addr} {xs : List V} {ds : List PyData} : SqL K H a xs → xs.length = ds.length → (∀ (i : Nat) (v : V) (d : PyData), xs[i]? = some v → ds[i]? = some d → Dq K H v d) → Dq K H (.ref a) (.list ds)
  | tup {a : Addr} {xs : List V} {ds : List PyData} : SqT K H a xs → xs.length = ds.length → (∀ (i : Nat) (v : V) (d : PyData), xs[i]? = some v → ds[i]? = some d → Dq K H v d) → Dq K H (.ref a) (.tuple ds)
section
variable {H : Hp} {X : Cx} {σ : L2.St} {pins : List (Addr × Obj)} {s : Shared}
theorem readsAll_of {h : Heap} : ∀ {us : List Value} {ds : List PyData}, us.length = ds.length → (∀ (i : Nat) (u : Value) (d : PyData), us[i]? = some u → ds[i]? = some d → ∃ as, Reads h u d as) → ∃ as, ReadsAll h us ds as
  | [], [], _, _ => ⟨_, .nil⟩
  | [], _ :: _, z, _ | _ :: _, [], z, _ => by simp at z
  | u :: us, d :: ds, hl, h => by
    obtain ⟨as, q1⟩ := h 0 u d rfl rfl
    obtain ⟨bs, q2⟩ := readsAll_of (us := us) (ds := ds) (by simpa using hl) fun i u d e1 e2 => h (i + 1) u d (by simpa using e1) (by simpa using e2)
    exact ⟨_, .cons q1 q2⟩
theorem Dq.reads (I : L2.Inv X pins σ H s) {v : V} {d : PyData} (h : Dq X.K H v d) : ∀ u, RelV v u → ∃ as, Reads s.heap u d as := by
  induction h with
  | non => intro u r; cases r; exact ⟨_, .none⟩
  | bl b => intro u r; cases r; exact ⟨_, .bool b⟩
  | int i => intro u r; obtain ⟨t, rfl⟩ := r; exact ⟨_, .int i t⟩
  | str x => intro u r; obtain ⟨t, rfl⟩ := r; exact ⟨_, .str x t⟩
  | @lst a xs ds hs hl hi ih =>
    intro u r
    cases r
    obtain ⟨its, rv, ⟨o, m, ho, hc, _, hd⟩, _⟩ := I.list hs
    obtain ⟨as, q⟩ := readsAll_of (h := s.heap) (us := its) (ds := ds) (rv.length.symm.trans hl) fun i u d e1 e2 => by
      obtain ⟨v, hv⟩ : ∃ v, xs[i]? = some v := ⟨_, List.getElem?_eq_getElem (by have := (List.getElem?_eq_some_iff.mp e1).1; rw [rv.length]; exact this)⟩
      obtain ⟨u', hu, ru⟩ := rv.get hv; rw [e1] at hu; cases hu
      exact ih i v d hv e2 u ru
    exact ⟨_, .list ho hc hd q⟩
  | @tup a xs ds hs hl hi ih =>
    intro u r
    cases r
    obtain ⟨its, rv, ⟨o, ho, hc, m, hd⟩, _⟩ := I.tuple hs
    obtain ⟨as, q⟩ := readsAll_of (h := s.heap) (us := its) (ds := ds) (rv.length.symm.trans hl) fun i u d e1 e2 => by
      obtain ⟨v, hv⟩ : ∃ v, xs[i]? = some v := ⟨_, List.getElem?_eq_getElem (by have := (List.getElem?_eq_some_iff.mp e1).1; rw [rv.length]; exact this)⟩
      obtain ⟨u', hu, ru⟩ := rv.get hv; rw [e1] at hu; cases hu
      exact ih i v d hv e2 u ru
    exact ⟨_, .tuple ho hc hd q⟩
end
section
variable {X : Cx}
/-- repr of such data -/
def rRepr (K : PySem.W.Frag) : List V → Hp → VK → Prop := fun xs H Q => ∃ v d, xs = [v] ∧ Dq K H v d ∧ d.showable = true ∧ d.hasDict = false ∧ d.depth ≤ 60 ∧ d.shown.length ≤ sizeLine ∧ Q (.str d.shown) H
theorem call_reprD (hgd : X.A.guards = some []) (hu : X.A.units + 64 < cLine) : CallR X (.builtin "repr") (rRepr X.K) := by
  intro pins s σ H xs us; intro Q I r h
  obtain ⟨v, d, rfl, hd, hs, hn, hp, hz, q⟩ := h
  cases r with
  | cons r1 r2 =>
    cases r2
    rename_i u
    obtain ⟨as, hr⟩ := hd.reads I u r1
    have fin : ∀ h' t tk, (∀ b o, s.heap.get? b = some o → h'.get? b = some o) → EP X pins σ Q (.str d.shown t) { s with heap := h', toks := tk } := fun h' t tk k => ⟨.str d.shown, H, I.kept k, ⟨_, rfl⟩, q⟩
    cases hr with
    | none => exact PySem.P.repr_of_none (fin _ _ _ fun _ _ z => z)
    | bool b => exact PySem.P.repr_of_bool (fin _ _ _ fun _ _ z => z)
    | int i t => exact PySem.P.repr_of_int (by simpa [PyData.showable] using hs) (fin _ _ _ fun _ _ z => z)
    | str x t => exact PySem.P.repr_of_str (fin _ _ _ fun _ _ z => z)
    | list h1 h2 h3 h4 => exact repr_of_reads' (.list h1 h2 h3 h4) hs (fun z => by rw [hn] at z; cases z) hgd (by omega) (fun _ _ z => z) (fun h' u tk k => fin h' u tk k) hz
    | tuple h1 h2 h3 h4 => exact repr_of_reads' (.tuple h1 h2 h3 h4) hs (fun z => by rw [hn] at z; cases z) hgd (by omega) (fun _ _ z => z) (fun h' u tk k => fin h' u tk k) hz
    | dict h1 h2 h3 h4 h5 => simp [PyData.hasDict] at hn
end
end HX
set_option Elab.async false
set_option linter.all false
set_option maxRecDepth 100000
set_option maxHeartbeats 4400000
namespace HX
open L2 PyProof.Rows PySem.Spec PySem
theorem ints_vals : ∀ {vs : List Value} {ns : List Int}, IntsAre vs ns → Vals (ns.map V.int) vs
  | _, _, .nil => Paired.nil
  | _, _, .cons n t h => Paired.cons ⟨t, rfl⟩ (ints_vals h)
/-- the law's call from its promise (a def that may be called where no repr is under way); H: the script alone, or nothing -/
theorem lawG_core {P : Program} {w : World} {K : PySem.W.Frag} {mg mb : Str → Option Value} {CX : CXT} {k : Nat} {fa a : Addr} {fd : FuncData} {x : Str} {sp : Sp} {s1 : Shared} {vs : List Value} {H : Hp}
    (KX : K.In s1.heap) (hns : s1.heap.Ns mainGlobals mg) (hb : s1.heap.Ns builtinsNs mb) (hbb : ∀ x : Str, x ≠ "__name__" → mb x = bootBuiltins x) (hlim : s1.heap.NoLimit) (hg : s1.gens = #[])
    (ha : s1.heap.get? a = some { cls := .type "list", data := .seq vs.toArray }) (hr : Room k callerA)
    (F : ∀ base : Heap, K.In base → base.Ns mainGlobals mg → FnG P w K mg base CX k fa fd [x] sp) (hbind : ∀ (s : Shared) (u : Value), BindsTo s fd ⟨[u], []⟩ [(x, u)])
    (hsp : sp [.ref a] H (fun v _ => v = .bl true) fun _ _ _ => False) (hCX : ∀ e s', CX [] H s1 (fun _ _ _ => False) e s' → False)
    (hO : ∀ b u, H b = some u → b = a ∧ ∃ o xs, u = .frz o (.lst xs)) (hok : HOk P w H s1.heap) (hK : ∀ u, H a = some u → K.lookup a = none) :
    codeAny (model P w) callerA (.call (.ref fa) ⟨[.ref a], []⟩) (fun r s' => r = .ok (.ret (.bool true)) ∧ OldK s1.heap s'.heap ∧ s'.os = s1.os ∧ AllBare s'.gens) s1 := by
  have un : ∀ {b : Addr}, b ≠ a → H b = none := fun {b} z => by
    cases q : H b with
    | none => rfl
    | some u => exact absurd (hO b u q).1 z
  have nsK : ∀ {b : Addr} {m : Str → Option Value}, s1.heap.Ns b m → (hidT s1.heap H).Ns b m := fun {b m} ⟨o, es, ep, e, d, r⟩ => by
    refine ⟨o, es, ep, hidT_get e (un fun z => ?_), d, r⟩
    rw [z, ha] at e
    cases e
    cases d
  have inB : K.In (hidT s1.heap H) := fun b o e => hidT_get (KX b o e) (by
    cases q : H b with
    | none => rfl
    | some u =>
      have y := (hO b u q).1
      subst y
      have y2 : K.lookup b = none := hK u q
      rw [show K.lookup b = some o from e] at y2
      cases y2)
  obtain ⟨mc, l1, l2⟩ := hlim
  have e0 : Env0 P w K mg (hidT s1.heap H) callerA [] s1 H := ⟨rfl, ⟨inB, nsK hns, ⟨mb, nsK hb, hbb⟩, ⟨mc, nsK l1, l2⟩⟩, fun b o e => of_hidT e, Nat.le_of_eq (hidT_size _ _), trivial, fun b z => absurd (show b ∈ ([] : List Addr) from z) List.not_mem_nil, hok, .of_eq hg⟩
  refine codeAny_mono ((F _ inB (nsK hns)).go callerA [] s1 H ⟨[.ref a], []⟩ [.ref a] [.ref a] _ _ rfl hr e0 (hbind s1 (.ref a)) (.cons rfl .nil) hsp) fun r s' h => ?_
  match r, h with
  | .error e, h => exact (hCX e s' h).elim
  | .ok .next, h => exact False.elim h
  | .ok .brk, h => exact False.elim h
  | .ok .cont, h => exact False.elim h
  | .ok (.ret u), h =>
    obtain ⟨v, H', os, bare, U, hok', r', q⟩ := h
    obtain rfl : v = .bl true := q
    have ru : u = Value.bool true := r'; subst ru; refine ⟨rfl, OldK.of_keep fun b o e => ?_, os, bare⟩
    cases q : H b with
    | none => exact U.keep b o e q (fun z => absurd (show b ∈ ([] : List Addr) from z) List.not_mem_nil) List.not_mem_nil
    | some u =>
      obtain ⟨_, ob, xs, z⟩ := hO b u q
      subst z
      have y1 := (hok b _ q).1
      have y2 := (hok' b _ (U.frzs b ob _ q)).1
      rw [e] at y1
      cases y1
      exact y2
theorem walk_G {l : PySem.W.OpenLaw} {n k : Nat} {q : Program} {loose : List Str} {XP : (Str → Option Value) → Heap → Prop} {YP : World → Heap → Prop} {d : DefRec} {K : Params → PySem.W.Frag} {CX : World → CXT} {sp : World → Sp} {x : Str}
    (hn : l.most = some n) (hn2 : n ≤ sizeLine) (hdf : d.params.defaults = []) (hr : Room k callerA) (hY : ∀ (v : World) (h : Heap), YP v h → (K v.params).In h)
    (F : ∀ (w : World) (m : Str → Option Value) (fa : Addr) (h : Heap), (K w.params).In h → h.Ns mainGlobals m → m d.name = some (.ref fa) →
      ∃ fd : FuncData, (∀ (s : Shared) (u : Value), BindsTo s fd ⟨[u], []⟩ [(x, u)]) ∧ ∀ base : Heap, (K w.params).In base → base.Ns mainGlobals m → FnG l.prog w (K w.params) m base (CX w) k fa fd [x] (sp w))
    (hsp : ∀ (w : World) (H : Hp) (a : Addr) (ns : List Int), ns.length ≤ n → SqL (K w.params) H a (ns.map V.int) → (∀ b u, H b = some u → b = a) → sp w [.ref a] H (fun v _ => v = .bl true) fun _ _ _ => False)
    (hCX : ∀ (w : World) (G : Hp) (s : Shared) (e : Value) (s' : Shared), CX w [] G s (fun _ _ _ => False) e s' → False) : PySem.W.WalkO q loose XP YP l.row.toRowW d [] (fun f vs => PySem.call f vs) := by
  refine Att.attach_call hn hdf fun w s0 s1 mg mb fa o pm cd doc a vs ns G Y ho hd hcd hmg hobj hints hlen hgen => ?_
  have KX := hY w _ Y; obtain ⟨fd, hb, hF⟩ := F w mg fa _ KX G.T.g hmg
  have rv := ints_vals hints; have lv := hints.length
  cases hk : (K w.params).lookup a with
  | some o' =>
    have e := KX a o' hk
    rw [hobj] at e
    cases e
    exact lawG_core (H := fun _ => none) KX G.T.g G.T.b G.T.builtins G.T.nolimit hgen hobj hr hF hb (hsp w _ a ns hlen (.inr ⟨_, vs.toArray, _, hk, rfl, rfl, rfl, by rw [List.size_toArray, lv]; exact Nat.le_trans hlen hn2, by simpa using rv⟩) fun b u z => by cases z)
      (fun e s' => hCX w _ s1 e s') (fun b u z => by cases z) (fun b u z => by cases z) fun u z => by cases z
  | none =>
    have at_ : ∀ {b u}, (fun b => if b = a then some (HO.frz { cls := .type "list", data := .seq vs.toArray } (.lst (ns.map V.int))) else none) b = some u → b = a ∧ u = HO.frz { cls := .type "list", data := .seq vs.toArray } (.lst (ns.map V.int)) := fun {b u} z => by
      by_cases hba : b = a
      · exact ⟨hba, (Option.some.inj ((if_pos hba).symm.trans z)).symm⟩
      · exact absurd ((if_neg hba).symm.trans z) (fun y => nomatch y)
    refine lawG_core (H := fun b => if b = a then some (.frz { cls := .type "list", data := .seq vs.toArray } (.lst (ns.map V.int))) else none) KX G.T.g G.T.b G.T.builtins G.T.nolimit hgen hobj hr hF hb
      (hsp w _ a ns hlen (.inl (.inr ⟨_, if_pos rfl⟩)) fun b u z => (at_ z).1) (fun e s' => hCX w _ s1 e s') (fun b u z => ⟨(at_ z).1, _, _, (at_ z).2⟩) (fun b u z => ?_) fun _ _ => hk
    obtain ⟨e1, e2⟩ := at_ z
    subst e1
    subst e2
    exact ⟨hobj, by rw [List.length_map]; exact Nat.le_trans hlen hn2, vs, _, rv, hobj⟩
end HX
set_option Elab.async false
set_option linter.all false
set_option maxRecDepth 100000
set_option maxHeartbeats 4400000
namespace HX
open L2 PyProof.Rows PySem.Spec PySem
section
variable {X : Cx} {CX : CXT} {C f g : Addr} {k : Nat} {fd gd : FuncData} {ps ps' : List Str} {sp spR : Sp} {E : XK}
theorem op_eqN (T : CmC X.K C .Eq f g) (F1 : FnOk X.prog X.w X.K X.mg X.base CX k f fd ps sp) (b1 : Binds X.K fd ps []) (F2 : FnOk X.prog X.w X.K X.mg X.base CX k g gd ps' spR) (b2 : Binds X.K gd ps' []) (hr : Room k X.A) (hx : Passes CX X E) :
    OpR X (compareOp .Eq) (rOwn C sp spR E) := fun pins s σ H x y v u Q I rx ry h => op_cmpW ic_eq T F1 b1 F2 b2 hr hx pins s σ H x y v u Q I rx ry h
theorem op_neN (T : CmC X.K C .NotEq f g) (F1 : FnOk X.prog X.w X.K X.mg X.base CX k f fd ps sp) (b1 : Binds X.K fd ps []) (F2 : FnOk X.prog X.w X.K X.mg X.base CX k g gd ps' spR) (b2 : Binds X.K gd ps' []) (hr : Room k X.A) (hx : Passes CX X E) :
    OpR X (compareOp .NotEq) (rOwn C sp spR E) := fun pins s σ H x y v u Q I rx ry h => op_cmpW ic_ne T F1 b1 F2 b2 hr hx pins s σ H x y v u Q I rx ry h
theorem op_ltN (T : CmC X.K C .Lt f g) (F1 : FnOk X.prog X.w X.K X.mg X.base CX k f fd ps sp) (b1 : Binds X.K fd ps []) (F2 : FnOk X.prog X.w X.K X.mg X.base CX k g gd ps' spR) (b2 : Binds X.K gd ps' []) (hr : Room k X.A) (hx : Passes CX X E) :
    OpR X (compareOp .Lt) (rOwn C sp spR E) := fun pins s σ H x y v u Q I rx ry h => op_cmpW ic_lt T F1 b1 F2 b2 hr hx pins s σ H x y v u Q I rx ry h
theorem op_leN (T : CmC X.K C .LtE f g) (F1 : FnOk X.prog X.w X.K X.mg X.base CX k f fd ps sp) (b1 : Binds X.K fd ps []) (F2 : FnOk X.prog X.w X.K X.mg X.base CX k g gd ps' spR) (b2 : Binds X.K gd ps' []) (hr : Room k X.A) (hx : Passes CX X E) :
    OpR X (compareOp .LtE) (rOwn C sp spR E) := fun pins s σ H x y v u Q I rx ry h => op_cmpW ic_le T F1 b1 F2 b2 hr hx pins s σ H x y v u Q I rx ry h
theorem op_gtN (T : CmC X.K C .Gt f g) (F1 : FnOk X.prog X.w X.K X.mg X.base CX k f fd ps sp) (b1 : Binds X.K fd ps []) (F2 : FnOk X.prog X.w X.K X.mg X.base CX k g gd ps' spR) (b2 : Binds X.K gd ps' []) (hr : Room k X.A) (hx : Passes CX X E) :
    OpR X (compareOp .Gt) (rOwn C sp spR E) := fun pins s σ H x y v u Q I rx ry h => op_cmpW ic_gt T F1 b1 F2 b2 hr hx pins s σ H x y v u Q I rx ry h
theorem op_geN (T : CmC X.K C .GtE f g) (F1 : FnOk X.prog X.w X.K X.mg X.base CX k f fd ps sp) (b1 : Binds X.K fd ps []) (F2 : FnOk X.prog X.w X.K X.mg X.base CX k g gd ps' spR) (b2 : Binds X.K gd ps' []) (hr : Room k X.A) (hx : Passes CX X E) :
    OpR X (compareOp .GtE) (rOwn C sp spR E) := fun pins s σ H x y v u Q I rx ry h => op_cmpW ic_ge T F1 b1 F2 b2 hr hx pins s σ H x y v u Q I rx ry h
/-- i ** j, of an i that is neither -1, 0 nor 1, the result below 2 ^ 100000 -/
def CPowW (i j : Int) : Prop := 2 ≤ i ∧ 0 < j ∧ Builtin.Int.intTooBig (((Builtin.Int.intBits i : Nat) : Int) * j) = false
theorem op_powW : OpR X (binaryOp .Pow) (rI CPowW fun i j => .int (i ^ j.toNat)) := opI fun i j t u s Q E hc q => by
  obtain ⟨h1, h2, h3⟩ := hc
  have h4 : ¬ ((i == 0 || i == 1) = true) := by simp; omega
  have h5 : ¬ ((i == -1) = true) := by simp; omega
  exact AutoIntOps.pow_4 (by omega) (by simp; omega) h4 h5 (by rw [h3]; decide) q
end
/-- all that was known is known -/
abbrev Ex (H H' : Hp) : Prop := ∀ a o, H a = some o → H' a = some o
/-- .. but what stood at p -/
abbrev XB (p : Addr) (H H' : Hp) : Prop := ∀ a o, a ≠ p → H a = some o → H' a = some o
theorem Ex.rf (H : Hp) : Ex H H := fun _ _ h => h
theorem Ex.tr {H H1 H2 : Hp} (a : Ex H H1) (b : Ex H1 H2) : Ex H H2 := fun c o h => b c o (a c o h)
theorem Ex.nw {H : Hp} {p : Addr} {o : HO} (h : H p = none) : Ex H (upd H p o) := fun a u e => by rw [upd_ne (ne_of_none e h)]; exact e
theorem Ex.fr {H H' : Hp} {p : Addr} (e : Ex H H') (h : H' p = none) : H p = none := by
  cases q : H p with
  | none => rfl
  | some o => rw [e p o q] at h; cases h
theorem Ex.xb {H H' : Hp} {p : Addr} (e : Ex H H') : XB p H H' := fun a o _ h => e a o h
theorem XB.tr {H H1 H2 : Hp} {p : Addr} (a : XB p H H1) (b : XB p H1 H2) : XB p H H2 := fun c o n h => b c o n (a c o n h)
theorem XB.wr {H : Hp} {p : Addr} {o : HO} : XB p H (upd H p o) := fun a u n e => by rw [upd_ne n]; exact e
theorem XB.fr {H H' : Hp} {p q : Addr} {o : HO} (e : XB p H H') (hp : H' p = some o) (h : H' q = none) : H q = none := by
  cases z : H q with
  | none => rfl
  | some u =>
    by_cases y : q = p
    · rw [y, hp] at h; cases h
    · rw [e q u y z] at h; cases h
theorem if_dec {p : Prop} [Decidable p] {A B : Prop} (h1 : p → A) (h2 : ¬ p → B) : if decide p = true then A else B := by
  by_cases h : p
  · rw [decide_eq_true h]; exact iteT (h1 h)
  · rw [decide_eq_false h]; exact iteF (h2 h)
theorem if_eq {b c : Bool} {A B : Prop} (e : b = c) (h : if c = true then A else B) : if b = true then A else B := by rw [e]; exact h
theorem if_true {b : Bool} {A B : Prop} (e : b = true) (h : A) : if b = true then A else B := by rw [e]; exact iteT h
theorem if_false {b : Bool} {A B : Prop} (e : b = false) (h : B) : if b = true then A else B := by rw [e]; exact iteF h
end HX
set_option Elab.async false
set_option linter.all false
set_option maxRecDepth 100000
set_option maxHeartbeats 4400000
namespace HX
open L2 PyProof.Rows PySem.Spec PySem
/-- data whose repr is asked -/
structure Fine (d : PyData) : Prop where
  sh : d.showable = true
  nd : d.hasDict = false
  dp : d.depth ≤ 60
  ln : d.shown.length ≤ sizeLine
theorem sh_int {i : Int} (h0 : -1000000 ≤ i) (h1 : i ≤ 1000000) : (PyData.int i).showable = true := by
  unfold PyData.showable
  have h : i.natAbs < 2 ^ 64 := by omega
  have h2 : i.natAbs.log2 < 64 := PySem.Flt.log2_lt_of (by decide) h
  first | exact decide_eq_true (by omega)
theorem ls_int {i : Int} (h0 : -1000000 ≤ i) (h1 : i ≤ 1000000) : (PyData.int i).leavesShort 13 = true := by
  have h := PyData.shown_int_le (i := i) (by omega)
  unfold PyData.leavesShort
  simpa [PyData.shown] using h
/-- a flat item -/
inductive Flat : PyData → Prop
  | non : Flat .none
  | bl (b : Bool) : Flat (.bool b)
  | int (i : Int) (h0 : -1000000 ≤ i) (h1 : i ≤ 1000000) : Flat (.int i)
  | str (x : Str) (h : x.cps.size ≤ 60) (hc : (x.cps.toList.all fun c => decide (c < 16 ^ 8)) = true) : Flat (.str x)
theorem Flat.all {ds : List PyData} (h : ∀ d ∈ ds, Flat d) : PyData.showableAll ds = true ∧ PyData.hasDictAll ds = false ∧ PyData.leavesShortAll 13 ds = true ∧ PyData.depthAll ds ≤ 1 ∧ PyData.weightAll ds ≤ 70 * ds.length := by
  induction ds with
  | nil => simp [PyData.showableAll, PyData.hasDictAll, PyData.leavesShortAll, PyData.depthAll, PyData.weightAll]
  | cons d ds ih =>
    obtain ⟨i1, i2, i3, i4, i5⟩ := ih fun x hx => h x (List.mem_cons_of_mem _ hx)
    have hd := h d List.mem_cons_self
    simp only [PyData.showableAll, PyData.hasDictAll, PyData.leavesShortAll, PyData.depthAll, PyData.weightAll, i1, i2, i3, Bool.and_true, Bool.or_false, List.length_cons]
    cases hd with
    | non => simp [PyData.showable, PyData.hasDict, PyData.leavesShort, PyData.depth, PyData.weight]; omega
    | bl b => simp [PyData.showable, PyData.hasDict, PyData.leavesShort, PyData.depth, PyData.weight]; omega
    | int i h0 h1 =>
      have h2 : i.natAbs.log2 < 64 := PySem.Flt.log2_lt_of (by decide) (by omega : i.natAbs < 2 ^ 64)
      simp only [sh_int h0 h1, PyData.hasDict, ls_int h0 h1, PyData.depth, PyData.weight]
      refine ⟨by first | rfl | trivial, by first | rfl | trivial, by first | rfl | trivial, by omega, ?_⟩
      split <;> omega
    | str x hx hc =>
      simp only [PyData.showable, PyData.hasDict, PyData.leavesShort, PyData.depth, PyData.weight, hc]
      refine ⟨by first | rfl | trivial, by first | rfl | trivial, by first | rfl | trivial, by omega, by omega⟩
theorem fine_list {ds : List PyData} (h : ∀ d ∈ ds, Flat d) (hl : ds.length ≤ 1000) : Fine (.list ds) := by
  obtain ⟨h1, h2, h3, h4, h5⟩ := Flat.all h
  refine ⟨by simp only [PyData.showable, h1], by simp only [PyData.hasDict, h2], by simp only [PyData.depth]; omega, PyData.shown_fits (B := 13) (by decide) (by decide) (by simp only [PyData.leavesShort, h3]) (by simp only [PyData.weight]; omega)⟩
theorem fine_tup {ds : List PyData} (h : ∀ d ∈ ds, Flat d) (hl : ds.length ≤ 1000) : Fine (.tuple ds) := by
  obtain ⟨h1, h2, h3, h4, h5⟩ := Flat.all h
  refine ⟨by simp only [PyData.showable, h1], by simp only [PyData.hasDict, h2], by simp only [PyData.depth]; omega, PyData.shown_fits (B := 13) (by decide) (by decide) (by simp only [PyData.leavesShort, h3]) (by simp only [PyData.weight]; omega)⟩
theorem fine_non : Fine .none := ⟨rfl, rfl, by decide, by simp only [PyData.shown]; decide +kernel⟩
theorem fine_bl (b : Bool) : Fine (.bool b) := ⟨rfl, rfl, by simp [PyData.depth], by cases b <;> simp only [PyData.shown] <;> decide +kernel⟩
theorem flat_zero : Flat (.str "zero") := .str _ (by decide +kernel) (by decide +kernel)
/-- flat values and their data -/
def fl : V → PyData
  | .non => .none
  | .bl b => .bool b
  | .int i => .int i
  | .str x => .str x
  | _ => .none
def isFl : V → Bool
  | .non | .bl _ | .int _ | .str _ => true
  | _ => false
theorem dq_fl {K : PySem.W.Frag} {H : Hp} {v : V} (h : isFl v = true) : Dq K H v (fl v) := by
  cases v <;> first | exact .non | exact .bl _ | exact .int _ | exact .str _ | cases h
theorem dq_items {K : PySem.W.Frag} {H : Hp} {xs : List V} (h : xs.all isFl = true) : ∀ (i : Nat) (v : V) (d : PyData), xs[i]? = some v → (xs.map fl)[i]? = some d → Dq K H v d := fun i v d e1 e2 => by
  rw [List.getElem?_map, e1] at e2
  cases e2
  exact dq_fl (List.all_eq_true.mp h v (List.mem_of_getElem? e1))
theorem dq_lst {K : PySem.W.Frag} {H : Hp} {a : Addr} {xs : List V} (e : H a = some (.lst xs)) (h : xs.all isFl = true) : Dq K H (.ref a) (.list (xs.map fl)) := .lst (SqL.of e) (by rw [List.length_map]) (dq_items h)
theorem dq_tup {K : PySem.W.Frag} {H : Hp} {a : Addr} {xs : List V} (e : H a = some (.tup xs)) (h : xs.all isFl = true) : Dq K H (.ref a) (.tuple (xs.map fl)) := .tup (SqT.of e) (by rw [List.length_map]) (dq_items h)
end HX
set_option Elab.async false
set_option linter.all false
set_option maxRecDepth 100000
set_option maxHeartbeats 4400000
namespace HX
open L2 PyProof.Rows PySem.Spec PySem
section
variable {X : Cx} {CX : CXT} {C f : Addr} {k : Nat} {fd : FuncData} {ps : List Str} {sp : Sp} {E : L2.St → XK} {a b e : Expr} {ta tb te : TE} {pos pos' : Pos} {x : Str} {i : Nat} {op : Operator}
/-- a def run within a call of a builtin -/
theorem run_one {pins : List (Addr × Obj)} {σ : L2.St} {H : Hp} {s : Shared} {Q : VK} {us : List Value} {vs : List V} {E : XK} (F : FnOk X.prog X.w X.K X.mg X.base CX k f fd ps sp) (hr : Room (k + 1) X.A) (hb : Binds X.K fd ps []) (hx : PassesAt CX X σ E)
    (I : L2.Inv X pins σ H s) (r : Vals vs us) (h : sp vs H Q E) : wpAny (model X.prog X.w) X.A.in1 (call (.ref f) us) (EP X pins σ Q) X.xe s := by
  have few : (us ++ []).length = ps.length := by rw [List.append_nil, ← r.length]; exact F.len _ _ _ _ h
  have bound := hb s us I.kIn few; rw [List.append_nil] at bound
  refine wpAny_call (codeAny_mono (F.run X.A.in1 X.stack s H ⟨us, []⟩ us vs Q E hr.in1 I.env0.in1 bound r h) fun z s' hq => ?_)
  match z, hq with
  | .ok (.ret u), w => exact I.after w
  | .ok .next, w | .ok .brk, w | .ok .cont, w => exact False.elim w
  | .error er, w => exact hx pins H s er s' I w
/-- a[b] of an own class -/
def tSubO (C : Addr) (sp : Sp) (E : L2.St → XK) (ta tb : TE) : TE := fun σ H Q => ta σ H fun x H1 => tb σ H1 fun y H2 => isI C H2 x ∧ sp [x, y] H2 Q (E σ)
theorem pe_subO (hs : PySem.W.findIn X.K (.ref C) "__getitem__" = some (some (.ref f))) (hf : PySem.W.fnIn X.K f = true) (hfn : PySem.W.isFn X.K (.ref f) = true) (F : FnOk X.prog X.w X.K X.mg X.base CX k f fd ps sp) (hb : Binds X.K fd ps []) (hr : Room (k + 1) X.A)
    (hx : ∀ σ, PassesAt CX X σ (E σ)) (ha : PE X a ta) (hbb : PE X b tb) (hsl : ∀ x i, subscripted b true (.ref x) i = runValue (.builtin "lifetime.subscript" ⟨[.ref x, i], []⟩)) : PE X (.Subscript a b pos) (tSubO C sp E ta tb) := by
  refine ⟨fun pins s σ H Q I h => ?_⟩
  refine Subscript_ (binT ha hbb I h fun v u s2 x y H2 I2 rx ry q => ?_)
  obtain ⟨m, hF⟩ := I2.fr
  obtain ⟨⟨p, dx, fs, rfl, ep⟩, q⟩ := q
  obtain ⟨od, J⟩ := isI_inst I2 ep
  cases (id rx : v = Value.ref p)
  exact PySem.W.sub_K hF I2.ok.mod.kin J hs hf hfn (run_one (us := [.ref p, u]) (vs := [.ref p, y]) F hr hb (hx σ) I2 (.cons rfl (.cons ry .nil)) q) (hsl _ _)
/-- o[i] = v of an own class -/
def gSubO (C : Addr) (sp : Sp) (E : L2.St → XK) (to ti : TE) : TG := fun v σ H Q => to σ H fun o H1 => ti σ H1 fun i H2 => isI C H2 o ∧ sp [o, i, v] H2 (fun _ H3 => Q σ H3) (E σ)
theorem pg_subO (hq : PySem.W.noSeq X.K C = true) (hs : PySem.W.findIn X.K (.ref C) "__setitem__" = some (some (.ref f))) (hfn : PySem.W.isFn X.K (.ref f) = true) (F : FnOk X.prog X.w X.K X.mg X.base CX k f fd ps sp) (hb : Binds X.K fd ps []) (hr : Room k X.A)
    (hx : ∀ σ, PassesAt CX X σ (E σ)) (ho : PE X a ta) (hi : PE X b tb)
    (ha : ∀ v, assign (.Subscript a b pos) X.env v = (do let o1 ← holding [v] (eval a X.env); let i1 ← holding [v, o1] (eval b X.env); standAt pos; holding [v, o1, i1] (setItem o1 i1 v); release [v, o1, i1] []) := by intro _; rfl) : PG X (.Subscript a b pos) (gSubO C sp E ta tb) := by
  refine ⟨fun pp t τ G val vv R J rv w => ?_⟩
  rw [ha]
  refine wpAny_bind (wpAny_holding (thn (ho.run pp t τ G _ J w) fun o1 t1 ⟨x, G1, J1, rx, w1⟩ => wpAny_bind (wpAny_holding (thn (hi.run pp t1 τ G1 _ J1 w1) fun i1 t2 ⟨y, G2, J2, ry, w2⟩ => ?_))))
  obtain ⟨⟨p, dx, fs, rfl, ep⟩, q⟩ := w2
  obtain ⟨m, hF⟩ := J2.fr
  obtain ⟨od, W⟩ := isI_inst J2 ep
  have eo : o1 = Value.ref p := rx; subst eo
  have done := run_fnS (us := [.ref p, i1, vv]) (vs := [.ref p, y, val]) F hr hb (hx τ) J2 (.cons rfl (.cons ry (.cons rv .nil))) q
  exact wpAny_bind (wpAny_standAt (wpAny_bind (wpAny_holding (PySem.W.ksp_setItem hF J2.ok.mod.kin W hq hs hfn (thn done fun _ t3 ⟨_, G3, J3, _, w3⟩ => wpAny_release ⟨τ, G3, J3, w3⟩)))))
/-- x op= e of an own class -/
def tAugO (C : Addr) (sp : Sp) (E : L2.St → XK) (i : Nat) (te : TE) : TS := fun D σ H => ∃ x, σ[i]? = some (some x) ∧ te σ H fun y H1 => isI C H1 x ∧ sp [x, y] H1 (fun z H2 => D.nx (σ.set i (some z)) H2) (E σ)
theorem ps_augO (hc : PySem.W.selfFirst X.K C = true) (hs : PySem.W.findIn X.K (.ref C) (dunderI op.info.2) = some (some (.ref f))) (hfn : PySem.W.isFn X.K (.ref f) = true) (F : FnOk X.prog X.w X.K X.mg X.base CX k f fd ps sp) (hb : Binds X.K fd ps []) (hr : Room k X.A)
    (hxx : ∀ σ, PassesAt CX X σ (E σ)) (hN : X.N.Nodup) (hi : X.N[i]? = some x) (hx : X.env.scope.names.lookup x = some .local) (he : PE X e te) : PS X (.AugAssign (.Name x pos') op e pos) (tAugO C sp E i te) := by
  refine ⟨fun pp t τ G D J w => wpAny_AugAssign_Name ?_⟩
  obtain ⟨v, e1, w⟩ := w
  obtain ⟨m, hn, hl⟩ := J.loc
  obtain ⟨u, r, l⟩ := hl i x v hi e1 (.inl hx)
  rcases l with ⟨hk, hm⟩ | ⟨hk, _⟩
  · refine wpAny_loadName_local J.ok.kind hk hn hm (thn (he.run pp t τ G _ J w) fun b t1 ⟨y, G1, J1, r1, w1⟩ => ?_)
    obtain ⟨⟨p, dx, fs, rfl, ep⟩, q⟩ := w1
    obtain ⟨m1, hF⟩ := J1.fr
    obtain ⟨od, W⟩ := isI_inst J1 ep
    have eu : u = Value.ref p := r; subst eu
    have done := run_fnS (us := [.ref p, b]) (vs := [.ref p, y]) F hr hb (hxx τ) J1 (.cons rfl (.cons r1 .nil)) q
    refine thn (PySem.W.ksp_inplace hF J1.ok.mod.kin W hc hs hfn (thn done fun z t2 hz => ep_back hz)) fun z t2 ⟨zv, G2, J2, r2, w2⟩ => ?_
    exact store_ok J2 hN hi (.inl hx) r2 (fun t3 J3 => ⟨_, G2, J3, w2⟩) (.inr hx)
  · rcases hk with hk | hk <;> (have z : X.env.scope.names.lookup x = _ := hk; rw [hx] at z; cases z)
/-- len of an own class -/
def rLenO (C : Addr) (sp : Sp) (E : XK) : List V → Hp → VK → Prop := fun xs H Q => ∃ x, xs = [x] ∧ isI C H x ∧ sp [x] H (fun v H' => ∃ n : Nat, v = .int n ∧ n < 1000 ∧ Q (.int n) H') E
theorem call_lenO {E : XK} (hs : PySem.W.findIn X.K (.ref C) "__len__" = some (some (.ref f))) (hf : PySem.W.isFn X.K (.ref f) = true) (F : FnOk X.prog X.w X.K X.mg X.base CX k f fd ps sp) (hb : Binds X.K fd ps []) (hr : Room (k + 1) X.A) (hx : Passes CX X E) :
    CallR X (.builtin "len") (rLenO C sp E) := by
  intro pins s σ H xs us; intro Q I r h
  obtain ⟨m, hF⟩ := I.fr
  obtain ⟨x, rfl, ⟨p, dx, fs, rfl, ep⟩, q⟩ := h
  obtain ⟨od, J⟩ := isI_inst I ep
  cases r with
  | cons r1 r2 =>
    cases r2
    rename_i u
    cases (id r1 : u = Value.ref p)
    refine PySem.W.len_K hF I.ok.mod.kin J hs hf (thn (run_one (us := [.ref p]) (vs := [.ref p]) F hr hb (fun pins H s e s' => hx pins σ H s e s') I (.cons rfl .nil) q) fun z s2 hz => ?_)
    obtain ⟨v, H2, I2, r3, n, rfl, hn, q2⟩ := hz
    obtain ⟨t, rfl⟩ := r3
    exact ⟨⟨by omega, by omega⟩, .int n, H2, I2.tok _, ⟨_, rfl⟩, q2⟩
end
end HX
set_option Elab.async false
set_option linter.all false
set_option maxRecDepth 100000
set_option maxHeartbeats 4400000
namespace HX
open L2 PyProof.Rows PySem.Spec PySem
section
variable {X : Cx} {es : List Expr} {t : TA} {pos : Pos}
/-- a new list stands apart from the table of modules -/
def tLstN (t : TA) : TE := fun σ H Q => t σ H fun xs H1 => xs.length ≤ sizeLine ∧ ∀ p, H1 p = none → p ≠ sysModules → Q (.ref p) (upd H1 p (.lst xs))
theorem pe_lstN (h : PA X es t) : PE X (.List es pos) (tLstN t) := by
  refine ⟨fun pins s σ H Q I hq => wpAny_List_spliced (thn (h.run pos pins s σ H _ I hq) fun us s1 ⟨xs, H1, I1, r, z, q⟩ => ⟨by rw [← r.length]; exact z, ?_⟩)⟩
  have e0 : H1 s1.heap.objs.size = none := I1.hok.fresh (Nat.le_refl _)
  have e1 : Inv X pins σ (upd H1 s1.heap.objs.size (.lst xs)) _ := I1.laid (t' := s1.toks) (fun b u e => Heap.get?_push_of_some _ e) (Nat.le_refl _) ⟨z, us, 0, r, Heap.get?_push_size _ rfl⟩
  exact ⟨.ref _, _, e1, rfl, q _ e0 (Nat.ne_of_gt I1.big)⟩
end
/-- data at any depth, dicts by texts too; its lists stand apart from the table of modules, and from the list at p -/
inductive Dz (p : Addr) (H : Hp) : V → PyData → Prop
  | non : Dz p H .non .none
  | bl (b : Bool) : Dz p H (.bl b) (.bool b)
  | int (i : Int) : Dz p H (.int i) (.int i)
  | str (x : Str) : Dz p H (.str x) (.str x)
  | lst {a : Addr} {xs : List V} {ds : List PyData} : H a = some (.lst xs) → a ≠ sysModules → a ≠ p → xs.length = ds.length → (∀ (i : Nat) (v : V) (d : PyData), xs[i]? = some v → ds[i]? = some d → Dz p H v d) → Dz p H (.ref a) (.list ds)
  | tup {a : Addr} {xs : List V} {ds : List PyData} : H a = some (.tup xs) → xs.length = ds.length → (∀ (i : Nat) (v : V) (d : PyData), xs[i]? = some v → ds[i]? = some d → Dz p H v d) → Dz p H (.ref a) (.tuple ds)
  | dct {a : Addr} {ks : List (Str × V)} {ds : List PyData} : H a = some (.dK (ks.map fun p => (Sum.inr p.1, p.2))) → ks.length = ds.length → (∀ (i : Nat) (v : V) (d : PyData), (ks.map (·.2))[i]? = some v → ds[i]? = some d → Dz p H v d) → Dz p H (.ref a) (.dict ((ks.map fun p => PyData.str p.1).zip ds))
theorem Dz.ex {p : Addr} {H H' : Hp} {v : V} {d : PyData} (h : Dz p H v d) (e : Ex H H') : Dz p H' v d := by
  induction h with
  | non => exact .non
  | bl b => exact .bl b
  | int i => exact .int i
  | str x => exact .str x
  | lst h n m hl _ ih => exact .lst (e _ _ h) n m hl ih
  | tup h hl _ ih => exact .tup (e _ _ h) hl ih
  | dct h hl _ ih => exact .dct (e _ _ h) hl ih
theorem Dz.xb {p : Addr} {H H' : Hp} {v : V} {d : PyData} {zs : List V} (h : Dz p H v d) (hp : H p = some (.lst zs)) (e : XB p H H') : Dz p H' v d := by
  induction h with
  | non => exact .non
  | bl b => exact .bl b
  | int i => exact .int i
  | str x => exact .str x
  | lst h n m hl _ ih => exact .lst (e _ _ m h) n m hl ih
  | tup h hl _ ih => exact .tup (e _ _ (ne_of h hp (by intro y; cases y)) h) hl ih
  | dct h hl _ ih => exact .dct (e _ _ (ne_of h hp (by intro y; cases y)) h) hl ih
section
variable {H : Hp} {X : Cx} {σ : L2.St} {pins : List (Addr × Obj)} {s : Shared}
theorem readsAllM {h : Heap} : ∀ {us : List Value} {ds : List PyData}, us.length = ds.length → (∀ (i : Nat) (u : Value) (d : PyData), us[i]? = some u → ds[i]? = some d → ∃ as, Reads h u d as ∧ sysModules ∉ as) → ∃ as, ReadsAll h us ds as ∧ sysModules ∉ as
  | [], [], _, _ => ⟨_, .nil, by simp⟩
  | [], _ :: _, z, _ | _ :: _, [], z, _ => by simp at z
  | u :: us, d :: ds, hl, h => by
    obtain ⟨as, q1, m1⟩ := h 0 u d rfl rfl
    obtain ⟨bs, q2, m2⟩ := readsAllM (us := us) (ds := ds) (by simpa using hl) fun i u d e1 e2 => h (i + 1) u d (by simpa using e1) (by simpa using e2)
    exact ⟨_, .cons q1 q2, by rw [List.mem_append]; exact fun z => z.elim m1 m2⟩
theorem pairs_keys {P : Program} {w : World} {h : Heap} : ∀ {es : List DictEntry} {ks : List (Str × V)} {vs : List (Key × Value)}, Pairs (mixKind P w) es vs → KV (ks.map fun p => (Sum.inr p.1, p.2)) vs →
    ReadsAll h (es.map (·.key)) (ks.map fun p => PyData.str p.1) [] ∧ Vals (ks.map (·.2)) (es.map (·.val))
  | [], [], _, _, _ => ⟨.nil, .nil⟩
  | _ :: _, [], _, hp, hk => by cases hk; cases hp
  | [], _ :: _, _, hp, hk => by cases hk; cases hp
  | e :: es, k :: ks, _, hp, hk => by
    cases hk with
    | cons h1 h2 =>
      cases hp with
      | cons i1 i2 i3 =>
        obtain ⟨q1, q2⟩ := pairs_keys (h := h) i3 h2
        obtain ⟨h3, h4⟩ := h1
        refine ⟨?_, .cons (by show RelV k.2 e.val; rw [i2]; exact h4) q2⟩
        have i0 : keyIs (Sum.inr k.1) e.key = true := by
          have z : (Sum.inr k.1 : Key) = _ := h3
          rw [z]; exact i1
        rcases keyIs_shape i0 with ⟨i, t, z, _⟩ | ⟨x, t, z, y⟩
        · cases z
        · cases z
          refine ReadsAll.cons (as := []) (bs := []) ?_ q1
          show Reads h e.key (PyData.str k.1) []
          rw [show e.key = Value.str k.1 t from y]
          exact .str _ _
theorem Dz.reads {p : Addr} (I : L2.Inv X pins σ H s) {v : V} {d : PyData} (h : Dz p H v d) : ∀ u, RelV v u → ∃ as, Reads s.heap u d as ∧ sysModules ∉ as := by
  induction h with
  | non => intro u r; cases r; exact ⟨_, .none, by simp⟩
  | bl b => intro u r; cases r; exact ⟨_, .bool b, by simp⟩
  | int i => intro u r; obtain ⟨t, rfl⟩ := r; exact ⟨_, .int i t, by simp⟩
  | str x => intro u r; obtain ⟨t, rfl⟩ := r; exact ⟨_, .str x t, by simp⟩
  | @lst a xs ds hs na _ hl hi ih =>
    intro u r
    cases r
    obtain ⟨its, rv, ⟨o, n, ho, hc, _, hd⟩, _⟩ := I.list (SqL.of hs)
    obtain ⟨as, q, m⟩ := readsAllM (h := s.heap) (us := its) (ds := ds) (rv.length.symm.trans hl) fun i u d e1 e2 => by
      obtain ⟨v, hv⟩ : ∃ v, xs[i]? = some v := ⟨_, List.getElem?_eq_getElem (by have := (List.getElem?_eq_some_iff.mp e1).1; rw [rv.length]; exact this)⟩
      obtain ⟨u', hu, ru⟩ := rv.get hv; rw [e1] at hu; cases hu
      exact ih i v d hv e2 u ru
    exact ⟨_, .list ho hc hd q, by rw [List.mem_cons]; exact fun z => z.elim (fun e => na e.symm) m⟩
  | @tup a xs ds hs hl hi ih =>
    intro u r
    cases r
    obtain ⟨its, rv, ⟨o, ho, hc, n, hd⟩, _⟩ := I.tuple (SqT.of hs)
    obtain ⟨as, q, m⟩ := readsAllM (h := s.heap) (us := its) (ds := ds) (rv.length.symm.trans hl) fun i u d e1 e2 => by
      obtain ⟨v, hv⟩ : ∃ v, xs[i]? = some v := ⟨_, List.getElem?_eq_getElem (by have := (List.getElem?_eq_some_iff.mp e1).1; rw [rv.length]; exact this)⟩
      obtain ⟨u', hu, ru⟩ := rv.get hv; rw [e1] at hu; cases hu
      exact ih i v d hv e2 u ru
    exact ⟨_, .tuple ho hc hd q, m⟩
  | @dct a ks ds hs hl hi ih =>
    intro u r
    cases r
    obtain ⟨_, na, vs, kv, o, es, ep, ho, hc, hd, _, hp, _⟩ := dk_of I.hok hs
    obtain ⟨q1, rv⟩ := pairs_keys (h := s.heap) hp kv
    obtain ⟨as, q, m⟩ := readsAllM (h := s.heap) (us := es.toList.map (·.val)) (ds := ds) (rv.length.symm.trans (by rw [List.length_map]; exact hl)) fun i u d e1 e2 => by
      obtain ⟨v, hv⟩ : ∃ v, (ks.map (·.2))[i]? = some v := ⟨_, List.getElem?_eq_getElem (by have := (List.getElem?_eq_some_iff.mp e1).1; rw [rv.length]; exact this)⟩
      obtain ⟨u', hu, ru⟩ := rv.get hv; rw [e1] at hu; cases hu
      exact ih i v d hv e2 u ru
    have l1 : (ks.map fun p => PyData.str p.1).length ≤ ds.length := by rw [List.length_map, hl]; exact Nat.le_refl _
    have l2 : ds.length ≤ (ks.map fun p => PyData.str p.1).length := by rw [List.length_map, hl]; exact Nat.le_refl _
    refine ⟨_, .dict (as := []) (bs := as) ho hc.1 hd (by rw [List.map_fst_zip l1]; exact q1) (by rw [List.map_snd_zip l2]; exact q), ?_⟩
    rw [List.mem_append, List.mem_singleton]
    exact fun z => z.elim (fun e => by rw [← e] at na; simp at na) m
end
section
variable {X : Cx}
/-- repr of such data -/
def rReprZ : List V → Hp → VK → Prop := fun xs H Q => ∃ v d p, xs = [v] ∧ Dz p H v d ∧ d.showable = true ∧ d.depth ≤ 60 ∧ d.shown.length ≤ sizeLine ∧ Q (.str d.shown) H
theorem call_reprZ (hgd : X.A.guards = some []) (hu : X.A.units + 64 < cLine) : CallR X (.builtin "repr") rReprZ := by
  intro pins s σ H xs us; intro Q I r h
  obtain ⟨v, d, p, rfl, hd, hs, hp, hz, q⟩ := h
  cases r with
  | cons r1 r2 =>
    cases r2
    rename_i u
    obtain ⟨as, hr, hm⟩ := hd.reads I u r1
    have fin : ∀ h' t tk, (∀ b o, s.heap.get? b = some o → h'.get? b = some o) → EP X pins σ Q (.str d.shown t) { s with heap := h', toks := tk } := fun h' t tk k => ⟨.str d.shown, H, I.kept k, ⟨_, rfl⟩, q⟩
    cases hr with
    | none => exact PySem.P.repr_of_none (fin _ _ _ fun _ _ z => z)
    | bool b => exact PySem.P.repr_of_bool (fin _ _ _ fun _ _ z => z)
    | int i t => exact PySem.P.repr_of_int (by simpa [PyData.showable] using hs) (fin _ _ _ fun _ _ z => z)
    | str x t => exact PySem.P.repr_of_str (fin _ _ _ fun _ _ z => z)
    | list h1 h2 h3 h4 => exact repr_of_reads' (.list h1 h2 h3 h4) hs (fun _ => hm) hgd (by omega) (fun _ _ z => z) (fun h' u tk k => fin h' u tk k) hz
    | tuple h1 h2 h3 h4 => exact repr_of_reads' (.tuple h1 h2 h3 h4) hs (fun _ => hm) hgd (by omega) (fun _ _ z => z) (fun h' u tk k => fin h' u tk k) hz
    | dict h1 h2 h3 h4 h5 => exact repr_of_reads' (.dict h1 h2 h3 h4 h5) hs (fun _ => hm) hgd (by omega) (fun _ _ z => z) (fun h' u tk k => fin h' u tk k) hz
end
end HX
set_option Elab.async false
set_option linter.all false
set_option maxRecDepth 100000
set_option maxHeartbeats 4400000
namespace HX
open L2 PyProof.Rows PySem.Spec PySem
theorem ok_app {a b : Str} (ha : PyData.strOk a = true) (hb : PyData.strOk b = true) : PyData.strOk (a ++ b) = true := by
  unfold PyData.strOk at *
  show (a.cps ++ b.cps).all _ = true
  rw [Array.all_append, ha, hb]; rfl
theorem ok_list {a : Str} (h : PyData.strOk a = true) : PyData.strOk (listText [a]) = true := by
  show PyData.strOk (((("[" : Str) ++ (("" : String) : Str)) ++ a) ++ "]") = true
  exact ok_app (ok_app (by decide +kernel) h) (by decide +kernel)
theorem ok_tup1 {a : Str} (h : PyData.strOk a = true) : PyData.strOk (tupleText [a]) = true := by
  show PyData.strOk ((("(" : Str) ++ a) ++ ((",)" : String) : Str)) = true
  exact ok_app (ok_app (by decide +kernel) h) (by decide +kernel)
theorem ok_tup2 {a b : Str} (h : PyData.strOk a = true) (k : PyData.strOk b = true) : PyData.strOk (tupleText [a, b]) = true := by
  show PyData.strOk ((("(" : Str) ++ (a ++ ", " ++ b)) ++ ((")" : String) : Str)) = true
  exact ok_app (ok_app (by decide +kernel) (ok_app (ok_app h (by decide +kernel)) k)) (by decide +kernel)
theorem ok_dict {a b : Str} (h : PyData.strOk a = true) (k : PyData.strOk b = true) : PyData.strOk (dictText [a ++ ": " ++ b]) = true := by
  show PyData.strOk ((("{" : Str) ++ (a ++ ": " ++ b)) ++ (("}" : String) : Str)) = true
  exact ok_app (ok_app (by decide +kernel) (ok_app (ok_app h (by decide +kernel)) k)) (by decide +kernel)
/-- data of a bounded text: n sheaths about small data -/
structure Bd (n : Nat) (d : PyData) : Prop where
  sh : d.showable = true
  dp : d.depth ≤ n + 4
  lv : d.leavesShort 24 = true
  wt : d.weight ≤ 60 * n + 400
  ok : PyData.strOk d.shown = true
theorem Bd.up {n m : Nat} {d : PyData} (h : Bd n d) (e : n ≤ m) : Bd m d := ⟨h.sh, by have := h.dp; omega, h.lv, by have := h.wt; omega, h.ok⟩
theorem Bd.l1 {n : Nat} {d : PyData} (h : Bd n d) : Bd (n + 1) (.list [d]) := by
  have a := h.dp; have b := h.wt
  refine ⟨by simp only [PyData.showable, PyData.showableAll, h.sh, Bool.and_self], ?_, by simp only [PyData.leavesShort, PyData.leavesShortAll, h.lv, Bool.and_self], ?_, ?_⟩
  · simp only [PyData.depth, PyData.depthAll]; omega
  · simp only [PyData.weight, PyData.weightAll]; omega
  · show PyData.strOk (listText [d.shown]) = true; exact ok_list h.ok
theorem Bd.t1 {n : Nat} {d : PyData} (h : Bd n d) : Bd (n + 1) (.tuple [d]) := by
  have a := h.dp; have b := h.wt
  refine ⟨by simp only [PyData.showable, PyData.showableAll, h.sh, Bool.and_self], ?_, by simp only [PyData.leavesShort, PyData.leavesShortAll, h.lv, Bool.and_self], ?_, ?_⟩
  · simp only [PyData.depth, PyData.depthAll]; omega
  · simp only [PyData.weight, PyData.weightAll]; omega
  · show PyData.strOk (tupleText [d.shown]) = true; exact ok_tup1 h.ok
/-- (d, 1) -/
theorem Bd.t2 {n : Nat} {d : PyData} (h : Bd n d) : Bd (n + 1) (.tuple [d, .int 1]) := by
  have a := h.dp; have b := h.wt
  have s1 : (PyData.int 1).showable = true := by decide +kernel
  have l1 : (PyData.int 1).leavesShort 24 = true := by decide +kernel
  have d1 : (PyData.int 1).depth = 0 := by decide +kernel
  have w1 : (PyData.int 1).weight = 1 := by decide +kernel
  refine ⟨by simp only [PyData.showable, PyData.showableAll, h.sh, Bool.true_and]; exact (Bool.and_true _).trans s1, ?_, by simp only [PyData.leavesShortAll, h.lv, l1, PyData.leavesShort, Bool.true_and]; first | rfl | exact (Bool.and_true _).trans l1, ?_, ?_⟩
  · simp only [PyData.depth, PyData.depthAll]; omega
  · have e : (PyData.tuple [d, .int 1]).weight = d.weight + 1 + ((PyData.int 1).weight + 1 + 0) := by simp only [PyData.weight, PyData.weightAll]
    omega
  · show PyData.strOk (tupleText [d.shown, (PyData.int 1).shown]) = true; exact ok_tup2 h.ok (by decide +kernel)
/-- {k: d}, k a short text -/
theorem Bd.d1 {n : Nat} {d : PyData} {k : Str} (h : Bd n d) (hk : k.cps.size ≤ 20) (hok : PyData.strOk (PyData.str k).shown = true) (hc : (k.cps.toList.all fun c => decide (c < 16 ^ 8)) = true) : Bd (n + 1) (.dict [(.str k, d)]) := by
  have a := h.dp; have b := h.wt
  refine ⟨by simp only [PyData.showable, PyData.showableKv, h.sh, Bool.and_self], ?_, by simp only [PyData.leavesShort, PyData.leavesShortKv, h.lv, hc, Bool.and_self], ?_, ?_⟩
  · simp only [PyData.depth, PyData.depthKv]; omega
  · simp only [PyData.weight, PyData.weightKv]; omega
  · show PyData.strOk (dictText [((PyData.str k).shown ++ ": " ++ d.shown)]) = true; exact ok_dict hok h.ok
theorem Bd.len {n : Nat} {d : PyData} (h : Bd n d) (hn : n ≤ 50) : d.shown.length ≤ sizeLine := by
  have q := PyData.shown_le 24 (by decide) d h.lv
  have b := h.wt
  have e := sizeLine_eq
  have m : (24 + 2) * d.weight ≤ 26 * 3400 := Nat.mul_le_mul_left _ (by omega)
  omega
/-- small data at once -/
theorem Bd.of {d : PyData} (h : (d.showable && decide (d.depth ≤ 4) && d.leavesShort 24 && decide (d.weight ≤ 400) && PyData.strOk d.shown) = true) : Bd 0 d := by
  simp only [Bool.and_eq_true, decide_eq_true_eq] at h
  exact ⟨h.1.1.1.1, by have := h.1.1.1.2; omega, h.1.1.2, by have := h.1.2; omega, h.2⟩
example : Bd 0 (.int (10 ^ 17)) := .of (by decide +kernel)
example : Bd 0 (.tuple [.tuple [], .list [.none]]) := .of (by decide +kernel)
end HX
set_option Elab.async false
set_option linter.all false
set_option maxRecDepth 100000
set_option maxHeartbeats 4400000
namespace HX
open L2 PyProof.Rows PySem.Spec PySem
/-- an exception that was caught, tracked as a value: its class at C, its dict at d -/
def ErrV (C : Addr) (d : Option Addr) (a : Addr) : HO := .ext fun h => ∃ (oe : Obj) (vs : Array Value), h.get? a = some oe ∧ Zc (.ref C) d oe ∧ oe.data = .fields vs
theorem errV_ok {P : Program} {w : World} {H : Hp} {h : Heap} {a C : Addr} {d : Option Addr} {oe : Obj} {vs : Array Value} (e : h.get? a = some oe) (z : Zc (.ref C) d oe) (q : oe.data = .fields vs) : ObjOk P w H h a (ErrV C d a) :=
  ⟨⟨oe, vs, e, z, q⟩, ⟨oe, e⟩, fun _ _ ⟨o, v, x, y⟩ k => ⟨o, v, k o x, y⟩⟩
theorem errV_at {P : Program} {w : World} {H : Hp} {h : Heap} {a C : Addr} {d : Option Addr} (k : HOk P w H h) (e : H a = some (ErrV C d a)) : ∃ (oe : Obj) (vs : Array Value), h.get? a = some oe ∧ Zc (.ref C) d oe ∧ oe.data = .fields vs :=
  let ⟨z, _⟩ := k a _ e; z
section
variable {X : Cx} {pins : List (Addr × Obj)} {σ : L2.St} {H : Hp} {s : Shared} {a : Addr} {oe : Obj} {vs : Array Value} {C : Addr} {d : Option Addr}
/-- at the suite's end: the exception, held by a pin so far, is tracked from now on -/
theorem keepErr (I : L2.Inv X ((a, oe) :: pins) σ H s) (n0 : X.s_0.heap.get? a = none) (np : ∀ p ∈ X.pn ++ pins, p.1 ≠ a) (z : Zc (.ref C) d oe) (q : oe.data = .fields vs) : L2.Inv X pins σ (upd H a (ErrV C d a)) s := by
  obtain ⟨ga, na, nL, _, nc⟩ := I.pin (a, oe) (List.mem_append_right _ List.mem_cons_self)
  have off : ∀ {b : Addr} {o : HO}, H b = some o → b ≠ a := fun e => ne_of_none e na
  have b0 : ∀ {b : Addr} {o : Obj}, X.s_0.heap.get? b = some o → b ≠ a := fun e y => by rw [y, n0] at e; cases e
  have hk : HOk X.prog X.w (upd H a (ErrV C d a)) s.heap := HOk.laidN I.hok (fun _ _ e => e) na (errV_ok ga z q)
  refine { ok := I.ok, os := I.os, bare := I.bare, base := ?_, loc := I.loc, cell := I.cell, free := ?_, freeC := fun x c e => ?_, pin := fun p hp => ?_, hok := hk, len := I.len }
  · exact { keep := I.base.keep, slot := I.base.slot, free := fun b o e n x => by rw [upd_ne (b0 e)]; exact I.base.free b o e n x, there := I.base.there,
            tups := fun b xs e => by have y := I.base.tups b xs e; rw [upd_ne (off y)]; exact y,
            frzs := fun b o u e => by have y := I.base.frzs b o u e; rw [upd_ne (off y)]; exact y,
            tbls := fun b ps e => by obtain ⟨m, y⟩ := I.base.tbls b ps e; exact ⟨m, by rw [upd_ne (off y)]; exact y⟩ }
  · rw [upd_ne (Ne.symm nL)]; exact I.free
  · have nca : c ≠ a := fun y => by
      obtain ⟨v, o, ho, hd⟩ := I.cell x c e
      rw [y, ga] at ho
      cases ho
      exact nc v hd
    rw [upd_ne nca]; exact I.freeC x c e
  · have y := I.pin p (by
      rcases List.mem_append.mp hp with h | h
      · exact List.mem_append_left _ h
      · exact List.mem_append_right _ (List.mem_cons_of_mem _ h))
    exact ⟨y.1, by rw [upd_ne (np p hp)]; exact y.2.1, y.2.2⟩
/-- what stands there, as the library's rules of instances ask it -/
theorem errV_inst (I : L2.Inv X pins σ H s) (e : H a = some (ErrV C none a)) : PySem.W.InstAt s.heap a ((s.heap.get? a).getD default) C none := by
  obtain ⟨oe, vs, g, z, q⟩ := errV_at I.hok e
  rw [g]
  exact ⟨g, z.1, by unfold PySem.W.notCls; rw [Option.getD_some, q] <;> rfl, by rw [Option.getD_some, z.2]; trivial⟩
end
section
variable {X : Cx} {C : Addr} {e : Expr} {te : TE} {pos : Pos} {n : Str} {pins : List (Addr × Obj)} {σ : L2.St} {H : Hp} {s : Shared}
/-- e.n of a tracked exception -/
def tErrF (C : Addr) (n : Str) (te : TE) : TE := fun σ H Q => te σ H fun x H1 => ∃ (a dd : Addr) (fs : List (Str × V)) (v : V), x = .ref a ∧ H1 a = some (ErrV C (some dd) a) ∧ H1 dd = some (.xd fs) ∧ fs.lookup n = some v ∧ Q v H1
theorem pe_errF (T : XfC X.K C) (hno : PySem.W.findIn X.K (.ref C) n = some none) (he : PE X e te) (hb : attributeBase e n X.env (eval e X.env) = eval e X.env := by rfl) : PE X (.Attribute e n pos) (tErrF C n te) := by
  refine ⟨fun pp t τ G R J w => attr_of hb (thn (he.run pp t τ G _ J w) fun u t1 ⟨x, G1, J1, rx, a, dd, fs, v, ex, ea, ed, l, q⟩ => ?_)⟩
  subst ex
  have eu : u = Value.ref a := rx; subst eu
  obtain ⟨oe, vs, g, z, hd⟩ := errV_at J1.hok ea
  obtain ⟨mA, hns, hr⟩ : ObjOk X.prog X.w G1 t1.heap dd (.xd fs) := J1.hok dd _ ed
  obtain ⟨od, ho, hl⟩ := lookIn_ns hns
  obtain ⟨u, hu, ru⟩ := RelO.some_of (v := v) (o := mA n) (by rw [← l]; exact hr n)
  have W : PySem.W.InstAt t1.heap a oe C (some od) := ⟨g, z.1, by unfold PySem.W.notCls; rw [hd] <;> rfl, by rw [z.2]; exact ho⟩
  exact HandSPX.exc_get J1.kIn W T.ga T.gg T.exC (PySem.W.findObj_own T.hdC hno rfl (by rw [hl, hu])) (handed_of ru) ⟨v, G1, J1.tok _, ru, q⟩
/-- what the class says so that isinstance asks its errors rightly -/
structure ErrC (K : PySem.W.Frag) (C : Addr) : Prop where
  cl : (PySem.W.clsIn K C).isSome = true
  ga : PySem.W.findIn K (.ref C) "__getattribute__" = some (some (.builtin "BaseException.__getattribute__"))
  gt : PySem.W.findIn K (.ref C) "__getattr__" = some none
  be : PySem.W.subIn K (.ref C) (.type "BaseException") = some true
  kc : PySem.W.findIn K (.ref C) "__class__" = some (some (.builtin "object.__class__"))
  kg : PySem.W.specialIn K (.builtin "object.__class__") "__get__" = some (some (.builtin "getset_descriptor.__get__"))
  kt : PySem.W.takesIn K (.builtin "object.__class__") = some true
  ob : PySem.W.mroIn K C (.type "object") = some true
theorem errV_some (J : L2.Inv X pins σ H s) {a dd : Addr} {fs : List (Str × V)} (ea : H a = some (ErrV C (some dd) a)) (ed : H dd = some (.xd fs)) : ∃ oe od, PySem.W.InstAt s.heap a oe C (some od) := by
  obtain ⟨oe, vs, g, z, hd⟩ := errV_at J.hok ea
  obtain ⟨mA, hns, _⟩ : ObjOk X.prog X.w H s.heap dd (.xd fs) := J.hok dd _ ed
  obtain ⟨od, ho, _⟩ := lookIn_ns hns
  exact ⟨oe, od, g, z.1, by unfold PySem.W.notCls; rw [hd] <;> rfl, by rw [z.2]; exact ho⟩
/-- isinstance of a tracked error -/
def rIsErr (K : PySem.W.Frag) : List V → Hp → VK → Prop := fun xs H Q => ∃ (a C dd : Addr) (fs : List (Str × V)) (c : V) (cv : Value) (b : Bool), xs = [.ref a, c] ∧ H a = some (ErrV C (some dd) a) ∧ H dd = some (.xd fs) ∧ ErrC K C ∧ (∀ u, RelV c u → u = cv) ∧ PySem.W.kitOne K (.ref C) cv = some b ∧ Q (.bl b) H
theorem call_isErr : CallR X (.builtin "isinstance") (rIsErr X.K) := by
  intro pp t τ G xs us; intro Q J r h
  obtain ⟨a, C, dd, fs, c, cv, b, rfl, ea, ed, T, hcv, e, q⟩ := h
  cases r with
  | cons rx rr =>
    cases rr with
    | cons rt rr =>
      cases rr; cases rx
      have ec := hcv _ rt; subst ec
      obtain ⟨oe, od, W⟩ := errV_some J ea ed
      exact PySem.W.kia_one (PySem.W.kitx_exc T.cl T.ga T.gt T.be T.kc T.kg T.kt T.ob) J.kIn W e (fun z => nomatch z) fun tk => ⟨.bl b, G, J.kept (t' := tk) fun _ _ z => z, rfl, q⟩
end
end HX
set_option Elab.async false
set_option linter.all false
set_option maxRecDepth 100000
set_option maxHeartbeats 4400000
namespace HX
open L2 PyProof.Rows PySem.Spec PySem
/-- as wAs, but behind the suite the caught error is a tracked value -/
def wKp (K : PySem.W.Frag) (c : Value) (i : Nat) (ts : Addr → Value → Option Addr → TS) (Wout : WX) (D : Ends) : WX := fun cls d σ H => ∃ b, PySem.W.exmOne K cls c = some b ∧ (b = false → Wout cls d σ H) ∧
  (b = true → ∃ C, cls = .ref C ∧ ∀ a, H a = none → ts a cls d { D with nx := fun σ' H' => D.nx (σ'.set i none) (upd H' a (ErrV C d a)), bk := fun σ' H' => D.bk (σ'.set i none) H', ct := fun σ' H' => D.ct (σ'.set i none) H' } (σ.set i (some (.ref a))) H)
section
variable {X : Cx} {x n : Str} {c : Value} {i : Nat} {b₀ : Stmt} {body suite : List Stmt} {np pos pos' : Pos} {tb : WX → TS} {ts : Addr → Value → Option Addr → TS} {Wout : WX}
theorem ps_try_keep (hs : X.stack = X.env :: X.outer) (hf : X.env.frame = some X.env.locals) (hN : X.N.Nodup) (hi : X.N[i]? = some n) (hln : X.env.kindOf n = some .local) (hc : Names X x c) (tk : Takes X Wout) (hex : X.ex = [])
    (hb : ∀ (W : WX) (pn : List (Addr × Obj)) (xe : Value → Shared → Prop), Takes (X.tr pn xe) W → PassesOwn (model X.prog X.w) X.A X.env xe → PSs (X.tr pn xe) body (tb W))
    (hsu : ∀ (a : Addr) (oe : Obj) (cls : Value) (d : Option Addr) (pn : List (Addr × Obj)), Zc cls d oe → (∃ vs, oe.data = .fields vs) → PSs (X.suite a ((a, oe) :: pn)) (b₀ :: suite) (ts a cls d)) :
    PS X (.Try body [.ExceptHandler (some (.Name x np)) (some n) (b₀ :: suite) pos'] [] [] pos) (fun D σ H => tb (wKp X.K c i ts Wout D) D σ H) := by
  refine ⟨fun pp t0 τ G D J0 w0 => ?_⟩
  have ok := J0.ok
  have fr : X.A.frames = some (X.env :: X.outer) := by rw [ok.frames, hs]
  let land : Value → Shared → Prop := fun e t => wpAny (model X.prog X.w) X.A (noteFrame e X.env) (fun _ t => wpAny (model X.prog X.w) X.A (setFlight e none) (fun _ t => wpAny (model X.prog X.w) X.A (handleBy e X.env [.ExceptHandler (some (.Name x np)) (some n) (b₀ :: suite) pos']) (SP X pp D) X.xe t) X.xe t) X.xe t
  have caught : Takes (X.tr (X.pn ++ pp) land) (wKp X.K c i ts Wout D) := by
    rintro u t ⟨a, B, tI, _, τ1, G1, cls, d, rfl, J1', nb, up, sky, na, os, ag, b, hb1, hno, hyes⟩
    have J1 : L2.Inv X pp τ1 G1 tI := J1'.ofTry ok
    have sky1 : Sky B (X.env :: X.outer) a (Zc cls d) X.env.locals t.heap := by rw [← hs]; exact sky
    refine Sky.land Zc.steady fr hf sky1 fun h3 fl3 up3 => ?_
    have J3 : L2.Inv X pp τ1 G1 { t with heap := h3 } := J1.landed nb fl3.1 (up.trans up3) os ag
    obtain ⟨oe3, vs3, he3, hz3, hd3⟩ := fl3.there
    have noF : a ∉ frs (X.env :: X.outer) := fun hm => by
      obtain ⟨_, o1, e1, z⟩ := fl3.2.2.1.mem hm
      rw [he3] at e1; cases e1; exact z _ hd3
    have nL : a ≠ X.env.locals := fun z => noF (List.mem_filterMap.mpr ⟨X.env, List.mem_cons_self, by rw [hf, z]⟩)
    have nO : a ∉ X.fs := fun hm => let ⟨e, he, q⟩ := List.mem_filterMap.mp hm; noF (List.mem_filterMap.mpr ⟨e, List.mem_cons_of_mem _ he, q⟩)
    have nB : B.get? a = none := fl3.2.1
    have nI : ∀ o, tI.heap.get? a ≠ some o := fun o e => by
      have z := nb a o e (by rw [hs]; exact noF)
      rw [nB] at z; cases z
    have n0 : X.s_0.heap.get? a = none := by
      cases e : X.s_0.heap.get? a with
      | none => rfl
      | some o => obtain ⟨o1, z⟩ := J1.base.there a o e (by rw [hex]; exact List.not_mem_nil); exact absurd z (nI o1)
    have noPin : ∀ p ∈ X.pn ++ pp, p.1 ≠ a := fun p hp z => nI p.2 (by rw [← z]; exact (J1.pin p hp).1)
    have S3 := J3.suite he3 hd3 na nL nO
    refine wpAny_handleBy_cons (codeAny_handlers_test ?_) (by intro q; cases q)
    have ty : PySem.W.Looks (model X.prog X.w) h3 (typeOf (.ref a)) cls := fun A Q E s k q => wpAny_typeOf_ref (k _ _ he3) (by rw [hz3.1]; exact q)
    have ans := PySem.W.exm_one (M := model X.prog X.w) J3.kIn ty hb1
    have named : ∀ {Q E : Value → Shared → Prop}, Q c { t with heap := h3 } → wpAny (model X.prog X.w) (X.A.mark (some (.ref a))) (eval (.Name x np) X.env) Q E { t with heap := h3 } := fun {Q E} q => by
      obtain ⟨hg, nd, hm | ⟨hm, hv, nn⟩⟩ := hc
      · exact ld_glob (X := X.suite a ((a, oe3) :: (X.pn ++ pp))) S3 hg hm q nd
      · exact ld_blt (X := X.suite a ((a, oe3) :: (X.pn ++ pp))) S3 hg hm hv q nn nd
    refine named (ans.here ?_)
    cases b with
    | false =>
      show wpAny _ X.A (handleBy (.ref a) X.env []) _ _ _
      refine wpAny_handleBy_nil ?_
      have on : wpAny (model X.prog X.w) X.A (setFlight (.ref a) X.env.frame) (fun _ t4 => wpAny (model X.prog X.w) X.A (throw (.ref a) : Sem Flow) (SP X pp D) X.xe t4) X.xe { t with heap := h3 } := by
        rw [hf]
        exact HandSPX.setFlight_upZ fl3 fun h4 held up4 => wpAny_throw (tk _ _ ⟨a, B, tI, pp, τ1, G1, cls, d, rfl, J1, nb, (up.trans up3).trans up4, .inr (.inr (by rw [hs]; exact held)), na, os, ag, hno rfl⟩)
      obtain ⟨_, _, _, oe, vs, T, _, _, he, _, hd, h1, _⟩ := id fl3
      unfold PySem.passOn
      refine wpAny_bind (wpAny_field he hd h1 ?_)
      rw [if_neg (show ¬ ((Value.ref T == Value.none) = true) from by simp)]
      first | exact wpAny_bind (wpAny_pure (wpAny_bind on)) | exact wpAny_bind on
    | true =>
      obtain ⟨C, ec, yes⟩ := hyes rfl
      subst ec
      refine codeAny_handlers_suite_as (HandSPX.lands_againZ fl3 fun h4 fl4 up4 => ?_)
      have J4 : L2.Inv X pp τ1 G1 { t with heap := h4 } := J1.landed nb fl4.1 ((up.trans up3).trans up4) os ag
      obtain ⟨oe4, vs4, he4, hz4, hd4⟩ := fl4.there
      refine store_ok (X := X.suite a ((a, oe4) :: (X.pn ++ pp))) (v := .ref a) (J4.suite he4 hd4 na nL nO) hN hi (.inl hln) rfl (fun t5 S5 => ?_) (.inr hln)
      refine wpAny_mono ((hsu a oe4 (.ref C) d (X.pn ++ pp) hz4 ⟨_, hd4⟩).run [] t5 _ G1 _ S5 (yes a na)) (fun f t6 r => ?_) (fun _ _ z => False.elim z)
      have plain : ∀ {τ6 : L2.St} {G6 : Hp} {Q : Shared → Prop}, L2.Inv (X.suite a ((a, oe4) :: (X.pn ++ pp))) [] τ6 G6 t6 → (∀ t7, L2.Inv X pp (τ6.set i none) G6 t7 → Q t7) →
          wpAny (model X.prog X.w) X.A (do bindName X.env n .none; unbindBehindTheSuite X.env n pos') (fun _ t7 => Q t7) X.xe t6 := fun S6 k => gone_ok (S6.unsuite ok) hN hi hln k
      match f, r with
      | .next, ⟨τ6, G6, S6, q6⟩ =>
        have U : L2.Inv X ((a, oe4) :: pp) τ6 G6 t6 := { ok := ok, os := S6.os, bare := S6.bare, base := S6.base, loc := S6.loc, cell := S6.cell, free := S6.free, freeC := S6.freeC, hok := S6.hok, len := S6.len, pin := fun p hp => S6.pin p (by
          rcases List.mem_append.mp hp with h | h
          · exact List.mem_append_left _ (List.mem_cons_of_mem _ (List.mem_append_left _ h))
          · rcases List.mem_cons.mp h with h | h
            · rw [h]; exact List.mem_append_left _ List.mem_cons_self
            · exact List.mem_append_left _ (List.mem_cons_of_mem _ (List.mem_append_right _ h))) }
        exact gone_ok U hN hi hln fun t7 J7 => ⟨_, _, keepErr J7 n0 noPin hz4 hd4, q6⟩
      | .brk, ⟨τ6, G6, S6, q6⟩ => exact plain S6 fun t7 J7 => ⟨_, _, J7, q6⟩
      | .cont, ⟨τ6, G6, S6, q6⟩ => exact plain S6 fun t7 J7 => ⟨_, _, J7, q6⟩
      | .ret u, ⟨v6, τ6, G6, S6, r6, q6⟩ => exact plain S6 fun t7 J7 => ⟨_, _, _, J7, r6, q6⟩
  refine wpAny_Try_except (wpAny_mono ((hb _ (X.pn ++ pp) land caught PassesOwn.looking).run [] t0 τ G D (J0.toTry _) w0) (fun f t1 r => ?_) (fun e t1 z => z))
  match f, r with
  | .next, ⟨τ1, G1, J1, q⟩ => exact wpAny_execs_nil ⟨τ1, G1, J1.ofTry ok, q⟩
  | .brk, ⟨τ1, G1, J1, q⟩ => exact ⟨τ1, G1, J1.ofTry ok, q⟩
  | .cont, ⟨τ1, G1, J1, q⟩ => exact ⟨τ1, G1, J1.ofTry ok, q⟩
  | .ret u, ⟨v, τ1, G1, J1, rv, q⟩ => exact ⟨v, τ1, G1, J1.ofTry ok, rv, q⟩
end
end HX
set_option Elab.async false
set_option linter.all false
set_option maxRecDepth 100000
set_option maxHeartbeats 4400000
namespace HX
open L2 PyProof.Rows PySem.Spec PySem
section
variable {X : Cx} {e : Expr} {es : List Expr} {ta : TA} {p pos : Pos} {x n : Str} {CX : CXT} {C fI : Addr} {k : Nat} {fd : FuncData} {ps : List Str} {sp : Sp} {te : TE} {pins : List (Addr × Obj)} {σ : L2.St} {H : Hp} {s : Shared}
/-- C(e, ..) of an own error with an own __init__, as a value -/
def tMkV (C : Addr) (sp : Sp) (t : TA) : TE := fun σ H Q => t σ H fun vs H1 => vs.length ≤ 1000 ∧ ∀ a, H1 a = none → sp (.ref a :: vs) (upd H1 a (exo a C none)) (fun v H2 => v = .non ∧ Q (.ref a) H2) (fun _ _ _ => False)
theorem pe_mkV (T : OexC X.K C) (iC : PySem.W.findIn X.K (.ref C) "__init__" = some (some (.ref fI))) (tI : PySem.W.typeIn X.K (.ref fI) = some (.type "function")) (F1 : FnOk X.prog X.w X.K X.mg X.base CX k fI fd ps sp) (hr : Room (k + 1) X.A) (hb : Binds X.K fd ps [])
    (hx : Passes CX X (fun _ _ _ => False)) (hg : Gl X x) (hm : X.mg x = some (.ref C)) (ha : PA X (e :: es) ta) (nd : (x == ("__debug__" : Str)) = false := by decide)
    (hst : starEach (e :: es) X.env = (false, eval e X.env) :: starEach es X.env := by rfl) (hpl : (backTo pos (starEach es X.env)).any (·.1) = false := by rfl) : PE X (.Call (.Name x p) (e :: es) [] pos) (tMkV C sp ta) := by
  refine ⟨fun pp t0 τ G R J w => wpAny_Call_Name_kw (ld_glob J hg hm ?_ nd)⟩
  obtain ⟨nm, q, N, bs, bm, sn, sub, ab, col, dd, k0, k1, k2, k3, k5, hC, hbm⟩ := T.cls
  refine PySem.W.callWith_K (h₀ := X.base) J.ok.mod.kin T.kC (thn (ha.run pos pp t0 τ G _ J w) fun us t1 ⟨vs, G1, J1, r1, few, q1⟩ => ⟨J1.kIn, ?_⟩) hst hpl
  show wpAny _ _ (call (.ref C) us) _ _ _
  obtain ⟨hp, g, dr, tk, os⟩ := t1
  let a := hp.objs.size + 1
  let h2 : Heap := (hp.push (PySem.W.kdv_tup us)).push (PySem.HandSPX.excO C hp.objs.size)
  have na : G1 a = none := J1.hok.fresh (Nat.le_succ _)
  have want := q1 a na
  have got : h2.get? a = some (PySem.HandSPX.excO C hp.objs.size) := by show ((hp.push (PySem.W.kdv_tup us)).push (PySem.HandSPX.excO C hp.objs.size)).get? (hp.objs.size + 1) = _; heap_get
  have J2 : L2.Inv X pp τ (upd G1 a (exo a C none)) ⟨h2, g, dr, tk, os⟩ := J1.laid (t' := tk) (a := a) (o := exo a C none) (h' := h2) (fun b o y => Heap.get?_push_of_some _ (Heap.get?_push_of_some _ y)) (Nat.le_succ _) (exo_ok got)
  have r2 : Vals (V.ref a :: vs) (Value.ref a :: us) := .cons rfl r1
  have nps : (Value.ref a :: us ++ []).length = ps.length := by rw [List.append_nil, ← r2.length]; exact F1.len _ _ _ _ want
  have nus : us.length ≤ sizeLine := by rw [← Paired.length r1, sizeLine_eq]; omega
  have bound := hb _ (Value.ref a :: us) J2.kIn nps; rw [List.append_nil] at bound
  refine wpAny_call (PySem.HandSPX.call_own F.excBase_ValueError (fun Y => PySem.HandSPX.refsVE_contains Y bm hbm) (J1.kIn _ _ hC) (PySem.W.looks_findIn J1.kIn iC) (fun self => PySem.W.bind_fn J1.kIn self tI) nus
    (codeAny_mono (F1.run _ X.stack _ _ ⟨Value.ref a :: us, []⟩ (Value.ref a :: us) _ _ (fun _ _ _ => False) (hr.make C us []) (J2.env0.make C us []) bound r2 want) fun z t2 w2 => ?_))
  match z, w2 with
  | .ok (.ret u), w2 =>
    obtain ⟨v, G2, J3, rv, ev, q2⟩ := J2.after w2
    subst ev
    exact ⟨rv, .ref a, G2, J3, rfl, q2⟩
  | .ok .next, w2 | .ok .brk, w2 | .ok .cont, w2 => exact False.elim w2
  | .error er, w2 => exact hx pp τ _ _ er t2 J2 w2
/-- an error of the class at C with these fields: one that was made, or one that was caught -/
def ErrIs (H : Hp) (C a : Addr) (fs : List (Str × V)) : Prop := ∃ dd, (H a = some (ErrV C (some dd) a) ∧ H dd = some (.xd fs)) ∨ (H a = some (exo a C (some dd)) ∧ H dd = some (exd dd fs))
theorem errIs_inst {a : Addr} {fs : List (Str × V)} (J : L2.Inv X pins σ H s) (h : ErrIs H C a fs) : ∃ (oe od : Obj) (mA : Str → Option Value), PySem.W.InstAt s.heap a oe C (some od) ∧ (∀ f, PySem.W.lookIn f od = some (mA f)) ∧ ∀ f, RelO (fs.lookup f) (mA f) := by
  obtain ⟨dd, ⟨ea, ed⟩ | ⟨ea, ed⟩⟩ := h
  · obtain ⟨oe, vs, g, z, hd⟩ := errV_at J.hok ea
    obtain ⟨mA, hns, hr⟩ : ObjOk X.prog X.w H s.heap dd (.xd fs) := J.hok dd _ ed
    obtain ⟨od, ho, hl⟩ := lookIn_ns hns
    exact ⟨oe, od, mA, ⟨g, z.1, by unfold PySem.W.notCls; rw [hd] <;> rfl, by rw [z.2]; exact ho⟩, hl, hr⟩
  · obtain ⟨t0, g⟩ := exo_at J.hok ea
    obtain ⟨mA, hns, hr⟩ := exd_at J.hok ed
    obtain ⟨od, ho, hl⟩ := lookIn_ns hns
    exact ⟨_, od, mA, ⟨g, rfl, by unfold PySem.W.notCls; rfl, ho⟩, hl, hr⟩
/-- e.n of such an error -/
def tErrN (C : Addr) (n : Str) (te : TE) : TE := fun σ H Q => te σ H fun x H1 => ∃ (a : Addr) (fs : List (Str × V)) (v : V), x = .ref a ∧ ErrIs H1 C a fs ∧ fs.lookup n = some v ∧ Q v H1
theorem pe_errN (T : XfC X.K C) (hno : PySem.W.findIn X.K (.ref C) n = some none) (he : PE X e te) (hb : attributeBase e n X.env (eval e X.env) = eval e X.env := by rfl) : PE X (.Attribute e n pos) (tErrN C n te) := by
  refine ⟨fun pp t τ G R J w => attr_of hb (thn (he.run pp t τ G _ J w) fun u t1 ⟨x, G1, J1, rx, a, fs, v, ex, ea, l, q⟩ => ?_)⟩
  subst ex
  have eu : u = Value.ref a := rx; subst eu
  obtain ⟨oe, od, mA, W, hl, hr⟩ := errIs_inst J1 ea
  obtain ⟨u, hu, ru⟩ := RelO.some_of (v := v) (o := mA n) (by rw [← l]; exact hr n)
  exact HandSPX.exc_get J1.kIn W T.ga T.gg T.exC (PySem.W.findObj_own T.hdC hno rfl (by rw [hl, hu])) (handed_of ru) ⟨v, G1, J1.tok _, ru, q⟩
/-- isinstance of such an error -/
def rIsN (K : PySem.W.Frag) : List V → Hp → VK → Prop := fun xs H Q => ∃ (a C : Addr) (fs : List (Str × V)) (c : V) (cv : Value) (b : Bool), xs = [.ref a, c] ∧ ErrIs H C a fs ∧ ErrC K C ∧ (∀ u, RelV c u → u = cv) ∧ PySem.W.kitOne K (.ref C) cv = some b ∧ Q (.bl b) H
theorem call_isN : CallR X (.builtin "isinstance") (rIsN X.K) := by
  intro pp t τ G xs us; intro Q J r h
  obtain ⟨a, C, fs, c, cv, b, rfl, ea, T, hcv, e, q⟩ := h
  cases r with
  | cons rx rr =>
    cases rr with
    | cons rt rr =>
      cases rr; cases rx
      have ec := hcv _ rt; subst ec
      obtain ⟨oe, od, _, W, _⟩ := errIs_inst J ea
      exact PySem.W.kia_one (PySem.W.kitx_exc T.cl T.ga T.gt T.be T.kc T.kg T.kt T.ob) J.kIn W e (fun z => nomatch z) fun tk => ⟨.bl b, G, J.kept (t' := tk) fun _ _ z => z, rfl, q⟩
end
end HX
set_option Elab.async false
set_option linter.all false
set_option maxRecDepth 100000
set_option maxHeartbeats 4400000
namespace PySem.HXk
open PySem PySem.HandSPX Builtin Builtin.ObjectAttr
/-- at C stands the class of an own error that hangs on ValueError; bm: what its mro has behind it -/
def Own (hp : Heap) (C : Addr) (bm : List Value) : Prop := ∃ nm q N bs sn sub ab col dd k0 k1 k2 k3 k5, hp.get? C = some (excClassObj nm q C N bs bm true sn sub ab col dd k0 k1 k2 k3 k5 "ValueError.__new__") ∧ refsVE bm = true
/-- C(k = v, ..) of such a class with an own __init__: the object is made without the keywords, which go to __init__ -/
theorem made_by_keyword {pr : Program} {wd : World} {Ar : Around} {Rs : Result → Shared → Prop} {hp : Heap} {gs : Array GenState} {dr : Drawn} {tk : Nat} {os : OsState} {C fI : Addr} {bm : List Value} {ks : List (Str × Value)}
    (cl : Own hp C bm) (ini : W.Looks (model pr wd) hp (typeLookup (.ref C) "__init__") (some (.ref fI))) (bnd : ∀ self, W.Looks (model pr wd) hp (bindSpecial (.ref fI) self) (.ref fI, [self]))
    (go : codeAny (model pr wd) (Ar.under (.builtin "type.__call__" ⟨[.ref C], ks⟩)) (.call (.ref fI) ⟨[.ref (hp.objs.size + 1)], ks⟩) (W.InitBack (hp.objs.size + 1) Rs) ⟨(hp.push (W.kdv_tup [])).push (excO C hp.objs.size), gs, dr, tk, os⟩) :
    codeAny (model pr wd) Ar (.call (.ref C) ⟨[], ks⟩) Rs ⟨hp, gs, dr, tk, os⟩ := by
  obtain ⟨nm, q, N, bs, sn, sub, ab, col, dd, k0, k1, k2, k3, k5, at_, rv⟩ := cl
  have Z := F.excBase_ValueError
  have has : ∀ Y : String, (Value.ref C :: bm).contains (.type Y) = veTail.contains (.type Y) := fun Y => by rw [List.contains_cons, refsVE_contains Y bm rv]; rfl
  have ty : W.Looks (model pr wd) hp (typeOf (.ref C)) (.type "type") := fun _ _ _ _ kp qq => wpAny_typeOf_ref (kp _ _ at_) qq
  have lk := tc_lookup
  have bd := tc_bind (.ref C)
  have tyIs : (⟨hp, gs, dr, tk, os⟩ : Shared).TypeIs (.ref C) "type" := ⟨_, at_, rfl⟩
  -- the call's own check, then its body
  have core : wpAny (model pr wd) (Ar.under (.builtin "type.__call__" ⟨[.ref C], ks⟩)) (Builtin.«type.__call__» ⟨[.ref C], ks⟩) (fun z s' => match z with | .done r => Rs (.ok r) s' | .again c => c.quiet = true ∧ codeAny (model pr wd) Ar c Rs s') (fun e s' => Rs (.error e) s') ⟨hp, gs, dr, tk, os⟩ := by
    repeat (first | with_reducible refine wpAny_loadPart_at at_ ?_ | with_reducible refine wpAny_madeBy_exc at_ ?_ | wp_step)
    refine codeAny_call_builtin_code (Code.quiet_builtin _ Z.quiet) ?_
    have star := Z.noStar
    simp only [checkBuiltinCall, Z.newKind, Z.newSplit, Z.newRow]
    repeat (first | refine wpAny_loadPart_at at_ ?_ | (refine wpAny_isSubtype_exc at_ ?_; rw [has]) | refine wpAny_staticBase_exc at_ ?_ | refine wpAny_madeBy_exc at_ ?_ | simp only [bne_self_eq_false, Bool.false_eq_true, if_false] | wp_step)
    have ends := Z.ends
    refine codeAny_builtinAt Z.entry (wpAt_bind ?_)
    (show wpAt _ _ _ (stack >>= _) _ _ _); refine wpAt_bind (wpAt_stack fun _ _ => wpAt_of_wpAny ?_)
    wp_walk
    refine wpAt_of_wpAny ?_
    rw [Z.owner]
    repeat (first | with_reducible refine wpAny_madeHere_exc Z.canon at_ ?_ | with_reducible refine wpAny_loadPart_at at_ ?_ | (with_reducible refine wpAny_isSubtype_exc at_ ?_; rw [has]) | wp_step)
    have keep : ∀ b o, hp.get? b = some o → ((hp.push (W.kdv_tup [])).push (excO C hp.objs.size)).get? b = some o := fun _ _ y => Heap.get?_push_of_some _ (Heap.get?_push_of_some _ y)
    refine wpAny_isSubtype_exc (keep _ _ at_) ?_
    rw [show (Value.ref C :: bm).contains (.ref C) = true from by simp]
    repeat (first | wp_step)
    rw [← show (hp.push (W.kdv_tup [])).objs.size = hp.objs.size + 1 from Heap.size_push _ _] at go
    refine (ini.keeps keep).at (wpAny_holding (wpAny_bind (((bnd (.ref (hp.push (W.kdv_tup [])).objs.size)).keeps keep).at (wpAny_bind (wpAny_call (codeAny_mono go fun z s' y => ?_))))))
    rcases z with e | (v | _ | _ | _) <;> first | exact y | exact y.elim | skip
    obtain ⟨rfl, y⟩ := y
    first
      | exact wpAny_pure (wpAny_pure y)
      | (wp_walk; exact y)
  refine codeAny_of_tree (show wpAny _ _ (callAny (.ref C) _) _ _ _ from ?_)
  repeat (any_goals (first | assumption | with_reducible refine wpAny_loadPart_at at_ ?_ | wp_step))
  refine ⟨rfl, codeAny_call_builtin_at (Code.quiet_builtin _ (by decide +kernel)) entry_typeCall (W.check_slot tc_kind tc_split ?_ (W.tc_args _ _ _) ?_)⟩
  · unfold isInstance
    exact ty.andThen (.of_pure (by kernel_rfl))
  · exact core
end PySem.HXk
namespace HX
open L2 PyProof.Rows PySem.Spec PySem
theorem ErrIs.ex {H H' : Hp} {C a : Addr} {fs : List (Str × V)} (h : ErrIs H C a fs) (e : Ex H H') : ErrIs H' C a fs := let ⟨dd, q⟩ := h; ⟨dd, q.elim (fun ⟨x, y⟩ => .inl ⟨e _ _ x, e _ _ y⟩) (fun ⟨x, y⟩ => .inr ⟨e _ _ x, e _ _ y⟩)⟩
/-- an own error's __init__ that keeps what it gets under n -/
def spEI (C : Addr) (n : Str) : Sp := fun vs H Q _ => ∃ (a : Addr) (v : V), vs = [.ref a, v] ∧ H a = some (exo a C none) ∧ ∀ dx, H dx = none → dx ≠ a → Q .non (upd (upd H dx (exd dx [(n, v)])) a (exo a C (some dx)))
/-- what is asked of such a class -/
structure ErrT (K : PySem.W.Frag) (mg : Str → Option Value) (x n : Str) (C f : Addr) (d : FuncData) : Prop where
  oex : OexC K C
  xf : XfC K C
  er : ErrC K C
  no : PySem.W.findIn K (.ref C) n = some none
  ini : PySem.W.findIn K (.ref C) "__init__" = some (some (.ref f))
  fn : PySem.W.typeIn K (.ref f) = some (.type "function")
  b : Binds K d ["self", n] []
  kb : ∀ (s : Shared) (a u : Value), K.In s.heap → BindsTo s d ⟨[a], [(n, u)]⟩ [("self", a), (n, u)]
  m : mg x = some (.ref C)
section
variable {X : Cx} {e : Expr} {p pos kpos : Pos} {x n : Str} {C f : Addr} {d : FuncData} {te : TE} {k : Nat}
theorem err_of {H : Hp} {a dx C : Addr} {n : Str} {v : V} (na : H a = none) (nd : (upd H a (exo a C none)) dx = none) (ne : dx ≠ a) : Ex H (upd (upd (upd H a (exo a C none)) dx (exd dx [(n, v)])) a (exo a C (some dx))) ∧ ErrIs (upd (upd (upd H a (exo a C none)) dx (exd dx [(n, v)])) a (exo a C (some dx))) C a [(n, v)] := by
  refine ⟨fun b o hb => ?_, dx, .inr ⟨upd_same, by rw [upd_ne ne, upd_same]⟩⟩
  have h1 : b ≠ a := ne_of_none hb na
  have h2 : (upd H a (exo a C none)) b = some o := by rw [upd_ne h1]; exact hb
  have h3 : b ≠ dx := ne_of_none h2 nd
  rw [upd_ne h1, upd_ne h3]; exact h2
/-- C(e), the error as a value -/
def tMkE (C : Addr) (n : Str) (te : TE) : TE := fun σ H Q => te σ H fun v H1 => ∀ (a : Addr) (H2 : Hp), H1 a = none → Ex H1 H2 → ErrIs H2 C a [(n, v)] → Q (.ref a) H2
theorem pe_mkE (T : ErrT X.K X.mg x n C f d) (F1 : FnOk X.prog X.w X.K X.mg X.base CX0 k f d ["self", n] (spEI C n)) (hr : Room (k + 1) X.A) (hg : Gl X x) (he : PE X e te) (nd : (x == ("__debug__" : Str)) = false := by decide)
    (hst : starEach [e] X.env = (false, eval e X.env) :: starEach [] X.env := by rfl) (hpl : (backTo pos (starEach [] X.env)).any (·.1) = false := by rfl) : PE X (.Call (.Name x p) [e] [] pos) (tMkE C n te) := by
  refine ⟨fun pp t0 τ G R J w => wpAny_Call_Name_kw (ld_glob J hg T.m ?_ nd)⟩
  obtain ⟨nm, q, N, bs, bm, sn, sub, ab, col, dd, k0, k1, k2, k3, k5, hC, hbm⟩ := T.oex.cls
  refine PySem.W.callWith_K (h₀ := X.base) J.ok.mod.kin T.oex.kC (thn ((pa_cons (hs := hst) he pa_nil).run pos pp t0 τ G (fun vs H1 => match vs with | [v] => ∀ (a : Addr) (H2 : Hp), H1 a = none → Ex H1 H2 → ErrIs H2 C a [(n, v)] → R (.ref a) H2 | _ => False) J w) fun us t1 ⟨vs, G1, J1, r1, q1⟩ => ⟨J1.kIn, ?_⟩) hst hpl
  (show wpAny _ _ (call (.ref C) us) _ _ _); match vs, q1, r1 with
  | [v], q1, .cons (b := u) ru .nil =>
  obtain ⟨hp, g, dr, tk, os⟩ := t1
  let a := hp.objs.size + 1
  let h2 : Heap := (hp.push (PySem.W.kdv_tup [u])).push (PySem.HandSPX.excO C hp.objs.size)
  have na : G1 a = none := J1.hok.fresh (Nat.le_succ _)
  have got : h2.get? a = some (PySem.HandSPX.excO C hp.objs.size) := by show ((hp.push (PySem.W.kdv_tup [u])).push (PySem.HandSPX.excO C hp.objs.size)).get? (hp.objs.size + 1) = _; heap_get
  have J2 : L2.Inv X pp τ (upd G1 a (exo a C none)) ⟨h2, g, dr, tk, os⟩ := J1.laid (t' := tk) (a := a) (o := exo a C none) (h' := h2) (fun b o y => Heap.get?_push_of_some _ (Heap.get?_push_of_some _ y)) (Nat.le_succ _) (exo_ok got)
  have want : spEI C n [.ref a, v] (upd G1 a (exo a C none)) (fun w H2 => w = .non ∧ R (.ref a) H2) (fun _ _ _ => False) := ⟨a, v, rfl, upd_same, fun dx ndx ne => ⟨rfl, let ⟨e1, e2⟩ := err_of (v := v) (n := n) na ndx ne; q1 a _ na e1 e2⟩⟩
  have r2 : Vals [V.ref a, v] [Value.ref a, u] := .cons rfl (.cons ru .nil)
  have bound := T.b _ [Value.ref a, u] J2.kIn rfl; rw [List.append_nil] at bound
  refine wpAny_call (PySem.HandSPX.call_own F.excBase_ValueError (fun Y => PySem.HandSPX.refsVE_contains Y bm hbm) (J1.kIn _ _ hC) (PySem.W.looks_findIn J1.kIn T.ini) (fun self => PySem.W.bind_fn J1.kIn self T.fn) (by show 1 ≤ sizeLine; decide)
    (codeAny_mono (F1.run _ X.stack _ _ ⟨[Value.ref a, u], []⟩ [Value.ref a, u] _ _ (fun _ _ _ => False) (hr.make C [u] []) (J2.env0.make C [u] []) bound r2 want) fun z t2 w2 => ?_))
  match z, w2 with
  | .ok (.ret u), w2 =>
    obtain ⟨v, G2, J3, rv, ev, q2⟩ := J2.after w2
    subst ev
    exact ⟨rv, .ref a, G2, J3, rfl, q2⟩
  | .ok .next, w2 | .ok .brk, w2 | .ok .cont, w2 => exact False.elim w2
  | .error er, w2 => exact pass0 pp τ _ _ er t2 J2 w2
/-- C(n=e), the error as a value -/
theorem pe_mkEK (T : ErrT X.K X.mg x n C f d) (F1 : FnOk X.prog X.w X.K X.mg X.base CX0 k f d ["self", n] (spEI C n)) (hr : Room (k + 1) X.A) (hg : Gl X x) (he : PE X e te) (nd : (x == ("__debug__" : Str)) = false := by decide)
    (hall : (backToKw pos (keywordEach [⟨some n, e, kpos⟩] X.env)).all (·.1.isSome) = true := by rfl) (hks : (backToKw pos (keywordEach [⟨some n, e, kpos⟩] X.env)).filterMap (·.1) = [n] := by rfl)
    (hpl : ((backTo pos (starEach [] X.env)).any (·.1) || (backToKw pos (keywordEach [⟨some n, e, kpos⟩] X.env)).any (·.1.isNone)) = false := by rfl) : PE X (.Call (.Name x p) [] [⟨some n, e, kpos⟩] pos) (tMkE C n te) := by
  refine ⟨fun pp t0 τ G R J w => wpAny_Call_Name_kw (ld_glob J hg T.m ?_ nd)⟩
  obtain ⟨nm, q, N, bs, bm, sn, sub, ab, col, dd, k0, k1, k2, k3, k5, hC, hbm⟩ := T.oex.cls
  refine PySem.W.callWith_KW0 (h₀ := X.base) J.ok.mod.kin T.oex.kC hall ?_ hpl
  refine thn ((pk_cons (nm := some n) he pk_nil).run pos pp t0 τ G (fun vs H1 => match vs with | [v] => ∀ (a : Addr) (H2 : Hp), H1 a = none → Ex H1 H2 → ErrIs H2 C a [(n, v)] → R (.ref a) H2 | _ => False) J w) fun us t1 ⟨vs, G1, J1, r1, q1⟩ => ⟨J1.kIn, ?_⟩
  rw [hks]
  match vs, q1, r1 with
  | [v], q1, .cons (b := u) ru .nil =>
  show wpAny _ _ (call (.ref C) [] [(n, u)]) _ _ _
  obtain ⟨hp, g, dr, tk, os⟩ := t1
  let a := hp.objs.size + 1
  let h2 : Heap := (hp.push (PySem.W.kdv_tup [])).push (PySem.HandSPX.excO C hp.objs.size)
  have na : G1 a = none := J1.hok.fresh (Nat.le_succ _)
  have got : h2.get? a = some (PySem.HandSPX.excO C hp.objs.size) := by show ((hp.push (PySem.W.kdv_tup [])).push (PySem.HandSPX.excO C hp.objs.size)).get? (hp.objs.size + 1) = _; heap_get
  have J2 : L2.Inv X pp τ (upd G1 a (exo a C none)) ⟨h2, g, dr, tk, os⟩ := J1.laid (t' := tk) (a := a) (o := exo a C none) (h' := h2) (fun b o y => Heap.get?_push_of_some _ (Heap.get?_push_of_some _ y)) (Nat.le_succ _) (exo_ok got)
  have want : spEI C n [.ref a, v] (upd G1 a (exo a C none)) (fun w H2 => w = .non ∧ R (.ref a) H2) (fun _ _ _ => False) := ⟨a, v, rfl, upd_same, fun dx ndx ne => ⟨rfl, let ⟨e1, e2⟩ := err_of (v := v) (n := n) na ndx ne; q1 a _ na e1 e2⟩⟩
  have r2 : Vals [V.ref a, v] [Value.ref a, u] := .cons rfl (.cons ru .nil)
  have bound := T.kb ⟨h2, g, dr, tk, os⟩ (.ref a) u J2.kIn
  refine wpAny_call (PySem.HXk.made_by_keyword ⟨nm, q, N, bs, sn, sub, ab, col, dd, k0, k1, k2, k3, k5, J1.kIn _ _ hC, hbm⟩ (PySem.W.looks_findIn J1.kIn T.ini) (fun self => PySem.W.bind_fn J1.kIn self T.fn)
    (codeAny_mono (F1.run _ X.stack _ _ ⟨[Value.ref a], [(n, u)]⟩ [Value.ref a, u] _ _ (fun _ _ _ => False) (hr.make C [] [(n, u)]) (J2.env0.make C [] [(n, u)]) bound r2 want) fun z t2 w2 => ?_))
  match z, w2 with
  | .ok (.ret u), w2 =>
    obtain ⟨v, G2, J3, rv, ev, q2⟩ := J2.after w2
    subst ev
    exact ⟨rv, .ref a, G2, J3, rfl, q2⟩
  | .ok .next, w2 | .ok .brk, w2 | .ok .cont, w2 => exact False.elim w2
  | .error er, w2 => exact pass0 pp τ _ _ er t2 J2 w2
/-- C() of an own error without an own __init__, as a value -/
def tMk0 (C : Addr) : TE := fun σ H Q => ∀ (a : Addr), H a = none → Q (.ref a) (upd H a (exo a C none))
theorem pe_mk0 (q : PySem.W.excIn X.K C [.type "ValueError", .type "Exception", .type "BaseException", .type "object"] "ValueError.__new__" = true) (gC : X.mg x = some (.ref C)) (kC : PySem.W.keepIn X.K (.ref C) = true) (hg : Gl X x) (nd : (x == ("__debug__" : Str)) = false := by decide) : PE X (.Call (.Name x p) [] [] pos) (tMk0 C) := by
  refine ⟨fun pp t0 τ G R J w => wpAny_Call_Name_kw (ld_glob J hg gC ?_ nd)⟩
  refine PySem.W.callWith_K0 J.kIn kC ?_
  obtain ⟨bm, N, nm, qn, bs, hdct, sn, sub, ab, col, dd, k0, k1, k2, k3, k5, mN, hC, hN, hni, T⟩ := exc_obj J.kIn q
  show wpAny _ _ (call (.ref C) []) _ _ _
  obtain ⟨hp, g, dr, tk, os⟩ := t0
  refine wpAny_call_exc_subT F.excBase_ValueError T hC hN hni (fun h' e hm => ?_) (by show 0 ≤ sizeLine; decide)
  obtain ⟨t, he, _, _⟩ := hm.there
  have na : G e = none := J.hok.gone hm.new
  exact ⟨.ref e, _, J.laidN (t' := tk) (a := e) (o := exo e C none) (h' := h') hm.keeps hm.new na (exo_ok he), rfl, w e na⟩
/-- an error, with a dict or without -/
def ErrAny (H : Hp) (C a : Addr) : Prop := (∃ fs, ErrIs H C a fs) ∨ H a = some (exo a C none)
theorem ErrAny.ex {H H' : Hp} {C a : Addr} (h : ErrAny H C a) (e : Ex H H') : ErrAny H' C a := h.elim (fun ⟨fs, z⟩ => .inl ⟨fs, z.ex e⟩) (fun z => .inr (e _ _ z))
def rIsA (K : PySem.W.Frag) : List V → Hp → VK → Prop := fun xs H Q => ∃ (a C : Addr) (c : V) (cv : Value) (b : Bool), xs = [.ref a, c] ∧ ErrAny H C a ∧ ErrC K C ∧ (∀ u, RelV c u → u = cv) ∧ PySem.W.kitOne K (.ref C) cv = some b ∧ Q (.bl b) H
theorem call_isA : CallR X (.builtin "isinstance") (rIsA X.K) := by
  intro pp t τ G xs us; intro Q J r h
  obtain ⟨a, C, c, cv, b, rfl, ea, T, hcv, e, q⟩ := h
  cases r with
  | cons rx rr =>
    cases rr with
    | cons rt rr =>
      cases rr; cases rx
      have ec := hcv _ rt; subst ec
      rcases ea with ⟨fs, ea⟩ | ea
      · obtain ⟨oe, od, _, W, _⟩ := errIs_inst J ea
        exact PySem.W.kia_one (PySem.W.kitx_exc T.cl T.ga T.gt T.be T.kc T.kg T.kt T.ob) J.kIn W e (fun z => nomatch z) fun tk => ⟨.bl b, G, J.kept (t' := tk) fun _ _ z => z, rfl, q⟩
      · obtain ⟨t0, g⟩ := exo_at J.hok ea
        have W : PySem.W.InstAt t.heap a _ C none := ⟨g, rfl, by unfold PySem.W.notCls; rfl, trivial⟩
        exact PySem.W.kia_one (PySem.W.kitx_exc T.cl T.ga T.gt T.be T.kc T.kg T.kt T.ob) J.kIn W e (fun z => nomatch z) fun tk => ⟨.bl b, G, J.kept (t' := tk) fun _ _ z => z, rfl, q⟩
end
end HX
set_option Elab.async false
set_option linter.all false
set_option maxRecDepth 100000
set_option maxHeartbeats 4400000
namespace HX
open L2 PyProof.Rows PySem.Spec PySem
section
variable {X : Cx} {e : Expr} {te : TE} {pos : Pos} {n : Str} {pins : List (Addr × Obj)} {σ : L2.St} {H : Hp} {s : Shared}
/-- e.n of an error of any such class -/
def tErrA (K : PySem.W.Frag) (n : Str) (te : TE) : TE := fun σ H Q => te σ H fun x H1 => ∃ (a C : Addr) (fs : List (Str × V)) (v : V), x = .ref a ∧ ErrIs H1 C a fs ∧ XfC K C ∧ PySem.W.findIn K (.ref C) n = some none ∧ fs.lookup n = some v ∧ Q v H1
theorem pe_errA (he : PE X e te) (hb : attributeBase e n X.env (eval e X.env) = eval e X.env := by rfl) : PE X (.Attribute e n pos) (tErrA X.K n te) := by
  refine ⟨fun pp t τ G R J w => attr_of hb (thn (he.run pp t τ G _ J w) fun u t1 ⟨x, G1, J1, rx, a, C, fs, v, ex, ea, T, hno, l, q⟩ => ?_)⟩
  subst ex
  have eu : u = Value.ref a := rx; subst eu
  obtain ⟨oe, od, mA, W, hl, hr⟩ := errIs_inst J1 ea
  obtain ⟨uv, hu, ru⟩ := RelO.some_of (v := v) (o := mA n) (by rw [← l]; exact hr n)
  exact HandSPX.exc_get J1.kIn W T.ga T.gg T.exC (PySem.W.findObj_own T.hdC hno rfl (by rw [hl, hu])) (handed_of ru) ⟨v, G1, J1.tok _, ru, q⟩
end
/-- errors of these classes, each with v under n -/
inductive Errs (H : Hp) (n : Str) (v : V) : List Addr → List V → Prop
  | nil : Errs H n v [] []
  | cons {C a : Addr} {Cs : List Addr} {xs : List V} : ErrIs H C a [(n, v)] → Errs H n v Cs xs → Errs H n v (C :: Cs) (.ref a :: xs)
theorem Errs.ex {H H' : Hp} {n : Str} {v : V} {Cs : List Addr} {xs : List V} (h : Errs H n v Cs xs) (e : Ex H H') : Errs H' n v Cs xs := by
  induction h with
  | nil => exact .nil
  | cons a _ ih => exact .cons (a.ex e) ih
theorem Errs.app {H : Hp} {n : Str} {v : V} {Cs Ds : List Addr} {xs ys : List V} (h : Errs H n v Cs xs) (k : Errs H n v Ds ys) : Errs H n v (Cs ++ Ds) (xs ++ ys) := by
  induction h with
  | nil => exact k
  | cons a _ ih => exact .cons a ih
theorem Errs.len {H : Hp} {n : Str} {v : V} {Cs : List Addr} {xs : List V} (h : Errs H n v Cs xs) : xs.length = Cs.length := by
  induction h with
  | nil => rfl
  | cons _ _ ih => simp [ih]
theorem Errs.get {H : Hp} {n : Str} {v : V} {Cs : List Addr} {xs : List V} (h : Errs H n v Cs xs) {i : Nat} {x : V} (e : xs[i]? = some x) : ∃ C a, Cs[i]? = some C ∧ x = .ref a ∧ ErrIs H C a [(n, v)] := by
  induction h generalizing i with -- the place moves
  | nil => simp at e
  | @cons C a Cs xs h1 _ ih =>
    cases i with
    | zero => simp at e; exact ⟨C, a, by simp, e.symm, h1⟩
    | succ i => simpa using ih (i := i) (by simpa using e)
/-- errors of these classes -/
inductive ErrsA (H : Hp) : List Addr → List V → Prop
  | nil : ErrsA H [] []
  | cons {C a : Addr} {Cs : List Addr} {xs : List V} : ErrAny H C a → ErrsA H Cs xs → ErrsA H (C :: Cs) (.ref a :: xs)
theorem ErrsA.ex {H H' : Hp} {Cs : List Addr} {xs : List V} (h : ErrsA H Cs xs) (e : Ex H H') : ErrsA H' Cs xs := by
  induction h with
  | nil => exact .nil
  | cons a _ ih => exact .cons (a.ex e) ih
theorem ErrsA.app {H : Hp} {Cs Ds : List Addr} {xs ys : List V} (h : ErrsA H Cs xs) (k : ErrsA H Ds ys) : ErrsA H (Cs ++ Ds) (xs ++ ys) := by
  induction h with
  | nil => exact k
  | cons a _ ih => exact .cons a ih
theorem ErrsA.len {H : Hp} {Cs : List Addr} {xs : List V} (h : ErrsA H Cs xs) : xs.length = Cs.length := by
  induction h with
  | nil => rfl
  | cons _ _ ih => simp [ih]
theorem ErrsA.get {H : Hp} {Cs : List Addr} {xs : List V} (h : ErrsA H Cs xs) {i : Nat} {x : V} (e : xs[i]? = some x) : ∃ C a, Cs[i]? = some C ∧ x = .ref a ∧ ErrAny H C a := by
  induction h generalizing i with -- the place moves
  | nil => simp at e
  | @cons C a Cs xs h1 _ ih =>
    cases i with
    | zero => simp at e; exact ⟨C, a, by simp, e.symm, h1⟩
    | succ i => simpa using ih (i := i) (by simpa using e)
theorem Errs.any {H : Hp} {n : Str} {v : V} {Cs : List Addr} {xs : List V} (h : Errs H n v Cs xs) : ErrsA H Cs xs := by
  induction h with
  | nil => exact .nil
  | cons a _ ih => exact .cons (.inl ⟨_, a⟩) ih
/-- lists of one text over and over -/
theorem dp_rep {K : PySem.W.Frag} {H : Hp} (x : Str) : ∀ n : Nat, DpAll K H (List.replicate n (.str x)) (List.replicate n (.str x))
  | 0 => .nil
  | n + 1 => .cons (.str x) (dp_rep x n)
theorem lay_rep (x : Str) (hx : PyData.strOk x = true) : ∀ n : Nat, PyData.canLayAll0 (List.replicate n (.str x)) = true ∧ PyData.depthAll (List.replicate n (PyData.str x)) ≤ 1
  | 0 => by simp [PyData.canLayAll0, PyData.depthAll]
  | n + 1 => by
    obtain ⟨a, b⟩ := lay_rep x hx n
    simp only [List.replicate_succ, PyData.canLayAll0, PyData.canLay0, PyData.depthAll, PyData.depth, a, hx]
    exact ⟨by first | rfl | trivial, by omega⟩
theorem shaped_rep (x : Str) (hx : PyData.strOk x = true) (n : Nat) : SeqAt.shaped (.list (List.replicate n (.str x))) = true := by
  obtain ⟨a, b⟩ := lay_rep x hx n
  unfold SeqAt.shaped
  rw [show PyData.canLay0 (.list (List.replicate n (.str x))) = PyData.canLayAll0 (List.replicate n (.str x)) from by simp only [PyData.canLay0], a]
  have d : (PyData.list (List.replicate n (.str x))).depth ≤ 64 := by simp only [PyData.depth]; omega
  rw [decide_eq_true d]; rfl
theorem eqv_rep (x : Str) (hx : PyData.strOk x = true) (n : Nat) : PyData.eqv (.list (List.replicate n (.str x))) (.list (List.replicate n (.str x))) = true := SeqAt.eqv_refl _ (by simp only [PyData.canLay0]; exact (lay_rep x hx n).1)
/-- a list of lists of one int each -/
def ones (lo n : Nat) : List PyData := (List.range' lo n).map fun i => PyData.list [.int (i : Nat)]
def Ones (H : Hp) (lo : Nat) (xs : List V) : Prop := ∀ (i : Nat) (x : V), xs[i]? = some x → ∃ q, x = .ref q ∧ H q = some (.lst [.int ((lo + i : Nat) : Int)])
theorem Ones.ex {H H' : Hp} {lo : Nat} {xs : List V} (h : Ones H lo xs) (e : Ex H H') : Ones H' lo xs := fun i x hx => let ⟨q, a, b⟩ := h i x hx; ⟨q, a, e _ _ b⟩
theorem Ones.nil {H : Hp} {lo : Nat} : Ones H lo [] := fun i x h => by simp at h
theorem Ones.snoc {H : Hp} {lo : Nat} {xs : List V} {q : Addr} (h : Ones H lo xs) (hq : H q = some (.lst [.int ((lo + xs.length : Nat) : Int)])) : Ones H lo (xs ++ [.ref q]) := fun i x hx => by
  rw [List.getElem?_append] at hx
  split at hx
  · exact h i x hx
  · have e : i - xs.length = 0 := by
      have z := (List.getElem?_eq_some_iff.mp hx).1
      simp at z; omega
    rw [e] at hx; simp at hx; subst hx
    have e2 : i = xs.length := by omega
    subst e2
    exact ⟨q, rfl, hq⟩
theorem dp_ones {K : PySem.W.Frag} {H : Hp} : ∀ {xs : List V} {lo : Nat}, Ones H lo xs → DpAll K H xs (ones lo xs.length)
  | [], lo, _ => .nil
  | x :: xs, lo, h => by
    obtain ⟨q, rfl, hq⟩ := h 0 x rfl
    unfold ones
    rw [List.length_cons, List.range'_succ, List.map_cons]
    refine .cons (.lst (SqL.of hq) (.cons (.int _) .nil)) ?_
    exact dp_ones (lo := lo + 1) (xs := xs) fun i y hy => by
      obtain ⟨q, a, b⟩ := h (i + 1) y (by simpa using hy)
      exact ⟨q, a, by rw [b, show lo + (i + 1) = lo + 1 + i by omega]⟩
theorem lay_ones : ∀ (n lo : Nat), PyData.canLayAll0 (ones lo n) = true ∧ PyData.depthAll (ones lo n) ≤ 2
  | 0, lo => by simp [ones, PyData.canLayAll0, PyData.depthAll]
  | n + 1, lo => by
    obtain ⟨a, b⟩ := lay_ones n (lo + 1)
    have e : ones lo (n + 1) = PyData.list [.int (lo : Nat)] :: ones (lo + 1) n := by simp [ones, List.range'_succ]
    rw [e]
    simp only [PyData.canLayAll0, PyData.canLay0, PyData.depthAll, PyData.depth, a]
    exact ⟨by first | rfl | trivial, by omega⟩
theorem shaped_ones (lo n : Nat) : SeqAt.shaped (.list (ones lo n)) = true := by
  obtain ⟨a, b⟩ := lay_ones n lo
  unfold SeqAt.shaped
  rw [show PyData.canLay0 (.list (ones lo n)) = PyData.canLayAll0 (ones lo n) from by simp only [PyData.canLay0], a]
  have d : (PyData.list (ones lo n)).depth ≤ 64 := by simp only [PyData.depth]; omega
  rw [decide_eq_true d]; rfl
theorem eqv_ones (lo n : Nat) : PyData.eqv (.list (ones lo n)) (.list (ones lo n)) = true := SeqAt.eqv_refl _ (by simp only [PyData.canLay0]; exact (lay_ones n lo).1)
theorem rep_snoc {α : Type} (n : Nat) (x : α) : List.replicate n x ++ [x] = List.replicate (n + 1) x := by rw [List.replicate_succ']
theorem flat_rep {α : Type} (x : α) (n : Nat) : (List.replicate n [x]).flatten = List.replicate n x := by
  induction n with
  | zero => rfl
  | succ n ih => rw [List.replicate_succ, List.flatten_cons, ih, List.replicate_succ]; rfl
end HX
set_option Elab.async false
set_option linter.all false
set_option maxRecDepth 100000
set_option maxHeartbeats 4400000
namespace HX
open L2 PyProof.Rows PySem.Spec PySem
section
variable {X : Cx}
/-- xs * k, the new list apart from the table of modules -/
def rRepN : R2 := fun x y H Q => ∃ l k xs, x = .ref l ∧ y = .int k ∧ H l = some (.lst xs) ∧ 0 ≤ k ∧ k < 1000 ∧ xs.length * k.toNat ≤ sizeLine ∧ ∀ p, H p = none → p ≠ sysModules → Q (.ref p) (upd H p (.lst (List.replicate k.toNat xs).flatten))
theorem op_repN : OpR X (binaryOp .Mult) rRepN := by
  intro pp t τ G x y u1 u2 Q J rx ry h
  obtain ⟨l, k, xs, rfl, rfl, hl, k0, k1, hz, q⟩ := h
  cases rx; obtain ⟨tk, rfl⟩ := ry
  obtain ⟨_, vs, n, rv, el, eo⟩ := J.lstM hl
  have z1 : vs.toArray.size * k.toNat ≤ sizeLine := by rw [List.size_toArray, ← el]; exact hz
  have z2 : (sizeLine : Nat) ≤ (2 ^ 63 - 1) / 8 := by decide
  have c1 : ¬ (!Builtin.List.listFitsIndex k) = true := by rw [fitsIndex_both (by omega) (by omega)]; exact Bool.false_ne_true
  have c2 : ¬ vs.toArray.size * k.toNat > (2 ^ 63 - 1) / 8 := by omega
  have c3 : ¬ Builtin.List.listTooLong (vs.toArray.size * k.toNat) = true := by rw [notLongL z1]; exact Bool.false_ne_true
  have ff : ∀ m : Nat, List.foldl (fun a b => a ++ b) #[] (List.replicate m vs.toArray) = (List.replicate m vs).flatten.toArray := fun m => (foldl_rep vs m []).trans (by rw [List.nil_append])
  have made : List.foldl (fun a b => a ++ b) #[] (List.replicate (if vs.toArray.isEmpty = true then 0 else k.toNat) vs.toArray) = (List.replicate k.toNat vs).flatten.toArray := by
    rw [ff]; cases vs <;> simp
  refine wpAny_binaryOp_repeat_ref (T := "list") (U := "int") (by decide) ⟨_, eo, rfl⟩ (fun s' => typeIs_int s' k tk) noFill_list_mul F.fills_int_mul F.slot_int_rmul repeat_list F.slot_int_index.lookup ?_
  refine call_meets F.slot_int_rmul (typeIs_int t k tk) F.entry_int_rmul (F.args_int_rmul_2 _ _) (int___rmul___int_list k tk l vs.toArray n) ⟨eo, rfl, ⟨_, eo, rfl⟩, ?_⟩
  refine call_meets F.slot_list_mul ⟨_, eo, rfl⟩ F.entry_list_mul (F.args_list_mul_2 _ _) (AutoListH.list___mul___list_int_3 l vs.toArray n k tk c1 c2 c3) ⟨eo, ?_⟩
  rw [made]
  exact ⟨.ref _, _, J.lnew (t' := t.toks) (rv.rep k.toNat) (by rw [PyProof.Rows.lm_len_rep_flat, Nat.mul_comm]; exact hz), rfl, q _ J.fresh (Nat.ne_of_gt J.big)⟩
end
/-- the same, the written part named (within comprehensions) -/
theorem pe_errK {X : Cx} {K : PySem.W.Frag} {e : Expr} {te : TE} {pos : Pos} {n : Str} (hK : X.K = K) (he : PE X e te) (hb : attributeBase e n X.env (eval e X.env) = eval e X.env := by rfl) : PE X (.Attribute e n pos) (tErrA K n te) := hK ▸ pe_errA he hb
theorem call_isK {X : Cx} {K : PySem.W.Frag} (hK : X.K = K) : CallR X (.builtin "isinstance") (rIsA K) := hK ▸ call_isA
theorem ix_tupK {X : Cx} {K : PySem.W.Frag} (hK : X.K = K) : IxR X (rIxT K) := hK ▸ ix_tup
theorem ix_listK {X : Cx} {K : PySem.W.Frag} (hK : X.K = K) : IxR X (rIxL K) := hK ▸ ix_list
theorem q_neb {z : Str} : (!decide (V.str z = V.str z)) = false := by rw [decide_eq_true rfl]; rfl
theorem rep_bl (n : Nat) : List.replicate n (V.bl true) = (List.replicate n true).map V.bl := by rw [List.map_replicate]
theorem rep_all (n : Nat) : (List.replicate n true).all id = true := by simp
/-- five of the same data -/
theorem Bd.five {d : PyData} (h : Bd 14 d) : (PyData.list (List.replicate 5 d)).showable = true ∧ (PyData.list (List.replicate 5 d)).depth ≤ 60 ∧ (PyData.list (List.replicate 5 d)).shown.length ≤ sizeLine := by
  have a := h.dp; have b := h.wt
  have e : List.replicate 5 d = [d, d, d, d, d] := rfl
  rw [e]
  have q := PyData.shown_le 24 (by decide) (.list [d, d, d, d, d]) (by simp only [PyData.leavesShort, PyData.leavesShortAll, h.lv, Bool.and_self])
  have w : (PyData.list [d, d, d, d, d]).weight ≤ 5 * (d.weight + 1) + 10 := by simp only [PyData.weight, PyData.weightAll]; omega
  have m : (24 + 2) * (PyData.list [d, d, d, d, d]).weight ≤ 26 * 6300 := Nat.mul_le_mul_left _ (by omega)
  have z := sizeLine_eq
  refine ⟨by simp only [PyData.showable, PyData.showableAll, h.sh, Bool.and_self], by simp only [PyData.depth, PyData.depthAll]; omega, by omega⟩
theorem Ones.ne {H : Hp} {lo : Nat} {ys : List V} {D q : Addr} {z : Int} (h : Ones H lo ys) (hD : H D = some (.lst ys)) (hq : H q = some (.lst [.int z])) : q ≠ D := fun e => by
  subst e
  rw [hq] at hD
  have e2 := HO.lst.inj (Option.some.inj hD)
  obtain ⟨a, b, _⟩ := h 0 (.int z) (by rw [← e2]; rfl)
  cases b
theorem Ones.put {H : Hp} {lo : Nat} {ys : List V} {D q : Addr} {o : HO} (h : Ones H lo ys) (hD : H D = some (.lst ys)) (hq : H q = some (.lst [.int ((lo + ys.length : Nat) : Int)])) : Ones (upd H D o) lo (ys ++ [.ref q]) := by
  refine Ones.snoc (fun i x hx => ?_) (by rw [upd_ne (h.ne hD hq)]; exact hq)
  obtain ⟨r, a, b⟩ := h i x hx
  exact ⟨r, a, by rw [upd_ne (h.ne hD b)]; exact b⟩
end HX
set_option Elab.async false
set_option linter.all false
set_option maxRecDepth 100000
set_option maxHeartbeats 4400000
namespace HX
open L2 PyProof.Rows PySem.Spec PySem LamX
/-- as okG0, the def's code object named -/
theorem okGT {P : Program} {w : World} {K : PySem.W.Frag} {mg : Str → Option Value} {base : Heap} {x qual : Str} {st : Stmt} {f c : Addr} {fd : FuncData} {N ps : List Str} {k : Nat} {sp : Sp} (F : Fun K x qual st f fd) (S : FnScope N ps (defScope st)) (hc : fd.code = .ref c) (len : ∀ vs H Q E, sp vs H Q E → vs.length = ps.length)
    (hbody : ∀ (A : Around) (outer : List Env) (s : Shared) (H : Hp) (vs : List V) (Q : VK) (E : XK), A.guards = some [] → Room k (A.deeper (envOfC qual (defScope st) s.heap.objs.size f (.ref c))) → sp vs H Q E →
      ∃ t, PSs (cxOf CX0 P w K mg base N qual (defScope st) f (.ref c) A outer s H E).nox (defBody st) t ∧ t { nx := fun _ H' => Q .non H', rt := Q } (L2.start N vs) H) : FnG P w K mg base CX0 (k + 1) f fd ps sp := by
  obtain ⟨oc, od, kV, doc, pm, an, cdv, ct, osl, rfl, lk, hcd⟩ := F.ex
  have e : cdv = .ref c := hc
  subst e
  exact ⟨len, fun A o s H args us vs Q E hg hr e0 hb r hsp => LamX.run_ofS lk hcd S hr e0 hb r (len _ _ _ _ hsp) fun hr' => let ⟨t, p, q⟩ := hbody A o s H vs Q E hg hr' hsp; ⟨t, p.nox, q⟩⟩
/-- f(lambda: body), f a def of the text -/
theorem pe_lamF {X : Cx} {K : PySem.W.Frag} {T : List (Addr × Str)} {TT : (XK → Hp → VK → Prop) → Hp → VK → Prop} {x a : Str} {g c P : Addr} {k : Nat} {st : Stmt} {fd : FuncData} {Ng : List Str} {params : Arguments} {body : Expr} {scope : Scope} {t : XK → TE} {p lpos pos : Pos}
    (hK : X.K = K) (F : Fun K x x st g fd) (b : Binds K fd [a] []) (hg : Gl X x) (hm : X.mg x = some (.ref g)) (Sg : FnScope Ng [a] (defScope st)) (hNg : Ng[0]? = some a) (hva : Vis (defScope st) a)
    (hG : ∀ cdv, GivesTo X Ng x (defScope st) g cdv (defBody st) a (X.env.qual ++ "<lambda>") TT) (TB : TabB X.base X.mg c P) (hcode : X.env.code = .ref c) (hmT : (P, X.env.qual ++ "<lambda>") ∈ T) (hu : ∀ p ∈ T, p.1 = P → p.2 = X.env.qual ++ "<lambda>") (hr : Room (k + 2) X.A)
    (L : LamS X.env.scope scope) (hdef : defaultsOf params X.env = ([], [])) (hbind : ∀ (q : Str) (cl : List (Str × Addr)) (pm cv ctv : Value), bindArgs (PySem.W.kla_fn "<lambda>" q params body scope cl pm cv ctv) ⟨[], []⟩ = pure [])
    (hbody : ∀ (A : Around) (outer : List Env) (s : Shared) (H : Hp) (E : XK) (f c' : Addr), Room k (A.deeper (lamEnv X scope s.heap.objs.size f c')) → PE (lamCx X A outer s H E scope f c') body (t E))
    (hdb : (x == ("__debug__" : Str)) = false := by decide) (hd : (a == ("__debug__" : Str)) = false := by decide) (hcd : (a == ("__classdict__" : Str)) = false := by decide) : PE X (.Call (.Name x p) [.Lambda params body scope lpos] [] pos) (tLam T TT t) := by
  subst hK
  obtain ⟨oc, od, kV, doc, pm, an, cdv, ct, osl, rfl, lk, hc⟩ := F.ex
  exact pe_lamcall hg hm F.kp lk hc b Sg hNg hva (hG cdv) TB hcode hmT hu hr L hdef hbind hbody hdb hd hcd
/-- the law's call, with tables of code objects -/
theorem lawT_core {P : Program} {w : World} {K : PySem.W.Frag} {mg mb : Str → Option Value} {CX : CXT} {k : Nat} {fa a : Addr} {cs : List (Addr × Addr)} {fd : FuncData} {x : Str} {sp : Sp} {s1 : Shared} {vs : List Value} {H : Hp}
    (KX : K.In s1.heap) (hns : s1.heap.Ns mainGlobals mg) (hb : s1.heap.Ns builtinsNs mb) (hbb : ∀ x : Str, x ≠ "__name__" → mb x = bootBuiltins x) (hlim : s1.heap.NoLimit) (hg : s1.gens = #[])
    (hT : ∀ p ∈ cs, PySem.W.CodeHd s1.heap p.1 p.2 ∧ s1.heap.get? p.2 = some (PySem.W.tabObj #[])) (nT : ∀ p ∈ cs, K.lookup p.2 = none)
    (hbm : ∃ (bm : Addr) (ob : Obj), mg "__builtins__" = some (.ref bm) ∧ bm ≠ builtinsNs ∧ s1.heap.get? bm = some ob ∧ ob.cls = .type "module" ∧ ob.dict = some builtinsNs ∧ ob.data = .plain)
    (ha : s1.heap.get? a = some { cls := .type "list", data := .seq vs.toArray }) (hr : Room k callerA)
    (F : ∀ base : Heap, K.In base → base.Ns mainGlobals mg → (∀ p ∈ cs, TabB base mg p.1 p.2) → FnG P w K mg base CX k fa fd [x] sp) (hbind : ∀ (s : Shared) (u : Value), BindsTo s fd ⟨[u], []⟩ [(x, u)])
    (hsp : sp [.ref a] H (fun v _ => v = .bl true) fun _ _ _ => False) (hCX : ∀ e s', CX [] H s1 (fun _ _ _ => False) e s' → False)
    (hH : ∀ p ∈ cs, H p.2 = some (.tbl #[]))
    (hO : ∀ b u, H b = some u → (b = a ∧ ∃ o xs, u = .frz o (.lst xs)) ∨ ∃ p ∈ cs, b = p.2 ∧ u = .tbl #[]) (hok : HOk P w H s1.heap) (hK : ∀ u, H a = some u → K.lookup a = none) :
    codeAny (model P w) callerA (.call (.ref fa) ⟨[.ref a], []⟩) (fun r s' => r = .ok (.ret (.bool true)) ∧ OldK s1.heap s'.heap ∧ s'.os = s1.os ∧ AllBare s'.gens) s1 := by
  have off : ∀ {b : Addr} {o : Obj}, s1.heap.get? b = some o → (∀ us n, o.data ≠ .seq us n) → o.data ≠ .fields #[] → H b = none := fun {b o} e h1 h2 => by
    cases q : H b with
    | none => rfl
    | some u =>
      rcases hO b u q with ⟨y, _⟩ | ⟨p, hp, y, _⟩
      · rw [y, ha] at e; cases e; exact absurd rfl (h1 _ _)
      · rw [y, (hT p hp).2] at e; cases e; exact absurd rfl h2
  have nsK : ∀ {b : Addr} {m : Str → Option Value}, s1.heap.Ns b m → (hidT s1.heap H).Ns b m := fun {b m} ⟨o, es, ep, e, d, r⟩ =>
    ⟨o, es, ep, hidT_get e (off e (fun us n z => by rw [d] at z; cases z) (fun z => by rw [d] at z; cases z)), d, r⟩
  have inB : K.In (hidT s1.heap H) := fun b o e => hidT_get (KX b o e) (by
    cases q : H b with
    | none => rfl
    | some u =>
      have e : K.lookup b = some o := e
      rcases hO b u q with ⟨y, _⟩ | ⟨p, hp, y, _⟩
      · subst y; rw [hK u q] at e; cases e
      · rw [y, nT p hp] at e; cases e)
  have TB : ∀ p ∈ cs, TabB (hidT s1.heap H) mg p.1 p.2 := fun p hp => by
    obtain ⟨hC, hP⟩ := hT p hp
    refine ⟨?_, ?_, fun z => ?_⟩
    · obtain ⟨o, us, r1, r2, r3, r4, r5, r6, r7, e1, dc, d1, q3, q⟩ := hC
      refine ⟨o, us, r1, r2, r3, r4, r5, r6, r7, hidT_get e1 (off e1 (fun us n z => by rw [d1] at z; cases z) (fun z => ?_)), dc, d1, q3, q⟩
      rw [d1] at z; cases z; simp at q3
    · obtain ⟨bm, ob, b1, b2, b3, b4, b5, b6⟩ := hbm
      refine ⟨bm, ob, b1, b2, fun y => ?_, fun y => ?_, hidT_get b3 (off b3 (fun us n z => by rw [b6] at z; cases z) (fun z => by rw [b6] at z; cases z)), b4, b5, b6⟩
      · obtain ⟨o, es, ep, e, d, _⟩ := hns
        rw [y, e] at b3; cases b3; rw [d] at b6; cases b6
      · rw [y, hP] at b3; cases b3; cases b6
    · obtain ⟨o, es, ep, e, d, _⟩ := hns
      rw [z, hP] at e; cases e; cases d
  obtain ⟨mc, l1, l2⟩ := hlim
  have e0 : Env0 P w K mg (hidT s1.heap H) callerA [] s1 H := ⟨rfl, ⟨inB, nsK hns, ⟨mb, nsK hb, hbb⟩, ⟨mc, nsK l1, l2⟩⟩, fun b o e => of_hidT e, Nat.le_of_eq (hidT_size _ _), trivial, fun b z => absurd (show b ∈ ([] : List Addr) from z) List.not_mem_nil, hok, .of_eq hg⟩
  refine codeAny_mono ((F _ inB (nsK hns) TB).go callerA [] s1 H ⟨[.ref a], []⟩ [.ref a] [.ref a] _ _ rfl hr e0 (hbind s1 (.ref a)) (.cons rfl .nil) hsp) fun r s' h => ?_
  match r, h with
  | .error e, h => exact (hCX e s' h).elim
  | .ok .next, h => exact False.elim h
  | .ok .brk, h => exact False.elim h
  | .ok .cont, h => exact False.elim h
  | .ok (.ret u), h =>
    obtain ⟨v, H', os, bare, U, hok', r', q⟩ := h
    obtain rfl : v = .bl true := q
    have ru : u = Value.bool true := r'; subst ru
    have kp : ∀ b o, s1.heap.get? b = some o → s'.heap.get? b = some o ∨ ∃ p ∈ cs, b = p.2 ∧ ∃ more : Array Value, s'.heap.get? b = some { cls := .none, data := .fields more } := fun b o e => by
      cases q : H b with
      | none => exact .inl (U.keep b o e q (fun z => absurd (show b ∈ ([] : List Addr) from z) List.not_mem_nil) List.not_mem_nil)
      | some u =>
        rcases hO b u q with ⟨_, ob, xs, z⟩ | ⟨p, hp, y, z⟩
        · subst z
          have y1 := (hok b _ q).1
          have y2 := (hok' b _ (U.frzs b ob _ q)).1
          rw [e] at y1; cases y1
          exact .inl y2
        · subst z
          obtain ⟨more, m⟩ := U.tbls b #[] q
          exact .inr ⟨p, hp, y, _, hok' b _ m⟩
    refine ⟨rfl, ⟨fun b o e => ?_, fun b o e => ?_⟩, os, bare⟩
    · rcases kp b o e with z | ⟨p, hp, y, more, z⟩
      · exact .inl z
      · have e2 := (hT p hp).2
        rw [← y, e] at e2; cases e2
        rw [y] at z ⊢
        exact .inr (.inl ⟨((hT p hp).1.tab (hT p hp).2).isCodeTable, rfl, #[], more, rfl, by rw [Array.empty_append]; exact z⟩)
    · rcases kp b o e with z | ⟨p, hp, y, more, z⟩
      · exact ⟨o, z⟩
      · exact ⟨_, z⟩
/-- the law's call from what is known at the head's heap; cs: code objects and their tables -/
theorem lawT_at {P q : Program} {loose : List Str} {mean : ExcName → Option Value} {w : World} {K : PySem.W.Frag} {mg mb : Str → Option Value} {CX : CXT} {k n : Nat} {fa a : Addr} {cs : List (Addr × Addr)} {fd : FuncData} {x : Str} {sp : Sp} {s1 : Shared} {vs : List Value} {ns : List Int}
    (T : PyProof.Rows.Top q loose mean mg mb s1.heap) (KX : K.In s1.heap) (hgen : s1.gens = #[]) (hn2 : n ≤ sizeLine) (hr : Room k callerA) (hobj : s1.heap.get? a = some { cls := .type "list", data := .seq vs.toArray }) (hints : IntsAre vs ns) (hlen : ns.length ≤ n)
    (hcs : ∀ p ∈ cs, ∃ y : Str, ((recsOf q).any fun e => e.name == y) = true ∧ PySem.W.tabIn K y = some p) (nT : ∀ p ∈ cs, K.lookup p.2 = none) (hb : ∀ (s : Shared) (u : Value), BindsTo s fd ⟨[u], []⟩ [(x, u)])
    (hF : ∀ base : Heap, K.In base → base.Ns mainGlobals mg → (∀ p ∈ cs, TabB base mg p.1 p.2) → FnG P w K mg base CX k fa fd [x] sp)
    (hsp : ∀ (H : Hp), SqL K H a (ns.map V.int) → (∀ p ∈ cs, H p.2 = some (.tbl #[])) → sp [.ref a] H (fun v _ => v = .bl true) fun _ _ _ => False)
    (hCX : ∀ (G : Hp) (e : Value) (s' : Shared), CX [] G s1 (fun _ _ _ => False) e s' → False) :
    codeAny (model P w) callerA (.call (.ref fa) ⟨[.ref a], []⟩) (fun r s' => r = .ok (.ret (.bool true)) ∧ OldK s1.heap s'.heap ∧ s'.os = s1.os ∧ AllBare s'.gens) s1 := by
  have rv := ints_vals hints; have lv := hints.length
  have hT : ∀ p ∈ cs, PySem.W.CodeHd s1.heap p.1 p.2 ∧ s1.heap.get? p.2 = some (PySem.W.tabObj #[]) := fun p hp => by
    obtain ⟨y, h1, h2⟩ := hcs p hp
    obtain ⟨e, he1, he2⟩ := List.any_eq_true.mp h1
    cases hf : (recsOf q).find? (fun e => e.name == y) with
    | none => exact absurd he2 (List.find?_eq_none.mp hf e he1)
    | some dd => exact PySem.W.tab_of T KX hf h2
  have aT : ∀ p ∈ cs, p.2 ≠ a := fun p hp z => by
    have e := (hT p hp).2
    rw [z, hobj] at e
    have e2 : Data.seq vs.toArray _ = Data.fields #[] := congrArg Obj.data (Option.some.inj e)
    cases e2
  have fz : HO.frz { cls := .type "list", data := .seq vs.toArray } (.lst (ns.map V.int)) = HO.frz { cls := .type "list", data := .seq vs.toArray } (.lst (ns.map V.int)) := rfl
  cases hk : K.lookup a with
  | some o' =>
    have e := KX a o' hk
    rw [hobj] at e
    cases e
    let H0 : Hp := fun b => if b ∈ cs.map (·.2) then some (.tbl #[]) else none
    have at_ : ∀ b u, H0 b = some u → ∃ p ∈ cs, b = p.2 ∧ u = .tbl #[] := fun b u z => by
      by_cases hm : b ∈ cs.map (·.2)
      · obtain ⟨p, hp, e⟩ := List.mem_map.mp hm
        exact ⟨p, hp, e.symm, (Option.some.inj ((if_pos hm).symm.trans z)).symm⟩
      · cases (if_neg hm).symm.trans z
    have hH : ∀ p ∈ cs, H0 p.2 = some (.tbl #[]) := fun p hp => if_pos (List.mem_map.mpr ⟨p, hp, rfl⟩)
    refine lawT_core (H := H0) KX T.g T.b T.builtins T.nolimit hgen hT nT T.bmain hobj hr hF hb (hsp _ (.inr ⟨_, vs.toArray, _, hk, rfl, rfl, rfl, by rw [List.size_toArray, lv]; exact Nat.le_trans hlen hn2, by simpa using rv⟩) hH) (fun e s' => hCX _ e s') hH (fun b u z => .inr (at_ b u z)) (fun b u z => ?_) (fun u z => ?_)
    · obtain ⟨p, hp, e1, e2⟩ := at_ b u z
      subst e2; rw [e1]; exact (hT p hp).2
    · obtain ⟨p, hp, e1, _⟩ := at_ a u z
      exact absurd e1.symm (aT p hp)
  | none =>
    let H0 : Hp := fun b => if b = a then some (.frz { cls := .type "list", data := .seq vs.toArray } (.lst (ns.map V.int))) else if b ∈ cs.map (·.2) then some (.tbl #[]) else none
    have at_ : ∀ b u, H0 b = some u → (b = a ∧ u = .frz { cls := .type "list", data := .seq vs.toArray } (.lst (ns.map V.int))) ∨ ∃ p ∈ cs, b = p.2 ∧ u = .tbl #[] := fun b u z => by
      by_cases hba : b = a
      · exact .inl ⟨hba, (Option.some.inj ((if_pos hba).symm.trans z)).symm⟩
      · have z := (if_neg hba).symm.trans z
        by_cases hm : b ∈ cs.map (·.2)
        · obtain ⟨p, hp, e⟩ := List.mem_map.mp hm
          exact .inr ⟨p, hp, e.symm, (Option.some.inj ((if_pos hm).symm.trans z)).symm⟩
        · cases (if_neg hm).symm.trans z
    have hH : ∀ p ∈ cs, H0 p.2 = some (.tbl #[]) := fun p hp => (if_neg (aT p hp)).trans (if_pos (List.mem_map.mpr ⟨p, hp, rfl⟩))
    refine lawT_core (H := H0) KX T.g T.b T.builtins T.nolimit hgen hT nT T.bmain hobj hr hF hb (hsp _ (.inl (.inr ⟨_, if_pos rfl⟩)) hH) (fun e s' => hCX _ e s') hH (fun b u z => ?_) (fun b u z => ?_) (fun _ _ => hk)
    · rcases at_ b u z with ⟨e1, e2⟩ | q
      · exact .inl ⟨e1, _, _, e2⟩
      · exact .inr q
    · rcases at_ b u z with ⟨e1, e2⟩ | ⟨p, hp, e1, e2⟩
      · subst e1; subst e2
        exact ⟨hobj, by rw [List.length_map]; exact Nat.le_trans hlen hn2, vs, _, rv, hobj⟩
      · subst e2; rw [e1]; exact (hT p hp).2
theorem walk_GX {l : PySem.W.OpenLaw} {n k : Nat} {q : Program} {loose : List Str} {XP : (Str → Option Value) → Heap → Prop} {YP : World → Heap → Prop} {d : DefRec} {CX : World → CXT} {x : Str}
    (hn : l.most = some n) (hn2 : n ≤ sizeLine) (hdf : d.params.defaults = []) (hr : Room k callerA)
    (F : ∀ (w : World) (m : Str → Option Value) (fa : Addr) (h : Heap), YP w h → h.Ns mainGlobals m → m d.name = some (.ref fa) →
      ∃ (K : PySem.W.Frag) (fd : FuncData) (cs : List (Addr × Addr)) (sp : Sp), K.In h ∧ (∀ p ∈ cs, ∃ y : Str, ((recsOf q).any fun e => e.name == y) = true ∧ PySem.W.tabIn K y = some p) ∧ (∀ p ∈ cs, K.lookup p.2 = none) ∧ (∀ (s : Shared) (u : Value), BindsTo s fd ⟨[u], []⟩ [(x, u)]) ∧
        (∀ (H : Hp) (a : Addr) (ns : List Int), ns.length ≤ n → SqL K H a (ns.map V.int) → (∀ p ∈ cs, H p.2 = some (.tbl #[])) → sp [.ref a] H (fun v _ => v = .bl true) fun _ _ _ => False) ∧
        ∀ base : Heap, K.In base → base.Ns mainGlobals m → (∀ p ∈ cs, TabB base m p.1 p.2) → FnG l.prog w K m base (CX w) k fa fd [x] sp)
    (hCX : ∀ (w : World) (G : Hp) (s : Shared) (e : Value) (s' : Shared), CX w [] G s (fun _ _ _ => False) e s' → False) : PySem.W.WalkO q loose XP YP l.row.toRowW d [] (fun f vs => PySem.call f vs) := by
  refine Att.attach_call hn hdf fun w s0 s1 mg mb fa o pm cd doc a vs ns G Y ho hd hcd hmg hobj hints hlen hgen => ?_
  obtain ⟨K, fd, cs, sp, KX, hcs, nT, hb, hsp, hF⟩ := F w mg fa _ Y G.T.g hmg
  exact lawT_at G.T KX hgen hn2 hr hobj hints hlen hcs nT hb hF (fun H h1 h2 => hsp H a ns hlen h1 h2) fun G e s' => hCX w G s1 e s'
end HX
set_option Elab.async false
set_option linter.all false
set_option maxRecDepth 100000
set_option maxHeartbeats 4400000
namespace HX
open L2 PyProof.Rows PySem.Spec PySem LamX
section
variable {X : Cx}
/-- xs.count(y), flat items -/
def rCntF (K : PySem.W.Frag) : V → List V → Hp → VK → Prop := fun x xs H Q => ∃ (p : Addr) (ys : List V) (y : V), x = .ref p ∧ xs = [y] ∧ SqL K H p ys ∧ flatV y = true ∧ ys.all flatV = true ∧ Q (.int (ys.countP (fun z => eqV z y) : Nat)) H
theorem count_flat {uy : Value} {y : V} : ∀ {ys : List V} {us : List Value}, Vals ys us → ys.all flatV = true → us.countP (eqU y) = ys.countP (fun z => eqV z y)
  | _, _, .nil, _ => rfl
  | _, _, .cons r t, f => by
    rw [List.all_cons, Bool.and_eq_true] at f
    rw [List.countP_cons, List.countP_cons, count_flat (uy := uy) t f.2, eqU_of r f.1]
theorem mt_countF : MtR X "list.count" (rCntF X.K) := by
  intro pp t τ G x xs v us Q J rx rxs h
  obtain ⟨p, ys, y, rfl, rfl, hs, fy, fys, q⟩ := h
  cases rx
  cases rxs with
  | cons ry rt =>
    rename_i uy ut
    cases rt
    obtain ⟨its, rv, ⟨⟨cls, dd, data, sl⟩, n, ho, hc, hdn, hd⟩, hlen⟩ := J.list hs
    simp only at hc hd
    subst hc hd
    refine call_meets PySem.F.slot_list_count ⟨_, ho, rfl⟩ PySem.F.entry_list_count (PySem.F.args_list_count_2 _ _) (SeqAt.list_countAt p its.toArray n dd sl uy (eqU y)) ⟨ho, fun u' hu' => mem_eqAt ry fy rv fys u' (by simpa using hu'), ?_⟩
    have ec : its.toArray.toList.countP (eqU y) = ys.countP (fun z => eqV z y) := count_flat (uy := uy) rv fys
    refine ⟨.int (ys.countP (fun z => eqV z y) : Nat), G, J.tok _, ⟨t.toks, ?_⟩, q⟩
    rw [← ec]
end
/-- a lambda handed in is called where what it lets out is wished for at the slots of the call -/
def GivesS (X : Cx) (k : Nat) (Ng : List Str) (x : Str) (sg : Scope) (g : Addr) (cdg : Value) (bg : List Stmt) (a : Str) (q : Str) (TT : (XK → Hp → VK → Prop) → Hp → VK → Prop) : Prop :=
  ∀ (f c' : Addr) (s : Shared) (H : Hp) (Q : VK) (tl : XK → Hp → VK → Prop),
    (∀ (W : WX) (pn : List (Addr × Obj)) (xe : Value → Shared → Prop) (p1 p2 : Pos), Takes ((cxOf C8.CX0 X.prog X.w X.K X.mg X.base Ng x sg g cdg X.A X.stack s H C8.E0).tr pn xe) W →
      PE ((cxOf C8.CX0 X.prog X.w X.K X.mg X.base Ng x sg g cdg X.A X.stack s H C8.E0).tr pn xe) (.Call (.Name a p1) [] [] p2) (fun σZ HZ Q => σZ[0]? = some (some (.ref f)) ∧ HZ c' = some (CodeO c' q) ∧ tl (fun cls d H' => W cls d σZ H') HZ Q)) →
    Room k (X.A.deeper (envOfC x sg s.heap.objs.size g cdg)) → H c' = some (CodeO c' q) → TT tl H Q →
    ∃ t, PSs (cxOf C8.CX0 X.prog X.w X.K X.mg X.base Ng x sg g cdg X.A X.stack s H C8.E0).nox bg t ∧ t { nx := fun _ H' => Q .non H', rt := Q } (L2.start Ng [.ref f]) H
section
variable {X : Cx} {pins : List (Addr × Obj)} {σ : L2.St} {H HZ : Hp} {s s1 : Shared}
theorem pe_actS {CXg : CXT} {Eg : XK} {Ng : List Str} {qg : Str} {sg : Scope} {g f c' : Addr} {cdg pm ctv : Value} {params : Arguments} {body : Expr} {scope : Scope} {k i : Nat} {a : Str} {pn : List (Addr × Obj)} {xe : Value → Shared → Prop} {W : WX} {tb : XK → TE} {p1 p2 : Pos}
    (I : Inv X pins σ H s) (L : LamS X.env.scope scope) (hf : s.heap.get? f = some (PySem.W.kla_obj "<lambda>" (X.env.qual ++ "<lambda>") params body scope (cloFrom X.env.cells scope.names []) pm c' ctv)) (hfn : H f = none) (hfr : f ∉ frs X.stack)
    (hbind : bindArgs (PySem.W.kla_fn "<lambda>" (X.env.qual ++ "<lambda>") params body scope (cloFrom X.env.cells scope.names []) pm (.ref c') ctv) ⟨[], []⟩ = pure [])
    (tk : Takes ((cxOf CXg X.prog X.w X.K X.mg X.base Ng qg sg g cdg X.A X.stack s H Eg).tr pn xe) W) (hr : Room (k + 1) (X.A.deeper (envOfC qg sg s.heap.objs.size g cdg)))
    (hbody : ∀ (A : Around) (outer : List Env) (s : Shared) (H : Hp) (E : XK), Room k (A.deeper (lamEnv X scope s.heap.objs.size f c')) → PE (lamCx X A outer s H E scope f c') body (tb E))
    (hN : Ng[i]? = some a) (hv : Vis sg a) (hd : (a == ("__debug__" : Str)) = false := by decide) (hcd : (a == ("__classdict__" : Str)) = false := by decide) :
    PE ((cxOf CXg X.prog X.w X.K X.mg X.base Ng qg sg g cdg X.A X.stack s H Eg).tr pn xe) (.Call (.Name a p1) [] [] p2)
      (fun σZ HZ Q => σZ[i]? = some (some (.ref f)) ∧ HZ c' = some (CodeO c' (X.env.qual ++ "<lambda>")) ∧ tb (fun cls d H' => W cls d σZ H') σ HZ Q) := by
  refine ⟨fun pz sz σz Hz Q Iz ⟨hs, hc, ht⟩ => wpAny_Call_Name_kw (thn ((pe_var (pos := p1) (i := i) hN hv hd hcd).run pz sz σz Hz (fun v H1 => v = .ref f ∧ H1 = Hz) Iz ⟨.ref f, hs, rfl, rfl⟩) fun u s2 ⟨v, H1, I1, r1, ev, eH⟩ => ?_)⟩
  subst ev; subst eH
  obtain rfl : u = Value.ref f := r1
  have at1 : s2.heap.get? f = some (PySem.W.kla_obj "<lambda>" (X.env.qual ++ "<lambda>") params body scope (cloFrom X.env.cells scope.names []) pm c' ctv) := I1.base.keep f _ hf hfn hfr (fun z => nomatch (show f ∈ ([] : List Addr) from z))
  refine PySem.W.callWith_F0 ⟨_, _, _, _, at1⟩ ?_
  have un : Un (frs X.stack) [] H H1 s.heap s2.heap := I1.base
  obtain ⟨⟨oc, vs, t, hoc, hdc, hvc⟩, _, _⟩ := I1.hok c' _ hc
  have run : codeAny (model X.prog X.w) (X.A.deeper (envOfC qg sg s.heap.objs.size g cdg)) (.call (.ref f) ⟨[], []⟩) (CR (L2.CX X.prog X.w) (envOfC qg sg s.heap.objs.size g cdg :: X.stack) X.prog X.w H1 s2 Q (fun cls d H' => W cls d σz H')) s2 := by
    refine PySem.W.kla_callFunE hr.depth at1 rfl L.co L.gen rfl ⟨c', oc, vs, t, rfl, hoc, hdc, hvc⟩ ?_
    rw [hbind]
    refine wpAny_pure (wpAny_newFunctionEnv (fun y hy => (L.own y hy).2) (fun y hy => absurd hy (by simp)) (fun h₁ hns hsb => ⟨I1.nolimit.fresh _ hsb, ?_⟩) L.kind)
    (show codeAny _ _ (.expr body (lamEnv X scope s2.heap.objs.size f c')) _ _)
    have kp : ∀ b o, s2.heap.get? b = some o → h₁.get? b = some o := fun b o e => hsb.extBut b o (Nat.ne_of_lt (Heap.lt_size e)) (Heap.get?_push_of_some _ e)
    have J : Inv (lamCx X (X.A.deeper (envOfC qg sg s.heap.objs.size g cdg)) (envOfC qg sg s.heap.objs.size g cdg :: X.stack) s2 H1 (fun cls d H' => W cls d σz H') scope f c') [] σ H1 { s2 with heap := h₁, toks := s2.toks + ([] : List (Str × Value)).length } := lam_start2 I L I1.env0 hr.hd un hns kp
    exact PySem.W.kla_codeExpr (wpAny_mono ((hbody _ _ s2 H1 _ (hr.deeper _)).run [] _ _ H1 Q J ht) (fun v s' ⟨w', H', J', rv, q⟩ => ⟨w', H', J'.os, J'.bare, J'.base, J'.hok, rv, q⟩) fun e s' hq => hq)
  refine wpAny_call (codeAny_mono run fun r s' hq => ?_)
  match r, hq with
  | .error e, hq => exact passAt tk σz pz H1 s2 e s' I1 hq
  | .ok (.ret u), hq => exact I1.after hq
  | .ok .next, hq | .ok .brk, hq | .ok .cont, hq => exact False.elim hq
theorem pe_lamS {K : PySem.W.Frag} {T : List (Addr × Str)} {TT : (XK → Hp → VK → Prop) → Hp → VK → Prop} {x a : Str} {g c P : Addr} {k : Nat} {st : Stmt} {fd : FuncData} {Ng : List Str} {params : Arguments} {body : Expr} {scope : Scope} {t : XK → TE} {p lpos pos : Pos}
    (hK : X.K = K) (F : Fun K x x st g fd) (b : Binds K fd [a] []) (hg : Gl X x) (hm : X.mg x = some (.ref g)) (Sg : FnScope Ng [a] (defScope st)) (hNg : Ng[0]? = some a) (hva : Vis (defScope st) a)
    (hG : ∀ cdv, GivesS X (k + 1) Ng x (defScope st) g cdv (defBody st) a (X.env.qual ++ "<lambda>") TT) (TB : TabB X.base X.mg c P) (hcode : X.env.code = .ref c) (hmT : (P, X.env.qual ++ "<lambda>") ∈ T) (hu : ∀ p ∈ T, p.1 = P → p.2 = X.env.qual ++ "<lambda>") (hr : Room (k + 2) X.A)
    (L : LamS X.env.scope scope) (hdef : defaultsOf params X.env = ([], [])) (hbind : ∀ (q : Str) (cl : List (Str × Addr)) (pm cv ctv : Value), bindArgs (PySem.W.kla_fn "<lambda>" q params body scope cl pm cv ctv) ⟨[], []⟩ = pure [])
    (hbody : ∀ (A : Around) (outer : List Env) (s : Shared) (H : Hp) (E : XK) (f c' : Addr), Room k (A.deeper (lamEnv X scope s.heap.objs.size f c')) → PE (lamCx X A outer s H E scope f c') body (t E))
    (hdb : (x == ("__debug__" : Str)) = false := by decide) (hd : (a == ("__debug__" : Str)) = false := by decide) (hcd : (a == ("__classdict__" : Str)) = false := by decide) : PE X (.Call (.Name x p) [.Lambda params body scope lpos] [] pos) (tLam T TT t) := by
  subst hK
  obtain ⟨oc, od, kV, doc, pm, an, cdv, ct, osl, rfl, lk, hc⟩ := F.ex
  refine ⟨fun pp t0 τ G R J ⟨hT, h⟩ => wpAny_Call_Name_kw (ld_glob J hg hm (PySem.W.callWith_K (h₀ := X.base) J.ok.mod.kin F.kp ?_ (by rfl) (by rfl)) hdb)⟩
  (show wpAny _ _ (spliced ((false, eval (.Lambda params body scope lpos) X.env) :: backTo pos (starEach [] X.env))) _ _ t0)
  refine Calls.spliced_cons (lam_make2 J TB hcode hmT hu hT hdef (L.has J.ok) fun f c' pm' ctv H1 s' I1 eN T1 hf hfn hfr hco => Calls.spliced_nil ⟨I1.kIn, ?_⟩)
  refine wpAny_call (codeAny_mono (LamX.run_ofS (N := Ng) (ps := [a]) (us := [.ref f]) (vs := [.ref f]) (CX := C8.CX0) (E := C8.E0) (Q := R) lk hc Sg hr I1.env0 (b s' [.ref f] I1.kIn rfl) (.cons rfl .nil) rfl fun hr' => ?_) fun r s2 hq => ?_)
  · obtain ⟨t', ht', hq'⟩ := hG cdv f c' s' H1 R (fun E H' Q' => t E τ H' Q') (fun W pn xe p1 p2 tk => pe_actS (i := 0) I1 L hf hfn hfr (hbind _ _ _ _ _) tk hr' (fun A outer s H E hr2 => hbody A outer s H E f c' hr2) hNg hva hd hcd) hr' hco (h H1 eN T1)
    exact ⟨t', ht'.nox, hq'⟩
  · match r, hq with
    | .error e, hq => exact (show False from hq).elim
    | .ok (.ret u), hq => exact I1.after hq
    | .ok .next, hq | .ok .brk, hq | .ok .cont, hq => exact False.elim hq
end
/-- what is no table stays -/
theorem _root_.LamX.ExtN.ex {H H' : Hp} (e : ExtN H H') : ∀ {a : Addr} {o : HO}, H a = some o → (∀ ps, o ≠ .tbl ps) → H' a = some o := fun h n => e _ _ h n
theorem Dz.en {p : Addr} {H H' : Hp} {v : V} {d : PyData} (h : Dz p H v d) (e : ExtN H H') : Dz p H' v d := by
  induction h with
  | non => exact .non
  | bl b => exact .bl b
  | int i => exact .int i
  | str x => exact .str x
  | lst h n m hl _ ih => exact .lst (e _ _ h (fun _ z => by cases z)) n m hl ih
  | tup h hl _ ih => exact .tup (e _ _ h (fun _ z => by cases z)) hl ih
  | dct h hl _ ih => exact .dct (e _ _ h (fun _ z => by cases z)) hl ih
/-- all but what stands at p, and tables -/
def XN (p : Addr) (H H' : Hp) : Prop := ∀ a o, a ≠ p → (∀ ps, o ≠ .tbl ps) → H a = some o → H' a = some o
theorem XB.xn {p : Addr} {H H' : Hp} (e : XB p H H') : XN p H H' := fun a o n _ h => e a o n h
theorem XN.tr {p : Addr} {H H1 H2 : Hp} (a : XN p H H1) (b : XN p H1 H2) : XN p H H2 := fun c o n t h => b c o n t (a c o n t h)
theorem en_xn {p : Addr} {H H' : Hp} (e : ExtN H H') : XN p H H' := fun a o _ t h => e a o h t
theorem tabs_xb {T : List (Addr × Str)} {p : Addr} {H H' : Hp} {xs : List V} (t : Tabs T H) (hp : H p = some (.lst xs)) (e : XB p H H') : Tabs T H' := fun q hq => by
  obtain ⟨ps, h1, h2, h3⟩ := t q hq
  refine ⟨ps, e _ _ (fun z => by rw [z, hp] at h1; cases h1) h1, h2, fun pos cv hc => ?_⟩
  obtain ⟨c, e1, e2⟩ := h3 pos cv hc
  exact ⟨c, e1, e _ _ (fun z => by rw [z, hp] at e2; unfold CodeO at e2; cases e2) e2⟩
/-- what isinstance says of any data -/
def isInt : V → Bool | .int _ => true | .bl _ => true | _ => false
def isBool : V → Bool | .bl _ => true | _ => false
def Kd (K : PySem.W.Frag) (H : Hp) (v : V) : Prop := ∃ t : String, TyX K H v (.type t) ∧ PySem.W.kitOne K (.type t) (.type "int") = some (isInt v) ∧ PySem.W.kitOne K (.type t) (.type "bool") = some (isBool v)
theorem kd_of {K : PySem.W.Frag} {p : Addr} {H : Hp} {v : V} {d : PyData} (h : Dz p H v d) : Kd K H v := by
  cases h with
  | non => exact ⟨_, .base .non, kit_ty (r := false) (by decide +kernel), kit_ty (r := false) (by decide +kernel)⟩
  | bl b => exact ⟨_, .base (.bl _), kit_ty (r := true) (by decide +kernel), kit_ty (r := true) (by decide +kernel)⟩
  | int i => exact ⟨_, .base (.int _), kit_ty (r := true) (by decide +kernel), kit_ty (r := false) (by decide +kernel)⟩
  | str x => exact ⟨_, .base (.str _), kit_ty (r := false) (by decide +kernel), kit_ty (r := false) (by decide +kernel)⟩
  | lst h => exact ⟨_, .base (.lst h), kit_ty (r := false) (by decide +kernel), kit_ty (r := false) (by decide +kernel)⟩
  | tup h => exact ⟨_, .base (.tup h), kit_ty (r := false) (by decide +kernel), kit_ty (r := false) (by decide +kernel)⟩
  | dct h => exact ⟨_, .base (.dK h), kit_ty (r := false) (by decide +kernel), kit_ty (r := false) (by decide +kernel)⟩
/-- an integer from lo on that is less than hi -/
def whole (v : V) (lo hi : Int) : Bool := match v with
  | .int i => decide (lo ≤ i) && decide (i < hi)
  | _ => false
theorem whole_int {v : V} {lo hi : Int} (h : whole v lo hi = true) : ∃ i, v = .int i ∧ lo ≤ i ∧ i < hi := by
  cases v with
  | int i => simp [whole] at h; exact ⟨i, rfl, h.1, h.2⟩
  | _ => simp [whole] at h
def spWholeA (K : PySem.W.Frag) : Sp := fun vs H Q _ => ∃ (v : V) (lo hi : Int), vs = [v, .int lo, .int hi] ∧ Kd K H v ∧ Q (.bl (whole v lo hi)) H
end HX
set_option Elab.async false
set_option linter.all false
set_option maxRecDepth 100000
set_option maxHeartbeats 4400000
namespace HX
open L2 PyProof.Rows PySem.Spec PySem
/-! ### a Hook by facts of one's own, and the defs as they stand -/
/-- what an object of the top leads to: a namespace to what it holds, a class to its namespace, a def to its code and defaults, a property to its defs -/
def nextO (o : Obj) : List Addr := match o.data with
  | .dict es _ => es.toList.flatMap fun e => He.refV e.val
  | .cls cd => [cd.ns]
  | .func fd => He.refV fd.code ++ (He.refV fd.defaults ++ He.refV fd.kwdefaults)
  | .fields vs => if o.cls == .type "code" then [] else vs.toList.flatMap He.refV
  | _ => []
def nextG (g : Addr → Option Obj) (as : List Addr) : List Addr := as.flatMap fun a => match g a with
  | some o => nextO o
  | none => []
def pathG (g : Addr → Option Obj) : Nat → List Addr → List Addr
  | 0, as => as
  | n + 1, as => as ++ pathG g n (nextG g as)

/-! ### defs by the address they stand at -/
structure DX where
  at_ : PySem.W.Frag → Addr
  name : Str
  qual : Str
  st : Stmt
/-- a def of the module -/
def glo (x : Str) (K : PySem.W.Frag) : Addr := He.ga K x
/-- a def of a class -/
def met (C m : Str) (K : PySem.W.Frag) : Addr := He.ma K (He.ga K C) m
/-- the getter of a property of a class -/
def prp (C f : Str) (K : PySem.W.Frag) : Addr := match PySem.W.recIn K (He.ma K (He.ga K C) f) "property" with
  | some (.ref g :: _) => g
  | _ => 0
def fnX (K : PySem.W.Frag) (a : Addr) : He.FnW := match K.lookup a with
  | some ⟨_, _, .func fd, _⟩ => some (fd.name, fd.qualname, fd.params, fd.body, fd.scope, fd.globals, fd.closure, fd.builtins)
  | _ => none
def DX.val (d : DX) : He.FnW := some (d.name, d.qual, defArgs d.st, .stmts (defBody d.st), defScope d.st, mainGlobals, [], builtinsNs)
def DX.ok (K : PySem.W.Frag) (d : DX) : Bool := PySem.W.keepIn K (.ref (d.at_ K)) && (match K.lookup (d.at_ K) with
  | some ⟨_, _, .func fd, _⟩ => PySem.W.codeIn K fd.code d.qual && decide (fd.defaults = .none)
  | _ => false)
theorem DX.fun_ {K : PySem.W.Frag} {d : DX} (e : fnX K (d.at_ K) = d.val) (c : d.ok K = true) : ∃ fd, Fun K d.name d.qual d.st (d.at_ K) fd := by
  obtain ⟨kp, c2⟩ := Bool.and_eq_true_iff.mp c
  unfold fnX at e
  cases q : K.lookup (d.at_ K) with
  | none => rw [q] at c2; cases c2
  | some o =>
    obtain ⟨oc, od, dt, osl⟩ := o
    rw [q] at c2 e
    cases dt with
    | func fd =>
      obtain ⟨n1, n2, n3, n4, n5, n6, n7, n8, n9, n10, n11, n12, n13, n14, n15⟩ := fd
      have e2 : (some (n1, n2, n3, n4, n5, n6, n7, n15) : He.FnW) = some (d.name, d.qual, defArgs d.st, .stmts (defBody d.st), defScope d.st, mainGlobals, [], builtinsNs) := e
      simp only [Option.some.injEq, Prod.mk.injEq] at e2
      obtain ⟨h1, h2, h3, h4, h5, h6, h7, h8⟩ := e2
      subst h1 h2 h3 h4 h5 h6 h7 h8
      obtain ⟨k1, k2⟩ := Bool.and_eq_true_iff.mp (show (PySem.W.codeIn K n13 d.qual && decide (n8 = .none)) = true from c2)
      have k3 : n8 = .none := of_decide_eq_true k2
      subst k3
      exact ⟨_, ⟨oc, od, n9, n10, n11, n12, n13, n14, osl, rfl, q, k1⟩, kp⟩
    | _ => cases c2
def obsX (n : Nat) (ex : PySem.W.Frag → Bool) (fn : List DX) (g : Addr → Option Obj) : He.AlD :=
  let K := He.frG g (pathG g n [mainGlobals])
  (ex K && fn.all fun d => d.ok K, fn.map fun d => fnX K (d.at_ K))
def valX (fn : List DX) : He.AlD := (true, fn.map DX.val)
def SaysX (ex : PySem.W.Frag → Bool) (fn : List DX) (K : PySem.W.Frag) : Prop := (ex K && fn.all fun d => d.ok K, fn.map fun d => fnX K (d.at_ K)) = valX fn
def hookX (n : Nat) (ex : PySem.W.Frag → Bool) (fn : List DX) : PySem.W.Hook where
  α := He.AlD
  obs := fun s => obsX n ex fn s.heap.get?
  val := fun _ => valX fn
  says := fun _ h => ∃ K : PySem.W.Frag, K.In h ∧ SaysX ex fn K
  of := fun _ _ e => ⟨_, He.frG_in, e⟩
  keeps := fun _ _ _ ⟨K, a, c⟩ k => ⟨K, PySem.W.Frag.In.keeps a k, c⟩
def obT (n : Nat) (ex : PySem.W.Frag → Bool) (fn : List DX) (s : PySem.W.SharedT) : He.AlD := obsX n ex fn (HandSHeadRun.getT s)
theorem obT_eq {n : Nat} {ex : PySem.W.Frag → Bool} {fn : List DX} (s : PySem.W.SharedT) : obT n ex fn s = (hookX n ex fn).obs s.abs := by
  have e : HandSHeadRun.getT s = s.abs.heap.get? := funext (HandSHeadRun.getT_eq s)
  unfold obT; rw [e]; rfl
theorem SaysX.facts {ex : PySem.W.Frag → Bool} {fn : List DX} {K : PySem.W.Frag} (c : SaysX ex fn K) : ex K = true := (Bool.and_eq_true_iff.mp (show (ex K && fn.all fun d => d.ok K) = true from congrArg (fun z : He.AlD => z.1) c)).1
theorem SaysX.def_ {ex : PySem.W.Frag → Bool} {fn : List DX} {K : PySem.W.Frag} (c : SaysX ex fn K) (i : Nat) {d : DX} (h : fn[i]? = some d) : ∃ fd, Fun K d.name d.qual d.st (d.at_ K) fd := by
  have c1 := (Bool.and_eq_true_iff.mp (show (ex K && fn.all fun d => d.ok K) = true from congrArg (fun z : He.AlD => z.1) c)).2
  have e : fn.map (fun d => fnX K (d.at_ K)) = fn.map DX.val := congrArg (fun z : He.AlD => z.2) c
  have e2 : (fn.map (fun d => fnX K (d.at_ K)))[i]? = (fn.map DX.val)[i]? := by rw [e]
  rw [List.getElem?_map, List.getElem?_map, h] at e2
  exact DX.fun_ (Option.some.inj e2) (List.all_eq_true.mp c1 d (List.mem_of_getElem? h))
/-! ### facts of own classes -/
def clsB (K : PySem.W.Frag) (C : Addr) : Bool := PySem.W.plainGet K C Str.empty && (PySem.W.hasDictIn K C && (PySem.W.plainOver K C && He.eqO (PySem.W.findIn K (.ref C) "__setattr__") (some (some (.builtin "object.__setattr__")))))
theorem clsB_ok {K : PySem.W.Frag} {C : Addr} (c : clsB K C = true) : Cls K C := by
  obtain ⟨c1, c⟩ := Bool.and_eq_true_iff.mp c
  obtain ⟨c2, c⟩ := Bool.and_eq_true_iff.mp c
  obtain ⟨c3, c4⟩ := Bool.and_eq_true_iff.mp c
  exact ⟨c1, c2, c3, He.eqO_ok c4⟩
def mkB (K : PySem.W.Frag) (C f : Addr) : Bool := PySem.W.makesIn K C && (He.eqO (PySem.W.findIn K (.ref C) "__init__") (some (some (.ref f))) && (PySem.W.isFn K (.ref f) && PySem.W.keepIn K (.ref C)))
theorem mkB_ok {K : PySem.W.Frag} {C f : Addr} (c : mkB K C f = true) : Mk K C f := by
  obtain ⟨c1, c⟩ := Bool.and_eq_true_iff.mp c
  obtain ⟨c2, c⟩ := Bool.and_eq_true_iff.mp c
  obtain ⟨c3, c4⟩ := Bool.and_eq_true_iff.mp c
  exact ⟨c1, He.eqO_ok c2, c3, c4⟩
def noatB (K : PySem.W.Frag) (C : Addr) (f : Str) : Bool := He.eqO (PySem.W.findIn K (.ref C) f) (some none)
theorem noatB_ok {K : PySem.W.Frag} {C : Addr} {f : Str} (c : noatB K C f = true) : NoAttr K C f := He.eqO_ok c
def propB (K : PySem.W.Frag) (C : Addr) (f : Str) (p g : Addr) : Bool := He.eqO (PySem.W.findIn K (.ref C) f) (some (some (.ref p))) && (He.eqO (PySem.W.specialIn K (.ref p) "__get__") (some (some (.builtin "property.__get__"))) &&
  (decide (PySem.W.takesIn K (.ref p) = some true) && (match PySem.W.recIn K p "property" with
    | some (.ref b :: _) => decide (b = g)
    | _ => false)))
theorem propB_ok {K : PySem.W.Frag} {C : Addr} {f : Str} {p g : Addr} (c : propB K C f p g = true) : PropOf K C f p g := by
  obtain ⟨c1, c⟩ := Bool.and_eq_true_iff.mp c
  obtain ⟨c2, c⟩ := Bool.and_eq_true_iff.mp c
  obtain ⟨c3, c4⟩ := Bool.and_eq_true_iff.mp c
  refine ⟨He.eqO_ok c1, He.eqO_ok c2, of_decide_eq_true c3, ?_⟩
  split at c4
  · rename_i b r e
    obtain rfl : b = g := of_decide_eq_true c4
    exact ⟨r, e⟩
  · cases c4
def methB (K : PySem.W.Frag) (C : Addr) (m : Str) (f : Addr) : Bool := He.eqO (PySem.W.findIn K (.ref C) m) (some (some (.ref f))) && (PySem.W.isFn K (.ref f) && PySem.W.keepIn K (.ref f))
theorem methB_ok {K : PySem.W.Frag} {C : Addr} {m : Str} {f : Addr} (c : methB K C m f = true) : Meth K C m f := by
  obtain ⟨c1, c⟩ := Bool.and_eq_true_iff.mp c
  obtain ⟨c2, c3⟩ := Bool.and_eq_true_iff.mp c
  exact ⟨He.eqO_ok c1, c2, c3⟩
/-- what isinstance and the class of an object ask -/
def isiB (K : PySem.W.Frag) (C : Addr) : Bool := He.eqO (PySem.W.findIn K (.ref C) "__class__") (some (some (.builtin "object.__class__"))) && decide (PySem.W.mroIn K C (.type "object") = some true)
theorem isiB_ok {K : PySem.W.Frag} {C : Addr} (c : isiB K C = true) : PySem.W.findIn K (.ref C) "__class__" = some (some (.builtin "object.__class__")) ∧ PySem.W.mroIn K C (.type "object") = some true := by
  obtain ⟨c1, c2⟩ := Bool.and_eq_true_iff.mp c
  exact ⟨He.eqO_ok c1, of_decide_eq_true c2⟩
/-! ### code objects and their tables -/
def cod (y : Str) (K : PySem.W.Frag) : Addr := match PySem.W.tabIn K y with
  | some p => p.1
  | none => 0
def tbl (y : Str) (K : PySem.W.Frag) : Addr := match PySem.W.tabIn K y with
  | some p => p.2
  | none => 0
def tabB (K : PySem.W.Frag) (y : Str) : Bool := decide (PySem.W.tabIn K y = some (cod y K, tbl y K)) && (K.lookup (tbl y K)).isNone
theorem tabB_ok {K : PySem.W.Frag} {y : Str} (c : tabB K y = true) : PySem.W.tabIn K y = some (cod y K, tbl y K) ∧ K.lookup (tbl y K) = none := by
  obtain ⟨c1, c2⟩ := Bool.and_eq_true_iff.mp c
  exact ⟨of_decide_eq_true c1, Option.isNone_iff_eq_none.mp c2⟩
theorem code_of {K : PySem.W.Frag} {x q y : Str} {st : Stmt} {fd : FuncData} {c P : Addr} (F : Fun K x q st (He.ga K y) fd) (h : PySem.W.tabIn K y = some (c, P)) : fd.code = .ref c := by
  obtain ⟨oc, od, kV, doc, pm, an, cdv, ct, osl, rfl, lk, hcd⟩ := F.ex
  unfold PySem.W.tabIn at h
  unfold He.ga at lk
  split at h
  · rename_i f hf
    rw [hf] at lk
    dsimp only at lk
    rw [lk] at h
    dsimp only at h
    split at h
    · split at h
      · split at h
        · cases h; first | rfl | assumption
        · cases h
      · cases h
    · cases h
  · cases h
end HX
set_option Elab.async false
set_option linter.all false
set_option maxRecDepth 100000
set_option maxHeartbeats 4400000
namespace HX
open L2 PyProof.Rows PySem.Spec PySem
open PySem.W (Frag)
/-! ### facts of own errors -/
def ExcObj (K : Frag) (C : Addr) : Prop := ∃ nm q N bs bm sn sub ab col dd k0 k1 k2 k3 k5, K.lookup C = some (excClassObj nm q C N bs bm true sn sub ab col dd k0 k1 k2 k3 k5 "ValueError.__new__") ∧ PySem.HandSPX.refsVE bm = true
theorem exc_mk {K : Frag} {C : Addr} {nm q : Str} {N : Addr} {bs bm : List Value} {sn : List Str} {sub : List Value} {ab : Bool} {col : Option Bool} {dd : Option Addr} {k0 k1 k2 k3 k5 : Option Value}
    (h : K.lookup C = some (excClassObj nm q C N bs bm true sn sub ab col dd k0 k1 k2 k3 k5 "ValueError.__new__")) (r : PySem.HandSPX.refsVE bm = true) : ExcObj K C := ⟨_, _, _, _, _, _, _, _, _, _, _, _, _, _, _, h, r⟩
/-- what an own error's class says, but for its __init__ -/
def errB0 (K : Frag) (C : Addr) : Bool :=
  (PySem.W.clsIn K C).isSome && PySem.W.findIn K (.ref C) "__getattribute__" == some (some (.builtin "BaseException.__getattribute__")) && PySem.W.findIn K (.ref C) "__getattr__" == some none
  && PySem.W.subIn K (.ref C) (.type "BaseException") == some true && PySem.W.findIn K (.ref C) "__class__" == some (some (.builtin "object.__class__"))
  && PySem.W.specialIn K (.builtin "object.__class__") "__get__" == some (some (.builtin "getset_descriptor.__get__")) && PySem.W.takesIn K (.builtin "object.__class__") == some true && PySem.W.mroIn K C (.type "object") == some true
  && PySem.W.keepIn K (.ref C)
theorem errB0_er {K : Frag} {C : Addr} (h : errB0 K C = true) : ErrC K C := by
  unfold errB0 at h
  simp only [Bool.and_eq_true, beq_iff_eq] at h
  obtain ⟨⟨⟨⟨⟨⟨⟨⟨h1, h2⟩, h3⟩, h4⟩, h5⟩, h6⟩, h7⟩, h8⟩, _⟩ := h
  exact ⟨h1, h2, h3, h4, h5, h6, h7, h8⟩
theorem errB0_keep {K : Frag} {C : Addr} (h : errB0 K C = true) : PySem.W.keepIn K (.ref C) = true := by
  unfold errB0 at h
  simp only [Bool.and_eq_true, beq_iff_eq] at h
  exact h.2
def errB (K : Frag) (C f : Addr) (n : Str) : Bool :=
  errB0 K C && PySem.W.hasDictIn K C && PySem.W.findIn K (.ref C) "__setattr__" == some (some (.builtin "object.__setattr__")) && PySem.W.typeIn K (.ref C) == some (.type "type") && PySem.W.findIn K (.ref C) n == some none
  && PySem.W.findIn K (.ref C) "__init__" == some (some (.ref f)) && PySem.W.typeIn K (.ref f) == some (.type "function")
theorem errT_mk_er {K : Frag} {C f : Addr} {n : Str} (h : errB K C f n = true) : ErrC K C := by
  unfold errB at h
  simp only [Bool.and_eq_true, beq_iff_eq] at h
  exact errB0_er h.1.1.1.1.1.1
theorem errT_mk {K : Frag} {mg : Str → Option Value} {x n : Str} {C f : Addr} {d : FuncData} (o : ExcObj K C) (h : errB K C f n = true) (b : Binds K d ["self", n] []) (kb : ∀ (s : Shared) (a u : Value), K.In s.heap → BindsTo s d ⟨[a], [(n, u)]⟩ [("self", a), (n, u)]) (m : mg x = some (.ref C)) : ErrT K mg x n C f d := by
  unfold errB at h
  simp only [Bool.and_eq_true, beq_iff_eq] at h
  obtain ⟨⟨⟨⟨⟨⟨h0, h1⟩, h2⟩, h3⟩, h4⟩, h5⟩, h6⟩ := h
  have e := errB0_er h0
  exact ⟨⟨o, h2, e.be, h3, errB0_keep h0⟩, ⟨e.ga, e.gt, e.be, h1⟩, e, h4, h5, h6, b, kb, m⟩
def mroOne (K : Frag) (T C : Addr) : Bool := (PySem.W.clsIn K C).any (fun cd => decide (cd.mro = [.ref C, .ref T, .type "ValueError", .type "Exception", .type "BaseException", .type "object"])) && decide (PySem.W.typeIn K (.ref C) = some (.type "type"))
/-- errors right below the class at T, all different -/
def mroB (K : Frag) (T : Addr) (l : List Addr) : Bool := (PySem.W.clsIn K T).isSome && (decide (PySem.W.typeIn K (.ref T) = some (.type "type")) && (l.all (mroOne K T) && (decide (l.Nodup) && l.all fun C => !(C == T))))
theorem mroOne_sub {K : Frag} {T C : Addr} {v : Value} (h : mroOne K T C = true) : PySem.W.subIn K (.ref C) v = some (([.ref C, .ref T, .type "ValueError", .type "Exception", .type "BaseException", .type "object"] : List Value).contains v) := by
  unfold mroOne at h
  rw [Bool.and_eq_true] at h
  cases e : PySem.W.clsIn K C with
  | none => rw [e] at h; cases h.1
  | some cd =>
    rw [e] at h
    have m : cd.mro = _ := of_decide_eq_true h.1
    show PySem.W.mroIn K C v = _
    unfold PySem.W.mroIn
    rw [e]
    show (if cd.mro.isEmpty = true then none else some (cd.mro.contains v)) = _
    rw [m]; rfl
theorem mroOne_cls {K : Frag} {T C : Addr} (h : mroOne K T C = true) : (PySem.W.clsIn K C).isSome = true ∧ PySem.W.typeIn K (.ref C) = some (.type "type") := by
  unfold mroOne at h
  rw [Bool.and_eq_true] at h
  refine ⟨?_, of_decide_eq_true h.2⟩
  cases e : PySem.W.clsIn K C with
  | none => rw [e] at h; cases h.1
  | some cd => rfl
theorem mroB_kit {K : Frag} {T : Addr} {l : List Addr} (h : mroB K T l = true) : ∀ C ∈ l, ∀ D ∈ l, PySem.W.kitOne K (.ref C) (.ref D) = some (C == D) := fun C hC D hD => by
  unfold mroB at h
  simp only [Bool.and_eq_true, List.all_eq_true, Bool.not_eq_true', beq_eq_false_iff_ne] at h
  obtain ⟨_, _, h1, _, h3⟩ := h
  obtain ⟨c1, c2⟩ := mroOne_cls (h1 D hD)
  have sb := mroOne_sub (v := .ref D) (h1 C hC)
  by_cases e : C = D
  · subst e; simp [PySem.W.kitOne]
  · have n1 : (C == D) = false := beq_eq_false_iff_ne.mpr e
    have n2 : ((Value.ref C) == (.ref D)) = false := by simp [e]
    rw [n1]
    have ct : ([.ref C, .ref T, .type "ValueError", .type "Exception", .type "BaseException", .type "object"] : List Value).contains (.ref D) = false := by
      have e2 : ¬ D = C := fun z => e z.symm
      have e3 : ¬ D = T := h3 D hD
      simp [e2, e3]
    rw [ct] at sb
    simp [PySem.W.kitOne, PySem.W.kitCls, n2, c1, c2, sb]
theorem mroB_te {K : Frag} {T : Addr} {l : List Addr} (h : mroB K T l = true) : ∀ C ∈ l, PySem.W.kitOne K (.ref C) (.ref T) = some true := fun C hC => by
  unfold mroB at h
  simp only [Bool.and_eq_true, List.all_eq_true, Bool.not_eq_true', beq_eq_false_iff_ne, decide_eq_true_eq] at h
  obtain ⟨t1, t2, h1, _, h3⟩ := h
  have sb := mroOne_sub (v := .ref T) (h1 C hC)
  have n2 : ((Value.ref C) == (.ref T)) = false := by simp [h3 C hC]
  have ct : ([.ref C, .ref T, .type "ValueError", .type "Exception", .type "BaseException", .type "object"] : List Value).contains (.ref T) = true := by simp
  rw [ct] at sb
  simp [PySem.W.kitOne, PySem.W.kitCls, n2, t1, t2, sb]
theorem mroB_ve {K : Frag} {T : Addr} {l : List Addr} (h : mroB K T l = true) : ∀ C ∈ l, PySem.W.kitOne K (.ref C) (.type "ValueError") = some true := fun C hC => by
  unfold mroB at h
  simp only [Bool.and_eq_true, List.all_eq_true, Bool.not_eq_true', beq_eq_false_iff_ne] at h
  obtain ⟨_, _, h1, _, _⟩ := h
  have sb := mroOne_sub (v := .type "ValueError") (h1 C hC)
  have ct : ([.ref C, .ref T, .type "ValueError", .type "Exception", .type "BaseException", .type "object"] : List Value).contains (.type "ValueError") = true := by simp
  rw [ct] at sb
  have km : PySem.W.kitMeta "ValueError" = true := by decide +kernel
  have n2 : ((Value.ref C) == (.type "ValueError")) = false := rfl
  simp [PySem.W.kitOne, PySem.W.kitCls, n2, km, sb]
theorem mroB_nd {K : Frag} {T : Addr} {l : List Addr} (h : mroB K T l = true) : l.Nodup := by
  unfold mroB at h
  simp only [Bool.and_eq_true, decide_eq_true_eq] at h
  exact h.2.2.2.1
def excB (K : Frag) (C : Addr) : Bool := match K.lookup C with
  | some ⟨.type "type", _, .cls cd, sl⟩ => (match cd.mro, sl.toList with
    | .ref D :: bm, [_, _, _, _, some (.builtin n), _] => D == C && (n == "ValueError.__new__" && (!cd.hasDel && (cd.hasDict && PySem.HandSPX.refsVE bm)))
    | _, _ => false)
  | _ => false
theorem excB_ok {K : Frag} {C : Addr} (q : excB K C = true) : ExcObj K C := by
  unfold excB at q
  split at q
  · rename_i dd cd sl ho
    split at q
    · rename_i D bm k0 k1 k2 k3 n k5 hm hs
      simp only [Bool.and_eq_true, beq_iff_eq, Bool.not_eq_true'] at q
      obtain ⟨rfl, rfl, hdel, hdi, hr⟩ := q
      obtain ⟨nm, bs, mro, ns, qn, hd, sn, sub, ab, col, del⟩ := cd
      dsimp only at hm hdel hdi
      subst hm hdel hdi
      obtain ⟨l⟩ := sl
      simp only at hs
      subst hs
      exact ⟨_, _, _, _, _, _, _, _, _, _, _, _, _, _, _, ho, hr⟩
    · cases q
  · cases q
theorem kb_of {K : Frag} {x q n : Str} {st : Stmt} {f : Addr} {fd : FuncData} (F : Fun K x q st f fd) (h : ∀ (kV doc pm : Value) (an : Option Addr) (cdv ct : Value) (a u : Value), bindArgs (PySem.W.fnOf x q (defArgs st) (defBody st) (defScope st) .none kV doc pm an cdv ct) ⟨[a], [(n, u)]⟩ = pure [(("self" : Str), a), (n, u)]) :
    ∀ (s : Shared) (a u : Value), K.In s.heap → BindsTo s fd ⟨[a], [(n, u)]⟩ [("self", a), (n, u)] := by
  obtain ⟨oc, od, kV, doc, pm, an, cdv, ct, osl, rfl, lk, hcd⟩ := F.ex
  exact fun s a u _ => .of_eq (h _ _ _ _ _ _ _ _)
theorem mroB_xte {K : Frag} {T : Addr} {l : List Addr} (h : mroB K T l = true) (hb : PySem.W.subIn K (.ref T) (.type "BaseException") = some true) : ∀ C ∈ l, PySem.W.exmOne K (.ref C) (.ref T) = some true := fun C hC => by
  have k := mroB_te h C hC
  have h2 := h
  unfold mroB at h2
  simp only [Bool.and_eq_true, List.all_eq_true, Bool.not_eq_true', beq_eq_false_iff_ne, decide_eq_true_eq] at h2
  have n2 : ((Value.ref C) == (.ref T)) = false := by simp [h2.2.2.2.2 C hC]
  unfold PySem.W.kitOne at k
  rw [n2] at k
  unfold PySem.W.exmOne
  rw [hb]
  exact k
end HX
set_option Elab.async false
set_option linter.all false
set_option maxRecDepth 100000
set_option maxHeartbeats 4400000
namespace HX
open L2 PyProof.Rows PySem.Spec PySem
open PySem.W (Frag)
/-! ### list(..) of a list or a tuple: the new list stands apart from the table of modules -/
def rListN (K : Frag) : List V → Hp → VK → Prop := fun xs H Q => ∃ p ys, xs = [.ref p] ∧ (SqL K H p ys ∨ SqT K H p ys) ∧ ∀ l, H l = none → l ≠ sysModules → Q (.ref l) (upd H l (.lst ys))
theorem call_listN {X : Cx} : CallR X (.type "list") (rListN X.K) := fun pp t τ G xs us R J r h => by
  obtain ⟨p, ys, e0, hs, q⟩ := h
  subst e0
  match us, r with
  | [_], .cons rx .nil =>
    cases rx
    have new : ∀ (vs : List Value) (g : Heap) (n : Nat), Vals ys vs → ys.length ≤ sizeLine → (∀ b o, t.heap.get? b = some o → g.get? b = some o) → g.get? t.heap.objs.size = some ⟨.type "list", none, .seq vs.toArray n, #[]⟩ → EP X pp τ R (.ref t.heap.objs.size) ⟨g, t.gens, t.drawn, t.toks, t.os⟩ :=
      fun vs g n rv z kp e => ⟨.ref t.heap.objs.size, _, J.laid (t' := t.toks) (o := .lst ys) kp (Nat.le_refl _) ⟨z, vs, n, rv, e⟩, rfl, q _ (J.hok.fresh (Nat.le_refl _)) (Nat.ne_of_gt J.big)⟩
    rcases hs with hs | hs
    · obtain ⟨vs, rv, pl, z⟩ := J.list hs
      have n63 := line63; have ln := rv.length
      obtain ⟨o, h1, h2, n, h3⟩ := pl.isList
      exact call_list_seq p (.inl rfl) h1 h2 h3 (fun g n' kp e => new vs g n' rv z kp e) (by rw [List.size_toArray]; omega)
    · obtain ⟨vs, rv, ⟨o, h1, h2, n, h3⟩, z⟩ := J.tuple hs
      have n63 := line63; have ln := rv.length
      exact call_list_seq p (.inr rfl) h1 h2 h3 (fun g n' kp e => new vs g n' rv z kp e) (by rw [List.size_toArray]; omega)
/-! ### short sequences of small ints -/
def bdB (d : PyData) : Bool := d.showable && decide (d.depth ≤ 4) && d.leavesShort 24 && decide (d.weight ≤ 400) && PyData.strOk d.shown
theorem bdB_ok {d : PyData} (h : bdB d = true) : Bd 0 d := .of h
def intsTo (m : Nat) : Nat → List (List Int)
  | 0 => [[]]
  | k + 1 => [] :: (intsTo m k).flatMap fun l => (List.range m).map (fun i : Nat => ((i : Int) :: l))
theorem mem_ints {m : Nat} : ∀ {k : Nat} {l : List Int}, l.length ≤ k → (∀ i ∈ l, 0 ≤ i ∧ i < (m : Int)) → l ∈ intsTo m k
  | 0, [], _, _ => .head _
  | 0, _ :: _, h, _ => by simp at h
  | k + 1, [], _, _ => .head _
  | k + 1, i :: l, h, b => by
    refine List.mem_cons.mpr (.inr (List.mem_flatMap.mpr ⟨l, mem_ints (by simpa using h) fun j hj => b j (.tail _ hj), List.mem_map.mpr ⟨i.toNat, List.mem_range.mpr ?_, ?_⟩⟩))
    · have := b i (.head _); omega
    · have := b i (.head _); rw [Int.toNat_of_nonneg this.1]
end HX
set_option Elab.async false
set_option linter.all false
set_option maxRecDepth 100000
set_option maxHeartbeats 4400000
namespace PySem.HXe
open PySem
/-- the two new objects of enumerate(v) -/
abbrev enH (h : Heap) (o : Obj) : Heap := (h.push o).push ⟨.type "enumerate", none, .fields #[.none, .bool false, .ref h.objs.size, rawInt 0, .none, .none], #[]⟩
theorem new_enum {v : Value} {o : Obj} {F : Heap → Prop} (B : Begins v o F) : Meets (Builtin.«enumerate.__new__» ⟨[.type "enumerate", v], []⟩) (fun _ R s => F s.heap ∧ R (.ok (.ret (.ref (s.heap.push o).objs.size))) ⟨enH s.heap o, s.gens, s.drawn, s.toks, s.os⟩) :=
  .of_wp fun prog w A R s h => by
    obtain ⟨hp, g, d, tk, os⟩ := s; obtain ⟨hF, h2⟩ := h
    have h1 : F hp := hF
    have hsub := sub_enumerate
    have it1 : ∀ {A' : Around} {E : Value → Shared → Prop} {Q : Value → Shared → Prop}, Q (.ref hp.objs.size) ⟨hp.push o, g, d, tk, os⟩ → wpAny (model prog w) A' (pyIter v) Q E ⟨hp, g, d, tk, os⟩ := fun q => B.iter prog w _ _ ⟨hp, g, d, tk, os⟩ _ h1 q
    wp_walk using it1
    refine wpAny_stack_any fun st => wpAny_pure ?_
    split
    · rename_i c _ _ _ _ _; cases (c == Value.type "enumerate") <;> (wp_walk using it1; exact ⟨_, rfl, h2⟩)
    · wp_walk using it1; exact ⟨_, rfl, h2⟩
theorem enumerates {prog : Program} {w : World} {A : Around} {E : Value → Shared → Prop} {s : Shared} {v : Value} {o : Obj} {Z : Heap → Prop} {Q : Value → Shared → Prop} (B : Begins v o Z) (hF : Z s.heap)
    (h : ∀ h', IsEnum h' (s.heap.objs.size + 1) s.heap.objs.size 0 .none → h'.get? s.heap.objs.size = some o → (∀ b ob, s.heap.get? b = some ob → h'.get? b = some ob) → Q (.ref (s.heap.objs.size + 1)) ⟨h', s.gens, s.drawn, s.toks, s.os⟩) :
    wpAny (model prog w) A (call (.type "enumerate") [v]) Q E s := by
  refine callType_new F.called_enumerate (by decide) (F.typeCall_enumerate_1 _) (F.newCall_enumerate_1 _) (fun obj => F.args_object_init_2 obj _) F.entry_enumerate_new (new_enum B) ⟨hF, ?_⟩
  have z1 : (s.heap.push o).objs.size = s.heap.objs.size + 1 := Heap.size_push ..
  have ge : (enH s.heap o).get? (s.heap.push o).objs.size = _ := Heap.get?_push_size _ rfl
  have gi : (enH s.heap o).get? s.heap.objs.size = some o := Heap.get?_push_of_some _ (Heap.get?_push_size _ B.free)
  rw [z1] at ge
  show _ ∧ _
  rw [z1]
  have q := h (enH s.heap o) ge gi fun b ob e => Heap.get?_push_of_some _ (Heap.get?_push_of_some _ e)
  exact ⟨⟨_, ge, rfl⟩, q⟩
end PySem.HXe
namespace HX
open L2 PyProof.Rows PySem.Spec PySem
open PySem.W (Frag)
/-! ### enumerate of a tuple -/
def ItE (K : Frag) (a : Addr) : It :=
  ⟨fun i H => ∃ (xs : List V) (x : V), SqT K H a xs ∧ xs[i]? = some x, fun i H v H' => ∃ T x, v = .ref T ∧ H T = none ∧ H' = upd H T (.tup [.int (i : Nat), x]) ∧ ∀ xs, SqT K H a xs → xs[i]? = some x, fun i H => ∃ xs : List V, SqT K H a xs ∧ xs.length ≤ i⟩
theorem turn_enT {P : Program} {w : World} {K : Frag} {elts : List Expr} {kk : Nat} {tpos : Pos} (a e it : Addr) :
    Turn P w K (.Tuple elts kk tpos) (ItE K a) [e, it] e (fun i h => (∃ old, IsEnum h e it ((i : Nat) : Int) old) ∧ h.IsTupleIter it a i ∧ e ≠ it ∧ a ≠ it ∧ a ≠ e) := by
  refine ⟨List.mem_cons_self, ?_, ?_, ?_, ?_, fun A i s Q E st h => let ⟨⟨_, he⟩, _⟩ := st; wpAny_pyIter_enum he h⟩
  · rintro i h ⟨⟨old, he⟩, ⟨o, ho, hc, hd⟩, _⟩ b hb
    rcases List.mem_cons.mp hb with z | z
    · rw [z]; exact ⟨_, he, fun v q => by cases q⟩
    · rw [List.mem_singleton.mp z]; exact ⟨o, ho, fun v q => by rw [hd] at q; cases q⟩
  · rintro i h h' ⟨⟨old, he⟩, hi, hne⟩ k
    exact ⟨⟨old, k e (.head _) _ he⟩, hi.at fun o q => k it (.tail _ (.head _)) o q, hne⟩
  · intro X hP hw hK hc i pins s σ H E I hf st hg
    subst hP hw hK
    obtain ⟨⟨old, he⟩, hit, hne, na, nae⟩ := st
    obtain ⟨xs, x, hq, hx⟩ := hg
    obtain ⟨its, rv, pl, _⟩ := I.tuple hq
    have li : i < xs.length := (List.getElem?_eq_some_iff.mp hx).1
    have ln := rv.length
    have el : e < s.heap.objs.size := Heap.lt_size he
    have il : it < s.heap.objs.size := let ⟨_, q, _⟩ := hit; Heap.lt_size q
    have D := Draws.tuple (prog := X.prog) (w := X.w) (A := X.A.in1) (show X.A.in1.handled = none from I.ok.hd hc) it a na its.toArray
    refine wpAny_pyNext_enum_itemD D he ⟨hit, pl⟩ (by simp; omega) hne (by simp; exact ⟨hne, fun z => nae z.symm⟩) fun u h' tk hu ho st' hT hsz hk => ?_
    obtain ⟨u2, hu2, ru⟩ := rv.get hx
    have eu : u2 = u := by
      have q : its[i]? = some u := by simpa using hu
      rw [hu2] at q; exact Option.some.inj q
    subst eu
    refine ⟨_, rfl, wpAny_letOwnedTupleGo_enum (s := ⟨h', s.gens, s.drawn, tk + 1, s.os⟩) ho fun h2 he2 sb => ?_⟩
    have hT2 : h2.get? s.heap.objs.size = some ⟨.type "tuple", none, .seq #[.int i tk, u2] 0, #[]⟩ := (sb.2 _ (Nat.ne_of_gt el)).trans hT
    have J : Inv X pins σ (upd H s.heap.objs.size (.tup [.int (i : Nat), x])) ⟨h2, s.gens, s.drawn, tk + 1, s.os⟩ :=
      I.turnedNew (ch := [e, it]) (fun b ob hb q => (sb.2 b (fun z => hb (by simp [z]))).trans (hk b ob (fun z => hb (by simp [z])) (fun z => hb (by simp [z])) q)) hf (Nat.le_refl _) ⟨by show 2 ≤ sizeLine; decide, [.int i tk, u2], .cons ⟨_, rfl⟩ (.cons ru .nil), ⟨_, hT2, rfl, _, rfl⟩⟩
    refine ⟨.ref s.heap.objs.size, _, J, rfl, ⟨_, x, rfl, I.hok.fresh (Nat.le_refl _), rfl, fun ys hy => by rw [I.tuple_inj hy hq]; exact hx⟩, ⟨⟨u2, ?_⟩, st'.1.at fun o q => (sb.2 it (Ne.symm hne)).trans q, hne, na, nae⟩, fun b hb => ?_⟩
    · have e1 : ((i + 1 : Nat) : Int) = (i : Int) + 1 := Int.natCast_succ i
      rw [e1]; exact he2
    · have lt : b < s.heap.objs.size := by
        rcases List.mem_cons.mp hb with z | z
        · rw [z]; exact el
        · rw [List.mem_singleton.mp z]; exact il
      rw [upd_ne (Nat.ne_of_lt lt)]; exact (hf b hb).1
  · intro X hP hw hK hc i pins s σ H E I hf st hg
    subst hP hw hK
    obtain ⟨⟨old, he⟩, hit, hne, na, nae⟩ := st
    obtain ⟨xs, hq, hx⟩ := hg
    obtain ⟨its, rv, pl, _⟩ := I.tuple hq
    obtain ⟨f0, f1, f2, f3, f4, f5⟩ := hf it (.tail _ (.head _))
    have ln := rv.length
    have D : Draws X.prog X.w X.A.in1 it [it, a] i (fun _ _ => True) (fun j h => j = i ∧ h.IsTupleIter it a i ∧ h.IsTuple a its.toArray) :=
      ⟨fun j h st => let ⟨o, ho, _⟩ := st.2.1; ⟨o, ho⟩, fun j h h' st k => ⟨st.1, st.2.1.at fun o q => k it (.head _) o q, st.2.2.at fun o q => k a (.tail _ (.head _)) o q⟩, fun j s Q E lt st _ => absurd st.1 (Nat.ne_of_lt lt),
        fun s Q E st hE => wpAny_nextOf_tuple_end (show X.A.in1.handled = none from I.ok.hd hc) st.2.1 st.2.2 (by simp; omega) hE⟩
    exact wpAny_pyNext_enum_endD D he ⟨rfl, hit, pl⟩ fun h' eb => ⟨rfl, I.turned (t' := s.toks) (fun b o hb q => eb b o hb q) f0 f1 f3 f4 f5⟩
def iEnT (K : Frag) (ta : TA) : TI := fun σ H R => ta σ H fun vs H1 => ∃ a xs, vs = [.ref a] ∧ SqT K H1 a xs ∧ R (ItE K a) H1
theorem pi_enumT {X : Cx} {e : Expr} {ta : TA} {p pos tpos : Pos} {elts : List Expr} {kk : Nat} (hg : Gl X "enumerate") (hm : X.mg "enumerate" = none) (ha : PA X [e] ta) (hs : starEach [e] X.env = [(false, eval e X.env)] := by rfl) : PI X (.Tuple elts kk tpos) (.Call (.Name "enumerate" p) [e] [] pos) (iEnT X.K ta) := by
  refine ⟨fun pp t0 τ G R I w => ?_⟩
  refine Call_ (ld_blt I hg hm boot_enumerate (PyProof.Rows.callWith_type1 (thn (ha.run pos pp t0 τ G _ I w) fun us t ⟨vs, H1, J, r1, q1⟩ => ?_) hs rfl))
  obtain ⟨a, xs, ex, hq, q⟩ := q1
  subst ex
  cases r1 with
  | cons r z0 =>
  cases z0; cases r
  obtain ⟨its, rv, pl, _⟩ := J.tuple hq
  have la : a < t.heap.objs.size := let ⟨_, z, _⟩ := pl; Heap.lt_size z
  refine PySem.HXe.enumerates (begins_tuple a its.toArray) pl fun h' he hi hk => wpAny_pyIter_enum he ?_
  have J2 : Inv X pp τ H1 ⟨h', t.gens, t.drawn, t.toks, t.os⟩ := J.kept (t' := t.toks) hk
  refine ⟨t.heap.objs.size + 1, [t.heap.objs.size + 1, t.heap.objs.size], _, _, H1, rfl, J2, turn_enT a _ t.heap.objs.size, ⟨⟨.none, he⟩, ⟨_, hi, rfl, rfl⟩, Nat.succ_ne_self _, Nat.ne_of_lt la, Nat.ne_of_lt (Nat.lt_succ_of_lt la)⟩, fun b hb => ?_, q⟩
  have le : t.heap.objs.size ≤ b := by
    rcases List.mem_cons.mp hb with z | z
    · rw [z]; exact Nat.le_succ _
    · rw [List.mem_singleton.mp z]; exact Nat.le_refl _
  exact J.fpOk le (J.hok.fresh le)
end HX
set_option Elab.async false
set_option linter.all false
set_option maxRecDepth 100000
set_option maxHeartbeats 4400000
namespace PySem.HXm
open PySem PyProof.Rows AutoSeq1
/-- a tuple once: itself -/
theorem tup_once (l : Addr) (items : Array Value) (n : Nat) (dd : Option Addr) (sl : Array (Option Value)) (u : Tok) :
    Meets (Builtin.«tuple.__mul__» ⟨[.ref l, .int 1 u], []⟩) (fun _ R s => s.heap.get? l = some ⟨.type "tuple", dd, .seq items n, sl⟩ ∧ R (.ok (.ret (.ref l))) s) :=
  Meets.of_wp fun prog w A R s ⟨hl, h⟩ => by
    obtain ⟨hp, g, d, tk, os⟩ := s
    have f1 := AutoSeq1.idx_int
    wp_walk using wpAny_loadPart' hl
    exact ⟨_, rfl, h⟩
/-- a tuple no time: a new one without items -/
theorem tup_never (l : Addr) (items : Array Value) (n : Nat) (dd : Option Addr) (sl : Array (Option Value)) (u : Tok) (hi : items.isEmpty = false) :
    Meets (Builtin.«tuple.__mul__» ⟨[.ref l, .int 0 u], []⟩) (fun _ R s => s.heap.get? l = some ⟨.type "tuple", dd, .seq items n, sl⟩ ∧ R (.ok (.ret (.ref s.heap.objs.size))) ⟨s.heap.push ⟨.type "tuple", none, .seq #[] 0, #[]⟩, s.gens, s.drawn, s.toks, s.os⟩) :=
  Meets.of_wp fun prog w A R s ⟨hl, h⟩ => by
    obtain ⟨hp, g, d, tk, os⟩ := s
    have f1 := AutoSeq1.idx_int
    wp_walk using wpAny_loadPart' hl
    exact ⟨_, rfl, h⟩
theorem tup_bool (l : Addr) (items : Array Value) (hf : (items.size : Int) < 2 ^ 63) : Meets (Builtin.«bool.__new__» ⟨[.type "bool", .ref l], []⟩) (fun _ R s => IsTup s.heap l items ∧ R (.ok (.ret (.bool (!items.isEmpty)))) { s with toks := s.toks + 1 + 1 }) :=
  Meets.of_wp fun prog w A R s ⟨hl, hs⟩ => by
    obtain ⟨hp, g, d, tk, os⟩ := s
    have f1 := F.conv_sub_bool
    repeat (any_goals (first | assumption | (with_reducible refine PyProof.Rows.truthy_tuple hl hf ?_) | wp_step))
    all_goals first | exact ⟨_, rfl, hs⟩ | exact hs | skip
end PySem.HXm
namespace HX
open L2 PyProof.Rows PySem.Spec PySem
open PySem.W (Frag)
/-- t * 1 is t itself, t * 0 a tuple of nothing -/
def rRep01 (K : Frag) : R2 := fun x y H Q => ∃ (l : Addr) (b : Bool) (xs : List V), x = .ref l ∧ y = .int (if b = true then 1 else 0) ∧ SqT K H l xs ∧ xs ≠ [] ∧ (b = true → Q (.ref l) H) ∧ (b = false → ∀ p, H p = none → Q (.ref p) (upd H p (.tup [])))
theorem op_rep01 {X : Cx} : OpR X (binaryOp .Mult) (rRep01 X.K) := fun pp t τ G x y u v R J rx ry h => by
  obtain ⟨l, b, xs, e1, e2, hT, hne, q1, q0⟩ := h
  subst e1; subst e2
  cases rx
  obtain ⟨tk, e3⟩ := ry
  subst e3
  obtain ⟨its, r, ⟨⟨cls, dd, dt, sl⟩, ho, hc, n, hd⟩, hs⟩ := J.tuple hT
  have e4 : cls = .type "tuple" := hc
  have e5 : dt = .seq its.toArray n := hd
  subst e4; subst e5
  have ne : its.toArray.isEmpty = false := by
    cases its with
    | nil => cases r; exact absurd rfl hne
    | cons a c => rfl
  cases b with
  | true =>
    exact wpAny_binaryOp_repeat_ref (T := "tuple") (U := "int") (by decide) ⟨_, ho, rfl⟩ (fun s' => typeIs_int s' 1 tk) noFill_tuple_mul F.fills_int_mul F.slot_int_rmul repeat_tuple F.slot_int_index.lookup
      (call_meets F.slot_int_rmul (typeIs_int t 1 tk) F.entry_int_rmul (F.args_int_rmul_2 _ _) (int_rmul_tuple 1 tk l its.toArray n dd sl)
        ⟨ho, rfl, ⟨_, ho, rfl⟩, call_meets F.slot_tuple_mul ⟨_, ho, rfl⟩ F.entry_tuple_mul (F.args_tuple_mul_2 _ _) (PySem.HXm.tup_once l its.toArray n dd sl tk) ⟨ho, .ref l, G, J, rfl, q1 rfl⟩⟩)
  | false =>
    have na : G t.heap.objs.size = none := J.hok.fresh (Nat.le_refl _)
    have J2 := J.laid (t' := t.toks) (a := t.heap.objs.size) (o := .tup []) (h' := t.heap.push ⟨.type "tuple", none, .seq #[] 0, #[]⟩) (fun c o y => Heap.get?_push_of_some _ y) (Nat.le_refl _) ⟨Nat.zero_le _, [], .nil, ⟨_, Heap.get?_push_size _ rfl, rfl, 0, rfl⟩⟩
    exact wpAny_binaryOp_repeat_ref (T := "tuple") (U := "int") (by decide) ⟨_, ho, rfl⟩ (fun s' => typeIs_int s' 0 tk) noFill_tuple_mul F.fills_int_mul F.slot_int_rmul repeat_tuple F.slot_int_index.lookup
      (call_meets F.slot_int_rmul (typeIs_int t 0 tk) F.entry_int_rmul (F.args_int_rmul_2 _ _) (int_rmul_tuple 0 tk l its.toArray n dd sl)
        ⟨ho, rfl, ⟨_, ho, rfl⟩, call_meets F.slot_tuple_mul ⟨_, ho, rfl⟩ F.entry_tuple_mul (F.args_tuple_mul_2 _ _) (PySem.HXm.tup_never l its.toArray n dd sl tk ne) ⟨ho, .ref t.heap.objs.size, _, J2, rfl, q0 rfl _ na⟩⟩)
/-- bool(a tuple) -/
theorem call_boolT {X : Cx} : CallR X (.type "bool") (fun xs H Q => ∃ (a : Addr) (zs : List V), xs = [.ref a] ∧ SqT X.K H a zs ∧ Q (.bl (!zs.isEmpty)) H) := fun pp t τ G xs us R J r h => by
  obtain ⟨a, zs, e0, hs, q⟩ := h
  subst e0
  obtain rfl := Vals.ref1 r
  obtain ⟨its, rv, pl, hz⟩ := J.tuple hs
  have ln := rv.length; have l63 := line63
  refine call_bool_1 (PySem.HXm.tup_bool a its.toArray (by rw [List.size_toArray]; omega)) ⟨pl, rfl, ⟨.bl (!zs.isEmpty), G, J.tok _, ?_, q⟩⟩
  rw [isEmpty_of rv]; rfl
end HX
set_option Elab.async false
set_option linter.all false
set_option maxRecDepth 100000
set_option maxHeartbeats 4400000
namespace HX
open L2 PyProof.Rows PySem.Spec PySem
open PySem.W (Frag)
/-! ### data of tuples, texts and ints: nothing of it is ever changed -/
inductive Tz (H : Hp) : V → PyData → Prop
  | non : Tz H .non .none
  | int (i : Int) : Tz H (.int i) (.int i)
  | str (x : Str) : Tz H (.str x) (.str x)
  | tup {a : Addr} {xs : List V} {ds : List PyData} : H a = some (.tup xs) → xs.length = ds.length → (∀ (i : Nat) (v : V) (d : PyData), xs[i]? = some v → ds[i]? = some d → Tz H v d) → Tz H (.ref a) (.tuple ds)
/-- tuples stay -/
def TupK (H H' : Hp) : Prop := ∀ a xs, H a = some (.tup xs) → H' a = some (.tup xs)
theorem Tz.te {H H' : Hp} {v : V} {d : PyData} (h : Tz H v d) (e : TupK H H') : Tz H' v d := by
  induction h with
  | non => exact .non
  | int i => exact .int i
  | str x => exact .str x
  | tup h hl _ ih => exact .tup (e _ _ h) hl ih
theorem Ex.te {H H' : Hp} (e : Ex H H') : TupK H H' := fun a xs h => e _ _ h
theorem XB.te {p : Addr} {H H' : Hp} {zs : List V} (e : XB p H H') (hp : H p = some (.lst zs)) : TupK H H' := fun a xs h => e _ _ (ne_of h hp (by intro y; cases y)) h
theorem te_lst {H : Hp} {p : Addr} {zs : List V} {o : HO} (hp : H p = some (.lst zs)) : TupK H (upd H p o) := fun a xs h => by
  rw [upd_ne (ne_of h hp (by intro y; cases y))]; exact h
theorem te_dK {H : Hp} {p : Addr} {zs : List (Key × V)} {o : HO} (hp : H p = some (.dK zs)) : TupK H (upd H p o) := fun a xs h => by
  rw [upd_ne (ne_of h hp (by intro y; cases y))]; exact h
theorem te_ins {H : Hp} {p C dx : Addr} {fs : List (Str × V)} {o : HO} (hp : H p = some (.ins C dx fs)) : TupK H (upd H p o) := fun a xs h => by
  rw [upd_ne (ne_of h hp (by intro y; cases y))]; exact h
theorem TupK.tr {H H1 H2 : Hp} (a : TupK H H1) (b : TupK H1 H2) : TupK H H2 := fun c o h => b _ _ (a _ _ h)
theorem Tz.ex {H H' : Hp} {v : V} {d : PyData} (h : Tz H v d) (e : Ex H H') : Tz H' v d := h.te (Ex.te e)
theorem Tz.dz {p : Addr} {H : Hp} {v : V} {d : PyData} (h : Tz H v d) : Dz p H v d := by
  induction h with
  | non => exact .non
  | int i => exact .int i
  | str x => exact .str x
  | tup h hl _ ih => exact .tup h hl ih
theorem Tz.intI {H : Hp} {v : V} {i : Int} (h : Tz H v (.int i)) : v = .int i := by cases h; rfl
theorem Tz.strI {H : Hp} {v : V} {x : Str} (h : Tz H v (.str x)) : v = .str x := by cases h; rfl
/-- items one by one -/
def TzL (H : Hp) (xs : List V) (ds : List PyData) : Prop := xs.length = ds.length ∧ ∀ (i : Nat) (v : V) (d : PyData), xs[i]? = some v → ds[i]? = some d → Tz H v d
theorem Tz.tupI {H : Hp} {v : V} {ds : List PyData} (h : Tz H v (.tuple ds)) : ∃ a xs, v = .ref a ∧ H a = some (.tup xs) ∧ TzL H xs ds := by
  cases h with
  | tup h hl hi => exact ⟨_, _, rfl, h, hl, hi⟩
theorem TzL.tup {H : Hp} {a : Addr} {xs : List V} {ds : List PyData} (h : TzL H xs ds) (ha : H a = some (.tup xs)) : Tz H (.ref a) (.tuple ds) := .tup ha h.1 h.2
theorem TzL.te {H H' : Hp} {xs : List V} {ds : List PyData} (h : TzL H xs ds) (e : TupK H H') : TzL H' xs ds := ⟨h.1, fun i v d a b => (h.2 i v d a b).te e⟩
theorem TzL.ex {H H' : Hp} {xs : List V} {ds : List PyData} (h : TzL H xs ds) (e : Ex H H') : TzL H' xs ds := h.te (Ex.te e)
theorem TzL.nil {H : Hp} : TzL H [] [] := ⟨rfl, fun i v d a => by simp at a⟩
theorem TzL.app {H : Hp} {xs ys : List V} {ds es : List PyData} (h : TzL H xs ds) (k : TzL H ys es) : TzL H (xs ++ ys) (ds ++ es) := by
  refine ⟨by rw [List.length_append, List.length_append, h.1, k.1], fun i v d a b => ?_⟩
  by_cases hi : i < xs.length
  · rw [List.getElem?_append_left hi] at a
    rw [List.getElem?_append_left (by rw [← h.1]; exact hi)] at b
    exact h.2 i v d a b
  · rw [List.getElem?_append_right (by omega)] at a
    rw [List.getElem?_append_right (by rw [← h.1]; omega), ← h.1] at b
    exact k.2 _ v d a b
theorem TzL.one {H : Hp} {v : V} {d : PyData} (h : Tz H v d) : TzL H [v] [d] := ⟨rfl, fun i v' d' a b => by
  match i, a, b with
  | 0, a, b => cases a; cases b; exact h
  | i + 1, a, b => simp at a⟩
theorem TzL.cons {H : Hp} {v : V} {d : PyData} {xs : List V} {ds : List PyData} (h : Tz H v d) (k : TzL H xs ds) : TzL H (v :: xs) (d :: ds) := (TzL.one h).app k
theorem TzL.snoc {H : Hp} {v : V} {d : PyData} {xs : List V} {ds : List PyData} (k : TzL H xs ds) (h : Tz H v d) : TzL H (xs ++ [v]) (ds ++ [d]) := k.app (TzL.one h)
theorem TzL.get {H : Hp} {xs : List V} {ds : List PyData} (h : TzL H xs ds) {i : Nat} {d : PyData} (e : ds[i]? = some d) : ∃ v, xs[i]? = some v ∧ Tz H v d := by
  have lt := (List.getElem?_eq_some_iff.mp e).1
  have lx : i < xs.length := by rw [h.1]; exact lt
  have e2 : xs[i]? = some xs[i] := List.getElem?_eq_getElem lx
  exact ⟨_, e2, h.2 i _ d e2 e⟩
theorem TzL.gotV {H : Hp} {xs : List V} {ds : List PyData} (h : TzL H xs ds) {i : Nat} {v : V} (e : xs[i]? = some v) : ∃ d, ds[i]? = some d ∧ Tz H v d := by
  have lt := (List.getElem?_eq_some_iff.mp e).1
  have lx : i < ds.length := by rw [← h.1]; exact lt
  have e2 : ds[i]? = some ds[i] := List.getElem?_eq_getElem lx
  exact ⟨_, e2, h.2 i v _ e e2⟩
theorem TzL.consI {H : Hp} {d : PyData} {xs : List V} {ds : List PyData} (h : TzL H xs (d :: ds)) : ∃ v ys, xs = v :: ys ∧ Tz H v d ∧ TzL H ys ds := by
  match xs, h with
  | [], h => have := h.1; simp at this
  | v :: ys, h => exact ⟨v, ys, rfl, h.2 0 v d rfl rfl, by have := h.1; simpa using this, fun i v' d' a b => h.2 (i + 1) v' d' (by simpa using a) (by simpa using b)⟩
theorem TzL.nilI {H : Hp} {xs : List V} (h : TzL H xs []) : xs = [] := by
  have := h.1
  exact List.eq_nil_of_length_eq_zero (by simpa using this)
theorem TzL.strs {H : Hp} {ss : List Str} : ∀ {xs : List V}, TzL H xs (ss.map PyData.str) → xs = ss.map V.str := by
  induction ss with
  | nil => intro xs h; exact h.nilI
  | cons s r ih =>
    intro xs h
    obtain ⟨v, ys, rfl, hv, hy⟩ := TzL.consI (ds := r.map PyData.str) h
    rw [hv.strI, ih hy]; rfl
theorem TzL.ints {H : Hp} {ns : List Int} : ∀ {xs : List V}, TzL H xs (ns.map PyData.int) → xs = ns.map V.int := by
  induction ns with
  | nil => intro xs h; exact h.nilI
  | cons s r ih =>
    intro xs h
    obtain ⟨v, ys, rfl, hv, hy⟩ := TzL.consI (ds := r.map PyData.int) h
    rw [hv.intI, ih hy]; rfl
theorem tzL_strs {H : Hp} (ss : List Str) : TzL H (ss.map V.str) (ss.map PyData.str) := by
  induction ss with
  | nil => exact TzL.nil
  | cons s r ih => exact TzL.cons (.str s) ih
theorem tzL_ints {H : Hp} (ns : List Int) : TzL H (ns.map V.int) (ns.map PyData.int) := by
  induction ns with
  | nil => exact TzL.nil
  | cons s r ih => exact TzL.cons (.int s) ih
theorem Tz.tup2 {H : Hp} {v : V} {d e : PyData} (h : Tz H v (.tuple [d, e])) : ∃ a x y, v = .ref a ∧ H a = some (.tup [x, y]) ∧ Tz H x d ∧ Tz H y e := by
  obtain ⟨a, xs, rfl, ha, hl⟩ := h.tupI
  obtain ⟨x, r, rfl, hx, hr⟩ := TzL.consI hl
  obtain ⟨y, r2, rfl, hy, hr2⟩ := TzL.consI hr
  rw [hr2.nilI] at ha
  exact ⟨a, x, y, rfl, ha, hx, hy⟩
theorem Tz.tup3 {H : Hp} {v : V} {d e f : PyData} (h : Tz H v (.tuple [d, e, f])) : ∃ a x y z, v = .ref a ∧ H a = some (.tup [x, y, z]) ∧ Tz H x d ∧ Tz H y e ∧ Tz H z f := by
  obtain ⟨a, xs, rfl, ha, hl⟩ := h.tupI
  obtain ⟨x, r, rfl, hx, hr⟩ := TzL.consI hl
  obtain ⟨y, r2, rfl, hy, hr2⟩ := TzL.consI hr
  obtain ⟨z, r3, rfl, hz, hr3⟩ := TzL.consI hr2
  rw [hr3.nilI] at ha
  exact ⟨a, x, y, z, rfl, ha, hx, hy, hz⟩
/-! ### comprehensions without conditions -/
theorem ex_mu {H H' : Hp} {p : Addr} {o : HO} (e : Ex H H') (h : H p = none) : Ex H (upd H' p o) := fun a u ha => by rw [upd_ne (ne_of_none ha h)]; exact e a u ha
/-- what a comprehension over J is to be shown to do -/
def LcGoal (J : It) (g : TG) (te : L2.TE) (vs : List Nat) (σ : L2.St) (H1 : Hp) (D : Addr) (Qd : Hp → Prop) : Prop :=
  ∃ W : Nat → Nat → Hp → Prop, (∃ m, W 0 m (upd H1 D (.lst []))) ∧ ∀ i m H, W i m H →
      (J.stop i H ∧ Qd H) ∨ (J.go i H ∧ ∃ Nx : Hp → Prop, (∀ H', Nx H' → ∃ m', m' < m ∧ W (i + 1) m' H') ∧ ∀ x H', J.yld i H x H' → g x (wipe σ vs) H' fun σ2 H2 => wipe σ2 vs = wipe σ vs ∧ tYes σ2 H2 fun b H3 =>
        if b = true then te σ2 H3 fun y H4 => ∃ acc, H4 D = some (.lst acc) ∧ acc.length < sizeLine ∧ Nx (upd H4 D (.lst (acc ++ [y]))) else Nx H3)
section
variable {J : It} {n : Nat} {G : Hp → Prop} {Y : Nat → Hp → V → Hp → Prop} {g : TG} {te : L2.TE} {vs : List Nat} {σ : L2.St} {H1 : Hp} {D : Addr} {Qd : Hp → Prop}
/-- each turn makes data that f tells, and new things beside -/
theorem lc_tz (w : Walk J n G Y) (f : Nat → PyData) (hn : n < 1000) (nD : H1 D = none) (hG : ∀ H, Ex H1 H → G H)
    (hs : ∀ (i : Nat) (x : V) (H H' : Hp) (Kq : V → Hp → Prop), i < n → Ex H1 H → Y i H x H' → (∀ y H4, Ex H H4 → Tz H4 y (f i) → Kq y H4) → g x (wipe σ vs) H' fun σ2 H2 => wipe σ2 vs = wipe σ vs ∧ te σ2 H2 Kq)
    (hd : ∀ H xs, Ex H1 H → H D = some (.lst xs) → TzL H xs ((List.range n).map f) → Qd H) : LcGoal J g te vs σ H1 D Qd := by
  refine lc_it (tt := tYes) w (fun i H => Ex H1 H ∧ ∃ xs, H D = some (.lst xs) ∧ TzL H xs ((List.range i).map f)) ⟨Ex.nw nD, [], upd_same, TzL.nil⟩ (fun i H _ p => hG H p.1) (fun i x H H' hi p y => ?_) (fun H ⟨e, xs, hD, hx⟩ => hd H xs e hD hx)
  obtain ⟨e, xs, hD, hx⟩ := p
  refine hs i x H H' _ hi e y fun y H4 e4 hy => ?_
  have hD4 := e4 _ _ hD
  refine ⟨xs, hD4, ?_, ex_mu (e.tr e4) nD, xs ++ [y], upd_same, ?_⟩
  · have l := hx.1
    rw [l, List.length_map, List.length_range]
    exact Nat.lt_of_lt_of_le hi (Nat.le_trans (Nat.le_of_lt hn) (by decide))
  · rw [List.range_succ, List.map_append]
    exact ((hx.ex e4).snoc hy).te (te_lst hD4)
/-- each turn says yes -/
theorem lc_yes (w : Walk J n G Y) (hn : n < 1000) (nD : H1 D = none) (hG : ∀ H, Ex H1 H → G H)
    (hs : ∀ (i : Nat) (x : V) (H H' : Hp) (Kq : V → Hp → Prop), i < n → Ex H1 H → Y i H x H' → (∀ H4, Ex H H4 → Kq (.bl true) H4) → g x (wipe σ vs) H' fun σ2 H2 => wipe σ2 vs = wipe σ vs ∧ te σ2 H2 Kq)
    (hd : ∀ H, Ex H1 H → H D = some (.lst ((List.replicate n true).map V.bl)) → Qd H) : LcGoal J g te vs σ H1 D Qd := by
  refine lc_it (tt := tYes) w (fun i H => Ex H1 H ∧ H D = some (.lst (List.replicate i (.bl true)))) ⟨Ex.nw nD, upd_same⟩ (fun i H _ p => hG H p.1) (fun i x H H' hi p y => ?_) (fun H ⟨e, hD⟩ => hd H e (by rw [hD, rep_bl]))
  obtain ⟨e, hD⟩ := p
  refine hs i x H H' _ hi e y fun H4 e4 => ⟨_, e4 _ _ hD, ?_, ex_mu (e.tr e4) nD, ?_⟩
  · rw [List.length_replicate]
    exact Nat.lt_of_lt_of_le hi (Nat.le_trans (Nat.le_of_lt hn) (by decide))
  · rw [rep_snoc]; exact upd_same
/-- each turn draws: what is at p is changed, and Z stands at each turn -/
theorem lc_dr (w : Walk J n G Y) {p : Addr} (Z : Nat → Hp → Prop) (Gd : Nat → PyData → Prop) (hn : n < 1000) (nD : H1 D = none) (np : D ≠ p) (hp : ∀ i H, Z i H → ∃ zs, H p = some (.lst zs)) (h0 : Z 0 H1) (hZ : ∀ i H H', Z i H → Ex H H' → Z i H') (hZ2 : ∀ i H xs ys, Z i H → H D = some (.lst xs) → Z i (upd H D (.lst ys))) (hG : ∀ H, XB p H1 H → G H)
    (hs : ∀ (i : Nat) (x : V) (H H' : Hp) (Kq : V → Hp → Prop), i < n → XB p H1 H → Z i H → Y i H x H' → (∀ y H4 d, XB p H H4 → Z (i + 1) H4 → Tz H4 y d → Gd i d → Kq y H4) → g x (wipe σ vs) H' fun σ2 H2 => wipe σ2 vs = wipe σ vs ∧ te σ2 H2 Kq)
    (hd : ∀ H xs ds, XB p H1 H → Z n H → H D = some (.lst xs) → TzL H xs ds → ds.length = n → (∀ i d, ds[i]? = some d → Gd i d) → Qd H) : LcGoal J g te vs σ H1 D Qd := by
  refine lc_it (tt := tYes) w (fun i H => XB p H1 H ∧ Z i H ∧ ∃ xs ds, H D = some (.lst xs) ∧ TzL H xs ds ∧ ds.length = i ∧ ∀ j d, ds[j]? = some d → Gd j d) ⟨Ex.xb (Ex.nw nD), hZ _ _ _ h0 (Ex.nw nD), [], [], upd_same, TzL.nil, rfl, fun j d h => by simp at h⟩ (fun i H _ q => hG H q.1) (fun i x H H' hi q y => ?_) (fun H ⟨e, z, xs, ds, hD, hx, hl, hg⟩ => hd H xs ds e z hD hx hl hg)
  obtain ⟨e, z, xs, ds, hD, hx, hl, hg⟩ := q
  refine hs i x H H' _ hi e z y fun y H4 d e4 z4 hy gd => ?_
  have hD4 := e4 _ _ np hD
  obtain ⟨zs, hz⟩ := hp _ _ z
  refine ⟨xs, hD4, ?_, fun a o na ha => ?_, hZ2 _ _ _ _ z4 hD4, xs ++ [y], ds ++ [d], upd_same, ?_, ?_, fun j d' hj => ?_⟩
  · rw [hx.1, hl]
    exact Nat.lt_of_lt_of_le hi (Nat.le_trans (Nat.le_of_lt hn) (by decide))
  · rw [upd_ne (fun z => by rw [z, nD] at ha; cases ha)]
    exact e4 _ _ na (e _ _ na ha)
  · exact ((hx.te (e4.te hz)).snoc hy).te (te_lst hD4)
  · rw [List.length_append, hl]; rfl
  · by_cases h : j < ds.length
    · rw [List.getElem?_append_left h] at hj; exact hg j d' hj
    · rw [List.getElem?_append_right (by omega)] at hj
      match hk : j - ds.length, hj with
      | 0, hj =>
        cases hj
        have : j = i := by omega
        rw [this]; exact gd
      | k + 1, hj => simp at hj
end
/-! ### slices and pairs of lists and tuples alike -/
theorem sl_seq {X : Cx} : SlR X (fun x lo hi H Q => rSlL X.K x lo hi H Q ∨ rSlA X.K x lo hi H Q) := by
  intro pp t τ G x v vl vu lo hi sl Q J rx hs pl pu h
  rcases h with h | h
  · exact sl_list pp t τ G x v vl vu lo hi sl Q J rx hs pl pu h
  · exact sl_tupA pp t τ G x v vl vu lo hi sl Q J rx hs pl pu h
theorem cut_tail (xs : List V) : cutV xs (some 1) none = xs.tail := by
  cases xs with
  | nil => rfl
  | cons a r =>
    unfold cutV
    rw [show HT.sIx (a :: r).length 0 (some 1) = 1 by show min 1 (r.length + 1) = 1; omega, show HT.sIx (a :: r).length (a :: r).length none = r.length + 1 from rfl]
    show (r.take (r.length + 1 - 1)) = r
    rw [Nat.add_sub_cancel, List.take_length]
theorem walk_zipT {K : Frag} {a b : Addr} {xs ys : List V} {n : Nat} (hn : n = min xs.length ys.length) : Walk (RZ.ItzT K a b) n (fun H => SqT K H a xs ∧ SqT K H b ys) (YPair (fun i => xs[i]?) (fun i => ys[i]?)) :=
  ⟨fun i H hi q => ⟨xs, ys, xs[i]'(by omega), ys[i]'(by omega), q.1, q.2, List.getElem?_eq_getElem _, List.getElem?_eq_getElem _⟩, fun H q => ⟨xs, ys, q.1, q.2, by omega⟩,
   fun i H v H' _ q ⟨T, x, z, h1, h2, h3, h4, h5⟩ => ⟨T, x, z, h1, h2, h3, h4 xs q.1, h5 ys q.2⟩⟩
theorem walk_enT {K : Frag} {a : Addr} {xs : List V} : Walk (ItE K a) xs.length (fun H => SqT K H a xs) (YPair (fun i => some (.int (i : Nat))) (fun i => xs[i]?)) :=
  ⟨fun i H hi q => ⟨xs, xs[i], q, List.getElem?_eq_getElem _⟩, fun H q => ⟨xs, q, Nat.le_refl _⟩, fun i H v H' _ q ⟨T, x, h1, h2, h3, h4⟩ => ⟨T, .int (i : Nat), x, h1, h2, h3, rfl, h4 xs q⟩⟩
/-! ### rules with their K named, for what stands within comprehensions -/
section
variable {X : Cx} {K : Frag}
theorem call_lenK (hK : X.K = K) : CallR X (.builtin "len") (fun xs H Q => ∃ p ys, xs = [.ref p] ∧ (SqL K H p ys ∨ SqT K H p ys) ∧ Q (.int ys.length) H) := hK ▸ call_len_seq
theorem call_isiK0 (hK : X.K = K) : CallR X (.builtin "isinstance") (rIsi K) := hK ▸ call_isi
theorem op_inK (hK : X.K = K) : OpR X (compareOp .In) (rIn K false) := hK ▸ op_in_seq
theorem op_notInK (hK : X.K = K) : OpR X (compareOp .NotIn) (rIn K true) := hK ▸ op_notIn_seq
theorem op_catAK (hK : X.K = K) : OpR X (binaryOp .Add) (rCatA K) := hK ▸ op_catA
theorem call_tupleK (hK : X.K = K) : CallR X (.type "tuple") (fun xs H Q => ∃ p ys, xs = [.ref p] ∧ ((SqL K H p ys ∧ ∀ l, H l = none → Q (.ref l) (upd H l (.tup ys))) ∨ (SqT K H p ys ∧ Q (.ref p) H))) := hK ▸ call_tuple_of
end
/-! ### {name: number for number, .. in enumerate(..)} -/
section
variable {J : It} {n : Nat} {G : Hp → Prop} {Y : Nat → Hp → V → Hp → Prop} {g : TG} {tk tv : L2.TE} {vs : List Nat} {σ : L2.St} {H1 : Hp} {D : Addr} {Qd : Hp → Prop}
def DcGoal (J : It) (g : TG) (tk tv : L2.TE) (vs : List Nat) (σ : L2.St) (H1 : Hp) (D : Addr) (Qd : Hp → Prop) : Prop :=
  ∃ W : Nat → Nat → Hp → Prop, (∃ m, W 0 m (upd H1 D (.dK []))) ∧ ∀ i m H, W i m H → (J.stop i H ∧ Qd H) ∨ (J.go i H ∧ ∃ Nx : Hp → Prop, (∀ H', Nx H' → ∃ m', m' < m ∧ W (i + 1) m' H') ∧ ∀ x H', J.yld i H x H' → g x (wipe σ vs) H' fun σ2 H2 => wipe σ2 vs = wipe σ vs ∧ tYes σ2 H2 fun b H3 =>
    if b = true then tk σ2 H3 fun y H4 => tv σ2 H4 fun z H5 => ∃ kvs k, y = kV k ∧ H5 D = some (.dK kvs) ∧ kvs.length < sizeLine ∧ Nx (upd H5 D (.dK (putK kvs k z))) else Nx H3)
theorem dc_names (w : Walk J n G Y) (ss : List Str) (hn : n = ss.length) (hl : n < 1000) (nD : H1 D = none) (hG : ∀ H, Ex H1 H → G H)
    (hs : ∀ (i : Nat) (x : V) (H H' : Hp) (Kq : V → V → Hp → Prop), i < n → Ex H1 H → Y i H x H' → (∀ H4 (s : Str) z, Ex H H4 → ss[i]? = some s → z ≠ .non → Kq (.str s) z H4) → g x (wipe σ vs) H' fun σ2 H2 => wipe σ2 vs = wipe σ vs ∧ tk σ2 H2 fun y H4 => tv σ2 H4 fun z H5 => Kq y z H5)
    (hd : ∀ H kvs, Ex H1 H → H D = some (.dK kvs) → (∀ k : Str, decide ((valV kvs (Sum.inr k : Key)).getD .non = .non) = decide (k ∉ ss)) → Qd H) : DcGoal J g tk tv vs σ H1 D Qd := by
  refine ⟨fun i m H => m = n - i ∧ i ≤ n ∧ Ex H1 H ∧ ∃ kvs, H D = some (.dK kvs) ∧ kvs.length ≤ i ∧ ∀ k : Str, ((valV kvs (Sum.inr k : Key)).getD .non = .non) ↔ k ∉ ss.take i, ⟨n, rfl, Nat.zero_le _, Ex.nw nD, [], upd_same, Nat.zero_le _, fun k => by simp [valV]⟩, ?_⟩
  rintro i m H ⟨rfl, hi, e, kvs, hD, hk, hv⟩
  by_cases lt : i < n
  · refine .inr ⟨w.goes i H lt (hG H e), fun H' => Ex H1 H' ∧ ∃ kvs, H' D = some (.dK kvs) ∧ kvs.length ≤ i + 1 ∧ ∀ k : Str, ((valV kvs (Sum.inr k : Key)).getD .non = .non) ↔ k ∉ ss.take (i + 1), fun H' q => ⟨n - (i + 1), by omega, rfl, lt, q⟩, fun x H' y => ?_⟩
    refine hs i x H H' _ lt e (w.yields i H x H' lt (hG H e) y) fun H4 s z e4 hss hz => ?_
    have hD4 := e4 _ _ hD
    refine ⟨kvs, Sum.inr s, rfl, hD4, Nat.lt_of_le_of_lt hk (Nat.lt_of_lt_of_le lt (Nat.le_trans (Nat.le_of_lt hl) (by decide))), ex_mu (e.tr e4) nD, _, upd_same, Nat.le_trans (length_putK _ _ _) (Nat.succ_le_succ hk), fun k => ?_⟩
    rw [valV_put, List.take_add_one, hss]
    by_cases h : k = s
    · subst h; simp [hz]
    · have h2 : ¬ (Sum.inr k : Key) = Sum.inr s := fun z => h (Sum.inr.inj z)
      rw [if_neg h2, hv k]
      simp [h]
  · have en : i = n := by omega
    refine .inl ⟨?_, hd H kvs e hD fun k => ?_⟩
    · rw [en]; exact w.stops H (hG H e)
    · have q := hv k
      rw [en, hn, List.take_length] at q
      exact decide_eq_decide.mpr q
end
/-! ### two-fold comprehensions -/
def Lc2Goal (J : It) (g : TG) (wi1 : TI) (g1 : TG) (te : L2.TE) (vs vs1 : List Nat) (σ : L2.St) (H1 : Hp) (D : Addr) (Qd : Hp → Prop) : Prop :=
  ∃ W : Nat → Nat → Hp → Prop, (∃ m, W 0 m (upd H1 D (.lst []))) ∧ ∀ i m H, W i m H →
    (J.stop i H ∧ Qd H) ∨ (J.go i H ∧ ∃ Nx : Hp → Prop, (∀ H', Nx H' → ∃ m', m' < m ∧ W (i + 1) m' H') ∧ ∀ x H', J.yld i H x H' → g x (wipe σ vs) H' fun σ2 H2 => wipe σ2 vs = wipe σ vs ∧ tYes σ2 H2 fun b H3 =>
      if b = true then wi1 σ2 H3 fun J1 H4 => ∃ W1 : Nat → Nat → Hp → Prop, (∃ m, W1 0 m H4) ∧ ∀ j k H, W1 j k H →
        (J1.stop j H ∧ Nx H) ∨ (J1.go j H ∧ ∃ Nx1 : Hp → Prop, (∀ H', Nx1 H' → ∃ k', k' < k ∧ W1 (j + 1) k' H') ∧ ∀ x H', J1.yld j H x H' → g1 x (wipe σ2 vs1) H' fun σ3 H5 => wipe σ3 vs1 = wipe σ2 vs1 ∧ tYes σ3 H5 fun b H6 =>
          if b = true then te σ3 H6 fun y H7 => ∃ acc, H7 D = some (.lst acc) ∧ acc.length < sizeLine ∧ Nx1 (upd H7 D (.lst (acc ++ [y]))) else Nx1 H6)
      else Nx H3)
theorem lc2_tz {K : Frag} {J : It} {n : Nat} {G : Hp → Prop} {xs : List V} {a b : Nat} {wi1 : TI} {te : L2.TE} {vs vs1 : List Nat} {σ : L2.St} {H1 : Hp} {D : Addr} {Qd : Hp → Prop} (w : Walk J n G (YAt xs)) (gs : Nat → List PyData) (f : Nat → PyData → PyData) (M : Nat) (hM : ∀ i, i < n → (gs i).length ≤ M) (hn : n * M < 1000) (nD : H1 D = none) (hG : ∀ H, Ex H1 H → G H)
    (hwa : ∀ x : V, wipe ((wipe σ vs).set a (some x)) vs = wipe σ vs) (hwb : ∀ x y : V, wipe ((wipe ((wipe σ vs).set a (some x)) vs1).set b (some y)) vs1 = wipe ((wipe σ vs).set a (some x)) vs1)
    (hw : ∀ (i : Nat) (x : V) (H : Hp) (R : It → Hp → Prop), i < n → xs[i]? = some x → Ex H1 H → (∃ o, H D = some o) → (∀ (lb : Addr) (ys : List V) (H4 : Hp), Ex H H4 → H4 lb = some (.lst ys) → lb ≠ D → TzL H4 ys (gs i) → R (Itl K lb) H4) → wi1 ((wipe σ vs).set a (some x)) H R)
    (hs : ∀ (i : Nat) (x y : V) (d : PyData) (H : Hp) (Kq : V → Hp → Prop), i < n → xs[i]? = some x → Ex H1 H → d ∈ gs i → Tz H y d → (∀ v H4, Ex H H4 → Tz H4 v (f i d) → Kq v H4) → te ((wipe ((wipe σ vs).set a (some x)) vs1).set b (some y)) H Kq)
    (hd : ∀ H ys, Ex H1 H → H D = some (.lst ys) → TzL H ys ((List.range n).flatMap fun i => (gs i).map (f i)) → Qd H) : Lc2Goal J (gName a) wi1 (gName b) te vs vs1 σ H1 D Qd := by
  refine ⟨fun i m H => m = n - i ∧ i ≤ n ∧ Ex H1 H ∧ ∃ acc, H D = some (.lst acc) ∧ acc.length ≤ i * M ∧ TzL H acc ((List.range i).flatMap fun i => (gs i).map (f i)), ⟨n, rfl, Nat.zero_le _, Ex.nw nD, [], upd_same, Nat.zero_le _, TzL.nil⟩, ?_⟩
  rintro i m H ⟨rfl, hi, e, acc, hD, hl, hx⟩
  by_cases lt : i < n
  · refine .inr ⟨w.goes i H lt (hG H e), fun H' => Ex H1 H' ∧ ∃ acc, H' D = some (.lst acc) ∧ acc.length ≤ (i + 1) * M ∧ TzL H' acc ((List.range (i + 1)).flatMap fun i => (gs i).map (f i)), fun H' q => ⟨n - (i + 1), by omega, rfl, lt, q⟩, fun x H' y => ?_⟩
    obtain ⟨rfl, hxi⟩ := w.yields i H x H' lt (hG H e) y
    refine ⟨hwa x, hw i x _ _ lt hxi e ⟨_, hD⟩ fun lb ys H4 e4 hlb nlb hys => ?_⟩
    have bM : i * M + M < 1000 := by
      have h1 : (i + 1) * M ≤ n * M := Nat.mul_le_mul_right M lt
      rw [Nat.succ_mul] at h1
      omega
    have hy : ys.length = (gs i).length := hys.1
    have hMi := hM i lt
    refine ⟨fun j k H5 => k = ys.length - j ∧ j ≤ ys.length ∧ Ex H1 H5 ∧ H5 lb = some (.lst ys) ∧ TzL H5 ys (gs i) ∧ ∃ ac2, H5 D = some (.lst ac2) ∧ ac2.length ≤ i * M + j ∧ TzL H5 ac2 (((List.range i).flatMap fun i => (gs i).map (f i)) ++ ((gs i).take j).map (f i)), ⟨ys.length, rfl, Nat.zero_le _, e.tr e4, hlb, hys, acc, e4 _ _ hD, by omega, by rw [List.take_zero, List.map_nil, List.append_nil]; exact hx.ex e4⟩, ?_⟩
    rintro j k H5 ⟨rfl, hj, e5, hlb5, hys5, ac2, hD5, hl2, hx2⟩
    by_cases lt2 : j < ys.length
    · refine .inr ⟨⟨ys, ys[j], SqL.of hlb5, List.getElem?_eq_getElem lt2⟩, fun H6 => Ex H1 H6 ∧ H6 lb = some (.lst ys) ∧ TzL H6 ys (gs i) ∧ ∃ ac2, H6 D = some (.lst ac2) ∧ ac2.length ≤ i * M + (j + 1) ∧ TzL H6 ac2 (((List.range i).flatMap fun i => (gs i).map (f i)) ++ ((gs i).take (j + 1)).map (f i)), fun H6 q => ⟨ys.length - (j + 1), by omega, rfl, lt2, q⟩, fun v H6 yv => ?_⟩
      obtain ⟨rfl, yv⟩ := yv
      have hv := yv ys (SqL.of hlb5)
      obtain ⟨d, hd2, tz⟩ := hys5.gotV hv
      refine ⟨hwb x v, hs i x v d _ _ lt hxi e5 (List.mem_of_getElem? hd2) tz fun y H7 e7 ty => ?_⟩
      have hD7 := e7 _ _ hD5
      refine ⟨ac2, hD7, Nat.lt_of_le_of_lt hl2 (Nat.lt_of_lt_of_le (show i * M + j < 1000 by omega) (by decide)), ex_mu (e5.tr e7) nD, by rw [upd_ne nlb]; exact e7 _ _ hlb5, (hys5.ex e7).te (te_lst hD7), ac2 ++ [y], upd_same, by rw [List.length_append]; show ac2.length + 1 ≤ _; omega, ?_⟩
      rw [List.take_add_one, hd2]
      show TzL _ _ (_ ++ List.map (f i) ((gs i).take j ++ [d]))
      rw [List.map_append, ← List.append_assoc]
      exact ((hx2.ex e7).snoc ty).te (te_lst hD7)
    · have ej : j = ys.length := by omega
      refine .inl ⟨⟨ys, SqL.of hlb5, by omega⟩, e5, ac2, hD5, by rw [Nat.succ_mul]; omega, ?_⟩
      rw [ej, hy, List.take_length] at hx2
      rw [List.range_succ, List.flatMap_append]
      simpa using hx2
  · have en : i = n := by omega
    subst en
    exact .inl ⟨w.stops H (hG H e), hd H acc e hD hx⟩
section
variable {X : Cx} {K : Frag}
theorem pi_listK {tg l : Expr} {tl : L2.TE} (hK : X.K = K) (hl : PE X l tl) : PI X tg l (iList K tl) := hK ▸ pi_list hl
theorem pi_tupK {tg l : Expr} {tl : L2.TE} (hK : X.K = K) (hl : PE X l tl) : PI X tg l (iTup K tl) := hK ▸ pi_tup hl
theorem pa_starK {e : Expr} {es : List Expr} {p : Pos} {te : L2.TE} {t : TA} (hK : X.K = K) (he : PE X e te) (hr : PA X es t) (hs : starEach (.Starred e p :: es) X.env = (true, eval e X.env) :: starEach es X.env := by rfl) : PA X (.Starred e p :: es) (StX.tStar K te t) := hK ▸ StX.pa_star he hr hs
end
end HX
set_option Elab.async false
set_option linter.all false
set_option maxRecDepth 100000
set_option maxHeartbeats 4400000
namespace HX
open L2 PyProof.Rows PySem.Spec PySem
open PySem.W (Frag)
/-! ### defs of which the last parameter has a default, in the head of facts -/
def DX.ok2 (K : Frag) (d : DX) : Bool := PySem.W.keepIn K (.ref (d.at_ K)) && (match K.lookup (d.at_ K) with
  | some ⟨_, _, .func fd, _⟩ => PySem.W.codeIn K fd.code d.qual && (match fd.defaults with
    | .ref T => (match K.lookup T with
      | some ⟨_, _, .seq its _, _⟩ => (match its.toList with
        | [.ref _] => true
        | _ => false)
      | _ => false)
    | _ => false)
  | _ => false)
theorem seq_one {K : Frag} {T : Addr} (c : (match K.lookup T with
      | some ⟨_, _, .seq its _, _⟩ => (match its.toList with
        | [.ref _] => true
        | _ => false)
      | _ => false) = true) : ∃ (o : Obj) (a : Addr) (n : Nat), K.lookup T = some o ∧ o.data = .seq [Value.ref a].toArray n := by
  cases q : K.lookup T with
  | none => rw [q] at c; cases c
  | some o =>
    obtain ⟨oc, od, dt, osl⟩ := o
    rw [q] at c
    cases dt with
    | seq its n =>
      obtain ⟨l⟩ := its
      match l, c with
      | [.ref a], _ => exact ⟨_, a, n, rfl, rfl⟩
    | _ => cases c
theorem DX.fun2 {K : Frag} {d : DX} (e : fnX K (d.at_ K) = d.val) (c : d.ok2 K = true) : ∃ fd v, FunD K d.name d.qual (defArgs d.st) (defBody d.st) (defScope d.st) [v] [] (d.at_ K) fd := by
  obtain ⟨kp, c2⟩ := Bool.and_eq_true_iff.mp c
  unfold fnX at e
  cases q : K.lookup (d.at_ K) with
  | none => rw [q] at c2; cases c2
  | some o =>
    obtain ⟨oc, od, dt, osl⟩ := o
    rw [q] at c2 e
    cases dt with
    | func fd =>
      obtain ⟨n1, n2, n3, n4, n5, n6, n7, n8, n9, n10, n11, n12, n13, n14, n15⟩ := fd
      have e2 : (some (n1, n2, n3, n4, n5, n6, n7, n15) : He.FnW) = some (d.name, d.qual, defArgs d.st, .stmts (defBody d.st), defScope d.st, mainGlobals, [], builtinsNs) := e
      simp only [Option.some.injEq, Prod.mk.injEq] at e2
      obtain ⟨h1, h2, h3, h4, h5, h6, h7, h8⟩ := e2
      subst h1 h2 h3 h4 h5 h6 h7 h8
      obtain ⟨k1, k2⟩ := Bool.and_eq_true_iff.mp c2
      dsimp only at k2
      cases n8 with
      | ref T =>
        obtain ⟨o, a, n, hT, ho⟩ := seq_one k2
        exact ⟨_, .ref a, ⟨⟨oc, od, .ref T, n9, n10, n11, n12, n13, n14, osl, rfl, q, k1, .inr ⟨by simp, T, o, [Value.ref a], n, rfl, hT, ho, .cons rfl .nil⟩, .inl rfl⟩, kp⟩⟩
      | _ => cases k2
    | _ => cases c2
section
variable {P : Program} {w : World} {K : Frag} {mg : Str → Option Value} {base : Heap} {x qual : Str} {params : Arguments} {body : List Stmt} {scope : Scope} {v : V} {f : Addr} {fd : FuncData}
theorem FunD.ok0 {N ps : List Str} {k : Nat} {sp : Sp} {kws : List (Str × V)} {dvs : List V} (F : FunD K x qual params body scope dvs kws f fd) (S : FnScope N ps scope) (len : ∀ vs H Q E, sp vs H Q E → vs.length = ps.length)
    (hbody : ∀ (cdv : Value) (A : Around) (outer : List Env) (s : Shared) (H : Hp) (vs : List V) (Q : VK) (E : XK), Room k (A.deeper (envOfC qual scope s.heap.objs.size f cdv)) → sp vs H Q E →
      ∃ t, PSs (cxOf CX0 P w K mg base N qual scope f cdv A outer s H E).nox body t ∧ t { nx := fun _ H' => Q .non H', rt := Q } (start N vs) H) : FnOk P w K mg base CX0 (k + 1) f fd ps sp := by
  obtain ⟨oc, od, dV, kV, doc, pm, an, cdv, ct, osl, rfl, lk, hcd, _, _⟩ := F.ex
  refine fn_of lk hcd S len fun A outer s H vs Q E hr hsp => ?_
  obtain ⟨t, h, q⟩ := hbody cdv A outer s H vs Q E hr hsp
  exact ⟨t, h.nox, q⟩
/-- all parameters are given by position -/
theorem FunD.bindsAll {ps : List Str} (F : FunD K x qual params body scope [v] [] f fd) (h : ∀ (T : Addr) (kV doc pm : Value) (an : Option Addr) (cdv ct : Value) (us its : List Value), us.length = ps.length → its.length = 1 →
      ∃ k, bindArgs (PySem.W.fnOf x qual params body scope (.ref T) kV doc pm an cdv ct) ⟨us, []⟩ = seqItems? (.ref T) >>= k ∧ k (some its.toArray) = pure (ps.zip (us ++ its.drop 1))) : Binds K fd ps [] := by
  obtain ⟨ds, hv, hb⟩ := F.binds1 (ps := ps) ps.length 1 (by simp) (by simp) h
  cases hv
  exact hb
end
def obsY (n : Nat) (ex : Frag → Bool) (fn fd : List DX) (g : Addr → Option Obj) : He.AlD :=
  let K := He.frG g (pathG g n [mainGlobals])
  (ex K && (fn.all (fun d => d.ok K) && fd.all fun d => d.ok2 K), (fn ++ fd).map fun d => fnX K (d.at_ K))
def valY (fn fd : List DX) : He.AlD := (true, (fn ++ fd).map DX.val)
def SaysY (ex : Frag → Bool) (fn fd : List DX) (K : Frag) : Prop := (ex K && (fn.all (fun d => d.ok K) && fd.all fun d => d.ok2 K), (fn ++ fd).map fun d => fnX K (d.at_ K)) = valY fn fd
def hookY (n : Nat) (ex : Frag → Bool) (fn fd : List DX) : PySem.W.Hook where
  α := He.AlD
  obs := fun s => obsY n ex fn fd s.heap.get?
  val := fun _ => valY fn fd
  says := fun _ h => ∃ K : Frag, K.In h ∧ SaysY ex fn fd K
  of := fun _ _ e => ⟨_, He.frG_in, e⟩
  keeps := fun _ _ _ ⟨K, a, c⟩ k => ⟨K, PySem.W.Frag.In.keeps a k, c⟩
def obTY (n : Nat) (ex : Frag → Bool) (fn fd : List DX) (s : PySem.W.SharedT) : He.AlD := obsY n ex fn fd (HandSHeadRun.getT s)
theorem obTY_eq {n : Nat} {ex : Frag → Bool} {fn fd : List DX} (s : PySem.W.SharedT) : obTY n ex fn fd s = (hookY n ex fn fd).obs s.abs := by
  have e : HandSHeadRun.getT s = s.abs.heap.get? := funext (HandSHeadRun.getT_eq s)
  unfold obTY; rw [e]; rfl
section
variable {ex : Frag → Bool} {fn fd : List DX} {K : Frag}
theorem SaysY.all (c : SaysY ex fn fd K) : ex K = true ∧ (fn.all (fun d => d.ok K) = true ∧ fd.all (fun d => d.ok2 K) = true) := by
  have h := show (ex K && (fn.all (fun d => d.ok K) && fd.all fun d => d.ok2 K)) = true from congrArg (fun z : He.AlD => z.1) c
  obtain ⟨a, b⟩ := Bool.and_eq_true_iff.mp h
  exact ⟨a, Bool.and_eq_true_iff.mp b⟩
theorem SaysY.facts (c : SaysY ex fn fd K) : ex K = true := c.all.1
theorem SaysY.at (c : SaysY ex fn fd K) {d : DX} (i : Nat) (h : (fn ++ fd)[i]? = some d) : fnX K (d.at_ K) = d.val := by
  have e : (fn ++ fd).map (fun d => fnX K (d.at_ K)) = (fn ++ fd).map DX.val := congrArg (fun z : He.AlD => z.2) c
  have e2 : ((fn ++ fd).map (fun d => fnX K (d.at_ K)))[i]? = ((fn ++ fd).map DX.val)[i]? := by rw [e]
  rw [List.getElem?_map, List.getElem?_map, h] at e2
  exact Option.some.inj e2
theorem SaysY.def_ (c : SaysY ex fn fd K) (i : Nat) {d : DX} (h : fn[i]? = some d) : ∃ fd, Fun K d.name d.qual d.st (d.at_ K) fd :=
  DX.fun_ (c.at i (by rw [List.getElem?_append_left (List.getElem?_eq_some_iff.mp h).1]; exact h)) (List.all_eq_true.mp c.all.2.1 d (List.mem_of_getElem? h))
theorem SaysY.def2 (c : SaysY ex fn fd K) (i : Nat) {d : DX} (h : fd[i]? = some d) : ∃ f v, FunD K d.name d.qual (defArgs d.st) (defBody d.st) (defScope d.st) [v] [] (d.at_ K) f :=
  DX.fun2 (c.at (fn.length + i) (by rw [List.getElem?_append_right (Nat.le_add_right _ _), Nat.add_sub_cancel_left]; exact h)) (List.all_eq_true.mp c.all.2.2 d (List.mem_of_getElem? h))
end
end HX
set_option Elab.async false
set_option linter.all false
set_option maxRecDepth 100000
set_option maxHeartbeats 4400000
namespace HX
open L2 PyProof.Rows PySem.Spec PySem
open PySem.W (Frag)
section
variable {J : It} {n : Nat} {G : Hp → Prop} {Y : Nat → Hp → V → Hp → Prop} {g : TG} {te : L2.TE} {vs : List Nat} {σ : L2.St} {H1 : Hp} {D : Addr} {Qd : Hp → Prop}
theorem rng_snoc {α : Type} (f : Nat → α) (i : Nat) : (List.range i).map f ++ [f i] = (List.range (i + 1)).map f := by rw [List.range_succ, List.map_append]; rfl
/-- each turn tells a truth -/
theorem lc_bl (w : Walk J n G Y) (f : Nat → Bool) (hn : n < 1000) (nD : H1 D = none) (hG : ∀ H, Ex H1 H → G H)
    (hs : ∀ (i : Nat) (x : V) (H H' : Hp) (Kq : V → Hp → Prop), i < n → Ex H1 H → Y i H x H' → (∀ H4, Ex H H4 → Kq (.bl (f i)) H4) → g x (wipe σ vs) H' fun σ2 H2 => wipe σ2 vs = wipe σ vs ∧ te σ2 H2 Kq)
    (hd : ∀ H, Ex H1 H → H D = some (.lst (((List.range n).map f).map V.bl)) → Qd H) : LcGoal J g te vs σ H1 D Qd := by
  refine lc_it (tt := tYes) w (fun i H => Ex H1 H ∧ H D = some (.lst (((List.range i).map f).map V.bl))) ⟨Ex.nw nD, upd_same⟩ (fun i H _ p => hG H p.1) (fun i x H H' hi p y => ?_) (fun H ⟨e, hD⟩ => hd H e hD)
  obtain ⟨e, hD⟩ := p
  refine hs i x H H' _ hi e y fun H4 e4 => ⟨_, e4 _ _ hD, ?_, ex_mu (e.tr e4) nD, ?_⟩
  · rw [List.length_map, List.length_map, List.length_range]
    exact Nat.lt_of_lt_of_le hi (Nat.le_trans (Nat.le_of_lt hn) (by decide))
  · rw [← rng_snoc, List.map_append]; exact upd_same
end
/-- all of what is told of each, told of the list -/
theorem all_rng {α : Type} (P : α → Bool) (f : Nat → Bool) (l : List α) (h : ∀ (i : Nat) (a : α), l[i]? = some a → f i = P a) : ((List.range l.length).map f).all id = l.all P := by
  have e : (List.range l.length).map f = l.map P := by
    refine List.ext_getElem? fun i => ?_
    by_cases hi : i < l.length
    · have q : l[i]? = some l[i] := List.getElem?_eq_getElem hi
      rw [List.getElem?_map, List.getElem?_map, List.getElem?_range hi, q]
      exact congrArg some (h i _ q)
    · rw [List.getElem?_eq_none (by simpa using Nat.le_of_not_lt hi), List.getElem?_eq_none (by simpa using Nat.le_of_not_lt hi)]
  rw [e, List.all_map]; rfl
/-- what isinstance says of any data: tuple, str -/
def isTupD : PyData → Bool | .tuple _ => true | _ => false
def isStrD : PyData → Bool | .str _ => true | _ => false
theorem kt_tup {K : Frag} {p : Addr} {H : Hp} {v : V} {d : PyData} (h : Dz p H v d) : ∃ t : String, TyX K H v (.type t) ∧ PySem.W.kitOne K (.type t) (.type "tuple") = some (isTupD d) := by
  cases h with
  | non => exact ⟨_, .base .non, kit_ty (r := false) (by decide +kernel)⟩
  | bl b => exact ⟨_, .base (.bl _), kit_ty (r := false) (by decide +kernel)⟩
  | int i => exact ⟨_, .base (.int _), kit_ty (r := false) (by decide +kernel)⟩
  | str x => exact ⟨_, .base (.str _), kit_ty (r := false) (by decide +kernel)⟩
  | lst h => exact ⟨_, .base (.lst h), kit_ty (r := false) (by decide +kernel)⟩
  | tup h => exact ⟨_, .base (.tup h), kit_ty (r := true) (by decide +kernel)⟩
  | dct h => exact ⟨_, .base (.dK h), kit_ty (r := false) (by decide +kernel)⟩
theorem kt_strD {K : Frag} {p : Addr} {H : Hp} {v : V} {d : PyData} (h : Dz p H v d) : ∃ t : String, TyX K H v (.type t) ∧ PySem.W.kitOne K (.type t) (.type "str") = some (isStrD d) := by
  cases h with
  | non => exact ⟨_, .base .non, kit_ty (r := false) (by decide +kernel)⟩
  | bl b => exact ⟨_, .base (.bl _), kit_ty (r := false) (by decide +kernel)⟩
  | int i => exact ⟨_, .base (.int _), kit_ty (r := false) (by decide +kernel)⟩
  | str x => exact ⟨_, .base (.str _), kit_ty (r := true) (by decide +kernel)⟩
  | lst h => exact ⟨_, .base (.lst h), kit_ty (r := false) (by decide +kernel)⟩
  | tup h => exact ⟨_, .base (.tup h), kit_ty (r := false) (by decide +kernel)⟩
  | dct h => exact ⟨_, .base (.dK h), kit_ty (r := false) (by decide +kernel)⟩
/-- the parts of a tuple of data -/
theorem Dz.tupI {p : Addr} {H : Hp} {v : V} {ds : List PyData} (h : Dz p H v (.tuple ds)) : ∃ a xs, v = .ref a ∧ H a = some (.tup xs) ∧ xs.length = ds.length ∧ ∀ (i : Nat) (x : V) (d : PyData), xs[i]? = some x → ds[i]? = some d → Dz p H x d := by
  cases h with
  | tup ht hl hi => exact ⟨_, _, rfl, ht, hl, hi⟩
theorem Dz.strI {p : Addr} {H : Hp} {v : V} {z : Str} (h : Dz p H v (.str z)) : v = .str z := by cases h; rfl
theorem Dz.intI {p : Addr} {H : Hp} {v : V} {z : Int} (h : Dz p H v (.int z)) : v = .int z := by cases h; rfl
/-- any data of a bounded weight -/
def Wt (n : Nat) (d : PyData) : Prop := d.weight ≤ n
theorem Wt.str {n : Nat} {z : Str} (h : Wt n (.str z)) : z.length ≤ n := by unfold Wt at h; simp only [PyData.weight] at h; exact h
theorem wt_all {ds : List PyData} : ds.length ≤ PyData.weightAll ds := by
  induction ds with
  | nil => exact Nat.zero_le _
  | cons d r ih => simp only [PyData.weightAll, List.length_cons]; omega
theorem wt_mem {d : PyData} : ∀ {ds : List PyData}, d ∈ ds → d.weight ≤ PyData.weightAll ds
  | x :: r, h => by
    simp only [PyData.weightAll]
    rcases List.mem_cons.mp h with rfl | h
    · omega
    · have := wt_mem h; omega
theorem Wt.len {n : Nat} {ds : List PyData} (h : Wt n (.tuple ds)) : ds.length ≤ n := by unfold Wt at h; simp only [PyData.weight] at h; exact Nat.le_trans wt_all h
theorem Wt.mem {n : Nat} {ds : List PyData} {d : PyData} (h : Wt n (.tuple ds)) (m : d ∈ ds) : Wt n d := by unfold Wt at h ⊢; simp only [PyData.weight] at h; exact Nat.le_trans (wt_mem m) h
end HX
set_option Elab.async false
set_option linter.all false
set_option maxRecDepth 100000
set_option maxHeartbeats 4400000
namespace HX
open L2 PyProof.Rows PySem.Spec PySem
open PySem.W (Frag)
/-! ### == and != of an own class that has an __eq__ and no __ne__ -/
section
variable {M : Model} {prog : Program} {w : World} {A : Around} {E : Value → Shared → Prop} {s : Shared} {K : Frag} {x C f L : Addr} {ox : Obj} {od : Option Obj} {h₀ : Heap} {m : Str → Option Value} {b tb : Value}
/-- the class's != is looked up, bound, and called: it is object's -/
theorem ifBound_objNe {args : List Value} {Q : Option Value → Shared → Prop} (X : K.In s.heap) (I : PySem.W.InstAt s.heap x ox C od) (hs : PySem.W.findIn K (.ref C) "__ne__" = some (some (.builtin "object.__ne__")))
    (h : wpAny M A (call (.builtin "object.__ne__") (.ref x :: args)) (fun v => Q (some v)) E s) : wpAny M A (callSpecialIfBound? (.ref x) "__ne__" args) Q E s := by
  have told : wpAny M A (call (.builtin "object.__ne__") ([.ref x] ++ args) >>= fun v => pure (some v)) Q E s :=
    wpAny_bind (wpAny_mono h (fun _ _ z => wpAny_pure z) fun _ _ z => z)
  unfold callSpecialIfBound? bindSpecialIfBound?
  apply wpAny_holding
  iterate 3 apply wpAny_bind
  apply I.type.here
  apply (PySem.W.looks_findIn X hs).here
  apply wpAny_bind
  apply wpAny_askSetting
  apply wpAny_ite
  split <;> first
    | exact wpAny_bind (wpAny_of_eq (F.cmp_object.ne.bind _) (wpAny_pure (by exact told)))
    | exact wpAny_tryCatch (wpAny_bind (wpAny_of_eq (F.cmp_object.ne.bind _) (wpAny_pure (by exact told))))
theorem entry_objNe {Q : Fin → Shared → Prop} (X : K.In s.heap) (I : PySem.W.InstAt s.heap x ox C od) (hs : PySem.W.findIn K (.ref C) "__eq__" = some (some (.ref f))) (hf : PySem.W.isFn K (.ref f) = true) (hu : A.units < cLine)
    (h : wpAny (model prog w) A (call (.ref f) [.ref x, b]) (fun v s' => ∃ c, v = .bool c ∧ Q (.done (.ret (.bool (!c)))) s') E s) : wpAny (model prog w) A (Builtin.«object.__ne__» ⟨[.ref x, b], []⟩) Q E s := by
  unfold Builtin.«object.__ne__»
  repeat (first
    | with_reducible refine wpAny_cRoomFor hu ?_
    | (refine wpAny_bind (m := callSpecialIfBound? (.ref x) (Str.ofString "__eq__") [b])
        (PySem.W.ifBound_K X I hs hf (wpAny_mono h (fun r s' hr => by
          obtain ⟨c, rfl, hq⟩ := hr
          repeat (first | exact hq | exact wpAny_pure hq | exact wpAny_truthy_bool hq | (refine wpAny_bind (m := truthy (.bool _)) (wpAny_truthy_bool ?_)) | wp_step)) fun _ _ e => e)))
    | wp_step)
theorem cmpNe_K {Q : Value → Shared → Prop} (hu : A.units + 1 < cLine) (X : K.In s.heap) (I : PySem.W.InstAt s.heap x ox C od) (hb : PySem.W.Looks (model prog w) s.heap (typeOf b) tb) (hn : PySem.W.notFirst K C tb = true)
    (hm : PySem.W.mroIn K C (.type "object") = some true) (hne : PySem.W.findIn K (.ref C) "__ne__" = some (some (.builtin "object.__ne__"))) (hs : PySem.W.findIn K (.ref C) "__eq__" = some (some (.ref f))) (hf : PySem.W.isFn K (.ref f) = true)
    (h : wpAny (model prog w) A.in1 (call (.ref f) [.ref x, b]) (fun v s' => ∃ c, v = .bool c ∧ Q (.bool (!c)) s') E s) : wpAny (model prog w) A (richCompare .NotEq (.ref x) b) Q E s := by
  have one : wpAny (model prog w) A (tryCompare (.ref x) "__ne__" b) (fun r s' => ∃ v, r = some v ∧ Q v s') E s := by
    unfold tryCompare
    refine wpAny_bind (ifBound_objNe X I hne (wpAny_call (codeAny_call_builtin F.cmp_object.ne.plain F.cmpEntry_ne (PySem.W.check_slot F.cmpKind_ne F.cmpSplit_ne (I.type.andThen (PySem.W.looks_mroIn X hm)) (F.cmpArgs_ne _ _) (entry_objNe X I hs hf hu (wpAny_mono h (fun v s' hv => ?_) fun _ _ e => e))))))
    obtain ⟨c, rfl, hq⟩ := hv
    first | exact ⟨c, rfl, wpAny_pure ⟨_, rfl, hq⟩⟩ | exact ⟨c, rfl, wpAny_pure (wpAny_pure ⟨_, rfl, hq⟩)⟩ | exact ⟨c, rfl, ⟨_, rfl, hq⟩⟩
  have sub : tb = .ref C ∨ PySem.W.subIn K tb (.ref C) = some false := (Bool.or_eq_true_iff.mp hn).imp beq_iff_eq.mp beq_iff_eq.mp
  have fin : ∀ {k : Option Value → Sem Value}, (∀ v, k (some v) = pure v) → wpAny (model prog w) A (tryCompare (.ref x) "__ne__" b >>= k) Q E s := fun hk =>
    wpAny_bind (wpAny_mono one (fun r s' ⟨v, e, hq⟩ => by subst e; rw [hk]; exact wpAny_pure hq) fun _ _ z => z)
  simp only [richCompare, cmpInfo_NotEq, oneThing_ref]
  apply wpAny_holding
  apply wpAny_bind
  apply wpAny_cRoomFor (Nat.lt_of_succ_lt hu)
  apply wpAny_bind
  apply I.type.here
  apply wpAny_bind
  apply hb.here
  split
  · next q =>
    have e := sub.resolve_left fun z => by subst z; simp at q
    apply wpAny_bind
    apply (PySem.W.looks_subIn X e).here
    rw [if_neg Bool.false_ne_true]
    exact fin fun _ => rfl
  · apply wpAny_bind
    apply wpAny_pure
    rw [if_neg Bool.false_ne_true]
    exact fin fun _ => rfl
end
section
variable {X : Cx}
/-- what an instance may be compared with: of the same class, an int, a tuple -/
def eqSide (K : Frag) (C : Addr) (H : Hp) (y : V) : Prop := isI C H y ∨ (∃ i, y = .int i) ∨ ∃ a xs, y = .ref a ∧ H a = some (.tup xs)
/-- the class's own ==, and no != -/
structure EqC (K : Frag) (C f : Addr) : Prop where
  hs : PySem.W.findIn K (.ref C) "__eq__" = some (some (.ref f))
  hf : PySem.W.isFn K (.ref f) = true
  hne : PySem.W.findIn K (.ref C) "__ne__" = some (some (.builtin "object.__ne__"))
  hm : PySem.W.mroIn K C (.type "object") = some true
  nc : PySem.W.notFirst K C (.ref C) = true
  n1 : PySem.W.notFirst K C (.type "int") = true
  n2 : PySem.W.notFirst K C (.type "tuple") = true
def rEqO (K : Frag) (C : Addr) (sp : Sp) (E : XK) : R2 := fun x y H Q => isI C H x ∧ eqSide K C H y ∧ sp [x, y] H Q E
def rNeO (K : Frag) (C : Addr) (sp : Sp) (E : XK) : R2 := fun x y H Q => isI C H x ∧ eqSide K C H y ∧ sp [x, y] H (fun v H' => ∃ b, v = .bl b ∧ Q (.bl (!b)) H') E
theorem side_looks {pins : List (Addr × Obj)} {σ : L2.St} {H : Hp} {s : Shared} {C f : Addr} {y : V} {u : Value} (I : Inv X pins σ H s) (T : EqC X.K C f) (h : eqSide X.K C H y) (ry : RelV y u) : ∃ tb, PySem.W.Looks (model X.prog X.w) s.heap (typeOf u) tb ∧ PySem.W.notFirst X.K C tb = true := by
  rcases h with ⟨b, dy, gs, rfl, eb⟩ | ⟨i, rfl⟩ | ⟨a, xs, rfl, ha⟩
  · obtain ⟨od', J'⟩ := isI_inst I eb
    cases (id ry : u = Value.ref b)
    exact ⟨_, J'.type, T.nc⟩
  · obtain ⟨t, e⟩ := (show ∃ t, u = Value.int i t from ry)
    subst e
    exact ⟨_, fun A Q E s k q => wpAny_typeOf (typeIs_int s i t) q, T.n1⟩
  · cases (id ry : u = Value.ref a)
    obtain ⟨its, rv, ⟨o, ho, hc, n, hd⟩, _⟩ := I.tuple (SqT.of ha)
    exact ⟨_, fun A Q E s k q => wpAny_typeOf_ref (k _ _ ho) (by rw [hc]; exact q), T.n2⟩
theorem op_eqO {CX : CXT} {C f : Addr} {k : Nat} {fd : FuncData} {ps : List Str} {sp : Sp} {E : XK} (T : EqC X.K C f) (F1 : FnOk X.prog X.w X.K X.mg X.base CX k f fd ps sp) (b1 : Binds X.K fd ps []) (hr : Room k X.A) (hx : Passes CX X E) : OpR X (compareOp .Eq) (rEqO X.K C sp E) := by
  intro pins s σ H x y v u; intro Q I rx ry h
  obtain ⟨m, hF⟩ := I.fr
  have hu := hr.units0
  obtain ⟨⟨a, dx, fs, rfl, ea⟩, hy, q⟩ := h
  obtain ⟨od, J⟩ := isI_inst I ea
  cases (id rx : v = Value.ref a)
  obtain ⟨tb, hb, hn⟩ := side_looks I T hy ry
  unfold compareOp
  exact PySem.W.cmp_K (op := .Eq) hu hF I.ok.mod.kin J hb hn T.hs T.hf (thn (run_fn (us := [.ref a, u]) (vs := [.ref a, y]) F1 hr b1 .nil hx I (.cons rfl (.cons ry .nil)) q) fun u s' z => ep_back z)
/-- a call one deeper -/
theorem run_fn1 {CX : CXT} {f : Addr} {k : Nat} {fd : FuncData} {ps : List Str} {sp : Sp} {E : XK} {pins : List (Addr × Obj)} {σ : L2.St} {H : Hp} {s : Shared} {Q : VK} {us : List Value} {vs : List V} (F : FnOk X.prog X.w X.K X.mg X.base CX k f fd ps sp) (hr : Room (k + 1) X.A) (hb : Binds X.K fd ps []) (hx : Passes CX X E)
    (I : Inv X pins σ H s) (r : Vals vs us) (h : sp vs H Q E) : wpAny (model X.prog X.w) X.A.in1 (call (.ref f) us) (EP X pins σ Q) X.xe s := by
  have hl : (us ++ []).length = ps.length := by rw [List.append_nil, ← r.length]; exact F.len _ _ _ _ h
  have hb2 := hb s us I.kIn hl
  rw [List.append_nil] at hb2
  refine wpAny_call (codeAny_mono (F.run X.A.in1 X.stack s H ⟨us, []⟩ us vs Q E hr.in1 I.env0.in1 hb2 r h) fun r s' hq => ?_)
  cases r with
  | error e => exact hx pins σ H s e s' I hq
  | ok fl =>
    cases fl with
    | ret u => exact I.after hq
    | next => exact False.elim hq
    | brk => exact False.elim hq
    | cont => exact False.elim hq
theorem op_neO {CX : CXT} {C f : Addr} {k : Nat} {fd : FuncData} {ps : List Str} {sp : Sp} {E : XK} (T : EqC X.K C f) (F1 : FnOk X.prog X.w X.K X.mg X.base CX k f fd ps sp) (b1 : Binds X.K fd ps []) (hr : Room (k + 1) X.A) (hx : Passes CX X E) : OpR X (compareOp .NotEq) (rNeO X.K C sp E) := by
  intro pins s σ H x y v u; intro Q I rx ry h
  have hu : X.A.units + 1 < cLine := hu_of hr
  obtain ⟨⟨a, dx, fs, rfl, ea⟩, hy, q⟩ := h
  obtain ⟨od, J⟩ := isI_inst I ea
  cases (id rx : v = Value.ref a)
  obtain ⟨tb, hb, hn⟩ := side_looks I T hy ry
  unfold compareOp
  refine cmpNe_K hu I.kIn J hb hn T.hm T.hne T.hs T.hf (thn (run_fn1 (us := [.ref a, u]) (vs := [.ref a, y]) F1 hr b1 hx I (.cons rfl (.cons ry .nil)) q) fun u s' z => ?_)
  obtain ⟨v, H', I', r, c, rfl, hq⟩ := z
  cases r
  exact ⟨c, rfl, .bl (!c), H', I', rfl, hq⟩
end
end HX
set_option Elab.async false
set_option linter.all false
set_option maxRecDepth 100000
set_option maxHeartbeats 4400000
namespace HX
open L2 PyProof.Rows PySem.Spec PySem LamX
/-- one parameter p, no other name of its own: captured ones and globals -/
structure LamP (sc scope : Scope) (p : Str) : Prop where
  kind : scope.kind = .function
  co : scope.isCoroutine = false
  gen : scope.isGenerator = false
  par : scope.names.lookup p = some .local
  own : ∀ y ∈ scope.names, (y.2 = .local → y.1 = p) ∧ y.2 ≠ .cell
  free : ∀ y ∈ scope.names, y.2 = .free → sc.names.lookup y.1 = some .cell ∨ sc.names.lookup y.1 = some .free
def lamPB (sc scope : Scope) (p : Str) : Bool :=
  decide (scope.kind = .function) && !scope.isCoroutine && !scope.isGenerator && decide (scope.names.lookup p = some .local) && scope.names.all fun y => (!decide (y.2 = .local) || decide (y.1 = p)) && !decide (y.2 = .cell) && (!decide (y.2 = .free) || decide (sc.names.lookup y.1 = some .cell) || decide (sc.names.lookup y.1 = some .free))
theorem lamP_by {sc scope : Scope} {p : Str} (h : lamPB sc scope p = true) : LamP sc scope p := by
  unfold lamPB at h
  simp only [Bool.and_eq_true, Bool.or_eq_true, Bool.not_eq_true', decide_eq_true_eq, decide_eq_false_iff_not, List.all_eq_true] at h
  obtain ⟨⟨⟨⟨h1, h2⟩, h3⟩, h4⟩, h5⟩ := h
  refine ⟨h1, h2, h3, h4, fun y hy => ⟨fun e => ?_, (h5 y hy).1.2⟩, fun y hy e => ?_⟩
  · rcases (h5 y hy).1.1 with z | z
    · exact absurd e z
    · exact z
  · rcases (h5 y hy).2 with (z | z) | z
    · exact absurd e z
    · exact .inl z
    · exact .inr z
theorem LamP.has {X : Cx} {scope : Scope} {p : Str} (L : LamP X.env.scope scope p) (ok : X.Ok) : ∀ y ∈ scope.names, y.2 = .free → ∃ c, X.env.cells.lookup y.1 = some c := fun y hy e =>
  (L.free y hy e).elim (fun k => ok.has _ (.inl k)) fun k => ok.has _ (.inr k)
abbrev lamCxP (X : Cx) (A : Around) (outer : List Env) (s : Shared) (H : Hp) (E : XK) (scope : Scope) (f c' : Addr) (p : Str) : Cx := { lamCx X A outer s H E scope f c' with N := X.N ++ [p] }
section
variable {X : Cx} {pins : List (Addr × Obj)} {σ : L2.St} {H HZ : Hp} {s s1 : Shared}
theorem lam_startP {A : Around} {outer : List Env} {E : XK} {scope : Scope} {f c' : Addr} {h₁ : Heap} {tk : Nat} {p : Str} {u : Value} {w : V} (I : Inv X pins σ H s) (L : LamP X.env.scope scope p) (hp : p ∉ X.N) (e0 : Env0 X.prog X.w X.K X.mg X.base A outer s1 HZ) (hd : A.handled = none)
    (un : Un (frs X.stack) [] H HZ s.heap s1.heap) (hns : h₁.Ns s1.heap.objs.size fun y => ([(p, u)] : List (Str × Value)).reverse.lookup y) (kp : ∀ b o, s1.heap.get? b = some o → h₁.get? b = some o) (rv : L2.RelV w u) :
    Inv (lamCxP X A outer s1 HZ E scope f c' p) [] (σ ++ [some w]) HZ { s1 with heap := h₁, toks := tk } := by
  have hfree := L.has I.ok
  have cm : ∀ {y c}, (cloFrom X.env.cells scope.names []).lookup y = some c → X.env.cells.lookup y = some c := fun {y c} e => by
    rcases cloFrom_mem (PySem.mem_of_lookup e) with hm | ⟨h1, h2⟩
    · cases hm
    · obtain ⟨c1, hc⟩ := hfree _ h1 rfl
      have hc : X.env.cells.lookup y = some c1 := hc
      have e2 : c = c1 := by rw [h2, hc] <;> rfl
      rw [e2]; exact hc
  have look : ∀ {y}, scope.names.lookup y = some .free → ∃ c, (cloFrom X.env.cells scope.names []).lookup y = some c := fun {y} hl =>
    mem_lookup (cloFrom_has (cells := X.env.cells) (acc := []) (PySem.mem_of_lookup hl : (y, NameKind.free) ∈ scope.names))
  have cellK : ∀ {c : Addr} {v : Option Value}, H c = none → s.heap.IsCell c v → h₁.IsCell c v := fun {c v} n ⟨o, ho, hd⟩ => by
    obtain ⟨sl, q⟩ := un.any ho n (by simp)
    exact ⟨_, kp _ _ q, hd⟩
  have noA : ∀ b : Addr, b ∉ (lamCxP X A outer s1 HZ E scope f c' p).ex := fun b z => absurd (show b ∈ ([] : List Addr) from z) (by simp)
  refine ⟨⟨e0.mod, L.kind, rfl, rfl, Nat.le_refl _, fun y z c e1 e2 => I.ok.inj y z c (cm e1) (cm e2), fun y hy => ?_, fun y c z _ => ?_, fun _ => hd, Around.frames_deeper e0.frames, .inr ⟨rfl, rfl⟩, fun b z => absurd z (noA b), e0.bs, e0.bsz, fun b _ _ => noA b,
      fun b z => absurd z (noA b), e0.funs, e0.frf⟩,
    rfl, e0.bare, Un.kept kp, ⟨_, hns, fun i y v e1 e2 e3 => ?_⟩, fun y c e => ?_, e0.hok.fresh (Nat.le_refl _), fun y c e => ?_, fun q hq => absurd (show q ∈ ([] : List (Addr × Obj)) ++ [] from hq) (by simp), e0.hok.kept kp, ?_⟩
  · have hy : scope.names.lookup y = some .cell ∨ scope.names.lookup y = some .free := hy
    rcases hy with hy | hy
    · exact absurd rfl (L.own _ (PySem.mem_of_lookup hy)).2
    · exact look hy
  · cases (show false = true from z)
  · have e1 : (X.N ++ [p])[i]? = some y := e1
    have hl := I.len
    by_cases hi : i < X.N.length
    · rw [List.getElem?_append_left hi] at e1
      rw [List.getElem?_append_left (by rw [hl]; exact hi)] at e2
      have yp : y ≠ p := fun z => hp (z ▸ List.mem_of_getElem? e1)
      have e3 : Vis scope y := e3
      rcases e3 with k | k | k
      · exact absurd ((L.own _ (PySem.mem_of_lookup k)).1 rfl) yp
      · exact absurd rfl (L.own _ (PySem.mem_of_lookup k)).2
      · obtain ⟨m, hn, hl⟩ := I.loc
        have hvis : Vis X.env.scope y := (L.free _ (PySem.mem_of_lookup k) rfl).elim (fun k => .inr (.inl k)) (fun k => .inr (.inr k))
        obtain ⟨w', r, q⟩ := hl i y v e1 e2 hvis
        obtain ⟨c2, h2⟩ := look k
        refine ⟨w', r, .inr ⟨.inr k, c2, h2, ?_⟩⟩
        have c1 := cm h2
        rcases q with ⟨k', _⟩ | ⟨_, c3, e', z⟩
        · have k' : X.env.scope.names.lookup y = some .local := k'
          rcases L.free _ (PySem.mem_of_lookup k) rfl with k2 | k2 <;> rw [show X.env.scope.names.lookup y = _ from k2] at k' <;> cases k'
        · rw [c1] at e'
          cases e'
          exact cellK (I.freeC y _ c1) z
    · rw [List.getElem?_append_right (Nat.le_of_not_lt hi)] at e1
      rw [List.getElem?_append_right (by rw [hl]; exact Nat.le_of_not_lt hi), hl] at e2
      cases hk : i - X.N.length with
      | zero =>
        rw [hk] at e1 e2
        cases e1; cases e2
        exact ⟨u, rv, .inl ⟨L.par, by simp⟩⟩
      | succ n => rw [hk] at e1; cases e1
  · obtain ⟨w', z⟩ := I.cell y c (cm e)
    exact ⟨w', cellK (I.freeC y c (cm e)) z⟩
  · obtain ⟨v, o, ho, hd⟩ := I.cell y c (cm e)
    exact un.free c o ho (I.freeC y c (cm e)) (by simp)
  · show (σ ++ [some w]).length = (X.N ++ [p]).length
    rw [List.length_append, List.length_append, I.len]; rfl
/-- a(e), in the def that got the lambda -/
theorem pe_actP {CXg : CXT} {Eg : XK} {Ng : List Str} {qg : Str} {sg : Scope} {g f c' : Addr} {cdg pm ctv : Value} {params : Arguments} {body e : Expr} {scope : Scope} {k i : Nat} {a p : Str} {te tb : TE} {p1 p2 : Pos}
    (I : Inv X pins σ H s) (L : LamP X.env.scope scope p) (hpN : p ∉ X.N) (hf : s.heap.get? f = some (PySem.W.kla_obj "<lambda>" (X.env.qual ++ "<lambda>") params body scope (cloFrom X.env.cells scope.names []) pm c' ctv)) (hfn : H f = none) (hfr : f ∉ frs X.stack)
    (hbind : ∀ u : Value, bindArgs (PySem.W.kla_fn "<lambda>" (X.env.qual ++ "<lambda>") params body scope (cloFrom X.env.cells scope.names []) pm (.ref c') ctv) ⟨[u], []⟩ = pure [(p, u)])
    (hr : Room (k + 1) (X.A.deeper (envOfC qg sg s.heap.objs.size g cdg)))
    (hbody : ∀ (A : Around) (outer : List Env) (s : Shared) (H : Hp), Room k (A.deeper (lamEnv X scope s.heap.objs.size f c')) → PE (lamCxP X A outer s H (fun _ _ _ => False) scope f c' p) body tb)
    (hN : Ng[i]? = some a) (hv : Vis sg a) (he : PE (cxOf CXg X.prog X.w X.K X.mg X.base Ng qg sg g cdg X.A X.stack s H Eg).nox e te)
    (hs : ∀ env : Env, starEach [e] env = [(false, eval e env)] := by intro _; rfl) (hd : (a == ("__debug__" : Str)) = false := by decide) (hcd : (a == ("__classdict__" : Str)) = false := by decide) :
    PE (cxOf CXg X.prog X.w X.K X.mg X.base Ng qg sg g cdg X.A X.stack s H Eg).nox (.Call (.Name a p1) [e] [] p2)
      (fun σZ HZ Q => σZ[i]? = some (some (.ref f)) ∧ te σZ HZ fun v H1 => H1 c' = some (CodeO c' (X.env.qual ++ "<lambda>")) ∧ tb (σ ++ [some v]) H1 Q) := by
  refine ⟨fun pz sz σz Hz Q Iz ⟨hs0, ht⟩ => wpAny_Call_Name_kw (thn ((pe_var (pos := p1) (i := i) hN hv hd hcd).run pz sz σz Hz (fun v H1 => v = .ref f ∧ H1 = Hz) Iz ⟨.ref f, hs0, rfl, rfl⟩) fun u s2 ⟨v, H1, I1, r1, ev, eH⟩ => ?_)⟩
  subst ev; subst eH
  obtain rfl : u = Value.ref f := r1
  have at1 : s2.heap.get? f = some (PySem.W.kla_obj "<lambda>" (X.env.qual ++ "<lambda>") params body scope (cloFrom X.env.cells scope.names []) pm c' ctv) := I1.base.keep f _ hf hfn hfr (fun z => nomatch (show f ∈ ([] : List Addr) from z))
  refine PySem.W.callWith_F ⟨_, _, _, _, at1⟩ ?_ (hs _)
  rw [hs]
  show wpAny _ _ (spliced ((false, eval e _) :: backTo p2 [])) _ _ s2
  refine Calls.spliced_cons (thn (he.run pz s2 σz H1 _ I1 ht) fun u s3 ⟨v, H2, I2, r2, hc, hb⟩ => Calls.spliced_nil ?_)
  · have at2 : s3.heap.get? f = some (PySem.W.kla_obj "<lambda>" (X.env.qual ++ "<lambda>") params body scope (cloFrom X.env.cells scope.names []) pm c' ctv) := I2.base.keep f _ hf hfn hfr (fun z => nomatch (show f ∈ ([] : List Addr) from z))
    refine ⟨⟨_, _, _, _, at2⟩, ?_⟩
    have un : Un (frs X.stack) [] H H2 s.heap s3.heap := I2.base
    obtain ⟨⟨oc, vs, t, hoc, hdc, hvc⟩, _, _⟩ := I2.hok c' _ hc
    have run : codeAny (model X.prog X.w) (X.A.deeper (envOfC qg sg s.heap.objs.size g cdg)) (.call (.ref f) ⟨[u], []⟩) (CR (L2.CX X.prog X.w) (envOfC qg sg s.heap.objs.size g cdg :: X.stack) X.prog X.w H2 s3 Q (fun _ _ _ => False)) s3 := by
      refine PySem.W.kla_callFunE hr.depth at2 rfl L.co L.gen rfl ⟨c', oc, vs, t, rfl, hoc, hdc, hvc⟩ ?_
      rw [hbind]
      refine wpAny_pure (wpAny_newFunctionEnv (fun y hy => (L.own y hy).2) (fun y hy => ?_) (fun h₁ hns hsb => ⟨I2.nolimit.fresh _ hsb, ?_⟩) L.kind)
      · rw [List.mem_singleton.mp hy]; exact L.par
      (show codeAny _ _ (.expr body (lamEnv X scope s3.heap.objs.size f c')) _ _)
      have kp : ∀ b o, s3.heap.get? b = some o → h₁.get? b = some o := fun b o e => hsb.extBut b o (Nat.ne_of_lt (Heap.lt_size e)) (Heap.get?_push_of_some _ e)
      have J : Inv (lamCxP X (X.A.deeper (envOfC qg sg s.heap.objs.size g cdg)) (envOfC qg sg s.heap.objs.size g cdg :: X.stack) s3 H2 (fun _ _ _ => False) scope f c' p) [] (σ ++ [some v]) H2 { s3 with heap := h₁, toks := s3.toks + ([(p, u)] : List (Str × Value)).length } := lam_startP I L hpN I2.env0 hr.hd un hns kp r2
      exact PySem.W.kla_codeExpr (wpAny_mono ((hbody _ _ s3 H2 (hr.deeper _)).run [] _ _ H2 Q J hb) (fun v s' ⟨w', H', J', rv, q⟩ => ⟨w', H', J'.os, J'.bare, J'.base, J'.hok, rv, q⟩) fun e s' hq => hq)
    refine wpAny_call (codeAny_mono run fun r s' hq => ?_)
    match r, hq with
    | .error e, hq =>
      obtain ⟨_, _, _, _, _, _, _, _, _, _, _, _, _, _, _, _, z⟩ := hq
    | .ok (.ret u), hq => exact I2.after hq
    | .ok .next, hq | .ok .brk, hq | .ok .cont, hq => exact False.elim hq
end
/-- what a def makes of a value and a lambda of one parameter -/
def GivesP (X : Cx) (k : Nat) (Ng : List Str) (x : Str) (sg : Scope) (g : Addr) (cdg : Value) (bg : List Stmt) (a : Str) (q : Str) (TT : (V → Hp → VK → Prop) → V → Hp → VK → Prop) : Prop :=
  ∀ (f c' : Addr) (s : Shared) (H : Hp) (Q : VK) (v : V) (tl : V → Hp → VK → Prop),
    (∀ (e : Expr) (te : TE) (p1 p2 : Pos), (∀ env : Env, starEach [e] env = [(false, eval e env)]) → PE (cxOf C8.CX0 X.prog X.w X.K X.mg X.base Ng x sg g cdg X.A X.stack s H C8.E0).nox e te →
      PE (cxOf C8.CX0 X.prog X.w X.K X.mg X.base Ng x sg g cdg X.A X.stack s H C8.E0).nox (.Call (.Name a p1) [e] [] p2) (fun σZ HZ Q => σZ[1]? = some (some (.ref f)) ∧ te σZ HZ fun v H1 => H1 c' = some (CodeO c' q) ∧ tl v H1 Q)) →
    Room k (X.A.deeper (envOfC x sg s.heap.objs.size g cdg)) → H c' = some (CodeO c' q) → TT tl v H Q →
    ∃ t, PSs (cxOf C8.CX0 X.prog X.w X.K X.mg X.base Ng x sg g cdg X.A X.stack s H C8.E0).nox bg t ∧ t { nx := fun _ H' => Q .non H', rt := Q } (L2.start Ng [v, .ref f]) H
def tLamP (T : List (Addr × Str)) (TT : (V → Hp → VK → Prop) → V → Hp → VK → Prop) (te t : TE) : TE := fun σ H Q => te σ H fun v H0 => Tabs T H0 ∧ ∀ H1, ExtN H0 H1 → Tabs T H1 → TT (fun w H' Q' => t (σ ++ [some w]) H' Q') v H1 Q
/-- x(e, lambda p: body), x a def of the text -/
theorem pe_lamP {X : Cx} {K : PySem.W.Frag} {T : List (Addr × Str)} {TT : (V → Hp → VK → Prop) → V → Hp → VK → Prop} {x b0 a pl : Str} {g c P : Addr} {k : Nat} {st : Stmt} {fd : FuncData} {Ng : List Str} {params : Arguments} {body e : Expr} {scope : Scope} {te t : TE} {p lpos pos : Pos}
    (hK : X.K = K) (F : Fun K x x st g fd) (b : Binds K fd [b0, a] []) (hg : Gl X x) (hm : X.mg x = some (.ref g)) (Sg : FnScope Ng [b0, a] (defScope st)) (hNg : Ng[1]? = some a) (hva : Vis (defScope st) a)
    (hG : ∀ cdv, GivesP X (k + 1) Ng x (defScope st) g cdv (defBody st) a (X.env.qual ++ "<lambda>") TT) (TB : TabB X.base X.mg c P) (hcode : X.env.code = .ref c) (hmT : (P, X.env.qual ++ "<lambda>") ∈ T) (hu : ∀ p ∈ T, p.1 = P → p.2 = X.env.qual ++ "<lambda>") (hr : Room (k + 2) X.A)
    (L : LamP X.env.scope scope pl) (hpN : pl ∉ X.N) (hdef : defaultsOf params X.env = ([], [])) (hbind : ∀ (q : Str) (cl : List (Str × Addr)) (pm cv ctv u : Value), bindArgs (PySem.W.kla_fn "<lambda>" q params body scope cl pm cv ctv) ⟨[u], []⟩ = pure [(pl, u)])
    (hbody : ∀ (A : Around) (outer : List Env) (s : Shared) (H : Hp) (f c' : Addr), Room k (A.deeper (lamEnv X scope s.heap.objs.size f c')) → PE (lamCxP X A outer s H (fun _ _ _ => False) scope f c' pl) body t) (he : PE X e te)
    (hs : starEach [e, .Lambda params body scope lpos] X.env = (false, eval e X.env) :: starEach [.Lambda params body scope lpos] X.env := by rfl)
    (hdb : (x == ("__debug__" : Str)) = false := by decide) (hd : (a == ("__debug__" : Str)) = false := by decide) (hcd : (a == ("__classdict__" : Str)) = false := by decide) : PE X (.Call (.Name x p) [e, .Lambda params body scope lpos] [] pos) (tLamP T TT te t) := by
  subst hK
  obtain ⟨oc, od, kV, doc, pm, an, cdv, ct, osl, rfl, lk, hc⟩ := F.ex
  refine ⟨fun pp t0 τ G R J h => wpAny_Call_Name_kw (ld_glob J hg hm (PySem.W.callWith_K (h₀ := X.base) J.ok.mod.kin F.kp ?_ hs (by rfl)) hdb)⟩
  rw [hs]
  (show wpAny _ _ (spliced ((false, eval e X.env) :: backTo pos (starEach [.Lambda params body scope lpos] X.env))) _ _ t0)
  refine Calls.spliced_cons (thn (he.run pp t0 τ G _ J h) fun u0 t1 ⟨v0, H0, J0, r0, hT, h⟩ => ?_)
  (show wpAny _ _ (spliced ((false, eval (.Lambda params body scope lpos) X.env) :: backTo pos (starEach [] X.env))) _ _ t1)
  refine Calls.spliced_cons (lam_make2 J0 TB hcode hmT hu hT hdef (L.has J0.ok) fun f c' pm' ctv H1 s' I1 eN T1 hf hfn hfr hco => Calls.spliced_nil ⟨I1.kIn, ?_⟩)
  refine wpAny_call (codeAny_mono (LamX.run_ofS (N := Ng) (ps := [b0, a]) (us := [u0, .ref f]) (vs := [v0, .ref f]) (CX := C8.CX0) (E := C8.E0) (Q := R) lk hc Sg hr I1.env0 (b s' [u0, .ref f] I1.kIn rfl) (.cons r0 (.cons rfl .nil)) rfl fun hr' => ?_) fun r s2 hq => ?_)
  · obtain ⟨t', ht', hq'⟩ := hG cdv f c' s' H1 R v0 (fun w H' Q' => t (τ ++ [some w]) H' Q') (fun e2 te2 p1 p2 hs2 he2 => pe_actP (i := 1) I1 L hpN hf hfn hfr (hbind _ _ _ _ _) hr' (fun A outer s H hr2 => hbody A outer s H f c' hr2) hNg hva he2 hs2 hd hcd) hr' hco (h H1 eN T1)
    exact ⟨t', ht'.nox, hq'⟩
  · match r, hq with
    | .error e, hq => exact (show False from hq).elim
    | .ok (.ret u), hq => exact I1.after hq
    | .ok .next, hq | .ok .brk, hq | .ok .cont, hq => exact False.elim hq
end HX
set_option Elab.async false
set_option linter.all false
set_option maxRecDepth 100000
set_option maxHeartbeats 4400000
namespace HX
open L2 PyProof.Rows PySem.Spec PySem HT
section
variable {prog : Program} {w : PySem.World} {A : Around} {E : Value → Shared → Prop} {s : Shared}
theorem adjust_rev (n : Nat) : Builtin.Slice.sliceAdjust none none (-1) (n : Int) = ((n : Int) - 1, -1) := by
  unfold Builtin.Slice.sliceAdjust
  first | rfl | simp
theorem places_rev (n : Nat) : Builtin.Slice.slicePlaces ((n : Int) - 1) (-1) (-1) = n := by
  have e : Builtin.Slice.slicePlaces ((n : Int) - 1) (-1) (-1) = (if (n : Int) - 1 > -1 then ((n : Int) - 1 - (-1) - 1) / (1 : Int) + 1 else 0).toNat := rfl
  rw [e, Int.ediv_one]
  by_cases h : (n : Int) - 1 > -1
  · rw [if_pos h]; omega
  · rw [if_neg h]
    have : n = 0 := by omega
    rw [this]; rfl
theorem applied_rev {sl : Addr} {vk : Value} {n : Nat} {Q : Int × Int × Nat → Shared → Prop} (hs : s.heap.IsSliceOf sl .none .none vk) (pk : IsPart vk (some (-1)))
    (h : Q ((n : Int) - 1, -1, n) s) : wpAny (model prog w) A (Builtin.Slice.sliceApplied (.ref sl) (pure (n : Int))) Q E s := by
  obtain ⟨os, hos, hcs, hds⟩ := id hs
  unfold Builtin.Slice.sliceApplied Builtin.Slice.sliceFields
  refine wpAny_bind (wpAny_bind (wpAny_field hos hds (x := .none) rfl (wpAny_bind (wpAny_field hos hds (x := .none) rfl (wpAny_bind (wpAny_field hos hds (x := vk) rfl (wpAny_pure ?_)))))))
  refine wpAny_bind (slicePart_ pk ?_)
  show wpAny _ _ (if ((-1 : Int) == 0) = true then _ else _) _ _ s
  rw [if_neg (by decide)]
  refine wpAny_bind (slicePart_none (wpAny_bind (slicePart_none (wpAny_bind (wpAny_pure ?_)))))
  show wpAny _ _ (match Builtin.Slice.sliceAdjust none none (-1) (n : Int) with | (lo, hi) => pure (lo, (-1 : Int), Builtin.Slice.slicePlaces lo hi (-1))) _ _ s
  rw [adjust_rev]
  show wpAny _ _ (pure ((n : Int) - 1, (-1 : Int), Builtin.Slice.slicePlaces ((n : Int) - 1) (-1) (-1))) _ _ s
  rw [places_rev]
  exact wpAny_pure h
theorem pick_rev (xs : Array Value) : ((List.range xs.size).filterMap fun (m : Nat) => xs[(((xs.size : Int) - 1) + (m : Int) * (-1)).toNat]?).toArray = xs.toList.reverse.toArray := by
  have e : (fun (m : Nat) => xs[(((xs.size : Int) - 1) + (m : Int) * (-1)).toNat]?) = (fun k => xs[k]?) ∘ fun m => xs.size - 1 - m := by
    funext m
    have : (((xs.size : Int) - 1) + (m : Int) * (-1)).toNat = xs.size - 1 - m := by omega
    rw [this]; rfl
  rw [e, ← List.filterMap_map, PySem.W.krv_range, List.filterMap_reverse, PySem.W.krv_all]
theorem getItem_tuple_rev {t sl : Addr} {items : Array Value} {vk : Value} {Q : Value → Shared → Prop} (ht : IsTup s.heap t items) (hs : s.heap.IsSliceOf sl .none .none vk) (pk : IsPart vk (some (-1)))
    (h : Q (.ref s.heap.objs.size) { s with heap := s.heap.push { cls := .type "tuple", data := .seq items.toList.reverse.toArray } })
    (hsz : items.size ≤ sizeLine) : wpAny (model prog w) A (getItem (.ref t) (.ref sl)) Q E s := by
  have htake : sizeOk (.seq items.toList.reverse.toArray) := by
    show items.toList.reverse.toArray.size ≤ sizeLine
    rw [List.size_toArray, List.length_reverse, Array.length_toList]
    exact hsz
  obtain ⟨os, hos, hcs, hds⟩ := id hs
  have hTs : s.TypeIs (.ref sl) "slice" := ⟨os, hos, hcs⟩
  unfold getItem
  try with_reducible refine wpAny_holding ?_
  first | refine wpAny_bind (wpAny_pure ?_) | skip
  refine wpAny_bind (wpAny_sequenceKey ht.typeIs (by decide) ?_)
  refine wpAny_bind (wpAny_callSpecial?_slot (name := Str.ofString "__getitem__") ht.typeIs PyProof.Rows.slot_tuple_getitem
    (wpAny_call_entry PyProof.Rows.slot_tuple_getitem ht.typeIs entry_tuple_getitem ?_ (args_tuple_getitem _ _)))
  show wpAny _ _ (Builtin.Tuple.tupleItemsOf (.ref t) >>= _) _ _ s
  refine wpAny_bind (tupleItemsOf_ ht ?_)
  refine wpAny_bind (wpAny_typeOf hTs ?_)
  rw [if_pos (by decide)]
  refine wpAny_bind (applied_rev hs pk ?_)
  have hno : ¬ ((((items.size : Int) - 1 == 0 && (-1 : Int) == 1) && items.size == items.size) = true) := by
    intro q
    rw [Bool.and_eq_true, Bool.and_eq_true] at q
    have := q.1.2
    revert this; decide
  show wpAny _ _ (if (((items.size : Int) - 1 == 0 && (-1 : Int) == 1) && items.size == items.size) = true then _ else _) _ _ s
  rw [if_neg hno, pick_rev]
  first
    | exact wpAny_bind (m := Builtin.Tuple.tupleExact _) (wpAny_newObj_type (wpAny_pure ⟨_, rfl, wpAny_pure h⟩) htake)
    | exact wpAny_bind (m := Builtin.Tuple.tupleExact _) (wpAny_newObj_type (wpAny_bind (wpAny_pure (wpAny_pure ⟨_, rfl, wpAny_pure h⟩))) htake)
    | exact wpAny_bind (wpAny_bind (m := Builtin.Tuple.tupleExact _) (wpAny_newObj_type (wpAny_pure (wpAny_pure ⟨_, rfl, wpAny_pure h⟩)) htake))
    | exact wpAny_bind (wpAny_bind (m := Builtin.Tuple.tupleExact _) (wpAny_newObj_type (wpAny_pure ⟨_, rfl, wpAny_pure h⟩) htake))
end
section
variable {X : Cx} {e st : Expr} {te ts : TE} {p2 pos : Pos}
/-- t[::-1] -/
theorem pe_rev (he : PE X e te) (hk : PE X st ts) : PE X (.Subscript e (.Slice none none (some st) p2) pos) (fun σ H Q => te σ H fun x H1 => ts σ H1 fun k H2 => k = .int (-1) ∧ ∃ a xs, x = .ref a ∧ SqT X.K H2 a xs ∧ ∀ p, H2 p = none → Q (.ref p) (upd H2 p (.tup xs.reverse))) := by
  refine ⟨fun pins s σ H Q I h => ?_⟩
  refine Subscript_ (thn (he.run pins s σ H _ I h) fun v s1 ⟨x, H1, I1, r1, q1⟩ => ?_)
  refine wpAny_Slice ?_
  rw [evalPart_none]
  refine wpAny_pure (wpAny_pure ?_)
  rw [evalPart_some]
  refine thn (hk.run pins s1 σ H1 _ I1 q1) fun vk s3 ⟨k, H3, I3, pk, hk3, a, xs, ea, hx, q3⟩ => ?_
  subst hk3; subst ea
  obtain ⟨tk, rfl⟩ := pk
  obtain rfl : v = Value.ref a := r1
  have I4 : Inv X pins σ H3 { s3 with heap := s3.heap.push { cls := .type "slice", data := .fields #[.none, .none, .int (-1) tk] } } := I3.kept (t' := s3.toks) fun b ob q => Heap.get?_push_of_some _ q
  show wpAny (model X.prog X.w) X.A (subscriptTail e (.Slice none none (some st) p2) (.ref a) (.ref s3.heap.objs.size)) (EP X pins σ Q) X.xe { s3 with heap := s3.heap.push { cls := .type "slice", data := .fields #[.none, .none, .int (-1) tk] } }
  obtain ⟨its, r, ht, hz⟩ := I4.tuple hx
  refine tail_any (ops := [.ref a, .ref s3.heap.objs.size]) ht.typeIs PyProof.Rows.slot_tuple_getitem.lookup (getItem_tuple_rev ht (Heap.IsSliceOf.new ..) (.int _ _) ?_ (by rw [List.size_toArray]; rw [← r.length]; exact hz)) (by with_unfolding_all rfl)
  refine ⟨.ref _, _, I4.laid (t' := s3.toks) (o := .tup xs.reverse) (fun b ob q => Heap.get?_push_of_some _ q) (Nat.le_refl _) ?_, rfl, q3 _ (I4.hok.fresh (Nat.le_refl _))⟩
  exact ⟨by rw [List.length_reverse]; exact hz, _, r.reverse, IsTup.new _ _⟩
end
end HX
set_option Elab.async false
set_option linter.all false
set_option maxRecDepth 100000
set_option maxHeartbeats 4400000
namespace HX
open PySem
/-! what repr tells of small whole numbers, names and tuples of such tells them apart -/
abbrev ch (s : Str) : List Nat := s.cps.toList
theorem ch_app (a b : Str) : ch (a ++ b) = ch a ++ ch b := by
  show (a.cps ++ b.cps).toList = _
  rw [Array.toList_append]
def letters (z : Str) : Bool := (ch z).all fun c => decide (97 ≤ c) && decide (c ≤ 122)
mutual
def plainD : PyData → Bool
  | .int i => decide (0 ≤ i) && decide (i ≤ 9)
  | .str z => letters z
  | .tuple ds => plainAll ds
  | _ => false
def plainAll : List PyData → Bool
  | [] => true
  | d :: r => plainD d && plainAll r
end
theorem plainAll_mem : ∀ {ds : List PyData}, plainAll ds = true → ∀ d ∈ ds, plainD d = true
  | d :: r, h, x, hx => by
    obtain ⟨h1, h2⟩ := Bool.and_eq_true_iff.mp (show (plainD d && plainAll r) = true from h)
    rcases List.mem_cons.mp hx with e | e
    · rw [e]; exact h1
    · exact plainAll_mem h2 x e
theorem repr_letter : ∀ c : Nat, 97 ≤ c → c ≤ 122 → Builtin.Str.reprChar 39 c = [c] := by
  intro c h1 h2
  have : (List.range 123).all (fun c => !decide (97 ≤ c) || decide (Builtin.Str.reprChar 39 c = [c])) = true := by decide +kernel
  have q := List.all_eq_true.mp this c (List.mem_range.mpr (by omega))
  rw [Bool.or_eq_true] at q
  rcases q with q | q
  · simp at q; omega
  · exact of_decide_eq_true q
theorem ch_repr {z : Str} (h : letters z = true) : ch (reprText z) = 39 :: (ch z ++ [39]) := by
  have hq : reprQuote z = 39 := by
    unfold reprQuote
    have : z.cps.contains 39 = false := by
      rw [Bool.eq_false_iff]; intro q
      have q := Array.contains_iff_mem.mp q
      have := List.all_eq_true.mp h 39 (by simpa using q)
      revert this; decide
    rw [this]; rfl
  unfold reprText
  rw [hq]
  show ((z.cps.foldl (fun out c => out ++ (Builtin.Str.reprChar 39 c).toArray) #[39]).push 39).toList = _
  rw [Array.toList_push, ← Array.foldl_toList]
  have : ∀ (l : List Nat) (acc : Array Nat), (l.all fun c => decide (97 ≤ c) && decide (c ≤ 122)) = true → (l.foldl (fun out c => out ++ (Builtin.Str.reprChar 39 c).toArray) acc).toList = acc.toList ++ l := by
    intro l
    induction l with
    | nil => intro acc _; simp
    | cons c r ih =>
      intro acc hl
      rw [List.all_cons, Bool.and_eq_true, Bool.and_eq_true] at hl
      rw [List.foldl_cons, ih _ hl.2, repr_letter c (of_decide_eq_true hl.1.1) (of_decide_eq_true hl.1.2)]
      simp
  rw [this _ _ h]
  rfl
theorem ch_digit {i : Int} (h0 : 0 ≤ i) (h9 : i ≤ 9) : ch (PyData.int i).shown = [48 + i.toNat] := by
  have : (List.range 10).all (fun n => decide (ch (PyData.int (n : Int)).shown = [48 + n])) = true := by decide +kernel
  obtain ⟨n, rfl⟩ := Int.eq_ofNat_of_zero_le h0
  exact of_decide_eq_true (List.all_eq_true.mp this n (List.mem_range.mpr (by omega)))
/-- what stands behind the parts of a tuple -/
def bt : List PyData → List Nat
  | [] => [41]
  | [x] => ch x.shown ++ [41]
  | x :: y :: r => ch x.shown ++ 44 :: 32 :: bt (y :: r)
theorem ch_join : ∀ (x : PyData) (r : List PyData), ch (Str.join ", " (PyData.shownAll (x :: r))) ++ [41] = bt (x :: r)
  | x, [] => rfl
  | x, y :: r => by
    have ih := ch_join y r
    show ch (PyData.shown x ++ ", " ++ Str.join ", " (PyData.shownAll (y :: r))) ++ [41] = ch x.shown ++ 44 :: 32 :: bt (y :: r)
    rw [← ih, ch_app, ch_app]
    have : ch (((", " : String) : Str)) = [44, 32] := by decide +kernel
    rw [this]; simp
theorem ch_tuple0 : ch (PyData.tuple []).shown = [40, 41] := by decide +kernel
theorem ch_tuple1 (x : PyData) : ch (PyData.tuple [x]).shown = 40 :: (ch x.shown ++ [44, 41]) := by
  show ch (tupleText [x.shown]) = _
  unfold tupleText
  rw [ch_app, ch_app]
  rfl
theorem ch_tuple2 (x y : PyData) (r : List PyData) : ch (PyData.tuple (x :: y :: r)).shown = 40 :: bt (x :: y :: r) := by
  show ch (tupleText (PyData.shownAll (x :: y :: r))) = _
  unfold tupleText
  rw [ch_app, ch_app, ← ch_join]
  have : ((PyData.shownAll (x :: y :: r)).length == 1) = false := by
    show ((PyData.shown x :: PyData.shown y :: PyData.shownAll r).length == 1) = false
    simp
  rw [this]
  rfl
def PF (x : PyData) : Prop := ∀ y, plainD y = true → ∀ r1 r2 : List Nat, ch x.shown ++ r1 = ch y.shown ++ r2 → x = y ∧ r1 = r2
theorem str_split : ∀ {a b : List Nat} {r1 r2 : List Nat}, (a.all fun c => decide (97 ≤ c) && decide (c ≤ 122)) = true → (b.all fun c => decide (97 ≤ c) && decide (c ≤ 122)) = true → a ++ 39 :: r1 = b ++ 39 :: r2 → a = b ∧ r1 = r2
  | [], [], r1, r2, _, _, h => by simp at h; exact ⟨rfl, h⟩
  | [], c :: b, r1, r2, _, hb, h => by
    simp at h hb
    have := hb.1; omega
  | c :: a, [], r1, r2, ha, _, h => by
    simp at h ha
    have := ha.1; omega
  | c :: a, d :: b, r1, r2, ha, hb, h => by
    rw [List.all_cons, Bool.and_eq_true] at ha hb
    simp only [List.cons_append, List.cons.injEq] at h
    obtain ⟨e1, e2⟩ := str_split ha.2 hb.2 h.2
    exact ⟨by rw [h.1, e1], e2⟩
theorem bt_pf : ∀ {l1 l2 : List PyData} {r1 r2 : List Nat}, l1 ≠ [] → l2 ≠ [] → (∀ x ∈ l1, PF x) → plainAll l2 = true → bt l1 ++ r1 = bt l2 ++ r2 → l1 = l2 ∧ r1 = r2
  | [x], [y], r1, r2, _, _, hp, hl, h => by
    have hy : plainD y = true := plainAll_mem hl y (.head _)
    have h : (ch x.shown ++ [41]) ++ r1 = (ch y.shown ++ [41]) ++ r2 := h
    rw [List.append_assoc, List.append_assoc] at h
    obtain ⟨e, q⟩ := hp x (.head _) y hy _ _ h
    simp at q
    exact ⟨by rw [e], q⟩
  | [x], y :: z :: s, r1, r2, _, _, hp, hl, h => by
    have hy : plainD y = true := plainAll_mem hl y (.head _)
    have h : (ch x.shown ++ [41]) ++ r1 = (ch y.shown ++ 44 :: 32 :: bt (z :: s)) ++ r2 := h
    rw [List.append_assoc, List.append_assoc] at h
    obtain ⟨e, q⟩ := hp x (.head _) y hy _ _ h
    simp at q
  | x :: w :: t, [y], r1, r2, _, _, hp, hl, h => by
    have hy : plainD y = true := plainAll_mem hl y (.head _)
    have h : (ch x.shown ++ 44 :: 32 :: bt (w :: t)) ++ r1 = (ch y.shown ++ [41]) ++ r2 := h
    rw [List.append_assoc, List.append_assoc] at h
    obtain ⟨e, q⟩ := hp x (.head _) y hy _ _ h
    simp at q
  | x :: w :: t, y :: z :: s, r1, r2, _, _, hp, hl, h => by
    have hy : plainD y = true := plainAll_mem hl y (.head _)
    have h : (ch x.shown ++ 44 :: 32 :: bt (w :: t)) ++ r1 = (ch y.shown ++ 44 :: 32 :: bt (z :: s)) ++ r2 := h
    rw [List.append_assoc, List.append_assoc] at h
    obtain ⟨e, q⟩ := hp x (.head _) y hy _ _ h
    simp only [List.cons_append, List.cons.injEq, true_and] at q
    obtain ⟨e1, e2⟩ := bt_pf (l1 := w :: t) (l2 := z :: s) (by simp) (by simp) (fun u hu => hp u (.tail _ hu)) (Bool.and_eq_true_iff.mp (show (plainD y && plainAll (z :: s)) = true from hl)).2 q
    exact ⟨by rw [e, e1], e2⟩
/-- the first sign -/
theorem first_sign {y : PyData} (h : plainD y = true) : (∃ i : Int, y = .int i ∧ 0 ≤ i ∧ i ≤ 9 ∧ ch y.shown = [48 + i.toNat]) ∨ (∃ z : Str, y = .str z ∧ letters z = true ∧ ch y.shown = 39 :: (ch z ++ [39])) ∨ (∃ ds, y = .tuple ds ∧ plainAll ds = true) := by
  cases y with
  | int i =>
    obtain ⟨h1, h2⟩ := Bool.and_eq_true_iff.mp (show (decide (0 ≤ i) && decide (i ≤ 9)) = true from h)
    exact .inl ⟨i, rfl, of_decide_eq_true h1, of_decide_eq_true h2, ch_digit (of_decide_eq_true h1) (of_decide_eq_true h2)⟩
  | str z => exact .inr (.inl ⟨z, rfl, h, ch_repr h⟩)
  | tuple ds => exact .inr (.inr ⟨ds, rfl, h⟩)
  | none => cases h
  | bool b => cases h
  | list xs => cases h
  | dict kvs => cases h
theorem ch_tuple_head (ds : List PyData) : ∃ t, ch (PyData.tuple ds).shown = 40 :: t := by
  match ds with
  | [] => exact ⟨_, ch_tuple0⟩
  | [x] => exact ⟨_, ch_tuple1 x⟩
  | x :: y :: r => exact ⟨_, ch_tuple2 x y r⟩
theorem item_head {y : PyData} (h : plainD y = true) : ∃ c t, ch y.shown = c :: t ∧ c ≠ 41 := by
  rcases first_sign h with ⟨i, rfl, h0, h9, e⟩ | ⟨z, rfl, hz, e⟩ | ⟨ds, rfl, hd⟩
  · exact ⟨_, _, e, by omega⟩
  · exact ⟨_, _, e, by decide⟩
  · obtain ⟨t, e⟩ := ch_tuple_head ds
    exact ⟨_, _, e, by decide⟩
theorem wt_memL {d : PyData} : ∀ {ds : List PyData}, d ∈ ds → d.weight + 1 ≤ PyData.weightAll ds
  | x :: r, h => by
    simp only [PyData.weightAll]
    rcases List.mem_cons.mp h with e | e
    · subst e; omega
    · have := wt_memL e; omega
theorem tup_pf {ds : List PyData} (hds : plainAll ds = true) (hp : ∀ x ∈ ds, PF x) : PF (.tuple ds) := by
  intro y hy r1 r2 h
  rcases first_sign hy with ⟨i, rfl, h0, h9, e⟩ | ⟨z, rfl, hz, e⟩ | ⟨es, rfl, he⟩
  · obtain ⟨t, et⟩ := ch_tuple_head ds
    rw [et, e] at h
    simp only [List.cons_append, List.cons.injEq] at h
    omega
  · obtain ⟨t, et⟩ := ch_tuple_head ds
    rw [et, e] at h
    simp only [List.cons_append, List.cons.injEq] at h
    omega
  · match ds, es, hds, hp, he, h with
    | [], [], _, _, _, h =>
      simp only [ch_tuple0, List.cons_append, List.cons.injEq, List.nil_append, true_and] at h
      exact ⟨rfl, h⟩
    | [], [y], _, _, he, h =>
      obtain ⟨c, t, e1, e2⟩ := item_head (plainAll_mem he y (.head _))
      rw [ch_tuple0, ch_tuple1, e1] at h
      simp only [List.cons_append, List.cons.injEq, true_and] at h
      exact absurd h.1.symm e2
    | [], y :: y2 :: s, _, _, he, h =>
      obtain ⟨c, t, e1, e2⟩ := item_head (plainAll_mem he y (.head _))
      rw [ch_tuple0, ch_tuple2] at h
      have : bt (y :: y2 :: s) = ch y.shown ++ 44 :: 32 :: bt (y2 :: s) := rfl
      rw [this, e1] at h
      simp only [List.cons_append, List.cons.injEq, true_and] at h
      exact absurd h.1.symm e2
    | [x], [], hds, hp, _, h =>
      obtain ⟨c, t, e1, e2⟩ := item_head (plainAll_mem hds x (.head _))
      rw [ch_tuple0, ch_tuple1, e1] at h
      simp only [List.cons_append, List.cons.injEq, true_and] at h
      exact absurd h.1 e2
    | [x], [y], _, hp, he, h =>
      rw [ch_tuple1, ch_tuple1] at h
      simp only [List.cons_append, List.cons.injEq, true_and, List.append_assoc, List.nil_append] at h
      obtain ⟨e, q⟩ := hp x (.head _) y (plainAll_mem he y (.head _)) _ _ h
      simp only [List.cons.injEq, true_and] at q
      exact ⟨by rw [e], q⟩
    | [x], y :: y2 :: s, _, hp, he, h =>
      rw [ch_tuple1, ch_tuple2] at h
      have e3 : bt (y :: y2 :: s) = ch y.shown ++ 44 :: 32 :: bt (y2 :: s) := rfl
      rw [e3] at h
      simp only [List.cons_append, List.cons.injEq, true_and, List.append_assoc, List.nil_append] at h
      obtain ⟨e, q⟩ := hp x (.head _) y (plainAll_mem he y (.head _)) _ _ h
      simp at q
    | x :: x2 :: t, [], hds, hp, he, h =>
      obtain ⟨c, t2, e1, e2⟩ := item_head (plainAll_mem hds x (.head _))
      rw [ch_tuple0, ch_tuple2] at h
      have : bt (x :: x2 :: t) = ch x.shown ++ 44 :: 32 :: bt (x2 :: t) := rfl
      rw [this, e1] at h
      simp only [List.cons_append, List.cons.injEq, true_and] at h
      exact absurd h.1 e2
    | x :: x2 :: t, [y], _, hp, he, h =>
      rw [ch_tuple1, ch_tuple2] at h
      have e3 : bt (x :: x2 :: t) = ch x.shown ++ 44 :: 32 :: bt (x2 :: t) := rfl
      rw [e3] at h
      simp only [List.cons_append, List.cons.injEq, true_and, List.append_assoc, List.nil_append] at h
      obtain ⟨e, q⟩ := hp x (.head _) y (plainAll_mem he y (.head _)) _ _ h
      simp at q
    | x :: x2 :: t, y :: y2 :: s, _, hp, he, h =>
      rw [ch_tuple2, ch_tuple2] at h
      simp only [List.cons_append, List.cons.injEq, true_and] at h
      obtain ⟨e1, e2⟩ := bt_pf (by simp) (by simp) hp he h
      exact ⟨by rw [e1], e2⟩
theorem shown_pf : ∀ (n : Nat) (x : PyData), x.weight < n → plainD x = true → PF x := by
  intro n
  induction n with
  | zero => intro x hw; exact absurd hw (Nat.not_lt_zero _)
  | succ n ih =>
    intro x hw hx
    rcases first_sign hx with ⟨i, rfl, h0, h9, e⟩ | ⟨z, rfl, hz, e⟩ | ⟨ds, rfl, hd⟩
    · intro y hy r1 r2 h
      rcases first_sign hy with ⟨j, rfl, k0, k9, f⟩ | ⟨z2, rfl, hz2, f⟩ | ⟨es, rfl, he⟩
      · rw [e, f] at h
        simp only [List.cons_append, List.cons.injEq, List.nil_append] at h
        have : i = j := by omega
        exact ⟨by rw [this], h.2⟩
      · rw [e, f] at h
        simp only [List.cons_append, List.cons.injEq] at h
        omega
      · obtain ⟨t, et⟩ := ch_tuple_head es
        rw [e, et] at h
        simp only [List.cons_append, List.cons.injEq] at h
        omega
    · intro y hy r1 r2 h
      rcases first_sign hy with ⟨j, rfl, k0, k9, f⟩ | ⟨z2, rfl, hz2, f⟩ | ⟨es, rfl, he⟩
      · rw [e, f] at h
        simp only [List.cons_append, List.cons.injEq] at h
        omega
      · rw [e, f] at h
        simp only [List.cons_append, List.cons.injEq, List.append_assoc, List.nil_append, true_and] at h
        obtain ⟨e1, e2⟩ := str_split hz hz2 h
        have : z = z2 := by
          have e3 : z.cps = z2.cps := Array.ext' e1
          cases z; cases z2; simp_all
        exact ⟨by rw [this], e2⟩
      · obtain ⟨t, et⟩ := ch_tuple_head es
        rw [e, et] at h
        simp only [List.cons_append, List.cons.injEq] at h
        omega
    · refine tup_pf hd fun y hy => ih y ?_ (plainAll_mem hd y hy)
      have := wt_memL hy
      have e : (PyData.tuple ds).weight = PyData.weightAll ds := by simp only [PyData.weight]
      omega
/-- repr tells such data apart -/
theorem shown_one {x y : PyData} (hx : plainD x = true) (hy : plainD y = true) (h : x.shown = y.shown) : x = y :=
  (shown_pf _ x (Nat.lt_succ_self _) hx y hy [] [] (by rw [h])).1
end HX
set_option Elab.async false
set_option linter.all false
set_option maxRecDepth 100000
set_option maxHeartbeats 4400000
namespace HX
open L2 PyProof.Rows PySem.Spec PySem
/-! written data, and what is made of it: with its very data; p and l stand in none of it -/
def D2 (p l : Addr) (H : Hp) (v : V) (d : PyData) : Prop := Dz p H v d ∧ Dz l H v d
theorem D2.ex {p l : Addr} {H H' : Hp} {v : V} {d : PyData} (h : D2 p l H v d) (e : Ex H H') : D2 p l H' v d := ⟨h.1.ex e, h.2.ex e⟩
def Gd (p l : Addr) (H0 : Hp) (σ : L2.St) (te : TE) (d : PyData) : Prop := ∀ (H : Hp) (Q : VK), Ex H0 H → (∀ v H', Ex H H' → D2 p l H' v d → Q v H') → te σ H Q
/-- values with their data, one by one -/
def Vd (p l : Addr) (H : Hp) (xs : List V) (ds : List PyData) : Prop := xs.length = ds.length ∧ ∀ (i : Nat) (v : V) (d : PyData), xs[i]? = some v → ds[i]? = some d → D2 p l H v d
def GdA (p l : Addr) (H0 : Hp) (σ : L2.St) (t : TA) (ds : List PyData) : Prop := ∀ (H : Hp) (Q : List V → Hp → Prop), Ex H0 H → (∀ xs H', Ex H H' → Vd p l H' xs ds → Q xs H') → t σ H Q
/-- a list of such stands at v, apart from p -/
def LsAt (p l : Addr) (H : Hp) (v : V) (ds : List PyData) : Prop := ∃ a xs, v = .ref a ∧ a ≠ p ∧ a ≠ l ∧ H a = some (.lst xs) ∧ Vd p l H xs ds
def GdL (p l : Addr) (H0 : Hp) (σ : L2.St) (te : TE) (ds : List PyData) : Prop := ∀ (H : Hp) (Q : VK), Ex H0 H → (∀ v H', Ex H H' → LsAt p l H' v ds → Q v H') → te σ H Q
theorem Vd.ex {p l : Addr} {H H' : Hp} {xs : List V} {ds : List PyData} (h : Vd p l H xs ds) (e : Ex H H') : Vd p l H' xs ds := ⟨h.1, fun i v d a b => (h.2 i v d a b).ex e⟩
theorem LsAt.ex {p l : Addr} {H H' : Hp} {v : V} {ds : List PyData} (h : LsAt p l H v ds) (e : Ex H H') : LsAt p l H' v ds := let ⟨a, xs, h1, h2, h2', h3, h4⟩ := h; ⟨a, xs, h1, h2, h2', e _ _ h3, h4.ex e⟩
theorem Vd.app {p l : Addr} {H : Hp} {xs ys : List V} {ds es : List PyData} (h : Vd p l H xs ds) (k : Vd p l H ys es) : Vd p l H (xs ++ ys) (ds ++ es) := by
  refine ⟨by rw [List.length_append, List.length_append, h.1, k.1], fun i v d a b => ?_⟩
  by_cases hi : i < xs.length
  · rw [List.getElem?_append_left hi] at a
    rw [List.getElem?_append_left (by rw [← h.1]; exact hi)] at b
    exact h.2 i v d a b
  · rw [List.getElem?_append_right (Nat.le_of_not_lt hi)] at a
    rw [List.getElem?_append_right (by rw [← h.1]; exact Nat.le_of_not_lt hi), ← h.1] at b
    exact k.2 _ v d a b
theorem Vd.mem {p l : Addr} {H : Hp} {xs : List V} {ds : List PyData} (h : Vd p l H xs ds) {i : Nat} {v : V} (hv : xs[i]? = some v) : ∃ d ∈ ds, D2 p l H v d := by
  have hj := (List.getElem?_eq_some_iff.mp hv).1
  have hd : ds[i]? = some (ds[i]'(by rw [← h.1]; exact hj)) := List.getElem?_eq_getElem _
  exact ⟨_, List.getElem_mem _, h.2 i v _ hv hd⟩
theorem Vd.rev {p l : Addr} {H : Hp} {xs : List V} {ds : List PyData} (h : Vd p l H xs ds) : Vd p l H xs.reverse ds.reverse := by
  refine ⟨by rw [List.length_reverse, List.length_reverse, h.1], fun i v d a b => ?_⟩
  have hi : i < xs.length := by have := (List.getElem?_eq_some_iff.mp a).1; rw [List.length_reverse] at this; exact this
  rw [List.getElem?_reverse hi] at a
  rw [List.getElem?_reverse (by rw [← h.1]; exact hi), ← h.1] at b
  exact h.2 _ v d a b
theorem Vd.drop {p l : Addr} {H : Hp} {xs : List V} {ds : List PyData} (h : Vd p l H xs ds) (k : Nat) : Vd p l H (xs.drop k) (ds.drop k) :=
  ⟨by rw [List.length_drop, List.length_drop, h.1], fun i v d a b => by rw [List.getElem?_drop] at a b; exact h.2 _ v d a b⟩
theorem Vd.take {p l : Addr} {H : Hp} {xs : List V} {ds : List PyData} (h : Vd p l H xs ds) (k : Nat) : Vd p l H (xs.take k) (ds.take k) :=
  ⟨by rw [List.length_take, List.length_take, h.1], fun i v d a b => by
    rw [List.getElem?_take] at a b
    by_cases q : i < k
    · rw [if_pos q] at a b; exact h.2 _ v d a b
    · rw [if_neg q] at a; cases a⟩
theorem D2.vd {p l : Addr} {H : Hp} {v : V} {ds : List PyData} (h : D2 p l H v (.tuple ds)) : ∃ a xs, v = .ref a ∧ H a = some (.tup xs) ∧ Vd p l H xs ds := by
  obtain ⟨h1, h2⟩ := h
  cases h1 with
  | tup e1 hl hi =>
    cases h2 with
    | tup e2 hl2 hi2 =>
      rw [e1] at e2
      cases e2
      exact ⟨_, _, rfl, e1, hl, fun i v d a b => ⟨hi i v d a b, hi2 i v d a b⟩⟩
theorem Vd.tup {p l a : Addr} {H : Hp} {xs : List V} {ds : List PyData} (h : Vd p l H xs ds) (ha : H a = some (.tup xs)) : D2 p l H (.ref a) (.tuple ds) := ⟨.tup ha h.1 fun i v d a b => (h.2 i v d a b).1, .tup ha h.1 fun i v d a b => (h.2 i v d a b).2⟩
section
variable {p l : Addr} {H0 : Hp} {σ : L2.St} {K : PySem.W.Frag}
theorem gd_non : Gd p l H0 σ (tC .non) .none := fun H Q _ k => k _ _ (Ex.rf _) ⟨.non, .non⟩
theorem gd_bl (b : Bool) : Gd p l H0 σ (tC (.bl b)) (.bool b) := fun H Q _ k => k _ _ (Ex.rf _) ⟨.bl b, .bl b⟩
theorem gd_int (i : Int) : Gd p l H0 σ (tC (.int i)) (.int i) := fun H Q _ k => k _ _ (Ex.rf _) ⟨.int i, .int i⟩
theorem gd_str (z : Str) : Gd p l H0 σ (tC (.str z)) (.str z) := fun H Q _ k => k _ _ (Ex.rf _) ⟨.str z, .str z⟩
theorem gd_var {i : Nat} {v : V} {d : PyData} (hv : σ[i]? = some (some v)) (hz : D2 p l H0 v d) : Gd p l H0 σ (tVar i) d := fun H Q e k => ⟨v, hv, k v H (Ex.rf _) (hz.ex e)⟩
theorem gda_nil : GdA p l H0 σ tNil [] := fun H Q _ k => k [] H (Ex.rf _) ⟨rfl, fun i v d a _ => by cases a⟩
theorem gda_cons {te : TE} {t : TA} {d : PyData} {ds : List PyData} (h : Gd p l H0 σ te d) (k : GdA p l H0 σ t ds) : GdA p l H0 σ (tCons te t) (d :: ds) := fun H Q e q =>
  h H _ e fun v H1 e1 z => k H1 _ (e.tr e1) fun xs H2 e2 y => q _ _ (e1.tr e2) ⟨by rw [List.length_cons, List.length_cons, y.1], fun i v' d' a b => by
    cases i with
    | zero => cases a; cases b; exact z.ex e2
    | succ n => exact y.2 n v' d' a b⟩
theorem lt_line {n : Nat} (h : n < 1000) : n ≤ sizeLine := Nat.le_of_lt (Nat.lt_of_lt_of_le h (by decide))
theorem gd_tup {t : TA} {ds : List PyData} (h : GdA p l H0 σ t ds) (hn : ds.length < 1000 := by first | decide | (simp; done) | omega) : Gd p l H0 σ (tTup t) (.tuple ds) := fun H Q e k =>
  h H _ e fun xs H1 e1 y => ⟨by rw [y.1]; exact lt_line hn, fun q nq => k _ _ (e1.tr (Ex.nw nq)) ((y.ex (Ex.nw nq)).tup upd_same)⟩
theorem gd_dict : Gd p l H0 σ tDNewK (.dict []) := fun H Q e k q nq => k _ _ (Ex.nw nq) ⟨.dct (ks := []) (ds := []) upd_same rfl (fun i v d a _ => by cases a), .dct (ks := []) (ds := []) upd_same rfl (fun i v d a _ => by cases a)⟩
variable (hp : (∃ o, H0 p = some o) ∧ ∃ o, H0 l = some o)
include hp
theorem ne_p {H : Hp} {q : Addr} (e : Ex H0 H) (nq : H q = none) : q ≠ p ∧ q ≠ l := by
  obtain ⟨⟨o, h⟩, o', h'⟩ := hp
  exact ⟨fun z => (by rw [z, e _ _ h] at nq; cases nq), fun z => (by rw [z, e _ _ h'] at nq; cases nq)⟩
theorem d2_lst {H : Hp} {q : Addr} {xs : List V} {ds : List PyData} (e : Ex H0 H) (nq : H q = none) (ns : q ≠ sysModules) (y : Vd p l H xs ds) : D2 p l (upd H q (.lst xs)) (.ref q) (.list ds) :=
  let ⟨n1, n2⟩ := ne_p hp e nq
  ⟨.lst upd_same ns n1 y.1 fun i v d a b => (y.2 i v d a b).1.ex (Ex.nw nq), .lst upd_same ns n2 y.1 fun i v d a b => (y.2 i v d a b).2.ex (Ex.nw nq)⟩
theorem gd_lst {t : TA} {ds : List PyData} (h : GdA p l H0 σ t ds) (hn : ds.length < 1000 := by first | decide | (simp; done) | omega) : Gd p l H0 σ (tLstN t) (.list ds) := fun H Q e k =>
  h H _ e fun xs H1 e1 y => ⟨by rw [y.1]; exact lt_line hn, fun q nq ns => k _ _ (e1.tr (Ex.nw nq)) (d2_lst hp (e.tr e1) nq ns y)⟩
theorem gdl_lst {t : TA} {ds : List PyData} (h : GdA p l H0 σ t ds) (hn : ds.length < 1000 := by first | decide | (simp; done) | omega) : GdL p l H0 σ (tLstN t) ds := fun H Q e k =>
  h H _ e fun xs H1 e1 y => ⟨by rw [y.1]; exact lt_line hn, fun q nq ns => k _ _ (e1.tr (Ex.nw nq)) ⟨q, xs, rfl, (ne_p hp (e.tr e1) nq).1, (ne_p hp (e.tr e1) nq).2, upd_same, y.ex (Ex.nw nq)⟩⟩
omit hp in
theorem gdl_var {i : Nat} {v : V} {ds : List PyData} (hv : σ[i]? = some (some v)) (hz : LsAt p l H0 v ds) : GdL p l H0 σ (tVar i) ds := fun H Q e k => ⟨v, hv, k v H (Ex.rf _) (hz.ex e)⟩
theorem gdl_cat {te tf : TE} {ds es : List PyData} (h : GdL p l H0 σ te ds) (k : GdL p l H0 σ tf es) (hn : ds.length + es.length < 1000) : GdL p l H0 σ (tOp rCat te tf) (ds ++ es) := fun H Q e q =>
  h H _ e fun v H1 e1 z => k H1 _ (e.tr e1) fun u H2 e2 y => by
    obtain ⟨a, xs, rfl, na, na', ha, va⟩ := z.ex e2
    obtain ⟨b, ys, rfl, nb, nb', hb, vb⟩ := y
    refine ⟨a, b, xs, ys, rfl, rfl, ha, hb, by rw [va.1, vb.1]; exact lt_line hn, fun c nc => q _ _ ((e1.tr e2).tr (Ex.nw nc)) ⟨c, _, rfl, (ne_p hp ((e.tr e1).tr e2) nc).1, (ne_p hp ((e.tr e1).tr e2) nc).2, upd_same, (va.app vb).ex (Ex.nw nc)⟩⟩
theorem gdl_twice {te : TE} {ds : List PyData} (h : GdL p l H0 σ te ds) (hn : ds.length < 400) : GdL p l H0 σ (tOp rRepN te (tC (.int 2))) (ds ++ ds) := fun H Q e q =>
  h H _ e fun v H1 e1 z => by
    obtain ⟨a, xs, rfl, na, na', ha, va⟩ := z
    refine ⟨a, 2, xs, rfl, rfl, ha, by decide, by decide, ?_, fun c nc _ => ?_⟩
    · show xs.length * 2 ≤ sizeLine
      rw [va.1]; exact lt_line (by omega)
    have er : (List.replicate (2 : Int).toNat xs).flatten = xs ++ xs := by
      show (List.replicate 2 xs).flatten = xs ++ xs
      simp [List.replicate]
    rw [er]
    exact q _ _ (e1.tr (Ex.nw nc)) ⟨c, _, rfl, (ne_p hp (e.tr e1) nc).1, (ne_p hp (e.tr e1) nc).2, upd_same, (va.app va).ex (Ex.nw nc)⟩
theorem gd_listof {te : TE} {ds : List PyData} (h : Gd p l H0 σ te (.tuple ds)) : Gd p l H0 σ (tCB (rListN K) (tCons te tNil)) (.list ds) := fun H Q e q =>
  h H _ e fun v H1 e1 z => by
    obtain ⟨a, xs, rfl, ha, va⟩ := z.vd
    exact ⟨a, xs, rfl, .inr (SqT.of ha), fun c nc ns => q _ _ (e1.tr (Ex.nw nc)) (d2_lst hp (e.tr e1) nc ns va)⟩
omit hp
theorem gd_catT {te tf : TE} {ds es : List PyData} (h : Gd p l H0 σ te (.tuple ds)) (k : Gd p l H0 σ tf (.tuple es)) (hn : ds.length + es.length < 1000) : Gd p l H0 σ (tOp (rCatA K) te tf) (.tuple (ds ++ es)) := fun H Q e q =>
  h H _ e fun v H1 e1 z => k H1 _ (e.tr e1) fun u H2 e2 y => by
    obtain ⟨a, xs, rfl, ha, va⟩ := (z.ex e2).vd
    obtain ⟨b, ys, rfl, hb, vb⟩ := y.vd
    refine ⟨a, b, xs, ys, rfl, rfl, SqT.of ha, SqT.of hb, by rw [va.1, vb.1]; exact lt_line hn, fun h0 => q _ _ (e1.tr e2) ?_, fun h0 h1 => q _ _ (e1.tr e2) ?_, fun h0 h1 l nl => q _ _ ((e1.tr e2).tr (Ex.nw nl)) (((va.app vb).ex (Ex.nw nl)).tup upd_same)⟩
    · have : ds = [] := List.eq_nil_of_length_eq_zero (by rw [← va.1, h0]; rfl)
      rw [this]; exact vb.tup hb
    · have : es = [] := List.eq_nil_of_length_eq_zero (by rw [← vb.1, h1]; rfl)
      rw [this, List.append_nil]; exact va.tup ha
/-- the items of a slice -/
def cutD (ds : List PyData) (lo hi : Option Int) : List PyData := (ds.drop (HT.sIx ds.length 0 lo)).take (HT.sIx ds.length ds.length hi - HT.sIx ds.length 0 lo)
theorem cut_sl {H : Hp} {v : V} {ds : List PyData} {lo hi : Option Int} {Q : VK} (z : D2 p l H v (.tuple ds)) (q : ∀ v H', Ex H H' → D2 p l H' v (.tuple (cutD ds lo hi)) → Q v H') : rSlA K v lo hi H Q := by
  obtain ⟨a, xs, rfl, ha, va⟩ := z.vd
  refine ⟨a, xs, rfl, SqT.of ha, fun h => q _ _ (Ex.rf _) ?_, fun h c nc => q _ _ (Ex.nw nc) ?_⟩
  · have : cutD ds lo hi = ds := by
      unfold cutD
      rw [← va.1, h.1, h.2, List.drop_zero, Nat.sub_zero, va.1, List.take_length]
    rw [this]; exact va.tup ha
  · have : Vd p l H (cutV xs lo hi) (cutD ds lo hi) := by
      unfold cutV cutD
      rw [va.1]
      exact (va.drop _).take _
    exact (this.ex (Ex.nw nc)).tup upd_same
theorem gd_upto {te : TE} {ds : List PyData} {k : Int} (h : Gd p l H0 σ te (.tuple ds)) : Gd p l H0 σ (tSl (rSlA K) te tNoPart (tPart (tC (.int k)))) (.tuple (cutD ds none (some k))) := fun H Q e q =>
  h H _ e fun v H1 e1 z => ⟨k, rfl, cut_sl z fun v H' e' z' => q _ _ (e1.tr e') z'⟩
theorem gd_from {te : TE} {ds : List PyData} {k : Int} (h : Gd p l H0 σ te (.tuple ds)) : Gd p l H0 σ (tSl (rSlA K) te (tPart (tC (.int k))) tNoPart) (.tuple (cutD ds (some k) none)) := fun H Q e q =>
  h H _ e fun v H1 e1 z => ⟨k, rfl, cut_sl z fun v H' e' z' => q _ _ (e1.tr e') z'⟩
end
/-! data of a bounded weight -/
structure Pz (n : Nat) (d : PyData) : Prop where
  sh : d.showable = true
  dp : d.depth ≤ 8
  lv : d.leavesShort 24 = true
  wt : d.weight ≤ n
structure PzL (n : Nat) (ds : List PyData) : Prop where
  sh : PyData.showableAll ds = true
  dp : PyData.depthAll ds ≤ 7
  lv : PyData.leavesShortAll 24 ds = true
  wt : PyData.weightAll ds ≤ n
def pzB (n : Nat) (d : PyData) : Bool := d.showable && (decide (d.depth ≤ 8) && (d.leavesShort 24 && decide (d.weight ≤ n)))
theorem pz_by {n : Nat} {d : PyData} (h : pzB n d = true) : Pz n d := by
  unfold pzB at h
  simp only [Bool.and_eq_true, decide_eq_true_eq] at h
  exact ⟨h.1, h.2.1, h.2.2.1, h.2.2.2⟩
theorem Pz.up {n m : Nat} {d : PyData} (h : Pz n d) (e : n ≤ m) : Pz m d := ⟨h.sh, h.dp, h.lv, Nat.le_trans h.wt e⟩
theorem Pz.tup {n : Nat} {ds : List PyData} (h : Pz n (.tuple ds)) : PzL n ds :=
  ⟨by have := h.sh; simpa only [PyData.showable] using this, by have := h.dp; simp only [PyData.depth] at this; omega, by have := h.lv; simpa only [PyData.leavesShort] using this, by have := h.wt; simpa only [PyData.weight] using this⟩
theorem PzL.tup {n : Nat} {ds : List PyData} (h : PzL n ds) : Pz n (.tuple ds) :=
  ⟨by simp only [PyData.showable]; exact h.sh, by simp only [PyData.depth]; have := h.dp; omega, by simp only [PyData.leavesShort]; exact h.lv, by simp only [PyData.weight]; exact h.wt⟩
theorem PzL.lst {n : Nat} {ds : List PyData} (h : PzL n ds) : Pz n (.list ds) :=
  ⟨by simp only [PyData.showable]; exact h.sh, by simp only [PyData.depth]; have := h.dp; omega, by simp only [PyData.leavesShort]; exact h.lv, by simp only [PyData.weight]; exact h.wt⟩
theorem PzL.up {n m : Nat} {ds : List PyData} (h : PzL n ds) (e : n ≤ m) : PzL m ds := ⟨h.sh, h.dp, h.lv, Nat.le_trans h.wt e⟩
theorem pzl_nil (n : Nat) : PzL n [] := ⟨rfl, Nat.zero_le _, rfl, Nat.zero_le _⟩
theorem pzl_cons {n : Nat} {d : PyData} {ds : List PyData} : PzL n (d :: ds) ↔ (d.showable = true ∧ d.depth ≤ 7 ∧ d.leavesShort 24 = true) ∧ ∃ m, PzL m ds ∧ d.weight + 1 + m ≤ n := by
  constructor
  · rintro ⟨h1, h2, h3, h4⟩
    simp only [PyData.showableAll, PyData.depthAll, PyData.leavesShortAll, PyData.weightAll, Bool.and_eq_true] at h1 h2 h3 h4
    exact ⟨⟨h1.1, by omega, h3.1⟩, PyData.weightAll ds, ⟨h1.2, by omega, h3.2, Nat.le_refl _⟩, h4⟩
  · rintro ⟨⟨h1, h2, h3⟩, m, ⟨k1, k2, k3, k4⟩, h4⟩
    refine ⟨?_, ?_, ?_, ?_⟩
    · simp only [PyData.showableAll, h1, k1, Bool.and_self]
    · simp only [PyData.depthAll]; omega
    · simp only [PyData.leavesShortAll, h3, k3, Bool.and_self]
    · simp only [PyData.weightAll]; omega
theorem PzL.app : ∀ {n m : Nat} {ds es : List PyData}, PzL n ds → PzL m es → PzL (n + m) (ds ++ es)
  | n, m, [], es, _, k => k.up (Nat.le_add_left _ _)
  | n, m, d :: ds, es, h, k => by
    obtain ⟨h1, j, h2, h3⟩ := pzl_cons.mp h
    exact pzl_cons.mpr ⟨h1, j + m, h2.app k, by omega⟩
theorem PzL.drop : ∀ {n : Nat} {ds : List PyData} (k : Nat), PzL n ds → PzL n (ds.drop k)
  | n, ds, 0, h => h
  | n, [], k + 1, h => h
  | n, d :: ds, k + 1, h => by
    obtain ⟨h1, j, h2, h3⟩ := pzl_cons.mp h
    exact (h2.drop k).up (by omega)
theorem PzL.take : ∀ {n : Nat} {ds : List PyData} (k : Nat), PzL n ds → PzL n (ds.take k)
  | n, ds, 0, h => pzl_nil _
  | n, [], k + 1, h => h
  | n, d :: ds, k + 1, h => by
    obtain ⟨h1, j, h2, h3⟩ := pzl_cons.mp h
    exact pzl_cons.mpr ⟨h1, j, h2.take k, h3⟩
theorem PzL.rev : ∀ {n : Nat} {ds : List PyData}, PzL n ds → PzL n ds.reverse
  | n, [], h => h
  | n, d :: ds, h => by
    obtain ⟨h1, j, h2, h3⟩ := pzl_cons.mp h
    rw [List.reverse_cons]
    exact (h2.rev.app (pzl_cons.mpr ⟨h1, 0, pzl_nil 0, Nat.le_refl _⟩)).up (by omega)
theorem PzL.cut {n : Nat} {ds : List PyData} (h : PzL n ds) (lo hi : Option Int) : PzL n (cutD ds lo hi) := (h.drop _).take _
theorem PzL.len : ∀ {n : Nat} {ds : List PyData}, PzL n ds → ds.length ≤ n
  | n, [], _ => Nat.zero_le _
  | n, d :: ds, h => by
    obtain ⟨h1, j, h2, h3⟩ := pzl_cons.mp h
    have := h2.len
    rw [List.length_cons]; omega
theorem Pz.wt2 {n m : Nat} {d : PyData} (h : Pz n d) (e : n ≤ m) : Wt m d := Nat.le_trans h.wt e
theorem Pz.fz {n : Nat} {d : PyData} (h : Pz n d) (hn : n ≤ 5000) : d.showable = true ∧ d.depth ≤ 60 ∧ d.shown.length ≤ sizeLine := by
  refine ⟨h.sh, Nat.le_trans h.dp (by decide), ?_⟩
  have a := PyData.shown_le 24 (by decide) d h.lv
  have b := h.wt
  have : (24 + 2) * d.weight + 24 ≤ 26 * 5000 + 24 := by omega
  exact Nat.le_trans a (Nat.le_trans this (by decide))
end HX
set_option Elab.async false
set_option linter.all false
set_option maxRecDepth 100000
set_option maxHeartbeats 4400000
namespace HX
open L2 PyProof.Rows PySem.Spec PySem
section
variable {X : Cx} {CXX : CXT} {kk : Nat} {ff CC : Addr} {fdd : FuncData} {pps : List Str} {spp : Sp} {dws : List V} {dds : List Value} {EE : L2.St → XK} {xx : Str} {q1 q2 : Pos} {ee : Expr} {ees : List Expr} {tt : TA}
/-- C(..), what leaves told with the names' values at the call -/
def tMakeS (C : Addr) (spp : Sp) (dws : List V) (EE : L2.St → XK) (tt : TA) : TE := fun τ G R => tt τ G fun ws G1 => ∀ (x dx : Addr), G1 x = none → G1 dx = none → dx ≠ x →
  spp (.ref x :: (ws ++ dws)) (upd (upd G1 dx (.own x)) x (.ins C dx [])) (fun v G2 => v = .non ∧ R (.ref x) G2) (EE τ)
theorem pe_makeS (M : Mk X.K CC ff) (F : FnOk X.prog X.w X.K X.mg X.base CXX kk ff fdd pps spp) (room : Room (kk + 1) X.A) (gx : Gl X xx) (mx : X.mg xx = some (.ref CC)) (bx : Binds X.K fdd pps dds) (dv : Vals dws dds) (away : ∀ τ, PassesAt CXX X τ (EE τ))
    (args : PA X (ee :: ees) tt) (nd : (xx == ("__debug__" : Str)) = false := by decide) (st : starEach (ee :: ees) X.env = (false, eval ee X.env) :: starEach ees X.env := by rfl) (pl : (backTo q2 (starEach ees X.env)).any (·.1) = false := by rfl) :
    PE X (.Call (.Name xx q1) (ee :: ees) [] q2) (tMakeS CC spp dws EE tt) := ⟨fun pp t0 τ G R J hh => wpAny_Call_Name_kw (ld_glob J gx mx (PySem.W.callWith_K (h₀ := X.base) J.ok.mod.kin M.kp (thn (args.run q2 pp t0 τ G _ J hh) fun us t1 ⟨ws, G1, J1, ru, qu⟩ => ⟨J1.kIn, by
      have new := qu (t1.heap.objs.size + 1) t1.heap.objs.size (J1.hok.fresh (Nat.le_succ _)) (J1.hok.fresh (Nat.le_refl _)) (Nat.ne_of_lt (Nat.lt_succ_self _))
      have J2 := L2.Inv.made (C := CC) J1
      have both : Vals (V.ref (t1.heap.objs.size + 1) :: (ws ++ dws)) (Value.ref (t1.heap.objs.size + 1) :: (us ++ dds)) := .cons rfl (ru.append dv)
      have many := both.length.symm.trans (F.len _ _ _ _ new)
      refine wpAny_call (make_map (f := ff) J1.kIn M.makes M.init (beq_iff_eq.mp M.fn) (codeAny_mono (F.run _ X.stack _ _ ⟨_ :: us, []⟩ _ _ _ (EE τ) (room.make CC us []) (J2.env0.make CC us []) (bx _ (_ :: us) J2.kIn many) both new) fun r t2 got => ?_))
      match r, got with
      | .error e, got => exact away τ pp _ _ e t2 J2 got
      | .ok (.ret u), got =>
        obtain ⟨_, G3, J3, rv, rfl, q3⟩ := J2.after got
        exact ⟨rv, ⟨V.ref (t1.heap.objs.size + 1), G3, J3, rfl, q3⟩⟩
      | .ok .next, got | .ok .brk, got | .ok .cont, got => exact False.elim got⟩) st pl) nd)⟩
end
end HX
set_option Elab.async false
set_option linter.all false
set_option maxRecDepth 100000
set_option maxHeartbeats 4400000
namespace HX
open L2 PyProof.Rows PySem.Spec PySem
/-! lists of plain data: told apart by repr; == says whether they are the same -/
theorem from_ch : ∀ (ts : List Str) (k : Nat) (acc : Str), 0 < k → ts ≠ [] → ch (textFrom k acc ts) = ch acc ++ ([44, 32] ++ ch (Str.join ", " ts))
  | [t], k, acc, hk, _ => by
    show ch (acc ++ (if k > 0 then ", " else "" : String) ++ t) = ch acc ++ ([44, 32] ++ ch t)
    rw [if_pos hk, ch_app, ch_app]
    have : ch (((", " : String) : Str)) = [44, 32] := by decide +kernel
    rw [this, List.append_assoc]
  | t :: u :: r, k, acc, hk, _ => by
    show ch (textFrom (k + 1) (acc ++ (if k > 0 then ", " else "" : String) ++ t) (u :: r)) = ch acc ++ ([44, 32] ++ ch (t ++ ", " ++ Str.join ", " (u :: r)))
    rw [from_ch (u :: r) (k + 1) _ (Nat.succ_pos _) (by simp), if_pos hk]
    have : ch (((", " : String) : Str)) = [44, 32] := by decide +kernel
    rw [ch_app, ch_app, ch_app, ch_app, this]
    simp only [List.append_assoc]
theorem ch_list (x y : PyData) (r : List PyData) : ch (PyData.list (x :: y :: r)).shown = 91 :: (ch (Str.join ", " (PyData.shownAll (x :: y :: r))) ++ [93]) := by
  show ch (textFrom 1 (("[" : Str) ++ (("" : String) : Str) ++ x.shown) (PyData.shownAll (y :: r)) ++ "]") = _
  rw [ch_app, from_ch _ 1 _ (by decide) (by show PyData.shown y :: PyData.shownAll r ≠ []; simp), ch_app, ch_app]
  show _ = 91 :: (ch (x.shown ++ ", " ++ Str.join ", " (PyData.shownAll (y :: r))) ++ [93])
  rw [ch_app, ch_app]
  have e1 : ch (((", " : String) : Str)) = [44, 32] := by decide +kernel
  have e2 : ch (("[" : Str)) = [91] := by decide +kernel
  have e3 : ch ((("" : String) : Str)) = [] := by decide +kernel
  have e4 : ch (("]" : Str)) = [93] := by decide +kernel
  rw [e1, e2, e3, e4]
  simp
theorem list_one {x y x2 y2 : PyData} {r s : List PyData} (h1 : plainAll (x :: y :: r) = true) (h2 : plainAll (x2 :: y2 :: s) = true) (h : (PyData.list (x :: y :: r)).shown = (PyData.list (x2 :: y2 :: s)).shown) : x :: y :: r = x2 :: y2 :: s := by
  have q : ch (PyData.list (x :: y :: r)).shown = ch (PyData.list (x2 :: y2 :: s)).shown := by rw [h]
  rw [ch_list, ch_list] at q
  simp only [List.cons.injEq, true_and] at q
  have q2 := List.append_cancel_right q
  refine (bt_pf (r1 := []) (r2 := []) (by simp) (by simp) (fun z hz => shown_pf _ z (Nat.lt_succ_self _) (plainAll_mem h1 z hz)) h2 ?_).1
  rw [← ch_join, ← ch_join, q2]
theorem plainAll_of : ∀ {ds : List PyData}, (∀ d ∈ ds, plainD d = true) → plainAll ds = true
  | [], _ => rfl
  | d :: r, h => Bool.and_eq_true_iff.mpr ⟨h d (.head _), plainAll_of fun x hx => h x (.tail _ hx)⟩
mutual
theorem eqv_plain : ∀ (d e : PyData), plainD d = true → plainD e = true → (PyData.eqv d e = true ↔ d = e)
  | .int i, .int j, _, _ => by simp [PyData.eqv]
  | .int i, .str z, _, _ => by simp [PyData.eqv]
  | .int i, .tuple es, _, _ => by simp [PyData.eqv]
  | .str z, .int j, _, _ => by simp [PyData.eqv]
  | .str z, .str y, _, _ => by simp [PyData.eqv]
  | .str z, .tuple es, _, _ => by simp [PyData.eqv]
  | .tuple ds, .int j, _, _ => by simp [PyData.eqv]
  | .tuple ds, .str y, _, _ => by simp [PyData.eqv]
  | .tuple ds, .tuple es, h1, h2 => by
    have := eqvAll_plain ds es h1 h2
    simp only [PyData.eqv, PyData.tuple.injEq]
    exact this
theorem eqvAll_plain : ∀ (ds es : List PyData), plainAll ds = true → plainAll es = true → (PyData.eqvAll ds es = true ↔ ds = es)
  | [], [], _, _ => by simp [PyData.eqvAll]
  | [], e :: es, _, _ => by simp [PyData.eqvAll]
  | d :: ds, [], _, _ => by simp [PyData.eqvAll]
  | d :: ds, e :: es, h1, h2 => by
    obtain ⟨a1, a2⟩ := Bool.and_eq_true_iff.mp (show (plainD d && plainAll ds) = true from h1)
    obtain ⟨b1, b2⟩ := Bool.and_eq_true_iff.mp (show (plainD e && plainAll es) = true from h2)
    have q1 := eqv_plain d e a1 b1
    have q2 := eqvAll_plain ds es a2 b2
    simp only [PyData.eqvAll, Bool.and_eq_true, List.cons.injEq, q1, q2]
end
theorem letters_ok {z : Str} (h : letters z = true) : PyData.strOk z = true := by
  unfold PyData.strOk
  rw [Array.all_eq_true_iff_forall_mem]
  intro c hc
  have q := List.all_eq_true.mp h c (by simpa using hc)
  simp only [Bool.and_eq_true, decide_eq_true_eq] at q
  simp
  omega
mutual
theorem canLay_plain : ∀ (d : PyData), plainD d = true → d.canLay0 = true
  | .int i, _ => rfl
  | .str z, h => by simp only [PyData.canLay0]; exact letters_ok h
  | .tuple ds, h => by simp only [PyData.canLay0]; exact canLayAll_plain ds h
theorem canLayAll_plain : ∀ (ds : List PyData), plainAll ds = true → PyData.canLayAll0 ds = true
  | [], _ => rfl
  | d :: ds, h => by
    obtain ⟨a1, a2⟩ := Bool.and_eq_true_iff.mp (show (plainD d && plainAll ds) = true from h)
    simp only [PyData.canLayAll0, canLay_plain d a1, canLayAll_plain ds a2, Bool.and_self]
end
theorem shaped_plain {n : Nat} {d : PyData} (h : plainD d = true) (k : Pz n d) : SeqAt.shaped d = true := by
  unfold SeqAt.shaped
  rw [canLay_plain d h, Bool.true_and]
  exact decide_eq_true (Nat.le_trans k.dp (by decide))
end HX
set_option Elab.async false
set_option linter.all false
set_option maxRecDepth 100000
set_option maxHeartbeats 4400000
namespace HX
open L2 PyProof.Rows PySem.Spec PySem
open PySem.W (Frag)
/-! ### any data beside texts: in, not in; tuples of the very same things -/
section
open PySem.SeqAt
open AutoSeq1 (wpAny_loadPart')
open MeetsSeq
section
variable {A : Around} {E : Value → Shared → Prop} {s : Shared} {prog : Program} {w : World}
theorem dict_decl {l : Addr} {o : Obj} {b : Str} {u : Tok} {Q : Value → Shared → Prop} (hl : s.heap.get? l = some o) (hc : o.cls = .type "dict") (h : Q .notImplemented s) : wpAny (model prog w) A (call (.builtin "dict.__eq__") [.ref l, .str b u]) Q E s := by
  have ti : s.TypeIs (.ref l) "dict" := ⟨_, hl, hc⟩
  refine wpAny_call_entry PySem.F.slot_dict_eq ti PySem.F.entry_dict_eq ?_ (PySem.F.args_dict_eq_2 _ _)
  show wpAny _ _ (Builtin.Dict.dictSlotArgs "__eq__" ⟨[.ref l, .str b u], []⟩ >>= _) _ _ s
  refine wpAny_bind ?_
  unfold Builtin.Dict.dictSlotArgs
  refine wpAny_bind (wpAny_notOrdered_dict ti ?_)
  show wpAny _ _ (pure (Value.ref l, Value.str b u)) _ _ s
  refine wpAny_pure ?_
  refine wpAny_bind (wpAny_isInstance (T := "str") (typeIs_str s b u) PySem.F.sub_str_dict ?_)
  simp only [Bool.not_false, if_true]
  refine wpAny_bind (wpAny_rule ?_)
  refine wpAny_bind (wpAny_pure ?_)
  exact wpAny_pure ⟨_, rfl, h⟩
theorem str_eq_declines_dict (b : Str) (u : Tok) (l : Addr) (es : Array DictEntry) (n : Nat) (dd : Option Addr) (sl : Array (Option Value)) :
    Meets (Builtin.«str.__eq__» ⟨[.str b u, .ref l], []⟩) (fun _ R s => s.heap.get? l = some { cls := .type "dict", dict := dd, data := .dict es n, slots := sl } ∧ R (.ok (.ret .notImplemented)) s) :=
  .of_wp fun prog w A R s h => by obtain ⟨hp, g, d, tk, os⟩ := s; obtain ⟨hl, h⟩ := h; wp_walk using wpAny_loadPart' hl, wpAny_load hl; exact ⟨_, rfl, h⟩
theorem RcAt.str_dict {l : Addr} {o : Obj} {es : Array DictEntry} {n : Nat} (b : Str) (u : Tok) (hl : s.heap.get? l = some o) (hc : o.cls = .type "dict") (hd : o.data = .dict es n) (hu : A.units < cLine) : RcAt A s (.str b u) (.ref l) false := fun prog w E Q h => by
  obtain ⟨cls, dd, data, sl⟩ := o
  simp only at hc hd
  subst hc hd
  exact rc_eq_decline_or (k := false) (typeIs_str s b u) ⟨_, hl, rfl⟩ (by decide) F.sub_dict_str F.slot_str_eq F.slot_dict_eq_refl
    (fun _ hq => call_meets F.slot_str_eq (typeIs_str s b u) F.entry_str_eq (F.args_str_eq_2 _ _) (str_eq_declines_dict b u l es n dd sl) ⟨hl, hq⟩)
    (fun _ hq => dict_decl hl rfl hq)
    (fun _ hq => wpAny_of_eq (rfl : isSame (.str b u) (.ref l) = pure false) hq) (.inr hu) h
theorem EqAt.str_dict {l : Addr} {o : Obj} {es : Array DictEntry} {n : Nat} (b : Str) (u : Tok) (hl : s.heap.get? l = some o) (hc : o.cls = .type "dict") (hd : o.data = .dict es n) (hu : A.units < cLine) : EqAt A s (.str b u) (.ref l) false := fun prog w E Q h => by
  unfold eqBool
  refine wpAny_holding ?_
  refine wpAny_ite_split (fun hab => absurd (eq_of_beq hab) nofun) (fun _ => ?_)
  exact wpAny_bind (RcAt.str_dict b u hl hc hd hu prog w E _ (wpAny_truthy_bool h))
end
section
variable {X : Cx} {pins : List (Addr × Obj)} {σ : L2.St} {H : Hp} {s : Shared}
def hasD (d : PyData) (ss : List Str) : Bool := match d with | .str z => decide (z ∈ ss) | _ => false
def eqZ (d : PyData) (y : Value) : Bool := match d, y with | .str z, .str b _ => b == z | _, _ => false
theorem eqAt_z {A : Around} {p : Addr} {x : V} {v : Value} {d : PyData} {b : Str} {t : Tok} (I : Inv X pins σ H s) (h : Dz p H x d) (r : RelV x v) (hu : A.units < cLine) : EqAt A s (.str b t) v (eqZ d (.str b t)) := by
  cases h with
  | non => cases (show v = .none from r); exact EqAt.str_none b t
  | bl c => cases (show v = .bool c from r); exact EqAt.str_bool b t c
  | int i => obtain ⟨u, rfl⟩ := (show ∃ u, v = .int i u from r); exact EqAt.str_int b t i u
  | str z => obtain ⟨u, rfl⟩ := (show ∃ u, v = .str z u from r); exact EqAt.str_str b t z u
  | lst hs _ _ _ _ =>
    cases (show v = .ref _ from r)
    obtain ⟨its, rv, pl, _⟩ := I.list (SqL.of hs)
    exact EqAt.str_list b t pl.isList hu
  | tup hs _ _ =>
    cases (show v = .ref _ from r)
    obtain ⟨its, rv, pl, _⟩ := I.tuple (SqT.of hs)
    exact EqAt.str_tuple b t pl hu
  | dct hs _ _ =>
    cases (show v = .ref _ from r)
    obtain ⟨_, na, vs, kv, o, es, ep, ho, hc, hd, _, hp, _⟩ := dk_of I.hok hs
    exact EqAt.str_dict b t ho hc.1 hd hu
theorem any_z {d : PyData} : ∀ {ss : List Str} {us : List Value}, Vals (ss.map V.str) us → us.any (eqZ d) = hasD d ss
  | [], us, h => by cases h; cases d <;> rfl
  | z :: ss, us, h => by
    cases h with
    | cons r1 r2 =>
      obtain ⟨t, rfl⟩ := (show ∃ t, _ = Value.str z t from r1)
      rw [List.any_cons, any_z r2]
      cases d with
      | str y =>
        show ((z == y) || decide (y ∈ ss)) = decide (y ∈ z :: ss)
        by_cases e : z = y
        · subst e; simp
        · have e2 : ¬ y = z := fun q => e q.symm
          simp [e, e2]
      | _ => rfl
/-- any data not in a tuple of texts -/
def rNiZ (K : Frag) : R2 := fun x y H Q => ∃ (p : Addr) (d : PyData) (a : Addr) (ss : List Str), Dz p H x d ∧ y = .ref a ∧ SqT K H a (ss.map V.str) ∧ Q (.bl (!(hasD d ss))) H
theorem op_notInZ (hu : X.A.units + 64 < cLine) : OpR X (compareOp .NotIn) (rNiZ X.K) := by
  intro pins s σ H x y v u; intro Q I rx ry h
  obtain ⟨p, d, a, ss, hz, rfl, hq, q⟩ := h
  cases (show u = .ref a from ry)
  obtain ⟨its, r, pl, _⟩ := I.tuple hq
  refine SeqAt.notIn_tupleAt (eqZ d) pl (fun w hw => ?_) ⟨.bl _, H, I, rfl, ?_⟩
  · obtain ⟨i, hi⟩ := List.getElem?_of_mem (show w ∈ its by simpa using hw)
    obtain ⟨x2, hx2⟩ : ∃ x2, (ss.map V.str)[i]? = some x2 := ⟨_, List.getElem?_eq_getElem (by have := (List.getElem?_eq_some_iff.mp hi).1; rw [r.length]; exact this)⟩
    obtain ⟨u', hu', ru⟩ := r.get hx2
    rw [hi] at hu'
    cases hu'
    rw [List.getElem?_map] at hx2
    cases e : ss[i]? with
    | none => rw [e] at hx2; cases hx2
    | some z =>
      rw [e] at hx2
      cases hx2
      obtain ⟨t, rfl⟩ := (show ∃ t, w = Value.str z t from ru)
      exact eqAt_z I hz rx (by show X.A.in1.units < cLine; have : X.A.in1.units ≤ X.A.units + 1 := Nat.le_refl _; omega)
  · rw [show its.toArray.any (eqZ d) = its.any (eqZ d) by simp, any_z r]
    exact q
/-- values that are one and the same in two tuples -/
theorem eqAt_sameV {A : Around} {x : V} {v u : Value} (hx : flatV x = true ∨ ∃ a, x = .ref a) (r : RelV x v) (r2 : RelV x u) : EqAt A s v u true := by
  rcases hx with hx | ⟨a, rfl⟩
  · cases x with
    | non => cases (show v = .none from r); cases (show u = .none from r2); exact EqAt.same _
    | bl c => cases (show v = .bool c from r); cases (show u = .bool c from r2); exact EqAt.same _
    | int i => obtain ⟨t, rfl⟩ := (show ∃ t, v = .int i t from r); obtain ⟨t2, rfl⟩ := (show ∃ t, u = .int i t from r2); exact cast (by rw [beq_self_eq_true]) (EqAt.int_int (A := A) (s := s) i t i t2)
    | str i => obtain ⟨t, rfl⟩ := (show ∃ t, v = .str i t from r); obtain ⟨t2, rfl⟩ := (show ∃ t, u = .str i t from r2); exact cast (by rw [beq_self_eq_true]) (EqAt.str_str (A := A) (s := s) i t i t2)
    | _ => cases hx
  · cases (show v = .ref a from r); cases (show u = .ref a from r2); exact EqAt.same _
def sameOk (x : V) : Prop := flatV x = true ∨ ∃ a, x = .ref a
/-- (t,) != (u,), t and u tuples of the very same things -/
def rNeSame : R2 := fun x y H Q => ∃ (a b c d : Addr) (xs : List V), x = .ref a ∧ y = .ref b ∧ H a = some (.tup [.ref c]) ∧ H b = some (.tup [.ref d]) ∧ H c = some (.tup xs) ∧ H d = some (.tup xs) ∧ (∀ v ∈ xs, sameOk v) ∧ Q (.bl false) H
theorem all_true {n : Nat} {e : Nat → Bool} (h : ∀ i, i < n → e i = true) : (List.range n).all e = true := List.all_eq_true.mpr fun i hi => h i (List.mem_range.mp hi)
theorem op_neSame (hu : X.A.units + 64 < cLine) : OpR X (compareOp .NotEq) rNeSame := by
  intro pins s σ H x y v u; intro Q I rx ry h
  obtain ⟨a, b, c, d, xs, rfl, rfl, ha, hb, hc, hd, hx, q⟩ := h
  cases (show v = .ref a from rx)
  cases (show u = .ref b from ry)
  obtain ⟨i1, r1, p1, _⟩ := I.tuple (SqT.of (K := X.K) ha)
  obtain ⟨i2, r2, p2, _⟩ := I.tuple (SqT.of (K := X.K) hb)
  obtain ⟨i3, r3, p3, _⟩ := I.tuple (SqT.of (K := X.K) hc)
  obtain ⟨i4, r4, p4, _⟩ := I.tuple (SqT.of (K := X.K) hd)
  have inner : EqAt X.A.in1 s (.ref c) (.ref d) true := by
    by_cases e : c = d
    · subst e; exact EqAt.same _
    · have u1 : X.A.in1.units < cLine := by have : X.A.in1.units ≤ X.A.units + 1 := Nat.le_refl _; omega
      have k := RcAt.tuples (e := fun _ => true) p3 p4 u1 (fun j h1 h2 => by
        have j1 : j < i3.length := by simpa using h1
        have j2 : j < i4.length := by simpa using h2
        have jx : j < xs.length := by rw [r3.length]; exact j1
        have ex : xs[j]? = some xs[j] := List.getElem?_eq_getElem jx
        obtain ⟨w1, hw1, q1⟩ := r3.get ex
        obtain ⟨w2, hw2, q2⟩ := r4.get ex
        rw [List.getElem?_eq_getElem j1] at hw1
        rw [List.getElem?_eq_getElem j2] at hw2
        have e1 : i3.toArray[j] = w1 := by simpa using hw1
        have e2 : i4.toArray[j] = w2 := by simpa using hw2
        rw [e1, e2]
        exact eqAt_sameV (hx _ (List.getElem_mem jx)) q1 q2)
      have sz : i3.toArray.size = i4.toArray.size := by rw [List.size_toArray, List.size_toArray, ← r3.length, ← r4.length]
      have kk : ((List.range (min i3.toArray.size i4.toArray.size)).all (fun _ => true) && i3.toArray.size == i4.toArray.size) = true := by
        rw [all_true fun _ _ => rfl, sz, beq_self_eq_true]; rfl
      rw [kk] at k
      exact EqAt.of_refs e k
  match r1, r2 with
  | .cons q1 .nil, .cons q2 .nil =>
    rename_i w1 w2
    cases (show w1 = .ref c from q1)
    cases (show w2 = .ref d from q2)
    refine RcNeAt.tuples (e := fun _ => true) p1 p2 (by omega) (fun j h1 h2 => ?_) X.prog X.w _ _ ?_
    · have j0 : j = 0 := by
        have : j < 1 := by simpa using h1
        omega
      subst j0
      exact inner
    · exact ⟨.bl false, H, I, rfl, q⟩
end
end
end HX
set_option Elab.async false
set_option linter.all false
set_option maxRecDepth 100000
set_option maxHeartbeats 4400000
namespace HX
open L2 PyProof.Rows PySem.Spec PySem
open PySem.W (Frag)
/-! ### own == and != beside None and texts too -/
section
variable {X : Cx}
def eqSideW (K : Frag) (C : Addr) (H : Hp) (y : V) : Prop := eqSide K C H y ∨ (y = .non ∧ PySem.W.notFirst K C (.type "NoneType") = true) ∨ ((∃ z, y = .str z) ∧ PySem.W.notFirst K C (.type "str") = true)
def rEqW (K : Frag) (C : Addr) (sp : Sp) (E : XK) : R2 := fun x y H Q => isI C H x ∧ eqSideW K C H y ∧ sp [x, y] H Q E
def rNeW (K : Frag) (C : Addr) (sp : Sp) (E : XK) : R2 := fun x y H Q => isI C H x ∧ eqSideW K C H y ∧ sp [x, y] H (fun v H' => ∃ b, v = .bl b ∧ Q (.bl (!b)) H') E
theorem side_looksW {pins : List (Addr × Obj)} {σ : L2.St} {H : Hp} {s : Shared} {C f : Addr} {y : V} {u : Value} (I : Inv X pins σ H s) (T : EqC X.K C f) (h : eqSideW X.K C H y) (ry : RelV y u) : ∃ tb, PySem.W.Looks (model X.prog X.w) s.heap (typeOf u) tb ∧ PySem.W.notFirst X.K C tb = true := by
  rcases h with h | ⟨rfl, h⟩ | ⟨⟨z, rfl⟩, h⟩
  · exact side_looks I T h ry
  · cases (show u = .none from ry)
    exact ⟨_, fun A Q E s k q => wpAny_typeOf (show s.TypeIs .none "NoneType" from rfl) q, h⟩
  · obtain ⟨t, rfl⟩ := (show ∃ t, u = Value.str z t from ry)
    exact ⟨_, fun A Q E s k q => wpAny_typeOf (typeIs_str s z t) q, h⟩
theorem op_eqW {CX : CXT} {C f : Addr} {k : Nat} {fd : FuncData} {ps : List Str} {sp : Sp} {E : XK} (T : EqC X.K C f) (F1 : FnOk X.prog X.w X.K X.mg X.base CX k f fd ps sp) (b1 : Binds X.K fd ps []) (hr : Room k X.A) (hx : Passes CX X E) : OpR X (compareOp .Eq) (rEqW X.K C sp E) := by
  intro pins s σ H x y v u; intro Q I rx ry h
  obtain ⟨m, hF⟩ := I.fr
  have hu := hr.units0
  obtain ⟨⟨a, dx, fs, rfl, ea⟩, hy, q⟩ := h
  obtain ⟨od, J⟩ := isI_inst I ea
  cases (id rx : v = Value.ref a)
  obtain ⟨tb, hb, hn⟩ := side_looksW I T hy ry
  unfold compareOp
  exact PySem.W.cmp_K (op := .Eq) hu hF I.ok.mod.kin J hb hn T.hs T.hf (thn (run_fn (us := [.ref a, u]) (vs := [.ref a, y]) F1 hr b1 .nil hx I (.cons rfl (.cons ry .nil)) q) fun u s' z => ep_back z)
theorem op_neW {CX : CXT} {C f : Addr} {k : Nat} {fd : FuncData} {ps : List Str} {sp : Sp} {E : XK} (T : EqC X.K C f) (F1 : FnOk X.prog X.w X.K X.mg X.base CX k f fd ps sp) (b1 : Binds X.K fd ps []) (hr : Room (k + 1) X.A) (hx : Passes CX X E) : OpR X (compareOp .NotEq) (rNeW X.K C sp E) := by
  intro pins s σ H x y v u; intro Q I rx ry h
  have hu : X.A.units + 1 < cLine := hu_of hr
  obtain ⟨⟨a, dx, fs, rfl, ea⟩, hy, q⟩ := h
  obtain ⟨od, J⟩ := isI_inst I ea
  cases (id rx : v = Value.ref a)
  obtain ⟨tb, hb, hn⟩ := side_looksW I T hy ry
  unfold compareOp
  refine cmpNe_K hu I.kIn J hb hn T.hm T.hne T.hs T.hf (thn (run_fn1 (us := [.ref a, u]) (vs := [.ref a, y]) F1 hr b1 hx I (.cons rfl (.cons ry .nil)) q) fun u s' z => ?_)
  obtain ⟨v, H', I', r, c, rfl, hq⟩ := z
  cases r
  exact ⟨c, rfl, .bl (!c), H', I', rfl, hq⟩
end
end HX
set_option Elab.async false
set_option linter.all false
set_option maxRecDepth 100000
set_option maxHeartbeats 4400000
namespace HX
open L2 PyProof.Rows PySem.Spec PySem
open PySem.W (Frag)
/-! ### tuple(text) -/
section
variable {X : Cx}
def signsV (z : Str) : List V := z.cps.toList.map fun c => V.str ⟨#[c]⟩
theorem signs_vals {z : Str} {acc : Array Value} (h : ItemsOf (SignAt z) acc z.cps.size) : Vals (signsV z) acc.toList := by
  have gen : ∀ (cs : List Nat) (us : List Value), cs.length = us.length → (∀ (i : Nat) (c : Nat) (u : Value), cs[i]? = some c → us[i]? = some u → ∃ t, u = .str ⟨#[c]⟩ t) → Vals (cs.map fun c => V.str ⟨#[c]⟩) us := by
    intro cs
    induction cs with
    | nil => intro us hl _; cases us with
      | nil => exact .nil
      | cons u us => simp at hl
    | cons c cs ih => intro us hl hi; cases us with
      | nil => simp at hl
      | cons u us => exact .cons (hi 0 c u rfl rfl) (ih us (by simpa using hl) fun i c u a b => hi (i + 1) c u (by simpa using a) (by simpa using b))
  refine gen _ _ (by rw [Array.length_toList, Array.length_toList]; exact h.1.symm) fun i c u h1 h2 => ?_
  obtain ⟨c2, t, e1, e2⟩ := h.2 i u (by rw [← Array.getElem?_toList]; exact h2)
  rw [Array.getElem?_toList] at h1
  rw [h1] at e1
  cases e1
  exact ⟨t, e2⟩
def rTupS : List V → Hp → VK → Prop := fun xs H Q => ∃ z : Str, xs = [.str z] ∧ z.cps.size ≤ sizeLine ∧ ∀ l, H l = none → Q (.ref l) (upd H l (.tup (signsV z)))
theorem call_tupS (hc : X.calm = true) : CallR X (.type "tuple") rTupS := by
  intro pins s σ H xs us; intro Q I r h
  obtain ⟨z, rfl, hz, q⟩ := h
  obtain ⟨u, rfl, t, rfl⟩ := vals1 r
  refine call_tuple_str (hsz := hz) (I.ok.hd hc) z t fun h' tk acc kp ha => ?_
  have I1 : Inv X pins σ H { s with heap := h', toks := tk } := I.kept (t' := tk) kp
  have I2 : Inv X pins σ (upd H h'.objs.size (.tup (signsV z))) { s with heap := h'.push { cls := .type "tuple", data := .seq acc }, toks := tk } :=
    I1.laid (t' := tk) (fun b o e => Heap.get?_push_of_some _ e) (Nat.le_refl _) (show ObjOk X.prog X.w _ _ _ (.tup (signsV z)) from ⟨by unfold signsV; rw [List.length_map, Array.length_toList]; exact hz, acc.toList, signs_vals ha, IsTup.new _ _⟩)
  exact ⟨.ref h'.objs.size, _, I2, rfl, q _ (I1.hok.fresh (Nat.le_refl _))⟩
end
end HX
set_option Elab.async false
set_option linter.all false
set_option maxRecDepth 100000
set_option maxHeartbeats 4400000
namespace HX
open L2 PyProof.Rows PySem.Spec PySem
open PySem.W (Frag)
/-! ### a def with a default () and keyword-only ones known = False, held = True, own = (), in the head of facts -/
def knilB (K : Frag) (a : Addr) : Bool := match K.lookup a with
  | some ⟨c, _, .seq its _, _⟩ => decide (c = .type "tuple") && its.isEmpty
  | _ => false
def dfB (K : Frag) (v : Value) : Bool := match v with
  | .ref T => (match K.lookup T with
    | some ⟨_, _, .seq its _, _⟩ => (match its.toList with
      | [.ref a] => knilB K a
      | _ => false)
    | _ => false)
  | _ => false
def kdB (K : Frag) (v : Value) : Bool := match v with
  | .ref D => He.eqO (PySem.W.nsIn K D "known") (some (some (.bool false))) && (He.eqO (PySem.W.nsIn K D "held") (some (some (.bool true))) && (match PySem.W.nsIn K D "own" with
    | some (some (.ref b)) => knilB K b
    | _ => false))
  | _ => false
def kwB (K : Frag) (f : Addr) : Bool := match K.lookup f with
  | some ⟨_, _, .func fd, _⟩ => dfB K fd.defaults && kdB K fd.kwdefaults
  | _ => false
theorem knil_ok {K : Frag} {a : Addr} (c : knilB K a = true) : ∃ (o : Obj) (n : Nat), K.lookup a = some o ∧ o.cls = .type "tuple" ∧ o.data = .seq #[] n := by
  unfold knilB at c
  cases q : K.lookup a with
  | none => rw [q] at c; cases c
  | some o =>
    obtain ⟨oc, od, dt, osl⟩ := o
    rw [q] at c
    cases dt with
    | seq its n =>
      obtain ⟨c1, c2⟩ := Bool.and_eq_true_iff.mp c
      have e : its = #[] := Array.isEmpty_iff.mp c2
      subst e
      exact ⟨_, n, rfl, of_decide_eq_true c1, rfl⟩
    | _ => cases c
theorem df_ok {K : Frag} {v : Value} (c : dfB K v = true) : ∃ a, DflV K v [.ref a] ∧ knilB K a = true := by
  unfold dfB at c
  cases v with
  | ref T =>
    dsimp only at c
    cases q : K.lookup T with
    | none => rw [q] at c; cases c
    | some o =>
      obtain ⟨oc, od, dt, osl⟩ := o
      rw [q] at c
      cases dt with
      | seq its n =>
        obtain ⟨l⟩ := its
        match l, c with
        | [.ref a], c => exact ⟨a, .inr ⟨by simp, T, _, [.ref a], n, rfl, q, rfl, .cons rfl .nil⟩, c⟩
      | _ => cases c
  | _ => cases c
theorem kd_ok {K : Frag} {v : Value} (c : kdB K v = true) : ∃ b, KwdV K v [("known", .bl false), ("held", .bl true), ("own", .ref b)] ∧ knilB K b = true := by
  unfold kdB at c
  cases v with
  | ref D =>
    dsimp only at c
    obtain ⟨c1, c2⟩ := Bool.and_eq_true_iff.mp c
    obtain ⟨c2, c3⟩ := Bool.and_eq_true_iff.mp c2
    cases q : PySem.W.nsIn K D "own" with
    | none => rw [q] at c3; cases c3
    | some o =>
      rw [q] at c3
      cases o with
      | none => cases c3
      | some u =>
        cases u with
        | ref b =>
          refine ⟨b, .inr ⟨D, rfl, fun p hp => ?_⟩, c3⟩
          simp only [List.mem_cons, List.not_mem_nil, or_false] at hp
          rcases hp with rfl | rfl | rfl
          · exact ⟨_, He.eqO_ok c1, rfl⟩
          · exact ⟨_, He.eqO_ok c2, rfl⟩
          · exact ⟨_, q, rfl⟩
        | _ => cases c3
  | _ => cases c
theorem kw_fun {K : Frag} {x qual : Str} {params : Arguments} {body : List Stmt} {scope : Scope} {v : V} {f : Addr} {fd : FuncData} (F : FunD K x qual params body scope [v] [] f fd) (c : kwB K f = true) :
    ∃ a b, FunD K x qual params body scope [.ref a] [("known", .bl false), ("held", .bl true), ("own", .ref b)] f fd ∧ (∃ (o : Obj) (n : Nat), K.lookup a = some o ∧ o.cls = .type "tuple" ∧ o.data = .seq #[] n) ∧ ∃ (o : Obj) (n : Nat), K.lookup b = some o ∧ o.cls = .type "tuple" ∧ o.data = .seq #[] n := by
  obtain ⟨oc, od, dV, kV, doc, pm, an, cdv, ct, osl, rfl, lk, hcd, hD, hK⟩ := F.ex
  unfold kwB at c
  rw [lk] at c
  obtain ⟨c1, c2⟩ := Bool.and_eq_true_iff.mp c
  obtain ⟨a, h1, n1⟩ := df_ok (v := dV) c1
  obtain ⟨b, h2, n2⟩ := kd_ok (v := kV) c2
  exact ⟨a, b, ⟨⟨oc, od, dV, kV, doc, pm, an, cdv, ct, osl, rfl, lk, hcd, h1, h2⟩, F.kp⟩, knil_ok n1, knil_ok n2⟩
/-! the same hook (HX25's hookY), which also knows what the tuples hold that the path leads to -/
def itemsG (g : Addr → Option Obj) (as : List Addr) : List Addr := as.flatMap fun a => match g a with
  | some o => (match o.data with
    | .seq its _ => its.toList.flatMap He.refV
    | _ => [])
  | none => []
def obsZ (n : Nat) (ex : Frag → Bool) (fn fd : List DX) (g : Addr → Option Obj) : He.AlD :=
  let as := pathG g n [mainGlobals]
  let K := He.frG g (as ++ itemsG g as)
  (ex K && (fn.all (fun d => d.ok K) && fd.all fun d => d.ok2 K), (fn ++ fd).map fun d => fnX K (d.at_ K))
def hookZ (n : Nat) (ex : Frag → Bool) (fn fd : List DX) : PySem.W.Hook where
  α := He.AlD
  obs := fun s => obsZ n ex fn fd s.heap.get?
  val := fun _ => valY fn fd
  says := fun _ h => ∃ K : Frag, K.In h ∧ SaysY ex fn fd K
  of := fun _ _ e => ⟨_, He.frG_in, e⟩
  keeps := fun _ _ _ ⟨K, a, c⟩ k => ⟨K, PySem.W.Frag.In.keeps a k, c⟩
def obTZ (n : Nat) (ex : Frag → Bool) (fn fd : List DX) (s : PySem.W.SharedT) : He.AlD := obsZ n ex fn fd (HandSHeadRun.getT s)
theorem obTZ_eq {n : Nat} {ex : Frag → Bool} {fn fd : List DX} (s : PySem.W.SharedT) : obTZ n ex fn fd s = (hookZ n ex fn fd).obs s.abs := by
  have e : HandSHeadRun.getT s = s.abs.heap.get? := funext (HandSHeadRun.getT_eq s)
  unfold obTZ; rw [e]; rfl
end HX
set_option Elab.async false
set_option linter.all false
set_option maxRecDepth 100000
set_option maxHeartbeats 4400000
namespace HX
open L2 LamX PyProof.Rows PySem.Spec PySem
open PySem.W (Frag)
/-! ### a lambda as a value that nobody calls -/
def FnO (a : Addr) : HO := .ext fun h => ∃ o, h.get? a = some o
theorem fnO_ok {P : Program} {w : World} {H : Hp} {h : Heap} {a : Addr} {o : Obj} (e : h.get? a = some o) : ObjOk P w H h a (FnO a) := ⟨⟨o, e⟩, ⟨o, e⟩, fun _ _ ⟨o, x⟩ k => ⟨o, k o x⟩⟩
section
variable {X : Cx} {pins : List (Addr × Obj)} {σ : L2.St} {H : Hp} {s : Shared}
theorem lam_val {T : List (Addr × Str)} {c P : Addr} {params : Arguments} {body : Expr} {scope : Scope} {pos : Pos} {E : Value → Shared → Prop} {Q : Value → Shared → Prop} (I : Inv X pins σ H s) (TB : TabB X.base X.mg c P) (hcode : X.env.code = .ref c)
    (hm : (P, X.env.qual ++ "<lambda>") ∈ T) (hu : ∀ p ∈ T, p.1 = P → p.2 = X.env.qual ++ "<lambda>") (hT : Tabs T H) (hdef : defaultsOf params X.env = ([], [])) (hfree : ∀ y ∈ scope.names, y.2 = .free → ∃ c, X.env.cells.lookup y.1 = some c)
    (h : ∀ (f : Addr) (H1 : Hp) (s' : Shared), Inv X pins σ (upd H1 f (FnO f)) s' → ExtN H H1 → Tabs T H1 → H1 f = none → Q (.ref f) s') :
    wpAny (model X.prog X.w) X.A (eval (.Lambda params body scope pos) X.env) Q E s := by
  obtain ⟨ps, hP, ht, ha⟩ := hT _ hm
  refine PySem.W.kla_eval hdef ?_
  have bP : s.heap.BuiltinsAt X.mg P := TB.bm.keeps I.bk
  have hP' : s.heap.get? P = some { cls := .none, data := .fields ps } := I.hok P _ hP
  cases hc : codeAmong pos ps.toList with
  | none =>
    refine PySem.W.kla_makeFunction (mg := X.mg) (c := c) (P := P) (ps := ps) (closure_ok hfree) I.ok.glob (I.mod.glob.keeps I.bk) hcode (TB.code.keeps I.bk) hP' ht hc TB.gP bP fun c' ctv h' tk hx hge hlt hrec htb => ?_
    obtain ⟨c2, oc, vs, t, e2, hoc, hd, hv⟩ := hrec
    cases e2
    have hsz : s.heap.objs.size ≤ h'.objs.size := Nat.le_trans hge (Nat.le_of_lt hlt)
    have nC : H c' = none := I.hok.fresh hge
    have I1 := inv_table (t' := tk) (more := #[rawInt pos.line, rawInt pos.col, .ref c']) (h' := h') I hP hx htb hge ⟨oc, vs, t, hoc, hd, hv⟩
    have hE : ExtN H (upd (upd H P (.tbl (ps ++ #[rawInt pos.line, rawInt pos.col, .ref c']))) c' (CodeO c' (X.env.qual ++ "<lambda>"))) := fun b o e n => by
      rw [upd_ne (ne_of_none e nC), upd_ne (fun z => n ps (Option.some.inj (e.symm.trans (by rw [z]; exact hP))))]
      exact e
    have eL : (ps ++ #[rawInt pos.line, rawInt pos.col, .ref c']).toList = ps.toList ++ [rawInt pos.line, rawInt pos.col, .ref c'] := by simp
    have I2 := I1.laid (a := h'.objs.size) (o := FnO h'.objs.size) (t' := tk) (h' := h'.push (PySem.W.kla_obj "<lambda>" (X.env.qual ++ "<lambda>") params body scope (cloFrom X.env.cells scope.names []) ((X.mg "__name__").getD .none) c' ctv)) (fun b o e => Heap.get?_push_of_some _ e) (Nat.le_refl _) (fnO_ok (Heap.get?_push_size _ rfl))
    refine h h'.objs.size _ _ I2 hE (fun p hp => ?_) (I1.hok.fresh (Nat.le_refl _))
    by_cases hb : p.1 = P
    · rw [hu p hp hb, hb]
      refine ⟨_, by rw [upd_ne (ne_of_none hP nC), upd_same], by rw [eL]; exact PySem.TriplesOk_snoc _ _ _ _ ht, fun p' cv hcv => ?_⟩
      rw [eL] at hcv
      rcases among_app _ ht hcv with z | z
      · obtain ⟨c0, e1, e2⟩ := ha p' cv z
        exact ⟨c0, e1, hE _ _ e2 codeO_ne⟩
      · exact ⟨c', z, upd_same⟩
    · obtain ⟨ps', a1, a2, a3⟩ := hT p hp
      refine ⟨ps', by rw [upd_ne (ne_of_none a1 nC), upd_ne hb]; exact a1, a2, fun p' cv hcv => ?_⟩
      obtain ⟨c0, e1, e2⟩ := a3 p' cv hcv
      exact ⟨c0, e1, hE _ _ e2 codeO_ne⟩
  | some cv =>
    obtain ⟨c', e, hco⟩ := ha pos cv hc
    subst e
    refine PySem.W.kla_makeFunctionHit (mg := X.mg) (c := c) (P := P) (ps := ps) (closure_ok hfree) I.ok.glob (I.mod.glob.keeps I.bk) hcode (TB.code.keeps I.bk) hP' ht hc bP fun ctv h' tk hx hsz => ?_
    have I1 : Inv X pins σ H { s with heap := h', toks := tk } := I.kept fun b o e => hx b o e
    have I2 := I1.laid (a := h'.objs.size) (o := FnO h'.objs.size) (t' := tk) (h' := h'.push (PySem.W.kla_obj "<lambda>" (X.env.qual ++ "<lambda>") params body scope (cloFrom X.env.cells scope.names []) ((X.mg "__name__").getD .none) c' ctv)) (fun b o e => Heap.get?_push_of_some _ e) (Nat.le_refl _) (fnO_ok (Heap.get?_push_size _ rfl))
    exact h h'.objs.size H _ I2 (ExtN.refl H) hT (I1.hok.fresh (Nat.le_refl _))
def tLamV (T : List (Addr × Str)) : TE := fun σ H Q => Tabs T H ∧ ∀ (H1 : Hp) (f : Addr), ExtN H H1 → Tabs T H1 → H1 f = none → Q (.ref f) (upd H1 f (FnO f))
theorem pe_lamV {T : List (Addr × Str)} {c P : Addr} {params : Arguments} {body : Expr} {scope : Scope} {pos : Pos} (TB : TabB X.base X.mg c P) (hcode : X.env.code = .ref c)
    (hm : (P, X.env.qual ++ "<lambda>") ∈ T) (hu : ∀ p ∈ T, p.1 = P → p.2 = X.env.qual ++ "<lambda>") (hdef : defaultsOf params X.env = ([], []) := by rfl) (hfree : (scope.names.all fun y => !decide (y.2 = .free)) = true := by decide +kernel) : PE X (.Lambda params body scope pos) (tLamV T) :=
  ⟨fun pp t0 τ G R J ⟨hT, h⟩ => lam_val J TB hcode hm hu hT hdef (fun y hy e => absurd (List.all_eq_true.mp hfree y hy) (by rw [decide_eq_true e]; decide)) fun f H1 s' I1 en t1 hf => ⟨.ref f, _, I1, rfl, h H1 f en t1 hf⟩⟩
/-! ### list(text) -/
def rLstS : List V → Hp → VK → Prop := fun xs H Q => ∃ z : Str, xs = [.str z] ∧ z.cps.size ≤ sizeLine ∧ ∀ l, H l = none → l ≠ sysModules → Q (.ref l) (upd H l (.lst (signsV z)))
theorem call_lstS (hc : X.calm = true) : CallR X (.type "list") rLstS := by
  intro pins s σ H xs us; intro Q I r h
  obtain ⟨z, rfl, hz, q⟩ := h
  obtain ⟨u, rfl, t, rfl⟩ := vals1 r
  refine call_list_str (hn := hz) (I.ok.hd hc) z t fun h' tk acc c' kp hS ha => ?_
  have I2 : Inv X pins σ (upd H s.heap.objs.size (.lst (signsV z))) { s with heap := h', toks := tk } :=
    I.laid (t' := tk) kp (Nat.le_refl _) (show ObjOk X.prog X.w _ _ _ (.lst (signsV z)) from ⟨by unfold signsV; rw [List.length_map, Array.length_toList]; exact hz, acc.toList, c', signs_vals ha, by simpa using hS⟩)
  exact ⟨.ref s.heap.objs.size, _, I2, rfl, q _ (I.hok.fresh (Nat.le_refl _)) (Nat.ne_of_gt I.big)⟩
/-! ### a thing equals itself -/
theorem all_yes {n : Nat} : (List.range n).all (fun _ => true) = true := List.all_eq_true.mpr fun _ _ => rfl
def rEqS : R2 := fun x y H Q => y = x ∧ (x = .non ∨ (∃ a xs, x = .ref a ∧ H a = some (.tup xs)) ∨ ∃ a xs, x = .ref a ∧ H a = some (.lst xs)) ∧ Q (.bl true) H
theorem op_eqS (hu : X.A.units + 64 < cLine) : OpR X (compareOp .Eq) rEqS := by
  intro pins s σ H x y v u; intro Q I rx ry h
  obtain ⟨rfl, h, q⟩ := h
  have fin : EP X pins σ Q (.bool true) s := ⟨.bl true, H, I, rfl, q⟩
  rcases h with rfl | ⟨a, xs, rfl, ha⟩ | ⟨a, xs, rfl, ha⟩
  · cases (show v = .none from rx); cases (show u = .none from ry)
    exact SeqAt.RcAt.none_none X.prog X.w _ _ fin
  · cases (show v = .ref a from rx); cases (show u = .ref a from ry)
    obtain ⟨its, r, p, _⟩ := I.tuple (SqT.of (K := X.K) ha)
    have k := SeqAt.RcAt.tuples (A := X.A) (e := fun _ => true) p p (by omega) (fun j h1 h2 => SeqAt.EqAt.same _)
    rw [all_yes, beq_self_eq_true] at k
    exact k X.prog X.w _ _ fin
  · cases (show v = .ref a from rx); cases (show u = .ref a from ry)
    obtain ⟨its, r, p, _⟩ := I.list (SqL.of (K := X.K) ha)
    have k := SeqAt.RcAt.lists (A := X.A) (e := fun _ => true) p.isList p.isList rfl (by omega) (fun j h1 h2 => SeqAt.EqAt.same _)
    rw [all_yes] at k
    exact k X.prog X.w _ _ fin
def rNeS : R2 := fun x y H Q => y = x ∧ (∃ a xs, x = .ref a ∧ H a = some (.tup xs)) ∧ Q (.bl false) H
theorem op_neS (hu : X.A.units + 64 < cLine) : OpR X (compareOp .NotEq) rNeS := by
  intro pins s σ H x y v u; intro Q I rx ry h
  obtain ⟨rfl, ⟨a, xs, rfl, ha⟩, q⟩ := h
  have fin : EP X pins σ Q (.bool false) s := ⟨.bl false, H, I, rfl, q⟩
  cases (show v = .ref a from rx); cases (show u = .ref a from ry)
  obtain ⟨its, r, p, _⟩ := I.tuple (SqT.of (K := X.K) ha)
  have k := SeqAt.RcNeAt.tuples (A := X.A) (e := fun _ => true) p p (by omega) (fun j h1 h2 => SeqAt.EqAt.same _)
  rw [all_yes, beq_self_eq_true] at k
  exact k X.prog X.w _ _ fin
end
end HX
set_option Elab.async false
set_option linter.all false
set_option maxRecDepth 100000
set_option maxHeartbeats 4400000
namespace HX
open L2 PyProof.Rows PySem.Spec PySem
open PySem.W (Frag)
/-! ### dicts with nested tuples as keys: made by a comprehension, asked by [] -/
mutual
/-- the value is this key -/
inductive Nk (H : Hp) : NestedKey → V → Prop
  | non : Nk H .none .non
  | num (i : Int) : Nk H (.num i) (.int i)
  | text (z : Str) : Nk H (.text z) (.str z)
  | tup {a : Addr} {xs : List V} {ks : List NestedKey} : H a = some (.tup xs) → NkL H ks xs → Nk H (.tup ks) (.ref a)
inductive NkL (H : Hp) : List NestedKey → List V → Prop
  | nil : NkL H [] []
  | cons {k : NestedKey} {v : V} {ks : List NestedKey} {vs : List V} : Nk H k v → NkL H ks vs → NkL H (k :: ks) (v :: vs)
end
mutual
theorem Nk.te {H H' : Hp} (e : ∀ a xs, H a = some (.tup xs) → H' a = some (.tup xs)) : ∀ (k : NestedKey) (v : V), Nk H k v → Nk H' k v
  | .none, _, h => by cases h; exact .non
  | .num i, _, h => by cases h; exact .num i
  | .text z, _, h => by cases h; exact .text z
  | .tup ks, _, h => by
    cases h with
    | tup ha hl => exact .tup (e _ _ ha) (NkL.te e ks _ hl)
theorem NkL.te {H H' : Hp} (e : ∀ a xs, H a = some (.tup xs) → H' a = some (.tup xs)) : ∀ (ks : List NestedKey) (vs : List V), NkL H ks vs → NkL H' ks vs
  | [], _, h => by cases h; exact .nil
  | k :: ks, _, h => by
    cases h with
    | cons h1 h2 => exact .cons (Nk.te e k _ h1) (NkL.te e ks _ h2)
end
section
variable {X : Cx} {pins : List (Addr × Obj)} {σ : L2.St} {H : Hp} {s : Shared}
mutual
theorem nk_is (I : Inv X pins σ H s) : ∀ (k : NestedKey) (v : V) (u : Value), Nk H k v → RelV v u → NestedIs s.heap k u
  | .none, _, u, h, r => by
    cases h
    cases (show u = .none from r)
    exact .none
  | .num i, _, u, h, r => by
    cases h
    obtain ⟨t, rfl⟩ := r
    exact .int i t
  | .text z, _, u, h, r => by
    cases h
    obtain ⟨t, rfl⟩ := r
    exact .text z t
  | .tup ks, _, u, h, r => by
    cases h with
    | tup ha hl =>
      cases (show u = .ref _ from r)
      obtain ⟨_, its, hv, o, ho, hc, n, hd⟩ := I.hok _ _ ha
      exact .tup ho hc hd (nkL_is I ks _ _ hl hv)
theorem nkL_is (I : Inv X pins σ H s) : ∀ (ks : List NestedKey) (vs : List V) (us : List Value), NkL H ks vs → Vals vs us → NestedAll s.heap ks us
  | [], _, us, h, r => by
    cases h
    cases r
    exact .nil
  | k :: ks, _, us, h, r => by
    cases h with
    | cons h1 h2 =>
      cases r with
      | cons r1 r2 => exact .cons (nk_is I k _ _ h1 r1) (nkL_is I ks _ _ h2 r2)
end
end
/-- the dict's own object: its entries by their keys, where the keys stand, what they hold -/
def nRaw (P : Program) (w : World) (D : Addr) (kvs : List (NestedKey × Addr × V)) (h : Heap) : Prop :=
  ∃ ys : List (NestedKey × Addr × Value), Paired (fun (p : NestedKey × Addr × V) (q : NestedKey × Addr × Value) => p.1 = q.1 ∧ p.2.1 = q.2.1 ∧ RelV p.2.2 q.2.2) kvs ys ∧
    ∃ o es ep, h.get? D = some o ∧ o.ExactDict ∧ o.data = .dict es ep ∧ es.toList = ys.map (entryOfKey (nestedKind P w)) ∧ (ys.map (·.1)).Nodup
def NDct (P : Program) (w : World) (D : Addr) (kvs : List (NestedKey × Addr × V)) : HO := .ext (nRaw P w D kvs)
theorem nd_ok {P : Program} {w : World} {D : Addr} {kvs : List (NestedKey × Addr × V)} {H : Hp} {h : Heap} (x : nRaw P w D kvs h) : ObjOk P w H h D (NDct P w D kvs) := by
  refine ⟨x, ?_, fun h1 h2 y e => ?_⟩
  · obtain ⟨_, _, o, _, _, ho, _⟩ := x
    exact ⟨o, ho⟩
  · obtain ⟨ys, hp, o, es, ep, ho, r⟩ := y
    exact ⟨ys, hp, o, es, ep, e o ho, r⟩
theorem nd_new {P : Program} {w : World} (h : Heap) : nRaw P w h.objs.size [] (h.push { cls := .type "dict", data := .dict #[] }) :=
  ⟨[], .nil, _, #[], 0, Heap.get?_push_size _ rfl, ⟨rfl, rfl, rfl⟩, rfl, rfl, List.nodup_nil⟩
theorem paired_fst {kvs : List (NestedKey × Addr × V)} {ys : List (NestedKey × Addr × Value)} (h : Paired (fun (p : NestedKey × Addr × V) (q : NestedKey × Addr × Value) => p.1 = q.1 ∧ p.2.1 = q.2.1 ∧ RelV p.2.2 q.2.2) kvs ys) : ys.map (·.1) = kvs.map (·.1) ∧ ys.length = kvs.length := by
  induction h with
  | nil => exact ⟨rfl, rfl⟩
  | cons r _ ih => exact ⟨by rw [List.map_cons, List.map_cons, ih.1, r.1], by rw [List.length_cons, List.length_cons, ih.2]⟩
theorem paired_snoc {α β : Type} {F : α → β → Prop} {a : α} {b : β} : ∀ {l : List α} {m : List β}, Paired F l m → F a b → Paired F (l ++ [a]) (m ++ [b])
  | _, _, .nil, h => .cons h .nil
  | _, _, .cons r t, h => .cons r (paired_snoc t h)
theorem paired_get {α β : Type} {F : α → β → Prop} : ∀ {l : List α} {m : List β}, Paired F l m → ∀ {i : Nat} {b : β}, m[i]? = some b → ∃ a, l[i]? = some a ∧ F a b
  | _, _, .nil, i, b, h => by simp at h
  | _, _, .cons r t, 0, b, h => by cases h; exact ⟨_, rfl, r⟩
  | _, _, .cons r t, i + 1, b, h => paired_get t (i := i) (by simpa using h)
theorem paired_got {α β : Type} {F : α → β → Prop} : ∀ {l : List α} {m : List β}, Paired F l m → ∀ {i : Nat} {a : α}, l[i]? = some a → ∃ b, m[i]? = some b ∧ F a b
  | _, _, .nil, i, b, h => by simp at h
  | _, _, .cons r t, 0, b, h => by cases h; exact ⟨_, rfl, r⟩
  | _, _, .cons r t, i + 1, b, h => paired_got t (i := i) (by simpa using h)
/-- all keys stand -/
def NkS (H : Hp) (kvs : List (NestedKey × Addr × V)) : Prop := ∀ p ∈ kvs, Nk H p.1 (.ref p.2.1) ∧ p.1.depth ≤ 8
theorem NkS.te {H H' : Hp} {kvs : List (NestedKey × Addr × V)} (h : NkS H kvs) (e : ∀ a xs, H a = some (.tup xs) → H' a = some (.tup xs)) : NkS H' kvs := fun p hp => ⟨Nk.te e _ _ (h p hp).1, (h p hp).2⟩
section
variable {X : Cx} {pins : List (Addr × Obj)} {σ : L2.St} {H : Hp} {s : Shared} {D : Addr} {kvs : List (NestedKey × Addr × V)}
theorem nd_dict (I : Inv X pins σ H s) (hD : H D = some (NDct X.prog X.w D kvs)) (ks : NkS H kvs) : ∃ ys, Paired (fun (p : NestedKey × Addr × V) (q : NestedKey × Addr × Value) => p.1 = q.1 ∧ p.2.1 = q.2.1 ∧ RelV p.2.2 q.2.2) kvs ys ∧ s.heap.DictOfH (nestedKind X.prog X.w) D ys := by
  obtain ⟨⟨ys, hp, o, es, ep, ho, hc, hd, he, hn⟩, -, -⟩ := I.hok D _ hD
  refine ⟨ys, hp, o, es, ep, ho, hc, hd, he, fun y hy => ?_, hn⟩
  obtain ⟨i, hi⟩ := List.mem_iff_getElem?.mp hy
  obtain ⟨p, hp1, h1, h2, h3⟩ := paired_get hp hi
  obtain ⟨k1, k2⟩ := ks p (List.mem_of_getElem? hp1)
  rw [h1, h2] at k1
  rw [h1] at k2
  exact ⟨nk_is I _ _ _ k1 rfl, k2⟩
/-- a new key is stored -/
theorem nd_set {E : Value → Shared → Prop} {k : NestedKey} {a : Addr} {v : V} {r : Value} {Q : Unit → Shared → Prop} (hu : X.A.units + 64 < cLine) (I : Inv X pins σ H s) (hD : H D = some (NDct X.prog X.w D kvs)) (ks : NkS H kvs) (hz : kvs.length < sizeLine)
    (hk : Nk H k (.ref a)) (hd : k.depth ≤ 8) (new : k ∉ kvs.map (·.1)) (rv : RelV v r) (h : ∀ t, Inv X pins σ (upd H D (NDct X.prog X.w D (kvs ++ [(k, a, v)]))) t → Q () t) : wpAny (model X.prog X.w) X.A (dictSet D (.ref a) r) Q E s := by
  obtain ⟨ys, hp, dd⟩ := nd_dict I hD ks
  obtain ⟨q1, q2⟩ := paired_fst hp
  refine wpAny_dictSet_heap (knd := nestedKind X.prog X.w) (k := k) (by show X.A.units + 8 < cLine; omega) ⟨nk_is I _ _ _ hk rfl, hd⟩ dd (fun h' dd' hs => h _ ?_) (by rw [q2]; exact Nat.le_of_lt hz)
  have hno : atKey ys k = none := atKey_none_of_get fun j p hj => new (by rw [← q1]; exact List.mem_map.mpr ⟨_, List.mem_of_getElem? hj, rfl⟩)
  rw [storedH_new hno] at dd'
  obtain ⟨o, es, ep, ho, hc, hdd, he, -, hn⟩ := dd'
  exact d_write I (by rw [hD]; exact True.intro) hs ⟨o, ho⟩ (nd_ok ⟨_, paired_snoc hp ⟨rfl, rfl, rv⟩, o, es, ep, ho, hc, hdd, he, hn⟩)
end
end HX
set_option Elab.async false
set_option linter.all false
set_option maxRecDepth 100000
set_option maxHeartbeats 4400000
namespace HX
open L2 PyProof.Rows PySem.Spec PySem
open PySem.W (Frag)
section
variable {X : Cx}
/-- {key: value for .. in .. if ..}, the keys tuples, each a new one -/
def tDcN (P : Program) (wd : World) (wi : TI) (g : TG) (tt : TT) (tk tv : TE) (vs : List Nat) : TE := fun τ G Q => wi τ G fun J G1 => ∀ D, G1 D = none →
  ∃ W : Nat → Nat → Hp → Prop, (∃ m, W 0 m (upd G1 D (NDct P wd D []))) ∧ ∀ i m G2, W i m G2 →
    (J.stop i G2 ∧ Q (.ref D) G2) ∨
      (J.go i G2 ∧ ∃ Nx : Hp → Prop, (∀ G3, Nx G3 → ∃ m', m' < m ∧ W (i + 1) m' G3) ∧
        ∀ x G3, J.yld i G2 x G3 → g x (wipe τ vs) G3 fun τ4 G4 => wipe τ4 vs = wipe τ vs ∧
          tt τ4 G4 fun b G5 => if b = true then tk τ4 G5 fun y G6 => tv τ4 G6 fun z G7 =>
            ∃ kvs k a, y = .ref a ∧ Nk G7 k (.ref a) ∧ k.depth ≤ 8 ∧ G7 D = some (NDct P wd D kvs) ∧ NkS G7 kvs ∧ k ∉ kvs.map (·.1) ∧ kvs.length < sizeLine ∧ Nx (upd G7 D (NDct P wd D (kvs ++ [(k, a, z)])))
          else Nx G5)
theorem dcn_core {pp : List (Addr × Obj)} {t0 : Shared} {τ : L2.St} {G : Hp} {Q : VK} {ke ve tgt src : Expr} {conds : List Expr} {sc : Scope} {own : List (Str × Nat)} {p1 p2 : Pos} {wi : TI} {g : TG} {tt : TT} {tk tv : TE} {use : Option (Value → Sem Unit)} {Qf : Value → Shared → Prop}
    (hu : X.A.units + 64 < cLine) (calm : X.calm = true) (nd : X.N.Nodup) (J0 : Inv X pp τ G t0) (walks : PI X tgt src wi) (blk : BlkOk X.N X.env.scope sc own)
    (hgt : ∀ (s : Shared) (H : Hp) (C : Addr) (cl : List (Str × Addr)) (fp : List Addr), PG (X.blk s H sc (compEnvC sc cl C X.env) fp) tgt g)
    (hts : ∀ (s : Shared) (H : Hp) (C : Addr) (cl : List (Str × Addr)) (fp : List Addr), PTs (X.blk s H sc (compEnvC sc cl C X.env) fp) conds tt)
    (hke : ∀ (s : Shared) (H : Hp) (C : Addr) (cl : List (Str × Addr)) (fp : List Addr), PE (X.blk s H sc (compEnvC sc cl C X.env) fp) ke tk)
    (hve : ∀ (s : Shared) (H : Hp) (C : Addr) (cl : List (Str × Addr)) (fp : List Addr), PE (X.blk s H sc (compEnvC sc cl C X.env) fp) ve tv)
    (fold : ∀ x, foldedSetIterable src X.env x = pure x) (reads : tDcN X.prog X.w wi g tt tk tv (own.map (·.2)) τ G Q)
    (ends : ∀ D C t m G', Inv X pp τ G' t → Q (.ref D) G' → t.heap.Ns C m → FpOk X pp G' C → compPost (model X.prog X.w) X.A X.xe use Qf (.ref D) C (.ok .next) t) :
    wpAny (model X.prog X.w) X.A (comprehension (.DictComp ke ve [⟨tgt, src, conds, 0⟩] sc p1) sc X.env p2 newDict false (eval src X.env) use) Qf X.xe t0 := by
  have frees : ∀ y ∈ sc.names, y.2 = .free → ∃ c, X.env.cells.lookup y.1 = some c := fun y hy e => (blk.free y hy e).elim (fun k => J0.ok.has _ (.inl k)) fun k => J0.ok.has _ (.inr k)
  refine wpAny_comprehension_free (use := use) rfl fold (closure_ok frees) blk.kind (fun y hy e => by rw [blk.uniq y hy, e]) (thn (walks.run pp t0 τ G _ J0 reads) fun _ t1 hx => thn hx fun _ t2 h2 => ?_)
  obtain ⟨it, fp, tn, J, G2, e, J2, T, stands2, f2, q⟩ := h2
  subst e
  refine wpAny_newObj_type (newEnv_comp ?_)
  obtain ⟨D, eD⟩ : ∃ z, z = t2.heap.objs.size := ⟨_, rfl⟩
  rw [← eD]
  have nD : G2 D = none := J2.hok.fresh (Nat.le_of_eq eD.symm)
  obtain ⟨W, ⟨m0, w0⟩, turn⟩ := q D nD
  obtain ⟨t3, et3⟩ : ∃ z : Shared, z = { t2 with heap := t2.heap.push { cls := .type "dict", data := .dict #[] } } := ⟨_, rfl⟩
  rw [← et3]
  have J3 : Inv X pp τ (upd G2 D (NDct X.prog X.w D [])) t3 := by
    rw [et3]
    refine J2.laid (t' := t2.toks) (fun _ o e => Heap.get?_push_of_some _ e) (Nat.le_of_eq eD.symm) ?_
    rw [eD]
    exact nd_ok (nd_new t2.heap)
  have h3 : t3.heap = t2.heap.push { cls := .type "dict", data := .dict #[] } := by rw [et3]
  have lessT : ∀ b ∈ fp, b < t2.heap.objs.size := fun b hb => let ⟨_, e, _⟩ := T.obj _ _ stands2 b hb; Heap.lt_size e
  have f3 : ∀ b ∈ fp, FpOk X pp (upd G2 D (NDct X.prog X.w D [])) b ∧ b < t3.heap.objs.size := fun b hb => by
    have lt := lessT b hb
    have nb : b ≠ D := by rw [eD]; exact Nat.ne_of_lt lt
    exact ⟨⟨by rw [upd_ne nb]; exact (f2 b hb).1, (f2 b hb).2⟩, by rw [h3, Heap.size_push]; exact Nat.lt_succ_of_lt lt⟩
  have stands3 : tn 0 t3.heap := T.keep _ _ _ stands2 fun _ _ _ e => by rw [h3]; exact Heap.get?_push_of_some _ e
  obtain ⟨G3, eG3⟩ : ∃ z, z = upd G2 D (NDct X.prog X.w D []) := ⟨_, rfl⟩
  rw [← eG3] at J3 w0 f3
  have J4 := block_start J3 blk nd f3
  have pg := hgt t3 G3 t3.heap.objs.size (cellsFrom (t3.heap.objs.size + 1) sc.names (cloFrom X.env.cells sc.names [])) fp
  have pt := hts t3 G3 t3.heap.objs.size (cellsFrom (t3.heap.objs.size + 1) sc.names (cloFrom X.env.cells sc.names [])) fp
  have pk := hke t3 G3 t3.heap.objs.size (cellsFrom (t3.heap.objs.size + 1) sc.names (cloFrom X.env.cells sc.names [])) fp
  have pv := hve t3 G3 t3.heap.objs.size (cellsFrom (t3.heap.objs.size + 1) sc.names (cloFrom X.env.cells sc.names [])) fp
  show codeAny _ _ (.compStart (.DictComp ke ve [⟨tgt, src, conds, 0⟩] sc p1) 0 (.ref it) (.ref D) (compEnvC sc (cellsFrom (t3.heap.objs.size + 1) sc.names (cloFrom X.env.cells sc.names [])) t3.heap.objs.size X.env)) (compPost (model X.prog X.w) X.A X.xe use Qf (.ref D) t3.heap.objs.size) { t3 with heap := pushCells (t3.heap.push { cls := .type "dict", data := .dict #[] }) sc.names }
  have away : ∀ b ∈ fp, G3 b = none := fun b hb => (f3 b hb).1.1
  obtain ⟨ce, ece⟩ : ∃ z, z = compEnvC sc (cellsFrom (t3.heap.objs.size + 1) sc.names (cloFrom X.env.cells sc.names [])) t3.heap.objs.size X.env := ⟨_, rfl⟩
  rw [← ece] at J4 pg pt pk pv ⊢
  have cel : ce.locals = t3.heap.objs.size := by rw [ece]; rfl
  obtain ⟨t4, et4⟩ : ∃ z : Shared, z = { t3 with heap := pushCells (t3.heap.push { cls := .type "dict", data := .dict #[] }) sc.names } := ⟨_, rfl⟩
  rw [← et4] at J4 ⊢
  have stands4 : tn 0 t4.heap := T.keep _ _ _ stands3 fun b _ o e => by rw [et4]; exact pushCells_keeps _ _ _ _ (Heap.get?_push_of_some _ e)
  have still : ∀ {τ' : L2.St} {G' : Hp} {t' : Shared}, Inv (X.blk t3 G3 sc ce fp) [] τ' G' t' → (∀ b ∈ fp, G' b = none) → ∀ b ∈ fp, FpOk (X.blk t3 G3 sc ce fp) [] G' b := fun {_ _ _} J' no b hb =>
    ⟨no b hb, (J'.ok.exf b hb).1, J'.ok.exfs b hb, .inl hb, (J'.ok.exf b hb).2, fun p hp => absurd (show p ∈ ([] : List (Addr × Obj)) ++ [] from hp) (by simp)⟩
  have rounds : codeAny (model X.prog X.w) X.A (.compLoop (.DictComp ke ve [⟨tgt, src, conds, 0⟩] sc p1) 0 (.ref it) (.ref D) ce) (compPost (model X.prog X.w) X.A X.xe use Qf (.ref D) t3.heap.objs.size) t4 := by
    refine compLoop_anyD (fun n t' => ∃ i G', Inv (X.blk t3 G3 sc ce fp) [] (wipe τ (own.map (·.2))) G' t' ∧ tn i t'.heap ∧ (∀ b ∈ fp, G' b = none) ∧ W i n G') (fun n t5 hI => ?_) m0 ⟨0, G3, J4, stands4, away, w0⟩
    obtain ⟨i, G5, J5, stands5, away5, w5⟩ := hI
    rcases turn i n G5 w5 with ⟨halt, done⟩ | ⟨go, Nx, less, step⟩
    · refine thnF (T.done (X.blk t3 G3 sc ce fp) rfl rfl rfl calm i [] t5 _ G5 (fun _ _ => False) J5 (still J5 away5) stands5 halt) fun r t6 ⟨er, J6⟩ => ?_
      subst er
      have J7 : Inv X pp τ G5 t6 := J3.call' (ch := fp) J6.os J6.base J6.hok J6.bare fun b hb => ⟨(f3 b hb).1.2.2.2.1, (f3 b hb).1.2.1, (f3 b hb).1.2.2.2.2.1, (f3 b hb).1.2.2.2.2.2⟩
      have nC : G5 t3.heap.objs.size = none := by
        have z : G5 ce.locals = none := J6.free
        rwa [cel] at z
      obtain ⟨m, hn, -⟩ := J6.loc
      have hn : t6.heap.Ns ce.locals m := hn
      rw [cel] at hn
      exact ends D t3.heap.objs.size t6 m G5 J7 done hn (J3.fpOk (Nat.le_refl _) nC)
    · refine thnF (T.item (X.blk t3 G3 sc ce fp) rfl rfl rfl calm i [] t5 _ G5 (fun _ _ => False) J5 (still J5 away5) stands5 go) fun r t6 ⟨u, er, h6⟩ => ?_
      subst er
      refine thnF h6 fun _ t7 ⟨x, G7, J7, rx, y7, stands7, away7⟩ => ?_
      refine thnF (pg.run _ t7 _ G7 x u _ (J7.pinned (still J7 away7) (T.obj _ _ stands7)) rx (step x G7 y7)) fun _ t8 ⟨τ8, G8, J8, ew, q8⟩ => ?_
      refine thnF (pt.run _ t8 τ8 G8 _ J8 q8) fun b t9 ⟨G9, J9, q9⟩ => ?_
      have fin : ∀ {t' : Shared} {G' : Hp}, Inv (X.blk t3 G3 sc ce fp) ([] ++ pinsAt fp t7.heap) τ8 G' t' → Nx G' → ∃ m, m < n ∧ ∃ i G', Inv (X.blk t3 G3 sc ce fp) [] (wipe τ (own.map (·.2))) G' t' ∧ tn i t'.heap ∧ (∀ b ∈ fp, G' b = none) ∧ W i m G' := fun {t' G'} J' nx => by
        obtain ⟨m', lt, w'⟩ := less G' nx
        have pinned : ∀ b ∈ fp, ∀ o, t7.heap.get? b = some o → t'.heap.get? b = some o ∧ G' b = none := fun b hb o e => by
          have z := J'.pin (b, o) (List.mem_append_right _ (List.mem_append_right _ (mem_pinsAt hb e)))
          exact ⟨z.1, z.2.1⟩
        refine ⟨m', lt, i + 1, G', (J'.unpinned (pins := [])).weak (by rw [← ew, wipe_length]) (fun j v e => ?_), T.keep _ _ _ stands7 fun b hb o e => (pinned b hb o e).1, fun b hb => ?_, w'⟩
        · rw [← ew] at e
          exact (wipe_some e).1
        · obtain ⟨o, e, -⟩ := T.obj _ _ stands7 b hb
          exact (pinned b hb o e).2
      cases b with
      | false => exact fin J9 q9
      | true =>
        refine thnF (pk.run _ t9 τ8 G9 _ J9 q9) fun kv t10 ⟨y, G10, J10, ry, q10⟩ => ?_
        refine thnF (pv.run _ t10 τ8 G10 _ J10 q10) fun vv t11 ⟨z, G11, J11, rz, kvs, k, a, ey, hk, dk, hD, hks, new, hz, nx⟩ => ?_
        subst ey
        cases (show kv = .ref a from ry)
        exact nd_set (X := X.blk t3 G3 sc ce fp) hu J11 hD hks hz hk dk new rz fun t12 J12 => fin J12 nx
  exact codeAny_compStart_dict rounds (T.self X.A 0 _ _ _ stands4 rounds)
theorem pe_dcN {ke ve tgt src : Expr} {conds : List Expr} {sc : Scope} {own : List (Str × Nat)} {p1 : Pos} {wi : TI} {g : TG} {tt : TT} {tk tv : TE} (hu : X.A.units + 64 < cLine) (calm : X.calm = true) (nd : X.N.Nodup) (walks : PI X tgt src wi) (blk : BlkOk X.N X.env.scope sc own)
    (hgt : ∀ (s : Shared) (H : Hp) (C : Addr) (cl : List (Str × Addr)) (fp : List Addr), PG (X.blk s H sc (compEnvC sc cl C X.env) fp) tgt g)
    (hts : ∀ (s : Shared) (H : Hp) (C : Addr) (cl : List (Str × Addr)) (fp : List Addr), PTs (X.blk s H sc (compEnvC sc cl C X.env) fp) conds tt)
    (hke : ∀ (s : Shared) (H : Hp) (C : Addr) (cl : List (Str × Addr)) (fp : List Addr), PE (X.blk s H sc (compEnvC sc cl C X.env) fp) ke tk)
    (hve : ∀ (s : Shared) (H : Hp) (C : Addr) (cl : List (Str × Addr)) (fp : List Addr), PE (X.blk s H sc (compEnvC sc cl C X.env) fp) ve tv)
    (fold : ∀ x, foldedSetIterable src X.env x = pure x := by intro _; rfl) : PE X (.DictComp ke ve [⟨tgt, src, conds, 0⟩] sc p1) (tDcN X.prog X.w wi g tt tk tv (own.map (·.2))) := by
  refine ⟨fun pp t0 τ G Q J0 reads => ?_⟩
  rw [arm_eval_DictComp]
  refine dcn_core hu calm nd J0 walks blk hgt hts hke hve fold reads fun D C t m G' J' q hn f => ⟨m, hn, fun h' same => ?_⟩
  obtain ⟨f0, f1, f2, f3, f4, f5⟩ := f
  exact ⟨.ref D, G', J'.turned (t' := t.toks) (fun b o hb e => (same.2 b hb).trans e) f0 f1 f3 f4 f5, rfl, q⟩
end
end HX
set_option Elab.async false
set_option linter.all false
set_option maxRecDepth 100000
set_option maxHeartbeats 4400000
namespace HX
open L2 PyProof.Rows PySem.Spec PySem
open PySem.W (Frag)
section
variable {X : Cx}
/-- d[k], k there -/
def tDGetN (P : Program) (wd : World) (td ty : TE) : TE := fun τ G Q => td τ G fun x G1 => ty τ G1 fun y G2 =>
  ∃ D kvs k a a' v, x = .ref D ∧ y = .ref a ∧ G2 D = some (NDct P wd D kvs) ∧ NkS G2 kvs ∧ (kvs.map (·.1)).Nodup ∧ Nk G2 k (.ref a) ∧ k.depth ≤ 8 ∧ (k, a', v) ∈ kvs ∧ Q v G2
theorem pe_dgetN {td ty : TE} {o i : Expr} {pos : Pos} (hu : X.A.units + 64 < cLine) (ho : PE X o td) (hi : PE X i ty) (hs : NoSl i) : PE X (.Subscript o i pos) (tDGetN X.prog X.w td ty) := by
  refine ⟨fun pp t τ G Q J h => ?_⟩
  refine subD_of PySem.F.slot_dict_getitem.lookup hs (thn (ho.run pp t τ G _ J h) fun u t1 ⟨x, G1, J1, rx, q1⟩ => thn (hi.run pp t1 τ G1 _ J1 q1) fun iv t2 ⟨y, G2, J2, ry, D, kvs, k, a, a', v, ex, ey, hD, ks, nd, hk, dk, hm, q2⟩ => ?_)
  subst ex ey
  cases (show u = Value.ref D from rx)
  cases (show iv = Value.ref a from ry)
  obtain ⟨ys, hp, dd⟩ := nd_dict J2 hD ks
  obtain ⟨j, hj⟩ := List.mem_iff_getElem?.mp hm
  obtain ⟨q, hq, e1, e2, rv⟩ := paired_got hp hj
  have nd2 : (ys.map (·.1)).Nodup := by rw [(paired_fst hp).1]; exact nd
  obtain ⟨q1, qa, qv⟩ := q
  cases (show k = q1 from e1)
  refine ⟨dd.typeIs, wpAny_getItem_heap (knd := nestedKind X.prog X.w) (k := k) (p := (qa, qv)) (by show X.A.units + 1 + 8 < cLine; omega) ⟨nk_is J2 _ _ _ hk rfl, dk⟩ dd (atKey_of_get nd2 hq) ?_⟩
  exact ⟨v, G2, J2.tok _, rv, q2⟩
end
/-- a comprehension over J: turn i stores v i under the key f i -/
def DnGoal (P : Program) (wd : World) (J : It) (g : TG) (tt : TT) (tk tv : TE) (vs : List Nat) (τ : L2.St) (G1 : Hp) (D : Addr) (Qd : Hp → Prop) : Prop :=
  ∃ W : Nat → Nat → Hp → Prop, (∃ m, W 0 m (upd G1 D (NDct P wd D []))) ∧ ∀ i m G2, W i m G2 →
    (J.stop i G2 ∧ Qd G2) ∨
      (J.go i G2 ∧ ∃ Nx : Hp → Prop, (∀ G3, Nx G3 → ∃ m', m' < m ∧ W (i + 1) m' G3) ∧
        ∀ x G3, J.yld i G2 x G3 → g x (wipe τ vs) G3 fun τ4 G4 => wipe τ4 vs = wipe τ vs ∧
          tt τ4 G4 fun b G5 => if b = true then tk τ4 G5 fun y G6 => tv τ4 G6 fun z G7 =>
            ∃ kvs k a, y = .ref a ∧ Nk G7 k (.ref a) ∧ k.depth ≤ 8 ∧ G7 D = some (NDct P wd D kvs) ∧ NkS G7 kvs ∧ k ∉ kvs.map (·.1) ∧ kvs.length < sizeLine ∧ Nx (upd G7 D (NDct P wd D (kvs ++ [(k, a, z)])))
          else Nx G5)
theorem nd_ne {P : Program} {wd : World} {D a : Addr} {kvs : List (NestedKey × Addr × V)} {H : Hp} {xs : List V} (h : H a = some (.tup xs)) (hD : H D = some (NDct P wd D kvs)) : a ≠ D := ne_of h hD (by unfold NDct; intro z; cases z)
theorem nd_te {P : Program} {wd : World} {D : Addr} {kvs : List (NestedKey × Addr × V)} {H : Hp} {o : HO} (hD : H D = some (NDct P wd D kvs)) : ∀ a xs, H a = some (.tup xs) → upd H D o a = some (.tup xs) := fun a xs h => by rw [upd_ne (nd_ne h hD)]; exact h
theorem dn_it {P : Program} {wd : World} {J : It} {n : Nat} {Gd : Hp → Prop} {Y : Nat → Hp → V → Hp → Prop} {g : TG} {tk tv : TE} {vs : List Nat} {τ : L2.St} {G1 : Hp} {D : Addr} {Qd : Hp → Prop} (w : Walk J n Gd Y) (f : Nat → NestedKey) (R : Nat → V → Prop) (hn : n < sizeLine) (inj : ∀ i j, i < n → j < n → f i = f j → i = j) (dp : ∀ i, i < n → (f i).depth ≤ 8) (nD : G1 D = none) (hG : ∀ H, Ex G1 H → Gd H)
    (hs : ∀ (i : Nat) (x : V) (H H' : Hp) (Kq : V → V → Hp → Prop), i < n → Ex G1 H → Y i H x H' → (∀ a z H4, Ex H H4 → Nk H4 (f i) (.ref a) → R i z → Kq (.ref a) z H4) → g x (wipe τ vs) H' fun τ2 H2 => wipe τ2 vs = wipe τ vs ∧ tk τ2 H2 fun y H3 => tv τ2 H3 fun z H4 => Kq y z H4)
    (hd : ∀ H kvs, Ex G1 H → H D = some (NDct P wd D kvs) → NkS H kvs → kvs.length = n → (∀ i p, kvs[i]? = some p → p.1 = f i ∧ R i p.2.2) → Qd H) : DnGoal P wd J g tYes tk tv vs τ G1 D Qd := by
  refine ⟨fun i m H => m = n - i ∧ i ≤ n ∧ Ex G1 H ∧ ∃ kvs, H D = some (NDct P wd D kvs) ∧ NkS H kvs ∧ kvs.length = i ∧ ∀ j p, kvs[j]? = some p → p.1 = f j ∧ R j p.2.2, ⟨n, by simp, Nat.zero_le _, Ex.nw nD, [], upd_same, (fun p hp => by cases hp), rfl, fun j p h => by cases h⟩, ?_⟩
  rintro i m H ⟨rfl, hi, e, kvs, hD, hk, hl, hp⟩
  have q := hG H e
  by_cases hlt : i < n
  · refine .inr ⟨w.goes i H hlt q, fun H' => i + 1 ≤ n ∧ Ex G1 H' ∧ ∃ kvs, H' D = some (NDct P wd D kvs) ∧ NkS H' kvs ∧ kvs.length = i + 1 ∧ ∀ j p, kvs[j]? = some p → p.1 = f j ∧ R j p.2.2, fun H' p' => ⟨n - (i + 1), by omega, rfl, p'⟩, fun x H' y => ?_⟩
    refine hs i x H H' _ hlt e (w.yields i H x H' hlt q y) fun a z H4 e4 k4 r4 => ?_
    have hD4 := e4 _ _ hD
    have k5 := hk.te (Ex.te e4)
    refine ⟨kvs, f i, a, rfl, k4, dp i hlt, hD4, k5, fun hm => ?_, by omega, hlt, ex_mu (e.tr e4) nD, _, upd_same, ?_, by rw [List.length_append, hl]; rfl, fun j p hj => ?_⟩
    · obtain ⟨p, hp1, hp2⟩ := List.mem_map.mp hm
      obtain ⟨j, hj⟩ := List.mem_iff_getElem?.mp hp1
      have lj := (List.getElem?_eq_some_iff.mp hj).1
      have := inj j i (by omega) hlt ((hp j p hj).1.symm.trans hp2)
      omega
    · intro p hp1
      rcases List.mem_append.mp hp1 with h | h
      · exact (k5.te (nd_te hD4)) p h
      · rw [List.mem_singleton.mp h]
        exact ⟨Nk.te (nd_te hD4) _ _ k4, dp i hlt⟩
    · by_cases hjl : j < kvs.length
      · rw [List.getElem?_append_left hjl] at hj
        exact hp j p hj
      · rw [List.getElem?_append_right (by omega)] at hj
        have hj0 : j - kvs.length = 0 := by
          have := (List.getElem?_eq_some_iff.mp hj).1
          simp at this
          omega
        have hji : j = i := by omega
        rw [hj0] at hj
        cases hj
        rw [hji]
        exact ⟨rfl, r4⟩
  · have : i = n := by omega
    subst this
    exact .inl ⟨w.stops H q, hd H kvs e hD hk hl hp⟩
end HX
set_option Elab.async false
set_option linter.all false
set_option maxRecDepth 100000
set_option maxHeartbeats 4400000
namespace HX
open PySem PySem.Spec PyProof.Rows L2
open PySem.W (Frag)

/-! ### slices of tuples that hold plain data -/
theorem sl_tupAK {X : Cx} {K : Frag} (hK : X.K = K) : SlR X (rSlA K) := hK ▸ sl_tupA
theorem TzL.sub {H : Hp} {xs : List V} {ds : List PyData} (h : TzL H xs ds) (i j : Nat) : TzL H ((xs.drop i).take j) ((ds.drop i).take j) := by
  refine ⟨by rw [List.length_take, List.length_take, List.length_drop, List.length_drop, h.1], fun n v d a b => ?_⟩
  rw [List.getElem?_take] at a b
  by_cases hn : n < j
  · rw [if_pos hn, List.getElem?_drop] at a b
    exact h.2 _ v d a b
  · rw [if_neg hn] at a; cases a
theorem slTz {K : Frag} {H : Hp} {p : Addr} {xs : List V} {ds : List PyData} {lo hi : Option Int} {Q : VK} {i j : Nat} (hp : H p = some (.tup xs)) (hx : TzL H xs ds) (hi1 : HT.sIx xs.length 0 lo = i) (hi2 : HT.sIx xs.length xs.length hi = j)
    (k : ∀ v H', Ex H H' → Tz H' v (.tuple ((ds.drop i).take (j - i))) → Q v H') : rSlA K (.ref p) lo hi H Q := by
  refine ⟨p, xs, rfl, SqT.of hp, fun ⟨e1, e2⟩ => k _ _ (Ex.rf _) ?_, fun _ q nq => k _ _ (Ex.nw nq) ?_⟩
  · rw [hi1] at e1; rw [hi2] at e2
    subst e1; subst e2
    rw [List.drop_zero, Nat.sub_zero, hx.1, List.take_length]
    exact hx.tup hp
  · have := hx.sub i (j - i)
    unfold cutV
    rw [hi1, hi2]
    exact (this.ex (Ex.nw nq)).tup upd_same
/-- t[:n] -/
theorem slTo {K : Frag} {H : Hp} {p : Addr} {xs : List V} {ds : List PyData} {n : Nat} {Q : VK} (hp : H p = some (.tup xs)) (hx : TzL H xs ds) (k : ∀ v H', Ex H H' → Tz H' v (.tuple (ds.take n)) → Q v H') : rSlA K (.ref p) none (some (n : Int)) H Q := by
  refine slTz hp hx (HT.sIx_none ..) (HT.sIx_nat ..) fun v H' e t => k v H' e ?_
  have : (ds.drop 0).take (min n xs.length - 0) = ds.take n := by
    rw [List.drop_zero, Nat.sub_zero, hx.1]
    by_cases h : n ≤ ds.length
    · rw [Nat.min_eq_left h]
    · rw [Nat.min_eq_right (by omega), List.take_length, List.take_of_length_le (by omega)]
  rwa [this] at t
/-- t[n:] -/
theorem slFrom {K : Frag} {H : Hp} {p : Addr} {xs : List V} {ds : List PyData} {n : Nat} {Q : VK} (hp : H p = some (.tup xs)) (hx : TzL H xs ds) (k : ∀ v H', Ex H H' → Tz H' v (.tuple (ds.drop n)) → Q v H') : rSlA K (.ref p) (some (n : Int)) none H Q := by
  refine slTz hp hx (HT.sIx_nat ..) (HT.sIx_none ..) fun v H' e t => k v H' e ?_
  have : (ds.drop (min n xs.length)).take (xs.length - min n xs.length) = ds.drop n := by
    rw [hx.1]
    by_cases h : n ≤ ds.length
    · rw [Nat.min_eq_left h, List.take_of_length_le (by rw [List.length_drop]; omega)]
    · rw [Nat.min_eq_right (by omega), List.drop_length, List.take_nil, List.drop_eq_nil_of_le (by omega)]
  rwa [this] at t
end HX
set_option Elab.async false
set_option linter.all false
set_option maxRecDepth 100000
set_option maxHeartbeats 4400000
namespace HX
open PySem PySem.Spec PyProof.Rows L2
open PySem.W (Frag)

/-! ### zip of a list and a tuple (the library has zip of two lists and of two tuples) -/
/-- the list at a and the tuple at b, step by step -/
def ItzM (K : Frag) (a b : Addr) : It where
  go := fun i H => ∃ (xs ys : List V) (x y : V), (SqL K H a xs ∧ xs[i]? = some x) ∧ SqT K H b ys ∧ ys[i]? = some y
  yld := fun i H v H' => ∃ T x y, (v = .ref T ∧ H T = none ∧ H' = upd H T (.tup [x, y])) ∧ (∀ xs, SqL K H a xs → xs[i]? = some x) ∧ ∀ ys, SqT K H b ys → ys[i]? = some y
  stop := fun i H => ∃ xs ys : List V, (SqL K H a xs ∧ SqT K H b ys) ∧ min xs.length ys.length = i
theorem sep_of {z TI TO i1 i2 a b : Addr} (D : ZipApart z TI TO i1 i2 a b) : ZipSep2 z TI TO i1 i2 [i1, a] [i2, b] := by
  have n : ∀ {c d e : Addr}, c ≠ d → c ≠ e → c ∉ [d, e] := fun h1 h2 q => by
    rcases List.mem_cons.mp q with q | q
    · exact h1 q
    · exact h2 (List.mem_singleton.mp q)
  exact ⟨D.TIz, D.TOz, D.TITO, D.TIi1, List.mem_cons_self .., n D.i1z.symm D.l1z.symm, n D.TOi1 D.l1TO.symm, D.TIi2, List.mem_cons_self .., n D.i2z.symm D.l2z.symm, n D.TOi2 D.l2TO.symm, n D.i12 D.l2i1.symm, n D.i12.symm D.l1i2.symm⟩
/-- the five cells of a zip over a list and a tuple -/
def StM (z TI TO i1 i2 a b : Addr) (i : Nat) (h : Heap) : Prop := (IsZip h z TI TO .none ∧ IsPair h TI (.ref i1) (.ref i2) ∧ ∃ x y, IsPair h TO x y) ∧ h.IsListIter i1 a i ∧ h.IsTupleIter i2 b i
theorem five {z TI TO i1 i2 c : Addr} {p : Addr → Prop} (h : c ∈ [z, TI, TO, i1, i2]) (h1 : p z) (h2 : p TI) (h3 : p TO) (h4 : p i1) (h5 : p i2) : p c := by
  simp only [List.mem_cons, List.not_mem_nil, or_false] at h
  rcases h with rfl | rfl | rfl | rfl | rfl <;> assumption
theorem turn_zipM {P : Program} {w : World} {K : Frag} {elts : List Expr} {kk : Nat} {tpos : Pos} {a b z TI TO i1 i2 : Addr} (D : ZipApart z TI TO i1 i2 a b) :
    Turn P w K (.Tuple elts kk tpos) (ItzM K a b) [z, TI, TO, i1, i2] z (StM z TI TO i1 i2 a b) where
  mem := List.mem_cons_self ..
  obj := fun i h st c hc => by
    obtain ⟨⟨g1, g2, x, y, g3⟩, ⟨o4, g4, _, d4⟩, ⟨o5, g5, _, d5⟩⟩ := st
    refine five (p := fun c => ∃ o, h.get? c = some o ∧ ∀ v : Option Value, o.data ≠ Data.cell v) hc ?_ ?_ ?_ ?_ ?_
    · exact ⟨_, g1, fun v q => nomatch q⟩
    · exact ⟨_, g2, fun v q => nomatch q⟩
    · exact ⟨_, g3, fun v q => nomatch q⟩
    · exact ⟨o4, g4, fun v q => by rw [d4] at q; cases q⟩
    · exact ⟨o5, g5, fun v q => by rw [d5] at q; cases q⟩
  keep := fun i h h' ⟨⟨g1, g2, x, y, g3⟩, g4, g5⟩ k => ⟨⟨k _ (by simp) _ g1, k _ (by simp) _ g2, x, y, k _ (by simp) _ g3⟩, g4.at fun o q => k _ (by simp) o q, g5.at fun o q => k _ (by simp) o q⟩
  item := by
    intro X hP hw hK hc i pins s σ H E I hf st hg
    subst hP hw hK
    obtain ⟨⟨g1, g2, x0, y0, g3⟩, g4, g5⟩ := st
    obtain ⟨xs, ys, x, y, ⟨hqx, hx⟩, hqy, hy⟩ := hg
    obtain ⟨us, ru, pl, _⟩ := I.list hqx
    obtain ⟨vs, rv, pt, _⟩ := I.tuple hqy
    obtain ⟨u, hu, rxu⟩ := ru.get hx
    obtain ⟨v, hv, ryv⟩ := rv.get hy
    have hzl : z < s.heap.objs.size := Heap.lt_size g1
    have lt1 : i < us.length := (List.getElem?_eq_some_iff.mp hu).1
    have lt2 : i < vs.length := (List.getElem?_eq_some_iff.mp hv).1
    refine wpAny_pyNext_zipD2_item (sep_of D) (Draws.list (A := X.A.in1) (I.ok.hd hc) i1 a D.l1i1 us.toArray) (Draws.tuple (A := X.A.in1) (I.ok.hd hc) i2 b D.l2i2 vs.toArray) g1 g2 g3 ⟨g4, pl.isList⟩ ⟨g5, pt⟩ (by simpa using lt1) (by simpa using lt2) fun x1 x2 h' tk e1 e2 z' TO' st1 st2 hT hsz hk => ?_
    obtain rfl : u = x1 := by simpa [hu] using e1
    obtain rfl : v = x2 := by simpa [hv] using e2
    refine ⟨_, rfl, wpAny_letOwnedTupleGo_zip (s := { s with heap := h', toks := tk }) z' fun h'' z'' sb => ?_⟩
    have hT2 := (sb.2 _ (Nat.ne_of_gt hzl)).trans hT
    have new : ObjOk X.prog X.w (upd H s.heap.objs.size (.tup [x, y])) h'' s.heap.objs.size (.tup [x, y]) :=
      ⟨by show 2 ≤ sizeLine; decide, [u, v], .cons rxu (.cons ryv .nil), ⟨_, hT2, rfl, _, rfl⟩⟩
    have I1 : Inv X pins σ (upd H s.heap.objs.size (.tup [x, y])) { s with heap := h'', toks := tk } :=
      I.turnedNew (t' := tk) (ch := [z, TI, TO, i1, i2]) (fun c o hb q => (sb.2 c fun q' => hb (by simp [q'])).trans (hk c o (fun q' => hb (by simp [q'])) (fun q' => hb (by simp [q'])) (fun q' => hb (by simp [q'])) (fun q' => hb (by simp [q'])) q)) hf (Nat.le_refl _) new
    refine ⟨.ref s.heap.objs.size, _, I1, rfl, ⟨_, x, y, ⟨rfl, I.hok.fresh (Nat.le_refl _), rfl⟩, fun l hl => by rw [I.list_inj hl hqx]; exact hx, fun l hl => by rw [I.tuple_inj hl hqy]; exact hy⟩, ⟨⟨z'', (sb.2 _ D.TIz).trans (hk _ _ D.TIz D.TITO D.TIi1 D.TIi2 g2), u, v, (sb.2 _ D.TOz).trans TO'⟩, st1.1.at fun o q => (sb.2 _ D.i1z).trans q, st2.1.at fun o q => (sb.2 _ D.i2z).trans q⟩, fun c hcm => ?_⟩
    have hlt : c < s.heap.objs.size := by
      obtain ⟨_, q4, _⟩ := g4
      obtain ⟨_, q5, _⟩ := g5
      exact five (p := fun c => c < s.heap.objs.size) hcm hzl (Heap.lt_size g2) (Heap.lt_size g3) (Heap.lt_size q4) (Heap.lt_size q5)
    rw [upd_ne (Nat.ne_of_lt hlt)]
    exact (hf c hcm).1
  done := by
    intro X hP hw hK hc i pins s σ H E I hf st hg
    subst hP hw hK
    obtain ⟨⟨g1, g2, x0, y0, g3⟩, g4, g5⟩ := st
    obtain ⟨xs, ys, ⟨hqx, hqy⟩, rfl⟩ := hg
    obtain ⟨us, ru, pl, _⟩ := I.list hqx
    obtain ⟨vs, rv, pt, _⟩ := I.tuple hqy
    have l1 := ru.length
    have l2 := rv.length
    have s1 : us.toArray.size = us.length := List.size_toArray ..
    have s2 : vs.toArray.size = vs.length := List.size_toArray ..
    refine wpAny_pyNext_zipD2_end (sep_of D) (Draws.list (A := X.A.in1) (I.ok.hd hc) i1 a D.l1i1 us.toArray) (Draws.tuple (A := X.A.in1) (I.ok.hd hc) i2 b D.l2i2 vs.toArray) g1 g2 g3 ⟨g4, pl.isList⟩ ⟨g5, pt⟩ (by omega) (by omega) (by omega) fun h' tk hk => ⟨rfl, I.turnedL (t' := tk) (ch := [z, TI, TO, i1, i2]) (fun c o hb q =>
      hk c o (fun q' => hb (by simp [q'])) (fun q' => hb (by simp [q'])) (fun q' => hb (by simp [q'])) (fun q' => hb (by simp [q'])) q) hf⟩
  self := fun A i s Q E st h => wpAny_pyIter_zip st.1.1 h
def iZipM (K : Frag) (ta : TA) : TI := fun σ H R => ta σ H fun vs H1 => ∃ a b xs ys, vs = [.ref a, .ref b] ∧ SqL K H1 a xs ∧ SqT K H1 b ys ∧ R (ItzM K a b) H1
theorem pi_zipM {X : Cx} {e e2 : Expr} {ta : TA} {p pos tpos : Pos} {elts : List Expr} {kk : Nat} (hg : Gl X "zip") (hm : X.mg "zip" = none) (ha : PA X [e, e2] ta)
    (hs : starEach [e, e2] X.env = (false, eval e X.env) :: starEach [e2] X.env := by rfl) (hpl : (backTo pos (starEach [e2] X.env)).any (·.1) = false := by rfl) :
    PI X (.Tuple elts kk tpos) (.Call (.Name "zip" p) [e, e2] [] pos) (iZipM X.K ta) := by
  refine ⟨fun pins s σ H R I h => ?_⟩
  refine Call_ (ld_blt I hg hm PyProof.Rows.boot_zip (PyProof.Rows.callWith_type1 (thn (ha.run pos pins s σ H _ I h) fun us s1 ⟨vs, H1, I1, r1, q1⟩ => ?_) hs hpl))
  obtain ⟨a, b, xs, ys, rfl, hqx, hqy, q⟩ := q1
  obtain ⟨u1, u2, rfl, e1, e2⟩ : ∃ u1 u2, us = [u1, u2] ∧ u1 = Value.ref a ∧ u2 = Value.ref b := by
    cases r1 with
    | cons r rr =>
      cases rr with
      | cons r' rr => cases rr; exact ⟨_, _, rfl, r, r'⟩
  subst e1; subst e2
  obtain ⟨its, rv, p1, _⟩ := I1.list hqx
  obtain ⟨its2, rv2, p2, _⟩ := I1.tuple hqy
  obtain ⟨o1, ho1, _⟩ := id p1.isList
  obtain ⟨o2, ho2, _⟩ := id p2
  refine zip_begins2 (begins_list a its.toArray) (begins_tuple b its2.toArray) p1.isList p2 fun h' hz hTI hTO h1 h2 hsz hk => wpAny_pyIter_zip hz ?_
  have I2 : Inv X pins σ H1 { s1 with heap := h' } := I1.kept (t' := s1.toks) hk
  refine ⟨s1.heap.objs.size + 4, [s1.heap.objs.size + 4, s1.heap.objs.size + 2, s1.heap.objs.size + 3, s1.heap.objs.size, s1.heap.objs.size + 1], _, _, H1, rfl, I2, turn_zipM (PySem.W.ktu_apart s1.heap.objs.size a b (Heap.lt_size ho1) (Heap.lt_size ho2)), ⟨⟨hz, hTI, _, _, hTO⟩, ⟨_, h1, rfl, rfl⟩, ⟨_, h2, rfl, rfl⟩⟩, fun c hcm => ?_, q⟩
  have hle : s1.heap.objs.size ≤ c := five (p := fun c => s1.heap.objs.size ≤ c) hcm (Nat.le_add_right _ _) (Nat.le_add_right _ _) (Nat.le_add_right _ _) (Nat.le_refl _) (Nat.le_add_right _ _)
  exact I1.fpOk hle (I1.hok.fresh hle)
theorem walk_zipM {K : Frag} {a b : Addr} {xs ys : List V} {n : Nat} (hn : n = min xs.length ys.length) : Walk (ItzM K a b) n (fun H => SqL K H a xs ∧ SqT K H b ys) (YPair (fun i => xs[i]?) (fun i => ys[i]?)) :=
  ⟨fun i H hi q => ⟨xs, ys, xs[i]'(by omega), ys[i]'(by omega), ⟨q.1, List.getElem?_eq_getElem _⟩, q.2, List.getElem?_eq_getElem _⟩, fun H q => ⟨xs, ys, q, hn.symm⟩,
   fun i H v H' _ q ⟨T, x, z, ⟨h1, h2, h3⟩, h4, h5⟩ => ⟨T, x, z, h1, h2, h3, h4 xs q.1, h5 ys q.2⟩⟩
end HX
set_option Elab.async false
set_option linter.all false
set_option maxRecDepth 100000
set_option maxHeartbeats 4400000
namespace HX
open PySem PySem.Spec PyProof.Rows L2
/-! as HX30 and HX33's first part, with None -/
mutual
def plainN : PyData → Bool
  | .int i => decide (0 ≤ i) && decide (i ≤ 9)
  | .str z => letters z
  | .tuple ds => plainNs ds
  | .none => true
  | _ => false
def plainNs : List PyData → Bool
  | [] => true
  | d :: r => plainN d && plainNs r
end
theorem plainNs_mem : ∀ {ds : List PyData}, plainNs ds = true → ∀ d ∈ ds, plainN d = true
  | d :: r, h, x, hx => by
    obtain ⟨h1, h2⟩ := Bool.and_eq_true_iff.mp (show (plainN d && plainNs r) = true from h)
    rcases List.mem_cons.mp hx with e | e
    · rw [e]; exact h1
    · exact plainNs_mem h2 x e
def PFN (x : PyData) : Prop := ∀ y, plainN y = true → ∀ r1 r2 : List Nat, ch x.shown ++ r1 = ch y.shown ++ r2 → x = y ∧ r1 = r2
theorem bt_pfN : ∀ {l1 l2 : List PyData} {r1 r2 : List Nat}, l1 ≠ [] → l2 ≠ [] → (∀ x ∈ l1, PFN x) → plainNs l2 = true → bt l1 ++ r1 = bt l2 ++ r2 → l1 = l2 ∧ r1 = r2
  | [x], [y], r1, r2, _, _, hp, hl, h => by
    have hy : plainN y = true := plainNs_mem hl y (.head _)
    have h : (ch x.shown ++ [41]) ++ r1 = (ch y.shown ++ [41]) ++ r2 := h
    rw [List.append_assoc, List.append_assoc] at h
    obtain ⟨e, q⟩ := hp x (.head _) y hy _ _ h
    simp at q
    exact ⟨by rw [e], q⟩
  | [x], y :: z :: s, r1, r2, _, _, hp, hl, h => by
    have hy : plainN y = true := plainNs_mem hl y (.head _)
    have h : (ch x.shown ++ [41]) ++ r1 = (ch y.shown ++ 44 :: 32 :: bt (z :: s)) ++ r2 := h
    rw [List.append_assoc, List.append_assoc] at h
    obtain ⟨e, q⟩ := hp x (.head _) y hy _ _ h
    simp at q
  | x :: w :: t, [y], r1, r2, _, _, hp, hl, h => by
    have hy : plainN y = true := plainNs_mem hl y (.head _)
    have h : (ch x.shown ++ 44 :: 32 :: bt (w :: t)) ++ r1 = (ch y.shown ++ [41]) ++ r2 := h
    rw [List.append_assoc, List.append_assoc] at h
    obtain ⟨e, q⟩ := hp x (.head _) y hy _ _ h
    simp at q
  | x :: w :: t, y :: z :: s, r1, r2, _, _, hp, hl, h => by
    have hy : plainN y = true := plainNs_mem hl y (.head _)
    have h : (ch x.shown ++ 44 :: 32 :: bt (w :: t)) ++ r1 = (ch y.shown ++ 44 :: 32 :: bt (z :: s)) ++ r2 := h
    rw [List.append_assoc, List.append_assoc] at h
    obtain ⟨e, q⟩ := hp x (.head _) y hy _ _ h
    simp only [List.cons_append, List.cons.injEq, true_and] at q
    obtain ⟨e1, e2⟩ := bt_pfN (l1 := w :: t) (l2 := z :: s) (by simp) (by simp) (fun u hu => hp u (.tail _ hu)) (Bool.and_eq_true_iff.mp (show (plainN y && plainNs (z :: s)) = true from hl)).2 q
    exact ⟨by rw [e, e1], e2⟩
theorem first_signN {y : PyData} (h : plainN y = true) : (∃ i : Int, y = .int i ∧ 0 ≤ i ∧ i ≤ 9 ∧ ch y.shown = [48 + i.toNat]) ∨ (∃ z : Str, y = .str z ∧ letters z = true ∧ ch y.shown = 39 :: (ch z ++ [39])) ∨ (∃ ds, y = .tuple ds ∧ plainNs ds = true) ∨ (y = .none ∧ ch y.shown = [78, 111, 110, 101]) := by
  cases y with
  | int i =>
    obtain ⟨h1, h2⟩ := Bool.and_eq_true_iff.mp (show (decide (0 ≤ i) && decide (i ≤ 9)) = true from h)
    exact .inl ⟨i, rfl, of_decide_eq_true h1, of_decide_eq_true h2, ch_digit (of_decide_eq_true h1) (of_decide_eq_true h2)⟩
  | str z => exact .inr (.inl ⟨z, rfl, h, ch_repr h⟩)
  | tuple ds => exact .inr (.inr (.inl ⟨ds, rfl, h⟩))
  | none => exact .inr (.inr (.inr ⟨rfl, by decide +kernel⟩))
  | bool b => cases h
  | list xs => cases h
  | dict kvs => cases h
theorem item_headN {y : PyData} (h : plainN y = true) : ∃ c t, ch y.shown = c :: t ∧ c ≠ 41 := by
  rcases first_signN h with ⟨i, rfl, h0, h9, e⟩ | ⟨z, rfl, hz, e⟩ | ⟨ds, rfl, hd⟩ | ⟨rfl, e⟩
  · exact ⟨_, _, e, by omega⟩
  · exact ⟨_, _, e, by decide⟩
  · obtain ⟨t, e⟩ := ch_tuple_head ds
    exact ⟨_, _, e, by decide⟩
  · exact ⟨_, _, e, by decide⟩
theorem tup_pfN {ds : List PyData} (hds : plainNs ds = true) (hp : ∀ x ∈ ds, PFN x) : PFN (.tuple ds) := by
  intro y hy r1 r2 h
  rcases first_signN hy with ⟨i, rfl, h0, h9, e⟩ | ⟨z, rfl, hz, e⟩ | ⟨es, rfl, he⟩ | ⟨rfl, e⟩
  rotate_right
  · obtain ⟨t, et⟩ := ch_tuple_head ds
    rw [et, e] at h
    simp only [List.cons_append, List.cons.injEq] at h
    omega
  · obtain ⟨t, et⟩ := ch_tuple_head ds
    rw [et, e] at h
    simp only [List.cons_append, List.cons.injEq] at h
    omega
  · obtain ⟨t, et⟩ := ch_tuple_head ds
    rw [et, e] at h
    simp only [List.cons_append, List.cons.injEq] at h
    omega
  · match ds, es, hds, hp, he, h with
    | [], [], _, _, _, h =>
      simp only [ch_tuple0, List.cons_append, List.cons.injEq, List.nil_append, true_and] at h
      exact ⟨rfl, h⟩
    | [], [y], _, _, he, h =>
      obtain ⟨c, t, e1, e2⟩ := item_headN (plainNs_mem he y (.head _))
      rw [ch_tuple0, ch_tuple1, e1] at h
      simp only [List.cons_append, List.cons.injEq, true_and] at h
      exact absurd h.1.symm e2
    | [], y :: y2 :: s, _, _, he, h =>
      obtain ⟨c, t, e1, e2⟩ := item_headN (plainNs_mem he y (.head _))
      rw [ch_tuple0, ch_tuple2] at h
      have : bt (y :: y2 :: s) = ch y.shown ++ 44 :: 32 :: bt (y2 :: s) := rfl
      rw [this, e1] at h
      simp only [List.cons_append, List.cons.injEq, true_and] at h
      exact absurd h.1.symm e2
    | [x], [], hds, hp, _, h =>
      obtain ⟨c, t, e1, e2⟩ := item_headN (plainNs_mem hds x (.head _))
      rw [ch_tuple0, ch_tuple1, e1] at h
      simp only [List.cons_append, List.cons.injEq, true_and] at h
      exact absurd h.1 e2
    | [x], [y], _, hp, he, h =>
      rw [ch_tuple1, ch_tuple1] at h
      simp only [List.cons_append, List.cons.injEq, true_and, List.append_assoc, List.nil_append] at h
      obtain ⟨e, q⟩ := hp x (.head _) y (plainNs_mem he y (.head _)) _ _ h
      simp only [List.cons.injEq, true_and] at q
      exact ⟨by rw [e], q⟩
    | [x], y :: y2 :: s, _, hp, he, h =>
      rw [ch_tuple1, ch_tuple2] at h
      have e3 : bt (y :: y2 :: s) = ch y.shown ++ 44 :: 32 :: bt (y2 :: s) := rfl
      rw [e3] at h
      simp only [List.cons_append, List.cons.injEq, true_and, List.append_assoc, List.nil_append] at h
      obtain ⟨e, q⟩ := hp x (.head _) y (plainNs_mem he y (.head _)) _ _ h
      simp at q
    | x :: x2 :: t, [], hds, hp, he, h =>
      obtain ⟨c, t2, e1, e2⟩ := item_headN (plainNs_mem hds x (.head _))
      rw [ch_tuple0, ch_tuple2] at h
      have : bt (x :: x2 :: t) = ch x.shown ++ 44 :: 32 :: bt (x2 :: t) := rfl
      rw [this, e1] at h
      simp only [List.cons_append, List.cons.injEq, true_and] at h
      exact absurd h.1 e2
    | x :: x2 :: t, [y], _, hp, he, h =>
      rw [ch_tuple1, ch_tuple2] at h
      have e3 : bt (x :: x2 :: t) = ch x.shown ++ 44 :: 32 :: bt (x2 :: t) := rfl
      rw [e3] at h
      simp only [List.cons_append, List.cons.injEq, true_and, List.append_assoc, List.nil_append] at h
      obtain ⟨e, q⟩ := hp x (.head _) y (plainNs_mem he y (.head _)) _ _ h
      simp at q
    | x :: x2 :: t, y :: y2 :: s, _, hp, he, h =>
      rw [ch_tuple2, ch_tuple2] at h
      simp only [List.cons_append, List.cons.injEq, true_and] at h
      obtain ⟨e1, e2⟩ := bt_pfN (by simp) (by simp) hp he h
      exact ⟨by rw [e1], e2⟩
theorem shown_pfN : ∀ (n : Nat) (x : PyData), x.weight < n → plainN x = true → PFN x := by
  intro n
  induction n with
  | zero => intro x hw; exact absurd hw (Nat.not_lt_zero _)
  | succ n ih =>
    intro x hw hx
    rcases first_signN hx with ⟨i, rfl, h0, h9, e⟩ | ⟨z, rfl, hz, e⟩ | ⟨ds, rfl, hd⟩ | ⟨rfl, e⟩
    rotate_right
    · intro y hy r1 r2 h
      rcases first_signN hy with ⟨j, rfl, k0, k9, f⟩ | ⟨z2, rfl, hz2, f⟩ | ⟨es, rfl, he⟩ | ⟨rfl, f⟩
      · rw [e, f] at h
        simp only [List.cons_append, List.cons.injEq] at h
        omega
      · rw [e, f] at h
        simp only [List.cons_append, List.cons.injEq] at h
        omega
      · obtain ⟨t, et⟩ := ch_tuple_head es
        rw [e, et] at h
        simp only [List.cons_append, List.cons.injEq] at h
        omega
      · exact ⟨rfl, List.append_cancel_left h⟩
    · intro y hy r1 r2 h
      rcases first_signN hy with ⟨j, rfl, k0, k9, f⟩ | ⟨z2, rfl, hz2, f⟩ | ⟨es, rfl, he⟩ | ⟨rfl, f⟩
      rotate_right
      · rw [e, f] at h
        simp only [List.cons_append, List.cons.injEq] at h
        omega
      · rw [e, f] at h
        simp only [List.cons_append, List.cons.injEq, List.nil_append] at h
        have : i = j := by omega
        exact ⟨by rw [this], h.2⟩
      · rw [e, f] at h
        simp only [List.cons_append, List.cons.injEq] at h
        omega
      · obtain ⟨t, et⟩ := ch_tuple_head es
        rw [e, et] at h
        simp only [List.cons_append, List.cons.injEq] at h
        omega
    · intro y hy r1 r2 h
      rcases first_signN hy with ⟨j, rfl, k0, k9, f⟩ | ⟨z2, rfl, hz2, f⟩ | ⟨es, rfl, he⟩ | ⟨rfl, f⟩
      rotate_right
      · rw [e, f] at h
        simp only [List.cons_append, List.cons.injEq] at h
        omega
      · rw [e, f] at h
        simp only [List.cons_append, List.cons.injEq] at h
        omega
      · rw [e, f] at h
        simp only [List.cons_append, List.cons.injEq, List.append_assoc, List.nil_append, true_and] at h
        obtain ⟨e1, e2⟩ := str_split hz hz2 h
        have : z = z2 := by
          have e3 : z.cps = z2.cps := Array.ext' e1
          cases z; cases z2; simp_all
        exact ⟨by rw [this], e2⟩
      · obtain ⟨t, et⟩ := ch_tuple_head es
        rw [e, et] at h
        simp only [List.cons_append, List.cons.injEq] at h
        omega
    · refine tup_pfN hd fun y hy => ih y ?_ (plainNs_mem hd y hy)
      have := wt_memL hy
      have e : (PyData.tuple ds).weight = PyData.weightAll ds := by simp only [PyData.weight]
      omega
/-- repr tells such data apart -/
theorem shown_oneN {x y : PyData} (hx : plainN x = true) (hy : plainN y = true) (h : x.shown = y.shown) : x = y :=
  (shown_pfN _ x (Nat.lt_succ_self _) hx y hy [] [] (by rw [h])).1
theorem plainNs_of : ∀ {ds : List PyData}, (∀ d ∈ ds, plainN d = true) → plainNs ds = true
  | [], _ => rfl
  | d :: r, h => Bool.and_eq_true_iff.mpr ⟨h d (.head _), plainNs_of fun x hx => h x (.tail _ hx)⟩
mutual
theorem eqv_plainN : ∀ (d e : PyData), plainN d = true → plainN e = true → (PyData.eqv d e = true ↔ d = e)
  | .none, .none, _, _ => by simp [PyData.eqv]
  | .none, .int j, _, _ => by simp [PyData.eqv]
  | .none, .str z, _, _ => by simp [PyData.eqv]
  | .none, .tuple es, _, _ => by simp [PyData.eqv]
  | .int i, .none, _, _ => by simp [PyData.eqv]
  | .int i, .int j, _, _ => by simp [PyData.eqv]
  | .int i, .str z, _, _ => by simp [PyData.eqv]
  | .int i, .tuple es, _, _ => by simp [PyData.eqv]
  | .str z, .none, _, _ => by simp [PyData.eqv]
  | .str z, .int j, _, _ => by simp [PyData.eqv]
  | .str z, .str y, _, _ => by simp [PyData.eqv]
  | .str z, .tuple es, _, _ => by simp [PyData.eqv]
  | .tuple ds, .none, _, _ => by simp [PyData.eqv]
  | .tuple ds, .int j, _, _ => by simp [PyData.eqv]
  | .tuple ds, .str y, _, _ => by simp [PyData.eqv]
  | .tuple ds, .tuple es, h1, h2 => by
    have := eqvAll_plainN ds es h1 h2
    simp only [PyData.eqv, PyData.tuple.injEq]
    exact this
theorem eqvAll_plainN : ∀ (ds es : List PyData), plainNs ds = true → plainNs es = true → (PyData.eqvAll ds es = true ↔ ds = es)
  | [], [], _, _ => by simp [PyData.eqvAll]
  | [], e :: es, _, _ => by simp [PyData.eqvAll]
  | d :: ds, [], _, _ => by simp [PyData.eqvAll]
  | d :: ds, e :: es, h1, h2 => by
    obtain ⟨a1, a2⟩ := Bool.and_eq_true_iff.mp (show (plainN d && plainNs ds) = true from h1)
    obtain ⟨b1, b2⟩ := Bool.and_eq_true_iff.mp (show (plainN e && plainNs es) = true from h2)
    have q1 := eqv_plainN d e a1 b1
    have q2 := eqvAll_plainN ds es a2 b2
    simp only [PyData.eqvAll, Bool.and_eq_true, List.cons.injEq, q1, q2]
end
open Classical in
theorem eqv_decN {d e : PyData} (hd : plainN d = true) (he : plainN e = true) : PyData.eqv d e = decide (d = e) := by
  rw [Bool.eq_iff_iff, decide_eq_true_iff]; exact eqv_plainN d e hd he
mutual
theorem lay_plainN : ∀ d : PyData, plainN d = true → d.canLay0 = true
  | .none, _ => rfl
  | .int _, _ => rfl
  | .str z, h => letters_ok h
  | .tuple ds, h => layAll_plainN ds h
theorem layAll_plainN : ∀ ds : List PyData, plainNs ds = true → PyData.canLayAll0 ds = true
  | [], _ => rfl
  | d :: r, h => by
    obtain ⟨a1, a2⟩ := Bool.and_eq_true_iff.mp (show (plainN d && plainNs r) = true from h)
    show (d.canLay0 && PyData.canLayAll0 r) = true
    rw [lay_plainN d a1, layAll_plainN r a2]; rfl
end
end HX
set_option Elab.async false
set_option linter.all false
set_option maxRecDepth 100000
set_option maxHeartbeats 4400000
namespace HX
open PySem PySem.Spec PyProof.Rows L2
open PySem.W (Frag)
/-! ### a comprehension with a condition, of plain data -/
def LcGoalT (J : It) (g : TG) (tt : TT) (te : L2.TE) (vs : List Nat) (σ : L2.St) (H1 : Hp) (D : Addr) (Qd : Hp → Prop) : Prop :=
  ∃ W : Nat → Nat → Hp → Prop, (∃ m, W 0 m (upd H1 D (.lst []))) ∧ ∀ i m H, W i m H →
      (J.stop i H ∧ Qd H) ∨ (J.go i H ∧ ∃ Nx : Hp → Prop, (∀ H', Nx H' → ∃ m', m' < m ∧ W (i + 1) m' H') ∧ ∀ x H', J.yld i H x H' → g x (wipe σ vs) H' fun σ2 H2 => wipe σ2 vs = wipe σ vs ∧ tt σ2 H2 fun b H3 =>
        if b = true then te σ2 H3 fun y H4 => ∃ acc, H4 D = some (.lst acc) ∧ acc.length < sizeLine ∧ Nx (upd H4 D (.lst (acc ++ [y]))) else Nx H3)
def ftD (b : Nat → Bool) (f : Nat → PyData) (n : Nat) : List PyData := ((List.range n).filter b).map f
theorem ftD_yes {b : Nat → Bool} {f : Nat → PyData} {n : Nat} (h : b n = true) : ftD b f (n + 1) = ftD b f n ++ [f n] := by
  unfold ftD
  rw [List.range_succ, List.filter_append, List.map_append, List.filter_cons_of_pos (by simpa using h)]; rfl
theorem ftD_no {b : Nat → Bool} {f : Nat → PyData} {n : Nat} (h : b n = false) : ftD b f (n + 1) = ftD b f n := by
  unfold ftD
  rw [List.range_succ, List.filter_append, List.map_append, List.filter_cons_of_neg (by simp [h])]; simp
theorem ftD_len {b : Nat → Bool} {f : Nat → PyData} {n : Nat} : (ftD b f n).length ≤ n := by
  unfold ftD
  rw [List.length_map]
  exact Nat.le_trans (List.length_filter_le ..) (by rw [List.length_range]; exact Nat.le_refl _)
section
variable {J : It} {n : Nat} {G : Hp → Prop} {Y : Nat → Hp → V → Hp → Prop} {g : TG} {tt : TT} {te : L2.TE} {vs : List Nat} {σ : L2.St} {H1 : Hp} {D : Addr} {Qd : Hp → Prop}
theorem lc_ft (w : Walk J n G Y) (b : Nat → Bool) (f : Nat → PyData) (hn : n < 1000) (nD : H1 D = none) (hG : ∀ H, Ex H1 H → G H)
    (hs : ∀ (i : Nat) (x : V) (H H' : Hp) (Kn : Hp → Prop) (Kq : V → Hp → Prop), i < n → Ex H1 H → Y i H x H' → (b i = false → ∀ H4, Ex H H4 → Kn H4) → (b i = true → ∀ y H4, Ex H H4 → Tz H4 y (f i) → Kq y H4) → g x (wipe σ vs) H' fun σ2 H2 => wipe σ2 vs = wipe σ vs ∧ tt σ2 H2 fun c H3 => if c = true then te σ2 H3 Kq else Kn H3)
    (hd : ∀ H xs, Ex H1 H → H D = some (.lst xs) → TzL H xs (ftD b f n) → Qd H) : LcGoalT J g tt te vs σ H1 D Qd := by
  refine lc_it w (fun i H => Ex H1 H ∧ ∃ xs, H D = some (.lst xs) ∧ TzL H xs (ftD b f i)) ⟨Ex.nw nD, [], upd_same, TzL.nil⟩ (fun i H _ p => hG H p.1) (fun i x H H' hi p y => ?_) (fun H ⟨e, xs, hD, hx⟩ => hd H xs e hD hx)
  obtain ⟨e, xs, hD, hx⟩ := p
  refine hs i x H H' _ _ hi e y (fun hb H4 e4 => ⟨e.tr e4, xs, e4 _ _ hD, by rw [ftD_no hb]; exact hx.ex e4⟩) fun hb y H4 e4 hy => ?_
  have hD4 := e4 _ _ hD
  refine ⟨xs, hD4, ?_, ex_mu (e.tr e4) nD, xs ++ [y], upd_same, ?_⟩
  · rw [hx.1]
    exact Nat.lt_of_le_of_lt ftD_len (Nat.lt_of_lt_of_le hi (Nat.le_trans (Nat.le_of_lt hn) (by decide)))
  · rw [ftD_yes hb]
    exact ((hx.ex e4).snoc hy).te (te_lst hD4)
end
end HX
set_option Elab.async false
set_option linter.all false
set_option maxRecDepth 100000
set_option maxHeartbeats 4400000
namespace HX
open L2 PyProof.Rows PySem.Spec PySem
open PySem.W (Frag)
section
variable {X : Cx}
/-! ### own comparisons of two things of one class; own == and != beside things of other own classes -/
structure CmS (K : PySem.W.Frag) (C : Addr) (op : CmpOp) (f : Addr) : Prop where
  hs : PySem.W.findIn K (.ref C) (cmpInfo op).2.1 = some (some (.ref f))
  hf : PySem.W.isFn K (.ref f) = true
  nc : PySem.W.notFirst K C (.ref C) = true
def rCmS (C : Addr) (sp : Sp) (E : XK) : R2 := fun x y H Q => isI C H x ∧ isI C H y ∧ sp [x, y] H Q E
theorem op_cmpS {op : CmpOp} {CX : CXT} {C f : Addr} {k : Nat} {fd : FuncData} {ps : List Str} {sp : Sp} {E : XK} (T : CmS X.K C op f) (F1 : FnOk X.prog X.w X.K X.mg X.base CX k f fd ps sp) (b1 : Binds X.K fd ps [])
    (hr : Room k X.A) (hx : Passes CX X E) : OpR X (richCompare op) (rCmS C sp E) := by
  intro pins s σ H x y v u; intro Q I rx ry h
  obtain ⟨m, hF⟩ := I.fr
  have hu := hr.units0
  obtain ⟨⟨a, dx, fs, rfl, ea⟩, ⟨b, dy, gs, rfl, eb⟩, q⟩ := h
  obtain ⟨od, J⟩ := isI_inst I ea
  obtain ⟨od', J'⟩ := isI_inst I eb
  cases (id rx : v = Value.ref a)
  cases (id ry : u = Value.ref b)
  exact PySem.W.cmp_K hu hF I.ok.mod.kin J J'.type T.nc T.hs T.hf (thn (run_fn (us := [.ref a, .ref b]) (vs := [.ref a, .ref b]) F1 hr b1 .nil hx I (.cons rfl (.cons rfl .nil)) q) fun u s' z => ep_back z)
theorem op_ltS {CX : CXT} {C f : Addr} {k : Nat} {fd : FuncData} {ps : List Str} {sp : Sp} {E : XK} (T : CmS X.K C .Lt f) (F1 : FnOk X.prog X.w X.K X.mg X.base CX k f fd ps sp) (b1 : Binds X.K fd ps []) (hr : Room k X.A) (hx : Passes CX X E) : OpR X (compareOp .Lt) (rCmS C sp E) := op_cmpS T F1 b1 hr hx
theorem op_leS {CX : CXT} {C f : Addr} {k : Nat} {fd : FuncData} {ps : List Str} {sp : Sp} {E : XK} (T : CmS X.K C .LtE f) (F1 : FnOk X.prog X.w X.K X.mg X.base CX k f fd ps sp) (b1 : Binds X.K fd ps []) (hr : Room k X.A) (hx : Passes CX X E) : OpR X (compareOp .LtE) (rCmS C sp E) := op_cmpS T F1 b1 hr hx
theorem op_gtS {CX : CXT} {C f : Addr} {k : Nat} {fd : FuncData} {ps : List Str} {sp : Sp} {E : XK} (T : CmS X.K C .Gt f) (F1 : FnOk X.prog X.w X.K X.mg X.base CX k f fd ps sp) (b1 : Binds X.K fd ps []) (hr : Room k X.A) (hx : Passes CX X E) : OpR X (compareOp .Gt) (rCmS C sp E) := op_cmpS T F1 b1 hr hx
theorem op_geS {CX : CXT} {C f : Addr} {k : Nat} {fd : FuncData} {ps : List Str} {sp : Sp} {E : XK} (T : CmS X.K C .GtE f) (F1 : FnOk X.prog X.w X.K X.mg X.base CX k f fd ps sp) (b1 : Binds X.K fd ps []) (hr : Room k X.A) (hx : Passes CX X E) : OpR X (compareOp .GtE) (rCmS C sp E) := op_cmpS T F1 b1 hr hx
def eqSideV (K : Frag) (C : Addr) (H : Hp) (y : V) : Prop := eqSideW K C H y ∨ ∃ D, isI D H y ∧ PySem.W.notFirst K C (.ref D) = true
def rEqV (K : Frag) (C : Addr) (sp : Sp) (E : XK) : R2 := fun x y H Q => isI C H x ∧ eqSideV K C H y ∧ sp [x, y] H Q E
def rNeV (K : Frag) (C : Addr) (sp : Sp) (E : XK) : R2 := fun x y H Q => isI C H x ∧ eqSideV K C H y ∧ sp [x, y] H (fun v H' => ∃ b, v = .bl b ∧ Q (.bl (!b)) H') E
theorem side_looksV {pins : List (Addr × Obj)} {σ : L2.St} {H : Hp} {s : Shared} {C f : Addr} {y : V} {u : Value} (I : Inv X pins σ H s) (T : EqC X.K C f) (h : eqSideV X.K C H y) (ry : RelV y u) : ∃ tb, PySem.W.Looks (model X.prog X.w) s.heap (typeOf u) tb ∧ PySem.W.notFirst X.K C tb = true := by
  rcases h with h | ⟨D, ⟨b, dy, gs, rfl, eb⟩, hn⟩
  · exact side_looksW I T h ry
  · obtain ⟨od', J'⟩ := isI_inst I eb
    cases (id ry : u = Value.ref b)
    exact ⟨_, J'.type, hn⟩
theorem op_eqV {CX : CXT} {C f : Addr} {k : Nat} {fd : FuncData} {ps : List Str} {sp : Sp} {E : XK} (T : EqC X.K C f) (F1 : FnOk X.prog X.w X.K X.mg X.base CX k f fd ps sp) (b1 : Binds X.K fd ps []) (hr : Room k X.A) (hx : Passes CX X E) : OpR X (compareOp .Eq) (rEqV X.K C sp E) := by
  intro pins s σ H x y v u; intro Q I rx ry h
  obtain ⟨m, hF⟩ := I.fr
  have hu := hr.units0
  obtain ⟨⟨a, dx, fs, rfl, ea⟩, hy, q⟩ := h
  obtain ⟨od, J⟩ := isI_inst I ea
  cases (id rx : v = Value.ref a)
  obtain ⟨tb, hb, hn⟩ := side_looksV I T hy ry
  unfold compareOp
  exact PySem.W.cmp_K (op := .Eq) hu hF I.ok.mod.kin J hb hn T.hs T.hf (thn (run_fn (us := [.ref a, u]) (vs := [.ref a, y]) F1 hr b1 .nil hx I (.cons rfl (.cons ry .nil)) q) fun u s' z => ep_back z)
theorem op_neV {CX : CXT} {C f : Addr} {k : Nat} {fd : FuncData} {ps : List Str} {sp : Sp} {E : XK} (T : EqC X.K C f) (F1 : FnOk X.prog X.w X.K X.mg X.base CX k f fd ps sp) (b1 : Binds X.K fd ps []) (hr : Room (k + 1) X.A) (hx : Passes CX X E) : OpR X (compareOp .NotEq) (rNeV X.K C sp E) := by
  intro pins s σ H x y v u; intro Q I rx ry h
  have hu : X.A.units + 1 < cLine := hu_of hr
  obtain ⟨⟨a, dx, fs, rfl, ea⟩, hy, q⟩ := h
  obtain ⟨od, J⟩ := isI_inst I ea
  cases (id rx : v = Value.ref a)
  obtain ⟨tb, hb, hn⟩ := side_looksV I T hy ry
  unfold compareOp
  refine cmpNe_K hu I.kIn J hb hn T.hm T.hne T.hs T.hf (thn (run_fn1 (us := [.ref a, u]) (vs := [.ref a, y]) F1 hr b1 hx I (.cons rfl (.cons ry .nil)) q) fun u s' z => ?_)
  obtain ⟨v, H', I', r, c, rfl, hq⟩ := z
  cases r
  exact ⟨c, rfl, .bl (!c), H', I', rfl, hq⟩
end
end HX
set_option Elab.async false
set_option linter.all false
set_option maxRecDepth 100000
set_option maxHeartbeats 4400000
namespace K65
open PySem PySem.Spec PyProof.Rows L2 HX
open PySem.W (Frag)

def topS (i : Nat) : Stmt := PySem.Challenge.pw_tapedonce_k65_whole_orders_of_doings.main.body.getD i (.Pass ⟨0, 0, 0, 0⟩)
abbrev s_wall : Stmt := topS 0
abbrev N_wall : List Str := ["k"]
theorem sc_wall : FnScope N_wall ["k"] (defScope s_wall) := ⟨rfl, rfl, rfl, by decide +kernel, rfl, by decide +kernel, by decide +kernel⟩
abbrev s_BadWorld_init : Stmt := inClass (topS 3) 0
abbrev N_BadWorld_init : List Str := ["self", "value"]
theorem sc_BadWorld_init : FnScope N_BadWorld_init ["self", "value"] (defScope s_BadWorld_init) := ⟨rfl, rfl, rfl, by decide +kernel, rfl, by decide +kernel, by decide +kernel⟩
abbrev s_BadKinds_init : Stmt := inClass (topS 4) 0
abbrev N_BadKinds_init : List Str := ["self", "value"]
theorem sc_BadKinds_init : FnScope N_BadKinds_init ["self", "value"] (defScope s_BadKinds_init) := ⟨rfl, rfl, rfl, by decide +kernel, rfl, by decide +kernel, by decide +kernel⟩
abbrev s_BadDoing_init : Stmt := inClass (topS 5) 0
abbrev N_BadDoing_init : List Str := ["self", "value"]
theorem sc_BadDoing_init : FnScope N_BadDoing_init ["self", "value"] (defScope s_BadDoing_init) := ⟨rfl, rfl, rfl, by decide +kernel, rfl, by decide +kernel, by decide +kernel⟩
abbrev s_NoKey_init : Stmt := inClass (topS 6) 0
abbrev N_NoKey_init : List Str := ["self", "value"]
theorem sc_NoKey_init : FnScope N_NoKey_init ["self", "value"] (defScope s_NoKey_init) := ⟨rfl, rfl, rfl, by decide +kernel, rfl, by decide +kernel, by decide +kernel⟩
abbrev s_TooMany_init : Stmt := inClass (topS 7) 0
abbrev N_TooMany_init : List Str := ["self", "number"]
theorem sc_TooMany_init : FnScope N_TooMany_init ["self", "number"] (defScope s_TooMany_init) := ⟨rfl, rfl, rfl, by decide +kernel, rfl, by decide +kernel, by decide +kernel⟩
abbrev s_is_whole : Stmt := topS 11
abbrev N_is_whole : List Str := ["value", "low", "below"]
theorem sc_is_whole : FnScope N_is_whole ["value", "low", "below"] (defScope s_is_whole) := ⟨rfl, rfl, rfl, by decide +kernel, rfl, by decide +kernel, by decide +kernel⟩
abbrev s_is_size : Stmt := topS 12
abbrev N_is_size : List Str := ["value"]
theorem sc_is_size : FnScope N_is_size ["value"] (defScope s_is_size) := ⟨rfl, rfl, rfl, by decide +kernel, rfl, by decide +kernel, by decide +kernel⟩
abbrev s_is_most : Stmt := topS 13
abbrev N_is_most : List Str := ["value"]
theorem sc_is_most : FnScope N_is_most ["value"] (defScope s_is_most) := ⟨rfl, rfl, rfl, by decide +kernel, rfl, by decide +kernel, by decide +kernel⟩
abbrev s_are_items : Stmt := topS 14
abbrev N_are_items : List Str := ["value", "size", "most", "worth"]
theorem sc_are_items : FnScope N_are_items ["value", "size", "most"] (defScope s_are_items) := ⟨rfl, rfl, rfl, by decide +kernel, rfl, by decide +kernel, by decide +kernel⟩
abbrev s_is_name : Stmt := topS 15
abbrev N_is_name : List Str := ["value", "letter"]
theorem sc_is_name : FnScope N_is_name ["value"] (defScope s_is_name) := ⟨rfl, rfl, rfl, by decide +kernel, rfl, by decide +kernel, by decide +kernel⟩
abbrev s_are_rising : Stmt := topS 16
abbrev N_are_rising : List Str := ["names", "one", "other"]
theorem sc_are_rising : FnScope N_are_rising ["names"] (defScope s_are_rising) := ⟨rfl, rfl, rfl, by decide +kernel, rfl, by decide +kernel, by decide +kernel⟩
abbrev s_are_names : Stmt := topS 17
abbrev N_are_names : List Str := ["value", "most", "name"]
theorem sc_are_names : FnScope N_are_names ["value", "most"] (defScope s_are_names) := ⟨rfl, rfl, rfl, by decide +kernel, rfl, by decide +kernel, by decide +kernel⟩
abbrev s_are_pairs : Stmt := topS 18
abbrev N_are_pairs : List Str := ["value", "most", "pair"]
theorem sc_are_pairs : FnScope N_are_pairs ["value", "most"] (defScope s_are_pairs) := ⟨rfl, rfl, rfl, by decide +kernel, rfl, by decide +kernel, by decide +kernel⟩
abbrev s_are_kinds : Stmt := topS 19
abbrev N_are_kinds : List Str := ["value", "most", "with_rows", "kinds", "kind"]
theorem sc_are_kinds : FnScope N_are_kinds ["value", "most", "with_rows"] (defScope s_are_kinds) := ⟨rfl, rfl, rfl, by decide +kernel, rfl, by decide +kernel, by decide +kernel⟩
abbrev s_are_alike : Stmt := topS 20
abbrev N_are_alike : List Str := ["known", "value", "one", "other"]
theorem sc_are_alike : FnScope N_are_alike ["known", "value"] (defScope s_are_alike) := ⟨rfl, rfl, rfl, by decide +kernel, rfl, by decide +kernel, by decide +kernel⟩
abbrev s_is_stand : Stmt := topS 22
abbrev N_is_stand : List Str := ["world", "value", "worths", "rows", "row", "worth"]
theorem sc_is_stand : FnScope N_is_stand ["world", "value"] (defScope s_is_stand) := ⟨rfl, rfl, rfl, by decide +kernel, rfl, by decide +kernel, by decide +kernel⟩
abbrev s_are_values : Stmt := topS 23
abbrev N_are_values : List Str := ["world", "kinds", "value", "kind", "part"]
theorem sc_are_values : FnScope N_are_values ["world", "kinds", "value"] (defScope s_are_values) := ⟨rfl, rfl, rfl, by decide +kernel, rfl, by decide +kernel, by decide +kernel⟩
abbrev s_is_value : Stmt := topS 24
abbrev N_is_value : List Str := ["world", "kind", "value"]
theorem sc_is_value : FnScope N_is_value ["world", "kind", "value"] (defScope s_is_value) := ⟨rfl, rfl, rfl, by decide +kernel, rfl, by decide +kernel, by decide +kernel⟩
abbrev s_World_init : Stmt := inClass (topS 28) 0
abbrev N_World_init : List Str := ["self", "size", "most", "cells", "rows", "loose", "at", "cell", "row"]
theorem sc_World_init : FnScope N_World_init ["self", "size", "most", "cells", "rows", "loose"] (defScope s_World_init) := ⟨rfl, rfl, rfl, by decide +kernel, rfl, by decide +kernel, by decide +kernel⟩
abbrev s_World_size : Stmt := inClass (topS 28) 1
abbrev N_World_size : List Str := ["self"]
theorem sc_World_size : FnScope N_World_size ["self"] (defScope s_World_size) := ⟨rfl, rfl, rfl, by decide +kernel, rfl, by decide +kernel, by decide +kernel⟩
abbrev s_World_most : Stmt := inClass (topS 28) 2
abbrev N_World_most : List Str := ["self"]
theorem sc_World_most : FnScope N_World_most ["self"] (defScope s_World_most) := ⟨rfl, rfl, rfl, by decide +kernel, rfl, by decide +kernel, by decide +kernel⟩
abbrev s_World_cells : Stmt := inClass (topS 28) 3
abbrev N_World_cells : List Str := ["self"]
theorem sc_World_cells : FnScope N_World_cells ["self"] (defScope s_World_cells) := ⟨rfl, rfl, rfl, by decide +kernel, rfl, by decide +kernel, by decide +kernel⟩
abbrev s_World_rows : Stmt := inClass (topS 28) 4
abbrev N_World_rows : List Str := ["self"]
theorem sc_World_rows : FnScope N_World_rows ["self"] (defScope s_World_rows) := ⟨rfl, rfl, rfl, by decide +kernel, rfl, by decide +kernel, by decide +kernel⟩
abbrev s_World_loose : Stmt := inClass (topS 28) 5
abbrev N_World_loose : List Str := ["self"]
theorem sc_World_loose : FnScope N_World_loose ["self"] (defScope s_World_loose) := ⟨rfl, rfl, rfl, by decide +kernel, rfl, by decide +kernel, by decide +kernel⟩
abbrev s_World_first : Stmt := inClass (topS 28) 6
abbrev N_World_first : List Str := ["self", "cell", "row"]
theorem sc_World_first : FnScope N_World_first ["self"] (defScope s_World_first) := ⟨rfl, rfl, rfl, by decide +kernel, rfl, by decide +kernel, by decide +kernel⟩
abbrev s_World_eq : Stmt := inClass (topS 28) 7
abbrev N_World_eq : List Str := ["self", "other"]
theorem sc_World_eq : FnScope N_World_eq ["self", "other"] (defScope s_World_eq) := ⟨rfl, rfl, rfl, by decide +kernel, rfl, by decide +kernel, by decide +kernel⟩
abbrev s_World_cell_number : Stmt := inClass (topS 28) 8
abbrev N_World_cell_number : List Str := ["self", "name"]
theorem sc_World_cell_number : FnScope N_World_cell_number ["self", "name"] (defScope s_World_cell_number) := ⟨rfl, rfl, rfl, by decide +kernel, rfl, by decide +kernel, by decide +kernel⟩
abbrev s_World_row_number : Stmt := inClass (topS 28) 9
abbrev N_World_row_number : List Str := ["self", "name"]
theorem sc_World_row_number : FnScope N_World_row_number ["self", "name"] (defScope s_World_row_number) := ⟨rfl, rfl, rfl, by decide +kernel, rfl, by decide +kernel, by decide +kernel⟩
abbrev s_are_cells : Stmt := topS 29
abbrev N_are_cells : List Str := ["value", "size", "cell"]
theorem sc_are_cells : FnScope N_are_cells ["value", "size"] (defScope s_are_cells) := ⟨rfl, rfl, rfl, by decide +kernel, rfl, by decide +kernel, by decide +kernel⟩
abbrev s_are_rows : Stmt := topS 30
abbrev N_are_rows : List Str := ["value", "size", "most", "cells", "taken", "cell", "row"]
theorem sc_are_rows : FnScope N_are_rows ["value", "size", "most", "cells"] (defScope s_are_rows) := ⟨rfl, rfl, rfl, by decide +kernel, rfl, by decide +kernel, by decide +kernel⟩
abbrev s_are_loose : Stmt := topS 31
abbrev N_are_loose : List Str := ["value", "cells", "rows", "taken", "cell", "row", "name"]
theorem sc_are_loose : FnScope N_are_loose ["value", "cells", "rows"] (defScope s_are_loose) := ⟨rfl, rfl, rfl, by decide +kernel, rfl, by decide +kernel, by decide +kernel⟩
abbrev s_all_values : Stmt := topS 32
abbrev N_all_values : List Str := ["world", "kinds", "names", "found", "kind", "choices", "row", "values", "choice"]
theorem sc_all_values : FnScope N_all_values ["world", "kinds"] (defScope s_all_values) := ⟨rfl, rfl, rfl, by decide +kernel, rfl, by decide +kernel, by decide +kernel⟩
abbrev s_all_items : Stmt := topS 33
abbrev N_all_items : List Str := ["world", "found", "one", "other"]
theorem sc_all_items : FnScope N_all_items ["world"] (defScope s_all_items) := ⟨rfl, rfl, rfl, by decide +kernel, rfl, by decide +kernel, by decide +kernel⟩
abbrev s_is_key : Stmt := topS 36
abbrev N_is_key : List Str := ["world", "kinds", "value"]
theorem sc_is_key : FnScope N_is_key ["world", "kinds", "value"] (defScope s_is_key) := ⟨rfl, rfl, rfl, by decide +kernel, rfl, by decide +kernel, by decide +kernel⟩
abbrev s_check_few : Stmt := topS 37
abbrev N_check_few : List Str := ["world", "kinds", "many", "choices", "kind"]
theorem sc_check_few : FnScope N_check_few ["world", "kinds"] (defScope s_check_few) := ⟨rfl, rfl, rfl, by decide +kernel, rfl, by decide +kernel, by decide +kernel⟩
abbrev s_all_keys : Stmt := topS 38
abbrev N_all_keys : List Str := ["world", "kinds", "stands", "choices", "cells", "values", "stand", "handed", "choice"]
theorem sc_all_keys : FnScope N_all_keys ["world", "kinds"] (defScope s_all_keys) := ⟨rfl, rfl, rfl, by decide +kernel, rfl, by decide +kernel, by decide +kernel⟩
abbrev s_choices : Stmt := topS 39
abbrev N_choices : List Str := ["world", "worths", "items", "_"]
theorem sc_choices : FnScope N_choices ["world"] (defScope s_choices) := ⟨rfl, rfl, rfl, by decide +kernel, rfl, by decide +kernel, by decide +kernel⟩
abbrev s_Doing_init : Stmt := inClass (topS 43) 0
abbrev N_Doing_init : List Str := ["self", "world", "kinds", "table", "row"]
theorem sc_Doing_init : FnScope N_Doing_init ["self", "world", "kinds", "table"] (defScope s_Doing_init) := ⟨rfl, rfl, rfl, by decide +kernel, rfl, by decide +kernel, by decide +kernel⟩
abbrev s_Doing_world : Stmt := inClass (topS 43) 1
abbrev N_Doing_world : List Str := ["self"]
theorem sc_Doing_world : FnScope N_Doing_world ["self"] (defScope s_Doing_world) := ⟨rfl, rfl, rfl, by decide +kernel, rfl, by decide +kernel, by decide +kernel⟩
abbrev s_Doing_kinds : Stmt := inClass (topS 43) 2
abbrev N_Doing_kinds : List Str := ["self"]
theorem sc_Doing_kinds : FnScope N_Doing_kinds ["self"] (defScope s_Doing_kinds) := ⟨rfl, rfl, rfl, by decide +kernel, rfl, by decide +kernel, by decide +kernel⟩
abbrev s_Doing_table : Stmt := inClass (topS 43) 3
abbrev N_Doing_table : List Str := ["self"]
theorem sc_Doing_table : FnScope N_Doing_table ["self"] (defScope s_Doing_table) := ⟨rfl, rfl, rfl, by decide +kernel, rfl, by decide +kernel, by decide +kernel⟩
abbrev s_Doing_getitem : Stmt := inClass (topS 43) 4
abbrev N_Doing_getitem : List Str := ["self", "at"]
theorem sc_Doing_getitem : FnScope N_Doing_getitem ["self", "at"] (defScope s_Doing_getitem) := ⟨rfl, rfl, rfl, by decide +kernel, rfl, by decide +kernel, by decide +kernel⟩
abbrev s_Doing_iter : Stmt := inClass (topS 43) 5
abbrev N_Doing_iter : List Str := ["self"]
theorem sc_Doing_iter : FnScope N_Doing_iter ["self"] (defScope s_Doing_iter) := ⟨rfl, rfl, rfl, by decide +kernel, rfl, by decide +kernel, by decide +kernel⟩
abbrev s_Doing_contains : Stmt := inClass (topS 43) 6
abbrev N_Doing_contains : List Str := ["self", "x"]
theorem sc_Doing_contains : FnScope N_Doing_contains ["self", "x"] (defScope s_Doing_contains) := ⟨rfl, rfl, rfl, by decide +kernel, rfl, by decide +kernel, by decide +kernel⟩
abbrev s_Doing_len : Stmt := inClass (topS 43) 7
abbrev N_Doing_len : List Str := ["self", "row"]
theorem sc_Doing_len : FnScope N_Doing_len ["self"] (defScope s_Doing_len) := ⟨rfl, rfl, rfl, by decide +kernel, rfl, by decide +kernel, by decide +kernel⟩
abbrev s_Doing_eq : Stmt := inClass (topS 43) 8
abbrev N_Doing_eq : List Str := ["self", "other"]
theorem sc_Doing_eq : FnScope N_Doing_eq ["self", "other"] (defScope s_Doing_eq) := ⟨rfl, rfl, rfl, by decide +kernel, rfl, by decide +kernel, by decide +kernel⟩
abbrev s_Doing_le : Stmt := inClass (topS 43) 9
abbrev N_Doing_le : List Str := ["self", "other"]
theorem sc_Doing_le : FnScope N_Doing_le ["self", "other"] (defScope s_Doing_le) := ⟨rfl, rfl, rfl, by decide +kernel, rfl, by decide +kernel, by decide +kernel⟩
abbrev s_Doing_lt : Stmt := inClass (topS 43) 10
abbrev N_Doing_lt : List Str := ["self", "other"]
theorem sc_Doing_lt : FnScope N_Doing_lt ["self", "other"] (defScope s_Doing_lt) := ⟨rfl, rfl, rfl, by decide +kernel, rfl, by decide +kernel, by decide +kernel⟩
abbrev s_Doing_ge : Stmt := inClass (topS 43) 11
abbrev N_Doing_ge : List Str := ["self", "other"]
theorem sc_Doing_ge : FnScope N_Doing_ge ["self", "other"] (defScope s_Doing_ge) := ⟨rfl, rfl, rfl, by decide +kernel, rfl, by decide +kernel, by decide +kernel⟩
abbrev s_Doing_gt : Stmt := inClass (topS 43) 12
abbrev N_Doing_gt : List Str := ["self", "other"]
theorem sc_Doing_gt : FnScope N_Doing_gt ["self", "other"] (defScope s_Doing_gt) := ⟨rfl, rfl, rfl, by decide +kernel, rfl, by decide +kernel, by decide +kernel⟩
abbrev s_Doing_and : Stmt := inClass (topS 43) 13
abbrev N_Doing_and : List Str := ["self", "other", "kinds", "many", "key"]
theorem sc_Doing_and : FnScope N_Doing_and ["self", "other"] (defScope s_Doing_and) := ⟨rfl, rfl, rfl, by decide +kernel, rfl, by decide +kernel, by decide +kernel⟩
abbrev s_Doing_or : Stmt := inClass (topS 43) 14
abbrev N_Doing_or : List Str := ["self", "other", "row", "otherwise"]
theorem sc_Doing_or : FnScope N_Doing_or ["self", "other"] (defScope s_Doing_or) := ⟨rfl, rfl, rfl, by decide +kernel, rfl, by decide +kernel, by decide +kernel⟩
abbrev s_check_kinds : Stmt := topS 44
abbrev N_check_kinds : List Str := ["world", "kinds", "most"]
theorem sc_check_kinds : FnScope N_check_kinds ["world", "kinds", "most"] (defScope s_check_kinds) := ⟨rfl, rfl, rfl, by decide +kernel, rfl, by decide +kernel, by decide +kernel⟩
abbrev s_parted : Stmt := topS 45
abbrev N_parted : List Str := ["one", "other", "row", "beside"]
theorem sc_parted : FnScope N_parted ["one", "other"] (defScope s_parted) := ⟨rfl, rfl, rfl, by decide +kernel, rfl, by decide +kernel, by decide +kernel⟩
abbrev s_beyond : Stmt := topS 46
abbrev N_beyond : List Str := ["one", "other", "rows", "row", "beside"]
theorem sc_beyond : FnScope N_beyond ["one", "other"] (defScope s_beyond) := ⟨rfl, rfl, rfl, by decide +kernel, rfl, by decide +kernel, by decide +kernel⟩
abbrev s_is_within : Stmt := topS 47
abbrev N_is_within : List Str := ["one", "other"]
theorem sc_is_within : FnScope N_is_within ["one", "other"] (defScope s_is_within) := ⟨rfl, rfl, rfl, by decide +kernel, rfl, by decide +kernel, by decide +kernel⟩
abbrev s_first_key : Stmt := topS 48
abbrev N_first_key : List Str := ["found"]
theorem sc_first_key : FnScope N_first_key ["found"] (defScope s_first_key) := ⟨rfl, rfl, rfl, by decide +kernel, rfl, by decide +kernel, by decide +kernel⟩
abbrev s_behind : Stmt := topS 49
abbrev N_behind : List Str := ["told", "other", "values"]
theorem sc_behind : FnScope N_behind ["told", "other", "values"] (defScope s_behind) := ⟨rfl, rfl, rfl, by decide +kernel, rfl, by decide +kernel, by decide +kernel⟩
abbrev s_is_table : Stmt := topS 50
abbrev N_is_table : List Str := ["world", "kinds", "value", "keys", "key", "row"]
theorem sc_is_table : FnScope N_is_table ["world", "kinds", "value"] (defScope s_is_table) := ⟨rfl, rfl, rfl, by decide +kernel, rfl, by decide +kernel, by decide +kernel⟩
abbrev s_is_row : Stmt := topS 51
abbrev N_is_row : List Str := ["world", "key", "value"]
theorem sc_is_row : FnScope N_is_row ["world", "key", "value"] (defScope s_is_row) := ⟨rfl, rfl, rfl, by decide +kernel, rfl, by decide +kernel, by decide +kernel⟩
abbrev s_is_told : Stmt := topS 52
abbrev N_is_told : List Str := ["world", "value"]
theorem sc_is_told : FnScope N_is_told ["world", "value"] (defScope s_is_told) := ⟨rfl, rfl, rfl, by decide +kernel, rfl, by decide +kernel, by decide +kernel⟩
abbrev s_is_end : Stmt := topS 53
abbrev N_is_end : List Str := ["world", "value", "word"]
theorem sc_is_end : FnScope N_is_end ["world", "value"] (defScope s_is_end) := ⟨rfl, rfl, rfl, by decide +kernel, rfl, by decide +kernel, by decide +kernel⟩
abbrev s_box : Stmt := topS 55
abbrev N_box : List Str := ["_law_script", "_law_k", "_law_cell", "_law_owned"]
theorem sc_box : FnScope N_box ["_law_script", "_law_k"] (defScope s_box) := ⟨rfl, rfl, rfl, by decide +kernel, rfl, by decide +kernel, by decide +kernel⟩
abbrev s_take : Stmt := topS 56
abbrev N_take : List Str := ["_law_box_here", "_law_many", "_law_digit", "_law_prime", "_law_mixed", "_law_made"]
theorem sc_take : FnScope N_take ["_law_box_here", "_law_many"] (defScope s_take) := ⟨rfl, rfl, rfl, by decide +kernel, rfl, by decide +kernel, by decide +kernel⟩
abbrev s_of : Stmt := topS 57
abbrev N_of : List Str := ["_law_box_here", "_law_some"]
theorem sc_of : FnScope N_of ["_law_box_here", "_law_some"] (defScope s_of) := ⟨rfl, rfl, rfl, by decide +kernel, rfl, by decide +kernel, by decide +kernel⟩
abbrev s_products : Stmt := topS 58
abbrev N_products : List Str := ["_law_lots", "_law_found", "_law_lot", "_law_longer", "_law_one", "_law_thing"]
theorem sc_products : FnScope N_products ["_law_lots"] (defScope s_products) := ⟨rfl, rfl, rfl, by decide +kernel, rfl, by decide +kernel, by decide +kernel⟩
abbrev s_fillings : Stmt := topS 59
abbrev N_fillings : List Str := ["_law_size", "_law_most", "_law_found", "_law_one", "_law_two"]
theorem sc_fillings : FnScope N_fillings ["_law_size", "_law_most"] (defScope s_fillings) := ⟨rfl, rfl, rfl, by decide +kernel, rfl, by decide +kernel, by decide +kernel⟩
abbrev s_land : Stmt := topS 60
abbrev N_land : List Str := ["_law_box_here", "_law_size", "_law_most", "_law_many", "_law_names", "_law_others", "_law_cells", "_law_rows", "_law_world", "_law_name"]
theorem sc_land : FnScope N_land ["_law_box_here"] (defScope s_land) := ⟨rfl, rfl, rfl, by decide +kernel, rfl, by decide +kernel, by decide +kernel⟩
abbrev s_letters : Stmt := topS 61
abbrev N_letters : List Str := ["_law_box_here", "_law_land_here", "_law_upto", "_law_letters_here", "_law_turn"]
theorem sc_letters : FnScope N_letters ["_law_box_here", "_law_land_here", "_law_upto"] (defScope s_letters) := ⟨rfl, rfl, rfl, by decide +kernel, rfl, by decide +kernel, by decide +kernel⟩
abbrev s_kinds : Stmt := topS 62
abbrev N_kinds : List Str := ["_law_box_here", "_law_land_here", "_law_upto", "_law_found"]
theorem sc_kinds : FnScope N_kinds ["_law_box_here", "_law_land_here", "_law_upto"] (defScope s_kinds) := ⟨rfl, rfl, rfl, by decide +kernel, rfl, by decide +kernel, by decide +kernel⟩
abbrev s_stands : Stmt := topS 63
abbrev N_stands : List Str := ["_law_land_here", "_law_worths", "_law_items"]
theorem sc_stands : FnScope N_stands ["_law_land_here"] (defScope s_stands) := ⟨rfl, rfl, rfl, by decide +kernel, rfl, by decide +kernel, by decide +kernel⟩
abbrev s_law_all_values : Stmt := topS 64
abbrev N_law_all_values : List Str := ["_law_land_here", "_law_kinds_here", "_law_letter"]
theorem sc_law_all_values : FnScope N_law_all_values ["_law_land_here", "_law_kinds_here"] (defScope s_law_all_values) := ⟨rfl, rfl, rfl, by decide +kernel, rfl, by decide +kernel, by decide +kernel⟩
abbrev s_keys : Stmt := topS 65
abbrev N_keys : List Str := ["_law_land_here", "_law_kinds_here", "_law_found", "_law_values", "_law_stand", "_law_one"]
theorem sc_keys : FnScope N_keys ["_law_land_here", "_law_kinds_here"] (defScope s_keys) := ⟨rfl, rfl, rfl, by decide +kernel, rfl, by decide +kernel, by decide +kernel⟩
abbrev s_told_drawn : Stmt := topS 66
abbrev N_told_drawn : List Str := ["_law_box_here", "_law_land_here", "_law_stands_here", "_law_worth", "_law_end"]
theorem sc_told_drawn : FnScope N_told_drawn ["_law_box_here", "_law_land_here", "_law_stands_here"] (defScope s_told_drawn) := ⟨rfl, rfl, rfl, by decide +kernel, rfl, by decide +kernel, by decide +kernel⟩
abbrev s_table : Stmt := topS 67
abbrev N_table : List Str := ["_law_box_here", "_law_land_here", "_law_kinds_here", "_law_stands_here", "_law_key"]
theorem sc_table : FnScope N_table ["_law_box_here", "_law_land_here", "_law_kinds_here"] (defScope s_table) := ⟨rfl, rfl, rfl, by decide +kernel, rfl, by decide +kernel, by decide +kernel⟩
abbrev s_other_table : Stmt := topS 68
abbrev N_other_table : List Str := ["_law_box_here", "_law_land_here", "_law_kinds_here", "_law_table_here", "_law_way", "_law_stands_here", "_law_found", "_law_row", "_law_told"]
theorem sc_other_table : FnScope N_other_table ["_law_box_here", "_law_land_here", "_law_kinds_here", "_law_table_here"] (defScope s_other_table) := ⟨rfl, rfl, rfl, by decide +kernel, rfl, by decide +kernel, by decide +kernel⟩
abbrev s_law_is_within : Stmt := topS 69
abbrev N_law_is_within : List Str := ["_law_table_here", "_law_other", "_law_row", "_law_twin"]
theorem sc_law_is_within : FnScope N_law_is_within ["_law_table_here", "_law_other"] (defScope s_law_is_within) := ⟨rfl, rfl, rfl, by decide +kernel, rfl, by decide +kernel, by decide +kernel⟩
abbrev s_first : Stmt := topS 70
abbrev N_first : List Str := ["_law_table_here", "_law_other", "_law_is_beyond", "_law_row", "_law_twin"]
theorem sc_first : FnScope N_first ["_law_table_here", "_law_other", "_law_is_beyond"] (defScope s_first) := ⟨rfl, rfl, rfl, by decide +kernel, rfl, by decide +kernel, by decide +kernel⟩
abbrev s_compared_right : Stmt := topS 71
abbrev N_compared_right : List Str := ["_law_table_here", "_law_other", "_law_one", "_law_two", "_law_less", "_law_more", "_law_same", "_law_told", "_law_truth"]
theorem sc_compared_right : FnScope N_compared_right ["_law_table_here", "_law_other", "_law_one", "_law_two"] (defScope s_compared_right) := ⟨rfl, rfl, rfl, by decide +kernel, rfl, by decide +kernel, by decide +kernel⟩
abbrev s_right : Stmt := topS 72
abbrev N_right : List Str := ["_law_box_here", "_law_land_here", "_law_kinds_here", "_law_table_here", "_law_other", "_law_one", "_law_two", "_law_thing", "_law_wide", "_law_loose", "_law_far"]
theorem sc_right : FnScope N_right ["_law_box_here"] (defScope s_right) := ⟨rfl, rfl, rfl, by decide +kernel, rfl, by decide +kernel, by decide +kernel⟩
abbrev s_law : Stmt := topS 73
abbrev N_law : List Str := ["_law_script", "_law_k", "_law_box_here", "_law_turn"]
theorem sc_law : FnScope N_law ["_law_script"] (defScope s_law) := ⟨rfl, rfl, rfl, by decide +kernel, rfl, by decide +kernel, by decide +kernel⟩
structure Ad where
  C_World : Addr
  C_Doing : Addr
  f_is_whole : Addr
  d_is_whole : FuncData
  f_is_size : Addr
  d_is_size : FuncData
  f_is_most : Addr
  d_is_most : FuncData
  f_are_items : Addr
  d_are_items : FuncData
  f_is_name : Addr
  d_is_name : FuncData
  f_are_rising : Addr
  d_are_rising : FuncData
  f_are_names : Addr
  d_are_names : FuncData
  f_are_pairs : Addr
  d_are_pairs : FuncData
  f_are_kinds : Addr
  d_are_kinds : FuncData
  f_are_alike : Addr
  d_are_alike : FuncData
  f_is_stand : Addr
  d_is_stand : FuncData
  f_World_init : Addr
  d_World_init : FuncData
  f_World_size : Addr
  d_World_size : FuncData
  f_World_most : Addr
  d_World_most : FuncData
  f_World_cells : Addr
  d_World_cells : FuncData
  f_World_rows : Addr
  d_World_rows : FuncData
  f_World_loose : Addr
  d_World_loose : FuncData
  f_World_eq : Addr
  d_World_eq : FuncData
  f_are_cells : Addr
  d_are_cells : FuncData
  f_are_rows : Addr
  d_are_rows : FuncData
  f_are_loose : Addr
  d_are_loose : FuncData
  f_all_values : Addr
  d_all_values : FuncData
  f_all_items : Addr
  d_all_items : FuncData
  f_check_few : Addr
  d_check_few : FuncData
  f_all_keys : Addr
  d_all_keys : FuncData
  f_choices : Addr
  d_choices : FuncData
  f_Doing_init : Addr
  d_Doing_init : FuncData
  f_Doing_world : Addr
  d_Doing_world : FuncData
  f_Doing_kinds : Addr
  d_Doing_kinds : FuncData
  f_Doing_table : Addr
  d_Doing_table : FuncData
  f_Doing_eq : Addr
  d_Doing_eq : FuncData
  f_Doing_le : Addr
  d_Doing_le : FuncData
  f_Doing_lt : Addr
  d_Doing_lt : FuncData
  f_Doing_ge : Addr
  d_Doing_ge : FuncData
  f_Doing_gt : Addr
  d_Doing_gt : FuncData
  f_check_kinds : Addr
  d_check_kinds : FuncData
  f_parted : Addr
  d_parted : FuncData
  f_beyond : Addr
  d_beyond : FuncData
  f_is_within : Addr
  d_is_within : FuncData
  f_first_key : Addr
  d_first_key : FuncData
  f_is_table : Addr
  d_is_table : FuncData
  f_is_row : Addr
  d_is_row : FuncData
  f_is_told : Addr
  d_is_told : FuncData
  f_is_end : Addr
  d_is_end : FuncData
  f_box : Addr
  d_box : FuncData
  f_take : Addr
  d_take : FuncData
  f_of : Addr
  d_of : FuncData
  f_products : Addr
  d_products : FuncData
  f_fillings : Addr
  d_fillings : FuncData
  f_land : Addr
  d_land : FuncData
  f_letters : Addr
  d_letters : FuncData
  f_kinds : Addr
  d_kinds : FuncData
  f_stands : Addr
  d_stands : FuncData
  f_law_all_values : Addr
  d_law_all_values : FuncData
  f_keys : Addr
  d_keys : FuncData
  f_told_drawn : Addr
  d_told_drawn : FuncData
  f_table : Addr
  d_table : FuncData
  f_other_table : Addr
  d_other_table : FuncData
  f_law_is_within : Addr
  d_law_is_within : FuncData
  f_first : Addr
  d_first : FuncData
  f_compared_right : Addr
  d_compared_right : FuncData
  f_right : Addr
  d_right : FuncData
  f_law : Addr
  d_law : FuncData
  p_size : Addr
  p_most : Addr
  p_cells : Addr
  p_rows : Addr
  p_loose : Addr
  p_world : Addr
  p_kinds : Addr
  p_table : Addr
/-- an empty tuple of the program itself -/
def KNil (K : Frag) (a : Addr) : Prop := ∃ (o : Obj) (n : Nat), K.lookup a = some o ∧ o.cls = .type "tuple" ∧ o.data = .seq #[] n
structure Txt (K : Frag) (mg : Str → Option Value) (A : Ad) : Prop where
  F_is_whole : Fun K "is_whole" "is_whole" s_is_whole A.f_is_whole A.d_is_whole
  b_is_whole : Binds K A.d_is_whole ["value", "low", "below"] []
  m_is_whole : mg "is_whole" = some (.ref A.f_is_whole)
  F_is_size : Fun K "is_size" "is_size" s_is_size A.f_is_size A.d_is_size
  b_is_size : Binds K A.d_is_size ["value"] []
  m_is_size : mg "is_size" = some (.ref A.f_is_size)
  F_is_most : Fun K "is_most" "is_most" s_is_most A.f_is_most A.d_is_most
  b_is_most : Binds K A.d_is_most ["value"] []
  m_is_most : mg "is_most" = some (.ref A.f_is_most)
  F_are_items : Fun K "are_items" "are_items" s_are_items A.f_are_items A.d_are_items
  b_are_items : Binds K A.d_are_items ["value", "size", "most"] []
  m_are_items : mg "are_items" = some (.ref A.f_are_items)
  F_is_name : Fun K "is_name" "is_name" s_is_name A.f_is_name A.d_is_name
  b_is_name : Binds K A.d_is_name ["value"] []
  m_is_name : mg "is_name" = some (.ref A.f_is_name)
  F_are_rising : Fun K "are_rising" "are_rising" s_are_rising A.f_are_rising A.d_are_rising
  b_are_rising : Binds K A.d_are_rising ["names"] []
  m_are_rising : mg "are_rising" = some (.ref A.f_are_rising)
  F_are_names : Fun K "are_names" "are_names" s_are_names A.f_are_names A.d_are_names
  b_are_names : Binds K A.d_are_names ["value", "most"] []
  m_are_names : mg "are_names" = some (.ref A.f_are_names)
  F_are_pairs : Fun K "are_pairs" "are_pairs" s_are_pairs A.f_are_pairs A.d_are_pairs
  b_are_pairs : Binds K A.d_are_pairs ["value", "most"] []
  m_are_pairs : mg "are_pairs" = some (.ref A.f_are_pairs)
  F_are_kinds : Fun K "are_kinds" "are_kinds" s_are_kinds A.f_are_kinds A.d_are_kinds
  b_are_kinds : Binds K A.d_are_kinds ["value", "most", "with_rows"] []
  m_are_kinds : mg "are_kinds" = some (.ref A.f_are_kinds)
  F_are_alike : Fun K "are_alike" "are_alike" s_are_alike A.f_are_alike A.d_are_alike
  b_are_alike : Binds K A.d_are_alike ["known", "value"] []
  m_are_alike : mg "are_alike" = some (.ref A.f_are_alike)
  F_is_stand : Fun K "is_stand" "is_stand" s_is_stand A.f_is_stand A.d_is_stand
  b_is_stand : Binds K A.d_is_stand ["world", "value"] []
  m_is_stand : mg "is_stand" = some (.ref A.f_is_stand)
  F_World_init : ∃ a, FunD K "__init__" "World.__init__" (defArgs s_World_init) (defBody s_World_init) (defScope s_World_init) [.ref a] [] A.f_World_init A.d_World_init ∧ KNil K a
  F_World_size : Fun K "size" "World.size" s_World_size A.f_World_size A.d_World_size
  b_World_size : Binds K A.d_World_size ["self"] []
  F_World_most : Fun K "most" "World.most" s_World_most A.f_World_most A.d_World_most
  b_World_most : Binds K A.d_World_most ["self"] []
  F_World_cells : Fun K "cells" "World.cells" s_World_cells A.f_World_cells A.d_World_cells
  b_World_cells : Binds K A.d_World_cells ["self"] []
  F_World_rows : Fun K "rows" "World.rows" s_World_rows A.f_World_rows A.d_World_rows
  b_World_rows : Binds K A.d_World_rows ["self"] []
  F_World_loose : Fun K "loose" "World.loose" s_World_loose A.f_World_loose A.d_World_loose
  b_World_loose : Binds K A.d_World_loose ["self"] []
  F_World_eq : Fun K "__eq__" "World.__eq__" s_World_eq A.f_World_eq A.d_World_eq
  b_World_eq : Binds K A.d_World_eq ["self", "other"] []
  F_are_cells : Fun K "_are_cells" "_are_cells" s_are_cells A.f_are_cells A.d_are_cells
  b_are_cells : Binds K A.d_are_cells ["value", "size"] []
  m_are_cells : mg "_are_cells" = some (.ref A.f_are_cells)
  F_are_rows : Fun K "_are_rows" "_are_rows" s_are_rows A.f_are_rows A.d_are_rows
  b_are_rows : Binds K A.d_are_rows ["value", "size", "most", "cells"] []
  m_are_rows : mg "_are_rows" = some (.ref A.f_are_rows)
  F_are_loose : Fun K "_are_loose" "_are_loose" s_are_loose A.f_are_loose A.d_are_loose
  b_are_loose : Binds K A.d_are_loose ["value", "cells", "rows"] []
  m_are_loose : mg "_are_loose" = some (.ref A.f_are_loose)
  F_all_values : Fun K "all_values" "all_values" s_all_values A.f_all_values A.d_all_values
  b_all_values : Binds K A.d_all_values ["world", "kinds"] []
  m_all_values : mg "all_values" = some (.ref A.f_all_values)
  F_all_items : Fun K "all_items" "all_items" s_all_items A.f_all_items A.d_all_items
  b_all_items : Binds K A.d_all_items ["world"] []
  m_all_items : mg "all_items" = some (.ref A.f_all_items)
  F_check_few : Fun K "check_few" "check_few" s_check_few A.f_check_few A.d_check_few
  b_check_few : Binds K A.d_check_few ["world", "kinds"] []
  m_check_few : mg "check_few" = some (.ref A.f_check_few)
  F_all_keys : Fun K "all_keys" "all_keys" s_all_keys A.f_all_keys A.d_all_keys
  b_all_keys : Binds K A.d_all_keys ["world", "kinds"] []
  m_all_keys : mg "all_keys" = some (.ref A.f_all_keys)
  F_choices : Fun K "_choices" "_choices" s_choices A.f_choices A.d_choices
  b_choices : Binds K A.d_choices ["world"] []
  m_choices : mg "_choices" = some (.ref A.f_choices)
  F_Doing_init : Fun K "__init__" "Doing.__init__" s_Doing_init A.f_Doing_init A.d_Doing_init
  b_Doing_init : Binds K A.d_Doing_init ["self", "world", "kinds", "table"] []
  F_Doing_world : Fun K "world" "Doing.world" s_Doing_world A.f_Doing_world A.d_Doing_world
  b_Doing_world : Binds K A.d_Doing_world ["self"] []
  F_Doing_kinds : Fun K "kinds" "Doing.kinds" s_Doing_kinds A.f_Doing_kinds A.d_Doing_kinds
  b_Doing_kinds : Binds K A.d_Doing_kinds ["self"] []
  F_Doing_table : Fun K "table" "Doing.table" s_Doing_table A.f_Doing_table A.d_Doing_table
  b_Doing_table : Binds K A.d_Doing_table ["self"] []
  F_Doing_eq : Fun K "__eq__" "Doing.__eq__" s_Doing_eq A.f_Doing_eq A.d_Doing_eq
  b_Doing_eq : Binds K A.d_Doing_eq ["self", "other"] []
  F_Doing_le : Fun K "__le__" "Doing.__le__" s_Doing_le A.f_Doing_le A.d_Doing_le
  b_Doing_le : Binds K A.d_Doing_le ["self", "other"] []
  F_Doing_lt : Fun K "__lt__" "Doing.__lt__" s_Doing_lt A.f_Doing_lt A.d_Doing_lt
  b_Doing_lt : Binds K A.d_Doing_lt ["self", "other"] []
  F_Doing_ge : Fun K "__ge__" "Doing.__ge__" s_Doing_ge A.f_Doing_ge A.d_Doing_ge
  b_Doing_ge : Binds K A.d_Doing_ge ["self", "other"] []
  F_Doing_gt : Fun K "__gt__" "Doing.__gt__" s_Doing_gt A.f_Doing_gt A.d_Doing_gt
  b_Doing_gt : Binds K A.d_Doing_gt ["self", "other"] []
  F_check_kinds : Fun K "check_kinds" "check_kinds" s_check_kinds A.f_check_kinds A.d_check_kinds
  b_check_kinds : Binds K A.d_check_kinds ["world", "kinds", "most"] []
  m_check_kinds : mg "check_kinds" = some (.ref A.f_check_kinds)
  F_parted : Fun K "parted" "parted" s_parted A.f_parted A.d_parted
  b_parted : Binds K A.d_parted ["one", "other"] []
  m_parted : mg "parted" = some (.ref A.f_parted)
  F_beyond : Fun K "beyond" "beyond" s_beyond A.f_beyond A.d_beyond
  b_beyond : Binds K A.d_beyond ["one", "other"] []
  m_beyond : mg "beyond" = some (.ref A.f_beyond)
  F_is_within : Fun K "_is_within" "_is_within" s_is_within A.f_is_within A.d_is_within
  b_is_within : Binds K A.d_is_within ["one", "other"] []
  m_is_within : mg "_is_within" = some (.ref A.f_is_within)
  F_first_key : Fun K "_first_key" "_first_key" s_first_key A.f_first_key A.d_first_key
  b_first_key : Binds K A.d_first_key ["found"] []
  m_first_key : mg "_first_key" = some (.ref A.f_first_key)
  F_is_table : Fun K "_is_table" "_is_table" s_is_table A.f_is_table A.d_is_table
  b_is_table : Binds K A.d_is_table ["world", "kinds", "value"] []
  m_is_table : mg "_is_table" = some (.ref A.f_is_table)
  F_is_row : Fun K "_is_row" "_is_row" s_is_row A.f_is_row A.d_is_row
  b_is_row : Binds K A.d_is_row ["world", "key", "value"] []
  m_is_row : mg "_is_row" = some (.ref A.f_is_row)
  F_is_told : Fun K "_is_told" "_is_told" s_is_told A.f_is_told A.d_is_told
  b_is_told : Binds K A.d_is_told ["world", "value"] []
  m_is_told : mg "_is_told" = some (.ref A.f_is_told)
  F_is_end : Fun K "_is_end" "_is_end" s_is_end A.f_is_end A.d_is_end
  b_is_end : Binds K A.d_is_end ["world", "value"] []
  m_is_end : mg "_is_end" = some (.ref A.f_is_end)
  F_box : Fun K "_law_box" "_law_box" s_box A.f_box A.d_box
  b_box : Binds K A.d_box ["_law_script", "_law_k"] []
  m_box : mg "_law_box" = some (.ref A.f_box)
  F_take : Fun K "_law_take" "_law_take" s_take A.f_take A.d_take
  b_take : Binds K A.d_take ["_law_box_here", "_law_many"] []
  m_take : mg "_law_take" = some (.ref A.f_take)
  F_of : Fun K "_law_of" "_law_of" s_of A.f_of A.d_of
  b_of : Binds K A.d_of ["_law_box_here", "_law_some"] []
  m_of : mg "_law_of" = some (.ref A.f_of)
  F_products : Fun K "_law_products" "_law_products" s_products A.f_products A.d_products
  b_products : Binds K A.d_products ["_law_lots"] []
  m_products : mg "_law_products" = some (.ref A.f_products)
  F_fillings : Fun K "_law_fillings" "_law_fillings" s_fillings A.f_fillings A.d_fillings
  b_fillings : Binds K A.d_fillings ["_law_size", "_law_most"] []
  m_fillings : mg "_law_fillings" = some (.ref A.f_fillings)
  F_land : Fun K "_law_land" "_law_land" s_land A.f_land A.d_land
  b_land : Binds K A.d_land ["_law_box_here"] []
  m_land : mg "_law_land" = some (.ref A.f_land)
  F_letters : Fun K "_law_letters" "_law_letters" s_letters A.f_letters A.d_letters
  b_letters : Binds K A.d_letters ["_law_box_here", "_law_land_here", "_law_upto"] []
  m_letters : mg "_law_letters" = some (.ref A.f_letters)
  F_kinds : Fun K "_law_kinds" "_law_kinds" s_kinds A.f_kinds A.d_kinds
  b_kinds : Binds K A.d_kinds ["_law_box_here", "_law_land_here", "_law_upto"] []
  m_kinds : mg "_law_kinds" = some (.ref A.f_kinds)
  F_stands : Fun K "_law_stands" "_law_stands" s_stands A.f_stands A.d_stands
  b_stands : Binds K A.d_stands ["_law_land_here"] []
  m_stands : mg "_law_stands" = some (.ref A.f_stands)
  F_law_all_values : Fun K "_law_all_values" "_law_all_values" s_law_all_values A.f_law_all_values A.d_law_all_values
  b_law_all_values : Binds K A.d_law_all_values ["_law_land_here", "_law_kinds_here"] []
  m_law_all_values : mg "_law_all_values" = some (.ref A.f_law_all_values)
  F_keys : Fun K "_law_keys" "_law_keys" s_keys A.f_keys A.d_keys
  b_keys : Binds K A.d_keys ["_law_land_here", "_law_kinds_here"] []
  m_keys : mg "_law_keys" = some (.ref A.f_keys)
  F_told_drawn : Fun K "_law_told_drawn" "_law_told_drawn" s_told_drawn A.f_told_drawn A.d_told_drawn
  b_told_drawn : Binds K A.d_told_drawn ["_law_box_here", "_law_land_here", "_law_stands_here"] []
  m_told_drawn : mg "_law_told_drawn" = some (.ref A.f_told_drawn)
  F_table : Fun K "_law_table" "_law_table" s_table A.f_table A.d_table
  b_table : Binds K A.d_table ["_law_box_here", "_law_land_here", "_law_kinds_here"] []
  m_table : mg "_law_table" = some (.ref A.f_table)
  F_other_table : Fun K "_law_other_table" "_law_other_table" s_other_table A.f_other_table A.d_other_table
  b_other_table : Binds K A.d_other_table ["_law_box_here", "_law_land_here", "_law_kinds_here", "_law_table_here"] []
  m_other_table : mg "_law_other_table" = some (.ref A.f_other_table)
  F_law_is_within : Fun K "_law_is_within" "_law_is_within" s_law_is_within A.f_law_is_within A.d_law_is_within
  b_law_is_within : Binds K A.d_law_is_within ["_law_table_here", "_law_other"] []
  m_law_is_within : mg "_law_is_within" = some (.ref A.f_law_is_within)
  F_first : Fun K "_law_first" "_law_first" s_first A.f_first A.d_first
  b_first : Binds K A.d_first ["_law_table_here", "_law_other", "_law_is_beyond"] []
  m_first : mg "_law_first" = some (.ref A.f_first)
  F_compared_right : Fun K "_law_compared_right" "_law_compared_right" s_compared_right A.f_compared_right A.d_compared_right
  b_compared_right : Binds K A.d_compared_right ["_law_table_here", "_law_other", "_law_one", "_law_two"] []
  m_compared_right : mg "_law_compared_right" = some (.ref A.f_compared_right)
  F_right : Fun K "_law_right" "_law_right" s_right A.f_right A.d_right
  b_right : Binds K A.d_right ["_law_box_here"] []
  m_right : mg "_law_right" = some (.ref A.f_right)
  F_law : Fun K "law" "law" s_law A.f_law A.d_law
  b_law : Binds K A.d_law ["_law_script"] []
  m_law : mg "law" = some (.ref A.f_law)
  m_World : mg "World" = some (.ref A.C_World)
  m_Doing : mg "Doing" = some (.ref A.C_Doing)
  g_isinstance : mg "isinstance" = none
  g_int : mg "int" = none
  g_bool : mg "bool" = none
  g_str : mg "str" = none
  g_len : mg "len" = none
  g_abs : mg "abs" = none
  g_repr : mg "repr" = none
  g_all : mg "all" = none
  g_range : mg "range" = none
  g_tuple : mg "tuple" = none
  g_list : mg "list" = none
  g_zip : mg "zip" = none
  g_enumerate : mg "enumerate" = none
  g_max : mg "max" = none
  g_min : mg "min" = none
  c_MOST_LETTERS_forms : ∃ t, mg "MOST_LETTERS_forms" = some (.int 8 t)
  c_LETTERS : ∃ t, mg "LETTERS" = some (.str "abcdefghijklmnopqrstuvwxyz" t)
  c_MOST_CELLS : ∃ t, mg "MOST_CELLS" = some (.int 2 t)
  c_MOST_ROWS : ∃ t, mg "MOST_ROWS" = some (.int 2 t)
  c_MOST_KEYS : ∃ t, mg "MOST_KEYS" = some (.int 1000 t)
  c_MOST_WORDS : ∃ t, mg "MOST_WORDS" = some (.int 3 t)
  c_MOST_LETTERS_doings : ∃ t, mg "MOST_LETTERS_doings" = some (.int 4 t)
  cls_World : Cls K A.C_World
  mk_World : Mk K A.C_World A.f_World_init
  cls_Doing : Cls K A.C_Doing
  mk_Doing : Mk K A.C_Doing A.f_Doing_init
  n_size : NoAttr K A.C_World "_size"
  n_most : NoAttr K A.C_World "_most"
  n_cells : NoAttr K A.C_World "_cells"
  n_rows : NoAttr K A.C_World "_rows"
  n_loose : NoAttr K A.C_World "_loose"
  n_cell_numbers : NoAttr K A.C_World "_cell_numbers"
  n_row_numbers : NoAttr K A.C_World "_row_numbers"
  n_world : NoAttr K A.C_Doing "_world"
  n_kinds : NoAttr K A.C_Doing "_kinds"
  n_table : NoAttr K A.C_Doing "_table"
  n_by_key : NoAttr K A.C_Doing "_by_key"
  P_size : PropOf K A.C_World "size" A.p_size A.f_World_size
  P_most : PropOf K A.C_World "most" A.p_most A.f_World_most
  P_cells : PropOf K A.C_World "cells" A.p_cells A.f_World_cells
  P_rows : PropOf K A.C_World "rows" A.p_rows A.f_World_rows
  P_loose : PropOf K A.C_World "loose" A.p_loose A.f_World_loose
  P_world : PropOf K A.C_Doing "world" A.p_world A.f_Doing_world
  P_kinds : PropOf K A.C_Doing "kinds" A.p_kinds A.f_Doing_kinds
  P_table : PropOf K A.C_Doing "table" A.p_table A.f_Doing_table
  kcl : PySem.W.findIn K (.ref A.C_World) "__class__" = some (some (.builtin "object.__class__"))
  kgs : PySem.W.specialIn K (.builtin "object.__class__") "__get__" = some (some (.builtin "getset_descriptor.__get__"))
  ktk : PySem.W.takesIn K (.builtin "object.__class__") = some true
  kob : PySem.W.mroIn K A.C_World (.type "object") = some true
  kclD : PySem.W.findIn K (.ref A.C_Doing) "__class__" = some (some (.builtin "object.__class__"))
  kobD : PySem.W.mroIn K A.C_Doing (.type "object") = some true
  eqc : EqC K A.C_World A.f_World_eq
  eqd : EqC K A.C_Doing A.f_Doing_eq
  k_DW : PySem.W.kitOne K (.ref A.C_World) (.ref A.C_Doing) = some false
  k_tup : PySem.W.kitOne K (.type "tuple") (.ref A.C_Doing) = some false
  k_non : PySem.W.kitOne K (.type "NoneType") (.ref A.C_Doing) = some false
  k_str : PySem.W.kitOne K (.type "str") (.ref A.C_Doing) = some false
  k_int : PySem.W.kitOne K (.type "int") (.ref A.C_Doing) = some false
  nfN : PySem.W.notFirst K A.C_Doing (.type "NoneType") = true
  nfS : PySem.W.notFirst K A.C_Doing (.type "str") = true
  nfW : PySem.W.notFirst K A.C_Doing (.ref A.C_World) = true
  cle : CmS K A.C_Doing .LtE A.f_Doing_le
  clt : CmS K A.C_Doing .Lt A.f_Doing_lt
  cge : CmS K A.C_Doing .GtE A.f_Doing_ge
  cgt : CmS K A.C_Doing .Gt A.f_Doing_gt
theorem small {n : Nat} (h : n < 1000) : n < sizeLine := Nat.lt_of_lt_of_le h (by decide)
def abc : Str := "abcdefghijklmnopqrstuvwxyz"
def nameOk (z : Str) : Bool := decide (1 ≤ z.length) && (decide (z.length ≤ 8) && z.cps.toList.all (fun c => decide (c ∈ abc.cps.toList)))
def rises : List Str → Bool
  | a :: b :: r => decide (a.cps.toList < b.cps.toList) && rises (b :: r)
  | _ => true
theorem rises_at : ∀ {ss : List Str} {i : Nat} {a b : Str}, rises ss = true → ss[i]? = some a → ss[i + 1]? = some b → decide (a.cps.toList < b.cps.toList) = true
  | [], i, a, b, _, h, _ => by simp at h
  | [_], 0, a, b, _, _, h => by simp at h
  | [_], i + 1, a, b, _, h, _ => by simp at h
  | x :: y :: r, 0, a, b, h, h1, h2 => by cases h1; cases h2; exact (Bool.and_eq_true_iff.mp h).1
  | x :: y :: r, i + 1, a, b, h, h1, h2 => rises_at (ss := y :: r) (Bool.and_eq_true_iff.mp h).2 (by simpa using h1) (by simpa using h2)
def okN (ss : List Str) : Bool := ss.all nameOk && rises ss
def pD (p : Str × PyData) : PyData := .tuple [.str p.1, p.2]
def kindsOk (b : Bool) (z : Str) : Bool := z.cps.toList.all fun c => c == 110 || (b && c == 114)
def spSizeA (K : Frag) (lo hi : Int) : Sp := fun vs H Q _ => ∃ v : V, vs = [v] ∧ Kd K H v ∧ Q (.bl (whole v lo hi)) H
def Yes (H : Hp) (Q : VK) : Prop := ∀ H', Ex H H' → Q (.bl true) H'
def spItems : Sp := fun vs H Q _ => ∃ (v : V) (is : List Int) (s m : Int), vs = [v, .int s, .int m] ∧ Tz H v (.tuple (is.map PyData.int)) ∧ (is.length : Int) ≤ m ∧ m < 900 ∧ (∀ i ∈ is, 0 ≤ i ∧ i < s) ∧ Yes H Q
def spName : Sp := fun vs H Q _ => ∃ z : Str, vs = [.str z] ∧ nameOk z = true ∧ Yes H Q
def spRise : Sp := fun vs H Q _ => ∃ (a : Addr) (ss : List Str), vs = [.ref a] ∧ (H a = some (.lst (ss.map V.str)) ∨ H a = some (.tup (ss.map V.str))) ∧ rises ss = true ∧ ss.length < 900 ∧ Yes H Q
def spKinds : Sp := fun vs H Q _ => ∃ (z : Str) (m : Int) (b : Bool), vs = [.str z, .int m, .bl b] ∧ (z.length : Int) ≤ m ∧ m < 900 ∧ kindsOk b z = true ∧ Yes H Q
def spPairs : Sp := fun vs H Q _ => ∃ (v : V) (ps : List (Str × PyData)) (m : Int), vs = [v, .int m] ∧ Tz H v (.tuple (ps.map pD)) ∧ (ps.length : Int) ≤ m ∧ m < 900 ∧ okN (ps.map (·.1)) = true ∧ Yes H Q
theorem flat_strs (ss : List Str) : (ss.map V.str).all flatV = true := by simp [flatV]
theorem kt_str {K : Frag} {H : Hp} (z : Str) : TyX K H (.str z) (.type "str") := .base (.str z)

theorem KNil.sq {K : Frag} {a : Addr} {H : Hp} (h : KNil K a) : SqT K H a [] := let ⟨o, n, h1, h2, h3⟩ := h; .inr ⟨o, #[], n, h1, h2, h3, Nat.zero_le _, .nil⟩
theorem sqt_ex {K : Frag} {H H' : Hp} {a : Addr} {xs : List V} (h : SqT K H a xs) (e : Ex H H') : SqT K H' a xs :=
  h.elim (fun z => z.elim (fun y => .inl (.inl (e _ _ y))) fun ⟨o, y⟩ => .inl (.inr ⟨o, e _ _ y⟩)) .inr
def NmT (K : Frag) (H : Hp) (v : V) (ss : List Str) : Prop := ∃ a, v = .ref a ∧ (H a = some (.tup (ss.map V.str)) ∨ (ss = [] ∧ KNil K a))
theorem NmT.ex {K : Frag} {H H' : Hp} {v : V} {ss : List Str} (h : NmT K H v ss) (e : Ex H H') : NmT K H' v ss := let ⟨a, h1, h2⟩ := h; ⟨a, h1, h2.imp (e _ _) id⟩
theorem NmT.sq {K : Frag} {H : Hp} {v : V} {ss : List Str} (h : NmT K H v ss) : ∃ a, v = .ref a ∧ SqT K H a (ss.map V.str) := by
  obtain ⟨a, h1, h2⟩ := h
  refine ⟨a, h1, ?_⟩
  rcases h2 with h2 | ⟨rfl, h2⟩
  · exact SqT.of h2
  · exact h2.sq
theorem NmT.of {K : Frag} {H : Hp} {a : Addr} {ss : List Str} (h : H a = some (.tup (ss.map V.str))) : NmT K H (.ref a) ss := ⟨a, rfl, .inl h⟩
theorem ty_nm {K : Frag} {H : Hp} {v : V} {ss : List Str} (h : NmT K H v ss) : TyX K H v (.type "tuple") := by
  obtain ⟨a, rfl, h | ⟨-, o, n, h1, h2, h3⟩⟩ := h
  · exact .base (.tup h)
  · exact .kTuple h1 h2
def spRiseK (K : Frag) : Sp := fun vs H Q _ => ∃ (a : Addr) (ss : List Str), vs = [.ref a] ∧ (H a = some (.lst (ss.map V.str)) ∨ SqT K H a (ss.map V.str)) ∧ rises ss = true ∧ ss.length < 900 ∧ Yes H Q
def spNames (K : Frag) : Sp := fun vs H Q _ => ∃ (v : V) (ss : List Str) (m : Int), vs = [v, .int m] ∧ NmT K H v ss ∧ okN ss = true ∧ (ss.length : Int) ≤ m ∧ m < 900 ∧ Yes H Q
section
variable {P : Program} {w : World} {K : Frag} {mg : Str → Option Value} {base : Heap} {A : Ad}

theorem ok_is_whole (T : Txt K mg A) : FnOk P w K mg base CX0 1 A.f_is_whole A.d_is_whole ["value", "low", "below"] (spWholeA K) := by
  refine T.F_is_whole.ok sc_is_whole (fun vs H Q E h => ?_) (fun cdv A0 outer s H vs Q E hr h => ?_)
  · obtain ⟨_, _, _, rfl, _⟩ := h
    rfl
  · have hu := hu_of hr
    obtain ⟨v, lo, hi, rfl, hk, k⟩ := h
    refine ⟨_, (pss_one (ps_ret (pe_and (pe_callB call_isi (by rfl) T.g_isinstance (by decide +kernel) (pa_cons (pv 0) (pa_cons (pe_bltn (v := .ty "int") (by rfl) T.g_int (by decide +kernel) rfl) pa_nil))) (pe_and (pe_not (pe_callB call_isi (by rfl) T.g_isinstance (by decide +kernel) (pa_cons (pv 0) (pa_cons (pe_bltn (v := .ty "bool") (by rfl) T.g_bool (by decide +kernel) rfl) pa_nil)))) (pe_one (pe_chain op_le op_lt (pv 1) (pv 0) (pv 2))))))), ?_⟩
    obtain ⟨t, ty, ki, kb⟩ := hk
    cases v with
    | int i =>
      refine ⟨_, rfl, _, _, _, _, _, rfl, .ty _, ty, ki, true, rfl, iteT ?_⟩
      refine ⟨_, rfl, _, _, _, _, _, rfl, .ty _, ty, kb, false, rfl, true, rfl, iteT ?_⟩
      refine ⟨_, rfl, _, rfl, _, _, rfl, rfl, _, rfl, if_dec (fun h1 => ?_) (fun h1 => ?_)⟩
      · refine ⟨_, rfl, _, _, rfl, rfl, ?_⟩
        simp only [whole, decide_eq_true h1, Bool.true_and] at k
        exact k
      · simp only [whole, decide_eq_false h1, Bool.false_and] at k
        exact k
    | bl b =>
      refine ⟨_, rfl, _, _, _, _, _, rfl, .ty _, ty, ki, true, rfl, iteT ?_⟩
      exact ⟨_, rfl, _, _, _, _, _, rfl, .ty _, ty, kb, true, rfl, false, rfl, iteF k⟩
    | _ => exact ⟨_, rfl, _, _, _, _, _, rfl, .ty _, ty, ki, false, rfl, iteF k⟩
theorem kd_int {K : Frag} {H : Hp} (i : Int) : Kd K H (.int i) := kd_of (p := 0) (.int i)
theorem whole_yes {i lo hi : Int} (h : lo ≤ i) (k : i < hi) : whole (.int i) lo hi = true := by simp [whole, h, k]
theorem ok_is_size (T : Txt K mg A) : FnOk P w K mg base CX0 2 A.f_is_size A.d_is_size ["value"] (spSizeA K 2 5) := by
  refine T.F_is_size.ok sc_is_size (fun vs H Q E h => ?_) (fun cdv A0 outer s H vs Q E hr h => ?_)
  · obtain ⟨_, rfl, _⟩ := h
    rfl
  · have hu := hu_of hr
    obtain ⟨v, rfl, hk, k⟩ := h
    refine ⟨_, (pss_one (ps_ret (pe_call (ok_is_whole T) (hr.mono (by decide)) (by rfl) T.m_is_whole T.F_is_whole.kp T.b_is_whole .nil pass0 (pa_cons (pv 0) (pa_cons pe_int (pa_cons pe_int pa_nil)))))), ?_⟩
    exact ⟨_, rfl, _, _, _, rfl, hk, k⟩
theorem ok_is_most (T : Txt K mg A) : FnOk P w K mg base CX0 2 A.f_is_most A.d_is_most ["value"] (spSizeA K 1 3) := by
  refine T.F_is_most.ok sc_is_most (fun vs H Q E h => ?_) (fun cdv A0 outer s H vs Q E hr h => ?_)
  · obtain ⟨_, rfl, _⟩ := h
    rfl
  · have hu := hu_of hr
    obtain ⟨v, rfl, hk, k⟩ := h
    refine ⟨_, (pss_one (ps_ret (pe_call (ok_is_whole T) (hr.mono (by decide)) (by rfl) T.m_is_whole T.F_is_whole.kp T.b_is_whole .nil pass0 (pa_cons (pv 0) (pa_cons pe_int (pa_cons pe_int pa_nil)))))), ?_⟩
    exact ⟨_, rfl, _, _, _, rfl, hk, k⟩
theorem ok_are_items (T : Txt K mg A) : FnOk P w K mg base CX0 2 A.f_are_items A.d_are_items ["value", "size", "most"] (spItems) := by
  refine T.F_are_items.ok sc_are_items (fun vs H Q E h => ?_) (fun cdv A0 outer s H vs Q E hr h => ?_)
  · obtain ⟨_, _, _, _, rfl, _⟩ := h
    rfl
  · have hu := hu_of hr
    obtain ⟨v, is, sz, mo, rfl, hz, hl, hm, hb, k⟩ := h
    refine ⟨_, (pss_cons (ps_if (PW.pt (pw_or (pt_not (pt_val (pe_callB call_isi (by rfl) T.g_isinstance (by decide +kernel) (pa_cons (pv 0) (pa_cons (pe_bltn (v := .ty "tuple") (by rfl) T.g_tuple (by decide +kernel) rfl) pa_nil))))) (pw_or1 (pt_cmpR op_gt (pe_callB call_len_seq (by rfl) T.g_len (by decide +kernel) (pa_cons (pv 0) pa_nil)) (pv 2) (nomark _))))) (pss_one (ps_ret pe_bl)) pss_nil)
      (pss_one (ps_ret (pe_callB (cr_all rfl) (by rfl) T.g_all (by decide +kernel) (pa_cons (pe_lc (own := [("worth", 3)]) (g := (gName 3)) (tt := tYes) rfl sc_are_items.nd (pi_tup (pv 0)) (blkOk_by (N := N_are_items) (sc := defScope s_are_items) (by decide +kernel)) (fun _ _ _ _ _ => pg_name (i := 3) sc_are_items.nd rfl (Or.inl rfl)) (fun _ _ _ _ _ => pts_nil) (fun _ _ _ _ _ => (pe_call (ok_is_whole T) (hr.mono (by decide)) (by rfl) T.m_is_whole T.F_is_whole.kp T.b_is_whole .nil pass0 (pa_cons (pv 3) (pa_cons pe_int (pa_cons (pv 1) pa_nil)))))) pa_nil))))), ?_⟩
    obtain ⟨a, xs, rfl, ht, hx⟩ := hz.tupI
    obtain rfl := hx.ints
    refine ⟨_, rfl, _, _, _, _, _, rfl, .ty _, .base (.tup ht), kit_ty (r := true) (by decide +kernel), _, rfl, HX.if_false rfl ?_⟩
    refine ⟨_, rfl, a, _, rfl, .inr (SqT.of ht), _, rfl, _, _, rfl, rfl, _, rfl, HX.if_false (decide_eq_false (by rw [List.length_map]; omega)) ?_⟩
    refine ⟨_, rfl, a, rfl, ⟨_, SqT.of ht⟩, fun D nD => lc_yes (walk_tup (xs := is.map V.int)) (by rw [List.length_map]; omega) nD (fun H' e => SqT.of (e _ _ ht)) (fun i x H2 H3 Kq hi e y kq => ?_) (fun H2 e hD => ?_)⟩
    · obtain ⟨rfl, hx⟩ := y
      rw [List.getElem?_map] at hx
      obtain ⟨z, hz, rfl⟩ := Option.map_eq_some_iff.mp hx
      have hb2 := hb z (List.mem_of_getElem? hz)
      refine ⟨rfl, _, rfl, _, rfl, _, 0, sz, rfl, kd_int z, ?_⟩
      rw [whole_yes hb2.1 hb2.2]
      exact kq _ (Ex.rf _)
    · refine ⟨D, _, rfl, SqL.of hD, ?_⟩
      rw [rep_all]
      exact k _ e
theorem ok_is_name (T : Txt K mg A) : FnOk P w K mg base CX0 1 A.f_is_name A.d_is_name ["value"] (spName) := by
  refine T.F_is_name.ok sc_is_name (fun vs H Q E h => ?_) (fun cdv A0 outer s H vs Q E hr h => ?_)
  · obtain ⟨_, rfl, _⟩ := h
    rfl
  · have hu := hu_of hr
    obtain ⟨z, rfl, hn, k⟩ := h
    refine ⟨_, (pss_cons (ps_if (PW.pt (pw_or (pt_not (pt_val (pe_callB call_isi (by rfl) T.g_isinstance (by decide +kernel) (pa_cons (pv 0) (pa_cons (pe_bltn (v := .ty "str") (by rfl) T.g_str (by decide +kernel) rfl) pa_nil))))) (pw_or1 (pt_not (pt_chain op_le op_le pe_int (pe_callB call_len_str (by rfl) T.g_len (by decide +kernel) (pa_cons (pv 0) pa_nil)) (pe_glob (v := .int 8) (by rfl) T.c_MOST_LETTERS_forms.choose_spec ⟨_, rfl⟩)))))) (pss_one (ps_ret pe_bl)) pss_nil)
      (pss_one (ps_ret (pe_callB (cr_all rfl) (by rfl) T.g_all (by decide +kernel) (pa_cons (pe_lc (own := [("letter", 1)]) (g := (gName 1)) (tt := tYes) rfl sc_is_name.nd (pi_str (pv 0)) (blkOk_by (N := N_is_name) (sc := defScope s_is_name) (by decide +kernel)) (fun _ _ _ _ _ => pg_name (i := 1) sc_is_name.nd rfl (Or.inl rfl)) (fun _ _ _ _ _ => pts_nil) (fun _ _ _ _ _ => (pe_cmpR op_in_sign (pv 1) (pe_glob (v := .str "abcdefghijklmnopqrstuvwxyz") (by rfl) T.c_LETTERS.choose_spec ⟨_, rfl⟩) (by rfl)))) pa_nil))))), ?_⟩
    unfold nameOk at hn
    simp only [Bool.and_eq_true, decide_eq_true_eq] at hn
    obtain ⟨l1, l8, ha⟩ := hn
    have hs : z.length ≤ sizeLine := Nat.le_trans l8 (by decide)
    refine ⟨_, rfl, _, _, _, _, _, rfl, .ty _, .base (.str z), kit_ty (r := true) (by decide +kernel), _, rfl, HX.if_false rfl ?_⟩
    refine ⟨_, rfl, z, rfl, hs, _, _, rfl, rfl, _, rfl, HX.if_true (decide_eq_true (by omega)) ?_⟩
    refine ⟨_, _, rfl, rfl, _, rfl, HX.if_false (by rw [decide_eq_true (by omega)]; rfl) ?_⟩
    refine ⟨_, rfl, z, rfl, fun D nD => lc_yes walk_str (by show z.length < 1000; omega) nD (fun _ _ => trivial) (fun i x H2 H3 Kq hi e y kq => ?_) (fun H2 e hD => ?_)⟩
    · obtain ⟨rfl, c, hc, rfl⟩ := y
      refine ⟨rfl, _, rfl, c, _, rfl, rfl, ?_⟩
      have hm : c ∈ z.cps.toList := by
        have := Array.mem_of_getElem? hc
        simpa using this
      have := List.all_eq_true.mp ha c hm
      rw [show decide (c ∈ ("abcdefghijklmnopqrstuvwxyz" : Str).cps.toList) = true from this]
      exact kq _ (Ex.rf _)
    · refine ⟨D, _, rfl, SqL.of hD, ?_⟩
      rw [rep_all]
      exact k _ e
theorem ok_are_rising (T : Txt K mg A) : FnOk P w K mg base CX0 1 A.f_are_rising A.d_are_rising ["names"] (spRiseK K) := by
  refine T.F_are_rising.ok sc_are_rising (fun vs H Q E h => ?_) (fun cdv A0 outer s H vs Q E hr h => ?_)
  · obtain ⟨_, _, rfl, _⟩ := h
    rfl
  · have hu := hu_of hr
    obtain ⟨a, ss, rfl, ha, hr, hl, k⟩ := h
    refine ⟨_, (pss_one (ps_ret (pe_callB (cr_all rfl) (by rfl) T.g_all (by decide +kernel) (pa_cons (pe_lc (own := [("one", 1), ("other", 2)]) (g := (gTup K 2 (gCons (gName 1) (gCons (gName 2) gNil)))) (tt := tYes) rfl sc_are_rising.nd (RZ.pi_zipA (by rfl) T.g_zip (pa_cons (pv 0) (pa_cons (pe_slice sl_seq (pv 0) (po_some pe_int) po_none) pa_nil))) (blkOk_by (N := N_are_rising) (sc := defScope s_are_rising) (by decide +kernel)) (fun _ _ _ _ _ => pg_tup rfl (pgs_cons (pg_name (i := 1) sc_are_rising.nd rfl (Or.inl rfl)) (pgs_cons (pg_name (i := 2) sc_are_rising.nd rfl (Or.inl rfl)) pgs_nil))) (fun _ _ _ _ _ => pts_nil) (fun _ _ _ _ _ => (pe_cmpR op_lt_str (pv 1) (pv 2) (nomark _)))) pa_nil)))), ?_⟩
    have turn : ∀ (i : Nat) (x : V) (H2 H3 : Hp), YPair (fun i => (ss.map V.str)[i]?) (fun i => (ss.map V.str).tail[i]?) i H2 x H3 → ∃ T u z, x = .ref T ∧ H2 T = none ∧ H3 = upd H2 T (.tup [.str u, .str z]) ∧ decide (u.cps.toList < z.cps.toList) = true := fun i x H2 H3 y => by
      obtain ⟨T, v, v', h1, h2, h3, h4, h5⟩ := y
      replace h4 : (ss.map V.str)[i]? = some v := h4
      replace h5 : (ss.map V.str).tail[i]? = some v' := h5
      rw [List.getElem?_map] at h4
      obtain ⟨u, hu, rfl⟩ := Option.map_eq_some_iff.mp h4
      rw [List.getElem?_tail, List.getElem?_map] at h5
      obtain ⟨z, hz, rfl⟩ := Option.map_eq_some_iff.mp h5
      exact ⟨T, u, z, h1, h2, h3, rises_at hr hu hz⟩
    have ln : (ss.map V.str).length = ss.length := List.length_map ..
    have lt : (ss.map V.str).tail.length = ss.length - 1 := by rw [List.length_tail, ln]
    rcases ha with ha | ha
    · refine ⟨_, rfl, _, rfl, _, rfl, .inl ⟨a, _, rfl, SqL.of ha, fun q nq => ?_⟩⟩
      rw [cut_tail]
      have e0 : Ex H (upd H q (.lst (ss.map V.str).tail)) := Ex.nw nq
      refine ⟨a, q, _, _, rfl, .inl ⟨SqL.of (e0 _ _ ha), SqL.of upd_same, fun D nD => lc_yes (walk_zip (xs := ss.map V.str) (ys := (ss.map V.str).tail) rfl) (by omega) nD (fun H' e => ⟨SqL.of (e _ _ (e0 _ _ ha)), SqL.of (e _ _ upd_same)⟩) (fun i x H2 H3 Kq hi e y kq => ?_) (fun H2 e hD => ?_)⟩⟩
      · obtain ⟨T, u, z, rfl, nT, rfl, hlt⟩ := turn i x H2 H3 y
        refine ⟨T, _, rfl, SqT.of upd_same, rfl, _, _, rfl, _, _, rfl, rfl, rfl, _, rfl, _, rfl, u, z, rfl, rfl, ?_⟩
        rw [hlt]
        exact kq _ (Ex.nw nT)
      · refine ⟨D, _, rfl, SqL.of hD, ?_⟩
        rw [rep_all]
        exact k _ (e0.tr e)
    · refine ⟨_, rfl, _, rfl, _, rfl, .inr ⟨a, _, rfl, ha, fun hw => ?_, fun hw q nq => ?_⟩⟩
      · have h0 : ss = [] := by
          have := hw.1
          rw [ln] at this
          have h1 : min 1 ss.length = 0 := this
          exact List.eq_nil_of_length_eq_zero (by omega)
        have e0 : Ex H H := Ex.rf _
        have hq : SqT K H a (ss.map V.str).tail := by rw [h0] at ha ⊢; exact ha
        refine ⟨a, a, _, _, rfl, .inr ⟨(sqt_ex ha e0), hq, fun D nD => lc_yes (walk_zipT (xs := ss.map V.str) (ys := (ss.map V.str).tail) rfl) (by omega) nD (fun H' e => ⟨sqt_ex (sqt_ex ha e0) e, sqt_ex hq e⟩) (fun i x H2 H3 Kq hi e y kq => ?_) (fun H2 e hD => ?_)⟩⟩
        · obtain ⟨T, u, z, rfl, nT, rfl, hlt⟩ := turn i x H2 H3 y
          refine ⟨T, _, rfl, SqT.of upd_same, rfl, _, _, rfl, _, _, rfl, rfl, rfl, _, rfl, _, rfl, u, z, rfl, rfl, ?_⟩
          rw [hlt]
          exact kq _ (Ex.nw nT)
        · refine ⟨D, _, rfl, SqL.of hD, ?_⟩
          rw [rep_all]
          exact k _ (e0.tr e)
      · rw [cut_tail]
        have e0 : Ex H (upd H q (.tup (ss.map V.str).tail)) := Ex.nw nq
        have hq : SqT K (upd H q (.tup (ss.map V.str).tail)) q (ss.map V.str).tail := SqT.of upd_same
        refine ⟨a, q, _, _, rfl, .inr ⟨(sqt_ex ha e0), hq, fun D nD => lc_yes (walk_zipT (xs := ss.map V.str) (ys := (ss.map V.str).tail) rfl) (by omega) nD (fun H' e => ⟨sqt_ex (sqt_ex ha e0) e, sqt_ex hq e⟩) (fun i x H2 H3 Kq hi e y kq => ?_) (fun H2 e hD => ?_)⟩⟩
        · obtain ⟨T, u, z, rfl, nT, rfl, hlt⟩ := turn i x H2 H3 y
          refine ⟨T, _, rfl, SqT.of upd_same, rfl, _, _, rfl, _, _, rfl, rfl, rfl, _, rfl, _, rfl, u, z, rfl, rfl, ?_⟩
          rw [hlt]
          exact kq _ (Ex.nw nT)
        · refine ⟨D, _, rfl, SqL.of hD, ?_⟩
          rw [rep_all]
          exact k _ (e0.tr e)
theorem ok_are_names (T : Txt K mg A) : FnOk P w K mg base CX0 2 A.f_are_names A.d_are_names ["value", "most"] (spNames K) := by
  refine T.F_are_names.ok sc_are_names (fun vs H Q E h => ?_) (fun cdv A0 outer s H vs Q E hr h => ?_)
  · obtain ⟨_, _, _, rfl, _⟩ := h
    rfl
  · have hu := hu_of hr
    obtain ⟨v, ss, m, rfl, hz, hn, hl, hm, k⟩ := h
    refine ⟨_, (pss_cons (ps_if (PW.pt (pw_or (pt_not (pt_val (pe_callB call_isi (by rfl) T.g_isinstance (by decide +kernel) (pa_cons (pv 0) (pa_cons (pe_bltn (v := .ty "tuple") (by rfl) T.g_tuple (by decide +kernel) rfl) pa_nil))))) (pw_or1 (pt_cmpR op_gt (pe_callB call_len_seq (by rfl) T.g_len (by decide +kernel) (pa_cons (pv 0) pa_nil)) (pv 1) (nomark _))))) (pss_one (ps_ret pe_bl)) pss_nil)
      (pss_one (ps_ret (pe_and (pe_callB (cr_all rfl) (by rfl) T.g_all (by decide +kernel) (pa_cons (pe_lc (own := [("name", 2)]) (g := (gName 2)) (tt := tYes) rfl sc_are_names.nd (pi_tup (pv 0)) (blkOk_by (N := N_are_names) (sc := defScope s_are_names) (by decide +kernel)) (fun _ _ _ _ _ => pg_name (i := 2) sc_are_names.nd rfl (Or.inl rfl)) (fun _ _ _ _ _ => pts_nil) (fun _ _ _ _ _ => (pe_call (ok_is_name T) (hr.mono (by decide)) (by rfl) T.m_is_name T.F_is_name.kp T.b_is_name .nil pass0 (pa_cons (pv 2) pa_nil)))) pa_nil)) (pe_one (pe_call (ok_are_rising T) (hr.mono (by decide)) (by rfl) T.m_are_rising T.F_are_rising.kp T.b_are_rising .nil pass0 (pa_cons (pv 0) pa_nil))))))), ?_⟩
    have hty := ty_nm hz
    obtain ⟨a, rfl, ht⟩ := hz.sq
    obtain ⟨n1, n2⟩ := Bool.and_eq_true_iff.mp (show (ss.all nameOk && rises ss) = true from hn)
    refine ⟨_, rfl, _, _, _, _, _, rfl, .ty _, hty, kit_ty (r := true) (by decide +kernel), _, rfl, HX.if_false rfl ?_⟩
    refine ⟨_, rfl, a, _, rfl, .inr ht, _, rfl, _, _, rfl, rfl, _, rfl, HX.if_false (decide_eq_false (by rw [List.length_map]; omega)) ?_⟩
    refine ⟨_, rfl, a, rfl, ⟨_, ht⟩, fun D nD => lc_yes (walk_tup (xs := ss.map V.str)) (by rw [List.length_map]; omega) nD (fun H' e => sqt_ex ht e) (fun i x H2 H3 Kq hi e y kq => ?_) (fun H2 e hD => ?_)⟩
    · obtain ⟨rfl, hx⟩ := y
      rw [List.getElem?_map] at hx
      obtain ⟨z, hz, rfl⟩ := Option.map_eq_some_iff.mp hx
      exact ⟨rfl, _, rfl, z, rfl, List.all_eq_true.mp n1 z (List.mem_of_getElem? hz), fun H4 e4 => kq H4 e4⟩
    · refine ⟨D, _, rfl, SqL.of hD, ?_⟩
      rw [rep_all]
      refine ⟨_, rfl, HX.if_true rfl ?_⟩
      exact ⟨_, rfl, a, ss, rfl, .inr (sqt_ex ht e), n2, by omega, fun H4 e4 => k _ (e.tr e4)⟩
theorem ok_are_kinds (T : Txt K mg A) : FnOk P w K mg base CX0 1 A.f_are_kinds A.d_are_kinds ["value", "most", "with_rows"] (spKinds) := by
  refine T.F_are_kinds.ok sc_are_kinds (fun vs H Q E h => ?_) (fun cdv A0 outer s H vs Q E hr h => ?_)
  · obtain ⟨_, _, _, rfl, _⟩ := h
    rfl
  · have hu := hu_of hr
    obtain ⟨z, m, b, rfl, hl, hm, hk, k⟩ := h
    refine ⟨_, (pss_cons (ps_if (PW.pt (pw_or (pt_not (pt_val (pe_callB call_isi (by rfl) T.g_isinstance (by decide +kernel) (pa_cons (pv 0) (pa_cons (pe_bltn (v := .ty "str") (by rfl) T.g_str (by decide +kernel) rfl) pa_nil))))) (pw_or1 (pt_cmpR op_gt (pe_callB call_len_str (by rfl) T.g_len (by decide +kernel) (pa_cons (pv 0) pa_nil)) (pv 1) (nomark _))))) (pss_one (ps_ret pe_bl)) pss_nil)
      (pss_cons (ps_set (i := 3) sc_are_kinds.nd rfl (Or.inr rfl) (pe_ifExp (pt_val (pv 2)) pe_str pe_str))
      (pss_one (ps_ret (pe_callB (cr_all rfl) (by rfl) T.g_all (by decide +kernel) (pa_cons (pe_lc (own := [("kind", 4)]) (g := (gName 4)) (tt := tYes) rfl sc_are_kinds.nd (pi_str (pv 0)) (blkOk_by (N := N_are_kinds) (sc := defScope s_are_kinds) (by decide +kernel)) (fun _ _ _ _ _ => pg_name (i := 4) sc_are_kinds.nd rfl (Or.inl rfl)) (fun _ _ _ _ _ => pts_nil) (fun _ _ _ _ _ => (pe_cmpR op_in_sign (pv 4) (pv 3) (by rfl)))) pa_nil)))))), ?_⟩
    have hs : z.length ≤ sizeLine := Nat.le_of_lt (small (by omega))
    refine ⟨_, rfl, _, _, _, _, _, rfl, .ty _, .base (.str z), kit_ty (r := true) (by decide +kernel), _, rfl, HX.if_false rfl ?_⟩
    refine ⟨_, rfl, z, rfl, hs, _, rfl, _, _, rfl, rfl, _, rfl, HX.if_false (decide_eq_false (by omega)) ?_⟩
    have fin : ∀ (y : Str), (∀ c ∈ z.cps.toList, decide (c ∈ y.cps.toList) = true) → True := fun _ _ => trivial
    clear fin
    cases b with
    | true =>
      refine ⟨_, rfl, _, rfl, HX.if_true rfl ?_⟩
      refine ⟨_, rfl, z, rfl, fun D nD => lc_yes walk_str (by show z.length < 1000; omega) nD (fun _ _ => trivial) (fun i x H2 H3 Kq hi e y kq => ?_) (fun H2 e hD => ?_)⟩
      · obtain ⟨rfl, c, hc, rfl⟩ := y
        refine ⟨rfl, _, rfl, _, rfl, c, _, rfl, rfl, ?_⟩
        have hm : c ∈ z.cps.toList := by
          have := Array.mem_of_getElem? hc
          simpa using this
        have q := List.all_eq_true.mp hk c hm
        rw [decide_eq_true (by simp at q; first | (rcases q with q | q <;> (subst q; decide)) | (subst q; decide))]
        exact kq _ (Ex.rf _)
      · refine ⟨D, _, rfl, SqL.of hD, ?_⟩
        rw [rep_all]
        exact k _ e
    | false =>
      refine ⟨_, rfl, _, rfl, HX.if_false rfl ?_⟩
      refine ⟨_, rfl, z, rfl, fun D nD => lc_yes walk_str (by show z.length < 1000; omega) nD (fun _ _ => trivial) (fun i x H2 H3 Kq hi e y kq => ?_) (fun H2 e hD => ?_)⟩
      · obtain ⟨rfl, c, hc, rfl⟩ := y
        refine ⟨rfl, _, rfl, _, rfl, c, _, rfl, rfl, ?_⟩
        have hm : c ∈ z.cps.toList := by
          have := Array.mem_of_getElem? hc
          simpa using this
        have q := List.all_eq_true.mp hk c hm
        rw [decide_eq_true (by simp at q; first | (rcases q with q | q <;> (subst q; decide)) | (subst q; decide))]
        exact kq _ (Ex.rf _)
      · refine ⟨D, _, rfl, SqL.of hD, ?_⟩
        rw [rep_all]
        exact k _ e
theorem pd_at {H : Hp} {ps : List (Str × PyData)} {xs : List V} (h : TzL H xs (ps.map pD)) {i : Nat} {x : V} (hx : xs[i]? = some x) : ∃ (p : Str × PyData) (a : Addr) (v : V), ps[i]? = some p ∧ x = .ref a ∧ H a = some (.tup [.str p.1, v]) ∧ Tz H v p.2 := by
  obtain ⟨d, hd, tz⟩ := h.gotV hx
  rw [List.getElem?_map] at hd
  obtain ⟨p, hp, rfl⟩ := Option.map_eq_some_iff.mp hd
  obtain ⟨a, y, v, rfl, ha, hy, hv⟩ := Tz.tup2 (d := .str p.1) (e := p.2) tz
  obtain rfl := hy.strI
  exact ⟨p, a, v, hp, rfl, ha, hv⟩
theorem ok_are_pairs (T : Txt K mg A) : FnOk P w K mg base CX0 2 A.f_are_pairs A.d_are_pairs ["value", "most"] (spPairs) := by
  refine T.F_are_pairs.ok sc_are_pairs (fun vs H Q E h => ?_) (fun cdv A0 outer s H vs Q E hr h => ?_)
  · obtain ⟨_, _, _, rfl, _⟩ := h
    rfl
  · have hu := hu_of hr
    obtain ⟨v, ps, m, rfl, hz, hl, hm, hn, k⟩ := h
    refine ⟨_, (pss_cons (ps_if (PW.pt (pw_or (pt_not (pt_val (pe_callB call_isi (by rfl) T.g_isinstance (by decide +kernel) (pa_cons (pv 0) (pa_cons (pe_bltn (v := .ty "tuple") (by rfl) T.g_tuple (by decide +kernel) rfl) pa_nil))))) (pw_or1 (pt_cmpR op_gt (pe_callB call_len_seq (by rfl) T.g_len (by decide +kernel) (pa_cons (pv 0) pa_nil)) (pv 1) (nomark _))))) (pss_one (ps_ret pe_bl)) pss_nil)
      (pss_cons (ps_if (pt_not (pt_val (pe_callB (cr_all rfl) (by rfl) T.g_all (by decide +kernel) (pa_cons (pe_lc (own := [("pair", 2)]) (g := (gName 2)) (tt := tYes) rfl sc_are_pairs.nd (pi_tup (pv 0)) (blkOk_by (N := N_are_pairs) (sc := defScope s_are_pairs) (by decide +kernel)) (fun _ _ _ _ _ => pg_name (i := 2) sc_are_pairs.nd rfl (Or.inl rfl)) (fun _ _ _ _ _ => pts_nil) (fun _ _ _ _ _ => (pe_and (pe_callB (call_isiK0 (K := K) rfl) (by rfl) T.g_isinstance (by decide +kernel) (pa_cons (pv 2) (pa_cons (pe_bltn (v := .ty "tuple") (by rfl) T.g_tuple (by decide +kernel) rfl) pa_nil))) (pe_and (pe_cmpR op_eq (pe_callB (call_lenK (K := K) rfl) (by rfl) T.g_len (by decide +kernel) (pa_cons (pv 2) pa_nil)) pe_int (nomark _)) (pe_one (pe_call (ok_is_name T) (hr.mono (by decide)) (by rfl) T.m_is_name T.F_is_name.kp T.b_is_name .nil pass0 (pa_cons (pe_ix (ix_tupK (K := K) rfl) (pv 2) pe_int (fun _ _ => rfl)) pa_nil))))))) pa_nil)))) (pss_one (ps_ret pe_bl)) pss_nil)
      (pss_one (ps_ret (pe_call (ok_are_rising T) (hr.mono (by decide)) (by rfl) T.m_are_rising T.F_are_rising.kp T.b_are_rising .nil pass0 (pa_cons (pe_lc (own := [("pair", 2)]) (g := (gName 2)) (tt := tYes) rfl sc_are_pairs.nd (pi_tup (pv 0)) (blkOk_by (N := N_are_pairs) (sc := defScope s_are_pairs) (by decide +kernel)) (fun _ _ _ _ _ => pg_name (i := 2) sc_are_pairs.nd rfl (Or.inl rfl)) (fun _ _ _ _ _ => pts_nil) (fun _ _ _ _ _ => (pe_ix (ix_tupK (K := K) rfl) (pv 2) pe_int (fun _ _ => rfl)))) pa_nil)))))), ?_⟩
    obtain ⟨a, xs, rfl, ht, hx⟩ := hz.tupI
    have lx : xs.length = ps.length := by rw [hx.1, List.length_map]
    obtain ⟨n1, n2⟩ := Bool.and_eq_true_iff.mp (show ((ps.map (·.1)).all nameOk && rises (ps.map (·.1))) = true from hn)
    refine ⟨_, rfl, _, _, _, _, _, rfl, .ty _, .base (.tup ht), kit_ty (r := true) (by decide +kernel), _, rfl, HX.if_false rfl ?_⟩
    refine ⟨_, rfl, a, _, rfl, .inr (SqT.of ht), _, rfl, _, _, rfl, rfl, _, rfl, HX.if_false (decide_eq_false (by omega)) ?_⟩
    refine ⟨_, rfl, a, rfl, ⟨_, SqT.of ht⟩, fun D nD => lc_yes (walk_tup (xs := xs)) (by omega) nD (fun H' e => SqT.of (e _ _ ht)) (fun i x H2 H3 Kq hi e y kq => ?_) (fun H2 e hD => ?_)⟩
    · obtain ⟨rfl, hx2⟩ := y
      obtain ⟨p, b, w2, hp, rfl, hb, hw⟩ := pd_at hx hx2
      have hb2 := e _ _ hb
      refine ⟨rfl, _, rfl, _, _, _, _, _, rfl, .ty _, .base (.tup hb2), kit_ty (r := true) (by decide +kernel), true, rfl, iteT ?_⟩
      refine ⟨_, rfl, b, _, rfl, .inr (SqT.of hb2), rfl, true, rfl, iteT ?_⟩
      refine ⟨_, rfl, b, _, _, _, rfl, rfl, SqT.of hb2, rfl, p.1, rfl, ?_, fun H4 e4 => kq H4 e4⟩
      exact List.all_eq_true.mp n1 _ (List.mem_map.mpr ⟨p, List.mem_of_getElem? hp, rfl⟩)
    · refine ⟨D, _, rfl, SqL.of hD, ?_⟩
      rw [rep_all]
      refine ⟨_, rfl, HX.if_false rfl ?_⟩
      refine ⟨_, rfl, a, rfl, ⟨_, SqT.of (e _ _ ht)⟩, fun D2 nD2 => lc_tz (walk_tup (xs := xs)) (fun i => .str ((ps.map (·.1))[i]?.getD "")) (by omega) nD2 (fun H' e' => SqT.of (e' _ _ (e _ _ ht))) (fun i x H3 H4 Kq hi e' y kq => ?_) (fun H3 ys e' hD2 hy => ?_)⟩
      · obtain ⟨rfl, hx2⟩ := y
        obtain ⟨p, b, w2, hp, rfl, hb, hw⟩ := pd_at hx hx2
        have hb2 := e' _ _ (e _ _ hb)
        refine ⟨rfl, _, rfl, b, _, _, _, rfl, rfl, SqT.of hb2, rfl, kq _ _ (Ex.rf _) ?_⟩
        rw [List.getElem?_map, hp]
        exact .str _
      · have en : (List.range xs.length).map (fun i => PyData.str ((ps.map (·.1))[i]?.getD "")) = (ps.map (·.1)).map PyData.str := by
          refine List.ext_getElem? fun i => ?_
          by_cases hi : i < xs.length
          · have h2 : i < ps.length := by omega
            simp [List.getElem?_range, hi, h2]
          · rw [List.getElem?_eq_none (by simpa using hi), List.getElem?_eq_none (by simp; omega)]
        rw [en] at hy
        obtain rfl := hy.strs
        exact ⟨D2, _, rfl, .inl hD2, n2, by rw [List.length_map]; omega, fun H4 e4 => k _ (e.tr (e'.tr e4))⟩
end
end K65
set_option Elab.async false
set_option linter.all false
set_option maxRecDepth 100000
set_option maxHeartbeats 4400000
namespace K65
open PySem PySem.Spec PyProof.Rows L2 HX
open PySem.W (Frag)


structure Lore where
  sz : Int
  mo : Int
  cn : List (Str × Int)
  rn : List (Str × List Int)
  lo : List Str
def cP (c : Str × Int) : Str × PyData := (c.1, .int c.2)
def itD (is : List Int) : PyData := .tuple (is.map PyData.int)
def rP (r : Str × List Int) : Str × PyData := (r.1, itD r.2)
def Lore.cD (L : Lore) : PyData := .tuple (L.cn.map fun c => pD (cP c))
def Lore.rD (L : Lore) : PyData := .tuple (L.rn.map fun r => pD (rP r))
def Lore.cs (L : Lore) : List Str := L.cn.map (·.1)
def Lore.rs (L : Lore) : List Str := L.rn.map (·.1)
structure Lore.Ok (L : Lore) : Prop where
  s0 : 2 ≤ L.sz
  s1 : L.sz < 5
  m0 : 1 ≤ L.mo
  m1 : L.mo < 3
  c2 : L.cn.length ≤ 2
  cN : okN L.cs = true
  cw : ∀ c ∈ L.cn, 0 ≤ c.2 ∧ c.2 < L.sz
  r2 : L.rn.length ≤ 2
  rN : okN L.rs = true
  rw_ : ∀ r ∈ L.rn, (r.2.length : Int) ≤ L.mo ∧ ∀ i ∈ r.2, 0 ≤ i ∧ i < L.sz
  ap : ∀ x ∈ L.rs, x ∉ L.cs
  lN : okN L.lo = true
  ll : L.lo.length ≤ L.cs.length + L.rs.length
  lt : ∀ x ∈ L.lo, x ∈ L.cs ++ L.rs
  so : ∀ x ∈ L.rs, PyData.strOk x = true
theorem cD_pairs (L : Lore) : L.cD = .tuple ((L.cn.map cP).map pD) := by unfold Lore.cD; rw [List.map_map]; rfl
theorem rD_pairs (L : Lore) : L.rD = .tuple ((L.rn.map rP).map pD) := by unfold Lore.rD; rw [List.map_map]; rfl
theorem cs_pairs (L : Lore) : (L.cn.map cP).map (·.1) = L.cs := by rw [List.map_map]; rfl
theorem rs_pairs (L : Lore) : (L.rn.map rP).map (·.1) = L.rs := by rw [List.map_map]; rfl
theorem cell_at {H : Hp} {L : Lore} {v : V} (h : Tz H v L.cD) : ∃ a xs, v = .ref a ∧ H a = some (.tup xs) ∧ xs.length = L.cn.length ∧ ∀ (i : Nat) (x : V), xs[i]? = some x → ∃ (c : Str × Int) (b : Addr), L.cn[i]? = some c ∧ x = .ref b ∧ H b = some (.tup [.str c.1, .int c.2]) := by
  rw [cD_pairs] at h
  obtain ⟨a, xs, rfl, ha, hx⟩ := h.tupI
  refine ⟨a, xs, rfl, ha, by rw [hx.1, List.length_map, List.length_map], fun i x e => ?_⟩
  obtain ⟨p, b, v, hp, rfl, hb, hv⟩ := pd_at hx e
  rw [List.getElem?_map] at hp
  obtain ⟨c, hc, rfl⟩ := Option.map_eq_some_iff.mp hp
  obtain rfl := Tz.intI (i := c.2) hv
  exact ⟨c, b, hc, rfl, hb⟩
theorem row_at {H : Hp} {L : Lore} {v : V} (h : Tz H v L.rD) : ∃ a xs, v = .ref a ∧ H a = some (.tup xs) ∧ xs.length = L.rn.length ∧ ∀ (i : Nat) (x : V), xs[i]? = some x → ∃ (r : Str × List Int) (b : Addr) (u : V), L.rn[i]? = some r ∧ x = .ref b ∧ H b = some (.tup [.str r.1, u]) ∧ Tz H u (itD r.2) := by
  rw [rD_pairs] at h
  obtain ⟨a, xs, rfl, ha, hx⟩ := h.tupI
  refine ⟨a, xs, rfl, ha, by rw [hx.1, List.length_map, List.length_map], fun i x e => ?_⟩
  obtain ⟨p, b, v, hp, rfl, hb, hv⟩ := pd_at hx e
  rw [List.getElem?_map] at hp
  obtain ⟨r, hr, rfl⟩ := Option.map_eq_some_iff.mp hp
  exact ⟨r, b, v, hr, rfl, hb, hv⟩
theorem eqV_str (a b : Str) : eqV (.str a) (.str b) = decide (a = b) := by
  by_cases h : a = b <;> simp [eqV, h]
theorem inV_strs (x : Str) (ss : List Str) : inV (.str x) (ss.map V.str) = decide (x ∈ ss) := by
  unfold inV
  rw [List.any_map]
  induction ss with
  | nil => simp
  | cons s r ih =>
    simp only [List.any_cons, Function.comp, eqV_str] at ih ⊢
    rw [ih]
    by_cases h : s = x
    · simp [h]
    · have h2 : ¬ x = s := fun z => h z.symm
      simp [h, h2]
def spCells : Sp := fun vs H Q _ => ∃ (v : V) (L : Lore), vs = [v, .int L.sz] ∧ L.Ok ∧ Tz H v L.cD ∧ Yes H Q
def spRows : Sp := fun vs H Q _ => ∃ (v vc : V) (L : Lore), vs = [v, .int L.sz, .int L.mo, vc] ∧ L.Ok ∧ Tz H v L.rD ∧ Tz H vc L.cD ∧ Yes H Q
def spLoose (K : Frag) : Sp := fun vs H Q _ => ∃ (v vc vr : V) (L : Lore), vs = [v, vc, vr] ∧ L.Ok ∧ NmT K H v L.lo ∧ Tz H vc L.cD ∧ Tz H vr L.rD ∧ Yes H Q
theorem NmT.te {K : Frag} {H H' : Hp} {v : V} {ss : List Str} (h : NmT K H v ss) (e : TupK H H') : NmT K H' v ss := let ⟨a, h1, h2⟩ := h; ⟨a, h1, h2.imp (e _ _) id⟩
section
variable {P : Program} {w : World} {K : Frag} {mg : Str → Option Value} {base : Heap} {A : Ad}

theorem names_of {n : Nat} {ss : List Str} (h : n = ss.length) : (List.range n).map (fun i => PyData.str (ss[i]?.getD "")) = ss.map PyData.str := by
  subst h
  refine List.ext_getElem? fun i => ?_
  by_cases hi : i < ss.length
  · simp [List.getElem?_range, hi]
  · rw [List.getElem?_eq_none (by simpa using hi), List.getElem?_eq_none (by simp; omega)]
theorem ok_are_cells (T : Txt K mg A) : FnOk P w K mg base CX0 3 A.f_are_cells A.d_are_cells ["value", "size"] (spCells) := by
  refine T.F_are_cells.ok sc_are_cells (fun vs H Q E h => ?_) (fun cdv A0 outer s H vs Q E hr h => ?_)
  · obtain ⟨_, _, rfl, _⟩ := h
    rfl
  · have hu := hu_of hr
    obtain ⟨v, L, rfl, ok, hz, k⟩ := h
    refine ⟨_, (pss_one (ps_ret (pe_and (pe_call (ok_are_pairs T) (hr.mono (by decide)) (by rfl) T.m_are_pairs T.F_are_pairs.kp T.b_are_pairs .nil pass0 (pa_cons (pv 0) (pa_cons (pe_glob (v := .int 2) (by rfl) T.c_MOST_CELLS.choose_spec ⟨_, rfl⟩) pa_nil))) (pe_one (pe_callB (cr_all rfl) (by rfl) T.g_all (by decide +kernel) (pa_cons (pe_lc (own := [("cell", 2)]) (g := (gName 2)) (tt := tYes) rfl sc_are_cells.nd (pi_tup (pv 0)) (blkOk_by (N := N_are_cells) (sc := defScope s_are_cells) (by decide +kernel)) (fun _ _ _ _ _ => pg_name (i := 2) sc_are_cells.nd rfl (Or.inl rfl)) (fun _ _ _ _ _ => pts_nil) (fun _ _ _ _ _ => (pe_call (ok_is_whole T) (hr.mono (by decide)) (by rfl) T.m_is_whole T.F_is_whole.kp T.b_is_whole .nil pass0 (pa_cons (pe_ix (ix_tupK (K := K) rfl) (pv 2) pe_int (fun _ _ => rfl)) (pa_cons pe_int (pa_cons (pv 1) pa_nil)))))) pa_nil)))))), ?_⟩
    obtain ⟨a, xs, rfl, ha, lx, hx⟩ := cell_at hz
    refine ⟨_, rfl, _, L.cn.map cP, 2, rfl, by rw [← cD_pairs]; exact hz, by rw [List.length_map]; have := ok.c2; omega, by omega, by rw [cs_pairs]; exact ok.cN, fun H1 e1 => ⟨_, rfl, HX.if_true rfl ?_⟩⟩
    have ha1 := e1 _ _ ha
    have c2 := ok.c2
    refine ⟨_, rfl, a, rfl, ⟨_, SqT.of ha1⟩, fun D nD => lc_yes (walk_tup (xs := xs)) (by omega) nD (fun H' e => SqT.of (e _ _ ha1)) (fun i x H2 H3 Kq hi e y kq => ?_) (fun H2 e hD => ?_)⟩
    · obtain ⟨rfl, hx2⟩ := y
      obtain ⟨c, b, hc, rfl, hb⟩ := hx i x hx2
      have hw := ok.cw c (List.mem_of_getElem? hc)
      have hb2 := e _ _ (e1 _ _ hb)
      refine ⟨rfl, _, rfl, b, _, _, _, rfl, rfl, SqT.of hb2, rfl, _, rfl, _, 0, L.sz, rfl, kd_int c.2, ?_⟩
      rw [whole_yes hw.1 hw.2]
      exact kq _ (Ex.rf _)
    · refine ⟨D, _, rfl, SqL.of hD, ?_⟩
      rw [rep_all]
      exact k _ (e1.tr e)
theorem ok_are_rows (T : Txt K mg A) : FnOk P w K mg base CX0 3 A.f_are_rows A.d_are_rows ["value", "size", "most", "cells"] (spRows) := by
  refine T.F_are_rows.ok sc_are_rows (fun vs H Q E h => ?_) (fun cdv A0 outer s H vs Q E hr h => ?_)
  · obtain ⟨_, _, _, rfl, _⟩ := h
    rfl
  · have hu := hu_of hr
    obtain ⟨v, vc, L, rfl, ok, hz, hc, k⟩ := h
    refine ⟨_, (pss_cons (ps_if (PW.pt (pw_or (pt_not (pt_val (pe_call (ok_are_pairs T) (hr.mono (by decide)) (by rfl) T.m_are_pairs T.F_are_pairs.kp T.b_are_pairs .nil pass0 (pa_cons (pv 0) (pa_cons (pe_glob (v := .int 2) (by rfl) T.c_MOST_ROWS.choose_spec ⟨_, rfl⟩) pa_nil))))) (pw_or1 (pt_not (pt_val (pe_callB (cr_all rfl) (by rfl) T.g_all (by decide +kernel) (pa_cons (pe_lc (own := [("row", 6)]) (g := (gName 6)) (tt := tYes) rfl sc_are_rows.nd (pi_tup (pv 0)) (blkOk_by (N := N_are_rows) (sc := defScope s_are_rows) (by decide +kernel)) (fun _ _ _ _ _ => pg_name (i := 6) sc_are_rows.nd rfl (Or.inl rfl)) (fun _ _ _ _ _ => pts_nil) (fun _ _ _ _ _ => (pe_call (ok_are_items T) (hr.mono (by decide)) (by rfl) T.m_are_items T.F_are_items.kp T.b_are_items .nil pass0 (pa_cons (pe_ix (ix_tupK (K := K) rfl) (pv 6) pe_int (fun _ _ => rfl)) (pa_cons (pv 1) (pa_cons (pv 2) pa_nil)))))) pa_nil))))))) (pss_one (ps_ret pe_bl)) pss_nil)
      (pss_cons (ps_set (i := 4) sc_are_rows.nd rfl (Or.inr rfl) (pe_lc (own := [("cell", 5)]) (g := (gName 5)) (tt := tYes) rfl sc_are_rows.nd (pi_tup (pv 3)) (blkOk_by (N := N_are_rows) (sc := defScope s_are_rows) (by decide +kernel)) (fun _ _ _ _ _ => pg_name (i := 5) sc_are_rows.nd rfl (Or.inl rfl)) (fun _ _ _ _ _ => pts_nil) (fun _ _ _ _ _ => (pe_ix (ix_tupK (K := K) rfl) (pv 5) pe_int (fun _ _ => rfl)))))
      (pss_one (ps_ret (pe_callB (cr_all rfl) (by rfl) T.g_all (by decide +kernel) (pa_cons (pe_lc (own := [("row", 6)]) (g := (gName 6)) (tt := tYes) rfl sc_are_rows.nd (pi_tup (pv 0)) (blkOk_by (N := N_are_rows) (sc := defScope s_are_rows) (by decide +kernel)) (fun _ _ _ _ _ => pg_name (i := 6) sc_are_rows.nd rfl (Or.inl rfl)) (fun _ _ _ _ _ => pts_nil) (fun _ _ _ _ _ => (pe_cmpR (op_notInK (K := K) rfl) (pe_ix (ix_tupK (K := K) rfl) (pv 6) pe_int (fun _ _ => rfl)) (pv 4) (by rfl)))) pa_nil)))))), ?_⟩
    obtain ⟨a, xs, rfl, ha, lx, hx⟩ := row_at hz
    obtain ⟨ac, ys, rfl, hac, ly, hy⟩ := cell_at hc
    have r2 := ok.r2; have c2 := ok.c2
    refine ⟨_, rfl, _, L.rn.map rP, 2, rfl, by rw [← rD_pairs]; exact hz, by rw [List.length_map]; omega, by omega, by rw [rs_pairs]; exact ok.rN, fun H1 e1 => ⟨_, rfl, HX.if_false rfl ?_⟩⟩
    have ha1 := e1 _ _ ha
    refine ⟨_, rfl, a, rfl, ⟨_, SqT.of ha1⟩, fun D nD => lc_yes (walk_tup (xs := xs)) (by omega) nD (fun H' e => SqT.of (e _ _ ha1)) (fun i x H2 H3 Kq hi e y kq => ?_) (fun H2 e hD => ?_)⟩
    · obtain ⟨rfl, hx2⟩ := y
      obtain ⟨r, b, u, hr, rfl, hb, hu2⟩ := hx i x hx2
      have hw := ok.rw_ r (List.mem_of_getElem? hr)
      have hb2 := e _ _ (e1 _ _ hb)
      have m1 := ok.m1
      exact ⟨rfl, _, rfl, b, _, _, _, rfl, rfl, SqT.of hb2, rfl, _, rfl, _, rfl, u, r.2, L.sz, L.mo, rfl, (hu2.ex e1).ex e, hw.1, by omega, hw.2, fun H4 e4 => kq H4 e4⟩
    · refine ⟨D, _, rfl, SqL.of hD, ?_⟩
      rw [rep_all]
      refine ⟨_, rfl, HX.if_false rfl ?_⟩
      have e2 := e1.tr e
      have hc2 := e2 _ _ hac
      refine ⟨_, rfl, ac, rfl, ⟨_, SqT.of hc2⟩, fun D2 nD2 => lc_tz (walk_tup (xs := ys)) (fun i => .str (L.cs[i]?.getD "")) (by omega) nD2 (fun H' e' => SqT.of (e' _ _ hc2)) (fun i x H3 H4 Kq hi e' y kq => ?_) (fun H3 zs e' hD2 hzs => ?_)⟩
      · obtain ⟨rfl, hx2⟩ := y
        obtain ⟨c, b, hcc, rfl, hb⟩ := hy i x hx2
        have hb2 := e' _ _ (e2 _ _ hb)
        refine ⟨rfl, _, rfl, b, _, _, _, rfl, rfl, SqT.of hb2, rfl, kq _ _ (Ex.rf _) ?_⟩
        unfold Lore.cs
        rw [List.getElem?_map, hcc]
        exact .str _
      · rw [names_of (ss := L.cs) (by rw [ly]; exact (List.length_map ..).symm)] at hzs
        obtain rfl := hzs.strs
        have e3 := e2.tr e'
        have ha3 := e3 _ _ ha
        refine ⟨_, rfl, a, rfl, ⟨_, SqT.of ha3⟩, fun D3 nD3 => lc_yes (walk_tup (xs := xs)) (by omega) nD3 (fun H' e4 => SqT.of (e4 _ _ ha3)) (fun i x H5 H6 Kq hi e4 y kq => ?_) (fun H5 e4 hD3 => ?_)⟩
        · obtain ⟨rfl, hx2⟩ := y
          obtain ⟨r, b, u, hr, rfl, hb, hu2⟩ := hx i x hx2
          have hb2 := e4 _ _ (e3 _ _ hb)
          refine ⟨rfl, _, rfl, b, _, _, _, rfl, rfl, SqT.of hb2, rfl, _, rfl, D2, _, rfl, .inl (SqL.of (e4 _ _ hD2)), rfl, flat_strs _, ?_⟩
          have nin : inV (.str r.1) (L.cs.map V.str) = false := by
            rw [inV_strs]
            exact decide_eq_false (ok.ap _ (List.mem_map.mpr ⟨r, List.mem_of_getElem? hr, rfl⟩))
          rw [nin]
          exact kq _ (Ex.rf _)
        · refine ⟨D3, _, rfl, SqL.of hD3, ?_⟩
          rw [rep_all]
          exact k _ (e3.tr e4)
theorem ok_are_loose (T : Txt K mg A) : FnOk P w K mg base CX0 3 A.f_are_loose A.d_are_loose ["value", "cells", "rows"] (spLoose K) := by
  refine T.F_are_loose.ok sc_are_loose (fun vs H Q E h => ?_) (fun cdv A0 outer s H vs Q E hr h => ?_)
  · obtain ⟨_, _, _, _, rfl, _⟩ := h
    rfl
  · have hu := hu_of hr
    obtain ⟨v, vc, vr, L, rfl, ok, hz, hc, hrw, k⟩ := h
    refine ⟨_, (pss_cons (ps_set (i := 3) sc_are_loose.nd rfl (Or.inr rfl) (pe_op op_cat (pe_lc (own := [("cell", 4)]) (g := (gName 4)) (tt := tYes) rfl sc_are_loose.nd (pi_tup (pv 1)) (blkOk_by (N := N_are_loose) (sc := defScope s_are_loose) (by decide +kernel)) (fun _ _ _ _ _ => pg_name (i := 4) sc_are_loose.nd rfl (Or.inl rfl)) (fun _ _ _ _ _ => pts_nil) (fun _ _ _ _ _ => (pe_ix (ix_tupK (K := K) rfl) (pv 4) pe_int (fun _ _ => rfl)))) (pe_lc (own := [("row", 5)]) (g := (gName 5)) (tt := tYes) rfl sc_are_loose.nd (pi_tup (pv 2)) (blkOk_by (N := N_are_loose) (sc := defScope s_are_loose) (by decide +kernel)) (fun _ _ _ _ _ => pg_name (i := 5) sc_are_loose.nd rfl (Or.inl rfl)) (fun _ _ _ _ _ => pts_nil) (fun _ _ _ _ _ => (pe_ix (ix_tupK (K := K) rfl) (pv 5) pe_int (fun _ _ => rfl))))))
      (pss_one (ps_ret (pe_and (pe_call (ok_are_names T) (hr.mono (by decide)) (by rfl) T.m_are_names T.F_are_names.kp T.b_are_names .nil pass0 (pa_cons (pv 0) (pa_cons (pe_callB call_len_seq (by rfl) T.g_len (by decide +kernel) (pa_cons (pv 3) pa_nil)) pa_nil))) (pe_one (pe_callB (cr_all rfl) (by rfl) T.g_all (by decide +kernel) (pa_cons (pe_lc (own := [("name", 6)]) (g := (gName 6)) (tt := tYes) rfl sc_are_loose.nd (pi_tup (pv 0)) (blkOk_by (N := N_are_loose) (sc := defScope s_are_loose) (by decide +kernel)) (fun _ _ _ _ _ => pg_name (i := 6) sc_are_loose.nd rfl (Or.inl rfl)) (fun _ _ _ _ _ => pts_nil) (fun _ _ _ _ _ => (pe_cmpR (op_inK (K := K) rfl) (pv 6) (pv 3) (by rfl)))) pa_nil))))))), ?_⟩
    obtain ⟨a, rfl, ha⟩ := hz.sq
    obtain ⟨ac, ys, rfl, hac, ly, hy⟩ := cell_at hc
    obtain ⟨ar, ws, rfl, har, lw, hw⟩ := row_at hrw
    have r2 := ok.r2; have c2 := ok.c2
    have lcs : L.cs.length = L.cn.length := List.length_map ..
    have lrs : L.rs.length = L.rn.length := List.length_map ..
    have ll := ok.ll
    refine ⟨_, rfl, ac, rfl, ⟨_, SqT.of hac⟩, fun D nD => lc_tz (walk_tup (xs := ys)) (fun i => .str (L.cs[i]?.getD "")) (by omega) nD (fun H' e' => SqT.of (e' _ _ hac)) (fun i x H3 H4 Kq hi e' y kq => ?_) (fun H1 zs e1 hD hzs => ?_)⟩
    · obtain ⟨rfl, hx2⟩ := y
      obtain ⟨c, b, hcc, rfl, hb⟩ := hy i x hx2
      refine ⟨rfl, _, rfl, b, _, _, _, rfl, rfl, SqT.of (e' _ _ hb), rfl, kq _ _ (Ex.rf _) ?_⟩
      unfold Lore.cs
      rw [List.getElem?_map, hcc]
      exact .str _
    rw [names_of (ss := L.cs) (by omega)] at hzs
    obtain rfl := hzs.strs
    have har1 := e1 _ _ har
    refine ⟨_, rfl, ar, rfl, ⟨_, SqT.of har1⟩, fun D2 nD2 => lc_tz (walk_tup (xs := ws)) (fun i => .str (L.rs[i]?.getD "")) (by omega) nD2 (fun H' e' => SqT.of (e' _ _ har1)) (fun i x H3 H4 Kq hi e' y kq => ?_) (fun H2 zs e2 hD2 hzs => ?_)⟩
    · obtain ⟨rfl, hx2⟩ := y
      obtain ⟨r, b, u, hrr, rfl, hb, hu2⟩ := hw i x hx2
      refine ⟨rfl, _, rfl, b, _, _, _, rfl, rfl, SqT.of (e' _ _ (e1 _ _ hb)), rfl, kq _ _ (Ex.rf _) ?_⟩
      unfold Lore.rs
      rw [List.getElem?_map, hrr]
      exact .str _
    rw [names_of (ss := L.rs) (by omega)] at hzs
    obtain rfl := hzs.strs
    have hDa := e2 _ _ hD
    refine ⟨D, D2, _, _, rfl, rfl, hDa, hD2, Nat.le_of_lt (small (by rw [List.length_map, List.length_map]; omega)), fun l nl => ?_⟩
    rw [← List.map_append]
    have hl : (upd H2 l (.lst ((L.cs ++ L.rs).map V.str))) l = some (.lst ((L.cs ++ L.rs).map V.str)) := upd_same
    have e3 : Ex H (upd H2 l (.lst ((L.cs ++ L.rs).map V.str))) := (e1.tr e2).tr (Ex.nw nl)
    obtain ⟨H3, E3⟩ : ∃ z, z = upd H2 l (.lst ((L.cs ++ L.rs).map V.str)) := ⟨_, rfl⟩
    rw [← E3] at hl e3 ⊢
    refine ⟨_, rfl, _, rfl, l, _, rfl, .inl (SqL.of hl), _, L.lo, _, rfl, hz.ex e3, ok.lN, by rw [List.length_map, List.length_append]; omega, by rw [List.length_map, List.length_append]; omega, fun H4 e4 => ⟨_, rfl, HX.if_true rfl ?_⟩⟩
    have e5 := e3.tr e4
    have ha5 := sqt_ex ha e5
    have hl4 := e4 _ _ hl
    refine ⟨_, rfl, a, rfl, ⟨_, ha5⟩, fun D3 nD3 => lc_yes (walk_tup (xs := L.lo.map V.str)) (by rw [List.length_map]; omega) nD3 (fun H' e6 => sqt_ex ha5 e6) (fun i x H5 H6 Kq hi e6 y kq => ?_) (fun H5 e6 hD3 => ?_)⟩
    · obtain ⟨rfl, hx2⟩ := y
      rw [List.getElem?_map] at hx2
      obtain ⟨z, hz2, rfl⟩ := Option.map_eq_some_iff.mp hx2
      refine ⟨rfl, _, rfl, _, rfl, l, _, rfl, .inl (SqL.of (e6 _ _ hl4)), rfl, flat_strs _, ?_⟩
      have yin : inV (.str z) ((L.cs ++ L.rs).map V.str) = true := by
        rw [inV_strs]
        exact decide_eq_true (ok.lt z (List.mem_of_getElem? hz2))
      rw [yin]
      exact kq _ (Ex.rf _)
    · refine ⟨D3, _, rfl, SqL.of hD3, ?_⟩
      rw [rep_all]
      exact k _ (e5.tr e6)
end
end K65
set_option Elab.async false
set_option linter.all false
set_option maxRecDepth 100000
set_option maxHeartbeats 4400000
namespace K65
open PySem PySem.Spec PyProof.Rows L2 HX
open PySem.W (Frag)

def wf (sz mo : Int) (vc vr vl vd ve : V) : List (Str × V) := putF "_row_numbers" ve (putF "_cell_numbers" vd (putF "_loose" vl (putF "_rows" vr (putF "_cells" vc (putF "_most" (.int mo) (putF "_size" (.int sz) []))))))
def WAt (K : Frag) (C : Addr) (H : Hp) (x : Addr) (L : Lore) : Prop := ∃ (dx : Addr) (vc vr vl : V) (d e : Addr) (kvs : List (Key × V)), H x = some (.ins C dx (wf L.sz L.mo vc vr vl (.ref d) (.ref e))) ∧ Tz H vc L.cD ∧ Tz H vr L.rD ∧ NmT K H vl L.lo ∧ H d = some (.dK kvs)
theorem WAt.ex {K : Frag} {C x : Addr} {H H' : Hp} {L : Lore} (h : WAt K C H x L) (e : Ex H H') : WAt K C H' x L := let ⟨dx, vc, vr, vl, d, f, kvs, h1, h2, h3, h4, h5⟩ := h; ⟨dx, vc, vr, vl, d, f, kvs, e _ _ h1, h2.ex e, h3.ex e, h4.ex e, e _ _ h5⟩
def spWinit (K : Frag) (C : Addr) : Sp := fun vs H Q _ => ∃ (x dx : Addr) (vc vr vl : V) (L : Lore), vs = [.ref x, .int L.sz, .int L.mo, vc, vr, vl] ∧ H x = some (.ins C dx []) ∧ L.Ok ∧ Tz H vc L.cD ∧ Tz H vr L.rD ∧ NmT K H vl L.lo ∧ ∀ H', (∀ c o, c ≠ x → H c = some o → H' c = some o) → WAt K C H' x L → Q .non H'
def spWp (K : Frag) (C : Addr) (R : Lore → V → Hp → Prop) : Sp := fun vs H Q _ => ∃ (x : Addr) (L : Lore), vs = [.ref x] ∧ WAt K C H x L ∧ ∀ v, R L v H → Q v H
theorem wf_size (sz mo : Int) (vc vr vl vd ve : V) : (wf sz mo vc vr vl vd ve).lookup ("_size" : Str) = some (.int sz) := by
  unfold wf
  rw [lookup_putF, if_neg (by decide +kernel)]
  rw [lookup_putF, if_neg (by decide +kernel)]
  rw [lookup_putF, if_neg (by decide +kernel)]
  rw [lookup_putF, if_neg (by decide +kernel)]
  rw [lookup_putF, if_neg (by decide +kernel)]
  rw [lookup_putF, if_neg (by decide +kernel)]
  rw [lookup_putF, if_pos rfl]
theorem wf_most (sz mo : Int) (vc vr vl vd ve : V) : (wf sz mo vc vr vl vd ve).lookup ("_most" : Str) = some (.int mo) := by
  unfold wf
  rw [lookup_putF, if_neg (by decide +kernel)]
  rw [lookup_putF, if_neg (by decide +kernel)]
  rw [lookup_putF, if_neg (by decide +kernel)]
  rw [lookup_putF, if_neg (by decide +kernel)]
  rw [lookup_putF, if_neg (by decide +kernel)]
  rw [lookup_putF, if_pos rfl]
theorem wf_cells (sz mo : Int) (vc vr vl vd ve : V) : (wf sz mo vc vr vl vd ve).lookup ("_cells" : Str) = some (vc) := by
  unfold wf
  rw [lookup_putF, if_neg (by decide +kernel)]
  rw [lookup_putF, if_neg (by decide +kernel)]
  rw [lookup_putF, if_neg (by decide +kernel)]
  rw [lookup_putF, if_neg (by decide +kernel)]
  rw [lookup_putF, if_pos rfl]
theorem wf_rows (sz mo : Int) (vc vr vl vd ve : V) : (wf sz mo vc vr vl vd ve).lookup ("_rows" : Str) = some (vr) := by
  unfold wf
  rw [lookup_putF, if_neg (by decide +kernel)]
  rw [lookup_putF, if_neg (by decide +kernel)]
  rw [lookup_putF, if_neg (by decide +kernel)]
  rw [lookup_putF, if_pos rfl]
theorem wf_loose (sz mo : Int) (vc vr vl vd ve : V) : (wf sz mo vc vr vl vd ve).lookup ("_loose" : Str) = some (vl) := by
  unfold wf
  rw [lookup_putF, if_neg (by decide +kernel)]
  rw [lookup_putF, if_neg (by decide +kernel)]
  rw [lookup_putF, if_pos rfl]
theorem wf_cell_numbers (sz mo : Int) (vc vr vl vd ve : V) : (wf sz mo vc vr vl vd ve).lookup ("_cell_numbers" : Str) = some (vd) := by
  unfold wf
  rw [lookup_putF, if_neg (by decide +kernel)]
  rw [lookup_putF, if_pos rfl]
theorem wf_row_numbers (sz mo : Int) (vc vr vl vd ve : V) : (wf sz mo vc vr vl vd ve).lookup ("_row_numbers" : Str) = some (ve) := by
  unfold wf
  rw [lookup_putF, if_pos rfl]
theorem getD_map {n : Nat} {ds : List PyData} (h : n = ds.length) : (List.range n).map (fun i => ds[i]?.getD .none) = ds := by
  subst h
  refine List.ext_getElem? fun i => ?_
  by_cases hi : i < ds.length
  · simp [List.getElem?_range, hi]
  · rw [List.getElem?_eq_none (by simpa using hi), List.getElem?_eq_none (by omega)]
theorem WAt.te {K : Frag} {C x p : Addr} {H H' : Hp} {L : Lore} {zs : List V} (h : WAt K C H x L) (hp : H p = some (.lst zs)) (e : XB p H H') : WAt K C H' x L := let ⟨dx, vc, vr, vl, d, f, kvs, h1, h2, h3, h4, h5⟩ := h; ⟨dx, vc, vr, vl, d, f, kvs, e _ _ (ne_of h1 hp (by intro y; cases y)) h1, h2.te (e.te hp), h3.te (e.te hp), h4.te (e.te hp), e _ _ (ne_of h5 hp (by intro y; cases y)) h5⟩
theorem wbn {K : Frag} {f ka : Addr} {fd : FuncData} (F : FunD K "__init__" "World.__init__" (defArgs s_World_init) (defBody s_World_init) (defScope s_World_init) [.ref ka] [] f fd) :
    ∃ ds, Vals [.ref ka] ds ∧ Binds K fd ["self", "size", "most", "cells", "rows", "loose"] ds := by
  refine F.binds1 (ps := ["self", "size", "most", "cells", "rows", "loose"]) 5 0 (by simp) (by rfl) (fun T kV doc pm an cdv ct us its l1 l2 => ?_)
  match us, its, l1, l2 with
  | [_, _, _, _, _], [_], _, _ => exact ⟨_, rfl, rfl⟩
theorem wb5 {K : Frag} {f ka : Addr} {fd : FuncData} (F : FunD K "__init__" "World.__init__" (defArgs s_World_init) (defBody s_World_init) (defScope s_World_init) [.ref ka] [] f fd) : Binds K fd ["self", "size", "most", "cells", "rows", "loose"] [] :=
  HX.FunD.bindsAll F fun _ _ _ _ _ _ _ us its h1 h2 => match us, its, h1, h2 with | [_, _, _, _, _, _], [_], _, _ => ⟨_, rfl, rfl⟩
section
variable {P : Program} {w : World} {K : Frag} {mg : Str → Option Value} {base : Heap} {A : Ad}

theorem ok_World_init (T : Txt K mg A) : FnOk P w K mg base CX0 4 A.f_World_init A.d_World_init ["self", "size", "most", "cells", "rows", "loose"] (spWinit K A.C_World) := by
  obtain ⟨ka, FD, na⟩ := T.F_World_init
  refine HX.FunD.ok0 FD sc_World_init (fun vs H Q E h => ?_) (fun cdv A0 outer s H vs Q E hr h => ?_)
  · obtain ⟨_, _, _, _, _, _, rfl, _⟩ := h
    rfl
  · have hu := hu_of hr
    obtain ⟨x, dx, vc, vr, vl, L, rfl, hx, ok, zc, zr, zl, k⟩ := h
    refine ⟨_, (pss_cons (ps_if (pt_not (pt_val (pe_call (ok_is_size T) (hr.mono (by decide)) (by rfl) T.m_is_size T.F_is_size.kp T.b_is_size .nil pass0 (pa_cons (pv 1) pa_nil)))) (pss_one ps_never) pss_nil)
      (pss_cons (ps_if (pt_not (pt_val (pe_call (ok_is_most T) (hr.mono (by decide)) (by rfl) T.m_is_most T.F_is_most.kp T.b_is_most .nil pass0 (pa_cons (pv 2) pa_nil)))) (pss_one ps_never) pss_nil)
      (pss_cons (ps_if (pt_not (pt_val (pe_call (ok_are_cells T) (hr.mono (by decide)) (by rfl) T.m_are_cells T.F_are_cells.kp T.b_are_cells .nil pass0 (pa_cons (pv 3) (pa_cons (pv 1) pa_nil))))) (pss_one ps_never) pss_nil)
      (pss_cons (ps_if (pt_not (pt_val (pe_call (ok_are_rows T) (hr.mono (by decide)) (by rfl) T.m_are_rows T.F_are_rows.kp T.b_are_rows .nil pass0 (pa_cons (pv 4) (pa_cons (pv 1) (pa_cons (pv 2) (pa_cons (pv 3) pa_nil))))))) (pss_one ps_never) pss_nil)
      (pss_cons (ps_if (pt_not (pt_val (pe_call (ok_are_loose T) (hr.mono (by decide)) (by rfl) T.m_are_loose T.F_are_loose.kp T.b_are_loose .nil pass0 (pa_cons (pv 5) (pa_cons (pv 3) (pa_cons (pv 4) pa_nil)))))) (pss_one ps_never) pss_nil)
      (pss_cons (ps_fld (pv 0) (pv 1) rfl)
      (pss_cons (ps_fld (pv 0) (pv 2) rfl)
      (pss_cons (ps_fld (pv 0) (pv 3) rfl)
      (pss_cons (ps_fld (pv 0) (pv 4) rfl)
      (pss_cons (ps_fld (pv 0) (pv 5) rfl)
      (pss_cons (ps_fld (pv 0) (pe_dc (own := [("at", 6), ("cell", 7)]) (g := (gTup K 2 (gCons (gName 6) (gCons (gName 7) gNil)))) (tt := tYes) rfl sc_World_init.nd (pi_enumT (by rfl) T.g_enumerate (pa_cons (pv 3) pa_nil)) (blkOk_by (N := N_World_init) (sc := defScope s_World_init) (by decide +kernel)) (fun _ _ _ _ _ => pg_tup rfl (pgs_cons (pg_name (i := 6) sc_World_init.nd rfl (Or.inl rfl)) (pgs_cons (pg_name (i := 7) sc_World_init.nd rfl (Or.inl rfl)) pgs_nil))) (fun _ _ _ _ _ => pts_nil) (fun _ _ _ _ _ => (pe_ix (ix_tupK (K := K) rfl) (pv 7) pe_int (fun _ _ => rfl))) (fun _ _ _ _ _ => (pv 6))) rfl)
      (pss_one (ps_fld (pv 0) (pe_dc (own := [("at", 6), ("row", 8)]) (g := (gTup K 2 (gCons (gName 6) (gCons (gName 8) gNil)))) (tt := tYes) rfl sc_World_init.nd (pi_enumT (by rfl) T.g_enumerate (pa_cons (pv 4) pa_nil)) (blkOk_by (N := N_World_init) (sc := defScope s_World_init) (by decide +kernel)) (fun _ _ _ _ _ => pg_tup rfl (pgs_cons (pg_name (i := 6) sc_World_init.nd rfl (Or.inl rfl)) (pgs_cons (pg_name (i := 8) sc_World_init.nd rfl (Or.inl rfl)) pgs_nil))) (fun _ _ _ _ _ => pts_nil) (fun _ _ _ _ _ => (pe_ix (ix_tupK (K := K) rfl) (pv 8) pe_int (fun _ _ => rfl))) (fun _ _ _ _ _ => (pv 6))) rfl))))))))))))), ?_⟩
    refine ⟨_, rfl, _, rfl, kd_int _, _, rfl, HX.if_false (by rw [whole_yes ok.s0 ok.s1]; rfl) ?_⟩
    refine ⟨_, rfl, _, rfl, kd_int _, _, rfl, HX.if_false (by rw [whole_yes ok.m0 ok.m1]; rfl) ?_⟩
    refine ⟨_, rfl, _, rfl, vc, L, rfl, ok, zc, fun H1 e1 => ⟨_, rfl, HX.if_false rfl ?_⟩⟩
    refine ⟨_, rfl, _, rfl, _, rfl, _, rfl, vr, vc, L, rfl, ok, zr.ex e1, zc.ex e1, fun H2 e2 => ⟨_, rfl, HX.if_false rfl ?_⟩⟩
    have e12 := e1.tr e2
    refine ⟨_, rfl, _, rfl, _, rfl, vl, vc, vr, L, rfl, ok, zl.ex e12, zc.ex e12, zr.ex e12, fun H3 e3 => ⟨_, rfl, HX.if_false rfl ?_⟩⟩
    have e13 := e12.tr e3
    have hx3 := e13 _ _ hx
    refine ⟨_, rfl, _, rfl, x, A.C_World, dx, _, rfl, hx3, T.cls_World, T.n_size, (by show 0 < 1000; decide), _, rfl, _, rfl, x, A.C_World, dx, _, rfl, upd_same, T.cls_World, T.n_most, (by show 1 < 1000; decide), _, rfl, _, rfl, x, A.C_World, dx, _, rfl, upd_same, T.cls_World, T.n_cells, (by show 2 < 1000; decide), _, rfl, _, rfl, x, A.C_World, dx, _, rfl, upd_same, T.cls_World, T.n_rows, (by show 3 < 1000; decide), _, rfl, _, rfl, x, A.C_World, dx, _, rfl, upd_same, T.cls_World, T.n_loose, (by show 4 < 1000; decide), ?_⟩
    simp only [upd_upd]
    obtain ⟨G, EG⟩ : ∃ z, z = upd H3 x (.ins A.C_World dx (putF "_loose" vl (putF "_rows" vr (putF "_cells" vc (putF "_most" (.int L.mo) (putF "_size" (.int L.sz) [])))))) := ⟨_, rfl⟩
    rw [← EG]
    have hxG : G x = some (.ins A.C_World dx (putF "_loose" vl (putF "_rows" vr (putF "_cells" vc (putF "_most" (.int L.mo) (putF "_size" (.int L.sz) [])))))) := by rw [EG]; exact upd_same
    have oG : ∀ c o, c ≠ x → H c = some o → G c = some o := fun c o n e => by rw [EG, upd_ne n]; exact e13 _ _ e
    have tG : TupK H G := fun a xs ha => oG _ _ (ne_of ha hx (by intro y; cases y)) ha
    have r2 := ok.r2; have c2 := ok.c2
    obtain ⟨ac, ys, rfl, hac, ly, hy⟩ := cell_at (zc.te tG)
    obtain ⟨ar, ws, rfl, har, lw, hw⟩ := row_at (zr.te tG)
    have lcs : L.cs.length = L.cn.length := List.length_map ..
    have lrs : L.rs.length = L.rn.length := List.length_map ..
    refine ⟨_, rfl, ac, ys, rfl, SqT.of hac, fun D nD => dc_names walk_enT L.cs (by omega) (by omega) nD (fun H' e => SqT.of (e _ _ hac)) (fun i x2 H4 H5 Kq hi e y kq => ?_) (fun H4 kvs e4 hD hv => ?_)⟩
    · obtain ⟨T, u, u2, rfl, nT, rfl, h4, h5⟩ := y
      obtain ⟨c, b, hc, rfl, hb⟩ := hy i u2 h5
      have eT : Ex H4 (upd H4 T (.tup [u, .ref b])) := Ex.nw nT
      refine ⟨T, _, rfl, SqT.of upd_same, rfl, _, _, rfl, _, _, rfl, rfl, rfl, _, rfl, b, _, _, _, rfl, rfl, SqT.of (eT _ _ (e _ _ hb)), rfl, _, rfl, kq _ c.1 _ eT ?_ (by cases h4; intro z; cases z)⟩
      unfold Lore.cs
      rw [List.getElem?_map, hc]; rfl
    refine ⟨_, rfl, x, A.C_World, dx, _, rfl, e4 _ _ hxG, T.cls_World, T.n_cell_numbers, (by show 5 < 1000; decide), ?_⟩
    obtain ⟨G2, EG2⟩ : ∃ z, z = upd H4 x (.ins A.C_World dx (putF "_cell_numbers" (.ref D) (putF "_loose" vl (putF "_rows" (.ref ar) (putF "_cells" (.ref ac) (putF "_most" (.int L.mo) (putF "_size" (.int L.sz) []))))))) := ⟨_, rfl⟩
    rw [← EG2]
    have hx2 : G2 x = some (.ins A.C_World dx (putF "_cell_numbers" (.ref D) (putF "_loose" vl (putF "_rows" (.ref ar) (putF "_cells" (.ref ac) (putF "_most" (.int L.mo) (putF "_size" (.int L.sz) []))))))) := by rw [EG2]; exact upd_same
    have oG2 : ∀ c o, c ≠ x → G c = some o → G2 c = some o := fun c o n e => by rw [EG2, upd_ne n]; exact e4 _ _ e
    have har2 := oG2 _ _ (ne_of har hxG (by intro y; cases y)) har
    have hD2 : G2 D = some (.dK kvs) := by
      have n : D ≠ x := fun z => by rw [z, e4 _ _ hxG] at hD; cases hD
      rw [EG2, upd_ne n]; exact hD
    refine ⟨_, rfl, ar, ws, rfl, SqT.of har2, fun D2 nD2 => dc_names walk_enT L.rs (by omega) (by omega) nD2 (fun H' e => SqT.of (e _ _ har2)) (fun i x2 H5 H6 Kq hi e y kq => ?_) (fun H5 kvs2 e5 hD3 hv2 => ?_)⟩
    · obtain ⟨T, u, u2, rfl, nT, rfl, h4, h5⟩ := y
      obtain ⟨r, b, u3, hr3, rfl, hb, hu3⟩ := hw i u2 h5
      have hb2 := oG2 _ _ (ne_of hb hxG (by intro y; cases y)) hb
      have eT : Ex H5 (upd H5 T (.tup [u, .ref b])) := Ex.nw nT
      refine ⟨T, _, rfl, SqT.of upd_same, rfl, _, _, rfl, _, _, rfl, rfl, rfl, _, rfl, b, _, _, _, rfl, rfl, SqT.of (eT _ _ (e _ _ hb2)), rfl, _, rfl, kq _ r.1 _ eT ?_ (by cases h4; intro z; cases z)⟩
      unfold Lore.rs
      rw [List.getElem?_map, hr3]; rfl
    refine ⟨_, rfl, x, A.C_World, dx, _, rfl, e5 _ _ hx2, T.cls_World, T.n_row_numbers, (by show 6 < 1000; decide), ?_⟩
    have oF : ∀ c o, c ≠ x → G2 c = some o → (upd H5 x (.ins A.C_World dx (wf L.sz L.mo (.ref ac) (.ref ar) vl (.ref D) (.ref D2)))) c = some o := fun c o n e => by rw [upd_ne n]; exact e5 _ _ e
    have oA : ∀ c o, c ≠ x → H c = some o → (upd H5 x (.ins A.C_World dx (wf L.sz L.mo (.ref ac) (.ref ar) vl (.ref D) (.ref D2)))) c = some o := fun c o n e => oF _ _ n (oG2 _ _ n (oG _ _ n e))
    have tA : TupK H (upd H5 x (.ins A.C_World dx (wf L.sz L.mo (.ref ac) (.ref ar) vl (.ref D) (.ref D2)))) := fun a xs ha => oA _ _ (ne_of ha hx (by intro y; cases y)) ha
    exact k _ oA ⟨dx, _, _, vl, D, D2, kvs, upd_same, zc.te tA, zr.te tA, zl.te tA, oF _ _ (ne_of hD2 hx2 (by intro y; cases y)) hD2⟩
theorem ok_World_size (T : Txt K mg A) : FnOk P w K mg base CX0 1 A.f_World_size A.d_World_size ["self"] (spWp K A.C_World (fun L v H => v = .int L.sz)) := by
  refine T.F_World_size.ok sc_World_size (fun vs H Q E h => ?_) (fun cdv A0 outer s H vs Q E hr h => ?_)
  · obtain ⟨_, _, rfl, _⟩ := h
    rfl
  · have hu := hu_of hr
    obtain ⟨x, L, rfl, ⟨dx, vc, vr, vl, d, e, kvs, h1, h2, h3, h4, h5⟩, k⟩ := h
    refine ⟨_, (pss_one (ps_ret (pe_fld (pv 0) rfl))), ?_⟩
    exact ⟨_, rfl, x, A.C_World, dx, _, _, rfl, h1, T.cls_World, T.n_size, wf_size _ _ _ _ _ _ _, k _ rfl⟩
theorem ok_World_most (T : Txt K mg A) : FnOk P w K mg base CX0 1 A.f_World_most A.d_World_most ["self"] (spWp K A.C_World (fun L v H => v = .int L.mo)) := by
  refine T.F_World_most.ok sc_World_most (fun vs H Q E h => ?_) (fun cdv A0 outer s H vs Q E hr h => ?_)
  · obtain ⟨_, _, rfl, _⟩ := h
    rfl
  · have hu := hu_of hr
    obtain ⟨x, L, rfl, ⟨dx, vc, vr, vl, d, e, kvs, h1, h2, h3, h4, h5⟩, k⟩ := h
    refine ⟨_, (pss_one (ps_ret (pe_fld (pv 0) rfl))), ?_⟩
    exact ⟨_, rfl, x, A.C_World, dx, _, _, rfl, h1, T.cls_World, T.n_most, wf_most _ _ _ _ _ _ _, k _ rfl⟩
theorem ok_World_cells (T : Txt K mg A) : FnOk P w K mg base CX0 1 A.f_World_cells A.d_World_cells ["self"] (spWp K A.C_World (fun L v H => Tz H v L.cD)) := by
  refine T.F_World_cells.ok sc_World_cells (fun vs H Q E h => ?_) (fun cdv A0 outer s H vs Q E hr h => ?_)
  · obtain ⟨_, _, rfl, _⟩ := h
    rfl
  · have hu := hu_of hr
    obtain ⟨x, L, rfl, ⟨dx, vc, vr, vl, d, e, kvs, h1, h2, h3, h4, h5⟩, k⟩ := h
    refine ⟨_, (pss_one (ps_ret (pe_fld (pv 0) rfl))), ?_⟩
    exact ⟨_, rfl, x, A.C_World, dx, _, _, rfl, h1, T.cls_World, T.n_cells, wf_cells _ _ _ _ _ _ _, k _ h2⟩
theorem ok_World_rows (T : Txt K mg A) : FnOk P w K mg base CX0 1 A.f_World_rows A.d_World_rows ["self"] (spWp K A.C_World (fun L v H => Tz H v L.rD)) := by
  refine T.F_World_rows.ok sc_World_rows (fun vs H Q E h => ?_) (fun cdv A0 outer s H vs Q E hr h => ?_)
  · obtain ⟨_, _, rfl, _⟩ := h
    rfl
  · have hu := hu_of hr
    obtain ⟨x, L, rfl, ⟨dx, vc, vr, vl, d, e, kvs, h1, h2, h3, h4, h5⟩, k⟩ := h
    refine ⟨_, (pss_one (ps_ret (pe_fld (pv 0) rfl))), ?_⟩
    exact ⟨_, rfl, x, A.C_World, dx, _, _, rfl, h1, T.cls_World, T.n_rows, wf_rows _ _ _ _ _ _ _, k _ h3⟩
theorem ok_World_loose (T : Txt K mg A) : FnOk P w K mg base CX0 1 A.f_World_loose A.d_World_loose ["self"] (spWp K A.C_World (fun L v H => NmT K H v L.lo)) := by
  refine T.F_World_loose.ok sc_World_loose (fun vs H Q E h => ?_) (fun cdv A0 outer s H vs Q E hr h => ?_)
  · obtain ⟨_, _, rfl, _⟩ := h
    rfl
  · have hu := hu_of hr
    obtain ⟨x, L, rfl, ⟨dx, vc, vr, vl, d, e, kvs, h1, h2, h3, h4, h5⟩, k⟩ := h
    refine ⟨_, (pss_one (ps_ret (pe_fld (pv 0) rfl))), ?_⟩
    exact ⟨_, rfl, x, A.C_World, dx, _, _, rfl, h1, T.cls_World, T.n_loose, wf_loose _ _ _ _ _ _ _, k _ h4⟩
end
end K65
set_option Elab.async false
set_option linter.all false
set_option maxRecDepth 100000
set_option maxHeartbeats 4400000
namespace K65
open PySem PySem.Spec PyProof.Rows L2 HX
open PySem.W (Frag)

def wholeD (d : PyData) (lo hi : Int) : Bool := match d with
  | .int i => decide (lo ≤ i) && decide (i < hi)
  | _ => false
def intsD (n : Int) : List PyData := (List.range n.toNat).map fun i : Nat => .int (i : Int)
def chD (L : Lore) (c : Nat) : List PyData := if c = 114 then L.rs.map PyData.str else intsD L.sz
def valsD (L : Lore) (cs : List Nat) : List (List PyData) := cs.foldl (fun f c => f.flatMap fun v => (chD L c).map fun d => v ++ [d]) [[]]
theorem chD_len (L : Lore) (ok : L.Ok) (c : Nat) : (chD L c).length ≤ 4 := by
  unfold chD
  split
  · have := ok.r2
    rw [List.length_map]; unfold Lore.rs; rw [List.length_map]; omega
  · have := ok.s1
    unfold intsD; rw [List.length_map, List.length_range]; omega
theorem vals_len (L : Lore) (ok : L.Ok) (cs : List Nat) : (valsD L cs).length ≤ 4 ^ cs.length := by
  unfold valsD
  have h : ∀ (cs : List Nat) (f : List (List PyData)), (cs.foldl (fun f c => f.flatMap fun v => (chD L c).map fun d => v ++ [d]) f).length ≤ f.length * 4 ^ cs.length := by
    intro cs
    induction cs with
    | nil => intro f; simp
    | cons c r ih =>
      intro f
      refine Nat.le_trans (ih _) ?_
      have h2 : (f.flatMap fun v => (chD L c).map fun d => v ++ [d]).length ≤ f.length * 4 := by
        induction f with
        | nil => simp
        | cons v t iht =>
          rw [List.flatMap_cons, List.length_append, List.length_map, List.length_cons]
          have := chD_len L ok c
          omega
      rw [List.length_cons, Nat.pow_succ, Nat.mul_comm (4 ^ r.length) 4, ← Nat.mul_assoc]
      exact Nat.mul_le_mul_right _ h2
  simpa using h cs [[]]
theorem vals_snoc (L : Lore) (cs : List Nat) (c : Nat) : valsD L (cs ++ [c]) = (valsD L cs).flatMap fun v => (chD L c).map fun d => v ++ [d] := by
  unfold valsD; rw [List.foldl_append]; rfl
theorem vals_each (L : Lore) (cs : List Nat) : ∀ v ∈ valsD L cs, v.length = cs.length := by
  have h : ∀ (cs : List Nat) (f : List (List PyData)) (n : Nat), (∀ v ∈ f, v.length = n) → ∀ v ∈ cs.foldl (fun f c => f.flatMap fun v => (chD L c).map fun d => v ++ [d]) f, v.length = n + cs.length := by
    intro cs
    induction cs with
    | nil => intro f n hf v hv; exact hf v hv
    | cons c r ih =>
      intro f n hf v hv
      have q := ih _ (n + 1) (fun u hu => by
        obtain ⟨a, ha, hu2⟩ := List.mem_flatMap.mp hu
        obtain ⟨d, _, rfl⟩ := List.mem_map.mp hu2
        rw [List.length_append, hf a ha]; rfl) v hv
      rw [q, List.length_cons]; omega
  intro v hv
  have q := h cs [[]] 0 (fun u hu => by rw [List.mem_singleton.mp hu]; rfl) v hv
  rw [q]; omega
theorem flat_range {α β : Type} (l : List α) (a : α) (g : α → List β) : (List.range l.length).flatMap (fun i => g (l[i]?.getD a)) = l.flatMap g := by
  have e : (List.range l.length).map (fun i => l[i]?.getD a) = l := by
    refine List.ext_getElem? fun i => ?_
    by_cases hi : i < l.length
    · simp [List.getElem?_range, hi]
    · rw [List.getElem?_eq_none (by simpa using hi), List.getElem?_eq_none (by omega)]
  conv => rhs; rw [← e]
  rw [List.flatMap_map]
theorem tzL_rg {H : Hp} (n : Int) : TzL H (rgV 0 n) (intsD n) := by
  unfold rgV intsD
  refine ⟨by simp, fun i v d a b => ?_⟩
  rw [List.getElem?_map] at a b
  obtain ⟨k, hk, rfl⟩ := Option.map_eq_some_iff.mp a
  obtain ⟨j, hj, rfl⟩ := Option.map_eq_some_iff.mp b
  rw [Int.sub_zero, hj] at hk
  cases hk
  rw [Int.zero_add]
  exact .int _
theorem both {p : Prop} [Decidable p] {R Pq : V → Hp → Prop} {A B : Prop} (hA : p → (∀ v G, R v G → Pq v G) → A) (hB : ¬ p → (∀ v G, R v G → Pq v G) → B) (h : ∀ v G, R v G → Pq v G) : if decide p = true then A else B := by
  by_cases q : p
  · rw [decide_eq_true q]; exact iteT (hA q h)
  · rw [decide_eq_false q]; exact iteF (hB q h)
theorem bothE {p : Prop} [Decidable p] {R : V → Hp → Prop} {ta tb : L2.TE} {σ : L2.St} {H : Hp} {Qc : VK} (hA : p → ∀ Qd : VK, (∀ v G, R v G → Qd v G) → ta σ H Qd) (hB : ¬ p → ∀ Qd : VK, (∀ v G, R v G → Qd v G) → tb σ H Qd) (h : ∀ v G, R v G → Qc v G) : if decide p = true then ta σ H Qc else tb σ H Qc := by
  by_cases q : p
  · rw [decide_eq_true q]; exact iteT (hA q _ h)
  · rw [decide_eq_false q]; exact iteF (hB q _ h)
theorem one_sign {c k : Nat} : (V.str ⟨#[c]⟩ = V.str ⟨#[k]⟩) ↔ c = k := ⟨fun h => by injection h with h; injection h with h; simpa using h, fun h => by rw [h]⟩
def OutL (H : Hp) (ds : List PyData) (Q : VK) : Prop := ∀ (l : Addr) (xs : List V) (H' : Hp), Ex H H' → H l = none → H' l = some (.lst xs) → TzL H' xs ds → Q (.ref l) H'
theorem none_of_ex {H H' : Hp} {a : Addr} (e : Ex H H') (h : H' a = none) : H a = none := by
  cases q : H a with
  | none => rfl
  | some o => exact absurd (e a o q) (by rw [h]; simp)
def spAllV (K : Frag) (C : Addr) : Sp := fun vs H Q _ => ∃ (x : Addr) (L : Lore) (z : Str), vs = [.ref x, .str z] ∧ WAt K C H x L ∧ L.Ok ∧ z.length ≤ 3 ∧ OutL H ((valsD L z.cps.toList).map PyData.tuple) Q
def rowOf (L : Lore) (i : Nat) : List PyData := PyData.tuple [.int (i : Int)] :: (if 1 < L.mo then (intsD L.sz).map fun d => PyData.tuple [.int (i : Int), d] else [])
def itemsTo (L : Lore) (k : Nat) : List PyData := PyData.tuple [] :: (List.range k).flatMap (rowOf L)
def itemsD (L : Lore) : List PyData := itemsTo L L.sz.toNat
theorem itemsTo_succ (L : Lore) (k : Nat) : itemsTo L (k + 1) = itemsTo L k ++ rowOf L k := by
  unfold itemsTo
  rw [List.range_succ, List.flatMap_append]
  simp
theorem ints_len (L : Lore) (ok : L.Ok) : (intsD L.sz).length ≤ 4 := by
  have := ok.s1
  unfold intsD; rw [List.length_map, List.length_range]; omega
theorem row_len (L : Lore) (ok : L.Ok) (i : Nat) : (rowOf L i).length ≤ 5 := by
  have := ints_len L ok
  unfold rowOf
  split
  · rw [List.length_cons, List.length_map]; omega
  · simp
theorem itemsTo_len (L : Lore) (ok : L.Ok) : ∀ k, (itemsTo L k).length ≤ 1 + 5 * k
  | 0 => by simp [itemsTo]
  | k + 1 => by
    rw [itemsTo_succ, List.length_append]
    have a := itemsTo_len L ok k
    have b := row_len L ok k
    omega
theorem items_len (L : Lore) (ok : L.Ok) : (itemsD L).length ≤ 21 := by
  have a := itemsTo_len L ok L.sz.toNat
  have := ok.s1
  unfold itemsD; omega
theorem ints_at {n : Int} {i : Nat} (h : i < n.toNat) : (intsD n)[i]? = some (.int (i : Int)) := by unfold intsD; rw [List.getElem?_map, List.getElem?_range h]; rfl
theorem ints_map (n : Int) (f : PyData → PyData) : (intsD n).map f = (List.range n.toNat).map fun i : Nat => f (.int (i : Int)) := by unfold intsD; rw [List.map_map]; rfl

theorem bothS {p : Prop} [Decidable p] {R : V → Hp → Prop} {t1 t2 : TS} {D : Ends} {σ : L2.St} {H : Hp} (i : Nat) (hA : p → ∀ D' : Ends, (∀ v G, R v G → D'.nx (σ.set i (some v)) G) → t1 D' σ H) (hB : ¬ p → ∀ D' : Ends, (∀ v G, R v G → D'.nx (σ.set i (some v)) G) → t2 D' σ H) (h : ∀ v G, R v G → D.nx (σ.set i (some v)) G) : if decide p = true then t1 D σ H else t2 D σ H := by
  by_cases q : p
  · rw [decide_eq_true q]; exact iteT (hA q _ h)
  · rw [decide_eq_false q]; exact iteF (hB q _ h)
def spAllI (K : Frag) (C : Addr) : Sp := fun vs H Q _ => ∃ (x : Addr) (L : Lore), vs = [.ref x] ∧ WAt K C H x L ∧ L.Ok ∧ OutL H (itemsD L) Q
section
variable {P : Program} {w : World} {K : Frag} {mg : Str → Option Value} {base : Heap} {A : Ad}

theorem ok_all_values (T : Txt K mg A) : FnOk P w K mg base CX0 3 A.f_all_values A.d_all_values ["world", "kinds"] (spAllV K A.C_World) := by
  refine T.F_all_values.ok sc_all_values (fun vs H Q E h => ?_) (fun cdv A0 outer s H vs Q E hr h => ?_)
  · obtain ⟨_, _, _, rfl, _⟩ := h
    rfl
  · have hu := hu_of hr
    obtain ⟨x, L, z, rfl, hW, ok, hz, k⟩ := h
    refine ⟨_, (pss_cons (ps_setLc (i := 2) (own := [("row", 6)]) (g := (gName 6)) (tt := tYes) (by rfl) sc_all_values.nd rfl rfl (sw_true rfl rfl rfl (by decide +kernel)) (pi_tup (pe_prop (pv 0) T.cls_World T.P_rows (ok_World_rows T) (hr.mono (by decide)) T.b_World_rows .nil pass0 rfl)) (blkOk_by (N := N_all_values) (sc := defScope s_all_values) (by decide +kernel)) (fun _ _ _ _ _ => pg_name (i := 6) sc_all_values.nd rfl (Or.inl rfl)) (fun _ _ _ _ _ => pts_nil) (fun _ _ _ _ _ => (pe_ix (ix_tupK (K := K) rfl) (pv 6) pe_int (fun _ _ => rfl))))
      (pss_cons (ps_set (i := 3) sc_all_values.nd rfl (Or.inl rfl) (pe_lst (pa_cons (pe_tup pa_nil) pa_nil)))
      (pss_cons (ps_for PassesOwn.never rfl (pi_str (pv 1)) (pg_name (i := 4) sc_all_values.nd rfl (Or.inl rfl)) (pss_cons (ps_set (i := 5) sc_all_values.nd rfl (Or.inr rfl) (pe_ifExp (pt_cmpR op_eq (pv 4) pe_str (nomark _)) (pv 2) (pe_listRg rfl (by rfl) T.g_list (prg_1 (by rfl) T.g_range (pe_prop (pv 0) T.cls_World T.P_size (ok_World_size T) (hr.mono (by decide)) T.b_World_size .nil pass0 rfl)))))
      (pss_one (ps_setLc2 (i := 3) (own := [("values", 7), ("choice", 8)]) (vs1 := [8]) (g := (gName 7)) (g1 := (gName 8)) (tt := tYes) (tt1 := tYes) (by rfl) sc_all_values.nd rfl rfl (sw_true rfl rfl rfl (by decide +kernel)) (pi_list (pv 3)) (blkOk_by (N := N_all_values) (sc := defScope s_all_values) (by decide +kernel)) (by decide) (fun _ _ _ _ _ => pg_name (i := 7) sc_all_values.nd rfl (Or.inl rfl)) (fun _ _ _ _ _ => pts_nil) (fun _ _ _ _ _ => (pi_listK (K := K) rfl (pv 5))) (fun _ _ _ _ _ => pg_name (i := 8) sc_all_values.nd rfl (Or.inl rfl)) (fun _ _ _ _ _ => pts_nil) (fun _ _ _ _ _ => (pe_tup (pa_starK (K := K) rfl (pv 7) (pa_cons (pv 8) pa_nil))))))))
      (pss_one (ps_ret (pv 3)))))), ?_⟩
    obtain ⟨dx, vc, vr, vl, d, e, kvs, h1, h2, h3, h4, h5⟩ := id hW
    refine ⟨_, rfl, x, dx, _, rfl, h1, x, L, rfl, hW, fun v2 hv2 => ?_⟩
    obtain ⟨ar, ws, rfl, har, lw, hw⟩ := row_at hv2
    have r2 := ok.r2
    have lrs : L.rs.length = L.rn.length := List.length_map ..
    refine ⟨ar, rfl, ⟨_, SqT.of har⟩, fun D nD => lc_tz (walk_tup (xs := ws)) (fun i => .str (L.rs[i]?.getD "")) (by omega) nD (fun H' e' => SqT.of (e' _ _ har)) (fun i x H3 H4 Kq hi e' y kq => ?_) (fun H1 zs e1 hD hzs => ?_)⟩
    · obtain ⟨rfl, hx2⟩ := y
      obtain ⟨r, b, u, hrr, rfl, hb, hu2⟩ := hw i x hx2
      refine ⟨rfl, _, rfl, b, _, _, _, rfl, rfl, SqT.of (e' _ _ hb), rfl, kq _ _ (Ex.rf _) ?_⟩
      unfold Lore.rs
      rw [List.getElem?_map, hrr]
      exact .str _
    rw [names_of (ss := L.rs) (by omega)] at hzs
    have eD : D ≠ D → False := fun h => h rfl
    refine ⟨(by show 0 ≤ sizeLine; decide), fun t nt => ⟨(by show 1 ≤ sizeLine; decide), fun l nl => ?_⟩⟩
    have et : Ex H1 (upd H1 t (.tup [])) := Ex.nw nt
    have el : Ex (upd H1 t (.tup [])) (upd (upd H1 t (.tup [])) l (.lst [.ref t])) := Ex.nw nl
    obtain ⟨G, EG⟩ : ∃ z, z = upd (upd H1 t (.tup [])) l (.lst [.ref t]) := ⟨_, rfl⟩
    have hl : G l = some (.lst [.ref t]) := by rw [EG]; exact upd_same
    rw [← EG] at el ⊢
    have eG : Ex H1 G := et.tr el
    have hzG := hzs.ex eG
    have hDG := eG _ _ hD
    have h0 : TzL G [.ref t] ((valsD L (z.cps.toList.take 0)).map PyData.tuple) := TzL.one (TzL.tup TzL.nil (el _ _ upd_same))
    have nHl : H l = none := none_of_ex e1 (none_of_ex et nl)
    refine ⟨_, rfl, z, rfl, for_it walk_str (fun i σ H' => (∃ u4 u5 u6 u7 u8 f xs, σ = [some (.ref x), some (.str z), some (.ref D), some (.ref f), u4, u5, u6, u7, u8] ∧ H' f = some (.lst xs) ∧ H f = none ∧ TzL H' xs ((valsD L (z.cps.toList.take i)).map PyData.tuple)) ∧ Ex G H') ⟨⟨_, _, _, _, _, l, _, rfl, hl, nHl, h0⟩, Ex.rf _⟩ (fun _ _ _ _ _ => trivial) ?_ ?_⟩
    · rintro i xv σ H9 H2 hi ⟨⟨u4, u5, u6, u7, u8, f, xs, rfl, hf, nf, hx⟩, e2⟩ ⟨rfl, c, hc, rfl⟩
      have i3 : i < 3 := by have : z.cps.size ≤ 3 := hz; omega
      have hxl : xs.length = (valsD L (z.cps.toList.take i)).length := by rw [hx.1, List.length_map]
      have l16 : xs.length ≤ 16 := by
        rw [hxl]
        refine Nat.le_trans (vals_len L ok _) ?_
        rw [List.length_take]
        exact Nat.le_trans (Nat.pow_le_pow_right (by decide) (show min i z.cps.toList.length ≤ 2 by omega)) (by decide)
      refine ⟨_, rfl, rfl, _, rfl, ?_⟩
      have hW2 : WAt K A.C_World H2 x L := hW.ex (e1.tr (eG.tr e2))
      obtain ⟨dx2, vc2, vr2, vl2, d2, e3', kvs2, g1, _⟩ := id hW2
      have m1 := ok.s1; have m0 := ok.s0
      refine bothE (R := fun v G' => ∃ b ys, v = .ref b ∧ Ex H2 G' ∧ G' b = some (.lst ys) ∧ TzL G' ys (chD L c)) (fun hp Qd k' => ⟨_, rfl, k' _ _ ⟨D, zs, rfl, Ex.rf _, e2 _ _ hDG, by have hc2 : c = 114 := one_sign.mp hp; unfold chD; rw [if_pos hc2]; exact hzG.ex e2⟩⟩)
        (fun hp Qd k' => ⟨_, rfl, x, dx2, _, rfl, g1, x, L, rfl, hW2, fun v hv => ⟨L.sz, hv, RgOk.of_le (by decide) (by omega) (by decide) (by omega), fun q nq => k' _ _ ⟨q, _, rfl, Ex.nw nq, upd_same, by have hc2 : ¬ c = 114 := fun z => hp (one_sign.mpr z); unfold chD; rw [if_neg hc2]; exact tzL_rg _⟩⟩⟩) ?_
      rintro v G3 ⟨b, ys, rfl, e3, hb, hys⟩
      have hf3 := e3 _ _ hf
      have hx3 := hx.ex e3
      refine ⟨_, rfl, f, rfl, ⟨_, SqL.of hf3⟩, fun D2 nD2 => lc2_tz (K := K) (walk_list (xs := xs)) (fun _ => chD L c) (fun j d => .tuple (((valsD L (z.cps.toList.take i))[j]?.getD []) ++ [d])) 4 (fun _ _ => chD_len L ok c) (by omega) nD2 (fun H' e => SqL.of (e _ _ hf3)) (fun _ => rfl) (fun _ _ => rfl) (fun j xv H4 R hj hxj e4 _ kR => ?_) (fun j xv yv dd H4 Kq hj hxj e4 hdd tz kq => ?_) (fun H4 us e4 hD4 hus => ?_)⟩
      · exact ⟨_, rfl, b, rfl, ⟨_, SqL.of (e4 _ _ hb)⟩, kR b ys H4 (Ex.rf _) (e4 _ _ hb) (ne_of_none hb nD2) (hys.ex e4)⟩
      · obtain ⟨dv, hdv, tv⟩ := hx3.gotV hxj
        rw [List.getElem?_map] at hdv
        obtain ⟨vl, hvl, rfl⟩ := Option.map_eq_some_iff.mp hdv
        obtain ⟨p, ts, rfl, hp, hts⟩ := (tv.ex e4).tupI
        have lt3 : ts.length ≤ 3 := by
          rw [hts.1, vals_each L _ vl (List.mem_of_getElem? hvl), List.length_take]; omega
        refine ⟨_, rfl, p, ts, rfl, .inl (SqT.of hp), _, rfl, Nat.le_of_lt (small (by rw [List.length_append]; show ts.length + 1 < 1000; omega)), fun t nt => kq _ _ (Ex.nw nt) ?_⟩
        show Tz _ _ (.tuple (((valsD L (z.cps.toList.take i))[j]?.getD []) ++ [dd]))
        rw [hvl]
        exact TzL.tup ((hts.snoc tz).ex (Ex.nw nt)) upd_same
      · refine ⟨⟨_, _, _, _, _, D2, us, rfl, hD4, none_of_ex (e1.tr (eG.tr (e2.tr e3))) nD2, ?_⟩, e2.tr (e3.tr e4)⟩
        have tk : z.cps.toList.take (i + 1) = z.cps.toList.take i ++ [c] := by
          rw [List.take_add_one]
          have : z.cps.toList[i]? = some c := by simpa using hc
          rw [this]; rfl
        rw [tk, vals_snoc]
        have q : ((valsD L (z.cps.toList.take i)).flatMap fun v => (chD L c).map fun d => v ++ [d]).map PyData.tuple = (List.range xs.length).flatMap fun j => (chD L c).map fun d => PyData.tuple (((valsD L (z.cps.toList.take i))[j]?.getD []) ++ [d]) := by
          rw [hxl, flat_range (valsD L (z.cps.toList.take i)) [] (fun v => (chD L c).map fun d => PyData.tuple (v ++ [d])), List.map_flatMap]
          refine congrArg (fun g => (valsD L (z.cps.toList.take i)).flatMap g) (funext fun v => ?_)
          rw [List.map_map]; rfl
        rw [q]
        exact hus
    · rintro σ H2 ⟨⟨u4, u5, u6, u7, u8, f, xs, rfl, hf, nf, hx⟩, e2⟩
      refine ⟨_, rfl, k f xs H2 (e1.tr (eG.tr e2)) nf hf ?_⟩
      rw [List.take_of_length_le (by show z.cps.toList.length ≤ z.cps.size; simp)] at hx
      exact hx
theorem ok_all_items (T : Txt K mg A) : FnOk P w K mg base CX0 3 A.f_all_items A.d_all_items ["world"] (spAllI K A.C_World) := by
  refine T.F_all_items.ok sc_all_items (fun vs H Q E h => ?_) (fun cdv A0 outer s H vs Q E hr h => ?_)
  · obtain ⟨_, _, rfl, _⟩ := h
    rfl
  · have hu := hu_of hr
    obtain ⟨x, L, rfl, hW, ok, k⟩ := h
    refine ⟨_, (pss_cons (ps_set (i := 1) sc_all_items.nd rfl (Or.inl rfl) (pe_lst (pa_cons (pe_tup pa_nil) pa_nil)))
      (pss_cons (ps_for PassesOwn.never rfl (pi_range1 rfl T.g_range (pa_cons (pe_prop (pv 0) T.cls_World T.P_size (ok_World_size T) (hr.mono (by decide)) T.b_World_size .nil pass0 rfl) pa_nil)) (pg_name (i := 2) sc_all_items.nd rfl (Or.inr rfl)) (pss_cons (ps_expr (pe_bm PySem.F.plainAttrs_list PySem.F.slot_list_append PySem.F.type_list_append mt_append (pv 1) (pa_cons (pe_tup (pa_cons (pv 2) pa_nil)) pa_nil)))
      (pss_one (ps_if (pt_cmpR op_gt (pe_prop (pv 0) T.cls_World T.P_most (ok_World_most T) (hr.mono (by decide)) T.b_World_most .nil pass0 rfl) pe_int (nomark _)) (pss_one (ps_expr (pe_bm PySem.F.plainAttrs_list PySem.F.slot_list_extend PySem.F.type_list_extend mt_extend (pv 1) (pa_cons (pe_lc (own := [("other", 3)]) (g := (gName 3)) (tt := tYes) rfl sc_all_items.nd (pi_range1 rfl T.g_range (pa_cons (pe_prop (pv 0) T.cls_World T.P_size (ok_World_size T) (hr.mono (by decide)) T.b_World_size .nil pass0 rfl) pa_nil)) (blkOk_by (N := N_all_items) (sc := defScope s_all_items) (by decide +kernel)) (fun _ _ _ _ _ => pg_name (i := 3) sc_all_items.nd rfl (Or.inl rfl)) (fun _ _ _ _ _ => pts_nil) (fun _ _ _ _ _ => (pe_tup (pa_cons (pv 2) (pa_cons (pv 3) pa_nil))))) pa_nil)))) pss_nil))))
      (pss_one (ps_ret (pv 1))))), ?_⟩
    have s0 := ok.s0; have s1 := ok.s1; have m1 := ok.m1
    refine ⟨(by show 0 ≤ sizeLine; decide), fun t nt => ⟨(by show 1 ≤ sizeLine; decide), fun f nf => ?_⟩⟩
    have et : Ex H (upd H t (.tup [])) := Ex.nw nt
    have ef : Ex (upd H t (.tup [])) (upd (upd H t (.tup [])) f (.lst [.ref t])) := Ex.nw nf
    obtain ⟨G, EG⟩ : ∃ z, z = upd (upd H t (.tup [])) f (.lst [.ref t]) := ⟨_, rfl⟩
    have hf : G f = some (.lst [.ref t]) := by rw [EG]; exact upd_same
    rw [← EG] at ef ⊢
    have eG := et.tr ef
    have nHf := none_of_ex et nf
    have hWG := hW.ex eG
    obtain ⟨dx, vc, vr, vl, d, e, kvs, h1, h2, h3, h4, h5⟩ := id hWG
    refine ⟨_, rfl, x, dx, _, rfl, h1, x, L, rfl, hWG, fun v hv => ⟨L.sz, by rw [show v = .int L.sz from hv], by omega, by omega, for_range (lo := 0) (n := L.sz.toNat) (fun i σ H' => (∃ u2 u3 xs, σ = [some (.ref x), some (.ref f), u2, u3] ∧ H' f = some (.lst xs) ∧ TzL H' xs (itemsTo L i)) ∧ Ex H H') ⟨⟨_, _, _, rfl, hf, TzL.one (TzL.tup TzL.nil (ef _ _ upd_same))⟩, eG⟩ ?_ ?_⟩⟩
    · rintro i σ H2 hi ⟨⟨u2, u3, xs, rfl, hf2, hx⟩, e2⟩
      have lx : xs.length ≤ 1 + 5 * i := by rw [hx.1]; exact itemsTo_len L ok i
      rw [Int.zero_add]
      refine ⟨_, rfl, .inl ⟨rfl, _, SqL.of hf2⟩, _, rfl, (by show 1 ≤ sizeLine; decide), fun t2 nt2 => ?_⟩
      have e3 : Ex H2 (upd H2 t2 (.tup [.int (i : Int)])) := Ex.nw nt2
      refine ⟨f, _, _, rfl, rfl, e3 _ _ hf2, small (by omega), ?_⟩
      have nft : f ≠ t2 := ne_of_none hf2 nt2
      obtain ⟨H3, E3⟩ : ∃ z, z = upd (upd H2 t2 (.tup [.int (i : Int)])) f (.lst (xs ++ [.ref t2])) := ⟨_, rfl⟩
      rw [← E3]
      have hf3 : H3 f = some (.lst (xs ++ [.ref t2])) := by rw [E3]; exact upd_same
      have eH3 : Ex H H3 := by rw [E3]; exact ex_mu (e2.tr e3) nHf
      have hx3 : TzL H3 (xs ++ [.ref t2]) (itemsTo L i ++ [PyData.tuple [.int (i : Int)]]) := by
        have q : TzL (upd H2 t2 (.tup [.int (i : Int)])) (xs ++ [.ref t2]) (itemsTo L i ++ [PyData.tuple [.int (i : Int)]]) := (hx.ex e3).snoc (TzL.tup (TzL.one (.int _)) upd_same)
        rw [E3]; exact q.te (te_lst (e3 _ _ hf2))
      have hW3 := hW.ex eH3
      obtain ⟨dx3, vc3, vr3, vl3, d3, e3', kvs3, g1, _⟩ := id hW3
      refine ⟨_, rfl, x, dx3, _, rfl, g1, x, L, rfl, hW3, fun v hv => ⟨_, _, hv, rfl, _, rfl, ?_⟩⟩
      by_cases hm : 1 < L.mo
      · refine HX.if_true (decide_eq_true hm) ?_
        refine ⟨_, rfl, .inl ⟨rfl, _, SqL.of hf3⟩, _, rfl, x, dx3, _, rfl, g1, x, L, rfl, hW3, fun v2 hv2 => ⟨L.sz, by rw [show v2 = .int L.sz from hv2], by omega, by omega, fun D nD => lc_tz walk_range (fun j => .tuple [.int (i : Int), .int (j : Int)]) (by omega) nD (fun _ _ => trivial) (fun j xv H4 H5 Kq hj e4 y kq => ?_) (fun H4 us e4 hD hus => ?_)⟩⟩
        · obtain ⟨rfl, rfl⟩ := y
          exact ⟨rfl, _, rfl, _, rfl, (by show 2 ≤ sizeLine; decide), fun q nq => kq _ _ (Ex.nw nq) (TzL.tup (TzL.cons (.int _) (TzL.one (by show Tz _ (V.int (0 + (j : Int))) _; rw [Int.zero_add]; exact .int _))) upd_same)⟩
        · have lu : us.length ≤ 4 := by rw [hus.1, List.length_map, List.length_range]; omega
          refine ⟨f, D, _, _, rfl, rfl, e4 _ _ hf3, hD, Nat.le_of_lt (small (by rw [List.length_append]; show xs.length + 1 + us.length < 1000; omega)), ⟨⟨_, _, _, rfl, upd_same, ?_⟩, ex_mu (eH3.tr e4) nHf⟩⟩
          rw [itemsTo_succ]
          have q : rowOf L i = [PyData.tuple [.int (i : Int)]] ++ (List.range L.sz.toNat).map fun j : Nat => PyData.tuple [.int (i : Int), .int (j : Int)] := by
            unfold rowOf
            rw [if_pos hm, ints_map]; rfl
          rw [q, ← List.append_assoc]
          exact ((hx3.ex e4).app hus).te (te_lst (e4 _ _ hf3))
      · refine HX.if_false (decide_eq_false hm) ?_
        refine ⟨⟨_, _, _, rfl, hf3, ?_⟩, eH3⟩
        rw [itemsTo_succ]
        have q : rowOf L i = [PyData.tuple [.int (i : Int)]] := by unfold rowOf; rw [if_neg hm]
        rw [q]; exact hx3
    · rintro σ H2 ⟨⟨u2, u3, xs, rfl, hf2, hx⟩, e2⟩
      exact ⟨_, rfl, k f xs H2 e2 nHf hf2 hx⟩
end
end K65
set_option Elab.async false
set_option linter.all false
set_option maxRecDepth 100000
set_option maxHeartbeats 4400000
namespace K65
open PySem PySem.Spec PyProof.Rows L2 HX
open PySem.W (Frag)


/-- each turn makes a value that is known -/
theorem lc_vl {J : It} {n : Nat} {G : Hp → Prop} {Y : Nat → Hp → V → Hp → Prop} {g : TG} {te : L2.TE} {vs : List Nat} {σ : L2.St} {H1 : Hp} {D : Addr} {Qd : Hp → Prop} (w : Walk J n G Y) (y : Nat → V) (hn : n < 1000) (nD : H1 D = none) (hG : ∀ H, Ex H1 H → G H)
    (hs : ∀ (i : Nat) (x : V) (H H' : Hp) (Kq : V → Hp → Prop), i < n → Ex H1 H → Y i H x H' → (∀ H4, Ex H H4 → Kq (y i) H4) → g x (wipe σ vs) H' fun σ2 H2 => wipe σ2 vs = wipe σ vs ∧ te σ2 H2 Kq)
    (hd : ∀ H, Ex H1 H → H D = some (.lst ((List.range n).map y)) → Qd H) : LcGoal J g te vs σ H1 D Qd := by
  refine lc_it (tt := tYes) w (fun i H => Ex H1 H ∧ H D = some (.lst ((List.range i).map y))) ⟨Ex.nw nD, upd_same⟩ (fun i H _ p => hG H p.1) (fun i x H H' hi p yy => ?_) (fun H ⟨e, hD⟩ => hd H e hD)
  obtain ⟨e, hD⟩ := p
  refine hs i x H H' _ hi e yy fun H4 e4 => ⟨_, e4 _ _ hD, ?_, ex_mu (e.tr e4) nD, ?_⟩
  · rw [List.length_map, List.length_range]
    exact Nat.lt_of_lt_of_le (Nat.lt_trans hi hn) (by decide)
  · rw [upd_same, List.range_succ, List.map_append]; rfl
theorem rng_const {α : Type} (a : α) : ∀ n, (List.range n).map (fun _ => a) = List.replicate n a
  | 0 => rfl
  | n + 1 => by rw [List.range_succ, List.map_append, rng_const a n, List.replicate_succ']; rfl
def addD (acc : List (List PyData)) (ch : List PyData) : List (List PyData) := acc.flatMap fun v => ch.map fun d => v ++ [d]
def prodD (lots : List (List PyData)) : List (List PyData) := lots.foldl addD [[]]
theorem prodD_snoc (lots : List (List PyData)) (ch : List PyData) : prodD (lots ++ [ch]) = addD (prodD lots) ch := by unfold prodD; rw [List.foldl_append]; rfl
theorem vals_prod (L : Lore) (cs : List Nat) : valsD L cs = prodD (cs.map (chD L)) := by unfold valsD prodD; rw [List.foldl_map]; rfl
theorem addD_len (acc : List (List PyData)) (ch : List PyData) : (addD acc ch).length = acc.length * ch.length := by
  unfold addD
  induction acc with
  | nil => simp
  | cons v r ih => rw [List.flatMap_cons, List.length_append, ih, List.length_map, List.length_cons, Nat.succ_mul]; omega
theorem addD_each {acc : List (List PyData)} {ch : List PyData} {n : Nat} (h : ∀ v ∈ acc, v.length = n) : ∀ v ∈ addD acc ch, v.length = n + 1 := fun v hv => by
  unfold addD at hv
  obtain ⟨u, hu, hv⟩ := List.mem_flatMap.mp hv
  obtain ⟨d, _, rfl⟩ := List.mem_map.mp hv
  rw [List.length_append, h u hu]; rfl
theorem prodD_each : ∀ (n : Nat) (lots : List (List PyData)), lots.length = n → ∀ v ∈ prodD lots, v.length = n
  | 0, [], _, v, hv => by rw [List.mem_singleton.mp hv]; rfl
  | n + 1, lots, h, v, hv => by
    have e : lots = lots.dropLast ++ [lots.getLast (by intro z; rw [z] at h; cases h)] := (List.dropLast_concat_getLast _).symm
    rw [e, prodD_snoc] at hv
    exact addD_each (prodD_each n lots.dropLast (by rw [List.length_dropLast, h]; rfl)) v hv
def lotsD (L : Lore) : List (List PyData) := List.replicate L.cn.length (intsD L.sz) ++ List.replicate L.rn.length (itemsD L)
def standsD (L : Lore) : List (List PyData) := prodD (lotsD L)
def keyD (L : Lore) (s : List PyData) (v : PyData) : PyData := .tuple [.tuple (s.take L.cn.length), .tuple (s.drop L.cn.length), v]
def keysD (L : Lore) (z : Str) : List PyData := (standsD L).flatMap fun s => ((valsD L z.cps.toList).map PyData.tuple).map (keyD L s)
/-- few keys, at each turn of the loops -/
structure Few (L : Lore) (z : Str) : Prop where
  st : ∀ i, (prodD ((lotsD L).take i)).length ≤ 900
  ks : ∀ j, (standsD L).length * (prodD ((z.cps.toList.take j).map (chD L))).length ≤ 900
theorem lots_len (L : Lore) (ok : L.Ok) : (lotsD L).length = L.cn.length + L.rn.length ∧ (lotsD L).length ≤ 4 := by
  have := ok.c2; have := ok.r2
  unfold lotsD
  rw [List.length_append, List.length_replicate, List.length_replicate]
  omega
theorem few_vals {L : Lore} {z : Str} (h : Few L z) : (standsD L).length * (valsD L z.cps.toList).length ≤ 900 := by
  have := h.ks z.cps.toList.length
  rwa [List.take_length, ← vals_prod] at this
theorem few_stands {L : Lore} {z : Str} (h : Few L z) : (standsD L).length ≤ 900 := by
  have := h.st (lotsD L).length
  rwa [List.take_length] at this
def ChAt (L : Lore) (H : Hp) (l : Addr) : Prop := ∃ lw li ws is, H l = some (.lst (List.replicate L.cn.length (V.ref lw) ++ List.replicate L.rn.length (V.ref li))) ∧ H lw = some (.lst ws) ∧ TzL H ws (intsD L.sz) ∧ H li = some (.lst is) ∧ TzL H is (itemsD L)
theorem ChAt.ex {L : Lore} {H H' : Hp} {l : Addr} (h : ChAt L H l) (e : Ex H H') : ChAt L H' l := let ⟨lw, li, ws, is, h1, h2, h3, h4, h5⟩ := h; ⟨lw, li, ws, is, e _ _ h1, e _ _ h2, h3.ex e, e _ _ h4, h5.ex e⟩
/-- the lots, one by one -/
theorem ch_at {L : Lore} {H : Hp} {l : Addr} (h : ChAt L H l) : ∃ xs, H l = some (.lst xs) ∧ xs.length = (lotsD L).length ∧ ∀ (i : Nat) (x : V), xs[i]? = some x → ∃ (a : Addr) (ys : List V) (ds : List PyData), x = V.ref a ∧ (lotsD L)[i]? = some ds ∧ H a = some (.lst ys) ∧ TzL H ys ds := by
  obtain ⟨lw, li, ws, is, h1, h2, h3, h4, h5⟩ := h
  refine ⟨_, h1, by unfold lotsD; simp, fun i x hx => ?_⟩
  unfold lotsD
  by_cases hi : i < L.cn.length
  · rw [List.getElem?_append_left (by rw [List.length_replicate]; exact hi), List.getElem?_replicate, if_pos hi] at hx
    cases hx
    exact ⟨lw, ws, intsD L.sz, rfl, by rw [List.getElem?_append_left (by rw [List.length_replicate]; exact hi), List.getElem?_replicate, if_pos hi], h2, h3⟩
  · rw [List.getElem?_append_right (by rw [List.length_replicate]; omega), List.length_replicate, List.getElem?_replicate] at hx
    split at hx
    · rename_i hj
      cases hx
      exact ⟨li, is, itemsD L, rfl, by rw [List.getElem?_append_right (by rw [List.length_replicate]; omega), List.length_replicate, List.getElem?_replicate, if_pos hj], h4, h5⟩
    · cases hx
def spChoices (K : Frag) (C : Addr) : Sp := fun vs H Q _ => ∃ (x : Addr) (L : Lore), vs = [.ref x] ∧ WAt K C H x L ∧ L.Ok ∧ ∀ l H', Ex H H' → H l = none → ChAt L H' l → Q (.ref l) H'
def spFew (K : Frag) (C : Addr) : Sp := fun vs H Q _ => ∃ (x : Addr) (L : Lore) (z : Str), vs = [.ref x, .str z] ∧ WAt K C H x L ∧ L.Ok ∧ z.length ≤ 3 ∧ Few L z ∧ ∀ H', Ex H H' → Q .non H'
def spKeys (K : Frag) (C : Addr) : Sp := fun vs H Q _ => ∃ (x : Addr) (L : Lore) (z : Str), vs = [.ref x, .str z] ∧ WAt K C H x L ∧ L.Ok ∧ z.length ≤ 3 ∧ Few L z ∧ OutL H (keysD L z) Q

section
variable {P : Program} {w : World} {K : Frag} {mg : Str → Option Value} {base : Heap} {A : Ad}

theorem ok_choices (T : Txt K mg A) : FnOk P w K mg base CX0 4 A.f_choices A.d_choices ["world"] (spChoices K A.C_World) := by
  refine T.F_choices.ok sc_choices (fun vs H Q E h => ?_) (fun cdv A0 outer s H vs Q E hr h => ?_)
  · obtain ⟨_, _, rfl, _⟩ := h
    rfl
  · have hu := hu_of hr
    obtain ⟨x, L, rfl, hW, ok, k⟩ := h
    refine ⟨_, (pss_cons (ps_asg (pe_tup (pa_cons (pe_listRg rfl (by rfl) T.g_list (prg_1 (by rfl) T.g_range (pe_prop (pv 0) T.cls_World T.P_size (ok_World_size T) (hr.mono (by decide)) T.b_World_size .nil pass0 rfl))) (pa_cons (pe_call (ok_all_items T) (hr.mono (by decide)) (by rfl) T.m_all_items T.F_all_items.kp T.b_all_items .nil pass0 (pa_cons (pv 0) pa_nil)) pa_nil))) (pg_tup rfl (pgs_cons (pg_name (i := 1) sc_choices.nd rfl (Or.inr rfl)) (pgs_cons (pg_name (i := 2) sc_choices.nd rfl (Or.inr rfl)) pgs_nil))))
      (pss_one (ps_ret (pe_op op_cat (pe_lc (own := [("_", 3)]) (g := (gName 3)) (tt := tYes) rfl sc_choices.nd (pi_tup (pe_prop (pv 0) T.cls_World T.P_cells (ok_World_cells T) (hr.mono (by decide)) T.b_World_cells .nil pass0 rfl)) (blkOk_by (N := N_choices) (sc := defScope s_choices) (by decide +kernel)) (fun _ _ _ _ _ => pg_name (i := 3) sc_choices.nd rfl (Or.inl rfl)) (fun _ _ _ _ _ => pts_nil) (fun _ _ _ _ _ => (pv 1))) (pe_lc (own := [("_", 3)]) (g := (gName 3)) (tt := tYes) rfl sc_choices.nd (pi_tup (pe_prop (pv 0) T.cls_World T.P_rows (ok_World_rows T) (hr.mono (by decide)) T.b_World_rows .nil pass0 rfl)) (blkOk_by (N := N_choices) (sc := defScope s_choices) (by decide +kernel)) (fun _ _ _ _ _ => pg_name (i := 3) sc_choices.nd rfl (Or.inl rfl)) (fun _ _ _ _ _ => pts_nil) (fun _ _ _ _ _ => (pv 2))))))), ?_⟩
    have s1 := ok.s1; have s0 := ok.s0; have c2 := ok.c2; have r2 := ok.r2
    obtain ⟨dx, vc, vr, vl, d, e, kvs, h1, h2, h3, h4, h5⟩ := id hW
    refine ⟨_, rfl, x, dx, _, rfl, h1, x, L, rfl, hW, fun v hv => ⟨L.sz, hv, RgOk.of_le (by decide) (by omega) (by decide) (by omega), fun lw nlw => ?_⟩⟩
    have e1 := Ex.nw (H := H) (o := .lst (rgV 0 L.sz)) nlw
    refine ⟨_, rfl, x, L, rfl, hW.ex e1, ok, fun li is H2 e2 nli hli his => ?_⟩
    have hlw := e2 _ _ (upd_same (H := H) (a := lw) (o := .lst (rgV 0 L.sz)))
    have e12 := e1.tr e2
    refine ⟨(by show 2 ≤ sizeLine; decide), fun t nt => ⟨t, _, rfl, SqT.of upd_same, rfl, _, _, rfl, _, _, rfl, rfl, ?_⟩⟩
    obtain ⟨H3, E3⟩ : ∃ z, z = upd H2 t (.tup [.ref lw, .ref li]) := ⟨_, rfl⟩
    have e3 : Ex H2 H3 := by rw [E3]; exact Ex.nw nt
    rw [← E3]
    have e13 := e12.tr e3
    have hW3 := hW.ex e13
    obtain ⟨ac, ys, rfl, hac, ly, hy⟩ := cell_at (h2.ex e13)
    have hx3 := e13 _ _ h1
    refine ⟨_, rfl, x, dx, _, rfl, hx3, x, L, rfl, hW3, fun v2 hv2 => ?_⟩
    obtain ⟨ac, ys, rfl, hac, ly, hy⟩ := cell_at (L := L) hv2
    refine ⟨ac, rfl, ⟨_, SqT.of hac⟩, fun D nD => lc_vl (walk_tup (xs := ys)) (fun _ => .ref lw) (by omega) nD (fun H' e' => SqT.of (e' _ _ hac)) (fun i xv H4 H5 Kq hi e' y kq => ?_) (fun H4 e4 hD => ?_)⟩
    · obtain ⟨rfl, hx2⟩ := y
      exact ⟨rfl, _, rfl, kq _ (Ex.rf _)⟩
    rw [rng_const, ly] at hD
    have hW4 := hW3.ex e4
    refine ⟨_, rfl, x, dx, _, rfl, e4 _ _ hx3, x, L, rfl, hW4, fun v3 hv3 => ?_⟩
    obtain ⟨ar, ws, rfl, har, lw2, hw⟩ := row_at (L := L) hv3
    refine ⟨ar, rfl, ⟨_, SqT.of har⟩, fun D2 nD2 => lc_vl (walk_tup (xs := ws)) (fun _ => .ref li) (by omega) nD2 (fun H' e' => SqT.of (e' _ _ har)) (fun i xv H5 H6 Kq hi e' y kq => ?_) (fun H5 e5 hD2 => ?_)⟩
    · obtain ⟨rfl, hx2⟩ := y
      exact ⟨rfl, _, rfl, kq _ (Ex.rf _)⟩
    rw [rng_const, lw2] at hD2
    have e35 := e4.tr e5
    refine ⟨D, D2, _, _, rfl, rfl, e5 _ _ hD, hD2, Nat.le_of_lt (small (by rw [List.length_replicate, List.length_replicate]; omega)), fun l nl => ?_⟩
    have el := Ex.nw (o := .lst (List.replicate L.cn.length (V.ref lw) ++ List.replicate L.rn.length (V.ref li))) nl
    have e25 := e3.tr (e35.tr el)
    exact k l _ (e12.tr e25) (none_of_ex (e13.tr e35) nl) ⟨lw, li, _, is, upd_same, e25 _ _ hlw, (tzL_rg _), e25 _ _ hli, his.ex e25⟩
end
end K65
set_option Elab.async false
set_option linter.all false
set_option maxRecDepth 100000
set_option maxHeartbeats 4400000
namespace K65
open PySem PySem.Spec PyProof.Rows L2 HX
open PySem.W (Frag)


theorem keys_len (L : Lore) (z : Str) : (keysD L z).length = (standsD L).length * (valsD L z.cps.toList).length := by
  unfold keysD
  generalize standsD L = ss
  induction ss with
  | nil => simp
  | cons s r ih => rw [List.flatMap_cons, List.length_append, ih, List.length_map, List.length_map, List.length_cons, Nat.succ_mul]; omega
theorem ch_len (L : Lore) (c : Nat) : (chD L c).length = if c = 114 then L.rn.length else L.sz.toNat := by
  unfold chD
  split
  · rw [List.length_map]; exact List.length_map ..
  · unfold intsD; rw [List.length_map, List.length_range]
theorem take_snoc {α : Type} {l : List α} {i : Nat} {a : α} (h : l[i]? = some a) : l.take (i + 1) = l.take i ++ [a] := by rw [List.take_add_one, h]; rfl
theorem stand_len (L : Lore) : ∀ s ∈ standsD L, s.length = L.cn.length + L.rn.length := prodD_each _ _ (by unfold lotsD; rw [List.length_append, List.length_replicate, List.length_replicate])

section
variable {P : Program} {w : World} {K : Frag} {mg : Str → Option Value} {base : Heap} {A : Ad}

theorem ok_check_few (T : Txt K mg A) : FnOk P w K mg base CX0 5 A.f_check_few A.d_check_few ["world", "kinds"] (spFew K A.C_World) := by
  refine T.F_check_few.ok sc_check_few (fun vs H Q E h => ?_) (fun cdv A0 outer s H vs Q E hr h => ?_)
  · obtain ⟨_, _, _, rfl, _⟩ := h
    rfl
  · have hu := hu_of hr
    obtain ⟨x, L, z, rfl, hW, ok, hz, few, k⟩ := h
    refine ⟨_, (pss_cons (ps_set (i := 2) sc_check_few.nd rfl (Or.inl rfl) pe_int)
      (pss_cons (ps_for PassesOwn.never rfl (pi_list (pe_call (ok_choices T) (hr.mono (by decide)) (by rfl) T.m_choices T.F_choices.kp T.b_choices .nil pass0 (pa_cons (pv 0) pa_nil))) (pg_name (i := 3) sc_check_few.nd rfl (Or.inl rfl)) (pss_one (ps_set (i := 2) sc_check_few.nd rfl (Or.inl rfl) (pe_op op_mul (pv 2) (pe_callB call_len_seq (by rfl) T.g_len (by decide +kernel) (pa_cons (pv 3) pa_nil))))))
      (pss_cons (ps_for PassesOwn.never rfl (pi_str (pv 1)) (pg_name (i := 4) sc_check_few.nd rfl (Or.inl rfl)) (pss_one (ps_set (i := 2) sc_check_few.nd rfl (Or.inl rfl) (pe_op op_mul (pv 2) (pe_ifExp (pt_cmpR op_eq (pv 4) pe_str (nomark _)) (pe_callB call_len_seq (by rfl) T.g_len (by decide +kernel) (pa_cons (pe_prop (pv 0) T.cls_World T.P_rows (ok_World_rows T) (hr.mono (by decide)) T.b_World_rows .nil pass0 rfl) pa_nil)) (pe_prop (pv 0) T.cls_World T.P_size (ok_World_size T) (hr.mono (by decide)) T.b_World_size .nil pass0 rfl))))))
      (pss_one (ps_if (pt_cmpR op_gt (pv 2) (pe_glob (v := .int 1000) (by rfl) T.c_MOST_KEYS.choose_spec ⟨_, rfl⟩) (nomark _)) (pss_one ps_never) pss_nil))))), ?_⟩
    have s1 := ok.s1; have s0 := ok.s0; have c2 := ok.c2; have r2 := ok.r2
    obtain ⟨ll, l4⟩ := lots_len L ok
    refine ⟨_, rfl, x, L, rfl, hW, ok, fun l H1 e1 nl hch => ?_⟩
    obtain ⟨xs, hl, hxl, hat⟩ := ch_at hch
    refine ⟨l, rfl, ⟨_, SqL.of hl⟩, for_it (walk_list (xs := xs)) (fun i σ H' => (∃ u3 u4, σ = [some (.ref x), some (.str z), some (.int ((prodD ((lotsD L).take i)).length : Nat)), u3, u4]) ∧ Ex H1 H') ⟨⟨_, _, rfl⟩, Ex.rf _⟩ (fun i σ H' _ p => SqL.of (p.2 _ _ hl)) ?_ ?_⟩
    · rintro i xv σ H2 H3 hi ⟨⟨u3, u4, rfl⟩, e2⟩ ⟨rfl, hxi⟩
      obtain ⟨a, ys, ds, rfl, hds, ha, hys⟩ := hat i xv hxi
      have f1 := few.st i
      have f2 := few.st (i + 1)
      rw [take_snoc hds, prodD_snoc, addD_len] at f2
      refine ⟨_, rfl, _, rfl, a, ys, rfl, .inl (SqL.of (e2 _ _ ha)), _, _, rfl, rfl, .inl (by omega), ⟨some (.ref a), u4, ?_⟩, e2⟩
      rw [take_snoc hds, prodD_snoc, addD_len, hys.1]
      rfl
    rintro σ H2 ⟨⟨u3, u4, rfl⟩, e2⟩
    rw [hxl, List.take_length]
    have hW2 := hW.ex (e1.tr e2)
    obtain ⟨dx, vc, vr, vl, d, e, kvs, h1, h2, h3, h4, h5⟩ := id hW2
    refine ⟨_, rfl, z, rfl, for_it walk_str (fun i σ H' => (∃ u3 u4, σ = [some (.ref x), some (.str z), some (.int (((standsD L).length * (prodD ((z.cps.toList.take i).map (chD L))).length : Nat) : Int)), u3, u4]) ∧ Ex H2 H') ⟨⟨u3, u4, by show _ = [_, _, some (V.int (((standsD L).length * 1 : Nat) : Int)), _, _]; rw [Nat.mul_one]; rfl⟩, Ex.rf _⟩ (fun _ _ _ _ _ => trivial) ?_ ?_⟩
    · rintro i xv σ H3 H4 hi ⟨⟨u3, u4, rfl⟩, e3⟩ ⟨rfl, c, hc, rfl⟩
      have hc' : z.cps.toList[i]? = some c := by simpa using hc
      have f1 := few.ks i
      have f2 := few.ks (i + 1)
      rw [take_snoc hc', List.map_append, List.map_cons, List.map_nil, prodD_snoc, addD_len, ← Nat.mul_assoc] at f2
      have hW3 := hW2.ex e3
      have g1 := e3 _ _ h1
      refine ⟨_, rfl, _, rfl, rfl, _, rfl, ?_⟩
      refine bothE (R := fun v G' => v = .int ((chD L c).length : Nat) ∧ Ex H4 G') (fun hp Qd k' => ⟨_, rfl, x, dx, _, rfl, g1, x, L, rfl, hW3, fun v hv => ?_⟩) (fun hp Qd k' => ⟨_, rfl, x, dx, _, rfl, g1, x, L, rfl, hW3, fun v hv => k' _ _ ⟨?_, Ex.rf _⟩⟩) ?_
      · obtain ⟨ar, ws, rfl, har, lw, hw⟩ := row_at hv
        refine ⟨ar, ws, rfl, .inr (SqT.of har), k' _ _ ⟨?_, Ex.rf _⟩⟩
        have hc2 : c = 114 := one_sign.mp hp
        rw [ch_len, if_pos hc2, lw]
      · have hc2 : ¬ c = 114 := fun z => hp (one_sign.mpr z)
        rw [ch_len, if_neg hc2, hv]
        show V.int L.sz = _
        rw [Int.toNat_of_nonneg (by omega)]
      · rintro v G' ⟨rfl, e4⟩
        refine ⟨_, _, rfl, rfl, .inl (by omega), ⟨u3, some (.str ⟨#[c]⟩), ?_⟩, e3.tr e4⟩
        rw [take_snoc hc', List.map_append, List.map_cons, List.map_nil, prodD_snoc, addD_len, ← Nat.mul_assoc]
        rfl
    rintro σ H3 ⟨⟨u3, u4, rfl⟩, e3⟩
    have f3 := few.ks z.cps.size
    refine ⟨_, rfl, _, _, rfl, rfl, _, rfl, ?_⟩
    rw [decide_eq_false (by omega)]
    refine iteF ?_
    exact k _ (e1.tr (e2.tr e3))
theorem ok_all_keys (T : Txt K mg A) : FnOk P w K mg base CX0 5 A.f_all_keys A.d_all_keys ["world", "kinds"] (spKeys K A.C_World) := by
  refine T.F_all_keys.ok sc_all_keys (fun vs H Q E h => ?_) (fun cdv A0 outer s H vs Q E hr h => ?_)
  · obtain ⟨_, _, _, rfl, _⟩ := h
    rfl
  · have hu := hu_of hr
    obtain ⟨x, L, z, rfl, hW, ok, hz, few, k⟩ := h
    refine ⟨_, (pss_cons (ps_set (i := 2) sc_all_keys.nd rfl (Or.inl rfl) (pe_lst (pa_cons (pe_tup pa_nil) pa_nil)))
      (pss_cons (ps_for PassesOwn.never rfl (pi_list (pe_call (ok_choices T) (hr.mono (by decide)) (by rfl) T.m_choices T.F_choices.kp T.b_choices .nil pass0 (pa_cons (pv 0) pa_nil))) (pg_name (i := 3) sc_all_keys.nd rfl (Or.inr rfl)) (pss_one (ps_setLc2 (i := 2) (own := [("stand", 6), ("choice", 8)]) (vs1 := [8]) (g := (gName 6)) (g1 := (gName 8)) (tt := tYes) (tt1 := tYes) (by rfl) sc_all_keys.nd rfl rfl (sw_true rfl rfl rfl (by decide +kernel)) (pi_list (pv 2)) (blkOk_by (N := N_all_keys) (sc := defScope s_all_keys) (by decide +kernel)) (by decide) (fun _ _ _ _ _ => pg_name (i := 6) sc_all_keys.nd rfl (Or.inl rfl)) (fun _ _ _ _ _ => pts_nil) (fun _ _ _ _ _ => (pi_listK (K := K) rfl (pv 3))) (fun _ _ _ _ _ => pg_name (i := 8) sc_all_keys.nd rfl (Or.inl rfl)) (fun _ _ _ _ _ => pts_nil) (fun _ _ _ _ _ => (pe_tup (pa_starK (K := K) rfl (pv 6) (pa_cons (pv 8) pa_nil)))))))
      (pss_cons (ps_set (i := 4) sc_all_keys.nd rfl (Or.inr rfl) (pe_callB call_len_seq (by rfl) T.g_len (by decide +kernel) (pa_cons (pe_prop (pv 0) T.cls_World T.P_cells (ok_World_cells T) (hr.mono (by decide)) T.b_World_cells .nil pass0 rfl) pa_nil)))
      (pss_cons (ps_set (i := 5) sc_all_keys.nd rfl (Or.inr rfl) (pe_call (ok_all_values T) (hr.mono (by decide)) (by rfl) T.m_all_values T.F_all_values.kp T.b_all_values .nil pass0 (pa_cons (pv 0) (pa_cons (pv 1) pa_nil))))
      (pss_one (ps_ret (pe_lc2 (own := [("stand", 6), ("handed", 7)]) (vs1 := [7]) (g := (gName 6)) (g1 := (gName 7)) (tt := tYes) (tt1 := tYes) rfl sc_all_keys.nd (pi_list (pv 2)) (blkOk_by (N := N_all_keys) (sc := defScope s_all_keys) (by decide +kernel)) (by decide) (fun _ _ _ _ _ => pg_name (i := 6) sc_all_keys.nd rfl (Or.inl rfl)) (fun _ _ _ _ _ => pts_nil) (fun _ _ _ _ _ => (pi_listK (K := K) rfl (pv 5))) (fun _ _ _ _ _ => pg_name (i := 7) sc_all_keys.nd rfl (Or.inl rfl)) (fun _ _ _ _ _ => pts_nil) (fun _ _ _ _ _ => (pe_tup (pa_cons (pe_slice (sl_tupAK (K := K) rfl) (pv 6) po_none (po_some (pv 4))) (pa_cons (pe_slice (sl_tupAK (K := K) rfl) (pv 6) (po_some (pv 4)) po_none) (pa_cons (pv 7) pa_nil)))))))))))), ?_⟩
    have s1 := ok.s1; have s0 := ok.s0; have c2 := ok.c2; have r2 := ok.r2
    obtain ⟨ll, l4⟩ := lots_len L ok
    refine ⟨(by show 0 ≤ sizeLine; decide), fun t nt => ⟨(by show 1 ≤ sizeLine; decide), fun f0 nf0 => ?_⟩⟩
    have et : Ex H (upd H t (.tup [])) := Ex.nw nt
    have el : Ex (upd H t (.tup [])) (upd (upd H t (.tup [])) f0 (.lst [.ref t])) := Ex.nw nf0
    obtain ⟨G, EG⟩ : ∃ z, z = upd (upd H t (.tup [])) f0 (.lst [.ref t]) := ⟨_, rfl⟩
    have hf0 : G f0 = some (.lst [.ref t]) := by rw [EG]; exact upd_same
    rw [← EG] at el ⊢
    have eG := et.tr el
    have h0 : TzL G [.ref t] ((prodD ((lotsD L).take 0)).map PyData.tuple) := TzL.one (TzL.tup TzL.nil (el _ _ upd_same))
    refine ⟨_, rfl, x, L, rfl, hW.ex eG, ok, fun l H1 e1 nl hch => ?_⟩
    obtain ⟨xs, hl, hxl, hat⟩ := ch_at hch
    have eG1 := eG.tr e1
    refine ⟨l, rfl, ⟨_, SqL.of hl⟩, for_it (walk_list (xs := xs)) (fun i σ H' => (∃ u3 u4 u5 u6 u7 u8 f us, σ = [some (.ref x), some (.str z), some (.ref f), u3, u4, u5, u6, u7, u8] ∧ H' f = some (.lst us) ∧ TzL H' us ((prodD ((lotsD L).take i)).map PyData.tuple)) ∧ Ex H1 H') ⟨⟨_, _, _, _, _, _, _, _, rfl, e1 _ _ hf0, h0.ex e1⟩, Ex.rf _⟩ (fun i σ H' _ p => SqL.of (p.2 _ _ hl)) ?_ ?_⟩
    · rintro i xv σ H9 H2 hi ⟨⟨u3, u4, u5, u6, u7, u8, f, us, rfl, hf, hx⟩, e2⟩ ⟨rfl, hxi⟩
      obtain ⟨a, ys, ds, rfl, hds, ha, hys⟩ := hat i xv hxi
      have f1 := few.st i
      have f2 := few.st (i + 1)
      have hus : us.length = (prodD ((lotsD L).take i)).length := by rw [hx.1, List.length_map]
      rw [take_snoc hds, prodD_snoc, addD_len] at f2
      refine ⟨_, rfl, f, rfl, ⟨_, SqL.of hf⟩, fun D2 nD2 => lc2_tz (K := K) (walk_list (xs := us)) (fun _ => ds) (fun j d => .tuple (((prodD ((lotsD L).take i))[j]?.getD []) ++ [d])) ds.length (fun _ _ => Nat.le_refl _) (by rw [hus]; omega) nD2 (fun H' e => SqL.of (e _ _ hf)) (fun _ => rfl) (fun _ _ => rfl) (fun j xv H4 R hj hxj e4 _ kR => ?_) (fun j xv yv dd H4 Kq hj hxj e4 hdd tz kq => ?_) (fun H4 ws e4 hD4 hws => ?_)⟩
      · have ha4 := e4 _ _ (e2 _ _ ha)
        exact ⟨_, rfl, a, rfl, ⟨_, SqL.of ha4⟩, kR a ys H4 (Ex.rf _) ha4 (ne_of_none (e2 _ _ ha) nD2) (hys.ex (e2.tr e4))⟩
      · obtain ⟨dv, hdv, tv⟩ := hx.gotV hxj
        rw [List.getElem?_map] at hdv
        obtain ⟨vl, hvl, rfl⟩ := Option.map_eq_some_iff.mp hdv
        obtain ⟨p, ts, rfl, hp, hts⟩ := (tv.ex e4).tupI
        have lt4 : ts.length ≤ 4 := by
          rw [hts.1, prodD_each _ ((lotsD L).take i) rfl vl (List.mem_of_getElem? hvl), List.length_take]; omega
        refine ⟨_, rfl, p, ts, rfl, .inl (SqT.of hp), _, rfl, Nat.le_of_lt (small (by rw [List.length_append]; show ts.length + 1 < 1000; omega)), fun t nt => kq _ _ (Ex.nw nt) ?_⟩
        show Tz _ _ (.tuple (((prodD ((lotsD L).take i))[j]?.getD []) ++ [dd]))
        rw [hvl]
        exact TzL.tup ((hts.snoc tz).ex (Ex.nw nt)) upd_same
      · refine ⟨⟨_, _, _, _, _, _, D2, ws, rfl, hD4, ?_⟩, e2.tr e4⟩
        rw [take_snoc hds, prodD_snoc]
        have q : (addD (prodD ((lotsD L).take i)) ds).map PyData.tuple = (List.range us.length).flatMap fun j => ds.map fun d => PyData.tuple (((prodD ((lotsD L).take i))[j]?.getD []) ++ [d]) := by
          rw [hus, flat_range (prodD ((lotsD L).take i)) [] (fun v => ds.map fun d => PyData.tuple (v ++ [d]))]
          unfold addD
          rw [List.map_flatMap]
          refine congrArg (fun g => (prodD ((lotsD L).take i)).flatMap g) (funext fun v => ?_)
          rw [List.map_map]; rfl
        rw [q]
        exact hws
    rintro σ H2 ⟨⟨u3, u4, u5, u6, u7, u8, f, us, rfl, hf, hx⟩, e2⟩
    rw [hxl, List.take_length] at hx
    replace hx : TzL H2 us ((standsD L).map PyData.tuple) := hx
    have e12 := eG1.tr e2
    have hW2 := hW.ex e12
    obtain ⟨dx, vc, vr, vl, d, e, kvs, h1, h2, h3, h4, h5⟩ := id hW2
    obtain ⟨ac, cs, ec, hac, ly, hy⟩ := cell_at h2
    refine ⟨_, rfl, x, dx, _, rfl, h1, x, L, rfl, hW2, fun v2 hv2 => ?_⟩
    obtain ⟨ac, cs, rfl, hac, ly, hy⟩ := cell_at (L := L) hv2
    refine ⟨ac, cs, rfl, .inr (SqT.of hac), _, rfl, _, rfl, x, L, z, rfl, hW2, ok, hz, fun lv vs H3 e3 nlv hlv hvs => ?_⟩
    have hf3 := e3 _ _ hf
    have hx3 := hx.ex e3
    have hus : us.length = (standsD L).length := by rw [hx.1, List.length_map]
    have hvl : vs.length = (valsD L z.cps.toList).length := by rw [hvs.1, List.length_map]
    have fv := few_vals few
    refine ⟨_, rfl, f, rfl, ⟨_, SqL.of hf3⟩, fun D nD => lc2_tz (K := K) (walk_list (xs := us)) (fun _ => (valsD L z.cps.toList).map PyData.tuple) (fun j d => keyD L ((standsD L)[j]?.getD []) d) (valsD L z.cps.toList).length (fun _ _ => by rw [List.length_map]; exact Nat.le_refl _) (by rw [hus]; omega) nD (fun H' e => SqL.of (e _ _ hf3)) (fun _ => rfl) (fun _ _ => rfl) (fun j xv H4 R hj hxj e4 _ kR => ?_) (fun j xv yv dd H4 Kq hj hxj e4 hdd tz kq => ?_) (fun H4 ws e4 hD4 hws => ?_)⟩
    · have ha4 := e4 _ _ hlv
      exact ⟨_, rfl, lv, rfl, ⟨_, SqL.of ha4⟩, kR lv vs H4 (Ex.rf _) ha4 (ne_of_none hlv nD) (hvs.ex e4)⟩
    · obtain ⟨dv, hdv, tv⟩ := hx3.gotV hxj
      rw [List.getElem?_map] at hdv
      obtain ⟨st, hst, rfl⟩ := Option.map_eq_some_iff.mp hdv
      obtain ⟨p, ts, rfl, hp, hts⟩ := (tv.ex e4).tupI
      rw [ly]
      refine ⟨_, rfl, _, rfl, _, rfl, slTo hp hts fun v1 H5 e5 t1 => ⟨_, rfl, _, rfl, _, rfl, ?_⟩⟩
      dsimp only [tNoPart]
      refine slFrom (e5 _ _ hp) (hts.ex e5) fun v2 H6 e6 t2 => ⟨_, rfl, (by show 3 ≤ sizeLine; decide), fun q nq => kq _ _ (e5.tr (e6.tr (Ex.nw nq))) ?_⟩
      show Tz _ _ (.tuple [_, _, dd])
      rw [hst]
      have eq_ := Ex.nw (H := H6) (o := .tup [v1, v2, yv]) nq
      exact (TzL.cons ((t1.ex e6).ex eq_) (TzL.cons (t2.ex eq_) (TzL.one (tz.ex (e5.tr (e6.tr eq_)))))).tup upd_same
    · refine k D ws H4 (e12.tr (e3.tr e4)) (none_of_ex (e12.tr e3) nD) hD4 ?_
      have q : keysD L z = (List.range us.length).flatMap fun j => ((valsD L z.cps.toList).map PyData.tuple).map fun d => keyD L ((standsD L)[j]?.getD []) d := by
        rw [hus, flat_range (standsD L) [] (fun s => ((valsD L z.cps.toList).map PyData.tuple).map (keyD L s))]
        rfl
      rw [q]
      exact hws
end
end K65
set_option Elab.async false
set_option linter.all false
set_option maxRecDepth 100000
set_option maxHeartbeats 4400000
namespace K65
open PySem PySem.Spec PyProof.Rows L2 HX
open PySem.W (Frag)


/-- depth of plain data -/
def dp : Nat → PyData → Prop
  | 0, _ => False
  | _ + 1, .int _ => True
  | _ + 1, .str _ => True
  | n + 1, .tuple ds => ds.length ≤ 20 ∧ ∀ d ∈ ds, dp n d
  | _ + 1, _ => False
def spAl (n : Nat) : Sp := fun vs H Q _ => (∃ z1 z2 : Str, vs = [.str z1, .str z2] ∧ 0 < n ∧ ∀ H', Ex H H' → Q (.bl (decide (z1 = z2))) H') ∨ ∃ (v1 v2 : V) (d : PyData), vs = [v1, v2] ∧ Tz H v1 d ∧ Tz H v2 d ∧ dp n d ∧ Yes H Q

section
variable {P : Program} {w : World} {K : Frag} {mg : Str → Option Value} {base : Heap} {A : Ad}

theorem ok_are_alike (T : Txt K mg A) : ∀ n : Nat, FnOk P w K mg base CX0 (n + 2) A.f_are_alike A.d_are_alike ["known", "value"] (spAl n)
  | 0 => by
    refine T.F_are_alike.ok sc_are_alike (fun vs H Q E h => ?_) (fun cdv A0 outer s H vs Q E hr h => ?_)
    · obtain ⟨_, _, rfl, _⟩ | ⟨_, _, _, rfl, _⟩ := h <;> rfl
    · obtain ⟨_, _, _, q, _⟩ | ⟨_, _, _, _, _, _, q, _⟩ := h
      · omega
      · exact q.elim
  | n + 1 => by
    have ih := ok_are_alike T n
    refine T.F_are_alike.ok sc_are_alike (fun vs H Q E h => ?_) (fun cdv A0 outer s H vs Q E hr h => ?_)
    · obtain ⟨_, _, rfl, _⟩ | ⟨_, _, _, rfl, _⟩ := h <;> rfl
    have hu := hu_of hr
    refine ⟨_, (pss_cons (ps_if (pt_val (pe_callB call_isi (by rfl) T.g_isinstance (by decide +kernel) (pa_cons (pv 0) (pa_cons (pe_bltn (v := .ty "tuple") (by rfl) T.g_tuple (by decide +kernel) rfl) pa_nil)))) (pss_cons (ps_if (PW.pt (pw_or (pt_not (pt_val (pe_callB call_isi (by rfl) T.g_isinstance (by decide +kernel) (pa_cons (pv 1) (pa_cons (pe_bltn (v := .ty "tuple") (by rfl) T.g_tuple (by decide +kernel) rfl) pa_nil))))) (pw_or1 (pt_cmpR op_ne (pe_callB call_len_seq (by rfl) T.g_len (by decide +kernel) (pa_cons (pv 0) pa_nil)) (pe_callB call_len_seq (by rfl) T.g_len (by decide +kernel) (pa_cons (pv 1) pa_nil)) (nomark _))))) (pss_one (ps_ret pe_bl)) pss_nil)
      (pss_one (ps_ret (pe_callB (cr_all rfl) (by rfl) T.g_all (by decide +kernel) (pa_cons (pe_lc (own := [("one", 2), ("other", 3)]) (g := (gTup K 2 (gCons (gName 2) (gCons (gName 3) gNil)))) (tt := tYes) rfl sc_are_alike.nd (RZ.pi_zipA (by rfl) T.g_zip (pa_cons (pv 0) (pa_cons (pv 1) pa_nil))) (blkOk_by (N := N_are_alike) (sc := defScope s_are_alike) (by decide +kernel)) (fun _ _ _ _ _ => pg_tup rfl (pgs_cons (pg_name (i := 2) sc_are_alike.nd rfl (Or.inl rfl)) (pgs_cons (pg_name (i := 3) sc_are_alike.nd rfl (Or.inl rfl)) pgs_nil))) (fun _ _ _ _ _ => pts_nil) (fun _ _ _ _ _ => (pe_call ih (hr.mono (by omega)) (by rfl) T.m_are_alike T.F_are_alike.kp T.b_are_alike .nil pass0 (pa_cons (pv 2) (pa_cons (pv 3) pa_nil))))) pa_nil))))) pss_nil)
      (pss_cons (ps_if (pt_val (pe_callB call_isi (by rfl) T.g_isinstance (by decide +kernel) (pa_cons (pv 0) (pa_cons (pe_bltn (v := .ty "bool") (by rfl) T.g_bool (by decide +kernel) rfl) pa_nil)))) (pss_one (ps_ret (pe_and (pe_callB call_isi (by rfl) T.g_isinstance (by decide +kernel) (pa_cons (pv 1) (pa_cons (pe_bltn (v := .ty "bool") (by rfl) T.g_bool (by decide +kernel) rfl) pa_nil))) (pe_one (pe_cmpR op_eq (pv 0) (pv 1) (nomark _)))))) pss_nil)
      (pss_cons (ps_if (pt_val (pe_callB call_isi (by rfl) T.g_isinstance (by decide +kernel) (pa_cons (pv 0) (pa_cons (pe_bltn (v := .ty "str") (by rfl) T.g_str (by decide +kernel) rfl) pa_nil)))) (pss_one (ps_ret (pe_and (pe_callB call_isi (by rfl) T.g_isinstance (by decide +kernel) (pa_cons (pv 1) (pa_cons (pe_bltn (v := .ty "str") (by rfl) T.g_str (by decide +kernel) rfl) pa_nil))) (pe_one (pe_cmpR op_eq (pv 0) (pv 1) (nomark _)))))) pss_nil)
      (pss_one (ps_ret (pe_call (ok_is_whole T) (hr.mono (by omega)) (by rfl) T.m_is_whole T.F_is_whole.kp T.b_is_whole .nil pass0 (pa_cons (pv 1) (pa_cons (pv 0) (pa_cons (pe_op op_add (pv 0) pe_int) pa_nil))))))))), ?_⟩
    obtain ⟨z1, z2, rfl, -, k⟩ | ⟨v1, v2, d, rfl, t1, t2, hd, k⟩ := h
    · refine ⟨_, rfl, _, _, _, _, _, rfl, .ty _, kt_str z1, kit_ty (r := false) (by decide +kernel), false, rfl, iteF ?_⟩
      refine ⟨_, rfl, _, _, _, _, _, rfl, .ty _, kt_str z1, kit_ty (r := false) (by decide +kernel), false, rfl, iteF ?_⟩
      refine ⟨_, rfl, _, _, _, _, _, rfl, .ty _, kt_str z1, kit_ty (r := true) (by decide +kernel), true, rfl, iteT ?_⟩
      refine ⟨_, rfl, _, _, _, _, _, rfl, .ty _, kt_str z2, kit_ty (r := true) (by decide +kernel), true, rfl, iteT ?_⟩
      have e : decide (V.str z1 = V.str z2) = decide (z1 = z2) := by
        rw [decide_eq_decide]; exact ⟨fun h => by injection h, fun h => by rw [h]⟩
      refine ⟨_, rfl, _, rfl, rfl, ?_⟩
      show Q (.bl (decide (V.str z1 = V.str z2))) H
      rw [e]
      exact k _ (Ex.rf _)
    cases d with
    | int i =>
      obtain rfl := t1.intI
      obtain rfl := t2.intI
      have hty : ∀ i : Int, TyX K H (.int i) (.type "int") := fun i => .base (.int _)
      refine ⟨_, rfl, _, _, _, _, _, rfl, .ty _, hty i, kit_ty (r := false) (by decide +kernel), false, rfl, iteF ?_⟩
      refine ⟨_, rfl, _, _, _, _, _, rfl, .ty _, hty i, kit_ty (r := false) (by decide +kernel), false, rfl, iteF ?_⟩
      refine ⟨_, rfl, _, _, _, _, _, rfl, .ty _, hty i, kit_ty (r := false) (by decide +kernel), false, rfl, iteF ?_⟩
      refine ⟨_, rfl, _, rfl, _, rfl, _, _, rfl, rfl, ?_⟩
      refine ⟨_, _, _, rfl, kd_int i, ?_⟩
      show Q (.bl (whole (.int i) i (i + 1))) H
      rw [whole_yes (Int.le_refl i) (by omega)]
      exact k _ (Ex.rf _)
    | str z =>
      obtain rfl := t1.strI
      obtain rfl := t2.strI
      refine ⟨_, rfl, _, _, _, _, _, rfl, .ty _, kt_str z, kit_ty (r := false) (by decide +kernel), false, rfl, iteF ?_⟩
      refine ⟨_, rfl, _, _, _, _, _, rfl, .ty _, kt_str z, kit_ty (r := false) (by decide +kernel), false, rfl, iteF ?_⟩
      refine ⟨_, rfl, _, _, _, _, _, rfl, .ty _, kt_str z, kit_ty (r := true) (by decide +kernel), true, rfl, iteT ?_⟩
      refine ⟨_, rfl, _, _, _, _, _, rfl, .ty _, kt_str z, kit_ty (r := true) (by decide +kernel), true, rfl, iteT ?_⟩
      refine ⟨_, rfl, _, rfl, rfl, ?_⟩
      show Q (.bl (decide (V.str z = V.str z))) H
      rw [decide_eq_true rfl]
      exact k _ (Ex.rf _)
    | tuple ds =>
      obtain ⟨a, xs, rfl, ha, hx⟩ := t1.tupI
      obtain ⟨b, ys, rfl, hb, hy⟩ := t2.tupI
      obtain ⟨hl, hds⟩ := hd
      have lx := hx.1; have ly := hy.1
      refine ⟨_, rfl, _, _, _, _, _, rfl, .ty _, .base (.tup ha), kit_ty (r := true) (by decide +kernel), true, rfl, iteT ?_⟩
      refine ⟨_, rfl, _, _, _, _, _, rfl, .ty _, .base (.tup hb), kit_ty (r := true) (by decide +kernel), _, rfl, HX.if_false rfl ?_⟩
      refine ⟨_, rfl, a, _, rfl, .inr (SqT.of ha), _, rfl, b, _, rfl, .inr (SqT.of hb), ?_⟩
      refine ⟨rfl, _, rfl, HX.if_false (by rw [lx, ly]; simp) ?_⟩
      refine ⟨_, rfl, _, rfl, a, b, _, _, rfl, .inr ⟨SqT.of ha, SqT.of hb, fun D nD => lc_yes (walk_zipT (xs := xs) (ys := ys) rfl) (by omega) nD (fun H' e => ⟨SqT.of (e _ _ ha), SqT.of (e _ _ hb)⟩) (fun i x H2 H3 Kq hi e y kq => ?_) (fun H2 e hD => ?_)⟩⟩
      · obtain ⟨T', u, z, rfl, nT, rfl, hu1, hz1⟩ := y
        obtain ⟨d1, hd1, tu⟩ := hx.gotV hu1
        have tz := hy.2 i z d1 hz1 hd1
        have e3 : Ex H2 (upd H2 T' (.tup [u, z])) := Ex.nw nT
        refine ⟨T', _, rfl, SqT.of upd_same, rfl, _, _, rfl, _, _, rfl, rfl, rfl, _, rfl, _, rfl, .inr ⟨u, z, d1, rfl, (tu.ex e).ex e3, (tz.ex e).ex e3, hds d1 (List.mem_of_getElem? hd1), fun H4 e4 => kq _ (e3.tr e4)⟩⟩
      · refine ⟨D, _, rfl, SqL.of hD, ?_⟩
        rw [rep_all]
        exact k _ e
    | _ => exact hd.elim
end
end K65
set_option Elab.async false
set_option linter.all false
set_option maxRecDepth 100000
set_option maxHeartbeats 4400000
namespace K65
open PySem PySem.Spec PyProof.Rows L2 HX
open PySem.W (Frag)


def StOk (L : Lore) (a b : PyData) : Prop := ∃ (ns : List Int) (rs : List (List Int)), a = .tuple (ns.map PyData.int) ∧ b = .tuple (rs.map itD) ∧ ns.length = L.cn.length ∧ rs.length = L.rn.length ∧ (∀ i ∈ ns, 0 ≤ i ∧ i < L.sz) ∧ ∀ r ∈ rs, (r.length : Int) ≤ L.mo ∧ ∀ i ∈ r, 0 ≤ i ∧ i < L.sz
def EndOk (L : Lore) (d : PyData) : Prop := (∃ i : Int, d = .tuple [.str "gives", .int i] ∧ 0 ≤ i ∧ i < L.sz) ∨ ∃ ss : List Str, d = .tuple [.str "faults", .tuple (ss.map PyData.str)] ∧ 1 ≤ ss.length ∧ ss.length ≤ 3 ∧ ∀ z ∈ ss, nameOk z = true
def ToldOk (L : Lore) (d : PyData) : Prop := d = .none ∨ ∃ e a b, d = .tuple [e, a, b] ∧ EndOk L e ∧ StOk L a b
def rowD (k t : PyData) : PyData := match k with | .tuple ks => .tuple (ks ++ [t]) | _ => .none
def spStand (K : Frag) (C : Addr) : Sp := fun vs H Q _ => ∃ (x : Addr) (L : Lore) (v : V) (a b : PyData), vs = [.ref x, v] ∧ WAt K C H x L ∧ L.Ok ∧ Tz H v (.tuple [a, b]) ∧ StOk L a b ∧ Yes H Q
def spEnd (K : Frag) (C : Addr) : Sp := fun vs H Q _ => ∃ (x : Addr) (L : Lore) (v : V) (d : PyData), vs = [.ref x, v] ∧ WAt K C H x L ∧ L.Ok ∧ Tz H v d ∧ EndOk L d ∧ Yes H Q
def spTold (K : Frag) (C : Addr) : Sp := fun vs H Q _ => ∃ (x : Addr) (L : Lore) (v : V) (e a b : PyData), vs = [.ref x, v] ∧ WAt K C H x L ∧ L.Ok ∧ Tz H v (.tuple [e, a, b]) ∧ EndOk L e ∧ StOk L a b ∧ Yes H Q
def spRow (K : Frag) (C : Addr) : Sp := fun vs H Q _ => ∃ (x : Addr) (L : Lore) (vk v : V) (p q r t : PyData), vs = [.ref x, vk, v] ∧ WAt K C H x L ∧ L.Ok ∧ Tz H vk (.tuple [p, q, r]) ∧ dp 4 (.tuple [p, q, r]) ∧ Tz H v (.tuple [p, q, r, t]) ∧ ToldOk L t ∧ Yes H Q

section
variable {P : Program} {w : World} {K : Frag} {mg : Str → Option Value} {base : Heap} {A : Ad}

theorem ok_is_stand (T : Txt K mg A) : FnOk P w K mg base CX0 3 A.f_is_stand A.d_is_stand ["world", "value"] (spStand K A.C_World) := by
  refine T.F_is_stand.ok sc_is_stand (fun vs H Q E h => ?_) (fun cdv A0 outer s H vs Q E hr h => ?_)
  · obtain ⟨_, _, _, _, _, rfl, _⟩ := h
    rfl
  · have hu := hu_of hr
    obtain ⟨x, L, v, d1, d2, rfl, hW, ok, tv, ⟨ns, rs, rfl, rfl, ln, lr, bn, br⟩, k⟩ := h
    refine ⟨_, (pss_cons (ps_if (PW.pt (pw_or (pt_not (pt_val (pe_callB call_isi (by rfl) T.g_isinstance (by decide +kernel) (pa_cons (pv 1) (pa_cons (pe_bltn (v := .ty "tuple") (by rfl) T.g_tuple (by decide +kernel) rfl) pa_nil))))) (pw_or1 (pt_cmpR op_ne (pe_callB call_len_seq (by rfl) T.g_len (by decide +kernel) (pa_cons (pv 1) pa_nil)) pe_int (nomark _))))) (pss_one (ps_ret pe_bl)) pss_nil)
      (pss_cons (ps_asg (pv 1) (pg_tup rfl (pgs_cons (pg_name (i := 2) sc_is_stand.nd rfl (Or.inl rfl)) (pgs_cons (pg_name (i := 3) sc_is_stand.nd rfl (Or.inl rfl)) pgs_nil))))
      (pss_cons (ps_if (PW.pt (pw_or (pt_not (pt_val (pe_callB call_isi (by rfl) T.g_isinstance (by decide +kernel) (pa_cons (pv 2) (pa_cons (pe_bltn (v := .ty "tuple") (by rfl) T.g_tuple (by decide +kernel) rfl) pa_nil))))) (pw_or1 (pt_cmpR op_ne (pe_callB call_len_seq (by rfl) T.g_len (by decide +kernel) (pa_cons (pv 2) pa_nil)) (pe_callB call_len_seq (by rfl) T.g_len (by decide +kernel) (pa_cons (pe_prop (pv 0) T.cls_World T.P_cells (ok_World_cells T) (hr.mono (by decide)) T.b_World_cells .nil pass0 rfl) pa_nil)) (nomark _))))) (pss_one (ps_ret pe_bl)) pss_nil)
      (pss_cons (ps_if (PW.pt (pw_or (pt_not (pt_val (pe_callB call_isi (by rfl) T.g_isinstance (by decide +kernel) (pa_cons (pv 3) (pa_cons (pe_bltn (v := .ty "tuple") (by rfl) T.g_tuple (by decide +kernel) rfl) pa_nil))))) (pw_or1 (pt_cmpR op_ne (pe_callB call_len_seq (by rfl) T.g_len (by decide +kernel) (pa_cons (pv 3) pa_nil)) (pe_callB call_len_seq (by rfl) T.g_len (by decide +kernel) (pa_cons (pe_prop (pv 0) T.cls_World T.P_rows (ok_World_rows T) (hr.mono (by decide)) T.b_World_rows .nil pass0 rfl) pa_nil)) (nomark _))))) (pss_one (ps_ret pe_bl)) pss_nil)
      (pss_cons (ps_if (pt_not (pt_val (pe_callB (cr_all rfl) (by rfl) T.g_all (by decide +kernel) (pa_cons (pe_lc (own := [("worth", 5)]) (g := (gName 5)) (tt := tYes) rfl sc_is_stand.nd (pi_tup (pv 2)) (blkOk_by (N := N_is_stand) (sc := defScope s_is_stand) (by decide +kernel)) (fun _ _ _ _ _ => pg_name (i := 5) sc_is_stand.nd rfl (Or.inl rfl)) (fun _ _ _ _ _ => pts_nil) (fun _ _ _ _ _ => (pe_call (ok_is_whole T) (hr.mono (by decide)) (by rfl) T.m_is_whole T.F_is_whole.kp T.b_is_whole .nil pass0 (pa_cons (pv 5) (pa_cons pe_int (pa_cons (pe_prop (pv 0) T.cls_World T.P_size (ok_World_size T) (hr.mono (by decide)) T.b_World_size .nil pass0 rfl) pa_nil)))))) pa_nil)))) (pss_one (ps_ret pe_bl)) pss_nil)
      (pss_one (ps_ret (pe_callB (cr_all rfl) (by rfl) T.g_all (by decide +kernel) (pa_cons (pe_lc (own := [("row", 4)]) (g := (gName 4)) (tt := tYes) rfl sc_is_stand.nd (pi_tup (pv 3)) (blkOk_by (N := N_is_stand) (sc := defScope s_is_stand) (by decide +kernel)) (fun _ _ _ _ _ => pg_name (i := 4) sc_is_stand.nd rfl (Or.inl rfl)) (fun _ _ _ _ _ => pts_nil) (fun _ _ _ _ _ => (pe_call (ok_are_items T) (hr.mono (by decide)) (by rfl) T.m_are_items T.F_are_items.kp T.b_are_items .nil pass0 (pa_cons (pv 4) (pa_cons (pe_prop (pv 0) T.cls_World T.P_size (ok_World_size T) (hr.mono (by decide)) T.b_World_size .nil pass0 rfl) (pa_cons (pe_prop (pv 0) T.cls_World T.P_most (ok_World_most T) (hr.mono (by decide)) T.b_World_most .nil pass0 rfl) pa_nil)))))) pa_nil))))))))), ?_⟩
    have s1 := ok.s1; have s0 := ok.s0; have c2 := ok.c2; have r2 := ok.r2; have m1 := ok.m1
    obtain ⟨dx, vc, vr, vl, d, e, kvs, h1, h2, h3, h4, h5⟩ := id hW
    obtain ⟨a, va, vb, rfl, ha, ta, tb⟩ := tv.tup2
    obtain ⟨b, ws, rfl, hb, hws⟩ := ta.tupI
    obtain ⟨c, us, rfl, hc, hus⟩ := tb.tupI
    obtain rfl := hws.ints
    refine ⟨_, rfl, _, _, _, _, _, rfl, .ty _, .base (.tup ha), kit_ty (r := true) (by decide +kernel), _, rfl, HX.if_false rfl ?_⟩
    refine ⟨_, rfl, a, _, rfl, .inr (SqT.of ha), rfl, _, rfl, HX.if_false rfl ?_⟩
    refine ⟨_, rfl, a, _, rfl, SqT.of ha, rfl, _, _, rfl, _, _, rfl, rfl, ?_⟩
    refine ⟨_, rfl, _, _, _, _, _, rfl, .ty _, .base (.tup hb), kit_ty (r := true) (by decide +kernel), _, rfl, HX.if_false rfl ?_⟩
    refine ⟨_, rfl, b, _, rfl, .inr (SqT.of hb), _, rfl, x, dx, _, rfl, h1, x, L, rfl, hW, fun v2 hv2 => ?_⟩
    obtain ⟨ac, cs, rfl, hac, ly, hy⟩ := cell_at (L := L) hv2
    refine ⟨ac, cs, rfl, .inr (SqT.of hac), rfl, _, rfl, HX.if_false (by rw [List.length_map, ln, ly]; simp) ?_⟩
    refine ⟨_, rfl, _, _, _, _, _, rfl, .ty _, .base (.tup hc), kit_ty (r := true) (by decide +kernel), _, rfl, HX.if_false rfl ?_⟩
    refine ⟨_, rfl, c, _, rfl, .inr (SqT.of hc), _, rfl, x, dx, _, rfl, h1, x, L, rfl, hW, fun v2 hv2 => ?_⟩
    obtain ⟨ar, ts, rfl, har, lw, hw⟩ := row_at (L := L) hv2
    refine ⟨ar, ts, rfl, .inr (SqT.of har), rfl, _, rfl, HX.if_false (by rw [hus.1, List.length_map, lr, lw]; simp) ?_⟩
    refine ⟨_, rfl, b, rfl, ⟨_, SqT.of hb⟩, fun D nD => lc_yes (walk_tup (xs := ns.map V.int)) (by rw [List.length_map]; omega) nD (fun H' e => SqT.of (e _ _ hb)) (fun i xv H2 H3 Kq hi e yy kq => ?_) (fun H2 e2 hD => ?_)⟩
    · obtain ⟨rfl, hxi⟩ := yy
      rw [List.getElem?_map] at hxi
      obtain ⟨z, hz, rfl⟩ := Option.map_eq_some_iff.mp hxi
      have hb2 := bn z (List.mem_of_getElem? hz)
      refine ⟨rfl, _, rfl, _, rfl, x, dx, _, rfl, e _ _ h1, x, L, rfl, hW.ex e, fun v hv => ?_⟩
      subst hv
      refine ⟨_, 0, L.sz, rfl, kd_int z, ?_⟩
      rw [whole_yes hb2.1 hb2.2]
      exact kq _ (Ex.rf _)
    refine ⟨D, _, rfl, SqL.of hD, ?_⟩
    rw [rep_all]
    refine ⟨_, rfl, HX.if_false rfl ?_⟩
    have hus2 := hus.ex e2
    refine ⟨_, rfl, c, rfl, ⟨_, SqT.of (e2 _ _ hc)⟩, fun D2 nD2 => lc_yes (walk_tup (xs := us)) (by rw [hus.1, List.length_map]; omega) nD2 (fun H' e => SqT.of (e _ _ (e2 _ _ hc))) (fun i xv H3 H4 Kq hi e yy kq => ?_) (fun H3 e3 hD2 => ?_)⟩
    · obtain ⟨rfl, hxi⟩ := yy
      obtain ⟨dd, hdd, tz⟩ := hus2.gotV hxi
      rw [List.getElem?_map] at hdd
      obtain ⟨r, hr2, rfl⟩ := Option.map_eq_some_iff.mp hdd
      have hb2 := br r (List.mem_of_getElem? hr2)
      have e4 := e2.tr e
      refine ⟨rfl, _, rfl, _, rfl, x, dx, _, rfl, e4 _ _ h1, x, L, rfl, hW.ex e4, fun v hv => ?_⟩
      subst hv
      refine ⟨_, rfl, x, dx, _, rfl, e4 _ _ h1, x, L, rfl, hW.ex e4, fun v hv => ?_⟩
      subst hv
      exact ⟨_, r, L.sz, L.mo, rfl, tz.ex e, hb2.1, by omega, hb2.2, fun H5 e5 => kq _ e5⟩
    · refine ⟨D2, _, rfl, SqL.of hD2, ?_⟩
      rw [rep_all]
      exact k _ (e2.tr e3)
end
end K65
set_option Elab.async false
set_option linter.all false
set_option maxRecDepth 100000
set_option maxHeartbeats 4400000
namespace K65
open PySem PySem.Spec PyProof.Rows L2 HX
open PySem.W (Frag)

section
variable {P : Program} {w : World} {K : Frag} {mg : Str → Option Value} {base : Heap} {A : Ad}

theorem ok_is_end (T : Txt K mg A) : FnOk P w K mg base CX0 4 A.f_is_end A.d_is_end ["world", "value"] (spEnd K A.C_World) := by
  refine T.F_is_end.ok sc_is_end (fun vs H Q E h => ?_) (fun cdv A0 outer s H vs Q E hr h => ?_)
  · obtain ⟨_, _, _, _, rfl, _⟩ := h
    rfl
  · have hu := hu_of hr
    obtain ⟨x, L, v, d0, rfl, hW, ok, tv, hd, k⟩ := h
    refine ⟨_, (pss_cons (ps_if (PW.pt (pw_or (pt_not (pt_val (pe_callB call_isi (by rfl) T.g_isinstance (by decide +kernel) (pa_cons (pv 1) (pa_cons (pe_bltn (v := .ty "tuple") (by rfl) T.g_tuple (by decide +kernel) rfl) pa_nil))))) (pw_or1 (pt_cmpR op_ne (pe_callB call_len_seq (by rfl) T.g_len (by decide +kernel) (pa_cons (pv 1) pa_nil)) pe_int (nomark _))))) (pss_one (ps_ret pe_bl)) pss_nil)
      (pss_cons (ps_if (pt_val (pe_call (ok_are_alike T 1) (hr.mono (by decide)) (by rfl) T.m_are_alike T.F_are_alike.kp T.b_are_alike .nil pass0 (pa_cons pe_str (pa_cons (pe_ix ix_tup (pv 1) pe_int (fun _ _ => rfl)) pa_nil)))) (pss_one (ps_ret (pe_call (ok_is_whole T) (hr.mono (by decide)) (by rfl) T.m_is_whole T.F_is_whole.kp T.b_is_whole .nil pass0 (pa_cons (pe_ix ix_tup (pv 1) pe_int (fun _ _ => rfl)) (pa_cons pe_int (pa_cons (pe_prop (pv 0) T.cls_World T.P_size (ok_World_size T) (hr.mono (by decide)) T.b_World_size .nil pass0 rfl) pa_nil)))))) pss_nil)
      (pss_cons (ps_if (PW.pt (pw_or (pt_not (pt_val (pe_call (ok_are_alike T 1) (hr.mono (by decide)) (by rfl) T.m_are_alike T.F_are_alike.kp T.b_are_alike .nil pass0 (pa_cons pe_str (pa_cons (pe_ix ix_tup (pv 1) pe_int (fun _ _ => rfl)) pa_nil))))) (pw_or1 (pt_not (pt_val (pe_callB call_isi (by rfl) T.g_isinstance (by decide +kernel) (pa_cons (pe_ix ix_tup (pv 1) pe_int (fun _ _ => rfl)) (pa_cons (pe_bltn (v := .ty "tuple") (by rfl) T.g_tuple (by decide +kernel) rfl) pa_nil)))))))) (pss_one (ps_ret pe_bl)) pss_nil)
      (pss_one (ps_ret (pe_and (pe_chain op_le op_le pe_int (pe_callB call_len_seq (by rfl) T.g_len (by decide +kernel) (pa_cons (pe_ix ix_tup (pv 1) pe_int (fun _ _ => rfl)) pa_nil)) (pe_glob (v := .int 3) (by rfl) T.c_MOST_WORDS.choose_spec ⟨_, rfl⟩)) (pe_one (pe_callB (cr_all rfl) (by rfl) T.g_all (by decide +kernel) (pa_cons (pe_lc (own := [("word", 2)]) (g := (gName 2)) (tt := tYes) rfl sc_is_end.nd (pi_tup (pe_ix ix_tup (pv 1) pe_int (fun _ _ => rfl))) (blkOk_by (N := N_is_end) (sc := defScope s_is_end) (by decide +kernel)) (fun _ _ _ _ _ => pg_name (i := 2) sc_is_end.nd rfl (Or.inl rfl)) (fun _ _ _ _ _ => pts_nil) (fun _ _ _ _ _ => (pe_call (ok_is_name T) (hr.mono (by decide)) (by rfl) T.m_is_name T.F_is_name.kp T.b_is_name .nil pass0 (pa_cons (pv 2) pa_nil)))) pa_nil))))))))), ?_⟩
    have s1 := ok.s1; have s0 := ok.s0
    obtain ⟨dx, vc, vr, vl, d, e, kvs, h1, h2, h3, h4, h5⟩ := id hW
    obtain ⟨i, rfl, i0, i1⟩ | ⟨ss, rfl, l1, l3, hn⟩ := hd
    · obtain ⟨a, va, vb, rfl, ha, ta, tb⟩ := tv.tup2
      obtain rfl := ta.strI
      obtain rfl := tb.intI
      refine ⟨_, rfl, _, _, _, _, _, rfl, .ty _, .base (.tup ha), kit_ty (r := true) (by decide +kernel), _, rfl, HX.if_false rfl ?_⟩
      refine ⟨_, rfl, a, _, rfl, .inr (SqT.of ha), rfl, _, rfl, HX.if_false rfl ?_⟩
      refine ⟨_, rfl, a, _, 0, _, rfl, rfl, SqT.of ha, rfl, .inl ⟨"gives", "gives", rfl, by decide, fun H2 e2 => ⟨true, by simp, iteT ?_⟩⟩⟩
      have ha2 := e2 _ _ ha
      refine ⟨_, rfl, a, _, 1, _, rfl, rfl, SqT.of ha2, rfl, _, rfl, x, dx, _, rfl, e2 _ _ h1, x, L, rfl, hW.ex e2, fun v hv => ?_⟩
      subst hv
      refine ⟨_, 0, L.sz, rfl, kd_int i, ?_⟩
      rw [whole_yes i0 i1]
      exact k _ e2
    · obtain ⟨a, va, vb, rfl, ha, ta, tb⟩ := tv.tup2
      obtain rfl := ta.strI
      obtain ⟨b, us, rfl, hb, hus⟩ := tb.tupI
      obtain rfl := hus.strs
      refine ⟨_, rfl, _, _, _, _, _, rfl, .ty _, .base (.tup ha), kit_ty (r := true) (by decide +kernel), _, rfl, HX.if_false rfl ?_⟩
      refine ⟨_, rfl, a, _, rfl, .inr (SqT.of ha), rfl, _, rfl, HX.if_false rfl ?_⟩
      refine ⟨_, rfl, a, _, 0, _, rfl, rfl, SqT.of ha, rfl, .inl ⟨"gives", "faults", rfl, by decide, fun H2 e2 => ⟨false, congrArg V.bl (decide_eq_false (by decide +kernel)), iteF ?_⟩⟩⟩
      have ha2 := e2 _ _ ha
      refine ⟨_, rfl, a, _, 0, _, rfl, rfl, SqT.of ha2, rfl, .inl ⟨"faults", "faults", rfl, by decide, fun H3 e3 => ⟨true, by simp, HX.if_false rfl ?_⟩⟩⟩
      have ha3 := e3 _ _ ha2
      have hb3 := e3 _ _ (e2 _ _ hb)
      refine ⟨_, rfl, a, _, 1, _, rfl, rfl, SqT.of ha3, rfl, _, _, _, _, _, rfl, .ty _, .base (.tup hb3), kit_ty (r := true) (by decide +kernel), _, rfl, HX.if_false rfl ?_⟩
      have e1 : decide ((1 : Int) ≤ ((ss.map V.str).length : Nat)) = true := decide_eq_true (by rw [List.length_map]; omega)
      have e3' : decide ((((ss.map V.str).length : Nat) : Int) ≤ 3) = true := decide_eq_true (by rw [List.length_map]; omega)
      refine ⟨_, rfl, a, _, 1, _, rfl, rfl, SqT.of ha3, rfl, b, _, rfl, .inr (SqT.of hb3), _, _, rfl, rfl, _, rfl, HX.if_true e1 ?_⟩
      refine ⟨_, _, rfl, rfl, _, rfl, HX.if_true e3' ?_⟩
      refine ⟨_, rfl, a, _, 1, _, rfl, rfl, SqT.of ha3, rfl, b, rfl, ⟨_, SqT.of hb3⟩, fun D nD => lc_yes (walk_tup (xs := ss.map V.str)) (by rw [List.length_map]; omega) nD (fun H' e => SqT.of (e _ _ hb3)) (fun i xv H4 H5 Kq hi e yy kq => ?_) (fun H4 e4 hD => ?_)⟩
      · obtain ⟨rfl, hxi⟩ := yy
        rw [List.getElem?_map] at hxi
        obtain ⟨z, hz, rfl⟩ := Option.map_eq_some_iff.mp hxi
        exact ⟨rfl, _, rfl, z, rfl, hn z (List.mem_of_getElem? hz), fun H6 e6 => kq _ e6⟩
      · refine ⟨D, _, rfl, SqL.of hD, ?_⟩
        rw [rep_all]
        exact k _ (e2.tr (e3.tr e4))
theorem ok_is_told (T : Txt K mg A) : FnOk P w K mg base CX0 5 A.f_is_told A.d_is_told ["world", "value"] (spTold K A.C_World) := by
  refine T.F_is_told.ok sc_is_told (fun vs H Q E h => ?_) (fun cdv A0 outer s H vs Q E hr h => ?_)
  · obtain ⟨_, _, _, _, _, _, rfl, _⟩ := h
    rfl
  · have hu := hu_of hr
    obtain ⟨x, L, v, d0, d1, d2, rfl, hW, ok, tv, he, hs, k⟩ := h
    refine ⟨_, (pss_one (ps_ret (pe_and (pe_callB call_isi (by rfl) T.g_isinstance (by decide +kernel) (pa_cons (pv 1) (pa_cons (pe_bltn (v := .ty "tuple") (by rfl) T.g_tuple (by decide +kernel) rfl) pa_nil))) (pe_and (pe_cmpR op_eq (pe_callB call_len_seq (by rfl) T.g_len (by decide +kernel) (pa_cons (pv 1) pa_nil)) pe_int (nomark _)) (pe_and (pe_call (ok_is_end T) (hr.mono (by decide)) (by rfl) T.m_is_end T.F_is_end.kp T.b_is_end .nil pass0 (pa_cons (pv 0) (pa_cons (pe_ix ix_tup (pv 1) pe_int (fun _ _ => rfl)) pa_nil))) (pe_one (pe_call (ok_is_stand T) (hr.mono (by decide)) (by rfl) T.m_is_stand T.F_is_stand.kp T.b_is_stand .nil pass0 (pa_cons (pv 0) (pa_cons (pe_slice sl_tupA (pv 1) (po_some pe_int) po_none) pa_nil))))))))), ?_⟩
    obtain ⟨a, va, vb, vc, rfl, ha, ta, tb, tc⟩ := tv.tup3
    refine ⟨_, rfl, _, _, _, _, _, rfl, .ty _, .base (.tup ha), kit_ty (r := true) (by decide +kernel), true, rfl, iteT ?_⟩
    refine ⟨_, rfl, a, _, rfl, .inr (SqT.of ha), rfl, true, rfl, iteT ?_⟩
    refine ⟨_, rfl, _, rfl, a, _, 0, _, rfl, rfl, SqT.of ha, rfl, x, L, va, d0, rfl, hW, ok, ta, he, fun H2 e2 => ⟨true, rfl, iteT ?_⟩⟩
    refine ⟨_, rfl, _, rfl, _, rfl, ?_⟩
    dsimp only [tNoPart]
    refine slFrom (n := 1) (e2 _ _ ha) ((TzL.cons ta (TzL.cons tb (TzL.one tc))).ex e2) fun v1 H3 e3 t1 => ?_
    exact ⟨x, L, v1, d1, d2, rfl, hW.ex (e2.tr e3), ok, t1, hs, fun H4 e4 => k _ (e2.tr (e3.tr e4))⟩
theorem ok_is_row (T : Txt K mg A) : FnOk P w K mg base CX0 7 A.f_is_row A.d_is_row ["world", "key", "value"] (spRow K A.C_World) := by
  refine T.F_is_row.ok sc_is_row (fun vs H Q E h => ?_) (fun cdv A0 outer s H vs Q E hr h => ?_)
  · obtain ⟨_, _, _, _, _, _, _, _, rfl, _⟩ := h
    rfl
  · have hu := hu_of hr
    obtain ⟨x, L, vk, v, p, q, r, t, rfl, hW, ok, tk, hdp, tv, ht, k⟩ := h
    refine ⟨_, (pss_cons (ps_if (PW.pt (pw_or (pt_not (pt_val (pe_callB call_isi (by rfl) T.g_isinstance (by decide +kernel) (pa_cons (pv 2) (pa_cons (pe_bltn (v := .ty "tuple") (by rfl) T.g_tuple (by decide +kernel) rfl) pa_nil))))) (pw_or (pt_cmpR op_ne (pe_callB call_len_seq (by rfl) T.g_len (by decide +kernel) (pa_cons (pv 2) pa_nil)) pe_int (nomark _)) (pw_or1 (pt_not (pt_val (pe_call (ok_are_alike T 4) (hr.mono (by decide)) (by rfl) T.m_are_alike T.F_are_alike.kp T.b_are_alike .nil pass0 (pa_cons (pv 1) (pa_cons (pe_slice sl_tupA (pv 2) po_none (po_some pe_int)) pa_nil))))))))) (pss_one (ps_ret pe_bl)) pss_nil)
      (pss_one (ps_ret (pe_or (pe_cmpR op_isN (pe_ix ix_tup (pv 2) pe_int (fun _ _ => rfl)) pe_non (nomark _)) (pe_one (pe_call (ok_is_told T) (hr.mono (by decide)) (by rfl) T.m_is_told T.F_is_told.kp T.b_is_told .nil pass0 (pa_cons (pv 0) (pa_cons (pe_ix ix_tup (pv 2) pe_int (fun _ _ => rfl)) pa_nil)))))))), ?_⟩
    obtain ⟨a, xs, rfl, ha, hxs⟩ := tv.tupI
    obtain ⟨w0, r0, rfl, t0, hr0⟩ := id hxs.consI
    obtain ⟨w1, r1, rfl, t1', hr1⟩ := hr0.consI
    obtain ⟨w2, r2, rfl, t2, hr2⟩ := hr1.consI
    obtain ⟨vt, r3, rfl, tt, hr3⟩ := hr2.consI
    obtain rfl := hr3.nilI
    refine ⟨_, rfl, _, _, _, _, _, rfl, .ty _, .base (.tup ha), kit_ty (r := true) (by decide +kernel), _, rfl, HX.if_false rfl ?_⟩
    refine ⟨_, rfl, a, _, rfl, .inr (SqT.of ha), rfl, _, rfl, HX.if_false rfl ?_⟩
    refine ⟨_, rfl, _, rfl, _, rfl, slTo (n := 3) ha hxs fun v1 H2 e2 t1 => ?_⟩
    refine .inr ⟨vk, v1, _, rfl, tk.ex e2, t1, hdp, fun H3 e3 => ⟨true, rfl, HX.if_false rfl ?_⟩⟩
    have e23 := e2.tr e3
    have ha3 := e23 _ _ ha
    refine ⟨_, rfl, a, _, 3, vt, rfl, rfl, SqT.of ha3, rfl, rfl, _, rfl, ?_⟩
    obtain rfl | ⟨e, d1, d2, rfl, he, hs⟩ := ht
    · cases tt
      exact iteT (k _ e23)
    · have tt3 := tt.ex e23
      have hv : decide (vt = V.non) = false := by
        obtain ⟨b, ys, rfl, _⟩ := tt.tupI
        rfl
      rw [hv]
      refine iteF ?_
      exact ⟨_, rfl, _, rfl, a, _, 3, vt, rfl, rfl, SqT.of ha3, rfl, x, L, vt, e, d1, d2, rfl, hW.ex e23, ok, tt3, he, hs, fun H4 e4 => k _ (e23.tr e4)⟩
end
end K65
set_option Elab.async false
set_option linter.all false
set_option maxRecDepth 100000
set_option maxHeartbeats 4400000
namespace K65
open PySem PySem.Spec PyProof.Rows L2 HX
open PySem.W (Frag)


theorem dp_up : ∀ (n : Nat) (d : PyData), dp n d → dp (n + 1) d
  | 0, d, h => h.elim
  | n + 1, .int _, _ => trivial
  | n + 1, .str _, _ => trivial
  | n + 1, .tuple ds, h => ⟨h.1, fun d hd => dp_up n d (h.2 d hd)⟩
  | _ + 1, .none, h => h.elim
  | _ + 1, .bool _, h => h.elim
  | _ + 1, .list _, h => h.elim
  | _ + 1, .dict _, h => h.elim
theorem prodD_mem : ∀ (n : Nat) (lots : List (List PyData)), lots.length = n → ∀ v ∈ prodD lots, ∀ d ∈ v, ∃ ch ∈ lots, d ∈ ch
  | 0, [], _, v, hv, d, hd => by rw [List.mem_singleton.mp hv] at hd; simp at hd
  | n + 1, lots, h, v, hv, d, hd => by
    have nz : lots ≠ [] := by intro z; rw [z] at h; cases h
    have e : lots = lots.dropLast ++ [lots.getLast nz] := (List.dropLast_concat_getLast _).symm
    rw [e, prodD_snoc] at hv
    unfold addD at hv
    obtain ⟨u, hu, hv⟩ := List.mem_flatMap.mp hv
    obtain ⟨c, hc, rfl⟩ := List.mem_map.mp hv
    rcases List.mem_append.mp hd with hd | hd
    · obtain ⟨ch, h1, h2⟩ := prodD_mem n lots.dropLast (by rw [List.length_dropLast, h]; rfl) u hu d hd
      exact ⟨ch, (List.dropLast_sublist _).subset h1, h2⟩
    · rw [List.mem_singleton.mp hd]
      exact ⟨_, List.getLast_mem nz, hc⟩
theorem dp_ints (n : Int) : ∀ d ∈ intsD n, dp 1 d := fun d hd => by
  obtain ⟨i, _, rfl⟩ := List.mem_map.mp hd
  exact trivial
theorem dp_ch (L : Lore) (c : Nat) : ∀ d ∈ chD L c, dp 1 d := fun d hd => by
  unfold chD at hd
  split at hd
  · obtain ⟨i, _, rfl⟩ := List.mem_map.mp hd
    exact trivial
  · exact dp_ints _ d hd
theorem dp_items (L : Lore) : ∀ d ∈ itemsD L, dp 2 d := fun d hd => by
  unfold itemsD itemsTo at hd
  rcases List.mem_cons.mp hd with rfl | hd
  · exact ⟨by decide, fun d h => by simp at h⟩
  · obtain ⟨i, _, hd⟩ := List.mem_flatMap.mp hd
    unfold rowOf at hd
    rcases List.mem_cons.mp hd with rfl | hd
    · exact ⟨by show 1 ≤ 20; decide, fun d h => by rw [List.mem_singleton.mp h]; exact trivial⟩
    · split at hd
      · obtain ⟨c, hc, rfl⟩ := List.mem_map.mp hd
        refine ⟨by show 2 ≤ 20; decide, fun d h => ?_⟩
        rcases List.mem_cons.mp h with rfl | h
        · exact trivial
        · rw [List.mem_singleton.mp h]; exact dp_ints _ c hc
      · simp at hd
theorem dp_stand (L : Lore) : ∀ s ∈ standsD L, ∀ d ∈ s, dp 2 d := fun s hs d hd => by
  obtain ⟨ch, h1, h2⟩ := prodD_mem _ _ rfl s hs d hd
  unfold lotsD at h1
  rcases List.mem_append.mp h1 with h1 | h1
  · rw [(List.mem_replicate.mp h1).2] at h2; exact dp_up 1 d (dp_ints _ d h2)
  · rw [(List.mem_replicate.mp h1).2] at h2; exact dp_items L d h2
theorem key_at {L : Lore} (ok : L.Ok) {z : Str} (hz : z.length ≤ 3) : ∀ k ∈ keysD L z, ∃ p q r, k = .tuple [p, q, r] ∧ dp 4 k := fun k hk => by
  have c2 := ok.c2; have r2 := ok.r2
  unfold keysD at hk
  obtain ⟨s, hs, hk⟩ := List.mem_flatMap.mp hk
  obtain ⟨v, hv, rfl⟩ := List.mem_map.mp hk
  obtain ⟨u, hu, rfl⟩ := List.mem_map.mp hv
  have ls := stand_len L s hs
  have lz : z.cps.toList.length ≤ 3 := by have : z.cps.size ≤ 3 := hz; simpa using this
  refine ⟨_, _, _, rfl, by show 3 ≤ 20; decide, fun d hd => ?_⟩
  simp only [List.mem_cons, List.not_mem_nil, or_false] at hd
  rcases hd with rfl | rfl | rfl
  · exact ⟨by rw [List.length_take]; omega, fun d hd => dp_stand L s hs d (List.mem_of_mem_take hd)⟩
  · exact ⟨by rw [List.length_drop]; omega, fun d hd => dp_stand L s hs d (List.mem_of_mem_drop hd)⟩
  · refine ⟨by rw [vals_each L _ u hu]; omega, fun d hd => ?_⟩
    rw [vals_prod] at hu
    obtain ⟨ch, h1, h2⟩ := prodD_mem _ _ rfl u hu d hd
    obtain ⟨c, _, rfl⟩ := List.mem_map.mp h1
    exact dp_up 1 d (dp_ch L c d h2)
def tabD (L : Lore) (z : Str) (ts : List PyData) : List PyData := List.zipWith rowD (keysD L z) ts
def spCk (K : Frag) (C : Addr) : Sp := fun vs H Q _ => ∃ (x : Addr) (L : Lore) (z : Str) (m : Int), vs = [.ref x, .str z, .int m] ∧ WAt K C H x L ∧ L.Ok ∧ (z.length : Int) ≤ m ∧ m < 900 ∧ kindsOk (!L.rn.isEmpty) z = true ∧ ∀ H', Ex H H' → Q .non H'
def spTab (K : Frag) (C : Addr) : Sp := fun vs H Q _ => ∃ (x : Addr) (L : Lore) (z : Str) (v : V) (ts : List PyData), vs = [.ref x, .str z, v] ∧ WAt K C H x L ∧ L.Ok ∧ z.length ≤ 3 ∧ Few L z ∧ Tz H v (.tuple (tabD L z ts)) ∧ ts.length = (keysD L z).length ∧ (∀ t ∈ ts, ToldOk L t) ∧ Yes H Q

section
variable {P : Program} {w : World} {K : Frag} {mg : Str → Option Value} {base : Heap} {A : Ad}

theorem ok_check_kinds (T : Txt K mg A) : FnOk P w K mg base CX0 3 A.f_check_kinds A.d_check_kinds ["world", "kinds", "most"] (spCk K A.C_World) := by
  refine T.F_check_kinds.ok sc_check_kinds (fun vs H Q E h => ?_) (fun cdv A0 outer s H vs Q E hr h => ?_)
  · obtain ⟨_, _, _, _, rfl, _⟩ := h
    rfl
  · have hu := hu_of hr
    obtain ⟨x, L, z, m, rfl, hW, ok, hz, hm, hk, k⟩ := h
    refine ⟨_, (pss_one (ps_if (pt_not (pt_val (pe_call (ok_are_kinds T) (hr.mono (by decide)) (by rfl) T.m_are_kinds T.F_are_kinds.kp T.b_are_kinds .nil pass0 (pa_cons (pv 1) (pa_cons (pv 2) (pa_cons (pe_callTy call_boolT (by rfl) T.g_bool (by decide +kernel) (pa_cons (pe_prop (pv 0) T.cls_World T.P_rows (ok_World_rows T) (hr.mono (by decide)) T.b_World_rows .nil pass0 rfl) pa_nil)) pa_nil)))))) (pss_one ps_never) pss_nil)), ?_⟩
    obtain ⟨dx, vc, vr, vl, d, e, kvs, h1, h2, h3, h4, h5⟩ := id hW
    refine ⟨_, rfl, _, rfl, _, rfl, x, dx, _, rfl, h1, x, L, rfl, hW, fun v2 hv2 => ?_⟩
    obtain ⟨ar, ys, rfl, har, ly, hy⟩ := row_at (L := L) hv2
    have eb : (!ys.isEmpty) = !L.rn.isEmpty := by
      cases ys with
      | nil => rw [List.eq_nil_of_length_eq_zero ly.symm]; rfl
      | cons a r =>
        cases h : L.rn with
        | nil => rw [h] at ly; cases ly
        | cons b t => rfl
    refine ⟨ar, ys, rfl, SqT.of har, z, m, _, rfl, hz, hm, by rw [eb]; exact hk, fun H2 e2 => ⟨true, rfl, HX.if_false rfl (k _ e2)⟩⟩
theorem ok_is_table (T : Txt K mg A) : FnOk P w K mg base CX0 8 A.f_is_table A.d_is_table ["world", "kinds", "value"] (spTab K A.C_World) := by
  refine T.F_is_table.ok sc_is_table (fun vs H Q E h => ?_) (fun cdv A0 outer s H vs Q E hr h => ?_)
  · obtain ⟨_, _, _, _, _, rfl, _⟩ := h
    rfl
  · have hu := hu_of hr
    obtain ⟨x, L, z, v, ts, rfl, hW, ok, hz, few, tv, lts, hts, k⟩ := h
    refine ⟨_, (pss_cons (ps_set (i := 3) sc_is_table.nd rfl (Or.inl rfl) (pe_call (ok_all_keys T) (hr.mono (by decide)) (by rfl) T.m_all_keys T.F_all_keys.kp T.b_all_keys .nil pass0 (pa_cons (pv 0) (pa_cons (pv 1) pa_nil))))
      (pss_cons (ps_if (PW.pt (pw_or (pt_not (pt_val (pe_callB call_isi (by rfl) T.g_isinstance (by decide +kernel) (pa_cons (pv 2) (pa_cons (pe_bltn (v := .ty "tuple") (by rfl) T.g_tuple (by decide +kernel) rfl) pa_nil))))) (pw_or1 (pt_cmpR op_ne (pe_callB call_len_seq (by rfl) T.g_len (by decide +kernel) (pa_cons (pv 2) pa_nil)) (pe_callB call_len_seq (by rfl) T.g_len (by decide +kernel) (pa_cons (pv 3) pa_nil)) (nomark _))))) (pss_one (ps_ret pe_bl)) pss_nil)
      (pss_one (ps_ret (pe_callB (cr_all rfl) (by rfl) T.g_all (by decide +kernel) (pa_cons (pe_lc (own := [("key", 4), ("row", 5)]) (g := (gTup K 2 (gCons (gName 4) (gCons (gName 5) gNil)))) (tt := tYes) rfl sc_is_table.nd (pi_zipM (by rfl) T.g_zip (pa_cons (pv 3) (pa_cons (pv 2) pa_nil))) (blkOk_by (N := N_is_table) (sc := defScope s_is_table) (by decide +kernel)) (fun _ _ _ _ _ => pg_tup rfl (pgs_cons (pg_name (i := 4) sc_is_table.nd rfl (Or.inl rfl)) (pgs_cons (pg_name (i := 5) sc_is_table.nd rfl (Or.inl rfl)) pgs_nil))) (fun _ _ _ _ _ => pts_nil) (fun _ _ _ _ _ => (pe_call (ok_is_row T) (hr.mono (by decide)) (by rfl) T.m_is_row T.F_is_row.kp T.b_is_row .nil pass0 (pa_cons (pv 0) (pa_cons (pv 4) (pa_cons (pv 5) pa_nil)))))) pa_nil)))))), ?_⟩
    obtain ⟨a, xs, rfl, ha, hxs⟩ := tv.tupI
    have lt : (tabD L z ts).length = (keysD L z).length := by unfold tabD; rw [List.length_zipWith, lts, Nat.min_self]
    have fv := few_vals few
    have kl := keys_len L z
    refine ⟨_, rfl, _, rfl, x, L, z, rfl, hW, ok, hz, few, fun l ks H2 e2 nl hl hks => ?_⟩
    have ha2 := e2 _ _ ha
    have hx2 := hxs.ex e2
    refine ⟨_, rfl, _, _, _, _, _, rfl, .ty _, .base (.tup ha2), kit_ty (r := true) (by decide +kernel), _, rfl, HX.if_false rfl ?_⟩
    refine ⟨_, rfl, a, _, rfl, .inr (SqT.of ha2), _, rfl, l, _, rfl, .inl (SqL.of hl), rfl, _, rfl, HX.if_false (by rw [hxs.1, hks.1, lt]; simp) ?_⟩
    have lx := hxs.1; have lk := hks.1
    refine ⟨_, rfl, _, rfl, l, a, ks, xs, rfl, SqL.of hl, SqT.of ha2, fun D nD => lc_yes (walk_zipM (xs := ks) (ys := xs) rfl) (by omega) nD (fun H' e => ⟨SqL.of (e _ _ hl), SqT.of (e _ _ ha2)⟩) (fun i xv H3 H4 Kq hi e yy kq => ?_) (fun H3 e hD => ?_)⟩
    · obtain ⟨T', u, y, rfl, nT, rfl, hu1, hz1⟩ := yy
      obtain ⟨kd, hkd, tu⟩ := hks.gotV hu1
      obtain ⟨rd, hrd, tr⟩ := hx2.gotV hz1
      obtain ⟨p, q, r, rfl, hdp⟩ := key_at ok hz kd (List.mem_of_getElem? hkd)
      have e3 : Ex H3 (upd H3 T' (.tup [u, y])) := Ex.nw nT
      have hr2 : ∃ t, t ∈ ts ∧ rd = .tuple [p, q, r, t] := by
        unfold tabD at hrd
        rw [List.getElem?_zipWith, hkd] at hrd
        cases ht : ts[i]? with
        | none => rw [ht] at hrd; cases hrd
        | some t =>
          rw [ht] at hrd
          refine ⟨t, List.mem_of_getElem? ht, ?_⟩
          injection hrd with hrd
          exact hrd.symm
      obtain ⟨t, htm, rfl⟩ := hr2
      exact ⟨T', _, rfl, SqT.of upd_same, rfl, _, _, rfl, _, _, rfl, rfl, rfl, _, rfl, _, rfl, _, rfl, x, L, u, y, p, q, r, t, rfl, hW.ex (e2.tr (e.tr e3)), ok, (tu.ex e).ex e3, hdp, (tr.ex e).ex e3, hts t htm, fun H5 e5 => kq _ (e3.tr e5)⟩
    · refine ⟨D, _, rfl, SqL.of hD, ?_⟩
      rw [rep_all]
      exact k _ (e2.tr e)
end
end K65
set_option Elab.async false
set_option linter.all false
set_option maxRecDepth 100000
set_option maxHeartbeats 4400000
namespace K65
open PySem PySem.Spec PyProof.Rows L2 HX
open PySem.W (Frag)


/-! keys are told apart -/
def nkn : Nat → PyData → NestedKey
  | 0, _ => .none
  | _ + 1, .int i => .num i
  | _ + 1, .str z => .text z
  | n + 1, .tuple ds => .tup (ds.map (nkn n))
  | _ + 1, _ => .none
theorem map_inj_on {α β : Type} {f : α → β} : ∀ (ds es : List α), (∀ d ∈ ds, ∀ e ∈ es, f d = f e → d = e) → ds.map f = es.map f → ds = es
  | [], [], _, _ => rfl
  | [], _ :: _, _, h => by cases h
  | _ :: _, [], _, h => by cases h
  | d :: ds, e :: es, hi, h => by
    rw [List.map_cons, List.map_cons] at h
    injection h with h1 h2
    rw [hi d (List.mem_cons_self ..) e (List.mem_cons_self ..) h1, map_inj_on ds es (fun a ha b hb => hi a (List.mem_cons_of_mem _ ha) b (List.mem_cons_of_mem _ hb)) h2]
theorem nkn_inj : ∀ (n : Nat) (d e : PyData), dp n d → dp n e → nkn n d = nkn n e → d = e
  | 0, _, _, h, _, _ => h.elim
  | n + 1, d, e, hd, he, h => by
    cases d with
    | int i => cases e with
      | int j => injection h with h; rw [h]
      | str j => cases h
      | tuple j => cases h
      | _ => exact he.elim
    | str i => cases e with
      | int j => cases h
      | str j => injection h with h; rw [h]
      | tuple j => cases h
      | _ => exact he.elim
    | tuple ds => cases e with
      | int j => cases h
      | str j => cases h
      | tuple es =>
        injection h with h
        rw [map_inj_on ds es (fun a ha b hb => nkn_inj n a b (hd.2 a ha) (he.2 b hb)) h]
      | _ => exact he.elim
    | _ => exact hd.elim
theorem nkn_depth : ∀ (n : Nat) (d : PyData), (nkn n d).depth ≤ n
  | 0, _ => by show NestedKey.depth .none ≤ 0; simp [NestedKey.depth]
  | n + 1, d => by
    cases d with
    | tuple ds =>
      show NestedKey.depth (.tup (ds.map (nkn n))) ≤ n + 1
      have h : NestedKey.depthAll (ds.map (nkn n)) ≤ n := by
        induction ds with
        | nil => simp [NestedKey.depthAll]
        | cons a r ih =>
          rw [List.map_cons]
          simp only [NestedKey.depthAll]
          exact Nat.max_le.mpr ⟨nkn_depth n a, ih⟩
      simp only [NestedKey.depth]
      omega
    | _ => simp [nkn, NestedKey.depth]
theorem nk_of {H : Hp} : ∀ (n : Nat) (d : PyData) (v : V), dp n d → Tz H v d → Nk H (nkn n d) v
  | 0, _, _, h, _ => h.elim
  | n + 1, d, v, hd, t => by
    cases d with
    | int i => obtain rfl := t.intI; exact .num i
    | str z => obtain rfl := t.strI; exact .text z
    | tuple ds =>
      obtain ⟨a, xs, rfl, ha, hx⟩ := t.tupI
      refine .tup ha ?_
      obtain ⟨-, hds⟩ := hd
      clear ha t
      induction ds generalizing xs with
      | nil => rw [hx.nilI]; exact .nil
      | cons d r ih =>
        obtain ⟨v, ys, rfl, tv, hr⟩ := hx.consI
        exact .cons (nk_of n d v (hds d (List.mem_cons_self ..)) tv) (ih ys hr (fun c hc => hds c (List.mem_cons_of_mem _ hc)))
    | _ => exact hd.elim
theorem nodup_flat {α β : Type} {f : α → List β} (g : β → α) : ∀ l : List α, l.Nodup → (∀ a ∈ l, (f a).Nodup) → (∀ a ∈ l, ∀ x ∈ f a, g x = a) → (l.flatMap f).Nodup
  | [], _, _, _ => List.nodup_nil
  | a :: r, h, h1, h2 => by
    rw [List.flatMap_cons, List.nodup_append]
    obtain ⟨na, nr⟩ := List.nodup_cons.mp h
    refine ⟨h1 a (List.mem_cons_self ..), nodup_flat g r nr (fun b hb => h1 b (List.mem_cons_of_mem _ hb)) (fun b hb => h2 b (List.mem_cons_of_mem _ hb)), fun x hx y hy e => ?_⟩
    obtain ⟨b, hb, hyb⟩ := List.mem_flatMap.mp hy
    have e1 := h2 a (List.mem_cons_self ..) x hx
    have e2 := h2 b (List.mem_cons_of_mem _ hb) y hyb
    rw [← e, e1] at e2
    exact na (e2 ▸ hb)
theorem nodup_map {α β : Type} {f : α → β} (inj : ∀ a b, f a = f b → a = b) {l : List α} (h : l.Nodup) : (l.map f).Nodup := List.pairwise_map.mpr (List.Pairwise.imp (fun ne e => ne (inj _ _ e)) h)
theorem ints_nodup (n : Int) : (intsD n).Nodup := nodup_map (fun a b h => by injection h with h; omega) List.nodup_range
theorem prod_nodup : ∀ (n : Nat) (lots : List (List PyData)), lots.length = n → (∀ l ∈ lots, l.Nodup) → (prodD lots).Nodup
  | 0, [], _, _ => List.pairwise_singleton ..
  | n + 1, lots, h, hl => by
    have nz : lots ≠ [] := by intro z; rw [z] at h; cases h
    have e : lots = lots.dropLast ++ [lots.getLast nz] := (List.dropLast_concat_getLast _).symm
    rw [e, prodD_snoc]
    have ih := prod_nodup n lots.dropLast (by rw [List.length_dropLast, h]; rfl) (fun l hl2 => hl l ((List.dropLast_sublist _).subset hl2))
    refine nodup_flat List.dropLast _ ih (fun v _ => nodup_map (fun a b q => ?_) (hl _ (List.getLast_mem nz))) (fun v _ x hx => ?_)
    · exact (List.append_inj' q rfl).2 |> fun z => by injection z
    · obtain ⟨d, _, rfl⟩ := List.mem_map.mp hx
      exact List.dropLast_concat
theorem row_nodup (L : Lore) (i : Nat) : (rowOf L i).Nodup := by
  unfold rowOf
  rw [List.nodup_cons]
  split
  · refine ⟨fun h => ?_, nodup_map (fun a b q => ?_) (ints_nodup _)⟩
    · obtain ⟨d, _, e⟩ := List.mem_map.mp h
      injection e with e
      cases e
    · injection q with q
      injection q with _ q
      injection q
  · exact ⟨by simp, List.nodup_nil⟩
theorem items_nodup (L : Lore) : (itemsD L).Nodup := by
  unfold itemsD itemsTo
  rw [List.nodup_cons]
  have hd : ∀ (i : Nat) (x : PyData), x ∈ rowOf L i → ∃ r, x = .tuple (.int (i : Int) :: r) := fun i x hx => by
    unfold rowOf at hx
    rcases List.mem_cons.mp hx with rfl | hx
    · exact ⟨_, rfl⟩
    · split at hx
      · obtain ⟨d, _, rfl⟩ := List.mem_map.mp hx
        exact ⟨_, rfl⟩
      · simp at hx
  refine ⟨fun h => ?_, nodup_flat (fun x => match x with | .tuple (.int i :: _) => i.toNat | _ => 0) _ List.nodup_range (fun i _ => row_nodup L i) (fun i _ x hx => ?_)⟩
  · obtain ⟨i, _, h⟩ := List.mem_flatMap.mp h
    obtain ⟨r, e⟩ := hd i _ h
    injection e with e
    cases e
  · obtain ⟨r, rfl⟩ := hd i x hx
    rfl
theorem rs_nodup {L : Lore} (ok : L.Ok) : L.rs.Nodup := by
  have hl : L.rs.length ≤ 2 := by unfold Lore.rs; rw [List.length_map]; exact ok.r2
  obtain ⟨-, hr⟩ := Bool.and_eq_true_iff.mp (show (L.rs.all nameOk && rises L.rs) = true from ok.rN)
  match h : L.rs, hl, hr with
  | [], _, _ => exact List.nodup_nil
  | [a], _, _ => exact List.pairwise_singleton ..
  | [a, b], _, hr =>
    have lt := of_decide_eq_true (rises_at (i := 0) hr rfl rfl)
    rw [List.nodup_cons]
    refine ⟨fun h => ?_, List.pairwise_singleton ..⟩
    rw [List.mem_singleton.mp h] at lt
    exact List.lt_irrefl _ lt
theorem ch_nodup {L : Lore} (ok : L.Ok) (c : Nat) : (chD L c).Nodup := by
  unfold chD
  split
  · exact nodup_map (fun a b h => by injection h) (rs_nodup ok)
  · exact ints_nodup _
theorem stands_nodup (L : Lore) : (standsD L).Nodup := prod_nodup _ _ rfl fun l hl => by
  unfold lotsD at hl
  rcases List.mem_append.mp hl with h | h
  · rw [(List.mem_replicate.mp h).2]; exact ints_nodup _
  · rw [(List.mem_replicate.mp h).2]; exact items_nodup L
theorem keys_nodup {L : Lore} (ok : L.Ok) (z : Str) : (keysD L z).Nodup := by
  refine nodup_flat (fun x => match x with | .tuple [.tuple a, .tuple b, _] => a ++ b | _ => []) _ (stands_nodup L) (fun s _ => ?_) (fun s _ x hx => ?_)
  · refine nodup_map (fun a b h => ?_) (nodup_map (fun a b h => by injection h) ?_)
    · injection h with h
      injection h with _ h
      injection h with _ h
      injection h
    · rw [vals_prod]
      exact prod_nodup _ _ rfl fun l hl => by
        obtain ⟨c, _, rfl⟩ := List.mem_map.mp hl
        exact ch_nodup ok c
  · obtain ⟨v, _, rfl⟩ := List.mem_map.mp hx
    exact List.take_append_drop ..
theorem nodup_at {α : Type} {l : List α} (h : l.Nodup) {i j : Nat} {a : α} (hi : l[i]? = some a) (hj : l[j]? = some a) : i = j := by
  obtain ⟨li, ei⟩ := List.getElem?_eq_some_iff.mp hi
  obtain ⟨lj, ej⟩ := List.getElem?_eq_some_iff.mp hj
  have p := List.pairwise_iff_getElem.mp h
  rcases Nat.lt_trichotomy i j with q | q | q
  · exact absurd (ei.trans ej.symm) (p i j li lj q)
  · exact q
  · exact absurd (ej.trans ei.symm) (p j i lj li q)
def keyAt (L : Lore) (z : Str) (i : Nat) : PyData := (keysD L z)[i]?.getD .none
theorem keyAt_inj {L : Lore} (ok : L.Ok) {z : Str} (hz : z.length ≤ 3) {i j : Nat} (hi : i < (keysD L z).length) (hj : j < (keysD L z).length) (h : nkn 4 (keyAt L z i) = nkn 4 (keyAt L z j)) : i = j := by
  have gi := List.getElem?_eq_getElem hi
  have gj := List.getElem?_eq_getElem hj
  unfold keyAt at h
  rw [gi, gj] at h
  obtain ⟨_, _, _, _, d1⟩ := key_at ok hz _ (List.getElem_mem hi)
  obtain ⟨_, _, _, _, d2⟩ := key_at ok hz _ (List.getElem_mem hj)
  have e := nkn_inj 4 _ _ d1 d2 h
  exact nodup_at (keys_nodup ok z) gi (by rw [gj, e])

end K65
set_option Elab.async false
set_option linter.all false
set_option maxRecDepth 100000
set_option maxHeartbeats 4400000
namespace K65
open PySem PySem.Spec PyProof.Rows L2 HX
open PySem.W (Frag)


def df (vw vk vt vd : V) : List (Str × V) := putF "_by_key" vd (putF "_table" vt (putF "_kinds" vk (putF "_world" vw [])))
def DAt (P : Program) (w : World) (K : Frag) (Cw Cd : Addr) (H : Hp) (x xw : Addr) (vt : V) (L : Lore) (z : Str) (ts : List PyData) : Prop := ∃ (dx d : Addr) (kvs : List (NestedKey × Addr × V)), H x = some (.ins Cd dx (df (.ref xw) (.str z) vt (.ref d))) ∧ WAt K Cw H xw L ∧ Tz H vt (.tuple (tabD L z ts)) ∧ H d = some (NDct P w d kvs) ∧ NkS H kvs ∧ kvs.length = (keysD L z).length ∧ ∀ i p, kvs[i]? = some p → p.1 = nkn 4 (keyAt L z i) ∧ ∃ t, ts[i]? = some t ∧ Tz H p.2.2 t
theorem DAt.ex {P : Program} {w : World} {K : Frag} {Cw Cd x xw : Addr} {vt : V} {H H' : Hp} {L : Lore} {z : Str} {ts : List PyData} (h : DAt P w K Cw Cd H x xw vt L z ts) (e : Ex H H') : DAt P w K Cw Cd H' x xw vt L z ts :=
  let ⟨dx, d, kvs, h1, h2, h3, h4, h5, h6, h7⟩ := h; ⟨dx, d, kvs, e _ _ h1, h2.ex e, h3.ex e, e _ _ h4, h5.te (Ex.te e), h6, fun i p q => let ⟨a, t, b, c⟩ := h7 i p q; ⟨a, t, b, c.ex e⟩⟩
theorem ndct_lst {P : Program} {w : World} {D : Addr} {kvs : List (NestedKey × Addr × V)} {zs : List V} : NDct P w D kvs ≠ .lst zs := by unfold NDct; intro z; cases z
theorem DAt.te {P : Program} {w : World} {K : Frag} {Cw Cd x xw p : Addr} {vt : V} {H H' : Hp} {L : Lore} {z : Str} {ts : List PyData} {zs : List V} (h : DAt P w K Cw Cd H x xw vt L z ts) (hp : H p = some (.lst zs)) (e : XB p H H') : DAt P w K Cw Cd H' x xw vt L z ts :=
  let ⟨dx, d, kvs, h1, h2, h3, h4, h5, h6, h7⟩ := h
  ⟨dx, d, kvs, e _ _ (ne_of h1 hp (by intro y; cases y)) h1, h2.te hp e, h3.te (e.te hp), e _ _ (ne_of h4 hp ndct_lst) h4, h5.te (e.te hp), h6, fun i q r => let ⟨a, t, b, c⟩ := h7 i q r; ⟨a, t, b, c.te (e.te hp)⟩⟩
def TabOk (L : Lore) (z : Str) (ts : List PyData) : Prop := L.Ok ∧ z.length ≤ 3 ∧ Few L z ∧ kindsOk (!L.rn.isEmpty) z = true ∧ ts.length = (keysD L z).length ∧ ∀ t ∈ ts, ToldOk L t
def spDinit (P : Program) (w : World) (K : Frag) (Cw Cd : Addr) : Sp := fun vs H Q _ => ∃ (x dx xw : Addr) (vt : V) (L : Lore) (z : Str) (ts : List PyData), vs = [.ref x, .ref xw, .str z, vt] ∧ H x = some (.ins Cd dx []) ∧ WAt K Cw H xw L ∧ TabOk L z ts ∧ Tz H vt (.tuple (tabD L z ts)) ∧ ∀ H', (∀ c o, c ≠ x → H c = some o → H' c = some o) → DAt P w K Cw Cd H' x xw vt L z ts → Q .non H'
def spDp (P : Program) (w : World) (K : Frag) (Cw Cd : Addr) (R : Addr → V → Str → V → Prop) : Sp := fun vs H Q _ => ∃ (x xw : Addr) (vt : V) (L : Lore) (z : Str) (ts : List PyData), vs = [.ref x] ∧ DAt P w K Cw Cd H x xw vt L z ts ∧ ∀ v, R xw vt z v → Q v H
theorem tab_at {L : Lore} {z : Str} {ts : List PyData} (hl : ts.length = (keysD L z).length) {i : Nat} {d : PyData} (h : (tabD L z ts)[i]? = some d) : ∃ k t, (keysD L z)[i]? = some k ∧ ts[i]? = some t ∧ d = rowD k t := by
  unfold tabD at h
  rw [List.getElem?_zipWith] at h
  cases hk : (keysD L z)[i]? with
  | none => rw [hk] at h; cases h
  | some k =>
    cases ht : ts[i]? with
    | none => rw [hk, ht] at h; cases h
    | some t => rw [hk, ht] at h; injection h with h; exact ⟨k, t, rfl, rfl, h.symm⟩
theorem tab_len {L : Lore} {z : Str} {ts : List PyData} (hl : ts.length = (keysD L z).length) : (tabD L z ts).length = (keysD L z).length := by unfold tabD; rw [List.length_zipWith, hl, Nat.min_self]

theorem df_world (vw vk vt vd : V) : (df vw vk vt vd).lookup ("_world" : Str) = some (vw) := by
  unfold df
  rw [lookup_putF, if_neg (by decide +kernel)]
  rw [lookup_putF, if_neg (by decide +kernel)]
  rw [lookup_putF, if_neg (by decide +kernel)]
  rw [lookup_putF, if_pos rfl]
theorem df_kinds (vw vk vt vd : V) : (df vw vk vt vd).lookup ("_kinds" : Str) = some (vk) := by
  unfold df
  rw [lookup_putF, if_neg (by decide +kernel)]
  rw [lookup_putF, if_neg (by decide +kernel)]
  rw [lookup_putF, if_pos rfl]
theorem df_table (vw vk vt vd : V) : (df vw vk vt vd).lookup ("_table" : Str) = some (vt) := by
  unfold df
  rw [lookup_putF, if_neg (by decide +kernel)]
  rw [lookup_putF, if_pos rfl]
theorem df_by_key (vw vk vt vd : V) : (df vw vk vt vd).lookup ("_by_key" : Str) = some (vd) := by
  unfold df
  rw [lookup_putF, if_pos rfl]
section
variable {P : Program} {w : World} {K : Frag} {mg : Str → Option Value} {base : Heap} {A : Ad}

theorem ok_Doing_init (T : Txt K mg A) : FnOk P w K mg base CX0 9 A.f_Doing_init A.d_Doing_init ["self", "world", "kinds", "table"] (spDinit P w K A.C_World A.C_Doing) := by
  refine T.F_Doing_init.ok sc_Doing_init (fun vs H Q E h => ?_) (fun cdv A0 outer s H vs Q E hr h => ?_)
  · obtain ⟨_, _, _, _, _, _, _, rfl, _⟩ := h
    rfl
  · have hu := hu_of hr
    obtain ⟨x, dx, xw, vt, L, z, ts, rfl, hx, hW, ⟨ok, hz, few, hk, lts, hts⟩, tv, k⟩ := h
    refine ⟨_, (pss_cons (ps_expr (pe_call (ok_check_kinds T) (hr.mono (by decide)) (by rfl) T.m_check_kinds T.F_check_kinds.kp T.b_check_kinds .nil pass0 (pa_cons (pv 1) (pa_cons (pv 2) (pa_cons (pe_glob (v := .int 4) (by rfl) T.c_MOST_LETTERS_doings.choose_spec ⟨_, rfl⟩) pa_nil)))))
      (pss_cons (ps_expr (pe_call (ok_check_few T) (hr.mono (by decide)) (by rfl) T.m_check_few T.F_check_few.kp T.b_check_few .nil pass0 (pa_cons (pv 1) (pa_cons (pv 2) pa_nil))))
      (pss_cons (ps_if (pt_not (pt_val (pe_call (ok_is_table T) (hr.mono (by decide)) (by rfl) T.m_is_table T.F_is_table.kp T.b_is_table .nil pass0 (pa_cons (pv 1) (pa_cons (pv 2) (pa_cons (pv 3) pa_nil)))))) (pss_one ps_never) pss_nil)
      (pss_cons (ps_fld (pv 0) (pv 1) rfl)
      (pss_cons (ps_fld (pv 0) (pv 2) rfl)
      (pss_cons (ps_fld (pv 0) (pv 3) rfl)
      (pss_one (ps_fld (pv 0) (pe_dcN (own := [("row", 4)]) (g := (gName 4)) (tt := tYes) hr.units rfl sc_Doing_init.nd (pi_tup (pv 3)) (blkOk_by (N := N_Doing_init) (sc := defScope s_Doing_init) (by decide +kernel)) (fun _ _ _ _ _ => pg_name (i := 4) sc_Doing_init.nd rfl (Or.inl rfl)) (fun _ _ _ _ _ => pts_nil) (fun _ _ _ _ _ => (pe_slice (sl_tupAK (K := K) rfl) (pv 4) po_none (po_some pe_int))) (fun _ _ _ _ _ => (pe_ix (ix_tupK (K := K) rfl) (pv 4) pe_int (fun _ _ => rfl)))) rfl)))))))), ?_⟩
    have fv := few_vals few
    have kl := keys_len L z
    have tl := tab_len lts
    refine ⟨_, rfl, _, rfl, xw, L, z, 4, rfl, hW, ok, by omega, by omega, hk, fun H1 e1 => ?_⟩
    refine ⟨_, rfl, _, rfl, xw, L, z, rfl, hW.ex e1, ok, hz, few, fun H2 e2 => ?_⟩
    have e12 := e1.tr e2
    refine ⟨_, rfl, _, rfl, _, rfl, xw, L, z, vt, ts, rfl, hW.ex e12, ok, hz, few, tv.ex e12, lts, hts, fun H3 e3 => ⟨true, rfl, HX.if_false rfl ?_⟩⟩
    have e13 := e12.tr e3
    have hx3 := e13 _ _ hx
    refine ⟨_, rfl, _, rfl, x, A.C_Doing, dx, _, rfl, hx3, T.cls_Doing, T.n_world, (by show 0 < 1000; decide), _, rfl, _, rfl, x, A.C_Doing, dx, _, rfl, upd_same, T.cls_Doing, T.n_kinds, (by show 1 < 1000; decide), _, rfl, _, rfl, x, A.C_Doing, dx, _, rfl, upd_same, T.cls_Doing, T.n_table, (by show 2 < 1000; decide), ?_⟩
    simp only [upd_upd]
    obtain ⟨G, EG⟩ : ∃ y, y = upd H3 x (.ins A.C_Doing dx (putF "_table" vt (putF "_kinds" (.str z) (putF "_world" (.ref xw) [])))) := ⟨_, rfl⟩
    rw [← EG]
    have hxG : G x = some (.ins A.C_Doing dx (putF "_table" vt (putF "_kinds" (.str z) (putF "_world" (.ref xw) [])))) := by rw [EG]; exact upd_same
    have oG : ∀ c o, c ≠ x → H c = some o → G c = some o := fun c o n e => by rw [EG, upd_ne n]; exact e13 _ _ e
    have tG : TupK H G := fun a xs ha => oG _ _ (ne_of ha hx (by intro y; cases y)) ha
    obtain ⟨a, xs, rfl, ha, hxs⟩ := (tv.te tG).tupI
    have lx := hxs.1
    refine ⟨_, rfl, a, rfl, ⟨_, SqT.of ha⟩, fun D nD => dn_it (walk_tup (xs := xs)) (fun i => nkn 4 (keyAt L z i)) (fun i v => ∃ b u1 u2 u3, xs[i]? = some (.ref b) ∧ G b = some (.tup [u1, u2, u3, v])) (Nat.lt_of_le_of_lt (show xs.length ≤ 900 by omega) (by decide)) (fun i j hi hj q => keyAt_inj ok hz (by omega) (by omega) q) (fun i _ => Nat.le_trans (nkn_depth 4 _) (by decide)) nD (fun H' e => SqT.of (e _ _ ha)) (fun i y H4 H5 Kq hi e yy kq => ?_) (fun H4 kvs e4 hD hns hlen hall => ?_)⟩
    · obtain ⟨rfl, hy⟩ := yy
      obtain ⟨rd, hrd, tr⟩ := hxs.gotV hy
      obtain ⟨kd, t, hkd, ht, rfl⟩ := tab_at lts hrd
      obtain ⟨p, q, r, rfl, hdp⟩ := key_at ok hz kd (List.mem_of_getElem? hkd)
      obtain ⟨b, us, rfl, hb, hus⟩ := (show Tz G y (.tuple [p, q, r, t]) from tr).tupI
      obtain ⟨w0, r0, rfl, t0, hr0⟩ := id hus.consI
      obtain ⟨w1, r1, rfl, t1', hr1⟩ := hr0.consI
      obtain ⟨w2, r2, rfl, t2, hr2⟩ := hr1.consI
      obtain ⟨w3, r3, rfl, tt, hr3⟩ := hr2.consI
      obtain rfl := hr3.nilI
      refine ⟨rfl, _, rfl, _, rfl, slTo (n := 3) (e _ _ hb) (hus.ex e) fun v1 H6 e6 t1 => ?_⟩
      obtain ⟨av, as, rfl, hav, has⟩ := t1.tupI
      refine ⟨_, rfl, b, _, 3, w3, rfl, rfl, SqT.of (e6 _ _ (e _ _ hb)), rfl, kq _ _ _ e6 ?_ ⟨b, w0, w1, w2, hy, hb⟩⟩
      have ek : keyAt L z i = .tuple [p, q, r] := by unfold keyAt; rw [hkd]; rfl
      rw [ek]
      exact nk_of 4 _ _ hdp (has.tup hav)
    refine ⟨_, rfl, x, A.C_Doing, dx, _, rfl, e4 _ _ hxG, T.cls_Doing, T.n_by_key, (by show 3 < 1000; decide), ?_⟩
    have nDx : D ≠ x := fun y => by rw [y, e4 _ _ hxG] at hD; injection hD with hD; unfold NDct at hD; cases hD
    have oA : ∀ c o, c ≠ x → H c = some o → (upd H4 x (.ins A.C_Doing dx (df (.ref xw) (.str z) (.ref a) (.ref D)))) c = some o := fun c o n e => by rw [upd_ne n]; exact e4 _ _ (oG _ _ n e)
    have oB : ∀ c o, c ≠ x → G c = some o → (upd H4 x (.ins A.C_Doing dx (df (.ref xw) (.str z) (.ref a) (.ref D)))) c = some o := fun c o n e => by rw [upd_ne n]; exact e4 _ _ e
    have tB : TupK G (upd H4 x (.ins A.C_Doing dx (df (.ref xw) (.str z) (.ref a) (.ref D)))) := fun c zs hc => oB _ _ (ne_of hc hxG (by intro y; cases y)) hc
    have tC : ∀ c zs, H4 c = some (.tup zs) → (upd H4 x (.ins A.C_Doing dx (df (.ref xw) (.str z) (.ref a) (.ref D)))) c = some (.tup zs) := fun c zs hc => by rw [upd_ne (ne_of hc (e4 _ _ hxG) (by intro y; cases y))]; exact hc
    refine k _ oA ⟨dx, D, kvs, upd_same, ?_, hxs.te tB |>.tup (tB _ _ ha), by rw [upd_ne nDx]; exact hD, hns.te tC, by omega, fun i q hq => ?_⟩
    · obtain ⟨dw, vc, vr, vl, d, e, ks, g1, g2, g3, g4, g5⟩ := hW
      have tA : TupK H (upd H4 x (.ins A.C_Doing dx (df (.ref xw) (.str z) (.ref a) (.ref D)))) := fun c zs hc => oA _ _ (ne_of hc hx (by intro y; cases y)) hc
      have nx : xw ≠ x := fun y => by
        rw [y, hx] at g1
        injection g1 with g1
        injection g1 with _ _ g1
        have q := wf_size L.sz L.mo vc vr vl (.ref d) (.ref e)
        rw [← g1] at q
        cases q
      exact ⟨dw, vc, vr, vl, d, e, ks, oA _ _ nx g1, g2.te tA, g3.te tA, g4.te tA, oA _ _ (ne_of g5 hx (by intro y; cases y)) g5⟩
    · obtain ⟨h1, b, u1, u2, u3, h2, h3⟩ := hall i q hq
      obtain ⟨rd, hrd, tr⟩ := hxs.gotV h2
      obtain ⟨kd, t, hkd, ht, rfl⟩ := tab_at lts hrd
      obtain ⟨p, q', r, rfl, hdp⟩ := key_at ok hz kd (List.mem_of_getElem? hkd)
      obtain ⟨b', us, eb, hb, hus⟩ := (show Tz G (.ref b) (.tuple [p, q', r, t]) from tr).tupI
      injection eb with eb
      subst eb
      rw [h3] at hb
      injection hb with hb
      injection hb with hb
      subst hb
      exact ⟨h1, t, ht, (hus.2 3 _ _ rfl rfl).te tB⟩
theorem ok_Doing_world (T : Txt K mg A) : FnOk P w K mg base CX0 1 A.f_Doing_world A.d_Doing_world ["self"] (spDp P w K A.C_World A.C_Doing (fun xw vt z v => v = .ref xw)) := by
  refine T.F_Doing_world.ok sc_Doing_world (fun vs H Q E h => ?_) (fun cdv A0 outer s H vs Q E hr h => ?_)
  · obtain ⟨_, _, _, _, _, _, rfl, _⟩ := h
    rfl
  · have hu := hu_of hr
    obtain ⟨x, xw, vt, L, z, ts, rfl, hD, k⟩ := h
    refine ⟨_, (pss_one (ps_ret (pe_fld (pv 0) rfl))), ?_⟩
    obtain ⟨dx, d, kvs, h1, h2, h3, h4, h5, h6, h7⟩ := id hD
    exact ⟨_, rfl, x, A.C_Doing, dx, _, _, rfl, h1, T.cls_Doing, T.n_world, df_world _ _ _ _, k _ rfl⟩
theorem ok_Doing_kinds (T : Txt K mg A) : FnOk P w K mg base CX0 1 A.f_Doing_kinds A.d_Doing_kinds ["self"] (spDp P w K A.C_World A.C_Doing (fun xw vt z v => v = .str z)) := by
  refine T.F_Doing_kinds.ok sc_Doing_kinds (fun vs H Q E h => ?_) (fun cdv A0 outer s H vs Q E hr h => ?_)
  · obtain ⟨_, _, _, _, _, _, rfl, _⟩ := h
    rfl
  · have hu := hu_of hr
    obtain ⟨x, xw, vt, L, z, ts, rfl, hD, k⟩ := h
    refine ⟨_, (pss_one (ps_ret (pe_fld (pv 0) rfl))), ?_⟩
    obtain ⟨dx, d, kvs, h1, h2, h3, h4, h5, h6, h7⟩ := id hD
    exact ⟨_, rfl, x, A.C_Doing, dx, _, _, rfl, h1, T.cls_Doing, T.n_kinds, df_kinds _ _ _ _, k _ rfl⟩
theorem ok_Doing_table (T : Txt K mg A) : FnOk P w K mg base CX0 1 A.f_Doing_table A.d_Doing_table ["self"] (spDp P w K A.C_World A.C_Doing (fun xw vt z v => v = vt)) := by
  refine T.F_Doing_table.ok sc_Doing_table (fun vs H Q E h => ?_) (fun cdv A0 outer s H vs Q E hr h => ?_)
  · obtain ⟨_, _, _, _, _, _, rfl, _⟩ := h
    rfl
  · have hu := hu_of hr
    obtain ⟨x, xw, vt, L, z, ts, rfl, hD, k⟩ := h
    refine ⟨_, (pss_one (ps_ret (pe_fld (pv 0) rfl))), ?_⟩
    obtain ⟨dx, d, kvs, h1, h2, h3, h4, h5, h6, h7⟩ := id hD
    exact ⟨_, rfl, x, A.C_Doing, dx, _, _, rfl, h1, T.cls_Doing, T.n_table, df_table _ _ _ _, k _ rfl⟩
end
end K65
set_option Elab.async false
set_option linter.all false
set_option maxRecDepth 100000
set_option maxHeartbeats 4400000
namespace K65
open PySem PySem.Spec PyProof.Rows L2 HX
open PySem.W (Frag)

theorem abc_small : (abc.cps.toList.all fun c => decide (97 ≤ c) && decide (c ≤ 122)) = true := by decide +kernel
theorem name_letters {z : Str} (h : nameOk z = true) : letters z = true ∧ z.cps.size ≤ 8 := by
  unfold nameOk at h
  simp only [Bool.and_eq_true, decide_eq_true_eq] at h
  exact ⟨List.all_eq_true.mpr fun c hc => List.all_eq_true.mp abc_small c (of_decide_eq_true (List.all_eq_true.mp h.2.2 c hc)), h.2.1⟩

theorem dpAll_of {K : Frag} {H : Hp} : ∀ {xs : List V} {ds : List PyData}, xs.length = ds.length → (∀ (i : Nat) (v : V) (d : PyData), xs[i]? = some v → ds[i]? = some d → Dp K H v d) → DpAll K H xs ds
  | [], [], _, _ => .nil
  | [], _ :: _, h, _ => by simp at h
  | _ :: _, [], h, _ => by simp at h
  | v :: xs, d :: ds, h, g => .cons (g 0 v d rfl rfl) (dpAll_of (by simpa using h) fun i v d a b => g (i + 1) v d (by simpa using a) (by simpa using b))
theorem tz_dp {K : Frag} {H : Hp} {v : V} {d : PyData} (h : Tz H v d) : Dp K H v d := by
  induction h with
  | non => exact .non
  | int i => exact .int i
  | str z => exact .str z
  | tup h hl _ ih => exact .tup (SqT.of h) (dpAll_of hl ih)
def loD (L : Lore) : PyData := .tuple (L.lo.map PyData.str)
theorem nm_dp {K : Frag} {H : Hp} {v : V} {ss : List Str} (h : NmT K H v ss) : Dp K H v (.tuple (ss.map PyData.str)) := by
  obtain ⟨a, rfl, hs⟩ := h.sq
  refine .tup hs (dpAll_of (by rw [List.length_map, List.length_map]) fun i v d a b => ?_)
  rw [List.getElem?_map] at a b
  cases hq : ss[i]? with
  | none => rw [hq] at a; cases a
  | some z => rw [hq] at a b; cases a; cases b; exact .str z
theorem depthAll_le {n : Nat} : ∀ {ds : List PyData}, (∀ d ∈ ds, d.depth ≤ n) → PyData.depthAll ds ≤ n
  | [], _ => Nat.zero_le _
  | d :: r, h => by
    show max d.depth (PyData.depthAll r) ≤ n
    exact Nat.max_le.mpr ⟨h d (.head _), depthAll_le fun x hx => h x (.tail _ hx)⟩
theorem tup_depth {n : Nat} {ds : List PyData} (h : ∀ d ∈ ds, d.depth ≤ n) : (PyData.tuple ds).depth ≤ n + 1 := Nat.succ_le_succ (depthAll_le h)
theorem shaped_of {d : PyData} (h : plainN d = true) (n : Nat) (hd : d.depth ≤ n) (hn : n ≤ 64) : SeqAt.shaped d = true := by
  show (d.canLay0 && decide (d.depth ≤ 64)) = true
  rw [lay_plainN d h, decide_eq_true (Nat.le_trans hd hn)]; rfl
/-- plain and not deep -/
def Pn (n : Nat) (d : PyData) : Prop := plainN d = true ∧ d.depth ≤ n
theorem Pn.up {n m : Nat} {d : PyData} (h : Pn n d) (e : n ≤ m) : Pn m d := ⟨h.1, Nat.le_trans h.2 e⟩
theorem Pn.sh {n : Nat} {d : PyData} (h : Pn n d) (hn : n ≤ 64) : SeqAt.shaped d = true := shaped_of h.1 n h.2 hn
theorem pn_tup {n : Nat} {ds : List PyData} (h : ∀ d ∈ ds, Pn n d) : Pn (n + 1) (.tuple ds) := ⟨plainNs_of fun d hd => (h d hd).1, tup_depth fun d hd => (h d hd).2⟩
theorem pn_int {n : Nat} {i : Int} (h0 : 0 ≤ i) (h9 : i ≤ 9) : Pn n (.int i) := ⟨by show (decide (0 ≤ i) && decide (i ≤ 9)) = true; rw [decide_eq_true h0, decide_eq_true h9]; rfl, Nat.zero_le _⟩
theorem pn_name {n : Nat} {z : Str} (h : nameOk z = true) : Pn n (.str z) := ⟨(name_letters h).1, Nat.zero_le _⟩
theorem pn_non {n : Nat} : Pn n .none := ⟨rfl, Nat.zero_le _⟩
theorem pn_pair {n : Nat} {a b : PyData} (h : Pn n a) (k : Pn n b) : Pn (n + 1) (.tuple [a, b]) := pn_tup fun d hd => by
  rcases List.mem_cons.mp hd with rfl | hd
  · exact h
  · rw [List.mem_singleton.mp hd]; exact k
theorem okN_mem {ss : List Str} (h : okN ss = true) : ∀ z ∈ ss, nameOk z = true := fun z hz => List.all_eq_true.mp (Bool.and_eq_true_iff.mp (show (ss.all nameOk && rises ss) = true from h)).1 z hz
theorem pn_it {n : Int} (hn : n < 5) {is : List Int} (h : ∀ i ∈ is, 0 ≤ i ∧ i < n) : Pn 1 (itD is) := pn_tup fun d hd => by
  obtain ⟨i, hi, rfl⟩ := List.mem_map.mp hd
  have := h i hi
  exact pn_int this.1 (by omega)
theorem pn_cD {L : Lore} (ok : L.Ok) : Pn 3 L.cD := pn_tup fun d hd => by
  obtain ⟨c, hc, rfl⟩ := List.mem_map.mp hd
  have := ok.cw c hc
  have := ok.s1
  exact (pn_pair (n := 1) (pn_name (okN_mem ok.cN c.1 (List.mem_map.mpr ⟨c, hc, rfl⟩))) (pn_int (by omega) (by omega)) : Pn 2 (.tuple [.str c.1, .int c.2]))
theorem pn_rD {L : Lore} (ok : L.Ok) : Pn 3 L.rD := pn_tup fun d hd => by
  obtain ⟨r, hr, rfl⟩ := List.mem_map.mp hd
  exact (pn_pair (n := 1) (pn_name (okN_mem ok.rN r.1 (List.mem_map.mpr ⟨r, hr, rfl⟩))) (pn_it ok.s1 (ok.rw_ r hr).2) : Pn 2 (.tuple [.str r.1, itD r.2]))
theorem pn_loD {L : Lore} (ok : L.Ok) : Pn 1 (loD L) := pn_tup fun d hd => by
  obtain ⟨z, hz, rfl⟩ := List.mem_map.mp hd
  exact pn_name (okN_mem ok.lN z hz)
def wSame (L M : Lore) : Bool := (decide (L.sz = M.sz) && (decide (L.mo = M.mo) && PyData.eqv (loD L) (loD M))) && (PyData.eqv L.cD M.cD && PyData.eqv L.rD M.rD)
theorem wSame_self {L : Lore} (ok : L.Ok) : wSame L L = true := by
  unfold wSame
  rw [decide_eq_true rfl, decide_eq_true rfl, (eqv_plainN _ _ (pn_loD ok).1 (pn_loD ok).1).mpr rfl, (eqv_plainN _ _ (pn_cD ok).1 (pn_cD ok).1).mpr rfl, (eqv_plainN _ _ (pn_rD ok).1 (pn_rD ok).1).mpr rfl]; rfl
def spWeq (K : Frag) (C : Addr) : Sp := fun vs H Q _ => ∃ (x y : Addr) (L M : Lore), vs = [.ref x, .ref y] ∧ WAt K C H x L ∧ WAt K C H y M ∧ L.Ok ∧ M.Ok ∧ Q (.bl (wSame L M)) H
theorem kit_selfW {K : PySem.W.Frag} {t : Value} : PySem.W.kitOne K t t = some true := if_pos (beq_iff_eq.mpr rfl)
theorem dec_intV (i j : Int) : decide (V.int i = V.int j) = decide (i = j) := by rw [decide_eq_decide]; exact ⟨fun h => by injection h, fun h => by rw [h]⟩

section
variable {P : Program} {w : World} {K : Frag} {mg : Str → Option Value} {base : Heap} {A : Ad}

theorem ty_world (T : Txt K mg A) {H : Hp} {x dx : Addr} {fs : List (Str × V)} (e : H x = some (.ins A.C_World dx fs)) : TyX K H (.ref x) (.ref A.C_World) := .base (.ins e T.cls_World T.kcl T.kgs T.ktk T.kob)
theorem ty_doing (T : Txt K mg A) {H : Hp} {x dx : Addr} {fs : List (Str × V)} (e : H x = some (.ins A.C_Doing dx fs)) : TyX K H (.ref x) (.ref A.C_Doing) := .base (.ins e T.cls_Doing T.kclD T.kgs T.ktk T.kobD)
theorem ok_World_eq (T : Txt K mg A) : FnOk P w K mg base CX0 3 A.f_World_eq A.d_World_eq ["self", "other"] (spWeq K A.C_World) := by
  refine T.F_World_eq.ok sc_World_eq (fun vs H Q E h => ?_) (fun cdv A0 outer s H vs Q E hr h => ?_)
  · obtain ⟨_, _, _, _, rfl, _⟩ := h
    rfl
  · have hu := hu_of hr
    obtain ⟨x, y, L, M, rfl, hL, hM, okL, okM, k⟩ := h
    refine ⟨_, (pss_cons (ps_if (pt_not (pt_val (pe_callB call_isi (by rfl) T.g_isinstance (by decide +kernel) (pa_cons (pv 1) (pa_cons (pe_glob (v := .ref A.C_World) (by rfl) T.m_World rfl) pa_nil))))) (pss_one (ps_ret pe_bl)) pss_nil)
      (pss_cons (ps_if (PW.pt (pw_or (pt_cmpR op_ne (pe_fld (pv 0) rfl) (pe_prop (pv 1) T.cls_World T.P_size (ok_World_size T) (hr.mono (by decide)) T.b_World_size .nil pass0 rfl) (nomark _)) (pw_or (pt_cmpR op_ne (pe_fld (pv 0) rfl) (pe_prop (pv 1) T.cls_World T.P_most (ok_World_most T) (hr.mono (by decide)) T.b_World_most .nil pass0 rfl) (nomark _)) (pw_or1 (pt_cmpR (op_neD hr.units) (pe_fld (pv 0) rfl) (pe_prop (pv 1) T.cls_World T.P_loose (ok_World_loose T) (hr.mono (by decide)) T.b_World_loose .nil pass0 rfl) (nomark _)))))) (pss_one (ps_ret pe_bl)) pss_nil)
      (pss_one (ps_ret (pe_and (pe_cmpR (op_eqD hr.units) (pe_fld (pv 0) rfl) (pe_prop (pv 1) T.cls_World T.P_cells (ok_World_cells T) (hr.mono (by decide)) T.b_World_cells .nil pass0 rfl) (nomark _)) (pe_one (pe_cmpR (op_eqD hr.units) (pe_fld (pv 0) rfl) (pe_prop (pv 1) T.cls_World T.P_rows (ok_World_rows T) (hr.mono (by decide)) T.b_World_rows .nil pass0 rfl) (nomark _)))))))), ?_⟩
    obtain ⟨dx, vc, vr, vl, d, e, kvs, hx, q3, q4, q5, h5⟩ := id hL
    obtain ⟨dy, wc, wr, wl, d', e', kvs', hy, _⟩ := id hM
    refine ⟨_, rfl, _, _, _, _, _, rfl, .own _, ty_world T hy, kit_selfW, _, rfl, HX.if_false rfl ?_⟩
    unfold wSame at k
    refine ⟨_, rfl, x, A.C_World, dx, _, _, rfl, hx, T.cls_World, T.n_size, wf_size _ _ _ _ _ _ _, _, rfl, y, dy, _, rfl, hy, y, M, rfl, hM, fun v hv => ?_⟩
    subst hv
    refine ⟨rfl, _, rfl, ?_⟩
    rw [dec_intV]
    by_cases c1 : L.sz = M.sz
    rotate_left
    · rw [decide_eq_false c1, Bool.false_and, Bool.false_and] at k
      exact HX.if_true (by rw [decide_eq_false c1]; rfl) k
    rw [decide_eq_true c1, Bool.true_and] at k
    refine HX.if_false (by rw [decide_eq_true c1]; rfl) ?_
    refine ⟨_, rfl, x, A.C_World, dx, _, _, rfl, hx, T.cls_World, T.n_most, wf_most _ _ _ _ _ _ _, _, rfl, y, dy, _, rfl, hy, y, M, rfl, hM, fun v hv => ?_⟩
    subst hv
    refine ⟨rfl, _, rfl, ?_⟩
    rw [dec_intV]
    by_cases c2 : L.mo = M.mo
    rotate_left
    · rw [decide_eq_false c2, Bool.false_and, Bool.false_and] at k
      exact HX.if_true (by rw [decide_eq_false c2]; rfl) k
    rw [decide_eq_true c2, Bool.true_and] at k
    refine HX.if_false (by rw [decide_eq_true c2]; rfl) ?_
    refine ⟨_, rfl, x, A.C_World, dx, _, _, rfl, hx, T.cls_World, T.n_loose, wf_loose _ _ _ _ _ _ _, _, rfl, y, dy, _, rfl, hy, y, M, rfl, hM, fun v hv => ?_⟩
    refine ⟨loD L, loD M, nm_dp q5, nm_dp hv, (pn_loD okL).sh (by decide), (pn_loD okM).sh (by decide), _, rfl, ?_⟩
    by_cases c3 : PyData.eqv (loD L) (loD M) = true
    rotate_left
    · rw [Bool.eq_false_iff.mpr c3, Bool.false_and] at k
      exact HX.if_true (by rw [Bool.eq_false_iff.mpr c3]; rfl) k
    rw [c3, Bool.true_and] at k
    refine HX.if_false (by rw [c3]; rfl) ?_
    refine ⟨_, rfl, x, A.C_World, dx, _, _, rfl, hx, T.cls_World, T.n_cells, wf_cells _ _ _ _ _ _ _, _, rfl, y, dy, _, rfl, hy, y, M, rfl, hM, fun v hv => ?_⟩
    refine ⟨L.cD, M.cD, tz_dp q3, tz_dp hv, (pn_cD okL).sh (by decide), (pn_cD okM).sh (by decide), _, rfl, ?_⟩
    by_cases c4 : PyData.eqv L.cD M.cD = true
    · rw [c4, Bool.true_and] at k
      refine HX.if_true c4 ?_
      refine ⟨_, rfl, x, A.C_World, dx, _, _, rfl, hx, T.cls_World, T.n_rows, wf_rows _ _ _ _ _ _ _, _, rfl, y, dy, _, rfl, hy, y, M, rfl, hM, fun v hv => ?_⟩
      exact ⟨L.rD, M.rD, tz_dp q4, tz_dp hv, (pn_rD okL).sh (by decide), (pn_rD okM).sh (by decide), k⟩
    · rw [Bool.eq_false_iff.mpr c4, Bool.false_and] at k
      exact HX.if_false (Bool.eq_false_iff.mpr c4) k
end
end K65
set_option Elab.async false
set_option linter.all false
set_option maxRecDepth 100000
set_option maxHeartbeats 4400000
namespace K65
open PySem PySem.Spec PyProof.Rows L2 HX
open PySem.W (Frag)


theorem pn_ints {L : Lore} (ok : L.Ok) : ∀ d ∈ intsD L.sz, Pn 0 d := fun d hd => by
  obtain ⟨i, hi, rfl⟩ := List.mem_map.mp hd
  have := List.mem_range.mp hi
  have := ok.s1
  exact pn_int (by omega) (by omega)
theorem pn_items {L : Lore} (ok : L.Ok) : ∀ d ∈ itemsD L, Pn 1 d := fun d hd => by
  have s1 := ok.s1
  unfold itemsD itemsTo at hd
  rcases List.mem_cons.mp hd with rfl | hd
  · exact pn_tup (fun d h => by simp at h)
  · obtain ⟨i, hi, hd⟩ := List.mem_flatMap.mp hd
    have hi := List.mem_range.mp hi
    unfold rowOf at hd
    rcases List.mem_cons.mp hd with rfl | hd
    · exact pn_tup (fun d h => by rw [List.mem_singleton.mp h]; exact pn_int (by omega) (by omega))
    · split at hd
      · obtain ⟨c, hc, rfl⟩ := List.mem_map.mp hd
        exact pn_pair (pn_int (by omega) (by omega)) (pn_ints ok c hc)
      · simp at hd
theorem pn_stand {L : Lore} (ok : L.Ok) : ∀ s ∈ standsD L, ∀ d ∈ s, Pn 1 d := fun s hs d hd => by
  obtain ⟨ch, h1, h2⟩ := prodD_mem _ _ rfl s hs d hd
  unfold lotsD at h1
  rcases List.mem_append.mp h1 with h1 | h1
  · rw [(List.mem_replicate.mp h1).2] at h2; exact (pn_ints ok d h2).up (by decide)
  · rw [(List.mem_replicate.mp h1).2] at h2; exact pn_items ok d h2
theorem pn_ch {L : Lore} (ok : L.Ok) (c : Nat) : ∀ d ∈ chD L c, Pn 0 d := fun d hd => by
  unfold chD at hd
  split at hd
  · obtain ⟨z, hz, rfl⟩ := List.mem_map.mp hd
    exact pn_name (okN_mem ok.rN z hz)
  · exact pn_ints ok d hd
theorem pn_key3 {L : Lore} (ok : L.Ok) {z : Str} : ∀ k ∈ keysD L z, ∃ p q r, k = .tuple [p, q, r] ∧ Pn 2 p ∧ Pn 2 q ∧ Pn 2 r := fun k hk => by
  unfold keysD at hk
  obtain ⟨s, hs, hk⟩ := List.mem_flatMap.mp hk
  obtain ⟨v, hv, rfl⟩ := List.mem_map.mp hk
  obtain ⟨u, hu, rfl⟩ := List.mem_map.mp hv
  refine ⟨_, _, _, rfl, pn_tup fun d hd => pn_stand ok s hs d (List.mem_of_mem_take hd), pn_tup fun d hd => pn_stand ok s hs d (List.mem_of_mem_drop hd), pn_tup fun d hd => ?_⟩
  rw [vals_prod] at hu
  obtain ⟨ch, h1, h2⟩ := prodD_mem _ _ rfl u hu d hd
  obtain ⟨c, _, rfl⟩ := List.mem_map.mp h1
  exact (pn_ch ok c d h2).up (by decide)
theorem pn_end {L : Lore} (ok : L.Ok) {d : PyData} (h : EndOk L d) : Pn 2 d := by
  have s1 := ok.s1
  obtain ⟨i, rfl, h0, h1⟩ | ⟨ss, rfl, -, -, hn⟩ := h
  · exact (pn_pair (n := 0) ⟨by decide +kernel, Nat.zero_le _⟩ (pn_int h0 (by omega))).up (by decide)
  · exact pn_pair (n := 1) ⟨by decide +kernel, Nat.zero_le _⟩ (pn_tup fun d hd => by
      obtain ⟨z, hz, rfl⟩ := List.mem_map.mp hd
      exact pn_name (hn z hz))
theorem pn_st {L : Lore} (ok : L.Ok) {a b : PyData} (h : StOk L a b) : Pn 2 a ∧ Pn 2 b := by
  have s1 := ok.s1
  obtain ⟨ns, rs, rfl, rfl, -, -, bn, br⟩ := h
  refine ⟨(pn_tup (n := 0) fun d hd => ?_).up (by decide), pn_tup fun d hd => ?_⟩
  · obtain ⟨i, hi, rfl⟩ := List.mem_map.mp hd
    have := bn i hi
    exact pn_int this.1 (by omega)
  · obtain ⟨r, hr, rfl⟩ := List.mem_map.mp hd
    exact pn_it s1 (br r hr).2
theorem pn_list3 {n : Nat} {p q r : PyData} (h1 : Pn n p) (h2 : Pn n q) (h3 : Pn n r) : ∀ d ∈ [p, q, r], Pn n d := fun d hd => by
  simp only [List.mem_cons, List.not_mem_nil, or_false] at hd
  rcases hd with rfl | rfl | rfl <;> assumption
theorem pn_told {L : Lore} (ok : L.Ok) {d : PyData} (h : ToldOk L d) : Pn 3 d := by
  obtain rfl | ⟨e, a, b, rfl, he, hs⟩ := h
  · exact pn_non
  · exact pn_tup (pn_list3 (pn_end ok he) (pn_st ok hs).1 (pn_st ok hs).2)
theorem pn_row {L : Lore} (ok : L.Ok) {z : Str} {k t : PyData} (hk : k ∈ keysD L z) (ht : ToldOk L t) : Pn 4 (rowD k t) := by
  obtain ⟨p, q, r, rfl, h1, h2, h3⟩ := pn_key3 ok k hk
  refine (pn_tup fun d hd => ?_ : Pn 4 (.tuple [p, q, r, t]))
  simp only [List.mem_cons, List.not_mem_nil, or_false] at hd
  rcases hd with rfl | rfl | rfl | rfl
  · exact h1.up (by decide)
  · exact h2.up (by decide)
  · exact h3.up (by decide)
  · exact pn_told ok ht
theorem pn_tab {L : Lore} (ok : L.Ok) {z : Str} {ts : List PyData} (hl : ts.length = (keysD L z).length) (ht : ∀ t ∈ ts, ToldOk L t) : Pn 5 (.tuple (tabD L z ts)) := pn_tup fun d hd => by
  obtain ⟨i, hi⟩ := List.mem_iff_getElem?.mp hd
  obtain ⟨k, t, hk, h2, rfl⟩ := tab_at hl hi
  exact pn_row ok (List.mem_of_getElem? hk) (ht t (List.mem_of_getElem? h2))
theorem pn_key {L : Lore} (ok : L.Ok) {z : Str} {k : PyData} (hk : k ∈ keysD L z) : Pn 3 k := by
  obtain ⟨p, q, r, rfl, h1, h2, h3⟩ := pn_key3 ok k hk
  exact pn_tup (pn_list3 h1 h2 h3)
/-- what the two tables tell at a place, the same or not -/
def nb (ts us : List PyData) (i : Nat) : Bool := !PyData.eqv (ts[i]?.getD .none) (us[i]?.getD .none)
def someD : PyData → Bool | .none => false | _ => true
def partD (L : Lore) (z : Str) (ts us : List PyData) : PyData := (ftD (nb ts us) (keyAt L z) (keysD L z).length).headD .none
def beyL (L : Lore) (z : Str) (ts us : List PyData) : List PyData := ftD (fun i => nb ts us i && someD (ts[i]?.getD .none)) (keyAt L z) (keysD L z).length
def beyD (L : Lore) (z : Str) (ts us : List PyData) : PyData := (beyL L z ts us).headD .none
def spFirst : Sp := fun vs H Q _ => ∃ (l : Addr) (xs : List V) (ds : List PyData), vs = [.ref l] ∧ H l = some (.lst xs) ∧ TzL H xs ds ∧ ∀ v, Tz H v (ds.headD .none) → Q v H
def spPart (P : Program) (w : World) (K : Frag) (Cw Cd : Addr) (R : Lore → Str → List PyData → List PyData → PyData) : Sp := fun vs H Q _ => ∃ (x xw : Addr) (vt : V) (y yw : Addr) (vu : V) (L M : Lore) (z : Str) (ts us : List PyData), vs = [.ref x, .ref y] ∧ DAt P w K Cw Cd H x xw vt L z ts ∧ DAt P w K Cw Cd H y yw vu M z us ∧ keysD L z = keysD M z ∧ TabOk L z ts ∧ TabOk M z us ∧ ∀ v H', Ex H H' → Tz H' v (R L z ts us) → Q v H'
/-- a row of a table -/
theorem row_of {H : Hp} {y : V} {L : Lore} (ok : L.Ok) {z : Str} (hz : z.length ≤ 3) {k t : PyData} (hk : k ∈ keysD L z) (h : Tz H y (rowD k t)) : ∃ b w0 w1 w2 w3, y = .ref b ∧ H b = some (.tup [w0, w1, w2, w3]) ∧ Tz H w3 t ∧ ∃ p q r, k = .tuple [p, q, r] ∧ TzL H [w0, w1, w2, w3] [p, q, r, t] := by
  obtain ⟨p, q, r, rfl, hdp⟩ := key_at ok hz k hk
  obtain ⟨b, us, rfl, hb, hus⟩ := (show Tz H y (.tuple [p, q, r, t]) from h).tupI
  obtain ⟨w0, r0, rfl, t0, hr0⟩ := id hus.consI
  obtain ⟨w1, r1, rfl, t1', hr1⟩ := hr0.consI
  obtain ⟨w2, r2, rfl, t2, hr2⟩ := hr1.consI
  obtain ⟨w3, r3, rfl, tt, hr3⟩ := hr2.consI
  obtain rfl := hr3.nilI
  exact ⟨b, w0, w1, w2, w3, rfl, hb, tt, p, q, r, rfl, hus⟩

section
variable {P : Program} {w : World} {K : Frag} {mg : Str → Option Value} {base : Heap} {A : Ad}

theorem ok_first_key (T : Txt K mg A) : FnOk P w K mg base CX0 1 A.f_first_key A.d_first_key ["found"] (spFirst) := by
  refine T.F_first_key.ok sc_first_key (fun vs H Q E h => ?_) (fun cdv A0 outer s H vs Q E hr h => ?_)
  · obtain ⟨_, _, _, rfl, _⟩ := h
    rfl
  · have hu := hu_of hr
    obtain ⟨l, xs, ds, rfl, hl, hx, k⟩ := h
    refine ⟨_, (pss_one (ps_ret (pe_ifExp (pt_truth (pv 0) (fun _ => rfl)) (pe_ix ix_list (pv 0) pe_int (fun _ _ => rfl)) pe_non))), ?_⟩
    cases xs with
    | nil =>
      have : ds = [] := List.eq_nil_of_length_eq_zero hx.1.symm
      subst this
      exact ⟨_, rfl, false, .inl ⟨[], SqL.of hl, rfl⟩, iteF (k _ .non)⟩
    | cons x r =>
      cases ds with
      | nil => cases hx.1
      | cons d s => exact ⟨_, rfl, true, .inl ⟨x :: r, SqL.of hl, rfl⟩, iteT ⟨_, rfl, l, _, 0, x, rfl, rfl, SqL.of hl, by show (ixN (r.length + 1) 0).bind _ = _; unfold ixN; simp, k _ (hx.2 0 x d rfl rfl)⟩⟩
end
end K65
set_option Elab.async false
set_option linter.all false
set_option maxRecDepth 100000
set_option maxHeartbeats 4400000
namespace K65
open PySem PySem.Spec PyProof.Rows L2 HX
open PySem.W (Frag)


theorem op_neDK {X : Cx} {K : Frag} (hK : X.K = K) (hu : X.A.units + 64 < cLine) : OpR X (compareOp .NotEq) (rNeD K) := hK ▸ op_neD hu
theorem filter_at {α β γ : Type} (p : α → Bool) (l : List β) (g : β → α) : (l.map g).filter p = (l.filter fun b => p (g b)).map g := List.filter_map
theorem ftD_list (l : List PyData) (p : PyData → Bool) (q : PyData → PyData) : ftD (fun j => p (l[j]?.getD .none)) (fun j => q (l[j]?.getD .none)) l.length = (l.filter p).map q := by
  have e : (List.range l.length).map (fun j => l[j]?.getD .none) = l := getD_map rfl
  unfold ftD
  conv => rhs; rw [← e, List.filter_map, List.map_map]
  rfl

section
variable {P : Program} {w : World} {K : Frag} {mg : Str → Option Value} {base : Heap} {A : Ad}

theorem ok_parted (T : Txt K mg A) : FnOk P w K mg base CX0 3 A.f_parted A.d_parted ["one", "other"] (spPart P w K A.C_World A.C_Doing partD) := by
  refine T.F_parted.ok sc_parted (fun vs H Q E h => ?_) (fun cdv A0 outer s H vs Q E hr h => ?_)
  · obtain ⟨_, _, _, _, _, _, _, _, _, _, _, rfl, _⟩ := h
    rfl
  · have hu := hu_of hr
    obtain ⟨x, xw, vt, y, yw, vu, L, M, z, ts, us, rfl, hD, hE, hLM, ⟨okL, hz, few, hk, lts, hts⟩, ⟨okM, -, -, -, lus, hus⟩, k⟩ := h
    have fv := few_vals few
    have kl := keys_len L z
    have tl := tab_len lts
    have ul := tab_len lus
    refine ⟨_, (pss_one (ps_ret (pe_call (ok_first_key T) (hr.mono (by decide)) (by rfl) T.m_first_key T.F_first_key.kp T.b_first_key .nil pass0 (pa_cons (pe_lc (own := [("row", 2), ("beside", 3)]) (g := (gTup K 2 (gCons (gName 2) (gCons (gName 3) gNil)))) rfl sc_parted.nd (RZ.pi_zipA (by rfl) T.g_zip (pa_cons (pe_prop (pv 0) T.cls_Doing T.P_table (ok_Doing_table T) (hr.mono (by decide)) T.b_Doing_table .nil pass0 rfl) (pa_cons (pe_prop (pv 1) T.cls_Doing T.P_table (ok_Doing_table T) (hr.mono (by decide)) T.b_Doing_table .nil pass0 rfl) pa_nil))) (blkOk_by (N := N_parted) (sc := defScope s_parted) (by decide +kernel)) (fun _ _ _ _ _ => pg_tup rfl (pgs_cons (pg_name (i := 2) sc_parted.nd rfl (Or.inl rfl)) (pgs_cons (pg_name (i := 3) sc_parted.nd rfl (Or.inl rfl)) pgs_nil))) (fun _ _ _ _ _ => pts_one (pt_cmpR (op_neDK (K := K) rfl (by exact hr.units)) (pe_ix (ix_tupK (K := K) rfl) (pv 2) pe_int (fun _ _ => rfl)) (pe_ix (ix_tupK (K := K) rfl) (pv 3) pe_int (fun _ _ => rfl)) (nomark _))) (fun _ _ _ _ _ => (pe_slice (sl_tupAK (K := K) rfl) (pv 2) po_none (po_some pe_int)))) pa_nil)))), ?_⟩
    obtain ⟨dx, d, kvs, h1, h2, h3, h4, h5, h6, h7⟩ := id hD
    obtain ⟨dy, d', kvs', g1, g2, g3, g4, g5, g6, g7⟩ := id hE
    obtain ⟨a, xs, rfl, ha, hxs⟩ := h3.tupI
    obtain ⟨b, ys, rfl, hb, hys⟩ := g3.tupI
    have lx := hxs.1; have ly := hys.1
    refine ⟨_, rfl, x, dx, _, rfl, h1, x, xw, .ref a, L, z, ts, rfl, hD, fun v hv => ?_⟩
    subst hv
    refine ⟨_, rfl, y, dy, _, rfl, g1, y, yw, .ref b, M, z, us, rfl, hE, fun v hv => ?_⟩
    subst hv
    refine ⟨a, b, xs, ys, rfl, .inr ⟨SqT.of ha, SqT.of hb, fun D nD => lc_ft (walk_zipT (xs := xs) (ys := ys) rfl) (nb ts us) (keyAt L z) (by omega) nD (fun H' e => ⟨SqT.of (e _ _ ha), SqT.of (e _ _ hb)⟩) (fun i xv H2 H3 Kn Kq hi e yy kn kq => ?_) (fun H2 zs e hDl hzs => ?_)⟩⟩
    · obtain ⟨T', u, v, rfl, nT, rfl, hu1, hv1⟩ := yy
      replace hu1 : xs[i]? = some u := hu1
      replace hv1 : ys[i]? = some v := hv1
      have e3 : Ex H2 (upd H2 T' (.tup [u, v])) := Ex.nw nT
      have e03 := e.tr e3
      obtain ⟨rd, hrd, tr⟩ := hxs.gotV hu1
      obtain ⟨kd, t, hkd, ht, rfl⟩ := tab_at lts hrd
      obtain ⟨sd, hsd, tq⟩ := hys.gotV hv1
      obtain ⟨kd', t', hkd', ht', rfl⟩ := tab_at lus hsd
      obtain ⟨c, w0, w1, w2, w3, rfl, hc, tw, p, q, r, rfl, hcs⟩ := row_of okL hz (List.mem_of_getElem? hkd) (tr.ex e03)
      obtain ⟨c', y0, y1, y2, y3, rfl, hc', tw', _, _, _, _, _⟩ := row_of okM hz (List.mem_of_getElem? hkd') (tq.ex e03)
      have ek : keyAt L z i = .tuple [p, q, r] := by unfold keyAt; rw [hkd]; rfl
      have en : nb ts us i = !PyData.eqv t t' := by unfold nb; rw [ht, ht']; rfl
      have pt := pn_told okL (hts t (List.mem_of_getElem? ht))
      have pt' := pn_told okM (hus t' (List.mem_of_getElem? ht'))
      refine ⟨T', _, rfl, SqT.of upd_same, rfl, _, _, rfl, _, _, rfl, rfl, rfl, _, rfl, c, _, 3, w3, rfl, rfl, SqT.of hc, rfl, _, rfl, c', _, 3, y3, rfl, rfl, SqT.of hc', rfl, t, t', tz_dp tw, tz_dp tw', pt.sh (by decide), pt'.sh (by decide), _, rfl, ?_⟩
      rw [en] at kn kq
      cases hn : PyData.eqv t t' with
      | true => exact iteF (kn (by rw [hn]; rfl) _ e3)
      | false =>
        refine iteT ⟨_, rfl, _, rfl, slTo (n := 3) hc hcs fun v1 H5 e5 t1 => kq (by rw [hn]; rfl) _ _ (e3.tr e5) ?_⟩
        rw [ek]; exact t1
    · refine ⟨D, zs, ftD (nb ts us) (keyAt L z) (min xs.length ys.length), rfl, hDl, hzs, fun v tv => k v _ e ?_⟩
      have hn : min xs.length ys.length = (keysD L z).length := by rw [hLM] at *; omega
      rw [hn] at tv
      exact tv
end
end K65
set_option Elab.async false
set_option linter.all false
set_option maxRecDepth 100000
set_option maxHeartbeats 4400000
namespace K65
open PySem PySem.Spec PyProof.Rows L2 HX
open PySem.W (Frag)


def lastD : PyData → PyData | .tuple [_, _, _, t] => t | _ => .none
def keyOfD : PyData → PyData | .tuple [p, q, r, _] => .tuple [p, q, r] | _ => .none
def tabAt (L : Lore) (z : Str) (ts : List PyData) (i : Nat) : PyData := (tabD L z ts)[i]?.getD .none
theorem tabAt_of {L : Lore} (ok : L.Ok) {z : Str} (hz : z.length ≤ 3) {ts : List PyData} (hl : ts.length = (keysD L z).length) {i : Nat} (hi : i < (keysD L z).length) : ∃ k t, k ∈ keysD L z ∧ t ∈ ts ∧ tabAt L z ts i = rowD k t ∧ keyOfD (tabAt L z ts i) = keyAt L z i ∧ lastD (tabAt L z ts i) = ts[i]?.getD .none := by
  have tl := tab_len hl
  have e := List.getElem?_eq_getElem (show i < (tabD L z ts).length by omega)
  obtain ⟨k, t, hk, ht, hr⟩ := tab_at hl e
  obtain ⟨p, q, r, rfl, _⟩ := key_at ok hz k (List.mem_of_getElem? hk)
  refine ⟨_, t, List.mem_of_getElem? hk, List.mem_of_getElem? ht, ?_, ?_, ?_⟩ <;> (unfold tabAt; rw [e, hr])
  · rfl
  · unfold keyAt; rw [hk]; rfl
  · rw [ht]; rfl
theorem bey_data {L : Lore} (ok : L.Ok) {z : Str} (hz : z.length ≤ 3) {ts us : List PyData} (hl : ts.length = (keysD L z).length) : ((ftD (nb ts us) (tabAt L z ts) (keysD L z).length).filter fun d => someD (lastD d)).map keyOfD = beyL L z ts us := by
  unfold beyL ftD
  rw [List.filter_map, List.map_map, List.filter_filter]
  have e1 : ((List.range (keysD L z).length).filter fun a => ((fun d => someD (lastD d)) ∘ tabAt L z ts) a && nb ts us a) = (List.range (keysD L z).length).filter fun i => nb ts us i && someD (ts[i]?.getD .none) := by
    refine List.filter_congr fun i hi => ?_
    obtain ⟨k, t, _, _, _, _, h⟩ := tabAt_of ok hz hl (List.mem_range.mp hi)
    show (someD (lastD (tabAt L z ts i)) && nb ts us i) = _
    rw [h, Bool.and_comm]
  rw [e1]
  refine List.map_congr_left fun i hi => ?_
  obtain ⟨k, t, _, _, _, h, _⟩ := tabAt_of ok hz hl (List.mem_range.mp (List.mem_filter.mp hi).1)
  exact h

section
variable {P : Program} {w : World} {K : Frag} {mg : Str → Option Value} {base : Heap} {A : Ad}

theorem ok_beyond (T : Txt K mg A) : FnOk P w K mg base CX0 3 A.f_beyond A.d_beyond ["one", "other"] (spPart P w K A.C_World A.C_Doing beyD) := by
  refine T.F_beyond.ok sc_beyond (fun vs H Q E h => ?_) (fun cdv A0 outer s H vs Q E hr h => ?_)
  · obtain ⟨_, _, _, _, _, _, _, _, _, _, _, rfl, _⟩ := h
    rfl
  · have hu := hu_of hr
    obtain ⟨x, xw, vt, y, yw, vu, L, M, z, ts, us, rfl, hD, hE, hLM, ⟨okL, hz, few, hk, lts, hts⟩, ⟨okM, -, -, -, lus, hus⟩, k⟩ := h
    have fv := few_vals few
    have kl := keys_len L z
    have tl := tab_len lts
    have ul := tab_len lus
    refine ⟨_, (pss_cons (ps_setLc (i := 2) (own := [("row", 3), ("beside", 4)]) (g := (gTup K 2 (gCons (gName 3) (gCons (gName 4) gNil)))) (by rfl) sc_beyond.nd rfl rfl (sw_true rfl rfl rfl (by decide +kernel)) (RZ.pi_zipA (by rfl) T.g_zip (pa_cons (pe_prop (pv 0) T.cls_Doing T.P_table (ok_Doing_table T) (hr.mono (by decide)) T.b_Doing_table .nil pass0 rfl) (pa_cons (pe_prop (pv 1) T.cls_Doing T.P_table (ok_Doing_table T) (hr.mono (by decide)) T.b_Doing_table .nil pass0 rfl) pa_nil))) (blkOk_by (N := N_beyond) (sc := defScope s_beyond) (by decide +kernel)) (fun _ _ _ _ _ => pg_tup rfl (pgs_cons (pg_name (i := 3) sc_beyond.nd rfl (Or.inl rfl)) (pgs_cons (pg_name (i := 4) sc_beyond.nd rfl (Or.inl rfl)) pgs_nil))) (fun _ _ _ _ _ => pts_one (pt_cmpR (op_neDK (K := K) rfl (by exact hr.units)) (pe_ix (ix_tupK (K := K) rfl) (pv 3) pe_int (fun _ _ => rfl)) (pe_ix (ix_tupK (K := K) rfl) (pv 4) pe_int (fun _ _ => rfl)) (nomark _))) (fun _ _ _ _ _ => (pv 3)))
      (pss_one (ps_ret (pe_call (ok_first_key T) (hr.mono (by decide)) (by rfl) T.m_first_key T.F_first_key.kp T.b_first_key .nil pass0 (pa_cons (pe_lc (own := [("row", 3)]) (g := (gName 3)) rfl sc_beyond.nd (pi_list (pv 2)) (blkOk_by (N := N_beyond) (sc := defScope s_beyond) (by decide +kernel)) (fun _ _ _ _ _ => pg_name (i := 3) sc_beyond.nd rfl (Or.inl rfl)) (fun _ _ _ _ _ => pts_one (pt_cmpR op_notN (pe_ix (ix_tupK (K := K) rfl) (pv 3) pe_int (fun _ _ => rfl)) pe_non (nomark _))) (fun _ _ _ _ _ => (pe_slice (sl_tupAK (K := K) rfl) (pv 3) po_none (po_some pe_int)))) pa_nil))))), ?_⟩
    obtain ⟨dx, d, kvs, h1, h2, h3, h4, h5, h6, h7⟩ := id hD
    obtain ⟨dy, d', kvs', g1, g2, g3, g4, g5, g6, g7⟩ := id hE
    obtain ⟨a, xs, rfl, ha, hxs⟩ := h3.tupI
    obtain ⟨b, ys, rfl, hb, hys⟩ := g3.tupI
    have lx := hxs.1; have ly := hys.1
    refine ⟨_, rfl, x, dx, _, rfl, h1, x, xw, .ref a, L, z, ts, rfl, hD, fun v hv => ?_⟩
    subst hv
    refine ⟨_, rfl, y, dy, _, rfl, g1, y, yw, .ref b, M, z, us, rfl, hE, fun v hv => ?_⟩
    subst hv
    refine ⟨a, b, xs, ys, rfl, .inr ⟨SqT.of ha, SqT.of hb, fun D nD => lc_ft (walk_zipT (xs := xs) (ys := ys) rfl) (nb ts us) (tabAt L z ts) (by omega) nD (fun H' e => ⟨SqT.of (e _ _ ha), SqT.of (e _ _ hb)⟩) (fun i xv H2 H3 Kn Kq hi e yy kn kq => ?_) (fun H2 zs e hDl hzs => ?_)⟩⟩
    · obtain ⟨T', u, v, rfl, nT, rfl, hu1, hv1⟩ := yy
      replace hu1 : xs[i]? = some u := hu1
      replace hv1 : ys[i]? = some v := hv1
      have e3 : Ex H2 (upd H2 T' (.tup [u, v])) := Ex.nw nT
      have e03 := e.tr e3
      obtain ⟨rd, hrd, tr⟩ := hxs.gotV hu1
      obtain ⟨kd, t, hkd, ht, rfl⟩ := tab_at lts hrd
      obtain ⟨sd, hsd, tq⟩ := hys.gotV hv1
      obtain ⟨kd', t', hkd', ht', rfl⟩ := tab_at lus hsd
      obtain ⟨c, w0, w1, w2, w3, rfl, hc, tw, p, q, r, rfl, hcs⟩ := row_of okL hz (List.mem_of_getElem? hkd) (tr.ex e03)
      obtain ⟨c', y0, y1, y2, y3, rfl, hc', tw', _, _, _, _, _⟩ := row_of okM hz (List.mem_of_getElem? hkd') (tq.ex e03)
      have ek : keyAt L z i = .tuple [p, q, r] := by unfold keyAt; rw [hkd]; rfl
      have en : nb ts us i = !PyData.eqv t t' := by unfold nb; rw [ht, ht']; rfl
      have pt := pn_told okL (hts t (List.mem_of_getElem? ht))
      have pt' := pn_told okM (hus t' (List.mem_of_getElem? ht'))
      refine ⟨T', _, rfl, SqT.of upd_same, rfl, _, _, rfl, _, _, rfl, rfl, rfl, _, rfl, c, _, 3, w3, rfl, rfl, SqT.of hc, rfl, _, rfl, c', _, 3, y3, rfl, rfl, SqT.of hc', rfl, t, t', tz_dp tw, tz_dp tw', pt.sh (by decide), pt'.sh (by decide), _, rfl, ?_⟩
      rw [en] at kn kq
      cases hn : PyData.eqv t t' with
      | true => exact iteF (kn (by rw [hn]; rfl) _ e3)
      | false =>
        refine iteT ⟨_, rfl, kq (by rw [hn]; rfl) _ _ e3 ?_⟩
        unfold tabAt
        rw [hrd]
        exact hcs.tup hc
    have hn : min xs.length ys.length = (keysD L z).length := by rw [hLM] at *; omega
    rw [hn] at hzs
    have lz := hzs.1
    have lf : (ftD (nb ts us) (tabAt L z ts) (keysD L z).length).length ≤ (keysD L z).length := ftD_len
    obtain ⟨RS, ERS⟩ : ∃ rs, rs = ftD (nb ts us) (tabAt L z ts) (keysD L z).length := ⟨_, rfl⟩
    rw [← ERS] at hzs lz lf
    have hmem : ∀ d ∈ RS, ∃ i, i < (keysD L z).length ∧ d = tabAt L z ts i := fun d hd => by
      rw [ERS] at hd
      obtain ⟨i, hi, rfl⟩ := List.mem_map.mp hd
      exact ⟨i, List.mem_range.mp (List.mem_filter.mp hi).1, rfl⟩
    refine ⟨_, rfl, D, rfl, ⟨_, SqL.of hDl⟩, fun D2 nD2 => lc_ft (walk_list (xs := zs)) (fun j => someD (lastD (RS[j]?.getD .none))) (fun j => keyOfD (RS[j]?.getD .none)) (by omega) nD2 (fun H' e' => SqL.of (e' _ _ hDl)) (fun j xv H4 H5 Kn Kq hj e4 yy kn kq => ?_) (fun H4 ws e4 hD2 hws => ?_)⟩
    · obtain ⟨rfl, hxj⟩ := yy
      obtain ⟨dd, hdd, tdd⟩ := hzs.gotV hxj
      obtain ⟨i, hi, rfl⟩ := hmem dd (List.mem_of_getElem? hdd)
      obtain ⟨kd, t, hkd, htm, er, e1, e2⟩ := tabAt_of okL hz lts hi
      rw [hdd] at kn kq
      replace kn : someD (lastD (tabAt L z ts i)) = false → _ := kn
      replace kq : someD (lastD (tabAt L z ts i)) = true → ∀ y H6, Ex H5 H6 → Tz H6 y (keyOfD (tabAt L z ts i)) → _ := kq
      rw [er] at tdd kn kq
      obtain ⟨c, w0, w1, w2, w3, rfl, hc, tw, p, q, r, rfl, hcs⟩ := row_of okL hz hkd (tdd.ex e4)
      replace kn : someD t = false → _ := kn
      replace kq : someD t = true → ∀ y H6, Ex H5 H6 → Tz H6 y (.tuple [p, q, r]) → _ := kq
      refine ⟨rfl, _, rfl, c, _, 3, w3, rfl, rfl, SqT.of hc, rfl, rfl, _, rfl, ?_⟩
      obtain rfl | ⟨ed, a1, b1, rfl, _, _⟩ := hts t htm
      · cases tw
        exact iteF (kn rfl _ (Ex.rf _))
      · obtain ⟨wa, ww, rfl, hwa, _⟩ := tw.tupI
        refine iteT ?_
        exact ⟨_, rfl, _, rfl, slTo (n := 3) hc hcs fun v1 H6 e5 t1 => kq rfl _ _ e5 t1⟩
    · have lzs : zs.length = RS.length := lz
      rw [lzs, ftD_list RS (fun d => someD (lastD d)) keyOfD, ERS, bey_data okL hz lts] at hws
      exact ⟨D2, ws, beyL L z ts us, rfl, hD2, hws, fun v tv => k v _ (e.tr e4) tv⟩
end
end K65
set_option Elab.async false
set_option linter.all false
set_option maxRecDepth 100000
set_option maxHeartbeats 4400000
namespace K65
open PySem PySem.Spec PyProof.Rows L2 HX
open PySem.W (Frag)


def within (L : Lore) (z : Str) (ts us : List PyData) : Bool := (beyL L z ts us).isEmpty
def tEq (L M : Lore) (z y : Str) (ts us : List PyData) : Bool := PyData.eqv (.tuple (tabD L z ts)) (.tuple (tabD M y us))
def dEq (L M : Lore) (z y : Str) (ts us : List PyData) : Bool := wSame L M && (decide (z = y) && tEq L M z y ts us)
def spTwo (P : Program) (w : World) (K : Frag) (Cw Cd : Addr) (R : Lore → Str → List PyData → List PyData → Bool) : Sp := fun vs H Q _ => ∃ (x xw : Addr) (vt : V) (y yw : Addr) (vu : V) (L : Lore) (z : Str) (ts us : List PyData), vs = [.ref x, .ref y] ∧ DAt P w K Cw Cd H x xw vt L z ts ∧ DAt P w K Cw Cd H y yw vu L z us ∧ TabOk L z ts ∧ TabOk L z us ∧ ∀ H', Ex H H' → Q (.bl (R L z ts us)) H'
def spDeq (P : Program) (w : World) (K : Frag) (Cw Cd : Addr) : Sp := fun vs H Q _ => ∃ (x xw : Addr) (vt y : V) (L : Lore) (z : Str) (ts : List PyData), vs = [.ref x, y] ∧ DAt P w K Cw Cd H x xw vt L z ts ∧ TabOk L z ts ∧
  ((∃ t, TyX K H y t ∧ PySem.W.kitOne K t (.ref Cd) = some false ∧ Q (.bl false) H) ∨ ∃ (b yw : Addr) (vu : V) (M : Lore) (z' : Str) (us : List PyData), y = .ref b ∧ DAt P w K Cw Cd H b yw vu M z' us ∧ TabOk M z' us ∧ Q (.bl (dEq L M z z' ts us)) H)
theorem tab_shaped {L : Lore} {z : Str} {ts : List PyData} (h : TabOk L z ts) : SeqAt.shaped (.tuple (tabD L z ts)) = true := (pn_tab h.1 h.2.2.2.2.1 h.2.2.2.2.2).sh (by decide)
theorem tEq_iff {L M : Lore} {z y : Str} {ts us : List PyData} (h : TabOk L z ts) (k : TabOk M y us) : tEq L M z y ts us = true ↔ tabD L z ts = tabD M y us := by
  unfold tEq
  rw [eqv_plainN _ _ (pn_tab h.1 h.2.2.2.2.1 h.2.2.2.2.2).1 (pn_tab k.1 k.2.2.2.2.1 k.2.2.2.2.2).1]
  exact ⟨fun e => by injection e, fun e => by rw [e]⟩
theorem bey_non {H : Hp} {v : V} {L : Lore} (ok : L.Ok) {z : Str} (hz : z.length ≤ 3) {ts us : List PyData} (h : Tz H v (beyD L z ts us)) : decide (v = V.non) = within L z ts us := by
  unfold beyD at h
  unfold within
  cases hb : beyL L z ts us with
  | nil => rw [hb] at h; cases h; rfl
  | cons d r =>
    rw [hb] at h
    have hd : d ∈ beyL L z ts us := by rw [hb]; exact List.mem_cons_self ..
    unfold beyL ftD at hd
    obtain ⟨i, hi, rfl⟩ := List.mem_map.mp hd
    have hi := List.mem_range.mp (List.mem_filter.mp hi).1
    have e := List.getElem?_eq_getElem hi
    obtain ⟨p, q, s, ek, _⟩ := key_at ok hz _ (List.mem_of_getElem? e)
    have : keyAt L z i = .tuple [p, q, s] := by unfold keyAt; rw [e, ek]; rfl
    replace h : Tz H v (keyAt L z i) := h
    rw [this] at h
    obtain ⟨a, xs, rfl, _⟩ := h.tupI
    rfl
theorem dec_strV (i j : Str) : decide (V.str i = V.str j) = decide (i = j) := by rw [decide_eq_decide]; exact ⟨fun h => by injection h, fun h => by rw [h]⟩

section
variable {P : Program} {w : World} {K : Frag} {mg : Str → Option Value} {base : Heap} {A : Ad}

theorem ok_is_within (T : Txt K mg A) : FnOk P w K mg base CX0 4 A.f_is_within A.d_is_within ["one", "other"] (spTwo P w K A.C_World A.C_Doing within) := by
  refine T.F_is_within.ok sc_is_within (fun vs H Q E h => ?_) (fun cdv A0 outer s H vs Q E hr h => ?_)
  · obtain ⟨_, _, _, _, _, _, _, _, _, _, rfl, _⟩ := h
    rfl
  · have hu := hu_of hr
    obtain ⟨x, xw, vt, y, yw, vu, L, z, ts, us, rfl, hD, hE, tD, tE, k⟩ := h
    obtain ⟨dx, d, kvs, h1, h2, h3, h4, h5, h6, h7⟩ := id hD
    obtain ⟨dy, d', kvs', g1, g2, g3, g4, g5, g6, g7⟩ := id hE
    refine ⟨_, (pss_one (ps_ret (pe_and (pe_cmpR (op_eqO T.eqc (ok_World_eq T) T.b_World_eq (hr.mono (by decide)) pass0) (pe_prop (pv 0) T.cls_Doing T.P_world (ok_Doing_world T) (hr.mono (by decide)) T.b_Doing_world .nil pass0 rfl) (pe_prop (pv 1) T.cls_Doing T.P_world (ok_Doing_world T) (hr.mono (by decide)) T.b_Doing_world .nil pass0 rfl) (nomark _)) (pe_and (pe_cmpR op_eq (pe_prop (pv 0) T.cls_Doing T.P_kinds (ok_Doing_kinds T) (hr.mono (by decide)) T.b_Doing_kinds .nil pass0 rfl) (pe_prop (pv 1) T.cls_Doing T.P_kinds (ok_Doing_kinds T) (hr.mono (by decide)) T.b_Doing_kinds .nil pass0 rfl) (nomark _)) (pe_one (pe_cmpR op_isN (pe_call (ok_beyond T) (hr.mono (by decide)) (by rfl) T.m_beyond T.F_beyond.kp T.b_beyond .nil pass0 (pa_cons (pv 0) (pa_cons (pv 1) pa_nil))) pe_non (nomark _))))))), ?_⟩
    obtain ⟨wx, _, _, _, _, _, _, hxw, _⟩ := id h2
    obtain ⟨wy, _, _, _, _, _, _, hyw, _⟩ := id g2
    refine ⟨_, rfl, x, dx, _, rfl, h1, x, xw, vt, L, z, ts, rfl, hD, fun v hv => ?_⟩
    subst hv
    refine ⟨_, rfl, y, dy, _, rfl, g1, y, yw, vu, L, z, us, rfl, hE, fun v hv => ?_⟩
    subst hv
    refine ⟨⟨xw, _, _, rfl, hxw⟩, .inl ⟨yw, _, _, rfl, hyw⟩, xw, yw, L, L, rfl, h2, g2, tD.1, tD.1, _, rfl, HX.if_true (wSame_self tD.1) ?_⟩
    refine ⟨_, rfl, x, dx, _, rfl, h1, x, xw, vt, L, z, ts, rfl, hD, fun v hv => ?_⟩
    subst hv
    refine ⟨_, rfl, y, dy, _, rfl, g1, y, yw, vu, L, z, us, rfl, hE, fun v hv => ?_⟩
    subst hv
    refine ⟨rfl, _, rfl, HX.if_true (decide_eq_true rfl) ?_⟩
    refine ⟨_, rfl, _, rfl, x, xw, vt, y, yw, vu, L, L, z, ts, us, rfl, hD, hE, rfl, tD, tE, fun v H' e tv => ⟨rfl, ?_⟩⟩
    rw [bey_non tD.1 tD.2.1 tv]
    exact k _ e
theorem ok_Doing_le (T : Txt K mg A) : FnOk P w K mg base CX0 5 A.f_Doing_le A.d_Doing_le ["self", "other"] (spTwo P w K A.C_World A.C_Doing within) := by
  refine T.F_Doing_le.ok sc_Doing_le (fun vs H Q E h => ?_) (fun cdv A0 outer s H vs Q E hr h => ?_)
  · obtain ⟨_, _, _, _, _, _, _, _, _, _, rfl, _⟩ := h
    rfl
  · have hu := hu_of hr
    obtain ⟨x, xw, vt, y, yw, vu, L, z, ts, us, rfl, hD, hE, tD, tE, k⟩ := h
    obtain ⟨dx, d, kvs, h1, h2, h3, h4, h5, h6, h7⟩ := id hD
    obtain ⟨dy, d', kvs', g1, g2, g3, g4, g5, g6, g7⟩ := id hE
    refine ⟨_, (pss_cons (ps_if (pt_not (pt_val (pe_callB call_isi (by rfl) T.g_isinstance (by decide +kernel) (pa_cons (pv 1) (pa_cons (pe_glob (v := .ref A.C_Doing) (by rfl) T.m_Doing rfl) pa_nil))))) (pss_one ps_never) pss_nil)
      (pss_one (ps_ret (pe_call (ok_is_within T) (hr.mono (by decide)) (by rfl) T.m_is_within T.F_is_within.kp T.b_is_within .nil pass0 (pa_cons (pv 0) (pa_cons (pv 1) pa_nil)))))), ?_⟩
    refine ⟨_, rfl, _, _, _, _, _, rfl, .own _, ty_doing T g1, kit_selfW, _, rfl, HX.if_false rfl ?_⟩
    exact ⟨_, rfl, _, rfl, x, xw, vt, y, yw, vu, L, z, ts, us, rfl, hD, hE, tD, tE, k⟩
theorem ok_Doing_ge (T : Txt K mg A) : FnOk P w K mg base CX0 5 A.f_Doing_ge A.d_Doing_ge ["self", "other"] (spTwo P w K A.C_World A.C_Doing (fun L z ts us => within L z us ts)) := by
  refine T.F_Doing_ge.ok sc_Doing_ge (fun vs H Q E h => ?_) (fun cdv A0 outer s H vs Q E hr h => ?_)
  · obtain ⟨_, _, _, _, _, _, _, _, _, _, rfl, _⟩ := h
    rfl
  · have hu := hu_of hr
    obtain ⟨x, xw, vt, y, yw, vu, L, z, ts, us, rfl, hD, hE, tD, tE, k⟩ := h
    obtain ⟨dx, d, kvs, h1, h2, h3, h4, h5, h6, h7⟩ := id hD
    obtain ⟨dy, d', kvs', g1, g2, g3, g4, g5, g6, g7⟩ := id hE
    refine ⟨_, (pss_cons (ps_if (pt_not (pt_val (pe_callB call_isi (by rfl) T.g_isinstance (by decide +kernel) (pa_cons (pv 1) (pa_cons (pe_glob (v := .ref A.C_Doing) (by rfl) T.m_Doing rfl) pa_nil))))) (pss_one ps_never) pss_nil)
      (pss_one (ps_ret (pe_call (ok_is_within T) (hr.mono (by decide)) (by rfl) T.m_is_within T.F_is_within.kp T.b_is_within .nil pass0 (pa_cons (pv 1) (pa_cons (pv 0) pa_nil)))))), ?_⟩
    refine ⟨_, rfl, _, _, _, _, _, rfl, .own _, ty_doing T g1, kit_selfW, _, rfl, HX.if_false rfl ?_⟩
    exact ⟨_, rfl, _, rfl, y, yw, vu, x, xw, vt, L, z, us, ts, rfl, hE, hD, tE, tD, k⟩
theorem ok_Doing_lt (T : Txt K mg A) : FnOk P w K mg base CX0 5 A.f_Doing_lt A.d_Doing_lt ["self", "other"] (spTwo P w K A.C_World A.C_Doing (fun L z ts us => within L z ts us && !tEq L L z z ts us)) := by
  refine T.F_Doing_lt.ok sc_Doing_lt (fun vs H Q E h => ?_) (fun cdv A0 outer s H vs Q E hr h => ?_)
  · obtain ⟨_, _, _, _, _, _, _, _, _, _, rfl, _⟩ := h
    rfl
  · have hu := hu_of hr
    obtain ⟨x, xw, vt, y, yw, vu, L, z, ts, us, rfl, hD, hE, tD, tE, k⟩ := h
    obtain ⟨dx, d, kvs, h1, h2, h3, h4, h5, h6, h7⟩ := id hD
    obtain ⟨dy, d', kvs', g1, g2, g3, g4, g5, g6, g7⟩ := id hE
    refine ⟨_, (pss_cons (ps_if (pt_not (pt_val (pe_callB call_isi (by rfl) T.g_isinstance (by decide +kernel) (pa_cons (pv 1) (pa_cons (pe_glob (v := .ref A.C_Doing) (by rfl) T.m_Doing rfl) pa_nil))))) (pss_one ps_never) pss_nil)
      (pss_one (ps_ret (pe_and (pe_call (ok_is_within T) (hr.mono (by decide)) (by rfl) T.m_is_within T.F_is_within.kp T.b_is_within .nil pass0 (pa_cons (pv 0) (pa_cons (pv 1) pa_nil))) (pe_one (pe_cmpR (op_neD hr.units) (pe_fld (pv 0) rfl) (pe_prop (pv 1) T.cls_Doing T.P_table (ok_Doing_table T) (hr.mono (by decide)) T.b_Doing_table .nil pass0 rfl) (nomark _))))))), ?_⟩
    refine ⟨_, rfl, _, _, _, _, _, rfl, .own _, ty_doing T g1, kit_selfW, _, rfl, HX.if_false rfl ?_⟩
    refine ⟨_, rfl, _, rfl, x, xw, vt, y, yw, vu, L, z, ts, us, rfl, hD, hE, tD, tE, fun H2 e2 => ⟨_, rfl, ?_⟩⟩
    dsimp only at k
    cases hb : within L z ts us with
    | false =>
      rw [hb] at k
      exact iteF (k _ e2)
    | true =>
      rw [hb] at k
      refine iteT ?_
      have h1 := e2 _ _ h1
      have g1 := e2 _ _ g1
      have hE := hE.ex e2
      refine ⟨_, rfl, x, A.C_Doing, dx, _, _, rfl, h1, T.cls_Doing, T.n_table, df_table _ _ _ _, _, rfl, y, dy, _, rfl, g1, y, yw, vu, L, z, us, rfl, hE, fun v hv => ?_⟩
      subst hv
      exact ⟨_, _, tz_dp (h3.ex e2), tz_dp (g3.ex e2), tab_shaped tD, tab_shaped tE, k _ e2⟩
theorem ok_Doing_gt (T : Txt K mg A) : FnOk P w K mg base CX0 5 A.f_Doing_gt A.d_Doing_gt ["self", "other"] (spTwo P w K A.C_World A.C_Doing (fun L z ts us => within L z us ts && !tEq L L z z ts us)) := by
  refine T.F_Doing_gt.ok sc_Doing_gt (fun vs H Q E h => ?_) (fun cdv A0 outer s H vs Q E hr h => ?_)
  · obtain ⟨_, _, _, _, _, _, _, _, _, _, rfl, _⟩ := h
    rfl
  · have hu := hu_of hr
    obtain ⟨x, xw, vt, y, yw, vu, L, z, ts, us, rfl, hD, hE, tD, tE, k⟩ := h
    obtain ⟨dx, d, kvs, h1, h2, h3, h4, h5, h6, h7⟩ := id hD
    obtain ⟨dy, d', kvs', g1, g2, g3, g4, g5, g6, g7⟩ := id hE
    refine ⟨_, (pss_cons (ps_if (pt_not (pt_val (pe_callB call_isi (by rfl) T.g_isinstance (by decide +kernel) (pa_cons (pv 1) (pa_cons (pe_glob (v := .ref A.C_Doing) (by rfl) T.m_Doing rfl) pa_nil))))) (pss_one ps_never) pss_nil)
      (pss_one (ps_ret (pe_and (pe_call (ok_is_within T) (hr.mono (by decide)) (by rfl) T.m_is_within T.F_is_within.kp T.b_is_within .nil pass0 (pa_cons (pv 1) (pa_cons (pv 0) pa_nil))) (pe_one (pe_cmpR (op_neD hr.units) (pe_fld (pv 0) rfl) (pe_prop (pv 1) T.cls_Doing T.P_table (ok_Doing_table T) (hr.mono (by decide)) T.b_Doing_table .nil pass0 rfl) (nomark _))))))), ?_⟩
    refine ⟨_, rfl, _, _, _, _, _, rfl, .own _, ty_doing T g1, kit_selfW, _, rfl, HX.if_false rfl ?_⟩
    refine ⟨_, rfl, _, rfl, y, yw, vu, x, xw, vt, L, z, us, ts, rfl, hE, hD, tE, tD, fun H2 e2 => ⟨_, rfl, ?_⟩⟩
    dsimp only at k
    cases hb : within L z us ts with
    | false =>
      rw [hb] at k
      exact iteF (k _ e2)
    | true =>
      rw [hb] at k
      refine iteT ?_
      have h1 := e2 _ _ h1
      have g1 := e2 _ _ g1
      have hE := hE.ex e2
      refine ⟨_, rfl, x, A.C_Doing, dx, _, _, rfl, h1, T.cls_Doing, T.n_table, df_table _ _ _ _, _, rfl, y, dy, _, rfl, g1, y, yw, vu, L, z, us, rfl, hE, fun v hv => ?_⟩
      subst hv
      exact ⟨_, _, tz_dp (h3.ex e2), tz_dp (g3.ex e2), tab_shaped tD, tab_shaped tE, k _ e2⟩
theorem ok_Doing_eq (T : Txt K mg A) : FnOk P w K mg base CX0 4 A.f_Doing_eq A.d_Doing_eq ["self", "other"] (spDeq P w K A.C_World A.C_Doing) := by
  refine T.F_Doing_eq.ok sc_Doing_eq (fun vs H Q E h => ?_) (fun cdv A0 outer s H vs Q E hr h => ?_)
  · obtain ⟨_, _, _, _, _, _, _, rfl, _⟩ := h
    rfl
  · have hu := hu_of hr
    obtain ⟨x, xw, vt, y0, L, z, ts, rfl, hD, tD, k⟩ := h
    refine ⟨_, (pss_cons (ps_if (pt_not (pt_val (pe_callB call_isi (by rfl) T.g_isinstance (by decide +kernel) (pa_cons (pv 1) (pa_cons (pe_glob (v := .ref A.C_Doing) (by rfl) T.m_Doing rfl) pa_nil))))) (pss_one (ps_ret pe_bl)) pss_nil)
      (pss_one (ps_ret (pe_and (pe_cmpR (op_eqO T.eqc (ok_World_eq T) T.b_World_eq (hr.mono (by decide)) pass0) (pe_fld (pv 0) rfl) (pe_prop (pv 1) T.cls_Doing T.P_world (ok_Doing_world T) (hr.mono (by decide)) T.b_Doing_world .nil pass0 rfl) (nomark _)) (pe_and (pe_cmpR op_eq (pe_fld (pv 0) rfl) (pe_prop (pv 1) T.cls_Doing T.P_kinds (ok_Doing_kinds T) (hr.mono (by decide)) T.b_Doing_kinds .nil pass0 rfl) (nomark _)) (pe_one (pe_cmpR (op_eqD hr.units) (pe_fld (pv 0) rfl) (pe_prop (pv 1) T.cls_Doing T.P_table (ok_Doing_table T) (hr.mono (by decide)) T.b_Doing_table .nil pass0 rfl) (nomark _)))))))), ?_⟩
    obtain ⟨t, ht, kt, k⟩ | ⟨y, yw, vu, M, z', us, rfl, hE, tE, k⟩ := k
    · exact ⟨_, rfl, _, _, _, _, _, rfl, .own _, ht, kt, _, rfl, HX.if_true rfl k⟩
    obtain ⟨dx, d, kvs, h1, h2, h3, h4, h5, h6, h7⟩ := id hD
    obtain ⟨dy, d', kvs', g1, g2, g3, g4, g5, g6, g7⟩ := id hE
    obtain ⟨wx, _, _, _, _, _, _, hxw, _⟩ := id h2
    obtain ⟨wy, _, _, _, _, _, _, hyw, _⟩ := id g2
    refine ⟨_, rfl, _, _, _, _, _, rfl, .own _, ty_doing T g1, kit_selfW, _, rfl, HX.if_false rfl ?_⟩
    refine ⟨_, rfl, x, A.C_Doing, dx, _, _, rfl, h1, T.cls_Doing, T.n_world, df_world _ _ _ _, _, rfl, y, dy, _, rfl, g1, y, yw, vu, M, z', us, rfl, hE, fun v hv => ?_⟩
    subst hv
    unfold dEq at k
    refine ⟨⟨xw, _, _, rfl, hxw⟩, .inl ⟨yw, _, _, rfl, hyw⟩, xw, yw, L, M, rfl, h2, g2, tD.1, tE.1, _, rfl, ?_⟩
    cases hw : wSame L M with
    | false =>
      rw [hw] at k
      exact iteF k
    | true =>
    rw [hw] at k
    refine iteT ?_
    refine ⟨_, rfl, x, A.C_Doing, dx, _, _, rfl, h1, T.cls_Doing, T.n_kinds, df_kinds _ _ _ _, _, rfl, y, dy, _, rfl, g1, y, yw, vu, M, z', us, rfl, hE, fun v hv => ?_⟩
    subst hv
    refine ⟨rfl, _, rfl, ?_⟩
    rw [dec_strV]
    by_cases hz : z = z'
    rotate_left
    · rw [decide_eq_false hz] at k ⊢
      exact iteF k
    rw [decide_eq_true hz] at k ⊢
    refine iteT ?_
    refine ⟨_, rfl, x, A.C_Doing, dx, _, _, rfl, h1, T.cls_Doing, T.n_table, df_table _ _ _ _, _, rfl, y, dy, _, rfl, g1, y, yw, vu, M, z', us, rfl, hE, fun v hv => ?_⟩
    subst hv
    exact ⟨_, _, tz_dp h3, tz_dp g3, tab_shaped tD, tab_shaped tE, k⟩
end
end K65
set_option Elab.async false
set_option linter.all false
set_option maxRecDepth 100000
set_option maxHeartbeats 4400000
namespace K65
open PySem PySem.Spec PyProof.Rows L2 HX
open PySem.W (Frag)




theorem at_ints {ns : List Int} {i : Int} (h0 : 0 ≤ i) (h1 : i < (ns.length : Int)) : ∃ z : Int, atI (ns.map V.int) i = some (.int z) := by
  obtain ⟨jj, rfl⟩ := Int.eq_ofNat_of_zero_le h0
  have hj : jj < ns.length := by omega
  exact ⟨ns[jj], atI_nat (by rw [List.getElem?_map, List.getElem?_eq_getElem hj]; rfl)⟩
/-- a pot of draws stands at p; at most n were mixed -/
def PotAt (H : Hp) (p : Addr) (n : Int) : Prop := ∃ a b c : Int, H p = some (.lst [.int a, .int b, .int c]) ∧ 0 ≤ a ∧ 0 ≤ b ∧ b < 2305843009213693921 ∧ 0 ≤ c ∧ c ≤ n
theorem PotAt.mono {H : Hp} {p : Addr} {n m : Int} (h : PotAt H p n) (e : n ≤ m) : PotAt H p m := let ⟨a, b, c, h0, h1, h2, h3, h4, h5⟩ := h; ⟨a, b, c, h0, h1, h2, h3, h4, Int.le_trans h5 e⟩
theorem PotAt.ex {H H' : Hp} {p : Addr} {n : Int} (h : PotAt H p n) (e : Ex H H') : PotAt H' p n := let ⟨a, b, c, h0, hr⟩ := h; ⟨a, b, c, e _ _ h0, hr⟩
theorem PotAt.up {H : Hp} {p q : Addr} {o : HO} {N : Int} (h : PotAt H p N) (ne : p ≠ q) : PotAt (upd H q o) p N := let ⟨a, b, c, h0, hr⟩ := h; ⟨a, b, c, by rw [upd_ne ne]; exact h0, hr⟩
theorem pot_none {p l : Addr} {H : Hp} {N : Int} (q : PotAt H p N) (h : H l = none) : l ≠ p := by
  obtain ⟨a, b, c, z2, _⟩ := q
  exact Ne.symm (ne_of_none z2 h)
def spPot (K : Frag) : Sp := fun vs H Q _ => ∃ (a : Addr) (ns : List Int) (i : Int), vs = [.ref a, .int i] ∧ SqL K H a (ns.map V.int) ∧ 0 ≤ i ∧ i ≤ 3 ∧ ∀ (p : Addr) (H' : Hp), H p = none → Ex H H' → PotAt H' p 0 → Q (.ref p) H'
def spTake : Sp := fun vs H Q _ => ∃ (p : Addr) (n N : Int), vs = [.ref p, .int n] ∧ PotAt H p N ∧ 0 < n ∧ n < 1000 ∧ N ≤ 100000 ∧ ∀ (d : Int) (H' : Hp), 0 ≤ d → d < n → XB p H H' → PotAt H' p (N + 1) → Q (.int d) H'
/-- an item of a list is drawn -/
def spOf (K : Frag) : Sp := fun vs H Q _ => ∃ (p l : Addr) (xs : List V) (N : Int), vs = [.ref p, .ref l] ∧ PotAt H p N ∧ SqL K H l xs ∧ l ≠ p ∧ 0 < xs.length ∧ xs.length < 1000 ∧ N ≤ 100000 ∧
  ∀ (i : Nat) (v : V) (H' : Hp), xs[i]? = some v → XB p H H' → PotAt H' p (N + 1) → Q v H'
theorem sql_xb {K : Frag} {H H' : Hp} {a p : Addr} {xs : List V} (h : SqL K H a xs) (n : a ≠ p) (e : XB p H H') : SqL K H' a xs :=
  h.elim (fun z => z.elim (fun y => .inl (.inl (e _ _ n y))) fun ⟨o, y⟩ => .inl (.inr ⟨o, e _ _ n y⟩)) .inr
theorem sql_ex {K : Frag} {H H' : Hp} {a : Addr} {xs : List V} (h : SqL K H a xs) (e : Ex H H') : SqL K H' a xs :=
  h.elim (fun z => z.elim (fun y => .inl (.inl (e _ _ y))) fun ⟨o, y⟩ => .inl (.inr ⟨o, e _ _ y⟩)) .inr
theorem ite_b (b : Bool) : -(2 ^ 64) < (if b = true then (1 : Int) else 0) ∧ (if b = true then (1 : Int) else 0) < 2 ^ 64 := by cases b <;> decide
theorem ite_n (b : Bool) : 0 ≤ (if b = true then (1 : Int) else 0) := by cases b <;> decide
theorem at_prime (i : Int) : ∃ q : Int, atI [V.int 2147483647, .int 2147483629, .int 2147483587, .int 2147483579, .int 2147483563] (i % 5) = some (.int q) ∧ 0 < q ∧ q ≤ 2147483647 := by
  have h : i % 5 = 0 ∨ i % 5 = 1 ∨ i % 5 = 2 ∨ i % 5 = 3 ∨ i % 5 = 4 := by omega
  rcases h with h | h | h | h | h <;> rw [h]
  · exact ⟨2147483647, rfl, by decide, by decide⟩
  · exact ⟨2147483629, rfl, by decide, by decide⟩
  · exact ⟨2147483587, rfl, by decide, by decide⟩
  · exact ⟨2147483579, rfl, by decide, by decide⟩
  · exact ⟨2147483563, rfl, by decide, by decide⟩
theorem sq_le {c : Int} {m : Int} (h0 : 0 ≤ c) (h1 : c ≤ 1000000) (hm : 0 ≤ m) : 0 ≤ m * c * c ∧ m * c * c ≤ m * 1000000 * 1000000 := by
  have h2 : 0 ≤ m * c := Int.mul_nonneg hm h0
  have h3 : m * c ≤ m * 1000000 := Int.mul_le_mul_of_nonneg_left h1 hm
  exact ⟨Int.mul_nonneg h2 h0, Int.mul_le_mul h3 h1 h0 (by omega)⟩
theorem Ex.mu {H H' : Hp} {p : Addr} {o : HO} (e : Ex H H') (h : H p = none) : Ex H (upd H' p o) := fun a u ha => by
  rw [upd_ne (ne_of_none ha h)]
  exact e a u ha
theorem XB.mu {H H' : Hp} {p q : Addr} {o : HO} (e : XB p H H') (h : H q = none) : XB p H (upd H' q o) := fun a u n ha => by
  rw [upd_ne (ne_of_none ha h)]
  exact e a u n ha
theorem ex_xb {H H1 H2 : Hp} {p : Addr} (e : Ex H H1) (x : XB p H1 H2) (h : H p = none) : Ex H H2 := fun c o z => x c o (ne_of_none z h) (e c o z)
theorem rep_next {i : Nat} : List.replicate i (V.bl true) ++ [V.bl true] = List.replicate (i + 1) (V.bl true) := by rw [List.replicate_succ']
theorem two_b (b c : Bool) : 0 ≤ 1 + (if b = true then (1 : Int) else 0) + (if c = true then 1 else 0) ∧ 1 + (if b = true then (1 : Int) else 0) + (if c = true then 1 else 0) ≤ 3 := by cases b <;> cases c <;> decide



/-- a sign of a text is drawn -/
def spOfS : Sp := fun vs H Q _ => ∃ (p : Addr) (z : Str) (N : Int), vs = [.ref p, .str z] ∧ PotAt H p N ∧ 0 < z.length ∧ z.length < 1000 ∧ N ≤ 100000 ∧
  ∀ (i : Nat) (c : Nat) (H' : Hp), z.cps.toList[i]? = some c → XB p H H' → PotAt H' p (N + 1) → Q (.str ⟨#[c]⟩) H'

section
variable {P : Program} {w : World} {K : Frag} {mg : Str → Option Value} {base : Heap} {A : Ad}

theorem ok_box (T : Txt K mg A) : FnOk P w K mg base CX0 1 A.f_box A.d_box ["_law_script", "_law_k"] (spPot K) := by
  refine T.F_box.ok sc_box (fun vs H Q E h => ?_) (fun cdv A0 outer s H vs Q E hr h => ?_)
  · obtain ⟨_, _, _, rfl, _⟩ := h
    rfl
  · have hu := hu_of hr
    obtain ⟨a, ns, i, rfl, hS, h0, h3, k⟩ := h
    refine ⟨_, (pss_cons (ps_set (i := 2) sc_box.nd rfl (Or.inl rfl) (pe_ifExp (pt_cmpR op_lt (pv 1) (pe_callB call_len_seq (by rfl) T.g_len (by decide +kernel) (pa_cons (pv 0) pa_nil)) (nomark _)) (pe_ix ix_list (pv 0) (pv 1) (fun _ _ => rfl)) (pe_op op_add (pe_op op_mul pe_int (pv 1)) pe_int)))
      (pss_cons (ps_set (i := 3) sc_box.nd rfl (Or.inl rfl) (pe_op op_mul (pe_op op_mod (pe_callTy call_int1 (by rfl) T.g_int (by decide +kernel) (pa_cons (pe_callB call_abs (by rfl) T.g_abs (by decide +kernel) (pa_cons (pv 2) pa_nil)) pa_nil)) (pe_op op_powW (pe_op op_pow pe_int pe_int) pe_int)) (pe_callTy call_int1 (by rfl) T.g_int (by decide +kernel) (pa_cons (pe_cmpR op_ge (pe_callB call_abs (by rfl) T.g_abs (by decide +kernel) (pa_cons (pv 2) pa_nil)) (pe_op op_pow pe_int pe_int) (nomark _)) pa_nil))))
      (pss_one (ps_ret (pe_lst (pa_cons (pv 3) (pa_cons (pe_op op_mod (pe_callTy call_int1 (by rfl) T.g_int (by decide +kernel) (pa_cons (pe_op op_add (pe_op op_add (pe_op op_mul (pe_op op_mod (pe_callTy call_int1 (by rfl) T.g_int (by decide +kernel) (pa_cons (pv 2) pa_nil)) pe_int) pe_int) (pe_op op_mul (pe_op op_mul pe_int (pv 1)) (pv 1))) pe_int) pa_nil)) pe_int) (pa_cons pe_int pa_nil)))))))), ?_⟩
    refine ⟨_, rfl, _, rfl, a, _, rfl, .inl hS, _, _, rfl, rfl, _, rfl, if_dec (fun h1 => ?_) (fun h1 => ?_)⟩
    · rw [List.length_map] at h1
      obtain ⟨z, hz⟩ := at_ints (ns := ns) h0 h1
      refine ⟨_, rfl, _, rfl, a, _, _, _, rfl, rfl, hS, hz, ?_⟩
      refine ⟨_, rfl, _, rfl, .inl ⟨_, rfl, ?_⟩⟩
      refine ⟨_, _, rfl, rfl, (by show CPow _ _; exact ⟨by decide, by decide, by decide⟩), _, _, rfl, rfl, (by show CPowW _ _; exact ⟨by decide +kernel, by decide, by decide +kernel⟩), _, _, rfl, rfl, (by show (0 : Int) < _; decide +kernel), _, rfl, _, rfl, _, _, rfl, rfl, (by show CPow _ _; exact ⟨by decide, by decide, by decide⟩), _, _, rfl, rfl, .inr ⟨_, rfl, ?_⟩⟩
      refine ⟨_, _, rfl, rfl, (.inr (ite_b _)), ?_⟩
      refine ⟨_, rfl, ?_⟩
      refine ⟨_, rfl, .inl ⟨_, rfl, ?_⟩⟩
      refine ⟨_, _, rfl, rfl, (by show (0 : Int) < _; decide), _, _, rfl, rfl, (.inl ⟨by omega, by omega⟩), _, rfl, _, _, rfl, rfl, (.inl ⟨by decide, by decide⟩), _, rfl, _, _, rfl, rfl, (.inl ⟨by omega, by omega⟩), _, _, rfl, rfl, _, _, rfl, rfl, .inl ⟨_, rfl, ?_⟩⟩
      refine ⟨_, _, rfl, rfl, (by show (0 : Int) < _; decide), ?_⟩
      refine ⟨(by show 3 ≤ sizeLine; decide), fun p hp => k p _ hp (Ex.nw hp) ⟨_, _, _, upd_same, Int.mul_nonneg (Int.emod_nonneg _ (by decide +kernel)) (ite_n _), Int.emod_nonneg _ (by decide), Int.emod_lt_of_pos _ (by decide), by decide, by decide⟩⟩
    · refine ⟨_, rfl, _, _, rfl, rfl, .inl ⟨by decide, by decide⟩, _, _, rfl, rfl, ?_⟩
      refine ⟨_, rfl, _, rfl, .inl ⟨_, rfl, ?_⟩⟩
      refine ⟨_, _, rfl, rfl, (by show CPow _ _; exact ⟨by decide, by decide, by decide⟩), _, _, rfl, rfl, (by show CPowW _ _; exact ⟨by decide +kernel, by decide, by decide +kernel⟩), _, _, rfl, rfl, (by show (0 : Int) < _; decide +kernel), _, rfl, _, rfl, _, _, rfl, rfl, (by show CPow _ _; exact ⟨by decide, by decide, by decide⟩), _, _, rfl, rfl, .inr ⟨_, rfl, ?_⟩⟩
      refine ⟨_, _, rfl, rfl, (.inr (ite_b _)), ?_⟩
      refine ⟨_, rfl, ?_⟩
      refine ⟨_, rfl, .inl ⟨_, rfl, ?_⟩⟩
      refine ⟨_, _, rfl, rfl, (by show (0 : Int) < _; decide), _, _, rfl, rfl, (.inl ⟨by omega, by omega⟩), _, rfl, _, _, rfl, rfl, (.inl ⟨by decide, by decide⟩), _, rfl, _, _, rfl, rfl, (.inl ⟨by omega, by omega⟩), _, _, rfl, rfl, _, _, rfl, rfl, .inl ⟨_, rfl, ?_⟩⟩
      refine ⟨_, _, rfl, rfl, (by show (0 : Int) < _; decide), ?_⟩
      refine ⟨(by show 3 ≤ sizeLine; decide), fun p hp => k p _ hp (Ex.nw hp) ⟨_, _, _, upd_same, Int.mul_nonneg (Int.emod_nonneg _ (by decide +kernel)) (ite_n _), Int.emod_nonneg _ (by decide), Int.emod_lt_of_pos _ (by decide), by decide, by decide⟩⟩
theorem ok_take (T : Txt K mg A) : FnOk P w K mg base CX0 1 A.f_take A.d_take ["_law_box_here", "_law_many"] (spTake) := by
  refine T.F_take.ok sc_take (fun vs H Q E h => ?_) (fun cdv A0 outer s H vs Q E hr h => ?_)
  · obtain ⟨_, _, _, rfl, _⟩ := h
    rfl
  · have hu := hu_of hr
    obtain ⟨p, n, N, rfl, ⟨a, b, c, hp, ha, hb, hb2, hc, hc2⟩, hn, hn2, hN, k⟩ := h
    refine ⟨_, (pss_cons (ps_if (pt_cmpR op_gt (pe_ix ix_list (pv 0) pe_int (fun _ _ => rfl)) pe_int (nomark _)) (pss_cons (ps_set (i := 2) sc_take.nd rfl (Or.inl rfl) (pe_op op_mod (pe_callTy call_int1 (by rfl) T.g_int (by decide +kernel) (pa_cons (pe_ix ix_list (pv 0) pe_int (fun _ _ => rfl)) pa_nil)) (pv 1)))
      (pss_cons (ps_asg (pe_op op_fdiv (pe_ix ix_list (pv 0) pe_int (fun _ _ => rfl)) (pv 1)) (pg_sub (pv 0) pe_int set_list))
      (pss_one (ps_ret (pv 2))))) pss_nil)
      (pss_cons (ps_asg (pe_op op_add (pe_ix ix_list (pv 0) pe_int (fun _ _ => rfl)) pe_int) (pg_sub (pv 0) pe_int set_list))
      (pss_cons (ps_set (i := 3) sc_take.nd rfl (Or.inl rfl) (pe_ix ix_list (pe_lst (pa_cons pe_int (pa_cons pe_int (pa_cons pe_int (pa_cons pe_int (pa_cons pe_int pa_nil)))))) (pe_op op_mod (pe_callTy call_int1 (by rfl) T.g_int (by decide +kernel) (pa_cons (pe_ix ix_list (pv 0) pe_int (fun _ _ => rfl)) pa_nil)) pe_int) (fun _ _ => rfl)))
      (pss_cons (ps_set (i := 4) sc_take.nd rfl (Or.inl rfl) (pe_op op_mod (pe_callTy call_int1 (by rfl) T.g_int (by decide +kernel) (pa_cons (pe_op op_pow (pe_callTy call_int1 (by rfl) T.g_int (by decide +kernel) (pa_cons (pe_op op_add (pe_op op_add (pe_ix ix_list (pv 0) pe_int (fun _ _ => rfl)) (pe_op op_mul (pe_op op_mul pe_int (pe_ix ix_list (pv 0) pe_int (fun _ _ => rfl))) (pe_ix ix_list (pv 0) pe_int (fun _ _ => rfl)))) pe_int) pa_nil)) pe_int) pa_nil)) (pv 3)))
      (pss_cons (ps_set (i := 5) sc_take.nd rfl (Or.inl rfl) (pe_op op_mod (pe_callTy call_int1 (by rfl) T.g_int (by decide +kernel) (pa_cons (pe_op op_mul (pv 4) (pe_op op_add (pe_op op_mod (pe_callTy call_int1 (by rfl) T.g_int (by decide +kernel) (pa_cons (pv 4) pa_nil)) pe_int) (pe_op op_mul pe_int (pe_ix ix_list (pv 0) pe_int (fun _ _ => rfl))))) pa_nil)) pe_int))
      (pss_one (ps_ret (pe_op op_mod (pe_callTy call_int1 (by rfl) T.g_int (by decide +kernel) (pa_cons (pe_op op_fdiv (pv 5) pe_int) pa_nil)) (pv 1))))))))), ?_⟩
    refine ⟨_, rfl, p, _, _, _, rfl, rfl, SqL.of hp, rfl, _, _, rfl, rfl, _, rfl, if_dec (fun h1 => ?_) (fun h1 => ?_)⟩
    · refine ⟨_, rfl, p, _, _, _, rfl, rfl, SqL.of hp, rfl, .inl ⟨_, rfl, _, rfl, _, _, rfl, rfl, (by show (0 : Int) < n; omega), ?_⟩⟩
      refine ⟨_, rfl, p, _, _, _, rfl, rfl, SqL.of hp, rfl, _, rfl, _, _, rfl, rfl, ⟨hn, by omega⟩, _, rfl, p, _, _, _, rfl, rfl, hp, rfl, ?_⟩
      refine ⟨_, rfl, k _ _ (Int.emod_nonneg _ (by omega)) (Int.emod_lt_of_pos _ hn) XB.wr ⟨_, _, _, upd_same, Int.ediv_nonneg ha (by omega), hb, hb2, hc, by omega⟩⟩
    · refine ⟨_, rfl, p, _, _, _, rfl, rfl, SqL.of hp, rfl, _, _, rfl, rfl, _, rfl, p, _, _, _, rfl, rfl, hp, rfl, ?_⟩
      refine ⟨(by show 5 ≤ sizeLine; decide), fun l hl => ?_⟩
      have hp1 : (upd H p (.lst [.int a, .int b, .int (c + 1)])) p = some (.lst [.int a, .int b, .int (c + 1)]) := upd_same
      have npl : p ≠ l := ne_of_none hp1 hl
      obtain ⟨q, hq, hq0, hq1⟩ := at_prime (c + 1)
      have hp2 : (upd (upd H p (.lst [.int a, .int b, .int (c + 1)])) l (.lst [V.int 2147483647, .int 2147483629, .int 2147483587, .int 2147483579, .int 2147483563])) p = some (.lst [.int a, .int b, .int (c + 1)]) := by rw [upd_ne npl]; exact hp1
      have hl2 : (upd (upd H p (.lst [.int a, .int b, .int (c + 1)])) l (.lst [V.int 2147483647, .int 2147483629, .int 2147483587, .int 2147483579, .int 2147483563])) l = some (.lst [V.int 2147483647, .int 2147483629, .int 2147483587, .int 2147483579, .int 2147483563]) := upd_same
      have hx2 : XB p H (upd (upd H p (.lst [.int a, .int b, .int (c + 1)])) l (.lst [V.int 2147483647, .int 2147483629, .int 2147483587, .int 2147483579, .int 2147483563])) := XB.tr XB.wr (Ex.xb (Ex.nw hl))
      refine ⟨_, rfl, p, _, _, _, rfl, rfl, SqL.of hp2, rfl, .inl ⟨_, rfl, _, _, rfl, rfl, (by show (0 : Int) < _; decide), l, _, _, _, rfl, rfl, SqL.of hl2, hq, ?_⟩⟩
      obtain ⟨s0, s1⟩ := sq_le (c := c + 1) (m := 65551) (by omega) (by omega) (by decide)
      refine ⟨_, rfl, p, _, _, _, rfl, rfl, SqL.of hp2, rfl, _, rfl, p, _, _, _, rfl, rfl, SqL.of hp2, rfl, _, _, rfl, rfl, (.inl ⟨by decide, by decide⟩), _, rfl, p, _, _, _, rfl, rfl, SqL.of hp2, rfl, _, _, rfl, rfl, (.inl ⟨by omega, by omega⟩), _, _, rfl, rfl, _, _, rfl, rfl, .inl ⟨_, rfl, ?_⟩⟩
      refine ⟨_, _, rfl, rfl, (by show CPow _ _; exact ⟨by decide, by decide, by omega⟩), .inl ⟨_, rfl, ?_⟩⟩
      refine ⟨_, rfl, _, _, rfl, rfl, (by show (0 : Int) < q; exact hq0), ?_⟩
      have m0 : ∀ z : Int, -(2 ^ 64) < z % q ∧ z % q < 2 ^ 64 := fun z => ⟨Int.lt_of_lt_of_le (by decide) (Int.emod_nonneg z (by omega)), Int.lt_of_lt_of_le (Int.lt_of_lt_of_le (Int.emod_lt_of_pos z hq0) hq1) (by decide)⟩
      refine ⟨_, rfl, _, rfl, .inl ⟨_, rfl, ?_⟩⟩
      refine ⟨_, _, rfl, rfl, (by show (0 : Int) < _; decide), _, rfl, p, _, _, _, rfl, rfl, SqL.of hp2, rfl, _, _, rfl, rfl, (.inl ⟨by decide, by decide⟩), _, _, rfl, rfl, _, _, rfl, rfl, (.inl (m0 _)), .inl ⟨_, rfl, ?_⟩⟩
      refine ⟨_, _, rfl, rfl, (by show (0 : Int) < _; decide), ?_⟩
      refine ⟨_, rfl, _, _, rfl, rfl, ⟨by decide, by decide⟩, .inl ⟨_, rfl, ?_⟩⟩
      refine ⟨_, rfl, _, _, rfl, rfl, (by show (0 : Int) < n; exact hn), ?_⟩
      exact k _ _ (Int.emod_nonneg _ (by omega)) (Int.emod_lt_of_pos _ hn) hx2 ⟨_, _, _, hp2, ha, hb, hb2, by omega, by omega⟩
theorem ok_of (T : Txt K mg A) : FnOk P w K mg base CX0 2 A.f_of A.d_of ["_law_box_here", "_law_some"] (spOf K) := by
  refine T.F_of.ok sc_of (fun vs H Q E h => ?_) (fun cdv A0 outer s H vs Q E hr h => ?_)
  · obtain ⟨_, _, _, _, rfl, _⟩ := h
    rfl
  · have hu := hu_of hr
    obtain ⟨p, l, xs, N, rfl, hp, hl, nlp, h0, h1, hN, k⟩ := h
    refine ⟨_, (pss_one (ps_ret (pe_ix ix_list (pv 1) (pe_call (ok_take T) (hr.mono (by decide)) (by rfl) T.m_take T.F_take.kp T.b_take .nil pass0 (pa_cons (pv 0) (pa_cons (pe_callB call_len_seq (by rfl) T.g_len (by decide +kernel) (pa_cons (pv 1) pa_nil)) pa_nil))) (fun _ _ => rfl)))), ?_⟩
    refine ⟨_, rfl, _, rfl, _, rfl, l, _, rfl, .inl hl, p, _, N, rfl, hp, by omega, by omega, hN, fun d H1 d0 d1 e1 hp1 => ?_⟩
    obtain ⟨jj, rfl⟩ := Int.eq_ofNat_of_zero_le d0
    have hj : jj < xs.length := by omega
    have hgt : xs[jj]? = some xs[jj] := List.getElem?_eq_getElem hj
    exact ⟨l, _, _, _, rfl, rfl, sql_xb hl nlp e1, atI_nat hgt, k jj _ H1 hgt e1 hp1⟩
theorem ok_ofS (T : Txt K mg A) : FnOk P w K mg base CX0 2 A.f_of A.d_of ["_law_box_here", "_law_some"] (spOfS) := by
  refine T.F_of.ok sc_of (fun vs H Q E h => ?_) (fun cdv A0 outer s H vs Q E hr h => ?_)
  · obtain ⟨_, _, _, rfl, _⟩ := h
    rfl
  · have hu := hu_of hr
    obtain ⟨p, z, N, rfl, hp, h0, h1, hN, k⟩ := h
    refine ⟨_, (pss_one (ps_ret (pe_ix ix_str (pv 1) (pe_call (ok_take T) (hr.mono (by decide)) (by rfl) T.m_take T.F_take.kp T.b_take .nil pass0 (pa_cons (pv 0) (pa_cons (pe_callB call_len_str (by rfl) T.g_len (by decide +kernel) (pa_cons (pv 1) pa_nil)) pa_nil))) (fun _ _ => rfl)))), ?_⟩
    have lz : z.length = z.cps.toList.length := by show z.cps.size = _; simp
    refine ⟨_, rfl, _, rfl, _, rfl, z, rfl, Nat.le_of_lt (Nat.lt_of_lt_of_le h1 (by decide)), p, _, N, rfl, hp, by omega, by omega, hN, fun d H1 d0 d1 e1 hp1 => ?_⟩
    obtain ⟨jj, rfl⟩ := Int.eq_ofNat_of_zero_le d0
    have hj : jj < z.cps.toList.length := by omega
    have hgt : z.cps.toList[jj]? = some z.cps.toList[jj] := List.getElem?_eq_getElem hj
    exact ⟨z, _, _, rfl, rfl, Nat.le_of_lt (Nat.lt_of_lt_of_le h1 (by decide)), atI_nat hgt, k jj _ H1 hgt e1 hp1⟩
end
end K65
set_option Elab.async false
set_option linter.all false
set_option maxRecDepth 100000
set_option maxHeartbeats 4400000
namespace K65
open PySem PySem.Spec PyProof.Rows L2 HX
open PySem.W (Frag)


def spFill : Sp := fun vs H Q _ => ∃ L : Lore, vs = [.int L.sz, .int L.mo] ∧ 2 ≤ L.sz ∧ L.sz < 5 ∧ 1 ≤ L.mo ∧ L.mo < 3 ∧ OutL H (itemsD L) Q
theorem itemsTo_len2 (L : Lore) (s0 : 0 ≤ L.sz) (s1 : L.sz < 5) : ∀ k, (itemsTo L k).length ≤ 1 + 5 * k
  | 0 => by simp [itemsTo]
  | k + 1 => by
    rw [itemsTo_succ, List.length_append]
    have ih := itemsTo_len2 L s0 s1 k
    have : (rowOf L k).length ≤ 5 := by
      unfold rowOf
      split
      · rw [List.length_cons, List.length_map]; unfold intsD; rw [List.length_map, List.length_range]; omega
      · simp
    omega
/-- lots, each a list of its own -/
def LotsAt (H : Hp) (l : Addr) (lots : List (List PyData)) : Prop := ∃ xs, H l = some (.lst xs) ∧ xs.length = lots.length ∧ ∀ (i : Nat) (x : V), xs[i]? = some x → ∃ (a : Addr) (ys : List V) (ds : List PyData), x = V.ref a ∧ lots[i]? = some ds ∧ H a = some (.lst ys) ∧ TzL H ys ds
theorem LotsAt.ex {H H' : Hp} {l : Addr} {lots : List (List PyData)} (h : LotsAt H l lots) (e : Ex H H') : LotsAt H' l lots := let ⟨xs, h1, h2, h3⟩ := h; ⟨xs, e _ _ h1, h2, fun i x hx => let ⟨a, ys, ds, q1, q2, q3, q4⟩ := h3 i x hx; ⟨a, ys, ds, q1, q2, e _ _ q3, q4.ex e⟩⟩
def spProd : Sp := fun vs H Q _ => ∃ (l : Addr) (lots : List (List PyData)), vs = [.ref l] ∧ LotsAt H l lots ∧ lots.length ≤ 5 ∧ (∀ i, (prodD (lots.take i)).length ≤ 900) ∧ OutL H ((prodD lots).map PyData.tuple) Q

section
variable {P : Program} {w : World} {K : Frag} {mg : Str → Option Value} {base : Heap} {A : Ad}

theorem ok_fillings (T : Txt K mg A) : FnOk P w K mg base CX0 1 A.f_fillings A.d_fillings ["_law_size", "_law_most"] (spFill) := by
  refine T.F_fillings.ok sc_fillings (fun vs H Q E h => ?_) (fun cdv A0 outer s H vs Q E hr h => ?_)
  · obtain ⟨_, rfl, _⟩ := h
    rfl
  · have hu := hu_of hr
    obtain ⟨L, rfl, s0, s1, m0, m1, k⟩ := h
    refine ⟨_, (pss_cons (ps_set (i := 2) sc_fillings.nd rfl (Or.inl rfl) (pe_lst (pa_cons (pe_tup pa_nil) pa_nil)))
      (pss_cons (ps_for PassesOwn.never rfl (pi_range1 rfl T.g_range (pa_cons (pv 0) pa_nil)) (pg_name (i := 3) sc_fillings.nd rfl (Or.inr rfl)) (pss_cons (ps_expr (pe_bm PySem.F.plainAttrs_list PySem.F.slot_list_append PySem.F.type_list_append mt_append (pv 2) (pa_cons (pe_tup (pa_cons (pv 3) pa_nil)) pa_nil)))
      (pss_one (ps_if (pt_cmpR op_eq (pv 1) pe_int (nomark _)) (pss_one (ps_expr (pe_bm PySem.F.plainAttrs_list PySem.F.slot_list_extend PySem.F.type_list_extend mt_extend (pv 2) (pa_cons (pe_lc (own := [("_law_two", 4)]) (g := (gName 4)) (tt := tYes) rfl sc_fillings.nd (pi_range1 rfl T.g_range (pa_cons (pv 0) pa_nil)) (blkOk_by (N := N_fillings) (sc := defScope s_fillings) (by decide +kernel)) (fun _ _ _ _ _ => pg_name (i := 4) sc_fillings.nd rfl (Or.inl rfl)) (fun _ _ _ _ _ => pts_nil) (fun _ _ _ _ _ => (pe_tup (pa_cons (pv 3) (pa_cons (pv 4) pa_nil))))) pa_nil)))) pss_nil))))
      (pss_one (ps_ret (pv 2))))), ?_⟩
    refine ⟨(by show 0 ≤ sizeLine; decide), fun t nt => ⟨(by show 1 ≤ sizeLine; decide), fun f nf => ?_⟩⟩
    have et : Ex H (upd H t (.tup [])) := Ex.nw nt
    have ef : Ex (upd H t (.tup [])) (upd (upd H t (.tup [])) f (.lst [.ref t])) := Ex.nw nf
    obtain ⟨G, EG⟩ : ∃ z, z = upd (upd H t (.tup [])) f (.lst [.ref t]) := ⟨_, rfl⟩
    have hf : G f = some (.lst [.ref t]) := by rw [EG]; exact upd_same
    rw [← EG] at ef ⊢
    have eG := et.tr ef
    have nHf := none_of_ex et nf
    refine ⟨_, rfl, ⟨L.sz, rfl, by omega, by omega, for_range (lo := 0) (n := L.sz.toNat) (fun i σ H' => (∃ u2 u3 xs, σ = [some (.int L.sz), some (.int L.mo), some (.ref f), u2, u3] ∧ H' f = some (.lst xs) ∧ TzL H' xs (itemsTo L i)) ∧ Ex H H') ⟨⟨_, _, _, rfl, hf, TzL.one (TzL.tup TzL.nil (ef _ _ upd_same))⟩, eG⟩ ?_ ?_⟩⟩
    · rintro i σ H2 hi ⟨⟨u2, u3, xs, rfl, hf2, hx⟩, e2⟩
      have lx : xs.length ≤ 1 + 5 * i := by rw [hx.1]; exact itemsTo_len2 L (by omega) s1 i
      rw [Int.zero_add]
      refine ⟨_, rfl, .inl ⟨rfl, _, SqL.of hf2⟩, _, rfl, (by show 1 ≤ sizeLine; decide), fun t2 nt2 => ?_⟩
      have e3 : Ex H2 (upd H2 t2 (.tup [.int (i : Int)])) := Ex.nw nt2
      refine ⟨f, _, _, rfl, rfl, e3 _ _ hf2, small (by omega), ?_⟩
      have nft : f ≠ t2 := ne_of_none hf2 nt2
      obtain ⟨H3, E3⟩ : ∃ z, z = upd (upd H2 t2 (.tup [.int (i : Int)])) f (.lst (xs ++ [.ref t2])) := ⟨_, rfl⟩
      rw [← E3]
      have hf3 : H3 f = some (.lst (xs ++ [.ref t2])) := by rw [E3]; exact upd_same
      have eH3 : Ex H H3 := by rw [E3]; exact ex_mu (e2.tr e3) nHf
      have hx3 : TzL H3 (xs ++ [.ref t2]) (itemsTo L i ++ [PyData.tuple [.int (i : Int)]]) := by
        have q : TzL (upd H2 t2 (.tup [.int (i : Int)])) (xs ++ [.ref t2]) (itemsTo L i ++ [PyData.tuple [.int (i : Int)]]) := (hx.ex e3).snoc (TzL.tup (TzL.one (.int _)) upd_same)
        rw [E3]; exact q.te (te_lst (e3 _ _ hf2))
      refine ⟨_, rfl, rfl, _, rfl, ?_⟩
      rw [dec_intV]
      by_cases hm : 1 < L.mo
      · refine HX.if_true (decide_eq_true (by omega)) ?_
        refine ⟨_, rfl, .inl ⟨rfl, _, SqL.of hf3⟩, _, rfl, ⟨L.sz, rfl, by omega, by omega, fun D nD => lc_tz walk_range (fun j => .tuple [.int (i : Int), .int (j : Int)]) (by omega) nD (fun _ _ => trivial) (fun j xv H4 H5 Kq hj e4 y kq => ?_) (fun H4 us e4 hD hus => ?_)⟩⟩
        · obtain ⟨rfl, rfl⟩ := y
          exact ⟨rfl, _, rfl, _, rfl, (by show 2 ≤ sizeLine; decide), fun q nq => kq _ _ (Ex.nw nq) (TzL.tup (TzL.cons (.int _) (TzL.one (by show Tz _ (V.int (0 + (j : Int))) _; rw [Int.zero_add]; exact .int _))) upd_same)⟩
        · have lu : us.length ≤ 4 := by rw [hus.1, List.length_map, List.length_range]; omega
          refine ⟨f, D, _, _, rfl, rfl, e4 _ _ hf3, hD, Nat.le_of_lt (small (by rw [List.length_append]; show xs.length + 1 + us.length < 1000; omega)), ⟨⟨_, _, _, rfl, upd_same, ?_⟩, ex_mu (eH3.tr e4) nHf⟩⟩
          rw [itemsTo_succ]
          have q : rowOf L i = [PyData.tuple [.int (i : Int)]] ++ (List.range L.sz.toNat).map fun j : Nat => PyData.tuple [.int (i : Int), .int (j : Int)] := by
            unfold rowOf
            rw [if_pos hm, ints_map]; rfl
          rw [q, ← List.append_assoc]
          exact ((hx3.ex e4).app hus).te (te_lst (e4 _ _ hf3))
      · refine HX.if_false (decide_eq_false (by omega)) ?_
        refine ⟨⟨_, _, _, rfl, hf3, ?_⟩, eH3⟩
        rw [itemsTo_succ]
        have q : rowOf L i = [PyData.tuple [.int (i : Int)]] := by unfold rowOf; rw [if_neg hm]
        rw [q]; exact hx3
    · rintro σ H2 ⟨⟨u2, u3, xs, rfl, hf2, hx⟩, e2⟩
      exact ⟨_, rfl, k f xs H2 e2 nHf hf2 hx⟩
theorem ok_products (T : Txt K mg A) : FnOk P w K mg base CX0 1 A.f_products A.d_products ["_law_lots"] (spProd) := by
  refine T.F_products.ok sc_products (fun vs H Q E h => ?_) (fun cdv A0 outer s H vs Q E hr h => ?_)
  · obtain ⟨_, _, rfl, _⟩ := h
    rfl
  · have hu := hu_of hr
    obtain ⟨l, lots, rfl, ⟨xs, hl, lx, hat⟩, l5, hb, k⟩ := h
    refine ⟨_, (pss_cons (ps_set (i := 1) sc_products.nd rfl (Or.inl rfl) (pe_lst (pa_cons (pe_tup pa_nil) pa_nil)))
      (pss_cons (ps_for PassesOwn.never rfl (pi_list (pv 0)) (pg_name (i := 2) sc_products.nd rfl (Or.inl rfl)) (pss_cons (ps_set (i := 3) sc_products.nd rfl (Or.inl rfl) (pe_lst pa_nil))
      (pss_cons (ps_for PassesOwn.never rfl (pi_list (pv 1)) (pg_name (i := 4) sc_products.nd rfl (Or.inr rfl)) (pss_one (ps_expr (pe_bm PySem.F.plainAttrs_list PySem.F.slot_list_extend PySem.F.type_list_extend mt_extend (pv 3) (pa_cons (pe_lc (own := [("_law_thing", 5)]) (g := (gName 5)) (tt := tYes) rfl sc_products.nd (pi_list (pv 2)) (blkOk_by (N := N_products) (sc := defScope s_products) (by decide +kernel)) (fun _ _ _ _ _ => pg_name (i := 5) sc_products.nd rfl (Or.inl rfl)) (fun _ _ _ _ _ => pts_nil) (fun _ _ _ _ _ => (pe_op (op_catAK (K := K) rfl) (pv 4) (pe_tup (pa_cons (pv 5) pa_nil))))) pa_nil)))))
      (pss_one (ps_set (i := 1) sc_products.nd rfl (Or.inl rfl) (pv 3))))))
      (pss_one (ps_ret (pv 1))))), ?_⟩
    refine ⟨(by show 0 ≤ sizeLine; decide), fun t nt => ⟨(by show 1 ≤ sizeLine; decide), fun f0 nf0 => ?_⟩⟩
    have et : Ex H (upd H t (.tup [])) := Ex.nw nt
    have el : Ex (upd H t (.tup [])) (upd (upd H t (.tup [])) f0 (.lst [.ref t])) := Ex.nw nf0
    obtain ⟨G, EG⟩ : ∃ z, z = upd (upd H t (.tup [])) f0 (.lst [.ref t]) := ⟨_, rfl⟩
    have hf0 : G f0 = some (.lst [.ref t]) := by rw [EG]; exact upd_same
    rw [← EG] at el ⊢
    have eG := et.tr el
    have nHf := none_of_ex et nf0
    have h0 : TzL G [.ref t] ((prodD (lots.take 0)).map PyData.tuple) := TzL.one (TzL.tup TzL.nil (el _ _ upd_same))
    refine ⟨_, rfl, l, rfl, ⟨_, SqL.of (eG _ _ hl)⟩, for_it (walk_list (xs := xs)) (fun i σ H' => (∃ u2 u3 u4 u5 f us, σ = [some (.ref l), some (.ref f), u2, u3, u4, u5] ∧ H f = none ∧ H' f = some (.lst us) ∧ TzL H' us ((prodD (lots.take i)).map PyData.tuple)) ∧ Ex G H') ⟨⟨_, _, _, _, _, _, rfl, nHf, hf0, h0⟩, Ex.rf _⟩ (fun i σ H' _ p => SqL.of (p.2 _ _ (eG _ _ hl))) ?_ ?_⟩
    · rintro i xv σ H9 H2 hi ⟨⟨u2, u3, u4, u5, f, us, rfl, nf, hf, hx⟩, e2⟩ ⟨rfl, hxi⟩
      obtain ⟨a, ys, ds, rfl, hds, ha, hys⟩ := hat i xv hxi
      have hus : us.length = (prodD (lots.take i)).length := by rw [hx.1, List.length_map]
      have f2 := hb (i + 1)
      rw [take_snoc hds, prodD_snoc, addD_len] at f2
      have eG2 := eG.tr e2
      refine ⟨(by show 0 ≤ sizeLine; decide), fun m nm => ?_⟩
      have em : Ex H2 (upd H2 m (.lst [])) := Ex.nw nm
      obtain ⟨G3, EG3⟩ : ∃ z, z = upd H2 m (.lst []) := ⟨_, rfl⟩
      have hm : G3 m = some (.lst []) := by rw [EG3]; exact upd_same
      rw [← EG3] at em ⊢
      have ha3 := em _ _ (eG2 _ _ ha)
      have hys3 := hys.ex (eG2.tr em)
      have hf3 := em _ _ hf
      have hx3 := hx.ex em
      have nHm : H m = none := none_of_ex eG2 nm
      refine ⟨_, rfl, f, rfl, ⟨_, SqL.of hf3⟩, for_it (walk_list (xs := us)) (fun j σ H' => (∃ u4 u5 ws, σ = [some (.ref l), some (.ref f), some (.ref a), some (.ref m), u4, u5] ∧ H' m = some (.lst ws) ∧ TzL H' ws ((addD ((prodD (lots.take i)).take j) ds).map PyData.tuple)) ∧ Ex H2 H') ⟨⟨_, _, _, rfl, hm, TzL.nil⟩, em⟩ (fun j σ H' _ p => SqL.of (p.2 _ _ hf)) ?_ ?_⟩
      · rintro j uv σ H7 H4 hj ⟨⟨u4, u5, ws, rfl, hm4, hws⟩, e4⟩ ⟨rfl, huj⟩
        have hf4 := e4 _ _ hf
        have ha4 := e4 _ _ (eG2 _ _ ha)
        obtain ⟨dv, hdv, tv⟩ := hx.gotV huj
        rw [List.getElem?_map] at hdv
        obtain ⟨vl, hvl, rfl⟩ := Option.map_eq_some_iff.mp hdv
        obtain ⟨p, ts, rfl, hp, hts⟩ := (tv.ex e4).tupI
        have lt5 : ts.length ≤ 5 := by
          rw [hts.1, prodD_each _ (lots.take i) rfl vl (List.mem_of_getElem? hvl), List.length_take]; omega
        have ly := hys.1
        have ld : ds.length ≤ 900 := by
          have : 1 * ds.length ≤ (prodD (lots.take i)).length * ds.length := Nat.mul_le_mul_right _ (by have := (List.getElem?_eq_some_iff.mp hvl).1; omega)
          omega
        have hws1 := hws.1
        have hwl : ws.length ≤ (prodD (lots.take i)).length * ds.length := by
          rw [hws1, List.length_map, addD_len]
          exact Nat.mul_le_mul_right _ (by rw [List.length_take]; omega)
        have hwl2 : ws.length + ds.length ≤ (prodD (lots.take i)).length * ds.length := by
          rw [hws1, List.length_map, addD_len, List.length_take, Nat.min_eq_left (by omega), ← Nat.succ_mul]
          exact Nat.mul_le_mul_right _ (by omega)
        refine ⟨_, rfl, .inl ⟨rfl, _, SqL.of hm4⟩, _, rfl, a, rfl, ⟨_, SqL.of ha4⟩, fun D nD => lc_tz (walk_list (xs := ys)) (fun n => .tuple (vl ++ [ds[n]?.getD .none])) (by omega) nD (fun H' e => SqL.of (e _ _ ha4)) (fun n xv H5 H6 Kq hn e5 y kq => ?_) (fun H5 zs e5 hD hzs => ?_)⟩
        · obtain ⟨rfl, hyn⟩ := y
          obtain ⟨dn, hdn, tn⟩ := hys.gotV hyn
          refine ⟨rfl, _, rfl, _, rfl, (by show 1 ≤ sizeLine; decide), fun q nq => ?_⟩
          have eq1 := Ex.nw (o := .tup [xv]) nq
          refine ⟨p, q, ts, [xv], rfl, rfl, SqT.of (eq1 _ _ (e5 _ _ hp)), SqT.of upd_same, Nat.le_of_lt (small (by show ts.length + 1 < 1000; omega)), ?_⟩
          have tn6 := (tn.ex (eG2.tr (e4.tr e5))).ex eq1
          have ts6 := (hts.ex e5).ex eq1
          have ed : ds[n]?.getD .none = dn := by rw [hdn]; rfl
          rw [ed] at kq
          refine ⟨fun h => ?_, (fun _ h => by cases h), fun _ _ r nr => ?_⟩
          · have hv : vl = [] := List.eq_nil_of_length_eq_zero (by rw [← hts.1, h]; rfl)
            rw [hv] at kq
            exact kq _ _ eq1 ((TzL.one tn6).tup upd_same)
          · have er := Ex.nw (o := .tup (ts ++ [xv])) nr
            exact kq _ _ (eq1.tr er) (((ts6.snoc tn6).ex er).tup upd_same)
        · have hm5 := e5 _ _ hm4
          have nmH2 : H2 m = none := nm
          have hz1 := hzs.1
          rw [List.length_map, List.length_range] at hz1
          refine ⟨m, D, _, _, rfl, rfl, hm5, hD, Nat.le_of_lt (small (by omega)), ⟨⟨_, _, _, rfl, upd_same, ?_⟩, ex_mu (e4.tr e5) nmH2⟩⟩
          have q : (addD ((prodD (lots.take i)).take (j + 1)) ds).map PyData.tuple = (addD ((prodD (lots.take i)).take j) ds).map PyData.tuple ++ (List.range ys.length).map fun n => PyData.tuple (vl ++ [ds[n]?.getD .none]) := by
            rw [take_snoc hvl]
            unfold addD
            rw [List.flatMap_append, List.map_append]
            congr 1
            rw [List.flatMap_cons, List.flatMap_nil, List.append_nil, List.map_map]
            conv => lhs; rw [← getD_map ly]
            rw [List.map_map]; rfl
          rw [q]
          exact ((hws.ex e5).app hzs).te (te_lst hm5)
      · rintro σ H4 ⟨⟨u4, u5, ws, rfl, hm4, hws⟩, e4⟩
        rw [List.take_of_length_le (by omega)] at hws
        refine ⟨_, rfl, ⟨_, _, _, _, _, _, rfl, nHm, hm4, ?_⟩, e2.tr e4⟩
        rw [take_snoc hds, prodD_snoc]
        exact hws
    · rintro σ H2 ⟨⟨u2, u3, u4, u5, f, us, rfl, nf, hf, hx⟩, e2⟩
      rw [lx, List.take_length] at hx
      exact ⟨_, rfl, k f us H2 (eG.tr e2) nf hf hx⟩
end
end K65
set_option Elab.async false
set_option linter.all false
set_option maxRecDepth 100000
set_option maxHeartbeats 4400000
namespace K65
open PySem PySem.Spec PyProof.Rows L2 HX
open PySem.W (Frag)

theorem none_of_xb {p q : Addr} {H H' : Hp} (e : XB p H H') (n : q ≠ p) (h : H' q = none) : H q = none := by
  cases z : H q with
  | none => rfl
  | some u => exact absurd (e _ _ n z) (by rw [h]; simp)
theorem sub_next {ss gs : List Str} {i : Nat} {z : Str} (h : gs.Sublist (ss.take i)) (hz : ss[i]? = some z) : (gs ++ [z]).Sublist (ss.take (i + 1)) := by
  rw [List.take_add_one, hz]
  exact h.append (List.Sublist.refl _)
theorem sub_stay {ss gs : List Str} {i : Nat} (h : gs.Sublist (ss.take i)) : gs.Sublist (ss.take (i + 1)) := h.trans (by rw [List.take_add_one]; exact List.sublist_append_left _ _)
theorem pairs_ofL {α : Type} {P : α → Prop} {f : Str → α → PyData} : ∀ {ss : List Str} {ds : List PyData}, ds.length = ss.length → (∀ (i : Nat) (d : PyData), ds[i]? = some d → ∃ s z, ss[i]? = some s ∧ d = f s z ∧ P z) → ∃ l : List (Str × α), ds = l.map (fun q => f q.1 q.2) ∧ l.map (·.1) = ss ∧ ∀ q ∈ l, P q.2
  | [], [], _, _ => ⟨[], rfl, rfl, fun q h => by cases h⟩
  | _ :: _, [], h, _ => by simp at h
  | [], _ :: _, h, _ => by simp at h
  | s :: ss, d :: ds, h, g => by
    obtain ⟨s', z, hs, rfl, hz⟩ := g 0 d rfl
    cases hs
    obtain ⟨l, rfl, rfl, hl⟩ := pairs_ofL (ss := ss) (ds := ds) (by simpa using h) fun i d e => g (i + 1) d (by simpa using e)
    exact ⟨(s, z) :: l, rfl, rfl, fun q hq => (List.mem_cons.mp hq).elim (fun e => e ▸ hz) (hl q)⟩

def landK (sz mo : Int) (ln lo xw : Addr) : List (Key × V) := mergeK [] [(.inr ("size" : Str), .int sz), (.inr ("most" : Str), .int mo), (.inr ("cells" : Str), .ref ln), (.inr ("rows" : Str), .ref lo), (.inr ("world" : Str), .ref xw)]
def LandAt (K : Frag) (C : Addr) (H : Hp) (d : Addr) (L : Lore) : Prop := ∃ ln lo xw, H d = some (.dK (landK L.sz L.mo ln lo xw)) ∧ H ln = some (.lst (L.cs.map V.str)) ∧ H lo = some (.lst (L.rs.map V.str)) ∧ WAt K C H xw L ∧ L.lo = []
structure Small (L : Lore) : Prop where
  ok : L.Ok
  sz : L.sz = 2 ∨ L.sz = 3
  cn : L.cn.length ≤ if L.sz = 2 then 2 else 1
  rn : L.rn.length ≤ if L.mo = 2 ∨ L.cn.length = 2 then 1 else 2
def G1 : List (List Str) := [["a", "b"], ["c", "cc"], ["n", "row"]]
def G2 : List (List Str) := [["p", "q"], ["r", "rr"], ["guard", "put"]]
theorem three_at {H : Hp} {l1 l2 l3 : Addr} {g1 g2 g3 : List Str} {i : Nat} {v : V} (h : ([V.ref l1, .ref l2, .ref l3] : List V)[i]? = some v) (h1 : H l1 = some (.lst (g1.map V.str))) (h2 : H l2 = some (.lst (g2.map V.str))) (h3 : H l3 = some (.lst (g3.map V.str))) : ∃ q gs, v = .ref q ∧ H q = some (.lst (gs.map V.str)) ∧ gs ∈ [g1, g2, g3] ∧ (q = l1 ∨ q = l2 ∨ q = l3) := by
  match i, h with
  | 0, h => cases h; exact ⟨_, g1, rfl, h1, .head _, .inl rfl⟩
  | 1, h => cases h; exact ⟨_, g2, rfl, h2, .tail _ (.head _), .inr (.inl rfl)⟩
  | 2, h => cases h; exact ⟨_, g3, rfl, h3, .tail _ (.tail _ (.head _)), .inr (.inr rfl)⟩
  | i + 3, h => simp at h
theorem draw_names {K : Frag} {E : XK} {σ : L2.St} {H : Hp} {Q : VK} {p : Addr} {N : Int} {a1 b1 a2 b2 a3 b3 : Str} (h0 : σ[0]? = some (some (.ref p))) (hp : PotAt H p N) (hN : N ≤ 95000)
    (k : ∀ (q : Addr) (gs : List Str) (H' : Hp), XB p H H' → PotAt H' p (N + 1) → q ≠ p → H q = none → H' q = some (.lst (gs.map V.str)) → gs ∈ [[a1, b1], [a2, b2], [a3, b3]] → Q (.ref q) H') :
    tCall (spOf K) [] E (tCons (tVar 0) (tCons (tLstN (tCons (tLstN (tCons (tC (.str a1)) (tCons (tC (.str b1)) tNil))) (tCons (tLstN (tCons (tC (.str a2)) (tCons (tC (.str b2)) tNil))) (tCons (tLstN (tCons (tC (.str a3)) (tCons (tC (.str b3)) tNil))) tNil)))) tNil)) σ H Q := by
  refine ⟨_, h0, (by show 2 ≤ sizeLine; decide), fun l1 n1 s1 => ⟨(by show 2 ≤ sizeLine; decide), fun l2 n2 s2 => ⟨(by show 2 ≤ sizeLine; decide), fun l3 n3 s3 => ⟨(by show 3 ≤ sizeLine; decide), fun l4 n4 s4 => ?_⟩⟩⟩⟩
  have e1 := Ex.nw (o := .lst [V.str a1, .str b1]) n1
  have e2 := Ex.nw (o := .lst [V.str a2, .str b2]) n2
  have e3 := Ex.nw (o := .lst [V.str a3, .str b3]) n3
  have e4 := Ex.nw (o := .lst [V.ref l1, .ref l2, .ref l3]) n4
  have h1 := e4 _ _ (e3 _ _ (e2 _ _ (upd_same (H := H) (a := l1) (o := .lst ([a1, b1].map V.str)))))
  have h2 := e4 _ _ (e3 _ _ (upd_same (H := upd H l1 (.lst ([a1, b1].map V.str))) (a := l2) (o := .lst ([a2, b2].map V.str))))
  have h3 := e4 _ _ (upd_same (H := upd (upd H l1 (.lst ([a1, b1].map V.str))) l2 (.lst ([a2, b2].map V.str))) (a := l3) (o := .lst ([a3, b3].map V.str)))
  have m2 := none_of_ex e1 n2
  have m3 := none_of_ex (e1.tr e2) n3
  have e := e1.tr (e2.tr (e3.tr e4))
  have q1 := pot_none hp n1
  have q2 := pot_none hp m2
  have q3 := pot_none hp m3
  refine ⟨p, l4, _, N, rfl, hp.ex e, SqL.of upd_same, pot_none hp (none_of_ex (e1.tr (e2.tr e3)) n4), (by show 0 < 3; decide), (by show 3 < 1000; decide), (by omega), fun i v H5 hv x5 hp5 => ?_⟩
  obtain ⟨q, gs, rfl, hq, hgs, hl⟩ := three_at hv (x5 _ _ q1 h1) (x5 _ _ q2 h2) (x5 _ _ q3 h3)
  refine k q gs H5 ((Ex.xb e).tr x5) hp5 ?_ ?_ hq hgs
  · rcases hl with rfl | rfl | rfl <;> assumption
  · rcases hl with rfl | rfl | rfl <;> assumption
theorem or_two {σ : L2.St} {H : Hp} {Qc : VK} {a b : Int} (h2 : σ[2]? = some (some (.int a))) (h3 : σ[3]? = some (some (.int b))) (k : ∀ m : Int, m = (if a = 2 ∨ b = 2 then 2 else 3) → Qc (.int m) H) :
    tIf (tOr (tTest (tOp rEq (tVar 2) (tC (.int 2)))) (tTest (tOp rEq (tVar 3) (tC (.int 2))))) (tC (.int 2)) (tC (.int 3)) σ H Qc := by
  refine ⟨_, h2, rfl, _, rfl, ?_⟩
  by_cases c1 : a = 2
  · exact HX.if_true (decide_eq_true (by rw [c1])) (HX.if_true rfl (k 2 (by rw [if_pos (.inl c1)])))
  · refine HX.if_false (decide_eq_false (fun y => c1 (by injection y))) ?_
    refine ⟨_, h3, rfl, _, rfl, ?_⟩
    by_cases c2 : b = 2
    · exact HX.if_true (decide_eq_true (by rw [c2])) (k 2 (by rw [if_pos (.inr c2)]))
    · exact HX.if_false (decide_eq_false (fun y => c2 (by injection y))) (k 3 (by rw [if_neg (fun y => y.elim c1 c2)]))
theorem joinE {A : Prop} {R : V → Hp → Prop} {Qc : VK} (h : (∀ v G, R v G → Qc v G) → A) (k : ∀ v G, R v G → Qc v G) : A := h k
theorem cut_to (xs : List V) (n : Nat) : cutV xs none (some (n : Int)) = xs.take n := by
  unfold cutV
  rw [HT.sIx_none, HT.sIx_nat, List.drop_zero, Nat.sub_zero]
  by_cases h : n ≤ xs.length
  · rw [Nat.min_eq_left h]
  · rw [Nat.min_eq_right (by omega), List.take_length, List.take_of_length_le (by omega)]
theorem items_at {L : Lore} (s0 : 2 ≤ L.sz) (m0 : 1 ≤ L.mo) : ∀ d ∈ itemsD L, ∃ is : List Int, d = itD is ∧ (is.length : Int) ≤ L.mo ∧ ∀ i ∈ is, 0 ≤ i ∧ i < L.sz := fun d hd => by
  unfold itemsD itemsTo at hd
  rcases List.mem_cons.mp hd with rfl | hd
  · exact ⟨[], rfl, by show (0 : Int) ≤ _; omega, fun i h => by cases h⟩
  · obtain ⟨i, hi, hd⟩ := List.mem_flatMap.mp hd
    have hi := List.mem_range.mp hi
    unfold rowOf at hd
    rcases List.mem_cons.mp hd with rfl | hd
    · exact ⟨[(i : Int)], rfl, by show (1 : Int) ≤ _; omega, fun j h => by rw [List.mem_singleton.mp h]; omega⟩
    · split at hd
      · obtain ⟨c, hc, rfl⟩ := List.mem_map.mp hd
        obtain ⟨j, hj, rfl⟩ := List.mem_map.mp hc
        have hj := List.mem_range.mp hj
        refine ⟨[(i : Int), (j : Int)], rfl, by show (2 : Int) ≤ _; omega, fun k h => ?_⟩
        rcases List.mem_cons.mp h with rfl | h
        · omega
        · rw [List.mem_singleton.mp h]; omega
      · simp at hd
theorem G1_ok : ∀ gs ∈ ([["a", "b"], ["c", "cc"], ["n", "row"]] : List (List Str)), gs.length = 2 ∧ okN gs = true ∧ okN (gs.take 1) = true := by decide +kernel
theorem G2_ok : ∀ gs ∈ ([["p", "q"], ["r", "rr"], ["guard", "put"]] : List (List Str)), gs.length = 2 ∧ okN gs = true ∧ okN (gs.take 1) = true := by decide +kernel
theorem G_apart : ∀ os ∈ ([["p", "q"], ["r", "rr"], ["guard", "put"]] : List (List Str)), ∀ gs ∈ ([["a", "b"], ["c", "cc"], ["n", "row"]] : List (List Str)), ∀ x ∈ os, x ∉ gs := by decide +kernel
theorem G2_so : ∀ os ∈ ([["p", "q"], ["r", "rr"], ["guard", "put"]] : List (List Str)), ∀ x ∈ os, PyData.strOk x = true := by decide +kernel
theorem take_okN {gs : List Str} (h : gs.length = 2 ∧ okN gs = true ∧ okN (gs.take 1) = true) (n : Nat) : okN (gs.take n) = true := by
  match n with
  | 0 => rfl
  | 1 => exact h.2.2
  | n + 2 => rw [List.take_of_length_le (by omega)]; exact h.2.1
theorem pot_at {H : Hp} {p : Addr} {N : Int} (h : PotAt H p N) : ∃ zs, H p = some (.lst zs) := let ⟨_, _, _, z, _⟩ := h; ⟨_, z⟩
def spLand (K : Frag) (C : Addr) : Sp := fun vs H Q _ => ∃ (p : Addr) (N : Int), vs = [.ref p] ∧ PotAt H p N ∧ N ≤ 90000 ∧ ∀ (d : Addr) (L : Lore) (H' : Hp), XB p H H' → PotAt H' p (N + 10) → LandAt K C H' d L → Small L → H d = none → Q (.ref d) H'
theorem two_at {i : Nat} {v : V} (h : ([V.int 2, .int 2, .int 2, .int 3] : List V)[i]? = some v) : ∃ z : Int, v = .int z ∧ (z = 2 ∨ z = 3) := by
  match i, h with
  | 0, h => cases h; exact ⟨2, rfl, .inl rfl⟩
  | 1, h => cases h; exact ⟨2, rfl, .inl rfl⟩
  | 2, h => cases h; exact ⟨2, rfl, .inl rfl⟩
  | 3, h => cases h; exact ⟨3, rfl, .inr rfl⟩
  | i + 4, h => simp at h

section
variable {P : Program} {w : World} {K : Frag} {mg : Str → Option Value} {base : Heap} {A : Ad}

theorem ok_land (T : Txt K mg A) : FnOk P w K mg base CX0 6 A.f_land A.d_land ["_law_box_here"] (spLand K A.C_World) := by
  refine T.F_land.ok sc_land (fun vs H Q E h => ?_) (fun cdv A0 outer s H vs Q E hr h => ?_)
  · obtain ⟨_, _, rfl, _⟩ := h
    rfl
  · have hu := hu_of hr
    obtain ⟨kw, FW, nw⟩ := T.F_World_init
    obtain ⟨p, N, rfl, hp, hN, k⟩ := h
    refine ⟨_, (pss_cons (ps_asg (pe_tup (pa_cons (pe_call (ok_of T) (hr.mono (by decide)) (by rfl) T.m_of T.F_of.kp T.b_of .nil pass0 (pa_cons (pv 0) (pa_cons (pe_lstN (pa_cons pe_int (pa_cons pe_int (pa_cons pe_int (pa_cons pe_int pa_nil))))) pa_nil))) (pa_cons (pe_op op_add pe_int (pe_call (ok_take T) (hr.mono (by decide)) (by rfl) T.m_take T.F_take.kp T.b_take .nil pass0 (pa_cons (pv 0) (pa_cons pe_int pa_nil)))) pa_nil))) (pg_tup rfl (pgs_cons (pg_name (i := 1) sc_land.nd rfl (Or.inr rfl)) (pgs_cons (pg_name (i := 2) sc_land.nd rfl (Or.inr rfl)) pgs_nil))))
      (pss_cons (ps_set (i := 3) sc_land.nd rfl (Or.inl rfl) (pe_call (ok_take T) (hr.mono (by decide)) (by rfl) T.m_take T.F_take.kp T.b_take .nil pass0 (pa_cons (pv 0) (pa_cons (pe_ifExp (pt_cmpR op_eq (pv 1) pe_int (nomark _)) pe_int pe_int) pa_nil))))
      (pss_cons (ps_set (i := 4) sc_land.nd rfl (Or.inl rfl) (pe_slice sl_list (pe_call (ok_of T) (hr.mono (by decide)) (by rfl) T.m_of T.F_of.kp T.b_of .nil pass0 (pa_cons (pv 0) (pa_cons (pe_lstN (pa_cons (pe_lstN (pa_cons pe_str (pa_cons pe_str pa_nil))) (pa_cons (pe_lstN (pa_cons pe_str (pa_cons pe_str pa_nil))) (pa_cons (pe_lstN (pa_cons pe_str (pa_cons pe_str pa_nil))) pa_nil)))) pa_nil))) po_none (po_some (pv 3))))
      (pss_cons (ps_set (i := 5) sc_land.nd rfl (Or.inl rfl) (pe_call (ok_of T) (hr.mono (by decide)) (by rfl) T.m_of T.F_of.kp T.b_of .nil pass0 (pa_cons (pv 0) (pa_cons (pe_lstN (pa_cons (pe_lstN (pa_cons pe_str (pa_cons pe_str pa_nil))) (pa_cons (pe_lstN (pa_cons pe_str (pa_cons pe_str pa_nil))) (pa_cons (pe_lstN (pa_cons pe_str (pa_cons pe_str pa_nil))) pa_nil)))) pa_nil))))
      (pss_cons (ps_set (i := 5) sc_land.nd rfl (Or.inl rfl) (pe_slice sl_list (pv 5) po_none (po_some (pe_call (ok_take T) (hr.mono (by decide)) (by rfl) T.m_take T.F_take.kp T.b_take .nil pass0 (pa_cons (pv 0) (pa_cons (pe_ifExp (PW.pt (pw_or (pt_cmpR op_eq (pv 2) pe_int (nomark _)) (pw_or1 (pt_cmpR op_eq (pv 3) pe_int (nomark _))))) pe_int pe_int) pa_nil))))))
      (pss_cons (ps_set (i := 6) sc_land.nd rfl (Or.inl rfl) (pe_callTy call_tuple_of (by rfl) T.g_tuple (by decide +kernel) (pa_cons (pe_lc (own := [("_law_name", 9)]) (g := (gName 9)) (tt := tYes) rfl sc_land.nd (pi_list (pv 4)) (blkOk_by (N := N_land) (sc := defScope s_land) (by decide +kernel)) (fun _ _ _ _ _ => pg_name (i := 9) sc_land.nd rfl (Or.inl rfl)) (fun _ _ _ _ _ => pts_nil) (fun _ _ _ _ _ => (pe_tup (pa_cons (pv 9) (pa_cons (pe_call (ok_take T) (hr.mono (by decide)) (by rfl) T.m_take T.F_take.kp T.b_take .nil pass0 (pa_cons (pv 0) (pa_cons (pv 1) pa_nil))) pa_nil))))) pa_nil)))
      (pss_cons (ps_set (i := 7) sc_land.nd rfl (Or.inl rfl) (pe_callTy call_tuple_of (by rfl) T.g_tuple (by decide +kernel) (pa_cons (pe_lc (own := [("_law_name", 9)]) (g := (gName 9)) (tt := tYes) rfl sc_land.nd (pi_list (pv 5)) (blkOk_by (N := N_land) (sc := defScope s_land) (by decide +kernel)) (fun _ _ _ _ _ => pg_name (i := 9) sc_land.nd rfl (Or.inl rfl)) (fun _ _ _ _ _ => pts_nil) (fun _ _ _ _ _ => (pe_tup (pa_cons (pv 9) (pa_cons (pe_call (ok_of T) (hr.mono (by decide)) (by rfl) T.m_of T.F_of.kp T.b_of .nil pass0 (pa_cons (pv 0) (pa_cons (pe_call (ok_fillings T) (hr.mono (by decide)) (by rfl) T.m_fillings T.F_fillings.kp T.b_fillings .nil pass0 (pa_cons (pv 1) (pa_cons (pv 2) pa_nil))) pa_nil))) pa_nil))))) pa_nil)))
      (pss_cons (ps_set (i := 8) sc_land.nd rfl (Or.inl rfl) (pe_make T.mk_World (ok_World_init T) (hr.mono (by decide)) (by rfl) T.m_World (wbn FW).choose_spec.2 (wbn FW).choose_spec.1 pass0 (pa_cons (pv 1) (pa_cons (pv 2) (pa_cons (pv 6) (pa_cons (pv 7) pa_nil))))))
      (pss_one (ps_ret (pe_disp (pps_cons pe_str (pv 1) (pps_cons pe_str (pv 2) (pps_cons pe_str (pv 4) (pps_cons pe_str (pv 5) (pps_cons pe_str (pv 8) pps_nil))))) (by rfl) (by rfl) (fun z => by cases z) (by decide)))))))))))), ?_⟩
    refine ⟨_, rfl, (by show 4 ≤ sizeLine; decide), fun l nl ns => ?_⟩
    have el := Ex.nw (o := .lst [V.int 2, .int 2, .int 2, .int 3]) nl
    refine ⟨p, l, _, N, rfl, hp.ex el, SqL.of upd_same, pot_none hp nl, (by decide), (by decide), (by omega), fun i v H1 hv x1 hp1 => ?_⟩
    obtain ⟨sz, rfl, hsz⟩ := two_at hv
    have x1 := (Ex.xb (p := p) el).tr x1
    refine ⟨_, rfl, p, 2, N + 1, rfl, hp1, by decide, by decide, by omega, fun d H2 d0 d1 x2 hp2 => ?_⟩
    refine ⟨_, _, rfl, rfl, (by show 2 ≤ sizeLine; decide), fun t nt => ?_⟩
    have et := Ex.nw (o := .tup [V.int sz, .int (1 + d)]) nt
    have x12 := (x1.tr x2).tr (Ex.xb (p := p) et)
    refine ⟨t, _, rfl, SqT.of upd_same, rfl, _, _, rfl, _, _, rfl, rfl, ?_⟩
    have hp3 := hp2.ex et
    obtain ⟨H3, E3⟩ : ∃ z, z = upd H2 t (.tup [V.int sz, .int (1 + d)]) := ⟨_, rfl⟩
    rw [← E3] at x12 hp3 ⊢
    obtain ⟨mm, emm⟩ : ∃ m : Int, m = if sz = 2 then 3 else 2 := ⟨_, rfl⟩
    have mm1 : 2 ≤ mm ∧ mm ≤ 3 := by rw [emm]; split <;> omega
    refine ⟨_, rfl, _, rfl, rfl, _, rfl, ?_⟩
    refine bothE (R := fun v G => v = .int mm ∧ G = H3) (fun hq Qd k' => k' _ _ ⟨by rw [emm, if_pos (by injection hq)], rfl⟩) (fun hq Qd k' => k' _ _ ⟨by rw [emm, if_neg (fun z => hq (by rw [z]))], rfl⟩) ?_
    rintro _ _ ⟨rfl, rfl⟩
    refine ⟨p, mm, _, rfl, hp3, by omega, by omega, by omega, fun many H4 n0 n1 x4 hp4 => ?_⟩
    have x04 := x12.tr x4
    refine draw_names rfl hp4 (by omega) fun q gs H5 x5 hp5 nq nHq hq hgs => ?_
    obtain ⟨mn, rfl⟩ := Int.eq_ofNat_of_zero_le n0
    refine ⟨_, rfl, _, rfl, ?_⟩
    refine ⟨q, _, rfl, SqL.of hq, fun q2 nq2 => ?_⟩
    rw [cut_to, ← List.map_take]
    have e6 := Ex.nw (o := .lst ((gs.take mn).map V.str)) nq2
    have x05 := x04.tr (x5.tr (Ex.xb (p := p) e6))
    have hp6 := hp5.ex e6
    have q2p := pot_none hp5 nq2
    obtain ⟨H6, E6⟩ : ∃ y, y = upd H5 q2 (.lst ((gs.take mn).map V.str)) := ⟨_, rfl⟩
    have hq2 : H6 q2 = some (.lst ((gs.take mn).map V.str)) := by rw [E6]; exact upd_same
    rw [← E6] at x05 hp6 ⊢
    refine draw_names rfl hp6 (by omega) fun r os H7 x7 hp7 nr nHr hr hos => ?_
    have x06 := x05.tr x7
    have hq7 := x7 _ _ q2p hq2
    refine ⟨_, rfl, _, rfl, ?_⟩
    refine or_two rfl rfl fun cap ecap => ?_
    have cap1 : 2 ≤ cap ∧ cap ≤ 3 := by rw [ecap]; split <;> omega
    refine ⟨p, cap, _, rfl, hp7, by omega, by omega, by omega, fun fw H8 f0 f1 x8 hp8 => ⟨_, rfl, ?_⟩⟩
    obtain ⟨fn, rfl⟩ := Int.eq_ofNat_of_zero_le f0
    refine ⟨r, _, rfl, SqL.of (x8 _ _ nr hr), fun r2 nr2 => ?_⟩
    rw [cut_to, ← List.map_take]
    have e9 := Ex.nw (o := .lst ((os.take fn).map V.str)) nr2
    have x09 := x06.tr (x8.tr (Ex.xb (p := p) e9))
    have hp9 := hp8.ex e9
    have r2p := pot_none hp8 nr2
    obtain ⟨H9, E9⟩ : ∃ y, y = upd H8 r2 (.lst ((os.take fn).map V.str)) := ⟨_, rfl⟩
    have hr9 : H9 r2 = some (.lst ((os.take fn).map V.str)) := by rw [E9]; exact upd_same
    rw [← E9] at x09 hp9 e9 ⊢
    have hq9 := e9 _ _ (x8 _ _ q2p hq7)
    obtain ⟨cs, ecs⟩ : ∃ y, y = gs.take mn := ⟨_, rfl⟩
    obtain ⟨rs, ers⟩ : ∃ y, y = os.take fn := ⟨_, rfl⟩
    rw [← ecs] at hq9
    rw [← ers] at hr9
    have lcs : cs.length ≤ 2 := by rw [ecs, List.length_take]; omega
    have lrs : rs.length ≤ 2 := by rw [ers, List.length_take]; omega
    have lcm : (cs.map V.str).length = cs.length := List.length_map ..
    have lrm : (rs.map V.str).length = rs.length := List.length_map ..
    refine ⟨_, rfl, q2, rfl, ⟨_, SqL.of hq9⟩, fun D nD => lc_dr (walk_list (xs := cs.map V.str)) (p := p) (fun i H => PotAt H p (N + 6 + (i : Int))) (fun i d => ∃ u z, cs[i]? = some u ∧ d = pD (cP (u, z)) ∧ (0 ≤ z ∧ z < sz)) (by omega) nD (pot_none hp9 nD) (fun i H q => pot_at q) (hp9.mono (by omega)) (fun i H H' q e => q.ex e) (fun i H xs ys q hD => q.up (Ne.symm (pot_none hp9 nD))) (fun H' x => SqL.of (x _ _ q2p hq9)) (fun i xv H10 H11 Kq hi x2 hp10 y kq => ?_) (fun H10 cxs cds x10 hp10 hD hcx hcl hcg => ?_)⟩
    · obtain ⟨rfl, hxi⟩ := y
      rw [List.getElem?_map] at hxi
      obtain ⟨sn, hsn, rfl⟩ := Option.map_eq_some_iff.mp hxi
      have hi2 : i < cs.length := by omega
      refine ⟨rfl, _, rfl, _, rfl, _, rfl, p, sz, _, rfl, hp10, by omega, by omega, by omega, fun z H12 z0 z1 x12' hp12 => ⟨(by show 2 ≤ sizeLine; decide), fun y2 ny2 => kq _ _ (pD (cP (sn, z))) (XB.mu x12' (none_of_xb x12' (pot_none hp12 ny2) ny2)) ((hp12.ex (Ex.nw ny2)).mono (by push_cast; omega)) (TzL.tup (TzL.cons (.str _) (TzL.one (.int _))) upd_same) ⟨sn, z, hsn, rfl, z0, z1⟩⟩⟩
    rw [lcm] at hp10 hcl
    obtain ⟨cn, rfl, hcn, hcw⟩ := pairs_ofL (f := fun u z => pD (cP (u, z))) hcl hcg
    refine ⟨D, _, rfl, .inl ⟨SqL.of hD, fun tc ntc => ?_⟩⟩
    have ec := Ex.nw (o := .tup cxs) ntc
    have x0c := x09.tr (x10.tr (Ex.xb (p := p) ec))
    have hpc := hp10.ex ec
    have hzc : Tz (upd H10 tc (.tup cxs)) (.ref tc) (.tuple (cn.map fun q => pD (cP (q.1, q.2)))) := TzL.tup (hcx.ex ec) upd_same
    obtain ⟨Hc, EHc⟩ : ∃ y, y = upd H10 tc (.tup cxs) := ⟨_, rfl⟩
    rw [← EHc] at ec x0c hpc hzc ⊢
    have hrc := ec _ _ (x10 _ _ r2p hr9)
    have hqc := ec _ _ (x10 _ _ q2p hq9)
    obtain ⟨Lf, eLf⟩ : ∃ y : Lore, y = ⟨sz, 1 + d, [], [], []⟩ := ⟨_, rfl⟩
    have lf1 : Lf.sz = sz := by rw [eLf]
    have lf2 : Lf.mo = 1 + d := by rw [eLf]
    have lil : (itemsD Lf).length ≤ 21 := by
      have := itemsTo_len2 Lf (by omega) (by omega) Lf.sz.toNat
      show (itemsTo Lf Lf.sz.toNat).length ≤ 21
      omega
    have lil0 : 0 < (itemsD Lf).length := by show 0 < (itemsTo Lf _).length; unfold itemsTo; simp
    refine ⟨_, rfl, r2, rfl, ⟨_, SqL.of hrc⟩, fun D2 nD2 => lc_dr (walk_list (xs := rs.map V.str)) (p := p) (fun i H => PotAt H p (N + 8 + (i : Int))) (fun i d' => ∃ u is, rs[i]? = some u ∧ d' = pD (rP (u, is)) ∧ ((is.length : Int) ≤ 1 + d ∧ ∀ j ∈ is, 0 ≤ j ∧ j < sz)) (by omega) nD2 (pot_none hpc nD2) (fun i H q => pot_at q) (hpc.mono (by omega)) (fun i H H' q e => q.ex e) (fun i H xs ys q hD => q.up (Ne.symm (pot_none hpc nD2))) (fun H' x => SqL.of (x _ _ r2p hrc)) (fun i xv H11 H12 Kq hi x2 hp11 y kq => ?_) (fun H11 rxs rds x11 hp11 hD2 hrx hrl hrg => ?_)⟩
    · obtain ⟨rfl, hxi⟩ := y
      rw [List.getElem?_map] at hxi
      obtain ⟨sn, hsn, rfl⟩ := Option.map_eq_some_iff.mp hxi
      have hi2 : i < rs.length := by omega
      refine ⟨rfl, _, rfl, _, rfl, _, rfl, _, rfl, Lf, by rw [eLf]; rfl, by omega, by omega, by omega, by omega, fun fl zs H13 e13 nfl hfl hzs => ?_⟩
      have lz := hzs.1
      refine ⟨p, fl, zs, _, rfl, hp11.ex e13, SqL.of hfl, pot_none hp11 nfl, by omega, by omega, by omega, fun j v H14 hv x14 hp14 => ⟨(by show 2 ≤ sizeLine; decide), fun y2 ny2 => ?_⟩⟩
      obtain ⟨dd, hdd, tz⟩ := hzs.gotV hv
      obtain ⟨is, rfl, il, ib⟩ := items_at (L := Lf) (by omega) (by omega) dd (List.mem_of_getElem? hdd)
      obtain ⟨zz, hzz⟩ := pot_at (hp11.ex e13)
      have tz14 := tz.te (x14.te hzz)
      have x24 := (Ex.xb (p := p) e13).tr x14
      refine kq _ _ (pD (rP (sn, is))) (XB.mu x24 (none_of_xb x24 (pot_none hp14 ny2) ny2)) ((hp14.ex (Ex.nw ny2)).mono (by push_cast; omega)) (TzL.tup (TzL.cons (.str _) (TzL.one (tz14.ex (Ex.nw ny2)))) upd_same) ⟨sn, is, hsn, rfl, by omega, fun j hj => by have := ib j hj; omega⟩
    rw [lrm] at hp11 hrl
    obtain ⟨rn, rfl, hrn, hrw⟩ := pairs_ofL (f := fun u is => pD (rP (u, is))) hrl hrg
    refine ⟨D2, _, rfl, .inl ⟨SqL.of hD2, fun tr ntr => ?_⟩⟩
    have er := Ex.nw (o := .tup rxs) ntr
    have x0r := x0c.tr (x11.tr (Ex.xb (p := p) er))
    have hpr := hp11.ex er
    have hzr : Tz (upd H11 tr (.tup rxs)) (.ref tr) (.tuple (rn.map fun q => pD (rP (q.1, q.2)))) := TzL.tup (hrx.ex er) upd_same
    obtain ⟨Hr, EHr⟩ : ∃ y, y = upd H11 tr (.tup rxs) := ⟨_, rfl⟩
    rw [← EHr] at er x0r hpr hzr ⊢
    have hrr := er _ _ (x11 _ _ r2p hrc)
    have hqr := er _ _ (x11 _ _ q2p hqc)
    obtain ⟨zz, hzz⟩ := pot_at hpc
    have hzcr := (hzc.te (x11.te hzz)).ex er
    have hd1 : d = 0 ∨ d = 1 := by omega
    obtain ⟨L, eL⟩ : ∃ y : Lore, y = ⟨sz, 1 + d, cn, rn, []⟩ := ⟨_, rfl⟩
    have els : L.cs = cs := by rw [eL]; exact hcn
    have ers2 : L.rs = rs := by rw [eL]; exact hrn
    have lcn : L.cn.length = cs.length := by rw [← els]; exact (List.length_map ..).symm
    have lrn : L.rn.length = rs.length := by rw [← ers2]; exact (List.length_map ..).symm
    have ok : L.Ok := {
      s0 := by rw [eL]; show 2 ≤ sz; omega
      s1 := by rw [eL]; show sz < 5; omega
      m0 := by rw [eL]; show 1 ≤ 1 + d; omega
      m1 := by rw [eL]; show 1 + d < 3; omega
      c2 := by omega
      cN := by rw [els, ecs]; exact take_okN (G1_ok gs hgs) mn
      cw := by rw [eL]; exact fun c hc => hcw c hc
      r2 := by omega
      rN := by rw [ers2, ers]; exact take_okN (G2_ok os hos) fn
      rw_ := by rw [eL]; exact fun r hr => hrw r hr
      ap := fun x hx hc => by
        rw [ers2, ers] at hx
        rw [els, ecs] at hc
        exact G_apart os hos gs hgs x (List.mem_of_mem_take hx) (List.mem_of_mem_take hc)
      lN := by rw [eL]; rfl
      ll := by rw [eL]; exact Nat.zero_le _
      lt := by rw [eL]; exact fun x h => by cases h
      so := fun x hx => by rw [ers2, ers] at hx; exact G2_so os hos x (List.mem_of_mem_take hx) }
    refine ⟨_, rfl, _, rfl, _, rfl, _, rfl, fun xw dx nx ndx nxd => ?_⟩
    obtain ⟨HM, EM⟩ : ∃ y, y = upd (upd Hr dx (.own xw)) xw (.ins A.C_World dx []) := ⟨_, rfl⟩
    have eM : Ex Hr HM := by rw [EM]; exact fun c o e => by rw [upd_ne (ne_of_none e nx), upd_ne (ne_of_none e ndx)]; exact e
    have hxM : HM xw = some (.ins A.C_World dx []) := by rw [EM]; exact upd_same
    rw [← EM]
    refine ⟨xw, dx, .ref tc, .ref tr, .ref kw, L, by rw [eL]; rfl, hxM, ok, ?_, ?_, ⟨kw, rfl, .inr ⟨by rw [eL], nw⟩⟩, fun H' keep hW => ⟨rfl, ?_⟩⟩
    · rw [eL]; exact hzcr.ex eM
    · rw [eL]; exact hzr.ex eM
    have exR : Ex Hr H' := fun c u h => keep c u (fun y => by rw [y, nx] at h; cases h) (eM c u h)
    have hpR := hpr.ex exR
    intro dd ndd
    have ed := Ex.nw (o := .dK (landK L.sz L.mo q2 r2 xw)) ndd
    have nddp := pot_none hpR ndd
    refine ⟨_, rfl, _, rfl, _, rfl, _, rfl, _, rfl, upd_same, [(.inr ("size" : Str), .int sz), (.inr ("most" : Str), .int (1 + d)), (.inr ("cells" : Str), .ref q2), (.inr ("rows" : Str), .ref r2), (.inr ("world" : Str), .ref xw)], rfl, (by show 5 ≤ 15; decide), ?_⟩
    rw [upd_upd]
    have eK : landK L.sz L.mo q2 r2 xw = mergeK [] [(.inr ("size" : Str), .int sz), (.inr ("most" : Str), .int (1 + d)), (.inr ("cells" : Str), .ref q2), (.inr ("rows" : Str), .ref r2), (.inr ("world" : Str), .ref xw)] := by rw [eL]; rfl
    rw [← eK]
    refine k dd L _ (x0r.tr (Ex.xb (exR.tr ed))) ((hpR.ex ed).mono (by omega)) ⟨q2, r2, xw, upd_same, ?_, ?_, hW.ex ed, by rw [eL]⟩ ⟨ok, ?_, ?_, ?_⟩ (none_of_xb (x0r.tr (Ex.xb exR)) nddp ndd)
    · rw [els]; exact ed _ _ (exR _ _ hqr)
    · rw [ers2]; exact ed _ _ (exR _ _ hrr)
    · rw [eL]; exact hsz
    · rw [lcn, ecs, List.length_take]
      have : L.sz = sz := by rw [eL]
      rw [this]
      have := (G1_ok gs hgs).1
      rw [emm] at n1
      split
      · omega
      · rename_i hn; rw [if_neg hn] at n1; omega
    · rw [lrn, lcn, ers, List.length_take]
      have e1 : L.mo = 1 + d := by rw [eL]
      rw [e1, ecs, List.length_take]
      have g1 := (G1_ok gs hgs).1
      have g2 := (G2_ok os hos).1
      rw [ecap] at f1
      have hmn : mn ≤ 2 := by omega
      split
      · rename_i hc
        rw [if_pos (hc.imp id fun h => by omega)] at f1
        omega
      · omega
end
end K65
set_option Elab.async false
set_option linter.all false
set_option maxRecDepth 100000
set_option maxHeartbeats 4400000
namespace K65
open PySem PySem.Spec PyProof.Rows L2 HX
open PySem.W (Frag)


def mulL (ns : List Nat) : Nat := ns.foldl (· * ·) 1
theorem prodD_len (lots : List (List PyData)) : (prodD lots).length = mulL (lots.map List.length) := by
  have h : ∀ (lots acc : List (List PyData)) (n : Nat), acc.length = n → (lots.foldl addD acc).length = (lots.map List.length).foldl (· * ·) n := by
    intro lots
    induction lots with
    | nil => intro acc n h; exact h
    | cons a r ih => intro acc n h; exact ih _ _ (by rw [addD_len, h])
  exact h lots [[]] 1 rfl
theorem items_len2 (L : Lore) : (itemsD L).length = 1 + L.sz.toNat * (1 + if 1 < L.mo then L.sz.toNat else 0) := by
  have h : ∀ k, (itemsTo L k).length = 1 + k * (1 + if 1 < L.mo then L.sz.toNat else 0) := by
    intro k
    induction k with
    | zero => simp [itemsTo]
    | succ k ih =>
      rw [itemsTo_succ, List.length_append, ih]
      have : (rowOf L k).length = 1 + if 1 < L.mo then L.sz.toNat else 0 := by
        unfold rowOf
        split
        · rw [List.length_cons, List.length_map]; unfold intsD; rw [List.length_map, List.length_range]; omega
        · rfl
      rw [this, Nat.succ_mul]; omega
  exact h _
theorem lots_lens (L : Lore) : (lotsD L).map List.length = List.replicate L.cn.length L.sz.toNat ++ List.replicate L.rn.length (itemsD L).length := by
  unfold lotsD
  rw [List.map_append, List.map_replicate, List.map_replicate]
  unfold intsD
  rw [List.length_map, List.length_range]
/-- sizes, mosts, cells, rows of a drawn world -/
def fits (sz mo c r : Nat) : Bool := (sz == 2 || sz == 3) && ((mo == 1 || mo == 2) && (decide (c ≤ if sz = 2 then 2 else 1) && decide (r ≤ if mo = 2 ∨ c = 2 then 1 else 2)))
def itN (sz mo : Nat) : Nat := 1 + sz * (1 + if 1 < mo then sz else 0)
theorem few_all : ((List.range 4).all fun sz => (List.range 3).all fun mo => (List.range 3).all fun c => (List.range 3).all fun r => !fits sz mo c r || (List.range 5).all fun i => decide (mulL ((List.replicate c sz ++ List.replicate r (itN sz mo)).take i) ≤ 48)) = true := by decide +kernel
theorem small_fits {L : Lore} (h : Small L) : ∃ sz mo : Nat, L.sz = sz ∧ L.mo = mo ∧ sz < 4 ∧ mo < 3 ∧ L.cn.length < 3 ∧ L.rn.length < 3 ∧ fits sz mo L.cn.length L.rn.length = true ∧ (itemsD L).length = itN sz mo ∧ L.sz.toNat = sz := by
  obtain ⟨ok, hs, hc, hr⟩ := h
  have m0 := ok.m0; have m1 := ok.m1; have c2 := ok.c2; have r2 := ok.r2
  obtain ⟨sz, e1⟩ := Int.eq_ofNat_of_zero_le (show 0 ≤ L.sz by omega)
  obtain ⟨mo, e2⟩ := Int.eq_ofNat_of_zero_le (show 0 ≤ L.mo by omega)
  refine ⟨sz, mo, e1, e2, by omega, by omega, by omega, by omega, ?_, ?_, by omega⟩
  · have a1 : (sz == 2 || sz == 3) = true := by
      have : sz = 2 ∨ sz = 3 := by omega
      rcases this with rfl | rfl <;> rfl
    have a2 : (mo == 1 || mo == 2) = true := by
      have : mo = 1 ∨ mo = 2 := by omega
      rcases this with rfl | rfl <;> rfl
    have a3 : L.cn.length ≤ if sz = 2 then 2 else 1 := by
      have : (L.sz = 2) = (sz = 2) := propext (by omega)
      simp only [this] at hc; exact hc
    have a4 : L.rn.length ≤ if mo = 2 ∨ L.cn.length = 2 then 1 else 2 := by
      have : (L.mo = 2) = (mo = 2) := propext (by omega)
      simp only [this] at hr; exact hr
    unfold fits
    rw [a1, a2, decide_eq_true a3, decide_eq_true a4]; rfl
  · rw [items_len2, e1, e2]
    unfold itN
    have : (1 < (mo : Int)) = (1 < mo) := propext (by omega)
    simp only [this, Int.toNat_natCast]
theorem small_stands {L : Lore} (h : Small L) : ∀ i, (prodD ((lotsD L).take i)).length ≤ 48 := fun i => by
  obtain ⟨sz, mo, e1, e2, l1, l2, l3, l4, hf, hi, ht⟩ := small_fits h
  have key : ∀ i < 5, mulL ((List.replicate L.cn.length sz ++ List.replicate L.rn.length (itN sz mo)).take i) ≤ 48 := fun i hi => by
    have q := List.all_eq_true.mp (List.all_eq_true.mp (List.all_eq_true.mp (List.all_eq_true.mp few_all sz (List.mem_range.mpr l1)) mo (List.mem_range.mpr l2)) _ (List.mem_range.mpr l3)) _ (List.mem_range.mpr l4)
    rw [hf, Bool.not_true, Bool.false_or] at q
    exact of_decide_eq_true (List.all_eq_true.mp q i (List.mem_range.mpr hi))
  rw [prodD_len, List.map_take, lots_lens, ht, hi]
  by_cases h5 : i < 5
  · exact key i h5
  · have : (List.replicate L.cn.length sz ++ List.replicate L.rn.length (itN sz mo)).length ≤ 4 := by
      rw [List.length_append, List.length_replicate, List.length_replicate]; omega
    have := key 4 (by decide)
    rwa [List.take_of_length_le (by omega)] at this ⊢
theorem ch_len3 {L : Lore} (h : Small L) (c : Nat) : (chD L c).length ≤ 3 := by
  rw [ch_len]
  have := h.ok.r2
  rcases h.sz with e | e <;> (rw [e]; split <;> omega)
theorem few_of {L : Lore} (h : Small L) {z : Str} (hz : z.length ≤ 2) : Few L z := by
  have s := small_stands h
  refine ⟨fun i => Nat.le_trans (s i) (by decide), fun j => ?_⟩
  have s1 : (standsD L).length ≤ 48 := by
    have := s (lotsD L).length
    rwa [List.take_length] at this
  have lz : z.cps.toList.length ≤ 2 := by have : z.cps.size ≤ 2 := hz; simpa using this
  have v : (prodD ((z.cps.toList.take j).map (chD L))).length ≤ 9 := by
    match hq : z.cps.toList.take j, (show (z.cps.toList.take j).length ≤ 2 by rw [List.length_take]; omega) with
    | [], _ => show 1 ≤ 9; decide
    | [a], _ =>
      have := ch_len3 h a
      rw [prodD_len]
      show 1 * (chD L a).length ≤ 9
      omega
    | [a, b], _ =>
      have h1 := ch_len3 h a
      have h2 := ch_len3 h b
      rw [prodD_len]
      show 1 * (chD L a).length * (chD L b).length ≤ 9
      rw [Nat.one_mul]
      exact Nat.le_trans (Nat.mul_le_mul h1 h2) (by decide)
    | a :: b :: c :: r, q => simp at q
  exact Nat.le_trans (Nat.mul_le_mul s1 v) (by decide)
/-- products of two parts -/
theorem prod_app (A B : List (List PyData)) : prodD (A ++ B) = (prodD A).flatMap fun a => (prodD B).map fun b => a ++ b := by
  have h : ∀ (n : Nat) (B : List (List PyData)), B.length = n → prodD (A ++ B) = (prodD A).flatMap fun a => (prodD B).map fun b => a ++ b := by
    intro n
    induction n with
    | zero =>
      intro B hB
      rw [List.eq_nil_of_length_eq_zero hB, List.append_nil]
      show prodD A = (prodD A).flatMap fun a => [a ++ []]
      simp
    | succ n ih =>
      intro B hB
      have nz : B ≠ [] := by intro z; rw [z] at hB; cases hB
      have e : B = B.dropLast ++ [B.getLast nz] := (List.dropLast_concat_getLast _).symm
      rw [e, ← List.append_assoc, prodD_snoc, ih _ (by rw [List.length_dropLast, hB]; rfl), prodD_snoc]
      unfold addD
      rw [List.flatMap_assoc]
      refine congrArg (fun g => (prodD A).flatMap g) (funext fun a => ?_)
      rw [List.flatMap_map, List.map_flatMap]
      refine congrArg (fun g => (prodD B.dropLast).flatMap g) (funext fun b => ?_)
      rw [List.map_map]
      refine List.map_congr_left fun d _ => ?_
      show a ++ b ++ [d] = a ++ (b ++ [d])
      rw [List.append_assoc]
  exact h _ B rfl
theorem flat_congr {α β : Type} {f g : α → List β} : ∀ l : List α, (∀ a ∈ l, f a = g a) → l.flatMap f = l.flatMap g
  | [], _ => rfl
  | a :: r, h => by rw [List.flatMap_cons, List.flatMap_cons, h a (.head _), flat_congr r fun b hb => h b (.tail _ hb)]
def wsD (L : Lore) : List PyData := (prodD (List.replicate L.cn.length (intsD L.sz))).map PyData.tuple
def isD (L : Lore) : List PyData := (prodD (List.replicate L.rn.length (itemsD L))).map PyData.tuple
/-- the law's own stands -/
def lawStands (L : Lore) : List PyData := (prodD [wsD L, isD L]).map PyData.tuple
theorem lawStands_eq (L : Lore) : lawStands L = (standsD L).map fun s => PyData.tuple [.tuple (s.take L.cn.length), .tuple (s.drop L.cn.length)] := by
  have e0 : prodD [wsD L, isD L] = (wsD L).flatMap fun w => (isD L).map fun i => [w, i] := by
    show addD (addD [[]] (wsD L)) (isD L) = _
    unfold addD
    simp [List.flatMap_map]
  unfold lawStands standsD lotsD
  rw [e0, prod_app, List.map_flatMap, List.map_flatMap]
  unfold wsD
  rw [List.flatMap_map]
  refine flat_congr _ fun a ha => ?_
  have la : a.length = L.cn.length := prodD_each _ _ (List.length_replicate ..) a ha
  show List.map PyData.tuple ((isD L).map fun i => [PyData.tuple a, i]) = _
  unfold isD
  rw [List.map_map, List.map_map, List.map_map]
  refine List.map_congr_left fun b _ => ?_
  show PyData.tuple [.tuple a, .tuple b] = PyData.tuple [.tuple ((a ++ b).take L.cn.length), .tuple ((a ++ b).drop L.cn.length)]
  rw [← la, List.take_left, List.drop_left]
/-- the law's own keys -/
def lawKeys (L : Lore) (z : Str) : List PyData := (lawStands L).flatMap fun s => ((valsD L z.cps.toList).map PyData.tuple).map (rowD s)
theorem lawKeys_eq (L : Lore) (z : Str) : lawKeys L z = keysD L z := by
  unfold lawKeys keysD
  rw [lawStands_eq, List.flatMap_map]
  rfl

end K65
set_option Elab.async false
set_option linter.all false
set_option maxRecDepth 100000
set_option maxHeartbeats 4400000
namespace K65
open PySem PySem.Spec PyProof.Rows L2 HX
open PySem.W (Frag)


/-- each turn gives a list of its own kind of data -/
theorem lc_lots {J : It} {n : Nat} {G : Hp → Prop} {Y : Nat → Hp → V → Hp → Prop} {g : TG} {te : L2.TE} {vs : List Nat} {σ : L2.St} {H1 : Hp} {D : Addr} {Qd : Hp → Prop} (w : Walk J n G Y) (f : Nat → List PyData) (hn : n < 1000) (nD : H1 D = none) (hG : ∀ H, Ex H1 H → G H)
    (hs : ∀ (i : Nat) (x : V) (H H' : Hp) (Kq : V → Hp → Prop), i < n → Ex H1 H → (∃ o, H D = some o) → Y i H x H' → (∀ a ys H4, Ex H H4 → a ≠ D → H4 a = some (.lst ys) → TzL H4 ys (f i) → Kq (.ref a) H4) → g x (wipe σ vs) H' fun σ2 H2 => wipe σ2 vs = wipe σ vs ∧ te σ2 H2 Kq)
    (hd : ∀ H, Ex H1 H → LotsAt H D ((List.range n).map f) → Qd H) : LcGoal J g te vs σ H1 D Qd := by
  refine lc_it (tt := tYes) w (fun i H => Ex H1 H ∧ ∃ xs, H D = some (.lst xs) ∧ xs.length = i ∧ ∀ (j : Nat) (x : V), xs[j]? = some x → ∃ (a : Addr) (ys : List V), x = V.ref a ∧ a ≠ D ∧ H a = some (.lst ys) ∧ TzL H ys (f j)) ⟨Ex.nw nD, [], upd_same, rfl, fun j x h => by cases h⟩ (fun i H _ p => hG H p.1) (fun i x H H' hi p y => ?_) (fun H p => ?_)
  · obtain ⟨e, xs, hD, hl, hx⟩ := p
    refine hs i x H H' _ hi e ⟨_, hD⟩ y fun a ys H4 e4 na ha hys => ?_
    have hD4 := e4 _ _ hD
    refine ⟨xs, hD4, ?_, ex_mu (e.tr e4) nD, xs ++ [.ref a], upd_same, by rw [List.length_append, hl]; rfl, fun j v hj => ?_⟩
    · rw [hl]
      exact Nat.lt_of_lt_of_le hi (Nat.le_trans (Nat.le_of_lt hn) (by decide))
    · by_cases hlt : j < xs.length
      · rw [List.getElem?_append_left hlt] at hj
        obtain ⟨b, zs, rfl, nb, hb, hz⟩ := hx j v hj
        exact ⟨b, zs, rfl, nb, by rw [upd_ne nb]; exact e4 _ _ hb, (hz.ex e4).te (te_lst hD4)⟩
      · rw [List.getElem?_append_right (by omega)] at hj
        match hk : j - xs.length, hj with
        | 0, hj =>
          cases hj
          have : j = i := by omega
          exact ⟨a, ys, rfl, na, by rw [upd_ne na]; exact ha, by rw [this]; exact hys.te (te_lst hD4)⟩
        | k + 1, hj => simp at hj
  · obtain ⟨e, xs, hD, hl, hx⟩ := p
    refine hd H e ⟨xs, hD, by rw [List.length_map, List.length_range, hl], fun i x hi => ?_⟩
    obtain ⟨a, ys, rfl, _, ha, hys⟩ := hx i x hi
    have li : i < n := by have := (List.getElem?_eq_some_iff.mp hi).1; omega
    exact ⟨a, ys, f i, rfl, by rw [List.getElem?_map, List.getElem?_range li]; rfl, ha, hys⟩
theorem flat_one {α : Type} (a : α) : ∀ n : Nat, (List.replicate n [a]).flatten = List.replicate n a
  | 0 => rfl
  | n + 1 => by rw [List.replicate_succ, List.flatten_cons, flat_one a n]; rfl
theorem lots_rep {H : Hp} {l a : Addr} {ys : List V} {ds : List PyData} {n : Nat} (hl : H l = some (.lst (List.replicate n (V.ref a)))) (ha : H a = some (.lst ys)) (hy : TzL H ys ds) : LotsAt H l (List.replicate n ds) := by
  refine ⟨_, hl, by rw [List.length_replicate, List.length_replicate], fun i x hi => ?_⟩
  rw [List.getElem?_replicate] at hi
  split at hi
  · rename_i h
    cases hi
    exact ⟨a, ys, ds, rfl, by rw [List.getElem?_replicate, if_pos h], ha, hy⟩
  · cases hi
def landK_get (sz mo : Int) (ln lo xw : Addr) : valV (landK sz mo ln lo xw) (Sum.inr ("size" : Str) : Key) = some (.int sz) ∧ valV (landK sz mo ln lo xw) (Sum.inr ("most" : Str) : Key) = some (.int mo) ∧ valV (landK sz mo ln lo xw) (Sum.inr ("cells" : Str) : Key) = some (.ref ln) ∧ valV (landK sz mo ln lo xw) (Sum.inr ("rows" : Str) : Key) = some (.ref lo) ∧ valV (landK sz mo ln lo xw) (Sum.inr ("world" : Str) : Key) = some (.ref xw) := ⟨rfl, rfl, rfl, rfl, rfl⟩
theorem LandAt.ex {K : Frag} {C d : Addr} {H H' : Hp} {L : Lore} (h : LandAt K C H d L) (e : Ex H H') : LandAt K C H' d L := let ⟨ln, lo, xw, h1, h2, h3, h4, h5⟩ := h; ⟨ln, lo, xw, e _ _ h1, e _ _ h2, e _ _ h3, h4.ex e, h5⟩
/-- what the land tells -/
theorem land_size {H : Hp} {d : Addr} {sz mo : Int} {ln lo xw : Addr} (h : H d = some (.dK (landK sz mo ln lo xw))) : DGet H d (.str "size") (some (.int sz)) := .inl ⟨_, .inr "size", .inl h, rfl, rfl⟩
theorem land_most {H : Hp} {d : Addr} {sz mo : Int} {ln lo xw : Addr} (h : H d = some (.dK (landK sz mo ln lo xw))) : DGet H d (.str "most") (some (.int mo)) := .inl ⟨_, .inr "most", .inl h, rfl, rfl⟩
theorem land_cells {H : Hp} {d : Addr} {sz mo : Int} {ln lo xw : Addr} (h : H d = some (.dK (landK sz mo ln lo xw))) : DGet H d (.str "cells") (some (.ref ln)) := .inl ⟨_, .inr "cells", .inl h, rfl, rfl⟩
theorem land_rows {H : Hp} {d : Addr} {sz mo : Int} {ln lo xw : Addr} (h : H d = some (.dK (landK sz mo ln lo xw))) : DGet H d (.str "rows") (some (.ref lo)) := .inl ⟨_, .inr "rows", .inl h, rfl, rfl⟩
theorem land_world {H : Hp} {d : Addr} {sz mo : Int} {ln lo xw : Addr} (h : H d = some (.dK (landK sz mo ln lo xw))) : DGet H d (.str "world") (some (.ref xw)) := .inl ⟨_, .inr "world", .inl h, rfl, rfl⟩
def spLawVals (K : Frag) (C : Addr) : Sp := fun vs H Q _ => ∃ (d : Addr) (L : Lore) (z : Str), vs = [.ref d, .str z] ∧ LandAt K C H d L ∧ Small L ∧ z.length ≤ 2 ∧ OutL H ((valsD L z.cps.toList).map PyData.tuple) Q
def spLawStands (K : Frag) (C : Addr) : Sp := fun vs H Q _ => ∃ (d : Addr) (L : Lore), vs = [.ref d] ∧ LandAt K C H d L ∧ Small L ∧ OutL H (lawStands L) Q
def spLawKeys (K : Frag) (C : Addr) : Sp := fun vs H Q _ => ∃ (d : Addr) (L : Lore) (z : Str), vs = [.ref d, .str z] ∧ LandAt K C H d L ∧ Small L ∧ z.length ≤ 2 ∧ OutL H (keysD L z) Q
theorem map_rng_str {L : Lore} (cs : List Nat) : (List.range cs.length).map (fun i => chD L (cs[i]?.getD 0)) = cs.map (chD L) := by
  refine List.ext_getElem? fun i => ?_
  by_cases hi : i < cs.length
  · simp [List.getElem?_range, hi]
  · rw [List.getElem?_eq_none (by simpa using hi), List.getElem?_eq_none (by simpa using hi)]
theorem vals_take {L : Lore} (h : Small L) {cs : List Nat} (hl : cs.length ≤ 2) : ∀ i, (prodD ((cs.map (chD L)).take i)).length ≤ 900 := fun i => by
  rw [← List.map_take]
  match hq : cs.take i, (show (cs.take i).length ≤ 2 by rw [List.length_take]; omega) with
  | [], _ => show 1 ≤ 900; decide
  | [a], _ =>
    have := ch_len3 h a
    rw [prodD_len]
    show 1 * (chD L a).length ≤ 900
    omega
  | [a, b], _ =>
    have h1 := ch_len3 h a
    have h2 := ch_len3 h b
    rw [prodD_len]
    show 1 * (chD L a).length * (chD L b).length ≤ 900
    rw [Nat.one_mul]
    exact Nat.le_trans (Nat.mul_le_mul h1 h2) (by decide)
  | a :: b :: c :: r, q => simp at q

section
variable {P : Program} {w : World} {K : Frag} {mg : Str → Option Value} {base : Heap} {A : Ad}

theorem ok_law_all_values (T : Txt K mg A) : FnOk P w K mg base CX0 2 A.f_law_all_values A.d_law_all_values ["_law_land_here", "_law_kinds_here"] (spLawVals K A.C_World) := by
  refine T.F_law_all_values.ok sc_law_all_values (fun vs H Q E h => ?_) (fun cdv A0 outer s H vs Q E hr h => ?_)
  · obtain ⟨_, _, _, rfl, _⟩ := h
    rfl
  · have hu := hu_of hr
    obtain ⟨d, L, z, rfl, hL, sm, hz, k⟩ := h
    refine ⟨_, (pss_one (ps_ret (pe_call (ok_products T) (hr.mono (by decide)) (by rfl) T.m_products T.F_products.kp T.b_products .nil pass0 (pa_cons (pe_lc (own := [("_law_letter", 2)]) (g := (gName 2)) (tt := tYes) rfl sc_law_all_values.nd (pi_str (pv 1)) (blkOk_by (N := N_law_all_values) (sc := defScope s_law_all_values) (by decide +kernel)) (fun _ _ _ _ _ => pg_name (i := 2) sc_law_all_values.nd rfl (Or.inl rfl)) (fun _ _ _ _ _ => pts_nil) (fun _ _ _ _ _ => (pe_ifExp (pt_cmpR op_eq (pv 2) pe_str (nomark _)) (pe_dget hu (pv 0) pe_str (fun _ _ => rfl)) (pe_listRg rfl (by rfl) T.g_list (prg_1 (by rfl) T.g_range (pe_dget hu (pv 0) pe_str (fun _ _ => rfl))))))) pa_nil)))), ?_⟩
    have s0 := sm.ok.s0; have s1 := sm.ok.s1
    obtain ⟨ln, lo, xw, hd, hln, hlo, hW, hlo0⟩ := id hL
    have lz : z.cps.toList.length ≤ 2 := by have : z.cps.size ≤ 2 := hz; simpa using this
    have lzs : z.cps.size = z.cps.toList.length := by simp
    refine ⟨_, rfl, z, rfl, fun D nD => lc_lots walk_str (fun i => chD L (z.cps.toList[i]?.getD 0)) (by omega) nD (fun _ _ => trivial) (fun i xv H2 H3 Kq hi e ho y kq => ?_) (fun H2 e hlots => ?_)⟩
    · obtain ⟨rfl, c, hc, rfl⟩ := y
      have hc' : z.cps.toList[i]? = some c := by simpa using hc
      rw [hc'] at kq
      replace kq : ∀ a ys H4, Ex H3 H4 → a ≠ D → H4 a = some (.lst ys) → TzL H4 ys (chD L c) → Kq (.ref a) H4 := kq
      obtain ⟨oD, hoD⟩ := ho
      refine ⟨rfl, _, rfl, rfl, _, rfl, ?_⟩
      refine bothE (R := fun v G' => ∃ a ys, v = .ref a ∧ Ex H3 G' ∧ a ≠ D ∧ G' a = some (.lst ys) ∧ TzL G' ys (chD L c)) (fun hp Qd k' => ⟨_, rfl, d, _, rfl, land_rows (e _ _ hd), k' _ _ ⟨lo, _, rfl, Ex.rf _, ne_of_none hlo nD, e _ _ hlo, ?_⟩⟩) (fun hp Qd k' => ⟨_, rfl, d, _, rfl, land_size (e _ _ hd), ?_⟩) ?_
      · have hc2 : c = 114 := one_sign.mp hp
        unfold chD
        rw [if_pos hc2]
        exact ⟨by rw [List.length_map, List.length_map], fun j v dd h1 h2 => by
          rw [List.getElem?_map] at h1 h2
          cases hq : L.rs[j]? with
          | none => rw [hq] at h1; cases h1
          | some u => rw [hq] at h1 h2; cases h1; cases h2; exact .str u⟩
      · have hc2 : ¬ c = 114 := fun w => hp (one_sign.mpr w)
        refine ⟨L.sz, rfl, RgOk.of_le (by decide) (by omega) (by decide) (by omega), fun q nq => k' _ _ ⟨q, _, rfl, Ex.nw nq, (fun w => by rw [w, hoD] at nq; cases nq), upd_same, ?_⟩⟩
        unfold chD
        rw [if_neg hc2]
        exact tzL_rg _
      · rintro v G' ⟨a, ys, rfl, e4, na, ha, hys⟩
        exact kq a ys G' e4 na ha hys
    · rw [lzs, map_rng_str] at hlots
      refine ⟨D, _, rfl, hlots, by rw [List.length_map]; omega, vals_take sm lz, fun l xs H' e' nl hl hx => k l xs H' (e.tr e') (none_of_ex e nl) hl ?_⟩
      rw [vals_prod]; exact hx
end
end K65
set_option Elab.async false
set_option linter.all false
set_option maxRecDepth 100000
set_option maxHeartbeats 4400000
namespace K65
open PySem PySem.Spec PyProof.Rows L2 HX
open PySem.W (Frag)


theorem prod_mul (A B : List (List PyData)) : (prodD (A ++ B)).length = (prodD A).length * (prodD B).length := by
  have h : ∀ (ns : List Nat) (n : Nat), ns.foldl (· * ·) n = n * ns.foldl (· * ·) 1 := by
    intro ns
    induction ns with
    | nil => intro n; simp
    | cons a r ih => intro n; rw [List.foldl_cons, List.foldl_cons, ih, ih (1 * a), Nat.one_mul, Nat.mul_assoc]
  rw [prodD_len, prodD_len, prodD_len, List.map_append]
  unfold mulL
  rw [List.foldl_append, h]
theorem prod_pos : ∀ (n : Nat) (ds : List PyData), 0 < ds.length → 0 < (prodD (List.replicate n ds)).length
  | 0, _, _ => Nat.one_pos
  | n + 1, ds, h => by
    rw [List.replicate_succ', prodD_snoc, addD_len]
    exact Nat.mul_pos (prod_pos n ds h) h
theorem ints_pos {L : Lore} (s0 : 2 ≤ L.sz) : 0 < (intsD L.sz).length := by unfold intsD; rw [List.length_map, List.length_range]; omega
theorem ws_few {L : Lore} (h : Small L) (i : Nat) : (prodD ((List.replicate L.cn.length (intsD L.sz)).take i)).length ≤ 48 := by
  have q := small_stands h (min i L.cn.length)
  unfold lotsD at q
  rw [List.take_append_of_le_length (by rw [List.length_replicate]; exact Nat.min_le_right ..)] at q
  have e : (List.replicate L.cn.length (intsD L.sz)).take i = (List.replicate L.cn.length (intsD L.sz)).take (min i L.cn.length) := by
    rw [List.take_replicate, List.take_replicate, Nat.min_assoc, Nat.min_self]
  rw [e]; exact q
theorem is_few {L : Lore} (h : Small L) (i : Nat) : (prodD ((List.replicate L.rn.length (itemsD L)).take i)).length ≤ 48 := by
  have q := small_stands h (L.cn.length + i)
  unfold lotsD at q
  rw [List.take_append, List.length_replicate, Nat.add_sub_cancel_left, List.take_of_length_le (by rw [List.length_replicate]; omega), prod_mul] at q
  exact Nat.le_trans (Nat.le_mul_of_pos_left _ (prod_pos _ _ (ints_pos h.ok.s0))) q
theorem both_few {L : Lore} (h : Small L) (i : Nat) : (prodD (([wsD L, isD L] : List (List PyData)).take i)).length ≤ 48 := by
  have w := ws_few h L.cn.length
  have s := small_stands h (lotsD L).length
  rw [List.take_of_length_le (by rw [List.length_replicate]; exact Nat.le_refl _)] at w
  rw [List.take_length] at s
  match i with
  | 0 => show 1 ≤ 48; decide
  | 1 =>
    show (prodD [wsD L]).length ≤ 48
    rw [prodD_len]
    show 1 * (wsD L).length ≤ 48
    unfold wsD
    rw [List.length_map]; omega
  | i + 2 =>
    rw [List.take_of_length_le (by show 2 ≤ i + 2; omega)]
    have := congrArg List.length (lawStands_eq L)
    unfold lawStands at this
    rw [List.length_map, List.length_map] at this
    rw [this]; exact s
theorem rs_tz {H : Hp} (ss : List Str) : TzL H (ss.map V.str) (ss.map PyData.str) := ⟨by rw [List.length_map, List.length_map], fun j v d h1 h2 => by
  rw [List.getElem?_map] at h1 h2
  cases hq : ss[j]? with
  | none => rw [hq] at h1; cases h1
  | some u => rw [hq] at h1 h2; cases h1; cases h2; exact .str u⟩

section
variable {P : Program} {w : World} {K : Frag} {mg : Str → Option Value} {base : Heap} {A : Ad}

theorem ok_stands (T : Txt K mg A) : FnOk P w K mg base CX0 2 A.f_stands A.d_stands ["_law_land_here"] (spLawStands K A.C_World) := by
  refine T.F_stands.ok sc_stands (fun vs H Q E h => ?_) (fun cdv A0 outer s H vs Q E hr h => ?_)
  · obtain ⟨_, _, rfl, _⟩ := h
    rfl
  · have hu := hu_of hr
    obtain ⟨d, L, rfl, hL, sm, k⟩ := h
    refine ⟨_, (pss_cons (ps_set (i := 1) sc_stands.nd rfl (Or.inl rfl) (pe_call (ok_products T) (hr.mono (by decide)) (by rfl) T.m_products T.F_products.kp T.b_products .nil pass0 (pa_cons (pe_op op_rep (pe_lstN (pa_cons (pe_listRg rfl (by rfl) T.g_list (prg_1 (by rfl) T.g_range (pe_dget hu (pv 0) pe_str (fun _ _ => rfl)))) pa_nil)) (pe_callB call_len_seq (by rfl) T.g_len (by decide +kernel) (pa_cons (pe_dget hu (pv 0) pe_str (fun _ _ => rfl)) pa_nil))) pa_nil)))
      (pss_cons (ps_set (i := 2) sc_stands.nd rfl (Or.inl rfl) (pe_call (ok_products T) (hr.mono (by decide)) (by rfl) T.m_products T.F_products.kp T.b_products .nil pass0 (pa_cons (pe_op op_rep (pe_lstN (pa_cons (pe_call (ok_fillings T) (hr.mono (by decide)) (by rfl) T.m_fillings T.F_fillings.kp T.b_fillings .nil pass0 (pa_cons (pe_dget hu (pv 0) pe_str (fun _ _ => rfl)) (pa_cons (pe_dget hu (pv 0) pe_str (fun _ _ => rfl)) pa_nil))) pa_nil)) (pe_callB call_len_seq (by rfl) T.g_len (by decide +kernel) (pa_cons (pe_dget hu (pv 0) pe_str (fun _ _ => rfl)) pa_nil))) pa_nil)))
      (pss_one (ps_ret (pe_call (ok_products T) (hr.mono (by decide)) (by rfl) T.m_products T.F_products.kp T.b_products .nil pass0 (pa_cons (pe_lstN (pa_cons (pv 1) (pa_cons (pv 2) pa_nil))) pa_nil)))))), ?_⟩
    have s0 := sm.ok.s0; have s1 := sm.ok.s1; have m0 := sm.ok.m0; have m1 := sm.ok.m1; have c2 := sm.ok.c2; have r2 := sm.ok.r2
    obtain ⟨ln, lo, xw, hd, hln, hlo, hW, hlo0⟩ := id hL
    have lcs : L.cs.length = L.cn.length := List.length_map ..
    have lrs : L.rs.length = L.rn.length := List.length_map ..
    refine ⟨_, rfl, d, _, rfl, land_size hd, L.sz, rfl, RgOk.of_le (by decide) (by omega) (by decide) (by omega), fun q nq => ⟨(by show 1 ≤ sizeLine; decide), fun l nl ns => ?_⟩⟩
    have eq1 := Ex.nw (o := .lst (rgV 0 L.sz)) nq
    have el := Ex.nw (o := .lst [V.ref q]) nl
    have e1 := eq1.tr el
    refine ⟨_, rfl, d, _, rfl, land_cells (e1 _ _ hd), ln, _, rfl, .inl (SqL.of (e1 _ _ hln)), l, _, _, rfl, rfl, upd_same, by omega, by rw [List.length_map]; omega, Nat.le_of_lt (small (by rw [List.length_map]; show 1 * _ < 1000; omega)), fun m nm => ?_⟩
    have em := Ex.nw (o := .lst (List.replicate L.cn.length (V.ref q))) nm
    have ef : (List.replicate (((L.cs.map V.str).length : Nat) : Int).toNat [V.ref q]).flatten = List.replicate L.cn.length (V.ref q) := by rw [Int.toNat_natCast, List.length_map, lcs, flat_one]
    rw [ef]
    have e2 := e1.tr em
    refine ⟨m, _, rfl, lots_rep upd_same (em _ _ (el _ _ upd_same)) (tzL_rg _), by rw [List.length_replicate]; omega, fun i => Nat.le_trans (ws_few sm i) (by decide), fun w ws H3 e3 nw hw hws => ?_⟩
    have e03 := e2.tr e3
    obtain ⟨Lf, eLf⟩ : ∃ y : Lore, y = L := ⟨_, rfl⟩
    refine ⟨_, rfl, d, _, rfl, land_size (e03 _ _ hd), _, rfl, d, _, rfl, land_most (e03 _ _ hd), L, rfl, s0, s1, m0, m1, fun fl fs H4 e4 nfl hfl hfs => ⟨(by show 1 ≤ sizeLine; decide), fun l2 nl2 ns2 => ?_⟩⟩
    have el2 := Ex.nw (o := .lst [V.ref fl]) nl2
    have e04 := e03.tr (e4.tr el2)
    refine ⟨_, rfl, d, _, rfl, land_rows (e04 _ _ hd), lo, _, rfl, .inl (SqL.of (e04 _ _ hlo)), l2, _, _, rfl, rfl, upd_same, by omega, by rw [List.length_map]; omega, Nat.le_of_lt (small (by rw [List.length_map]; show 1 * _ < 1000; omega)), fun m2 nm2 => ?_⟩
    have em2 := Ex.nw (o := .lst (List.replicate L.rn.length (V.ref fl))) nm2
    have ef2 : (List.replicate (((L.rs.map V.str).length : Nat) : Int).toNat [V.ref fl]).flatten = List.replicate L.rn.length (V.ref fl) := by rw [Int.toNat_natCast, List.length_map, lrs, flat_one]
    rw [ef2]
    have e05 := e04.tr em2
    refine ⟨m2, _, rfl, lots_rep upd_same (em2 _ _ (el2 _ _ hfl)) (hfs.ex (el2.tr em2)), by rw [List.length_replicate]; omega, fun i => Nat.le_trans (is_few sm i) (by decide), fun i is H6 e6 ni hi his => ?_⟩
    have e36 : Ex H3 H6 := e4.tr (el2.tr (em2.tr e6))
    have e06 := e03.tr e36
    refine ⟨_, rfl, _, rfl, (by show 2 ≤ sizeLine; decide), fun l3 nl3 ns3 => ?_⟩
    have el3 := Ex.nw (o := .lst [V.ref w, .ref i]) nl3
    refine ⟨l3, [wsD L, isD L], rfl, ⟨_, upd_same, rfl, fun j x hj => ?_⟩, (by show 2 ≤ 5; decide), fun j => Nat.le_trans (both_few sm j) (by decide), fun f fs H7 e7 nf hf hfs => k f fs H7 (e06.tr (el3.tr e7)) (none_of_ex (e06.tr el3) nf) hf hfs⟩
    match j, hj with
    | 0, hj => cases hj; exact ⟨w, ws, _, rfl, rfl, el3 _ _ (e36 _ _ hw), (hws.ex (e36.tr el3))⟩
    | 1, hj => cases hj; exact ⟨i, is, _, rfl, rfl, el3 _ _ hi, his.ex el3⟩
    | j + 2, hj => simp at hj
end
end K65
set_option Elab.async false
set_option linter.all false
set_option maxRecDepth 100000
set_option maxHeartbeats 4400000
namespace K65
open PySem PySem.Spec PyProof.Rows L2 HX
open PySem.W (Frag)


def keysTo (L : Lore) (z : Str) (i : Nat) : List PyData := ((lawStands L).take i).flatMap fun s => ((valsD L z.cps.toList).map PyData.tuple).map (rowD s)
theorem keysTo_all (L : Lore) (z : Str) : keysTo L z (lawStands L).length = keysD L z := by
  unfold keysTo
  rw [List.take_length]
  exact lawKeys_eq L z
theorem keysTo_snoc {L : Lore} {z : Str} {i : Nat} {s : PyData} (h : (lawStands L)[i]? = some s) : keysTo L z (i + 1) = keysTo L z i ++ ((valsD L z.cps.toList).map PyData.tuple).map (rowD s) := by
  unfold keysTo
  rw [take_snoc h, List.flatMap_append, List.flatMap_cons, List.flatMap_nil, List.append_nil]
theorem keysTo_len {L : Lore} {z : Str} (i : Nat) : (keysTo L z i).length = (min i (lawStands L).length) * (valsD L z.cps.toList).length := by
  unfold keysTo
  rw [← List.length_take]
  generalize (lawStands L).take i = ss
  induction ss with
  | nil => simp
  | cons s r ih => rw [List.flatMap_cons, List.length_append, ih, List.length_map, List.length_map, List.length_cons, Nat.succ_mul]; omega
theorem lawStands_at {L : Lore} {s : PyData} (h : s ∈ lawStands L) : ∃ a b, s = .tuple [.tuple a, .tuple b] := by
  rw [lawStands_eq] at h
  obtain ⟨u, _, rfl⟩ := List.mem_map.mp h
  exact ⟨_, _, rfl⟩

section
variable {P : Program} {w : World} {K : Frag} {mg : Str → Option Value} {base : Heap} {A : Ad}

theorem ok_keys (T : Txt K mg A) : FnOk P w K mg base CX0 3 A.f_keys A.d_keys ["_law_land_here", "_law_kinds_here"] (spLawKeys K A.C_World) := by
  refine T.F_keys.ok sc_keys (fun vs H Q E h => ?_) (fun cdv A0 outer s H vs Q E hr h => ?_)
  · obtain ⟨_, _, _, rfl, _⟩ := h
    rfl
  · have hu := hu_of hr
    obtain ⟨d, L, z, rfl, hL, sm, hz, k⟩ := h
    refine ⟨_, (pss_cons (ps_par (i := 2) (j := 3) (by rfl) sc_keys.nd rfl rfl (by decide) rfl rfl (pa_cons (pe_lstN pa_nil) (pa_cons (pe_call (ok_law_all_values T) (hr.mono (by decide)) (by rfl) T.m_law_all_values T.F_law_all_values.kp T.b_law_all_values .nil pass0 (pa_cons (pv 0) (pa_cons (pv 1) pa_nil))) pa_nil)) (by rfl))
      (pss_cons (ps_for PassesOwn.never rfl (pi_list (pe_call (ok_stands T) (hr.mono (by decide)) (by rfl) T.m_stands T.F_stands.kp T.b_stands .nil pass0 (pa_cons (pv 0) pa_nil))) (pg_name (i := 4) sc_keys.nd rfl (Or.inr rfl)) (pss_one (ps_expr (pe_bm PySem.F.plainAttrs_list PySem.F.slot_list_extend PySem.F.type_list_extend mt_extend (pv 2) (pa_cons (pe_lc (own := [("_law_one", 5)]) (g := (gName 5)) (tt := tYes) rfl sc_keys.nd (pi_list (pv 3)) (blkOk_by (N := N_keys) (sc := defScope s_keys) (by decide +kernel)) (fun _ _ _ _ _ => pg_name (i := 5) sc_keys.nd rfl (Or.inl rfl)) (fun _ _ _ _ _ => pts_nil) (fun _ _ _ _ _ => (pe_op (op_catAK (K := K) rfl) (pv 4) (pe_tup (pa_cons (pv 5) pa_nil))))) pa_nil)))))
      (pss_one (ps_ret (pv 2))))), ?_⟩
    have few := few_of sm hz
    have fv := few_vals few
    have sl : (lawStands L).length = (standsD L).length := by rw [lawStands_eq, List.length_map]
    refine ⟨(by show 0 ≤ sizeLine; decide), fun m nm ns => ?_⟩
    have em := Ex.nw (o := .lst []) nm
    refine ⟨_, rfl, _, rfl, d, L, z, rfl, hL.ex em, sm, hz, fun lv vs H2 e2 nlv hlv hvs => ?_⟩
    have hm2 := e2 _ _ (upd_same (H := H) (a := m) (o := .lst []))
    have e02 := em.tr e2
    have nHm : H m = none := nm
    refine ⟨_, _, rfl, _, rfl, d, L, rfl, hL.ex e02, sm, fun ls ss H3 e3 nls hls hss => ?_⟩
    have hm3 := e3 _ _ hm2
    have hlv3 := e3 _ _ hlv
    have hvs3 := hvs.ex e3
    have lss := hss.1
    have lvs : vs.length = (valsD L z.cps.toList).length := by rw [hvs.1, List.length_map]
    refine ⟨ls, rfl, ⟨_, SqL.of hls⟩, for_it (walk_list (xs := ss)) (fun i σ H' => (∃ u4 u5 us, σ = [some (.ref d), some (.str z), some (.ref m), some (.ref lv), u4, u5] ∧ H' m = some (.lst us) ∧ TzL H' us (keysTo L z i)) ∧ (∀ c u, c ≠ m → H3 c = some u → H' c = some u)) ⟨⟨_, _, _, rfl, hm3, TzL.nil⟩, fun c u _ h => h⟩ (fun i σ H' _ p => SqL.of (p.2 _ _ (ne_of_none hm2 nls |> Ne.symm) hls)) ?_ ?_⟩
    · rintro i xv σ H9 H4 hi ⟨⟨u4, u5, us, rfl, hm4, hus⟩, e4⟩ ⟨rfl, hxi⟩
      have t34 : TupK H3 H4 := fun a xs ha => e4 _ _ (ne_of ha hm3 (by intro y; cases y)) ha
      obtain ⟨sd, hsd, ts⟩ := hss.gotV hxi
      obtain ⟨da, db, rfl⟩ := lawStands_at (List.mem_of_getElem? hsd)
      obtain ⟨a, sxs, rfl, ha, hsx⟩ := (ts.te t34).tupI
      have lvm : lv ≠ m := Ne.symm (ne_of_none (upd_same (H := H) (a := m) (o := .lst [])) nlv)
      have hlv4 := e4 _ _ lvm hlv3
      have hvs4 := hvs3.te t34
      have lus : us.length = i * (valsD L z.cps.toList).length := by
        rw [hus.1, keysTo_len, Nat.min_eq_left (by omega)]
      have lus2 : us.length + (valsD L z.cps.toList).length ≤ 900 := by
        rw [lus, ← Nat.succ_mul]
        exact Nat.le_trans (Nat.mul_le_mul_right _ (by omega)) fv
      refine ⟨_, rfl, .inl ⟨rfl, _, SqL.of hm4⟩, _, rfl, lv, rfl, ⟨_, SqL.of hlv4⟩, fun D nD => lc_tz (walk_list (xs := vs)) (fun n => rowD (.tuple [.tuple da, .tuple db]) (((valsD L z.cps.toList).map PyData.tuple)[n]?.getD .none)) (by omega) nD (fun H' e => SqL.of (e _ _ hlv4)) (fun n xv H5 H6 Kq hn e5 y kq => ?_) (fun H5 zs e5 hD hzs => ?_)⟩
      · obtain ⟨rfl, hyn⟩ := y
        obtain ⟨dn, hdn, tn⟩ := hvs4.gotV hyn
        rw [hdn] at kq
        have ts5 := hsx.ex e5
        have tn5 := tn.ex e5
        refine ⟨rfl, _, rfl, _, rfl, (by show 1 ≤ sizeLine; decide), fun q nq => ?_⟩
        have eq1 := Ex.nw (o := .tup [xv]) nq
        have lsx : sxs.length = 2 := hsx.1
        refine ⟨a, q, sxs, [xv], rfl, rfl, SqT.of (eq1 _ _ (e5 _ _ ha)), SqT.of upd_same, Nat.le_of_lt (small (by show sxs.length + 1 < 1000; omega)), (fun h => by rw [h] at lsx; cases lsx), (fun _ h => by cases h), fun _ _ r nr => ?_⟩
        have er := Ex.nw (o := .tup (sxs ++ [xv])) nr
        exact kq _ _ (eq1.tr er) ((((ts5.snoc tn5).ex eq1).ex er).tup upd_same)
      · have hm5 := e5 _ _ hm4
        have hz1 := hzs.1
        rw [List.length_map, List.length_range] at hz1
        refine ⟨m, D, _, _, rfl, rfl, hm5, hD, Nat.le_of_lt (small (by omega)), ⟨⟨_, _, _, rfl, upd_same, ?_⟩, fun c u nc hc => by rw [upd_ne nc]; exact e5 _ _ (e4 _ _ nc hc)⟩⟩
        have q : keysTo L z (i + 1) = keysTo L z i ++ (List.range vs.length).map fun n => rowD (.tuple [.tuple da, .tuple db]) (((valsD L z.cps.toList).map PyData.tuple)[n]?.getD .none) := by
          rw [keysTo_snoc hsd]
          congr 1
          conv => lhs; rw [← getD_map (n := vs.length) hvs.1]
          rw [List.map_map]; rfl
        rw [q]
        exact ((hus.ex e5).app hzs).te (te_lst hm5)
    · rintro σ H4 ⟨⟨u4, u5, us, rfl, hm4, hus⟩, e4⟩
      rw [lss, keysTo_all] at hus
      exact ⟨_, rfl, k m us H4 (fun c u hc => e4 _ _ (ne_of_none hc nHm) ((e02.tr e3) _ _ hc)) nHm hm4 hus⟩
end
end K65
set_option Elab.async false
set_option linter.all false
set_option maxRecDepth 100000
set_option maxHeartbeats 4400000
namespace K65
open PySem PySem.Spec PyProof.Rows L2 HX
open PySem.W (Frag)

def LetOk (b : Bool) (z : Str) : Prop := z.cps.toList = [110] ∨ (b = true ∧ z.cps.toList = [114])
theorem LetOk.len {b : Bool} {z : Str} (h : LetOk b z) : z.length = 1 := by
  have q : z.cps.toList.length = 1 := by rcases h with e | ⟨_, e⟩ <;> rw [e] <;> rfl
  rw [Array.length_toList] at q; exact q
theorem LetOk.kd {b : Bool} {z : Str} (h : LetOk b z) : z.cps.toList.all (fun c => c == 110 || (b && c == 114)) = true := by
  rcases h with e | ⟨hb, e⟩
  · rw [e]; rfl
  · rw [e, hb]; rfl
theorem join_let {b : Bool} : ∀ ls : List Str, (∀ z ∈ ls, LetOk b z) → (Txt.join "" ls).length = ls.length ∧ kindsOk b (Txt.join "" ls) = true
  | [], _ => by rw [TL.join_eq]; exact ⟨rfl, rfl⟩
  | [x], h => by
    rw [TL.join_eq]
    exact ⟨(h x (.head _)).len, (h x (.head _)).kd⟩
  | x :: y :: r, h => by
    have ih := join_let (y :: r) fun z hz => h z (.tail _ hz)
    have hx := h x (.head _)
    rw [TL.join_eq] at ih ⊢
    have e : (Str.join "" (x :: y :: r)).cps = x.cps ++ ("" : Str).cps ++ (Str.join "" (y :: r)).cps := rfl
    have z0 : ("" : Str).cps = #[] := by decide +kernel
    have l1 : x.cps.size = 1 := hx.len
    constructor
    · show (Str.join "" (x :: y :: r)).cps.size = _
      have l2 : (Str.join "" (y :: r)).cps.size = (y :: r).length := ih.1
      rw [e, z0, Array.size_append, Array.size_append, l1, l2]
      simp only [List.length_cons, List.size_toArray, List.length_nil]; omega
    · unfold kindsOk at ih ⊢
      rw [e, z0, Array.toList_append, Array.toList_append, List.all_append, List.all_append, hx.kd, ih.2]; rfl
theorem let_nnr : ∀ c ∈ ("nnr" : Str).cps.toList, c = 110 ∨ c = 114 := by decide +kernel
theorem let_n : ∀ c ∈ ("n" : Str).cps.toList, c = 110 := by decide +kernel
theorem let_of {b : Bool} {c : Nat} (h : c = 110 ∨ (b = true ∧ c = 114)) : LetOk b ⟨#[c]⟩ := by
  rcases h with rfl | ⟨hb, rfl⟩
  · exact .inl rfl
  · exact .inr ⟨hb, rfl⟩
theorem sum_one {b : Bool} : ∀ {ls : List Str}, (∀ z ∈ ls, LetOk b z) → (ls.map (·.length)).sum = ls.length
  | [], _ => rfl
  | x :: r, h => by
    rw [List.map_cons, List.sum_cons, (h x (.head _)).len, sum_one fun z hz => h z (.tail _ hz), List.length_cons]; omega
theorem z0 : ("" : Str).length = 0 := by decide +kernel

theorem strs_of {P : Str → Prop} : ∀ {ds : List PyData}, (∀ (i : Nat) (d : PyData), ds[i]? = some d → ∃ z, d = .str z ∧ P z) → ∃ ls : List Str, ds = ls.map PyData.str ∧ ∀ z ∈ ls, P z
  | [], _ => ⟨[], rfl, fun z h => by cases h⟩
  | d :: r, h => by
    obtain ⟨z, rfl, hz⟩ := h 0 d rfl
    obtain ⟨ls, rfl, hl⟩ := strs_of (ds := r) fun i d e => h (i + 1) d (by simpa using e)
    exact ⟨z :: ls, rfl, fun y hy => (List.mem_cons.mp hy).elim (fun e => e ▸ hz) (hl y)⟩

def spLetters (K : Frag) (C : Addr) : Sp := fun vs H Q _ => ∃ (p d : Addr) (L : Lore) (N : Int), vs = [.ref p, .ref d, .int 1] ∧ PotAt H p N ∧ N ≤ 90000 ∧ LandAt K C H d L ∧ Small L ∧ ∀ (z : Str) (H' : Hp), XB p H H' → PotAt H' p (N + 2) → z.length ≤ 1 → kindsOk (!L.rn.isEmpty) z = true → Q (.str z) H'

section
variable {P : Program} {w : World} {K : Frag} {mg : Str → Option Value} {base : Heap} {A : Ad}

theorem ok_letters (T : Txt K mg A) : FnOk P w K mg base CX0 3 A.f_letters A.d_letters ["_law_box_here", "_law_land_here", "_law_upto"] (spLetters K A.C_World) := by
  refine T.F_letters.ok sc_letters (fun vs H Q E h => ?_) (fun cdv A0 outer s H vs Q E hr h => ?_)
  · obtain ⟨_, _, _, _, rfl, _⟩ := h
    rfl
  · have hu := hu_of hr
    obtain ⟨p, d, L, N, rfl, hp, hN, hL, sm, k⟩ := h
    refine ⟨_, (pss_cons (ps_set (i := 3) sc_letters.nd rfl (Or.inr rfl) (pe_ifExp (pt_cmpR op_gt (pe_callB call_len_seq (by rfl) T.g_len (by decide +kernel) (pa_cons (pe_dget hu (pv 1) pe_str (fun _ _ => rfl)) pa_nil)) pe_int (nomark _)) pe_str pe_str))
      (pss_one (ps_ret (pe_join pe_str (pe_lc (own := [("_law_turn", 4)]) (g := (gName 4)) (tt := tYes) rfl sc_letters.nd (pi_range1 rfl T.g_range (pa_cons (pe_call (ok_take T) (hr.mono (by decide)) (by rfl) T.m_take T.F_take.kp T.b_take .nil pass0 (pa_cons (pv 0) (pa_cons (pe_op op_add (pv 2) pe_int) pa_nil))) pa_nil)) (blkOk_by (N := N_letters) (sc := defScope s_letters) (by decide +kernel)) (fun _ _ _ _ _ => pg_name (i := 4) sc_letters.nd rfl (Or.inl rfl)) (fun _ _ _ _ _ => pts_nil) (fun _ _ _ _ _ => (pe_call (ok_ofS T) (hr.mono (by decide)) (by rfl) T.m_of T.F_of.kp T.b_of .nil pass0 (pa_cons (pv 0) (pa_cons (pv 3) pa_nil))))))))), ?_⟩
    obtain ⟨ln, lo, xw, hd, hln, hlo, hW, hlo0⟩ := id hL
    have lrs : (L.rs.map V.str).length = L.rn.length := by rw [List.length_map]; exact List.length_map ..
    refine ⟨_, rfl, d, _, rfl, land_rows hd, lo, _, rfl, .inl (SqL.of hlo), _, _, rfl, rfl, _, rfl, ?_⟩
    refine bothE (R := fun v G => ∃ z : Str, v = .str z ∧ G = H ∧ 0 < z.length ∧ z.length ≤ 5 ∧ ∀ c ∈ z.cps.toList, LetOk (!L.rn.isEmpty) ⟨#[c]⟩) (fun hc Qd k' => k' _ _ ⟨_, rfl, rfl, by decide +kernel, by decide +kernel, fun c h => let_of ((let_nnr c h).imp id fun e => ⟨by cases hq : L.rn with | nil => (rw [lrs, hq] at hc; simp at hc) | cons _ _ => rfl, e⟩)⟩) (fun hc Qd k' => k' _ _ ⟨_, rfl, rfl, by decide +kernel, by decide +kernel, fun c h => let_of (.inl (let_n c h))⟩) ?_
    rintro _ _ ⟨zl, rfl, rfl, zl0, zl5, hlet⟩
    refine ⟨⟨_, rfl⟩, _, rfl, _, rfl, _, _, rfl, rfl, p, 2, N, rfl, hp, by decide, by decide, by omega, fun m Hd m0 m1 xd hpd => ⟨m, rfl, by omega, by omega, fun D nD => ?_⟩⟩
    have nDp := pot_none hpd nD
    refine lc_dr walk_range (p := p) (fun j H => PotAt H p (N + 1 + (j : Int))) (fun j d => ∃ c, d = .str c ∧ LetOk (!L.rn.isEmpty) c) (by omega) nD nDp (fun j H q => pot_at q) (hpd.mono (by omega)) (fun j H H' q e => q.ex e) (fun j H xs ys q hD => q.up (Ne.symm nDp)) (fun _ _ => trivial) (fun j xv He Hf Kq hj xe hpe y kq => ?_) (fun He xs ds xe hpe hD hx hl hg => ?_)
    · obtain ⟨rfl, rfl⟩ := y
      exact ⟨rfl, _, rfl, _, rfl, p, zl, _, rfl, hpe, zl0, by omega, by omega, fun i c H4 hc x4 hp4 => kq _ _ _ x4 (hp4.mono (by push_cast; omega)) (.str _) ⟨_, rfl, hlet c (List.mem_of_getElem? hc)⟩⟩
    · obtain ⟨ls, rfl, hls⟩ := strs_of hg
      obtain rfl := hx.strs
      rw [List.length_map] at hl
      have jl := join_let ls hls
      refine ⟨"", D, ls, rfl, rfl, .inl (SqL.of hD), (by rw [sum_one hls, z0]; omega), ?_⟩
      exact k _ _ (xd.tr xe) (hpe.mono (by omega)) (by rw [jl.1]; omega) jl.2
end
end K65
set_option Elab.async false
set_option linter.all false
set_option maxRecDepth 100000
set_option maxHeartbeats 4400000
namespace K65
open PySem PySem.Spec PyProof.Rows L2 HX
open PySem.W (Frag)


theorem strs_no {ss : List Str} {a b c : Int} : HO.lst (ss.map V.str) ≠ .lst [.int a, .int b, .int c] := by
  intro h
  injection h with h
  cases ss with
  | nil => cases h
  | cons x r => rw [List.map_cons] at h; injection h with h; cases h
theorem LandAt.pot {K : Frag} {C d p : Addr} {H H' : Hp} {L : Lore} {N : Int} (h : LandAt K C H d L) (hp : PotAt H p N) (e : XB p H H') : LandAt K C H' d L := by
  obtain ⟨ln, lo, xw, h1, h2, h3, h4, h5⟩ := h
  obtain ⟨a, b, c, z, _⟩ := hp
  exact ⟨ln, lo, xw, e _ _ (ne_of h1 z (by intro y; cases y)) h1, e _ _ (ne_of h2 z strs_no) h2, e _ _ (ne_of h3 z strs_no) h3, h4.te z e, h5⟩
theorem keys_144 {L : Lore} (h : Small L) {z : Str} (hz : z.length ≤ 1) : (keysD L z).length ≤ 144 := by
  have s1 : (standsD L).length ≤ 48 := by
    have := small_stands h (lotsD L).length
    rwa [List.take_length] at this
  have lz : z.cps.toList.length ≤ 1 := by have : z.cps.size ≤ 1 := hz; simpa using this
  have v : (valsD L z.cps.toList).length ≤ 3 := by
    rw [vals_prod]
    match hq : z.cps.toList, lz with
    | [], _ => show 1 ≤ 3; decide
    | [a], _ =>
      have := ch_len3 h a
      rw [prodD_len]
      show 1 * (chD L a).length ≤ 3
      omega
    | a :: b :: r, q => simp at q
  rw [keys_len]
  exact Nat.le_trans (Nat.mul_le_mul s1 v) (by decide)
def spKindsL (K : Frag) (C : Addr) : Sp := fun vs H Q _ => ∃ (p d : Addr) (L : Lore) (N : Int), vs = [.ref p, .ref d, .int 1] ∧ PotAt H p N ∧ N ≤ 90000 ∧ LandAt K C H d L ∧ Small L ∧ ∀ (z : Str) (H' : Hp), XB p H H' → PotAt H' p (N + 2) → z.length ≤ 1 → kindsOk (!L.rn.isEmpty) z = true → Q (.str z) H'

section
variable {P : Program} {w : World} {K : Frag} {mg : Str → Option Value} {base : Heap} {A : Ad}

theorem ok_kinds (T : Txt K mg A) : FnOk P w K mg base CX0 4 A.f_kinds A.d_kinds ["_law_box_here", "_law_land_here", "_law_upto"] (spKindsL K A.C_World) := by
  refine T.F_kinds.ok sc_kinds (fun vs H Q E h => ?_) (fun cdv A0 outer s H vs Q E hr h => ?_)
  · obtain ⟨_, _, _, _, rfl, _⟩ := h
    rfl
  · have hu := hu_of hr
    obtain ⟨p, d, L, N, rfl, hp, hN, hL, sm, k⟩ := h
    refine ⟨_, (pss_cons (ps_set (i := 3) sc_kinds.nd rfl (Or.inl rfl) (pe_call (ok_letters T) (hr.mono (by decide)) (by rfl) T.m_letters T.F_letters.kp T.b_letters .nil pass0 (pa_cons (pv 0) (pa_cons (pv 1) (pa_cons (pv 2) pa_nil)))))
      (pss_one (ps_ret (pe_ifExp (pt_cmpR op_le (pe_callB call_len_seq (by rfl) T.g_len (by decide +kernel) (pa_cons (pe_call (ok_keys T) (hr.mono (by decide)) (by rfl) T.m_keys T.F_keys.kp T.b_keys .nil pass0 (pa_cons (pv 1) (pa_cons (pv 3) pa_nil))) pa_nil)) pe_int (nomark _)) (pv 3) (pe_slice sl_str (pv 3) po_none (po_some pe_int)))))), ?_⟩
    refine ⟨_, rfl, _, rfl, _, rfl, p, d, L, N, rfl, hp, hN, hL, sm, fun z H1 x1 hp1 lz kz => ?_⟩
    have hL1 := hL.pot hp x1
    refine ⟨_, rfl, _, rfl, d, L, z, rfl, hL1, sm, by omega, fun l xs H2 e2 nl hl hx => ⟨l, xs, rfl, .inl (SqL.of hl), _, _, rfl, rfl, _, rfl, ?_⟩⟩
    have kk : Q (.str z) H2 := k z H2 (x1.tr (Ex.xb e2)) (hp1.ex e2) lz kz
    have lk := keys_144 sm lz
    have lx := hx.1
    exact HX.if_true (decide_eq_true (by omega)) ⟨_, rfl, kk⟩
end
end K65
set_option Elab.async false
set_option linter.all false
set_option maxRecDepth 100000
set_option maxHeartbeats 4400000
namespace K65
open PySem PySem.Spec PyProof.Rows L2 HX
open PySem.W (Frag)


theorem all_map {α β : Type} {f : α → β} {P : α → Prop} : ∀ l : List β, (∀ d ∈ l, ∃ a, d = f a ∧ P a) → ∃ as : List α, l = as.map f ∧ ∀ a ∈ as, P a
  | [], _ => ⟨[], rfl, fun a h => by cases h⟩
  | d :: r, h => by
    obtain ⟨a, rfl, ha⟩ := h d (.head _)
    obtain ⟨as, rfl, hs⟩ := all_map r fun x hx => h x (.tail _ hx)
    exact ⟨a :: as, rfl, fun x hx => (List.mem_cons.mp hx).elim (fun e => e ▸ ha) (hs x)⟩
theorem st_of {L : Lore} (sm : Small L) : ∀ s ∈ lawStands L, ∃ a b, s = .tuple [a, b] ∧ StOk L a b := fun s hs => by
  have e0 : prodD [wsD L, isD L] = (wsD L).flatMap fun w => (isD L).map fun i => [w, i] := by
    show addD (addD [[]] (wsD L)) (isD L) = _
    unfold addD
    simp [List.flatMap_map]
  unfold lawStands at hs
  rw [e0] at hs
  obtain ⟨u, hu, rfl⟩ := List.mem_map.mp hs
  obtain ⟨w, hw, hu⟩ := List.mem_flatMap.mp hu
  obtain ⟨i, hi, rfl⟩ := List.mem_map.mp hu
  unfold wsD at hw
  unfold isD at hi
  obtain ⟨a, ha, rfl⟩ := List.mem_map.mp hw
  obtain ⟨b, hb, rfl⟩ := List.mem_map.mp hi
  have la := prodD_each _ _ (List.length_replicate ..) a ha
  have lb := prodD_each _ _ (List.length_replicate ..) b hb
  obtain ⟨ns, rfl, hns⟩ := all_map (f := PyData.int) (P := fun i => 0 ≤ i ∧ i < L.sz) a fun d hd => by
    obtain ⟨ch, h1, h2⟩ := prodD_mem _ _ rfl a ha d hd
    rw [(List.mem_replicate.mp h1).2] at h2
    obtain ⟨j, hj, rfl⟩ := List.mem_map.mp h2
    have := List.mem_range.mp hj
    have := sm.ok.s0
    exact ⟨_, rfl, by omega, by omega⟩
  obtain ⟨rs, rfl, hrs⟩ := all_map (f := itD) (P := fun r => (r.length : Int) ≤ L.mo ∧ ∀ i ∈ r, 0 ≤ i ∧ i < L.sz) b fun d hd => by
    obtain ⟨ch, h1, h2⟩ := prodD_mem _ _ rfl b hb d hd
    rw [(List.mem_replicate.mp h1).2] at h2
    exact items_at sm.ok.s0 sm.ok.m0 d h2
  rw [List.length_map] at la lb
  exact ⟨_, _, rfl, ns, rs, rfl, rfl, la, lb, hns, hrs⟩
theorem stands_pos {L : Lore} (sm : Small L) : 0 < (lawStands L).length ∧ (lawStands L).length ≤ 48 := by
  have s1 := small_stands sm (lotsD L).length
  rw [List.take_length] at s1
  have e : (lawStands L).length = (standsD L).length := by rw [lawStands_eq, List.length_map]
  refine ⟨?_, by rw [e]; exact s1⟩
  rw [e]
  unfold standsD lotsD
  rw [prod_mul]
  have h1 := prod_pos L.cn.length _ (ints_pos sm.ok.s0)
  have h2 := prod_pos L.rn.length (itemsD L) (by unfold itemsD itemsTo; simp)
  exact Nat.mul_pos h1 h2
theorem end_at {L : Lore} {H : Hp} {t1 t3 t5 : Addr} {z : Int} (h0 : 0 ≤ z) (h1 : z < L.sz) (a : Tz H (.ref t1) (.tuple [.str "gives", .int z])) (b : Tz H (.ref t3) (.tuple [.str "faults", .tuple [.str "zero"]])) (c : Tz H (.ref t5) (.tuple [.str "faults", .tuple [.str "a", .str "bb", .str "index"]])) {i : Nat} {v : V} (hv : ([V.ref t1, .ref t3, .ref t5] : List V)[i]? = some v) : ∃ d, Tz H v d ∧ EndOk L d := by
  match i, hv with
  | 0, hv => cases hv; exact ⟨_, a, .inl ⟨z, rfl, h0, h1⟩⟩
  | 1, hv => cases hv; exact ⟨_, b, .inr ⟨["zero"], rfl, by decide, by decide, by decide +kernel⟩⟩
  | 2, hv => cases hv; exact ⟨_, c, .inr ⟨["a", "bb", "index"], rfl, by decide, by decide, by decide +kernel⟩⟩
  | i + 3, hv => simp at hv
def spToldD (K : Frag) (C : Addr) : Sp := fun vs H Q _ => ∃ (p d ls : Addr) (ss : List V) (L : Lore) (N : Int), vs = [.ref p, .ref d, .ref ls] ∧ PotAt H p N ∧ N ≤ 90000 ∧ LandAt K C H d L ∧ Small L ∧ H ls = some (.lst ss) ∧ ls ≠ p ∧ TzL H ss (lawStands L) ∧ ∀ (v : V) (t : PyData) (H' : Hp), XB p H H' → PotAt H' p (N + 4) → Tz H' v t → ToldOk L t → Q v H'

section
variable {P : Program} {w : World} {K : Frag} {mg : Str → Option Value} {base : Heap} {A : Ad}

theorem ok_told_drawn (T : Txt K mg A) : FnOk P w K mg base CX0 3 A.f_told_drawn A.d_told_drawn ["_law_box_here", "_law_land_here", "_law_stands_here"] (spToldD K A.C_World) := by
  refine T.F_told_drawn.ok sc_told_drawn (fun vs H Q E h => ?_) (fun cdv A0 outer s H vs Q E hr h => ?_)
  · obtain ⟨_, _, _, _, _, _, rfl, _⟩ := h
    rfl
  · have hu := hu_of hr
    obtain ⟨p, d, ls, ss, L, N, rfl, hp, hN, hL, sm, hls, nls, hss, k⟩ := h
    refine ⟨_, (pss_cons (ps_set (i := 3) sc_told_drawn.nd rfl (Or.inl rfl) (pe_call (ok_take T) (hr.mono (by decide)) (by rfl) T.m_take T.F_take.kp T.b_take .nil pass0 (pa_cons (pv 0) (pa_cons (pe_dget hu (pv 1) pe_str (fun _ _ => rfl)) pa_nil))))
      (pss_cons (ps_set (i := 4) sc_told_drawn.nd rfl (Or.inl rfl) (pe_call (ok_of T) (hr.mono (by decide)) (by rfl) T.m_of T.F_of.kp T.b_of .nil pass0 (pa_cons (pv 0) (pa_cons (pe_lstN (pa_cons (pe_tup (pa_cons pe_str (pa_cons (pv 3) pa_nil))) (pa_cons (pe_tup (pa_cons pe_str (pa_cons (pe_tup (pa_cons pe_str pa_nil)) pa_nil))) (pa_cons (pe_tup (pa_cons pe_str (pa_cons (pe_tup (pa_cons pe_str (pa_cons pe_str (pa_cons pe_str pa_nil)))) pa_nil))) pa_nil)))) pa_nil))))
      (pss_one (ps_ret (pe_call (ok_of T) (hr.mono (by decide)) (by rfl) T.m_of T.F_of.kp T.b_of .nil pass0 (pa_cons (pv 0) (pa_cons (pe_lstN (pa_cons pe_non (pa_cons (pe_op op_catA (pe_tup (pa_cons (pv 4) pa_nil)) (pe_call (ok_of T) (hr.mono (by decide)) (by rfl) T.m_of T.F_of.kp T.b_of .nil pass0 (pa_cons (pv 0) (pa_cons (pv 2) pa_nil)))) pa_nil))) pa_nil))))))), ?_⟩
    have s0 := sm.ok.s0; have s1 := sm.ok.s1
    obtain ⟨ln, lo, xw, hd, hln, hlo, hW, hlo0⟩ := id hL
    obtain ⟨sp0, sp1⟩ := stands_pos sm
    have lss := hss.1
    refine ⟨_, rfl, _, rfl, d, _, rfl, land_size hd, p, L.sz, N, rfl, hp, by omega, by omega, by omega, fun z H1 z0 z1 x1 hp1 => ?_⟩
    refine ⟨_, rfl, _, rfl, (by show 2 ≤ sizeLine; decide), fun t1 n1 => ⟨(by show 1 ≤ sizeLine; decide), fun t2 n2 => ⟨(by show 2 ≤ sizeLine; decide), fun t3 n3 => ⟨(by show 3 ≤ sizeLine; decide), fun t4 n4 => ⟨(by show 2 ≤ sizeLine; decide), fun t5 n5 => ⟨(by show 3 ≤ sizeLine; decide), fun l nl ns => ?_⟩⟩⟩⟩⟩⟩
    have e1 := Ex.nw (o := .tup [V.str "gives", .int z]) n1
    have e2 := Ex.nw (o := .tup [V.str "zero"]) n2
    have e3 := Ex.nw (o := .tup [V.str "faults", .ref t2]) n3
    have e4 := Ex.nw (o := .tup [V.str "a", .str "bb", .str "index"]) n4
    have e5 := Ex.nw (o := .tup [V.str "faults", .ref t4]) n5
    have e6 := Ex.nw (o := .lst [V.ref t1, .ref t3, .ref t5]) nl
    have a1 : Tz _ (.ref t1) (.tuple [.str "gives", .int z]) := TzL.tup (TzL.cons (.str _) (TzL.one (.int z))) (upd_same (H := H1) (a := t1) (o := .tup [V.str "gives", .int z]))
    have a2 : Tz _ (.ref t2) (.tuple [.str "zero"]) := TzL.tup (TzL.one (.str _)) (upd_same (H := upd H1 t1 (.tup [V.str "gives", .int z])) (a := t2) (o := .tup [V.str "zero"]))
    have a3 : Tz (upd (upd (upd H1 t1 (.tup [V.str "gives", .int z])) t2 (.tup [V.str "zero"])) t3 (.tup [V.str "faults", .ref t2])) (.ref t3) (.tuple [.str "faults", .tuple [.str "zero"]]) := TzL.tup (TzL.cons (.str _) (TzL.one (a2.ex e3))) upd_same
    have a4 : Tz (upd (upd (upd (upd H1 t1 (.tup [V.str "gives", .int z])) t2 (.tup [V.str "zero"])) t3 (.tup [V.str "faults", .ref t2])) t4 (.tup [V.str "a", .str "bb", .str "index"])) (.ref t4) (.tuple [.str "a", .str "bb", .str "index"]) := TzL.tup (TzL.cons (.str _) (TzL.cons (.str _) (TzL.one (.str _)))) upd_same
    have a5 : Tz (upd (upd (upd (upd (upd H1 t1 (.tup [V.str "gives", .int z])) t2 (.tup [V.str "zero"])) t3 (.tup [V.str "faults", .ref t2])) t4 (.tup [V.str "a", .str "bb", .str "index"])) t5 (.tup [V.str "faults", .ref t4])) (.ref t5) (.tuple [.str "faults", .tuple [.str "a", .str "bb", .str "index"]]) := TzL.tup (TzL.cons (.str _) (TzL.one (a4.ex e5))) upd_same
    have b1 := a1.ex (e2.tr (e3.tr (e4.tr (e5.tr e6))))
    have b3 := a3.ex (e4.tr (e5.tr e6))
    have b5 := a5.ex e6
    have eG := e1.tr (e2.tr (e3.tr (e4.tr (e5.tr e6))))
    have hlG := upd_same (H := upd (upd (upd (upd (upd H1 t1 (.tup [V.str "gives", .int z])) t2 (.tup [V.str "zero"])) t3 (.tup [V.str "faults", .ref t2])) t4 (.tup [V.str "a", .str "bb", .str "index"])) t5 (.tup [V.str "faults", .ref t4])) (a := l) (o := .lst [V.ref t1, .ref t3, .ref t5])
    have hpG := hp1.ex eG
    have nlp := pot_none (hp1.ex (e1.tr (e2.tr (e3.tr (e4.tr e5))))) nl
    have x0G := x1.tr (Ex.xb (p := p) eG)
    obtain ⟨G, EG⟩ : ∃ y, y = upd (upd (upd (upd (upd (upd H1 t1 (.tup [V.str "gives", .int z])) t2 (.tup [V.str "zero"])) t3 (.tup [V.str "faults", .ref t2])) t4 (.tup [V.str "a", .str "bb", .str "index"])) t5 (.tup [V.str "faults", .ref t4])) l (.lst [V.ref t1, .ref t3, .ref t5]) := ⟨_, rfl⟩
    rw [← EG] at b1 b3 b5 eG hlG hpG x0G ⊢
    refine ⟨p, l, _, N + 1, rfl, hpG, SqL.of hlG, nlp, (by show 0 < 3; decide), (by show 3 < 1000; decide), by omega, fun i ve H2 hve x2 hp2 => ?_⟩
    obtain ⟨de, tde, oke⟩ := end_at (L := L) z0 z1 b1 b3 b5 hve
    obtain ⟨zp, hzp⟩ := pot_at hpG
    have tde2 := tde.te (x2.te hzp)
    have x02 := x0G.tr x2
    have hls2 := x02 _ _ nls hls
    refine ⟨_, rfl, _, rfl, (by show 1 ≤ sizeLine; decide), fun t6 n6 => ?_⟩
    have e7 := Ex.nw (o := .tup [ve]) n6
    refine ⟨_, rfl, _, rfl, p, ls, ss, N + 2, rfl, (hp2.ex e7).mono (by omega), SqL.of (e7 _ _ hls2), nls, by omega, by omega, by omega, fun j vs H3 hvs x3 hp3 => ?_⟩
    obtain ⟨zs0, hz0⟩ := pot_at hp
    have x06 := x02.tr (Ex.xb (p := p) e7)
    have x03 := x06.tr x3
    obtain ⟨sd, hsd, tsd⟩ := hss.gotV hvs
    obtain ⟨sa, sb, rfl, hst⟩ := st_of sm sd (List.mem_of_getElem? hsd)
    obtain ⟨bq, wa, wb, rfl, hbq, ta, tb⟩ := (tsd.te (x03.te hz0)).tup2
    obtain ⟨z7, hz7⟩ := pot_at (hp2.ex e7)
    have n6p := pot_none hp2 n6
    have ht6 := x3 _ _ n6p (upd_same (H := H2) (a := t6) (o := .tup [ve]))
    have tde3 := (tde2.ex e7).te (x3.te hz7)
    refine ⟨t6, bq, [ve], [wa, wb], rfl, rfl, SqT.of ht6, SqT.of hbq, (by show 3 ≤ sizeLine; decide), (fun h => by cases h), (fun _ h => by cases h), fun _ _ r nr => ⟨(by show 2 ≤ sizeLine; decide), fun l2 nl2 ns2 => ?_⟩⟩
    have er := Ex.nw (o := .tup ([ve] ++ [wa, wb])) nr
    have el2 := Ex.nw (o := .lst [V.non, .ref r]) nl2
    have hp4 := (hp3.ex er).ex el2
    have tr : Tz _ (.ref r) (.tuple [de, sa, sb]) := ((TzL.cons tde3 (TzL.cons ta (TzL.one tb))).ex er).tup (upd_same (H := H3) (a := r) (o := .tup ([ve] ++ [wa, wb])))
    obtain ⟨z8, hz8⟩ := pot_at hp4
    refine ⟨p, l2, _, N + 3, rfl, hp4.mono (by omega), SqL.of upd_same, pot_none (hp3.ex er) nl2, (by show 0 < 2; decide), (by show 2 < 1000; decide), by omega, fun m v H5 hv x5 hp5 => ?_⟩
    have x05 := x03.tr ((Ex.xb (p := p) (er.tr el2)).tr x5)
    match m, hv with
    | 0, hv => cases hv; exact k .non .none H5 x05 (hp5.mono (by omega)) .non (.inl rfl)
    | 1, hv => cases hv; exact k (.ref r) _ H5 x05 (hp5.mono (by omega)) ((tr.ex el2).te (x5.te hz8)) (.inr ⟨_, _, _, rfl, oke, hst⟩)
    | m + 2, hv => simp at hv
end
end K65
set_option Elab.async false
set_option linter.all false
set_option maxRecDepth 100000
set_option maxHeartbeats 4400000
namespace K65
open PySem PySem.Spec PyProof.Rows L2 HX
open PySem.W (Frag)


theorem rows_of {P : PyData → Prop} : ∀ (ks ds : List PyData), ds.length = ks.length → (∀ (i : Nat) (d : PyData), ds[i]? = some d → ∃ k t, ks[i]? = some k ∧ d = rowD k t ∧ P t) → ∃ ts, ds = List.zipWith rowD ks ts ∧ ts.length = ks.length ∧ ∀ t ∈ ts, P t
  | [], [], _, _ => ⟨[], rfl, rfl, fun t h => by cases h⟩
  | [], _ :: _, h, _ => by cases h
  | _ :: _, [], h, _ => by cases h
  | k :: ks, d :: ds, h, g => by
    obtain ⟨k', t, hk, rfl, ht⟩ := g 0 d rfl
    cases hk
    obtain ⟨ts, rfl, hl, hp⟩ := rows_of ks ds (by simpa using h) fun i d e => g (i + 1) d (by simpa using e)
    exact ⟨t :: ts, rfl, by rw [List.length_cons, List.length_cons, hl], fun x hx => (List.mem_cons.mp hx).elim (fun e => e ▸ ht) (hp x)⟩
theorem keys_432 {L : Lore} (h : Small L) {z : Str} (hz : z.length ≤ 2) : (keysD L z).length ≤ 900 := by
  rw [keys_len]; exact few_vals (few_of h hz)
def spTableD (K : Frag) (C : Addr) : Sp := fun vs H Q _ => ∃ (p d : Addr) (L : Lore) (z : Str) (N : Int), vs = [.ref p, .ref d, .str z] ∧ PotAt H p N ∧ N ≤ 80000 ∧ LandAt K C H d L ∧ Small L ∧ z.length ≤ 2 ∧ ∀ (v : V) (ts : List PyData) (H' : Hp), XB p H H' → PotAt H' p (N + 3600) → Tz H' v (.tuple (tabD L z ts)) → ts.length = (keysD L z).length → (∀ t ∈ ts, ToldOk L t) → Q v H'

section
variable {P : Program} {w : World} {K : Frag} {mg : Str → Option Value} {base : Heap} {A : Ad}

theorem ok_table (T : Txt K mg A) : FnOk P w K mg base CX0 4 A.f_table A.d_table ["_law_box_here", "_law_land_here", "_law_kinds_here"] (spTableD K A.C_World) := by
  refine T.F_table.ok sc_table (fun vs H Q E h => ?_) (fun cdv A0 outer s H vs Q E hr h => ?_)
  · obtain ⟨_, _, _, _, _, rfl, _⟩ := h
    rfl
  · have hu := hu_of hr
    obtain ⟨p, d, L, z, N, rfl, hp, hN, hL, sm, hz, k⟩ := h
    refine ⟨_, (pss_cons (ps_set (i := 3) sc_table.nd rfl (Or.inr rfl) (pe_call (ok_stands T) (hr.mono (by decide)) (by rfl) T.m_stands T.F_stands.kp T.b_stands .nil pass0 (pa_cons (pv 1) pa_nil)))
      (pss_one (ps_ret (pe_callTy call_tuple_of (by rfl) T.g_tuple (by decide +kernel) (pa_cons (pe_lc (own := [("_law_key", 4)]) (g := (gName 4)) (tt := tYes) rfl sc_table.nd (pi_list (pe_call (ok_keys T) (hr.mono (by decide)) (by rfl) T.m_keys T.F_keys.kp T.b_keys .nil pass0 (pa_cons (pv 1) (pa_cons (pv 2) pa_nil)))) (blkOk_by (N := N_table) (sc := defScope s_table) (by decide +kernel)) (fun _ _ _ _ _ => pg_name (i := 4) sc_table.nd rfl (Or.inl rfl)) (fun _ _ _ _ _ => pts_nil) (fun _ _ _ _ _ => (pe_op (op_catAK (K := K) rfl) (pv 4) (pe_tup (pa_cons (pe_call (ok_told_drawn T) (hr.mono (by decide)) (by rfl) T.m_told_drawn T.F_told_drawn.kp T.b_told_drawn .nil pass0 (pa_cons (pv 0) (pa_cons (pv 1) (pa_cons (pv 3) pa_nil)))) pa_nil))))) pa_nil))))), ?_⟩
    have lk := keys_432 sm hz
    refine ⟨_, rfl, d, L, rfl, hL, sm, fun ls ss H1 e1 nls hls hss => ?_⟩
    have hL1 := hL.ex e1
    refine ⟨_, rfl, _, rfl, d, L, z, rfl, hL1, sm, hz, fun lk ks H2 e2 nlk hlk hks => ?_⟩
    have e02 := e1.tr e2
    have hp2 := hp.ex e02
    have hls2 := e2 _ _ hls
    have hss2 := hss.ex e2
    have nlsp := pot_none hp nls
    have nlkp := pot_none (hp.ex e1) nlk
    have hL2 := hL.ex e02
    have lks := hks.1
    refine ⟨lk, rfl, ⟨_, SqL.of hlk⟩, fun D nD => lc_dr (walk_list (xs := ks)) (p := p) (fun i H => PotAt H p (N + 4 * (i : Int)) ) (fun i d' => ∃ kd t, (keysD L z)[i]? = some kd ∧ d' = rowD kd t ∧ ToldOk L t) (by omega) nD (pot_none hp2 nD) (fun i H q => pot_at q) (hp2.mono (by omega)) (fun i H H' q e => q.ex e) (fun i H xs ys q hD => q.up (Ne.symm (pot_none hp2 nD))) (fun H' x => SqL.of (x _ _ nlkp hlk)) (fun i xv H4 H5 Kq hi x4 hp4 y kq => ?_) (fun H4 xs ds x4 hp4 hD hx hl hg => ?_)⟩
    · obtain ⟨rfl, hxi⟩ := y
      obtain ⟨zp, hzp⟩ := pot_at hp2
      have te4 := x4.te hzp
      obtain ⟨kd, hkd, tk⟩ := hks.gotV hxi
      obtain ⟨q1, q2, q3, rfl, _⟩ := key_at sm.ok (by omega) kd (List.mem_of_getElem? hkd)
      obtain ⟨a, kxs, rfl, ha, hkx⟩ := (tk.te te4).tupI
      have hi9 : i < 900 := by omega
      refine ⟨rfl, _, rfl, _, rfl, _, rfl, _, rfl, p, d, ls, ss, L, _, rfl, hp4, by omega, hL2.pot hp2 x4, sm, x4 _ _ nlsp hls2, nlsp, hss2.te te4, fun v t H6 x6 hp6 tt okt => ⟨(by show 1 ≤ sizeLine; decide), fun t1 n1 => ?_⟩⟩
      have e7 := Ex.nw (o := .tup [v]) n1
      obtain ⟨z4, hz4⟩ := pot_at hp4
      have lkx : kxs.length = 3 := hkx.1
      have nap : a ≠ p := ne_of ha hz4 (by intro y; cases y)
      refine ⟨a, t1, kxs, [v], rfl, rfl, SqT.of (e7 _ _ (x6 _ _ nap ha)), SqT.of upd_same, (by rw [lkx]; show 3 + 1 ≤ sizeLine; decide), (fun h => by rw [h] at lkx; cases lkx), (fun _ h => by cases h), fun _ _ r nr => ?_⟩
      have er := Ex.nw (o := .tup (kxs ++ [v])) nr
      have x67 := x6.tr (Ex.xb (p := p) (e7.tr er))
      exact kq _ _ _ x67 (((hp6.ex e7).ex er).mono (by push_cast; omega)) (((((hkx.te (x6.te hz4)).snoc tt).ex e7).ex er).tup upd_same) ⟨_, t, hkd, rfl, okt⟩
    · obtain ⟨ts, rfl, lts, hts⟩ := rows_of (keysD L z) ds (by omega) (fun i d' h => hg i d' h)
      refine ⟨D, _, rfl, .inl ⟨SqL.of hD, fun tc ntc => ?_⟩⟩
      have ec := Ex.nw (o := .tup xs) ntc
      exact k _ ts _ ((Ex.xb (p := p) e02).tr (x4.tr (Ex.xb ec))) ((hp4.ex ec).mono (by omega)) ((hx.ex ec).tup upd_same) lts hts
end
end K65
set_option Elab.async false
set_option linter.all false
set_option maxRecDepth 100000
set_option maxHeartbeats 4400000
namespace K65
open PySem PySem.Spec PyProof.Rows L2 HX
open PySem.W (Frag)


theorem nx_set {i : Nat} {v : V} {σ : L2.St} {H : Hp} {k : L2.St → Hp → Prop} (h : k (σ.set i (some v)) H) : gName i v σ H k := h
theorem join_seq {t u : TS} {D : Ends} {σ : L2.St} {H : Hp} (R : L2.St → Hp → Prop) (h : ∀ D' : Ends, (∀ σ' G, R σ' G → D'.nx σ' G) → t D' σ H) (k : ∀ σ' G, R σ' G → u D σ' G) : tSeq t u D σ H := h { D with nx := u D } k
theorem if_b {b : Bool} {A B : Prop} (h : b = true → A) (k : b = false → B) : if b = true then A else B := by
  cases b with
  | true => exact HX.if_true rfl (h rfl)
  | false => exact HX.if_false rfl (k rfl)
theorem zip_snoc {t k : PyData} : ∀ {ks rs : List PyData}, ks[rs.length]? = some k → List.zipWith rowD ks (rs ++ [t]) = List.zipWith rowD ks rs ++ [rowD k t]
  | [], rs, h => by simp at h
  | x :: ks, [], h => by cases h; show [rowD k t] ++ List.zipWith rowD ks [] = _; rw [List.zipWith_nil_right]; rfl
  | x :: ks, r :: rs, h => by
    show rowD x r :: List.zipWith rowD ks (rs ++ [t]) = rowD x r :: (List.zipWith rowD ks rs ++ [rowD k t])
    rw [zip_snoc (ks := ks) (rs := rs) (by simpa using h)]
def spOther (K : Frag) (C : Addr) : Sp := fun vs H Q _ => ∃ (p d : Addr) (L : Lore) (z : Str) (vt : V) (ts : List PyData) (N : Int), vs = [.ref p, .ref d, .str z, vt] ∧ PotAt H p N ∧ N ≤ 80000 ∧ LandAt K C H d L ∧ Small L ∧ z.length ≤ 2 ∧ Tz H vt (.tuple (tabD L z ts)) ∧ ts.length = (keysD L z).length ∧ (∀ t ∈ ts, ToldOk L t) ∧
  ∀ (v : V) (us : List PyData) (H' : Hp), XB p H H' → PotAt H' p (N + 5401) → Tz H' v (.tuple (tabD L z us)) → us.length = (keysD L z).length → (∀ t ∈ us, ToldOk L t) → Q v H'

section
variable {P : Program} {w : World} {K : Frag} {mg : Str → Option Value} {base : Heap} {A : Ad}

theorem ok_other_table (T : Txt K mg A) : FnOk P w K mg base CX0 4 A.f_other_table A.d_other_table ["_law_box_here", "_law_land_here", "_law_kinds_here", "_law_table_here"] (spOther K A.C_World) := by
  refine T.F_other_table.ok sc_other_table (fun vs H Q E h => ?_) (fun cdv A0 outer s H vs Q E hr h => ?_)
  · obtain ⟨_, _, _, _, _, _, _, rfl, _⟩ := h
    rfl
  · have hu := hu_of hr
    obtain ⟨p, d, L, z, vt, ts, N, rfl, hp, hN, hL, sm, hz, tv, lts, hts, k⟩ := h
    obtain ⟨a, xs, rfl, ha, hxs⟩ := tv.tupI
    refine ⟨_, (pss_cons (ps_par3 (i := 4) (j := 5) (l := 6) (by rfl) sc_other_table.nd rfl rfl rfl (by decide) (by decide) (by decide) rfl rfl rfl (pa_cons (pe_call (ok_take T) (hr.mono (by decide)) (by rfl) T.m_take T.F_take.kp T.b_take .nil pass0 (pa_cons (pv 0) (pa_cons pe_int pa_nil))) (pa_cons (pe_call (ok_stands T) (hr.mono (by decide)) (by rfl) T.m_stands T.F_stands.kp T.b_stands .nil pass0 (pa_cons (pv 1) pa_nil)) (pa_cons (pe_lstN pa_nil) pa_nil))) (by rfl))
      (pss_cons (ps_for PassesOwn.never rfl (pi_tup (pv 3)) (pg_name (i := 7) sc_other_table.nd rfl (Or.inl rfl)) (pss_cons (ps_set (i := 8) sc_other_table.nd rfl (Or.inl rfl) (pe_ix ix_tup (pv 7) pe_int (fun _ _ => rfl)))
      (pss_cons (ps_if (PW.pt (pw_and (pt_cmpR op_eq (pe_call (ok_take T) (hr.mono (by decide)) (by rfl) T.m_take T.F_take.kp T.b_take .nil pass0 (pa_cons (pv 0) (pa_cons pe_int pa_nil))) pe_int (nomark _)) (pw_and1 (pt_cmpR op_in_seq (pv 4) (pe_tup (pa_cons pe_int (pa_cons pe_int pa_nil))) (by rfl))))) (pss_one (ps_set (i := 8) sc_other_table.nd rfl (Or.inl rfl) pe_non)) pss_nil)
      (pss_cons (ps_if (PW.pt (pw_and (pt_cmpR op_eq (pe_call (ok_take T) (hr.mono (by decide)) (by rfl) T.m_take T.F_take.kp T.b_take .nil pass0 (pa_cons (pv 0) (pa_cons pe_int pa_nil))) pe_int (nomark _)) (pw_and1 (pt_cmpR op_in_seq (pv 4) (pe_tup (pa_cons pe_int (pa_cons pe_int pa_nil))) (by rfl))))) (pss_one (ps_set (i := 8) sc_other_table.nd rfl (Or.inl rfl) (pe_ifExp (PW.pt (pw_or (pt_cmpR op_eq (pv 4) pe_int (nomark _)) (pw_or1 (pt_cmpR op_isN (pv 8) pe_non (nomark _))))) (pe_call (ok_told_drawn T) (hr.mono (by decide)) (by rfl) T.m_told_drawn T.F_told_drawn.kp T.b_told_drawn .nil pass0 (pa_cons (pv 0) (pa_cons (pv 1) (pa_cons (pv 5) pa_nil)))) (pv 8)))) pss_nil)
      (pss_one (ps_expr (pe_bm PySem.F.plainAttrs_list PySem.F.slot_list_append PySem.F.type_list_append mt_append (pv 6) (pa_cons (pe_op op_catA (pe_slice sl_tupA (pv 7) po_none (po_some pe_int)) (pe_tup (pa_cons (pv 8) pa_nil))) pa_nil))))))))
      (pss_one (ps_ret (pe_callTy call_tuple_of (by rfl) T.g_tuple (by decide +kernel) (pa_cons (pv 6) pa_nil)))))), ?_⟩
    have ok := sm.ok
    have lk := keys_432 sm hz
    have tl := tab_len lts
    have lx := hxs.1
    refine ⟨_, rfl, p, 4, N, rfl, hp, by decide, by decide, by omega, fun way H1 w0 w1 x1 hp1 => ?_⟩
    refine ⟨_, rfl, d, L, rfl, hL.pot hp x1, sm, fun ls ss H2 e2 nls hls hss => ⟨(by show 0 ≤ sizeLine; decide), fun m nm ns => ⟨_, _, _, rfl, ?_⟩⟩⟩
    have x02 := x1.tr (Ex.xb (p := p) e2)
    have hp2 := hp1.ex e2
    have hL2 := hL.pot hp x02
    obtain ⟨zp, hzp⟩ := pot_at hp
    obtain ⟨zp2, hzp2⟩ := pot_at hp2
    have te02 := x02.te hzp
    have nlsp := pot_none hp1 nls
    have nmp := pot_none hp2 nm
    have ha2 := te02 _ _ ha
    have hxs2 := hxs.te te02
    have em := Ex.nw (o := .lst []) nm
    have e24 := em
    have hm4 := upd_same (H := H2) (a := m) (o := .lst [])
    refine ⟨_, rfl, a, rfl, ⟨_, SqT.of (e24 _ _ ha2)⟩, for_it (walk_tup (xs := xs)) (fun i σ H' => (∃ u7 u8 us rs, σ = [some (.ref p), some (.ref d), some (.str z), some (.ref a), some (.int way), some (.ref ls), some (.ref m), u7, u8] ∧ H' m = some (.lst us) ∧ TzL H' us (List.zipWith rowD (keysD L z) rs) ∧ rs.length = i ∧ (∀ t ∈ rs, ToldOk L t) ∧ PotAt H' p (N + 1 + 6 * (i : Int))) ∧ XB p H2 H') ⟨⟨_, _, [], [], rfl, hm4, (by rw [List.zipWith_nil_right]; exact TzL.nil), rfl, (fun t h => by cases h), (hp2.ex e24).mono (by omega)⟩, Ex.xb e24⟩ (fun i σ H' _ q => SqT.of (q.2 _ _ (ne_of ha2 hzp2 (by intro y; cases y)) ha2)) ?_ ?_⟩
    · rintro i xv σ H9 H5 hi ⟨⟨u7, u8, us, rs, rfl, hm5, hus, lrs, okr, hp5⟩, x5⟩ ⟨rfl, hxi⟩
      have te5 := x5.te hzp2
      obtain ⟨zp5, hzp5⟩ := pot_at hp5
      obtain ⟨rd, hrd, tr⟩ := hxs2.gotV hxi
      obtain ⟨kd, t0, hkd, ht0, rfl⟩ := tab_at lts hrd
      have okt0 := hts t0 (List.mem_of_getElem? ht0)
      obtain ⟨b, y0, y1, y2, y3, rfl, hb, ty3, q0, q1, q2, rfl, hrow⟩ := row_of ok (by omega) (List.mem_of_getElem? hkd) (tr.te te5)
      have hi9 : (i : Int) < 900 := by omega
      refine ⟨_, rfl, b, _, 3, y3, rfl, rfl, SqT.of hb, rfl, ?_⟩
      refine nx_set ?_
      dsimp only
      refine join_seq (fun σ' G => ∃ v t, σ' = [some (.ref p), some (.ref d), some (.str z), some (.ref a), some (.int way), some (.ref ls), some (.ref m), some (.ref b), some v] ∧ Tz G v t ∧ ToldOk L t ∧ PotAt G p (N + 1 + 6 * (i : Int) + 1) ∧ XB p H5 G) (fun D' kD => ?_) (fun σ' G hR => ?_)
      · refine ⟨_, rfl, p, 3, _, rfl, hp5, by decide, by decide, by omega, fun d3 H6 d30 d31 x6 hp6 => ⟨rfl, _, rfl, ?_⟩⟩
        have ty6 := ty3.te (x6.te hzp5)
        refine if_dec (fun _ => ?_) (fun _ => HX.if_false rfl (kD _ _ ⟨y3, t0, rfl, ty6, okt0, hp6, x6⟩))
        refine ⟨_, rfl, (by show 2 ≤ sizeLine; decide), fun t2 nt2 => ⟨t2, _, rfl, .inr (SqT.of upd_same), rfl, rfl, _, rfl, ?_⟩⟩
        have e7 := Ex.nw (o := .tup [.int 1, .int 3]) nt2
        exact if_b (fun _ => kD _ _ ⟨.non, .none, rfl, .non, .inl rfl, hp6.ex e7, x6.tr (Ex.xb e7)⟩) (fun _ => kD _ _ ⟨y3, t0, rfl, ty6.ex e7, okt0, hp6.ex e7, x6.tr (Ex.xb e7)⟩)
      · obtain ⟨v, t1, rfl, tv1, okt1, hpG, xG⟩ := hR
        refine join_seq (fun σ' G => ∃ v t, σ' = [some (.ref p), some (.ref d), some (.str z), some (.ref a), some (.int way), some (.ref ls), some (.ref m), some (.ref b), some v] ∧ Tz G v t ∧ ToldOk L t ∧ PotAt G p (N + 1 + 6 * (i : Int) + 6) ∧ XB p H5 G) (fun D' kD => ?_) (fun σ' G' hR => ?_)
        · obtain ⟨zpG, hzpG⟩ := pot_at hpG
          refine ⟨_, rfl, p, 4, _, rfl, hpG, by decide, by decide, by omega, fun d3 H6 d30 d31 x6 hp6 => ⟨rfl, _, rfl, ?_⟩⟩
          have tv6 := tv1.te (x6.te hzpG)
          refine if_dec (fun _ => ?_) (fun _ => HX.if_false rfl (kD _ _ ⟨v, t1, rfl, tv6, okt1, hp6.mono (by omega), xG.tr x6⟩))
          refine ⟨_, rfl, (by show 2 ≤ sizeLine; decide), fun t2 nt2 => ⟨t2, _, rfl, .inr (SqT.of upd_same), rfl, rfl, _, rfl, ?_⟩⟩
          have e7 := Ex.nw (o := .tup [.int 2, .int 3]) nt2
          have x7 : XB p H5 _ := (xG.tr x6).tr (Ex.xb (p := p) e7)
          have x27 := x5.tr x7
          have hp7 := hp6.ex e7
          have tv7 := tv6.ex e7
          have hL7 := hL2.pot hp2 x27
          have hls7 := x27 _ _ nlsp hls
          have hss7 := hss.te (x27.te hzp2)
          refine if_b (fun _ => ?_) (fun _ => kD _ _ ⟨v, t1, rfl, tv7, okt1, hp7.mono (by omega), x7⟩)
          refine ⟨_, rfl, rfl, _, rfl, if_dec (fun _ => HX.if_true rfl ?_) (fun _ => ?_)⟩
          · exact ⟨_, rfl, _, rfl, _, rfl, p, d, ls, ss, L, _, rfl, hp7, by omega, hL7, sm, hls7, nlsp, hss7, fun v8 t8 H8 x8 hp8 tz8 ok8 => kD _ _ ⟨v8, t8, rfl, tz8, ok8, hp8.mono (by omega), x7.tr x8⟩⟩
          · refine ⟨_, rfl, rfl, _, rfl, ?_⟩
            refine if_dec (fun _ => ?_) (fun _ => ?_)
            rotate_left
            · exact ⟨_, rfl, kD _ _ ⟨v, t1, rfl, tv7, okt1, hp7.mono (by omega), x7⟩⟩
            exact ⟨_, rfl, _, rfl, _, rfl, p, d, ls, ss, L, _, rfl, hp7, by omega, hL7, sm, hls7, nlsp, hss7, fun v8 t8 H8 x8 hp8 tz8 ok8 => kD _ _ ⟨v8, t8, rfl, tz8, ok8, hp8.mono (by omega), x7.tr x8⟩⟩
        · obtain ⟨v', t', rfl, tv', okt', hpG', xG'⟩ := hR
          have hmG := xG' _ _ nmp hm5
          have teG := xG'.te hzp5
          have lus : us.length = i := by rw [hus.1, List.length_zipWith]; omega
          refine ⟨_, rfl, .inl ⟨rfl, _, SqL.of hmG⟩, _, rfl, _, rfl, slTo (n := 3) (teG _ _ hb) (hrow.te teG) fun v1 H6 e6 tz1 => ?_⟩
          obtain ⟨av, as, rfl, hav, has⟩ := tz1.tupI
          have las : as.length = 3 := has.1
          refine ⟨_, rfl, (by show 1 ≤ sizeLine; decide), fun q nq => ?_⟩
          have eq1 := Ex.nw (o := .tup [v']) nq
          refine ⟨av, q, as, [v'], rfl, rfl, SqT.of (eq1 _ _ hav), SqT.of upd_same, (by rw [las]; show 3 + 1 ≤ sizeLine; decide), (fun h => by rw [h] at las; cases las), (fun _ h => by cases h), fun _ _ r nr => ?_⟩
          have er := Ex.nw (o := .tup (as ++ [v'])) nr
          have e8 := e6.tr (eq1.tr er)
          have hm8 := e8 _ _ hmG
          refine ⟨m, _, _, rfl, rfl, hm8, small (by omega), ?_⟩
          have hrow8 := (((has.ex eq1).snoc ((tv'.ex e6).ex eq1)).ex er).tup (upd_same (a := r) (o := .tup (as ++ [v'])))
          have hkd2 : (keysD L z)[rs.length]? = some (.tuple [q0, q1, q2]) := by rw [lrs]; exact hkd
          refine ⟨⟨_, _, us ++ [.ref r], rs ++ [t'], rfl, upd_same, ?_, by rw [List.length_append, lrs]; rfl, fun x hx => (List.mem_append.mp hx).elim (okr x) (fun h => (List.mem_singleton.mp h) ▸ okt'), ((hpG'.ex e8).up (Ne.symm nmp)).mono (by push_cast; omega)⟩, XB.mu (x5.tr (xG'.tr (Ex.xb e8))) nm⟩
          rw [zip_snoc hkd2]
          exact (((hus.te teG).ex e8).snoc hrow8).te (te_lst hm8)
    · rintro σ H5 ⟨⟨u7, u8, us, rs, rfl, hm5, hus, lrs, okr, hp5⟩, x5⟩
      refine ⟨_, rfl, m, _, rfl, .inl ⟨SqL.of hm5, fun tc ntc => ?_⟩⟩
      have ec := Ex.nw (o := .tup us) ntc
      exact k _ rs _ (x02.tr (x5.tr (Ex.xb ec))) ((hp5.ex ec).mono (by omega)) ((hus.ex ec).tup upd_same) (by omega) okr
end
end K65
set_option Elab.async false
set_option linter.all false
set_option maxRecDepth 100000
set_option maxHeartbeats 4400000
namespace K65
open PySem PySem.Spec PyProof.Rows L2 HX
open PySem.W (Frag)


/-- data of few items and short texts -/
def bd : Nat → Nat
  | 0 => 8
  | n + 1 => 4 * (bd n + 1)
theorem bd_le (n : Nat) : bd n ≤ bd (n + 1) := by show bd n ≤ 4 * (bd n + 1); omega
theorem bd_up {n m : Nat} (h : n ≤ m) : bd n ≤ bd m := by
  induction h with
  | refl => exact Nat.le_refl _
  | step _ ih => exact Nat.le_trans ih (bd_le _)
structure Sm (n : Nat) (d : PyData) : Prop where
  sh : d.showable = true
  lv : d.leavesShort 24 = true
  dp : d.depth ≤ n
  wt : d.weight ≤ bd n
theorem Sm.up {n m : Nat} {d : PyData} (h : Sm n d) (e : n ≤ m) : Sm m d := ⟨h.sh, h.lv, Nat.le_trans h.dp e, Nat.le_trans h.wt (bd_up e)⟩
theorem sh_all : ∀ {ds : List PyData}, (∀ d ∈ ds, d.showable = true) → PyData.showableAll ds = true
  | [], _ => rfl
  | d :: ds, h => by simp only [PyData.showableAll, h d (.head _), sh_all (fun x hx => h x (.tail _ hx)), Bool.and_self]
theorem lv_all {n : Nat} : ∀ {ds : List PyData}, (∀ d ∈ ds, d.leavesShort n = true) → PyData.leavesShortAll n ds = true
  | [], _ => rfl
  | d :: ds, h => by simp only [PyData.leavesShortAll, h d (.head _), lv_all (fun x hx => h x (.tail _ hx)), Bool.and_self]
theorem wt_alls {b : Nat} : ∀ {ds : List PyData}, (∀ d ∈ ds, d.weight ≤ b) → PyData.weightAll ds ≤ ds.length * (b + 1)
  | [], _ => by simp [PyData.weightAll]
  | d :: ds, h => by
    have a := wt_alls (ds := ds) fun x hx => h x (.tail _ hx)
    have c := h d (.head _)
    simp only [PyData.weightAll, List.length_cons, Nat.succ_mul]
    omega
theorem sm_many {n m : Nat} {ds : List PyData} (h : ∀ d ∈ ds, Sm n d) (hl : ds.length ≤ m) : (PyData.tuple ds).showable = true ∧ (PyData.tuple ds).leavesShort 24 = true ∧ (PyData.tuple ds).depth ≤ n + 1 ∧ (PyData.tuple ds).weight ≤ m * (bd n + 1) := by
  refine ⟨by simp only [PyData.showable]; exact sh_all fun d hd => (h d hd).sh, by simp only [PyData.leavesShort]; exact lv_all fun d hd => (h d hd).lv, tup_depth fun d hd => (h d hd).dp, ?_⟩
  simp only [PyData.weight]
  exact Nat.le_trans (wt_alls fun d hd => (h d hd).wt) (Nat.mul_le_mul_right _ hl)
theorem sm_tup {n : Nat} {ds : List PyData} (h : ∀ d ∈ ds, Sm n d) (hl : ds.length ≤ 4) : Sm (n + 1) (.tuple ds) := let ⟨a, b, c, e⟩ := sm_many h hl; ⟨a, b, c, e⟩
theorem sm_int {n : Nat} {i : Int} (h0 : 0 ≤ i) (h9 : i ≤ 9) : Sm n (.int i) := by
  have h : ∀ k : Nat, k ≤ 9 → (PyData.int (k : Int)).showable = true ∧ (PyData.int (k : Int)).leavesShort 24 = true ∧ (PyData.int (k : Int)).weight ≤ 8 := by decide +kernel
  obtain ⟨k, rfl⟩ := Int.eq_ofNat_of_zero_le h0
  obtain ⟨a, b, c⟩ := h k (by omega)
  exact ⟨a, b, Nat.zero_le _, Nat.le_trans c (bd_up (Nat.zero_le n))⟩
theorem sm_non {n : Nat} : Sm n .none := (⟨by decide +kernel, by decide +kernel, Nat.zero_le _, by decide +kernel⟩ : Sm 0 .none).up (Nat.zero_le _)
theorem sm_name {n : Nat} {z : Str} (h : nameOk z = true) : Sm n (.str z) := by
  have hl := (name_letters h).2
  have hs : (PyData.str z).showable = true := by simp only [PyData.showable]
  refine ⟨hs, ?_, Nat.zero_le _, Nat.le_trans ?_ (bd_up (Nat.zero_le n))⟩
  · simp only [PyData.leavesShort]
    exact List.all_eq_true.mpr fun c hc => by
      have := List.all_eq_true.mp (show (z.cps.toList.all fun c => decide (97 ≤ c) && decide (c ≤ 122)) = true from (name_letters h).1) c hc
      rw [Bool.and_eq_true, decide_eq_true_eq, decide_eq_true_eq] at this
      exact decide_eq_true (Nat.lt_of_le_of_lt this.2 (by decide))
  · simp only [PyData.weight]; exact hl
theorem sm_ints {L : Lore} (ok : L.Ok) : ∀ d ∈ intsD L.sz, Sm 0 d := fun d hd => by
  obtain ⟨i, hi, rfl⟩ := List.mem_map.mp hd
  have := List.mem_range.mp hi
  have := ok.s1
  exact sm_int (by omega) (by omega)
theorem sm_items {L : Lore} (ok : L.Ok) : ∀ d ∈ itemsD L, Sm 1 d := fun d hd => by
  have s1 := ok.s1
  unfold itemsD itemsTo at hd
  rcases List.mem_cons.mp hd with rfl | hd
  · exact sm_tup (fun d h => by simp at h) (by decide)
  · obtain ⟨i, hi, hd⟩ := List.mem_flatMap.mp hd
    have hi := List.mem_range.mp hi
    unfold rowOf at hd
    rcases List.mem_cons.mp hd with rfl | hd
    · exact sm_tup (fun d h => by rw [List.mem_singleton.mp h]; exact sm_int (by omega) (by omega)) (by show 1 ≤ 4; decide)
    · split at hd
      · obtain ⟨c, hc, rfl⟩ := List.mem_map.mp hd
        refine sm_tup (fun d h => ?_) (by show 2 ≤ 4; decide)
        rcases List.mem_cons.mp h with rfl | h
        · exact sm_int (by omega) (by omega)
        · rw [List.mem_singleton.mp h]; exact sm_ints ok c hc
      · simp at hd
theorem sm_stand {L : Lore} (ok : L.Ok) : ∀ s ∈ standsD L, ∀ d ∈ s, Sm 1 d := fun s hs d hd => by
  obtain ⟨ch, h1, h2⟩ := prodD_mem _ _ rfl s hs d hd
  unfold lotsD at h1
  rcases List.mem_append.mp h1 with h1 | h1
  · rw [(List.mem_replicate.mp h1).2] at h2; exact (sm_ints ok d h2).up (by decide)
  · rw [(List.mem_replicate.mp h1).2] at h2; exact sm_items ok d h2
theorem sm_ch {L : Lore} (ok : L.Ok) (c : Nat) : ∀ d ∈ chD L c, Sm 0 d := fun d hd => by
  unfold chD at hd
  split at hd
  · obtain ⟨z, hz, rfl⟩ := List.mem_map.mp hd
    exact sm_name (okN_mem ok.rN z hz)
  · exact sm_ints ok d hd
theorem sm_key3 {L : Lore} (ok : L.Ok) {z : Str} (hz : z.length ≤ 3) : ∀ k ∈ keysD L z, ∃ p q r, k = .tuple [p, q, r] ∧ Sm 2 p ∧ Sm 2 q ∧ Sm 2 r := fun k hk => by
  have c2 := ok.c2; have r2 := ok.r2
  unfold keysD at hk
  obtain ⟨s, hs, hk⟩ := List.mem_flatMap.mp hk
  obtain ⟨v, hv, rfl⟩ := List.mem_map.mp hk
  obtain ⟨u, hu, rfl⟩ := List.mem_map.mp hv
  have ls := stand_len L s hs
  have lz : z.cps.toList.length ≤ 3 := by have : z.cps.size ≤ 3 := hz; simpa using this
  have lu := vals_each L _ u hu
  refine ⟨_, _, _, rfl, sm_tup (fun d hd => sm_stand ok s hs d (List.mem_of_mem_take hd)) (by rw [List.length_take]; omega), sm_tup (fun d hd => sm_stand ok s hs d (List.mem_of_mem_drop hd)) (by rw [List.length_drop]; omega), sm_tup (fun d hd => ?_) (by omega)⟩
  rw [vals_prod] at hu
  obtain ⟨ch, h1, h2⟩ := prodD_mem _ _ rfl u hu d hd
  obtain ⟨c, _, rfl⟩ := List.mem_map.mp h1
  exact (sm_ch ok c d h2).up (by decide)
theorem sm_lit {n : Nat} {z : Str} (h : (decide (z.length ≤ 8) && z.cps.toList.all fun c => decide (c < 16 ^ 8)) = true) : Sm n (.str z) := by
  rw [Bool.and_eq_true] at h
  have hl := of_decide_eq_true h.1
  refine ⟨by simp only [PyData.showable], ?_, Nat.zero_le _, Nat.le_trans ?_ (bd_up (Nat.zero_le n))⟩
  · simp only [PyData.leavesShort]; exact h.2
  · simp only [PyData.weight]; exact hl
theorem sm_pair {n : Nat} {a b : PyData} (h : Sm n a) (k : Sm n b) : Sm (n + 1) (.tuple [a, b]) := sm_tup (fun d hd => by
  simp only [List.mem_cons, List.not_mem_nil, or_false] at hd
  rcases hd with rfl | rfl <;> assumption) (by show 2 ≤ 4; decide)
theorem sm_end {L : Lore} (ok : L.Ok) {d : PyData} (h : EndOk L d) : Sm 2 d := by
  have s1 := ok.s1
  obtain ⟨i, rfl, h0, h1⟩ | ⟨ss, rfl, -, l3, hn⟩ := h
  · exact (sm_pair (n := 0) (sm_lit (by decide +kernel)) (sm_int h0 (by omega))).up (by decide)
  · exact sm_pair (n := 1) (sm_lit (by decide +kernel)) (sm_tup (fun d hd => by
      obtain ⟨z, hz, rfl⟩ := List.mem_map.mp hd
      exact sm_name (hn z hz)) (by rw [List.length_map]; omega))
theorem sm_st {L : Lore} (ok : L.Ok) {a b : PyData} (h : StOk L a b) : Sm 2 a ∧ Sm 2 b := by
  have s1 := ok.s1; have c2 := ok.c2; have r2 := ok.r2; have m1 := ok.m1
  obtain ⟨ns, rs, rfl, rfl, ln, lr, bn, br⟩ := h
  refine ⟨(sm_tup (n := 0) (fun d hd => ?_) (by rw [List.length_map]; omega)).up (by decide), sm_tup (fun d hd => ?_) (by rw [List.length_map]; omega)⟩
  · obtain ⟨i, hi, rfl⟩ := List.mem_map.mp hd
    have := bn i hi
    exact sm_int this.1 (by omega)
  · obtain ⟨r, hr, rfl⟩ := List.mem_map.mp hd
    obtain ⟨h1, h2⟩ := br r hr
    refine sm_tup (fun d hd => ?_) (by rw [List.length_map]; omega)
    obtain ⟨i, hi, rfl⟩ := List.mem_map.mp hd
    have := h2 i hi
    exact sm_int this.1 (by omega)
theorem sm_list3 {n : Nat} {p q r : PyData} (h1 : Sm n p) (h2 : Sm n q) (h3 : Sm n r) : ∀ d ∈ [p, q, r], Sm n d := fun d hd => by
  simp only [List.mem_cons, List.not_mem_nil, or_false] at hd
  rcases hd with rfl | rfl | rfl <;> assumption
theorem sm_told {L : Lore} (ok : L.Ok) {d : PyData} (h : ToldOk L d) : Sm 3 d := by
  obtain rfl | ⟨e, a, b, rfl, he, hs⟩ := h
  · exact sm_non
  · exact sm_tup (sm_list3 (sm_end ok he) (sm_st ok hs).1 (sm_st ok hs).2) (by show 3 ≤ 4; decide)
theorem sm_row {L : Lore} (ok : L.Ok) {z : Str} (hz : z.length ≤ 3) {k t : PyData} (hk : k ∈ keysD L z) (ht : ToldOk L t) : Sm 4 (rowD k t) := by
  obtain ⟨p, q, r, rfl, h1, h2, h3⟩ := sm_key3 ok hz k hk
  refine (sm_tup (fun d hd => ?_) (by show 4 ≤ 4; decide) : Sm 4 (.tuple [p, q, r, t]))
  simp only [List.mem_cons, List.not_mem_nil, or_false] at hd
  rcases hd with rfl | rfl | rfl | rfl
  · exact h1.up (by decide)
  · exact h2.up (by decide)
  · exact h3.up (by decide)
  · exact sm_told ok ht
theorem sm_key {L : Lore} (ok : L.Ok) {z : Str} (hz : z.length ≤ 3) {k : PyData} (hk : k ∈ keysD L z) : Sm 3 k := by
  obtain ⟨p, q, r, rfl, h1, h2, h3⟩ := sm_key3 ok hz k hk
  exact sm_tup (sm_list3 h1 h2 h3) (by show 3 ≤ 4; decide)
/-- what repr wants -/
def Shn (d : PyData) : Prop := d.showable = true ∧ d.depth ≤ 60 ∧ d.shown.length ≤ sizeLine
theorem shn_of {d : PyData} {n : Nat} (h1 : d.showable = true) (h2 : d.leavesShort 24 = true) (h3 : d.depth ≤ 60) (h4 : d.weight ≤ n) (hn : n ≤ 600000) : Shn d := by
  refine ⟨h1, h3, ?_⟩
  have a := PyData.shown_le 24 (by decide) d h2
  have : (24 + 2) * d.weight + 24 ≤ 26 * 600000 + 24 := by omega
  exact Nat.le_trans a (Nat.le_trans this (by decide))
theorem Sm.shn {n : Nat} {d : PyData} (h : Sm n d) (hn : n ≤ 6) : Shn d := shn_of h.sh h.lv (Nat.le_trans h.dp (by omega)) (Nat.le_trans h.wt (bd_up hn)) (by decide)
theorem tab_shn {L : Lore} (ok : L.Ok) {z : Str} (hz : z.length ≤ 3) {ts : List PyData} (hl : ts.length = (keysD L z).length) (ht : ∀ t ∈ ts, ToldOk L t) (hk : (keysD L z).length ≤ 144) : Shn (.tuple (tabD L z ts)) := by
  obtain ⟨a, b, c, e⟩ := sm_many (n := 4) (m := 144) (ds := tabD L z ts) (fun d hd => by
    obtain ⟨i, hi⟩ := List.mem_iff_getElem?.mp hd
    obtain ⟨k, t, hk, h2, rfl⟩ := tab_at hl hi
    exact sm_row ok hz (List.mem_of_getElem? hk) (ht t (List.mem_of_getElem? h2))) (by rw [tab_len hl]; exact hk)
  exact shn_of a b (Nat.le_trans c (by decide)) e (by decide)
theorem tz_some {H : Hp} {v : V} {d : PyData} (h : Tz H v d) : decide (v = V.non) = !someD d := by cases h <;> rfl
theorem row_shown {L : Lore} (ok : L.Ok) {z : Str} {k t u : PyData} (hk : k ∈ keysD L z) (ht : ToldOk L t) (hu : ToldOk L u) : decide ((rowD k t).shown = (rowD k u).shown) = PyData.eqv t u := by
  rw [eqv_decN (pn_told ok ht).1 (pn_told ok hu).1, decide_eq_decide]
  refine ⟨fun h => ?_, fun h => by rw [h]⟩
  have e := shown_oneN (pn_row ok hk ht).1 (pn_row ok hk hu).1 h
  obtain ⟨p, q, r, rfl, -, -, -⟩ := pn_key3 ok k hk
  have e : PyData.tuple [p, q, r, t] = .tuple [p, q, r, u] := e
  injection e with e
  injection e with _ e
  injection e with _ e
  injection e with _ e
  injection e with e _
theorem all_not {b : Nat → Bool} {f : Nat → PyData} : ∀ n, ((List.range n).map fun i => !b i).all id = (ftD b f n).isEmpty
  | 0 => rfl
  | n + 1 => by
    rw [List.range_succ, List.map_append, List.all_append, all_not (b := b) (f := f) n]
    cases h : b n with
    | true => rw [ftD_yes h]; simp [h]
    | false => rw [ftD_no h]; simp [h]
theorem ftD_first {b : Nat → Bool} {f : Nat → PyData} {i : Nat} (h : ∀ j < i, b j = false) (hb : b i = true) : ∀ m, (ftD b f (i + 1 + m)).headD .none = f i
  | 0 => by
    rw [Nat.add_zero, ftD_yes hb]
    have : ftD b f i = [] := by
      unfold ftD
      rw [List.filter_eq_nil_iff.mpr fun j hj => by rw [h j (List.mem_range.mp hj)]; decide]; rfl
    rw [this]; rfl
  | m + 1 => by
    have ih := ftD_first h hb (f := f) m
    have nz : ftD b f (i + 1 + m) ≠ [] := fun z => by
      have : (i : Nat) ∈ (List.range (i + 1 + m)).filter b := List.mem_filter.mpr ⟨List.mem_range.mpr (by omega), hb⟩
      unfold ftD at z
      rw [List.map_eq_nil_iff.mp z] at this
      cases this
    rw [← Nat.add_assoc]
    cases hn : b (i + 1 + m) with
    | true =>
      rw [ftD_yes hn]
      cases e : ftD b f (i + 1 + m) with
      | nil => exact absurd e nz
      | cons x r => rw [e] at ih; exact ih
    | false => rw [ftD_no hn]; exact ih
theorem ftD_non {b : Nat → Bool} {f : Nat → PyData} {n : Nat} (h : ∀ j < n, b j = false) : ftD b f n = [] := by
  unfold ftD
  rw [List.filter_eq_nil_iff.mpr fun j hj => by rw [h j (List.mem_range.mp hj)]; decide]; rfl

end K65
set_option Elab.async false
set_option linter.all false
set_option maxRecDepth 100000
set_option maxHeartbeats 4400000
namespace K65
open PySem PySem.Spec PyProof.Rows L2 HX
open PySem.W (Frag)


def spWithin : Sp := fun vs H Q _ => ∃ (vt vu : V) (L : Lore) (z : Str) (ts us : List PyData), vs = [vt, vu] ∧ Tz H vt (.tuple (tabD L z ts)) ∧ Tz H vu (.tuple (tabD L z us)) ∧ TabOk L z ts ∧ TabOk L z us ∧ ∀ H', Ex H H' → Q (.bl (within L z ts us)) H'
def bC (c : Bool) (ts us : List PyData) (i : Nat) : Bool := nb ts us i && (someD (ts[i]?.getD .none) || !c)
def fstD (c : Bool) (L : Lore) (z : Str) (ts us : List PyData) : PyData := (ftD (bC c ts us) (keyAt L z) (keysD L z).length).headD .none
theorem fstD_part {L : Lore} {z : Str} {ts us : List PyData} : fstD false L z ts us = partD L z ts us := by
  unfold fstD partD
  rw [show bC false ts us = nb ts us from funext fun i => by unfold bC; rw [Bool.not_false, Bool.or_true, Bool.and_true]]
theorem fstD_bey {L : Lore} {z : Str} {ts us : List PyData} : fstD true L z ts us = beyD L z ts us := by
  unfold fstD beyD beyL
  rw [show bC true ts us = (fun i => nb ts us i && someD (ts[i]?.getD .none)) from funext fun i => by unfold bC; rw [Bool.not_true, Bool.or_false]]
def spFst : Sp := fun vs H Q _ => ∃ (vt vu : V) (L : Lore) (z : Str) (ts us : List PyData) (c : Bool), vs = [vt, vu, .bl c] ∧ Tz H vt (.tuple (tabD L z ts)) ∧ Tz H vu (.tuple (tabD L z us)) ∧ TabOk L z ts ∧ TabOk L z us ∧ ∀ v H', Ex H H' → Tz H' v (fstD c L z ts us) → Q v H'
theorem fst_at {c : Bool} {L : Lore} {z : Str} {ts us : List PyData} {i : Nat} (hi : i < (keysD L z).length) (h : ∀ j < i, bC c ts us j = false) (hb : bC c ts us i = true) : fstD c L z ts us = keyAt L z i := by
  unfold fstD
  rw [show (keysD L z).length = i + 1 + ((keysD L z).length - i - 1) by omega]
  exact ftD_first h hb _

section
variable {P : Program} {w : World} {K : Frag} {mg : Str → Option Value} {base : Heap} {A : Ad}

theorem ok_law_is_within (T : Txt K mg A) : FnG P w K mg base CX0 1 A.f_law_is_within A.d_law_is_within ["_law_table_here", "_law_other"] (spWithin) := by
  refine okG0 T.F_law_is_within sc_law_is_within (fun vs H Q E h => ?_) (fun cdv A0 outer s H vs Q E hgd0 hr h => ?_)
  · obtain ⟨_, _, _, _, _, _, rfl, _⟩ := h
    rfl
  · have hu := hu_of hr
    have hgd : (A0.deeper (envOfC "_law_is_within" (defScope s_law_is_within) s.heap.objs.size A.f_law_is_within cdv)).guards = some [] := hgd0
    obtain ⟨vt, vu, L, z, ts, us, rfl, tv, tu, ⟨ok, hz, few, hk, lts, hts⟩, ⟨-, -, -, -, lus, hus⟩, k⟩ := h
    obtain ⟨a, xs, rfl, ha, hxs⟩ := tv.tupI
    obtain ⟨b, ys, rfl, hb, hys⟩ := tu.tupI
    have fv := few_vals few
    have kl := keys_len L z
    have tl := tab_len lts
    have ul := tab_len lus
    have lx := hxs.1
    have ly := hys.1
    refine ⟨_, (pss_one (ps_ret (pe_callB (cr_all rfl) (by rfl) T.g_all (by decide +kernel) (pa_cons (pe_lc (own := [("_law_row", 2), ("_law_twin", 3)]) (g := (gTup K 2 (gCons (gName 2) (gCons (gName 3) gNil)))) (tt := tYes) rfl sc_law_is_within.nd (RZ.pi_zipA (by rfl) T.g_zip (pa_cons (pv 0) (pa_cons (pv 1) pa_nil))) (blkOk_by (N := N_law_is_within) (sc := defScope s_law_is_within) (by decide +kernel)) (fun _ _ _ _ _ => pg_tup rfl (pgs_cons (pg_name (i := 2) sc_law_is_within.nd rfl (Or.inl rfl)) (pgs_cons (pg_name (i := 3) sc_law_is_within.nd rfl (Or.inl rfl)) pgs_nil))) (fun _ _ _ _ _ => pts_nil) (fun _ _ _ _ _ => (pe_or (pe_cmpR op_isN (pe_ix (ix_tupK (K := K) rfl) (pv 2) pe_int (fun _ _ => rfl)) pe_non (nomark _)) (pe_one (pe_cmpR op_eq (pe_callB (call_reprZ (by exact hgd) (by exact hr.units)) (by rfl) T.g_repr (by decide +kernel) (pa_cons (pv 2) pa_nil)) (pe_callB (call_reprZ (by exact hgd) (by exact hr.units)) (by rfl) T.g_repr (by decide +kernel) (pa_cons (pv 3) pa_nil)) (nomark _)))))) pa_nil)))), ?_⟩
    refine ⟨_, rfl, _, rfl, a, b, xs, ys, rfl, .inr ⟨SqT.of ha, SqT.of hb, fun D nD => lc_bl (walk_zipT (xs := xs) (ys := ys) rfl) (fun i => !(nb ts us i && someD (ts[i]?.getD .none))) (by omega) nD (fun H' e => ⟨SqT.of (e _ _ ha), SqT.of (e _ _ hb)⟩) (fun i xv H2 H3 Kq hi e yy kq => ?_) (fun H2 e hD => ?_)⟩⟩
    · obtain ⟨T', u, v, rfl, nT, rfl, hu1, hv1⟩ := yy
      replace hu1 : xs[i]? = some u := hu1
      replace hv1 : ys[i]? = some v := hv1
      have e3 : Ex H2 (upd H2 T' (.tup [u, v])) := Ex.nw nT
      have e03 := e.tr e3
      obtain ⟨rd, hrd, tr⟩ := hxs.gotV hu1
      obtain ⟨kd, t, hkd, ht, rfl⟩ := tab_at lts hrd
      obtain ⟨sd, hsd, tq⟩ := hys.gotV hv1
      obtain ⟨kd', t', hkd', ht', rfl⟩ := tab_at lus hsd
      rw [hkd] at hkd'
      injection hkd' with hkd'
      subst hkd'
      have mk := List.mem_of_getElem? hkd
      have okt := hts t (List.mem_of_getElem? ht)
      have okt' := hus t' (List.mem_of_getElem? ht')
      have tr3 := tr.ex e03
      have tq3 := tq.ex e03
      have sh1 := (sm_row ok hz mk okt).shn (by decide)
      have sh2 := (sm_row ok hz mk okt').shn (by decide)
      have es := row_shown ok mk okt okt'
      have en : nb ts us i = !PyData.eqv t t' := by unfold nb; rw [ht, ht']; rfl
      have et : ts[i]?.getD .none = t := by rw [ht]; rfl
      obtain ⟨s1, E1⟩ : ∃ s, s = (rowD kd t).shown := ⟨_, rfl⟩
      obtain ⟨s2, E2⟩ : ∃ s, s = (rowD kd t').shown := ⟨_, rfl⟩
      obtain ⟨c, w0, w1, w2, w3, rfl, hc, tw, p, q, r, rfl, hcs⟩ := row_of ok hz mk tr3
      refine ⟨T', _, rfl, SqT.of upd_same, rfl, _, _, rfl, _, _, rfl, rfl, rfl, _, rfl, c, _, 3, w3, rfl, rfl, SqT.of hc, rfl, rfl, _, rfl, ?_⟩
      rw [tz_some tw]
      rw [en, et] at kq
      cases hs : someD t with
      | false =>
        refine HX.if_true rfl ?_
        rw [hs, Bool.and_false] at kq
        exact kq _ e3
      | true =>
        refine HX.if_false rfl ?_
        rw [hs, Bool.and_true, Bool.not_not, ← es] at kq
        refine ⟨_, rfl, _, _, c, rfl, tr3.dz, sh1.1, sh1.2.1, sh1.2.2, _, rfl, _, _, c, rfl, tq3.dz, sh2.1, sh2.2.1, sh2.2.2, rfl, ?_⟩
        rw [dec_strV]
        exact kq _ e3
    · refine ⟨D, _, rfl, SqL.of hD, ?_⟩
      rw [all_not (f := keyAt L z)]
      have hn : min xs.length ys.length = (keysD L z).length := by omega
      rw [hn]
      exact k _ e
theorem ok_first (T : Txt K mg A) : FnG P w K mg base CX0 1 A.f_first A.d_first ["_law_table_here", "_law_other", "_law_is_beyond"] (spFst) := by
  refine okG0 T.F_first sc_first (fun vs H Q E h => ?_) (fun cdv A0 outer s H vs Q E hgd0 hr h => ?_)
  · obtain ⟨_, _, _, _, _, _, _, rfl, _⟩ := h
    rfl
  · have hu := hu_of hr
    have hgd : (A0.deeper (envOfC "_law_first" (defScope s_first) s.heap.objs.size A.f_first cdv)).guards = some [] := hgd0
    obtain ⟨vt, vu, L, z, ts, us, cc, rfl, tv, tu, ⟨ok, hz, few, hk, lts, hts⟩, ⟨-, -, -, -, lus, hus⟩, k⟩ := h
    obtain ⟨a, xs, rfl, ha, hxs⟩ := tv.tupI
    obtain ⟨b, ys, rfl, hb, hys⟩ := tu.tupI
    have fv := few_vals few
    have kl := keys_len L z
    have tl := tab_len lts
    have ul := tab_len lus
    have lx := hxs.1
    have ly := hys.1
    have hn : min xs.length ys.length = (keysD L z).length := by omega
    refine ⟨_, (pss_cons (ps_for PassesOwn.never rfl (RZ.pi_zipA (by rfl) T.g_zip (pa_cons (pv 0) (pa_cons (pv 1) pa_nil))) (pg_tup rfl (pgs_cons (pg_name (i := 3) sc_first.nd rfl (Or.inl rfl)) (pgs_cons (pg_name (i := 4) sc_first.nd rfl (Or.inl rfl)) pgs_nil))) (pss_one (ps_if (PW.pt (pw_and (pt_cmpR op_ne (pe_callB (call_reprZ (by exact hgd) (by exact hr.units)) (by rfl) T.g_repr (by decide +kernel) (pa_cons (pv 3) pa_nil)) (pe_callB (call_reprZ (by exact hgd) (by exact hr.units)) (by rfl) T.g_repr (by decide +kernel) (pa_cons (pv 4) pa_nil)) (nomark _)) (pw_and1 (PW.pt (pw_or (pt_cmpR op_notN (pe_ix ix_tup (pv 3) pe_int (fun _ _ => rfl)) pe_non (nomark _)) (pw_or1 (pt_not (pt_val (pv 2))))))))) (pss_one (ps_ret (pe_slice sl_tupA (pv 3) po_none (po_some pe_int)))) pss_nil)))
      (pss_one (ps_ret pe_non))), ?_⟩
    refine ⟨_, rfl, _, rfl, a, b, xs, ys, rfl, .inr ⟨SqT.of ha, SqT.of hb, for_it (walk_zipT (xs := xs) (ys := ys) rfl) (fun i σ H' => (∃ u3 u4, σ = [some (.ref a), some (.ref b), some (.bl cc), u3, u4]) ∧ (∀ j < i, bC cc ts us j = false) ∧ Ex H H') ⟨⟨_, _, rfl⟩, (fun j h => absurd h (Nat.not_lt_zero j)), Ex.rf _⟩ (fun i σ H' _ q => ⟨SqT.of (q.2.2 _ _ ha), SqT.of (q.2.2 _ _ hb)⟩) ?_ ?_⟩⟩
    · rintro i xv σ H2 H3 hi ⟨⟨u3, u4, rfl⟩, hpre, e⟩ ⟨T', u, v, rfl, nT, rfl, hu1, hv1⟩
      replace hu1 : xs[i]? = some u := hu1
      replace hv1 : ys[i]? = some v := hv1
      have e3 : Ex H2 (upd H2 T' (.tup [u, v])) := Ex.nw nT
      have e03 := e.tr e3
      obtain ⟨rd, hrd, tr⟩ := hxs.gotV hu1
      obtain ⟨kd, t, hkd, ht, rfl⟩ := tab_at lts hrd
      obtain ⟨sd, hsd, tq⟩ := hys.gotV hv1
      obtain ⟨kd', t', hkd', ht', rfl⟩ := tab_at lus hsd
      rw [hkd] at hkd'
      injection hkd' with hkd'
      subst hkd'
      have mk := List.mem_of_getElem? hkd
      have okt := hts t (List.mem_of_getElem? ht)
      have okt' := hus t' (List.mem_of_getElem? ht')
      have tr3 := tr.ex e03
      have tq3 := tq.ex e03
      have sh1 := (sm_row ok hz mk okt).shn (by decide)
      have sh2 := (sm_row ok hz mk okt').shn (by decide)
      have es := row_shown ok mk okt okt'
      have en : nb ts us i = !PyData.eqv t t' := by unfold nb; rw [ht, ht']; rfl
      have et : ts[i]?.getD .none = t := by rw [ht]; rfl
      obtain ⟨s1, E1⟩ : ∃ s, s = (rowD kd t).shown := ⟨_, rfl⟩
      obtain ⟨s2, E2⟩ : ∃ s, s = (rowD kd t').shown := ⟨_, rfl⟩
      obtain ⟨c, w0, w1, w2, w3, rfl, hc, tw, p, q, r, rfl, hcs⟩ := row_of ok hz mk tr3
      have eb : bC cc ts us i = (!PyData.eqv t t' && (someD t || !cc)) := by unfold bC; rw [en, et]
      have nxt : bC cc ts us i = false → ∀ j < i + 1, bC cc ts us j = false := fun h j hj => by
        by_cases hji : j = i
        · rw [hji]; exact h
        · exact hpre j (by omega)
      refine ⟨T', _, rfl, SqT.of upd_same, rfl, _, _, rfl, _, _, rfl, rfl, ?_⟩
      refine ⟨_, rfl, _, _, c, rfl, tr3.dz, sh1.1, sh1.2.1, sh1.2.2, _, rfl, _, _, c, rfl, tq3.dz, sh2.1, sh2.2.1, sh2.2.2, rfl, _, rfl, ?_⟩
      rw [dec_strV, es]
      cases he : PyData.eqv t t' with
      | true =>
        rw [he] at eb
        exact HX.if_false rfl (HX.if_false rfl ⟨⟨_, _, rfl⟩, nxt eb, e03⟩)
      | false =>
        rw [he] at eb
        refine HX.if_true rfl ?_
        refine ⟨_, rfl, c, _, 3, w3, rfl, rfl, SqT.of hc, rfl, rfl, _, rfl, ?_⟩
        rw [tz_some tw, Bool.not_not]
        have gone : bC cc ts us i = true → ∀ v1 H5, Ex (upd H2 T' (.tup [.ref c, v])) H5 → Tz H5 v1 (.tuple [p, q, r]) → Q v1 H5 := fun hb v1 H5 e5 t1 => k v1 H5 (e03.tr e5) (by
          rw [fst_at (by omega) hpre hb]
          have ek : keyAt L z i = .tuple [p, q, r] := by unfold keyAt; rw [hkd]; rfl
          rw [ek]; exact t1)
        cases hs : someD t with
        | true =>
          rw [hs] at eb
          exact HX.if_true rfl (HX.if_true rfl ⟨_, rfl, _, rfl, slTo (n := 3) hc hcs fun v1 H5 e5 t1 => gone eb v1 H5 e5 t1⟩)
        | false =>
          rw [hs] at eb
          refine HX.if_false rfl ⟨_, rfl, cc, rfl, ?_⟩
          refine if_b (fun h => ?_) (fun h => ?_)
          · rw [h] at eb
            exact ⟨_, rfl, _, rfl, slTo (n := 3) hc hcs fun v1 H5 e5 t1 => gone eb v1 H5 e5 t1⟩
          · rw [h] at eb
            exact ⟨⟨_, _, rfl⟩, nxt eb, e03⟩
    · rintro σ H2 ⟨⟨u3, u4, rfl⟩, hall, e⟩
      refine k .non H2 e ?_
      unfold fstD
      rw [ftD_non (by rw [← hn]; exact hall)]
      exact .non
end
end K65
set_option Elab.async false
set_option linter.all false
set_option maxRecDepth 100000
set_option maxHeartbeats 4400000
namespace K65
open PySem PySem.Spec PyProof.Rows L2 HX
open PySem.W (Frag)


theorem q_neb2 {z y : Str} (h : z = y) : (!decide (V.str z = V.str y)) = false := by rw [h, decide_eq_true rfl]; rfl
theorem and_nb {σ : L2.St} {H : Hp} {Q : VK} {i j : Nat} {b e : Bool} (hi : σ[i]? = some (some (.bl b))) (hj : σ[j]? = some (some (.bl e))) (k : Q (.bl (b && !e)) H) : tAndV (tVar i) (tNotV (tVar j)) σ H Q := by
  refine ⟨_, hi, b, rfl, ?_⟩
  cases b with
  | true => exact iteT ⟨_, hj, e, rfl, k⟩
  | false => exact iteF k
theorem six_eqv : ∀ a b c : Bool, PyData.eqv (.list [.bool a, .bool (!a), .bool b, .bool (b && !a), .bool c, .bool (c && !a)]) (.list [.bool a, .bool (!a), .bool b, .bool (b && !a), .bool c, .bool (c && !a)]) = true ∧ SeqAt.shaped (.list [.bool a, .bool (!a), .bool b, .bool (b && !a), .bool c, .bool (c && !a)]) = true := by decide +kernel
theorem six_dp {K : Frag} {H : Hp} {l : Addr} (a b c : Bool) (h : H l = some (.lst [.bl a, .bl (!a), .bl b, .bl (b && !a), .bl c, .bl (c && !a)])) : Dp K H (.ref l) (.list [.bool a, .bool (!a), .bool b, .bool (b && !a), .bool c, .bool (c && !a)]) := .lst (SqL.of h) (.cons (.bl _) (.cons (.bl _) (.cons (.bl _) (.cons (.bl _) (.cons (.bl _) (.cons (.bl _) .nil))))))
theorem six_bl {a b c : Bool} {i : Nat} {x : V} (h : ([.bl a, .bl (!a), .bl b, .bl (b && !a), .bl c, .bl (c && !a)] : List V)[i]? = some x) : ∃ q, x = .bl q := by
  have h := List.mem_of_getElem? h
  simp only [List.mem_cons, List.not_mem_nil, or_false] at h
  rcases h with h | h | h | h | h | h <;> exact ⟨_, h⟩
theorem fst_shn {c : Bool} {L : Lore} (ok : L.Ok) {z : Str} (hz : z.length ≤ 3) {ts us : List PyData} : Shn (fstD c L z ts us) := by
  unfold fstD
  cases h : ftD (bC c ts us) (keyAt L z) (keysD L z).length with
  | nil => exact (sm_non (n := 0)).shn (by decide)
  | cons d r =>
    have hd : d ∈ ftD (bC c ts us) (keyAt L z) (keysD L z).length := by rw [h]; exact .head _
    unfold ftD at hd
    obtain ⟨i, hi, rfl⟩ := List.mem_map.mp hd
    have hi := List.mem_range.mp (List.mem_filter.mp hi).1
    have ek : keyAt L z i = (keysD L z)[i] := by unfold keyAt; rw [List.getElem?_eq_getElem hi]; rfl
    show Shn (keyAt L z i)
    rw [ek]
    exact (sm_key ok hz (List.getElem_mem hi)).shn (by decide)
theorem tab_shown {L : Lore} {z : Str} {ts us : List PyData} (h : TabOk L z ts) (k : TabOk L z us) : decide ((PyData.tuple (tabD L z ts)).shown = (PyData.tuple (tabD L z us)).shown) = tEq L L z z ts us := by
  have p1 := (pn_tab h.1 h.2.2.2.2.1 h.2.2.2.2.2).1
  have p2 := (pn_tab k.1 k.2.2.2.2.1 k.2.2.2.2.2).1
  unfold tEq
  rw [eqv_decN p1 p2, decide_eq_decide]
  exact ⟨fun e => shown_oneN p1 p2 e, fun e => by rw [e]⟩
theorem dEq_t {L : Lore} {z : Str} {ts us : List PyData} (ok : L.Ok) : dEq L L z z ts us = tEq L L z z ts us := by
  unfold dEq
  rw [wSame_self ok, decide_eq_true rfl, Bool.true_and, Bool.true_and]
def spComp (P : Program) (w : World) (K : Frag) (Cw Cd : Addr) : Sp := fun vs H Q _ => ∃ (vt vu : V) (x xw : Addr) (vt' : V) (y yw : Addr) (vu' : V) (L : Lore) (z : Str) (ts us : List PyData), vs = [vt, vu, .ref x, .ref y] ∧ Tz H vt (.tuple (tabD L z ts)) ∧ Tz H vu (.tuple (tabD L z us)) ∧ DAt P w K Cw Cd H x xw vt' L z ts ∧ DAt P w K Cw Cd H y yw vu' L z us ∧ TabOk L z ts ∧ TabOk L z us ∧ (keysD L z).length ≤ 144 ∧ ∀ H', Ex H H' → Q (.bl true) H'
theorem all_rep : ∀ n, (List.replicate n true).all id = true
  | 0 => rfl
  | n + 1 => by rw [List.replicate_succ]; exact all_rep n

section
variable {P : Program} {w : World} {K : Frag} {mg : Str → Option Value} {base : Heap} {A : Ad}

theorem ok_compared_right (T : Txt K mg A) : FnG P w K mg base CX0 6 A.f_compared_right A.d_compared_right ["_law_table_here", "_law_other", "_law_one", "_law_two"] (spComp P w K A.C_World A.C_Doing) := by
  refine okG0 T.F_compared_right sc_compared_right (fun vs H Q E h => ?_) (fun cdv A0 outer s H vs Q E hgd0 hr h => ?_)
  · obtain ⟨_, _, _, _, _, _, _, _, _, _, _, _, rfl, _⟩ := h
    rfl
  · have hu := hu_of hr
    have hgd : (A0.deeper (envOfC "_law_compared_right" (defScope s_compared_right) s.heap.objs.size A.f_compared_right cdv)).guards = some [] := hgd0
    obtain ⟨vt, vu, x, xw, vt', y, yw, vu', L, z, ts, us, rfl, tv, tu, hD, hE, tT, tU, h144, k⟩ := h
    refine ⟨_, (pss_cons (ps_par3 (i := 4) (j := 5) (l := 6) (by rfl) sc_compared_right.nd rfl rfl rfl (by decide) (by decide) (by decide) rfl rfl rfl (pa_cons (pe_callG hgd (ok_law_is_within T) (hr.mono (by decide)) (by rfl) T.m_law_is_within T.F_law_is_within.kp T.b_law_is_within .nil pass0 (pa_cons (pv 0) (pa_cons (pv 1) pa_nil))) (pa_cons (pe_callG hgd (ok_law_is_within T) (hr.mono (by decide)) (by rfl) T.m_law_is_within T.F_law_is_within.kp T.b_law_is_within .nil pass0 (pa_cons (pv 1) (pa_cons (pv 0) pa_nil))) (pa_cons (pe_cmpR op_eq (pe_callB (call_reprZ (by exact hgd) (by exact hr.units)) (by rfl) T.g_repr (by decide +kernel) (pa_cons (pv 0) pa_nil)) (pe_callB (call_reprZ (by exact hgd) (by exact hr.units)) (by rfl) T.g_repr (by decide +kernel) (pa_cons (pv 1) pa_nil)) (nomark _)) pa_nil))) (by rfl))
      (pss_cons (ps_set (i := 7) sc_compared_right.nd rfl (Or.inl rfl) (pe_lstN (pa_cons (pe_cmpR (op_eqV T.eqd (ok_Doing_eq T) T.b_Doing_eq (hr.mono (by decide)) pass0) (pv 2) (pv 3) (nomark _)) (pa_cons (pe_cmpR (op_neV T.eqd (ok_Doing_eq T) T.b_Doing_eq (hr.mono (by decide)) pass0) (pv 2) (pv 3) (nomark _)) (pa_cons (pe_cmpR (op_leS T.cle (ok_Doing_le T) T.b_Doing_le (hr.mono (by decide)) pass0) (pv 2) (pv 3) (nomark _)) (pa_cons (pe_cmpR (op_ltS T.clt (ok_Doing_lt T) T.b_Doing_lt (hr.mono (by decide)) pass0) (pv 2) (pv 3) (nomark _)) (pa_cons (pe_cmpR (op_geS T.cge (ok_Doing_ge T) T.b_Doing_ge (hr.mono (by decide)) pass0) (pv 2) (pv 3) (nomark _)) (pa_cons (pe_cmpR (op_gtS T.cgt (ok_Doing_gt T) T.b_Doing_gt (hr.mono (by decide)) pass0) (pv 2) (pv 3) (nomark _)) pa_nil))))))))
      (pss_cons (ps_if (pt_cmpR (op_neD hr.units) (pv 7) (pe_lstN (pa_cons (pv 6) (pa_cons (pe_not (pv 6)) (pa_cons (pv 4) (pa_cons (pe_and (pv 4) (pe_one (pe_not (pv 6)))) (pa_cons (pv 5) (pa_cons (pe_and (pv 5) (pe_one (pe_not (pv 6)))) pa_nil))))))) (nomark _)) (pss_one (ps_ret pe_bl)) pss_nil)
      (pss_cons (ps_if (pt_not (pt_val (pe_callB (cr_all rfl) (by rfl) T.g_all (by decide +kernel) (pa_cons (pe_lc (own := [("_law_truth", 8)]) (g := (gName 8)) (tt := tYes) rfl sc_compared_right.nd (pi_list (pv 7)) (blkOk_by (N := N_compared_right) (sc := defScope s_compared_right) (by decide +kernel)) (fun _ _ _ _ _ => pg_name (i := 8) sc_compared_right.nd rfl (Or.inl rfl)) (fun _ _ _ _ _ => pts_nil) (fun _ _ _ _ _ => (pe_callB (call_isiK0 (K := K) rfl) (by rfl) T.g_isinstance (by decide +kernel) (pa_cons (pv 8) (pa_cons (pe_bltn (v := .ty "bool") (by rfl) T.g_bool (by decide +kernel) rfl) pa_nil))))) pa_nil)))) (pss_one (ps_ret pe_bl)) pss_nil)
      (pss_cons (ps_if (pt_cmpR op_ne (pe_callB (call_reprZ (by exact hgd) (by exact hr.units)) (by rfl) T.g_repr (by decide +kernel) (pa_cons (pe_call (ok_parted T) (hr.mono (by decide)) (by rfl) T.m_parted T.F_parted.kp T.b_parted .nil pass0 (pa_cons (pv 2) (pa_cons (pv 3) pa_nil))) pa_nil)) (pe_callB (call_reprZ (by exact hgd) (by exact hr.units)) (by rfl) T.g_repr (by decide +kernel) (pa_cons (pe_callG hgd (ok_first T) (hr.mono (by decide)) (by rfl) T.m_first T.F_first.kp T.b_first .nil pass0 (pa_cons (pv 0) (pa_cons (pv 1) (pa_cons pe_bl pa_nil)))) pa_nil)) (nomark _)) (pss_one (ps_ret pe_bl)) pss_nil)
      (pss_one (ps_ret (pe_cmpR op_eq (pe_callB (call_reprZ (by exact hgd) (by exact hr.units)) (by rfl) T.g_repr (by decide +kernel) (pa_cons (pe_call (ok_beyond T) (hr.mono (by decide)) (by rfl) T.m_beyond T.F_beyond.kp T.b_beyond .nil pass0 (pa_cons (pv 2) (pa_cons (pv 3) pa_nil))) pa_nil)) (pe_callB (call_reprZ (by exact hgd) (by exact hr.units)) (by rfl) T.g_repr (by decide +kernel) (pa_cons (pe_callG hgd (ok_first T) (hr.mono (by decide)) (by rfl) T.m_first T.F_first.kp T.b_first .nil pass0 (pa_cons (pv 0) (pa_cons (pv 1) (pa_cons pe_bl pa_nil)))) pa_nil)) (nomark _))))))))), ?_⟩
    obtain ⟨ok, hz, few, hk, lts, hts⟩ := id tT
    obtain ⟨-, -, -, -, lus, hus⟩ := id tU
    have sh1 := tab_shn ok hz lts hts h144
    have sh2 := tab_shn ok hz lus hus h144
    have et := tab_shown tT tU
    refine ⟨_, rfl, _, rfl, vt, vu, L, z, ts, us, rfl, tv, tu, tT, tU, fun H1 e1 => ?_⟩
    refine ⟨_, rfl, _, rfl, vu, vt, L, z, us, ts, rfl, tu.ex e1, tv.ex e1, tU, tT, fun H2 e2 => ?_⟩
    have e02 := e1.tr e2
    refine ⟨_, rfl, _, _, x, rfl, (tv.ex e02).dz, sh1.1, sh1.2.1, sh1.2.2, _, rfl, _, _, x, rfl, (tu.ex e02).dz, sh2.1, sh2.2.1, sh2.2.2, rfl, _, _, _, rfl, ?_⟩
    rw [dec_strV, et]
    obtain ⟨eq, EQ⟩ : ∃ b, b = tEq L L z z ts us := ⟨_, rfl⟩
    obtain ⟨le, LE⟩ : ∃ b, b = within L z ts us := ⟨_, rfl⟩
    obtain ⟨ge, GE⟩ : ∃ b, b = within L z us ts := ⟨_, rfl⟩
    have ed : dEq L L z z ts us = eq := by rw [dEq_t ok, EQ]
    rw [← EQ, ← LE, ← GE]
    have hD2 := hD.ex e02
    have hE2 := hE.ex e02
    obtain ⟨dx, _, _, hx, _⟩ := id hD2
    obtain ⟨dy, _, _, hy, _⟩ := id hE2
    refine ⟨_, rfl, _, rfl, ⟨x, dx, _, rfl, hx⟩, .inl (.inl (.inl ⟨y, dy, _, rfl, hy⟩)), x, xw, vt', _, L, z, ts, rfl, hD2, tT, .inr ⟨y, yw, vu', L, z, us, rfl, hE2, tU, ?_⟩⟩
    refine ⟨_, rfl, _, rfl, ⟨x, dx, _, rfl, hx⟩, .inl (.inl (.inl ⟨y, dy, _, rfl, hy⟩)), x, xw, vt', _, L, z, ts, rfl, hD2, tT, .inr ⟨y, yw, vu', L, z, us, rfl, hE2, tU, _, rfl, ?_⟩⟩
    rw [ed]
    refine ⟨_, rfl, _, rfl, ⟨x, dx, _, rfl, hx⟩, ⟨y, dy, _, rfl, hy⟩, x, xw, vt', y, yw, vu', L, z, ts, us, rfl, hD2, hE2, tT, tU, fun H3 e3 => ?_⟩
    have hx := e3 _ _ hx
    have hy := e3 _ _ hy
    refine ⟨_, rfl, _, rfl, ⟨x, dx, _, rfl, hx⟩, ⟨y, dy, _, rfl, hy⟩, x, xw, vt', y, yw, vu', L, z, ts, us, rfl, hD2.ex e3, hE2.ex e3, tT, tU, fun H4 e4 => ?_⟩
    have hx := e4 _ _ hx
    have hy := e4 _ _ hy
    have e24 := e3.tr e4
    refine ⟨_, rfl, _, rfl, ⟨x, dx, _, rfl, hx⟩, ⟨y, dy, _, rfl, hy⟩, x, xw, vt', y, yw, vu', L, z, ts, us, rfl, hD2.ex e24, hE2.ex e24, tT, tU, fun H5 e5 => ?_⟩
    have hx := e5 _ _ hx
    have hy := e5 _ _ hy
    have e25 := e24.tr e5
    refine ⟨_, rfl, _, rfl, ⟨x, dx, _, rfl, hx⟩, ⟨y, dy, _, rfl, hy⟩, x, xw, vt', y, yw, vu', L, z, ts, us, rfl, hD2.ex e25, hE2.ex e25, tT, tU, fun H6 e6 => ⟨(by show 6 ≤ sizeLine; decide), fun l nl sl => ?_⟩⟩
    simp only [← LE, ← GE, ← EQ]
    have e26 := e25.tr e6
    have el := Ex.nw (o := .lst [.bl eq, .bl (!eq), .bl le, .bl (le && !eq), .bl ge, .bl (ge && !eq)]) nl
    obtain ⟨H7, E7⟩ : ∃ G, G = upd H6 l (.lst [.bl eq, .bl (!eq), .bl le, .bl (le && !eq), .bl ge, .bl (ge && !eq)]) := ⟨_, rfl⟩
    have hl : H7 l = some (.lst [.bl eq, .bl (!eq), .bl le, .bl (le && !eq), .bl ge, .bl (ge && !eq)]) := by rw [E7]; exact upd_same
    rw [← E7] at el ⊢
    refine nx_set ?_
    refine ⟨_, rfl, _, rfl, _, rfl, _, rfl, _, rfl, and_nb rfl rfl ⟨_, rfl, and_nb rfl rfl ⟨(by show 6 ≤ sizeLine; decide), fun l2 nl2 sl2 => ?_⟩⟩⟩
    have el2 := Ex.nw (o := .lst [.bl eq, .bl (!eq), .bl le, .bl (le && !eq), .bl ge, .bl (ge && !eq)]) nl2
    have hl2 := el2 _ _ hl
    refine ⟨_, _, six_dp eq le ge hl2, six_dp eq le ge upd_same, (six_eqv eq le ge).2, (six_eqv eq le ge).2, _, rfl, HX.if_false (by rw [(six_eqv eq le ge).1]; rfl) ?_⟩
    refine ⟨_, rfl, l, rfl, ⟨_, SqL.of hl2⟩, fun D nD => lc_yes (walk_list (xs := [.bl eq, .bl (!eq), .bl le, .bl (le && !eq), .bl ge, .bl (ge && !eq)])) (by show 6 < 1000; decide) nD (fun H' e => SqL.of (e _ _ hl2)) (fun i xv G H8 Kq hi e yy kq => ?_) (fun H8 e8 hDl => ?_)⟩
    · obtain ⟨rfl, hxi⟩ := yy
      obtain ⟨q, rfl⟩ := six_bl hxi
      exact ⟨rfl, _, rfl, _, _, _, _, _, rfl, .ty _, .base (.bl _), kit_ty (r := true) (by decide +kernel), kq _ (Ex.rf _)⟩
    refine ⟨D, _, rfl, SqL.of hDl, _, rfl, HX.if_false (by rw [all_rep]; rfl) ?_⟩
    have e28 := e26.tr (el.tr (el2.tr e8))
    have e08 := e02.tr e28
    refine ⟨_, rfl, _, rfl, x, xw, vt', y, yw, vu', L, L, z, ts, us, rfl, hD2.ex e28, hE2.ex e28, rfl, tT, tU, fun v1 H9 e9 tz1 => ?_⟩
    rw [← fstD_part] at tz1
    have f1 := fst_shn (c := false) ok hz (ts := ts) (us := us)
    have f2 := fst_shn (c := true) ok hz (ts := ts) (us := us)
    refine ⟨_, _, x, rfl, tz1.dz, f1.1, f1.2.1, f1.2.2, ?_⟩
    have e09 := e08.tr e9
    refine ⟨_, rfl, _, rfl, vt, vu, L, z, ts, us, false, rfl, tv.ex e09, tu.ex e09, tT, tU, fun v2 G1 g1 tz2 => ?_⟩
    refine ⟨_, _, x, rfl, tz2.dz, f1.1, f1.2.1, f1.2.2, rfl, _, rfl, HX.if_false (q_neb2 rfl) ?_⟩
    have e2g := e28.tr (e9.tr g1)
    refine ⟨_, rfl, _, rfl, x, xw, vt', y, yw, vu', L, L, z, ts, us, rfl, hD2.ex e2g, hE2.ex e2g, rfl, tT, tU, fun v3 G2 g2 tz3 => ?_⟩
    rw [← fstD_bey] at tz3
    refine ⟨_, _, x, rfl, tz3.dz, f2.1, f2.2.1, f2.2.2, ?_⟩
    have e0g := e02.tr (e2g.tr g2)
    refine ⟨_, rfl, _, rfl, vt, vu, L, z, ts, us, true, rfl, tv.ex e0g, tu.ex e0g, tT, tU, fun v4 G3 g3 tz4 => ?_⟩
    refine ⟨_, _, x, rfl, tz4.dz, f2.1, f2.2.1, f2.2.2, rfl, ?_⟩
    rw [dec_strV, decide_eq_true rfl]
    exact k _ (e0g.tr g3)
end
end K65
set_option Elab.async false
set_option linter.all false
set_option maxRecDepth 100000
set_option maxHeartbeats 4400000
namespace K65
open PySem PySem.Spec PyProof.Rows L2 HX
open PySem.W (Frag)


theorem new_doing {P : Program} {w : World} {K : Frag} {Cw Cd x dx xw : Addr} {H : Hp} {vt : V} {L : Lore} {z : Str} {ts : List PyData} {Q : Hp → Prop} {E : XK} (nx : H x = none) (ndx : H dx = none) (hW : WAt K Cw H xw L) (tab : TabOk L z ts) (tv : Tz H vt (.tuple (tabD L z ts)))
    (k : ∀ H', Ex H H' → DAt P w K Cw Cd H' x xw vt L z ts → Q H') : spDinit P w K Cw Cd [.ref x, .ref xw, .str z, vt] (upd (upd H dx (.own x)) x (.ins Cd dx [])) (fun v H' => v = .non ∧ Q H') E := by
  have eM : Ex H (upd (upd H dx (.own x)) x (.ins Cd dx [])) := fun c o e => by rw [upd_ne (ne_of_none e nx), upd_ne (ne_of_none e ndx)]; exact e
  exact ⟨x, dx, xw, vt, L, z, ts, rfl, upd_same, hW.ex eM, tab, tv.ex eM, fun H' keep hD => ⟨rfl, k H' (fun c u h => keep c u (fun y => by rw [y, nx] at h; cases h) (eM c u h)) hD⟩⟩
theorem new_world {K : Frag} {C x dx : Addr} {H : Hp} {vc vr vl : V} {L : Lore} {Q : Hp → Prop} {E : XK} (nx : H x = none) (ndx : H dx = none) (ok : L.Ok) (hc : Tz H vc L.cD) (hr : Tz H vr L.rD) (hl : NmT K H vl L.lo)
    (k : ∀ H', Ex H H' → WAt K C H' x L → Q H') : spWinit K C [.ref x, .int L.sz, .int L.mo, vc, vr, vl] (upd (upd H dx (.own x)) x (.ins C dx [])) (fun v H' => v = .non ∧ Q H') E := by
  have eM : Ex H (upd (upd H dx (.own x)) x (.ins C dx [])) := fun c o e => by rw [upd_ne (ne_of_none e nx), upd_ne (ne_of_none e ndx)]; exact e
  exact ⟨x, dx, vc, vr, vl, L, rfl, upd_same, ok, hc.ex eM, hr.ex eM, hl.ex eM, fun H' keep hD => ⟨rfl, k H' (fun c u h => keep c u (fun y => by rw [y, nx] at h; cases h) (eM c u h)) hD⟩⟩
def looseL (L : Lore) : Lore := { L with lo := L.cs }
theorem loose_ok {L : Lore} (ok : L.Ok) : (looseL L).Ok := { ok with
  lN := ok.cN
  ll := by show L.cs.length ≤ L.cs.length + L.rs.length; omega
  lt := fun x h => List.mem_append.mpr (.inl h) }
theorem loose_small {L : Lore} (sm : Small L) : Small (looseL L) := ⟨loose_ok sm.ok, sm.sz, sm.cn, sm.rn⟩
theorem loose_tab {L : Lore} (sm : Small L) {z : Str} {ts : List PyData} (hz : z.length ≤ 2) (h : TabOk L z ts) : TabOk (looseL L) z ts := ⟨loose_ok h.1, h.2.1, few_of (loose_small sm) hz, h.2.2.2.1, h.2.2.2.2.1, h.2.2.2.2.2⟩
theorem loose_data {L : Lore} {z : Str} {ts : List PyData} : tabD (looseL L) z ts = tabD L z ts := rfl
theorem loose_same {L : Lore} (ok : L.Ok) : wSame (looseL L) L = wSame L (looseL L) := by
  have p1 := (pn_loD ok).1
  have p2 := (pn_loD (loose_ok ok)).1
  have q1 := (pn_cD ok).1
  have q2 := (pn_rD ok).1
  unfold wSame
  have : PyData.eqv (loD (looseL L)) (loD L) = PyData.eqv (loD L) (loD (looseL L)) := by
    rw [Bool.eq_iff_iff, eqv_plainN _ _ p2 p1, eqv_plainN _ _ p1 p2]
    exact ⟨Eq.symm, Eq.symm⟩
  rw [this]
  rfl
theorem loose_eq {L : Lore} (sm : Small L) {z : Str} {ts : List PyData} (hz : z.length ≤ 2) (h : TabOk L z ts) : dEq L (looseL L) z z ts ts = wSame (looseL L) L := by
  unfold dEq
  rw [show tEq L (looseL L) z z ts ts = true from (tEq_iff h (loose_tab sm hz h)).mpr rfl, decide_eq_true rfl, loose_same h.1, Bool.true_and, Bool.and_true]
theorem z1n : ("n" : Str).length = 1 := by decide +kernel
theorem ch_n : ("n" : Str).cps.toList = [110] := by decide +kernel
theorem len_n (z : Str) : (z ++ "n").length = z.length + 1 := by
  have e : ch (z ++ "n") = ch z ++ ch "n" := ch_app _ _
  have a : (z ++ "n").length = (ch (z ++ "n")).length := by show (z ++ "n").cps.size = _; simp
  have b : z.length = (ch z).length := by show z.cps.size = _; simp
  rw [a, e, List.length_append, b, show ch ("n" : Str) = [110] from ch_n]; rfl
theorem kinds_n {b : Bool} {z : Str} (h : kindsOk b z = true) : kindsOk b (z ++ "n") = true := by
  unfold kindsOk at h ⊢
  rw [show (z ++ "n").cps.toList = z.cps.toList ++ [110] from (ch_app _ _).trans (by rw [show ch ("n" : Str) = [110] from ch_n]), List.all_append, h]
  rfl
theorem wide_no {L : Lore} {z : Str} {ts us : List PyData} : dEq L L z (z ++ "n") ts us = false := by
  unfold dEq
  rw [decide_eq_false (fun h => by have := len_n z; rw [← h] at this; omega), Bool.false_and, Bool.and_false]
def spRight : Sp := fun vs H Q _ => ∃ (p : Addr) (N : Int), vs = [.ref p] ∧ PotAt H p N ∧ N ≤ 65000 ∧ ∀ H', XB p H H' → PotAt H' p (N + 12700) → Q (.bl true) H'

section
variable {P : Program} {w : World} {K : Frag} {mg : Str → Option Value} {base : Heap} {A : Ad}


def Side (K : Frag) (A : Ad) (H : Hp) (y : V) : Prop := eqSideV K A.C_Doing H y ∧ ∃ t, TyX K H y t ∧ PySem.W.kitOne K t (.ref A.C_Doing) = some false
theorem side_all (T : Txt K mg A) {H : Hp} {vt : V} {q xw dw : Addr} {z : Str} {ds : List PyData} {fs : List (Str × V)} (h1 : Tz H vt (.tuple ds)) (h2 : H xw = some (.ins A.C_World dw fs)) (h3 : H q = some (.tup [])) {i : Nat} {v : V} (h : ([.non, .int 0, vt, .str z, .ref xw, .ref q] : List V)[i]? = some v) : Side K A H v := by
  have h := List.mem_of_getElem? h
  simp only [List.mem_cons, List.not_mem_nil, or_false] at h
  obtain ⟨a, xs, rfl, ha, _⟩ := h1.tupI
  rcases h with rfl | rfl | rfl | rfl | rfl | rfl
  · exact ⟨.inl (.inr (.inl ⟨rfl, T.nfN⟩)), _, .base .non, T.k_non⟩
  · exact ⟨.inl (.inl (.inr (.inl ⟨0, rfl⟩))), _, .base (.int _), T.k_int⟩
  · exact ⟨.inl (.inl (.inr (.inr ⟨a, xs, rfl, ha⟩))), _, .base (.tup ha), T.k_tup⟩
  · exact ⟨.inl (.inr (.inr ⟨⟨z, rfl⟩, T.nfS⟩)), _, .base (.str _), T.k_str⟩
  · exact ⟨.inr ⟨A.C_World, ⟨xw, dw, fs, rfl, h2⟩, T.nfW⟩, _, ty_world T h2, T.k_DW⟩
  · exact ⟨.inl (.inl (.inr (.inr ⟨q, [], rfl, h3⟩))), _, .base (.tup h3), T.k_tup⟩

theorem ok_right (T : Txt K mg A) : FnG P w K mg base CX0 11 A.f_right A.d_right ["_law_box_here"] (spRight) := by
  refine okG0 T.F_right sc_right (fun vs H Q E h => ?_) (fun cdv A0 outer s H vs Q E hgd0 hr h => ?_)
  · obtain ⟨_, _, rfl, _⟩ := h
    rfl
  · have hu := hu_of hr
    have hgd : (A0.deeper (envOfC "_law_right" (defScope s_right) s.heap.objs.size A.f_right cdv)).guards = some [] := hgd0
    obtain ⟨p, N, rfl, hp, hN, k⟩ := h
    obtain ⟨kw, FW, nw⟩ := T.F_World_init
    refine ⟨_, (pss_cons (ps_set (i := 1) sc_right.nd rfl (Or.inl rfl) (pe_call (ok_land T) (hr.mono (by decide)) (by rfl) T.m_land T.F_land.kp T.b_land .nil pass0 (pa_cons (pv 0) pa_nil)))
      (pss_cons (ps_set (i := 2) sc_right.nd rfl (Or.inl rfl) (pe_call (ok_kinds T) (hr.mono (by decide)) (by rfl) T.m_kinds T.F_kinds.kp T.b_kinds .nil pass0 (pa_cons (pv 0) (pa_cons (pv 1) (pa_cons pe_int pa_nil)))))
      (pss_cons (ps_set (i := 3) sc_right.nd rfl (Or.inl rfl) (pe_call (ok_table T) (hr.mono (by decide)) (by rfl) T.m_table T.F_table.kp T.b_table .nil pass0 (pa_cons (pv 0) (pa_cons (pv 1) (pa_cons (pv 2) pa_nil)))))
      (pss_cons (ps_set (i := 4) sc_right.nd rfl (Or.inl rfl) (pe_call (ok_other_table T) (hr.mono (by decide)) (by rfl) T.m_other_table T.F_other_table.kp T.b_other_table .nil pass0 (pa_cons (pv 0) (pa_cons (pv 1) (pa_cons (pv 2) (pa_cons (pv 3) pa_nil))))))
      (pss_cons (ps_par (i := 5) (j := 6) (by rfl) sc_right.nd rfl rfl (by decide) rfl rfl (pa_cons (pe_make T.mk_Doing (ok_Doing_init T) (hr.mono (by decide)) (by rfl) T.m_Doing T.b_Doing_init .nil pass0 (pa_cons (pe_dget hu (pv 1) pe_str (fun _ _ => rfl)) (pa_cons (pv 2) (pa_cons (pv 3) pa_nil)))) (pa_cons (pe_make T.mk_Doing (ok_Doing_init T) (hr.mono (by decide)) (by rfl) T.m_Doing T.b_Doing_init .nil pass0 (pa_cons (pe_dget hu (pv 1) pe_str (fun _ _ => rfl)) (pa_cons (pv 2) (pa_cons (pv 4) pa_nil)))) pa_nil)) (by rfl))
      (pss_cons (ps_if (PW.pt (pw_or (pt_not (pt_val (pe_callG hgd (ok_compared_right T) (hr.mono (by decide)) (by rfl) T.m_compared_right T.F_compared_right.kp T.b_compared_right .nil pass0 (pa_cons (pv 3) (pa_cons (pv 4) (pa_cons (pv 5) (pa_cons (pv 6) pa_nil))))))) (pw_or1 (pt_not (pt_val (pe_callG hgd (ok_compared_right T) (hr.mono (by decide)) (by rfl) T.m_compared_right T.F_compared_right.kp T.b_compared_right .nil pass0 (pa_cons (pv 4) (pa_cons (pv 3) (pa_cons (pv 6) (pa_cons (pv 5) pa_nil)))))))))) (pss_one (ps_ret pe_bl)) pss_nil)
      (pss_cons (ps_for PassesOwn.never rfl (pi_tup (pe_tup (pa_cons pe_non (pa_cons pe_int (pa_cons (pv 3) (pa_cons (pv 2) (pa_cons (pe_dget hu (pv 1) pe_str (fun _ _ => rfl)) (pa_cons (pe_tup pa_nil) pa_nil)))))))) (pg_name (i := 7) sc_right.nd rfl (Or.inl rfl)) (pss_one (ps_if (PW.pt (pw_or (pt_cmpR op_notBl (pe_cmpR (op_eqV T.eqd (ok_Doing_eq T) T.b_Doing_eq (hr.mono (by decide)) pass0) (pv 5) (pv 7) (nomark _)) pe_bl (nomark _)) (pw_or1 (pt_cmpR op_notBl (pe_cmpR (op_neV T.eqd (ok_Doing_eq T) T.b_Doing_eq (hr.mono (by decide)) pass0) (pv 5) (pv 7) (nomark _)) pe_bl (nomark _))))) (pss_one (ps_ret pe_bl)) pss_nil)))
      (pss_cons (ps_set (i := 8) sc_right.nd rfl (Or.inl rfl) (pe_make T.mk_Doing (ok_Doing_init T) (hr.mono (by decide)) (by rfl) T.m_Doing T.b_Doing_init .nil pass0 (pa_cons (pe_dget hu (pv 1) pe_str (fun _ _ => rfl)) (pa_cons (pe_op op_add_str (pv 2) pe_str) (pa_cons (pe_call (ok_table T) (hr.mono (by decide)) (by rfl) T.m_table T.F_table.kp T.b_table .nil pass0 (pa_cons (pv 0) (pa_cons (pv 1) (pa_cons (pe_op op_add_str (pv 2) pe_str) pa_nil)))) pa_nil)))))
      (pss_cons (ps_set (i := 9) sc_right.nd rfl (Or.inl rfl) (pe_make T.mk_World (ok_World_init T) (hr.mono (by decide)) (by rfl) T.m_World (wb5 FW) .nil pass0 (pa_cons (pe_dget hu (pv 1) pe_str (fun _ _ => rfl)) (pa_cons (pe_dget hu (pv 1) pe_str (fun _ _ => rfl)) (pa_cons (pe_prop (pe_dget hu (pv 1) pe_str (fun _ _ => rfl)) T.cls_World T.P_cells (ok_World_cells T) (hr.mono (by decide)) T.b_World_cells .nil pass0 rfl) (pa_cons (pe_prop (pe_dget hu (pv 1) pe_str (fun _ _ => rfl)) T.cls_World T.P_rows (ok_World_rows T) (hr.mono (by decide)) T.b_World_rows .nil pass0 rfl) (pa_cons (pe_callTy call_tuple_of (by rfl) T.g_tuple (by decide +kernel) (pa_cons (pe_dget hu (pv 1) pe_str (fun _ _ => rfl)) pa_nil)) pa_nil)))))))
      (pss_cons (ps_set (i := 10) sc_right.nd rfl (Or.inl rfl) (pe_make T.mk_Doing (ok_Doing_init T) (hr.mono (by decide)) (by rfl) T.m_Doing T.b_Doing_init .nil pass0 (pa_cons (pv 9) (pa_cons (pv 2) (pa_cons (pv 3) pa_nil)))))
      (pss_cons (ps_if (PW.pt (pw_or (pt_cmpR op_notBl (pe_cmpR (op_eqV T.eqd (ok_Doing_eq T) T.b_Doing_eq (hr.mono (by decide)) pass0) (pv 5) (pv 8) (nomark _)) pe_bl (nomark _)) (pw_or1 (pt_cmpR op_ne (pe_cmpR (op_eqV T.eqd (ok_Doing_eq T) T.b_Doing_eq (hr.mono (by decide)) pass0) (pv 5) (pv 10) (nomark _)) (pe_cmpR (op_eqO T.eqc (ok_World_eq T) T.b_World_eq (hr.mono (by decide)) pass0) (pv 9) (pe_dget hu (pv 1) pe_str (fun _ _ => rfl)) (nomark _)) (nomark _))))) (pss_one (ps_ret pe_bl)) pss_nil)
      (pss_one (ps_ret (pe_cmpR (op_eqV T.eqd (ok_Doing_eq T) T.b_Doing_eq (hr.mono (by decide)) pass0) (pv 5) (pe_make T.mk_Doing (ok_Doing_init T) (hr.mono (by decide)) (by rfl) T.m_Doing T.b_Doing_init .nil pass0 (pa_cons (pe_dget hu (pv 1) pe_str (fun _ _ => rfl)) (pa_cons (pv 2) (pa_cons (pv 3) pa_nil)))) (nomark _))))))))))))))), ?_⟩
    refine ⟨_, rfl, p, N, rfl, hp, by omega, fun d L H1 x1 hp1 hL sm nd => ?_⟩
    refine ⟨_, rfl, _, rfl, p, d, L, _, rfl, hp1, by omega, hL, sm, fun z H2 x2 hp2 hz hkz => ?_⟩
    have hL2 := hL.pot hp1 x2
    refine ⟨_, rfl, _, rfl, _, rfl, p, d, L, z, _, rfl, hp2, by omega, hL2, sm, by omega, fun vt ts H3 x3 hp3 tv lts hts => ?_⟩
    have hL3 := hL2.pot hp2 x3
    refine ⟨_, rfl, _, rfl, _, rfl, _, rfl, p, d, L, z, vt, ts, _, rfl, hp3, by omega, hL3, sm, by omega, tv, lts, hts, fun vu us H4 x4 hp4 tu lus hus => ?_⟩
    have hL4 := hL3.pot hp3 x4
    obtain ⟨zp3, hzp3⟩ := pot_at hp3
    have tv4 := tv.te (x4.te hzp3)
    have ok := sm.ok
    have few := few_of sm (z := z) (by omega)
    have tT : TabOk L z ts := ⟨ok, by omega, few, hkz, lts, hts⟩
    have tU : TabOk L z us := ⟨ok, by omega, few, hkz, lus, hus⟩
    have h144 := keys_144 sm hz
    have x04 := x1.tr (x2.tr (x3.tr x4))
    obtain ⟨ln, lo, xw, hd, hln, hlo, hW, hlo0⟩ := id hL4
    refine ⟨_, rfl, d, _, rfl, land_world hd, _, rfl, _, rfl, fun x dx nx ndx nxd => new_doing nx ndx hW tT tv4 fun H5 e5 hD => ?_⟩
    refine ⟨_, rfl, d, _, rfl, land_world (e5 _ _ hd), _, rfl, _, rfl, fun y dy ny ndy nyd => new_doing ny ndy (hW.ex e5) tU (tu.ex e5) fun H6 e6 hE => ?_⟩
    have e46 := e5.tr e6
    have hD6 := hD.ex e6
    have tv6 := tv4.ex e46
    have tu6 := tu.ex e46
    refine ⟨_, _, rfl, ?_⟩
    refine ⟨_, rfl, _, rfl, _, rfl, _, rfl, vt, vu, x, xw, vt, y, xw, vu, L, z, ts, us, rfl, tv6, tu6, hD6, hE, tT, tU, h144, fun H7 e7 => ⟨_, rfl, HX.if_false rfl ?_⟩⟩
    refine ⟨_, rfl, _, rfl, _, rfl, _, rfl, vu, vt, y, xw, vu, x, xw, vt, L, z, us, ts, rfl, tu6.ex e7, tv6.ex e7, hE.ex e7, hD6.ex e7, tU, tT, h144, fun H8 e8 => ⟨_, rfl, HX.if_false rfl ?_⟩⟩
    have e48 := e46.tr (e7.tr e8)
    have hD8 := hD6.ex (e7.tr e8)
    have tv8 := tv4.ex e48
    refine ⟨_, rfl, _, rfl, _, rfl, d, _, rfl, land_world (e48 _ _ hd), (by show 0 ≤ sizeLine; decide), fun q nq => ⟨(by show 6 ≤ sizeLine; decide), fun t nt => ?_⟩⟩
    have eq1 := Ex.nw (o := .tup []) nq
    have et := Ex.nw (o := .tup [.non, .int 0, vt, .str z, .ref xw, .ref q]) nt
    obtain ⟨H9, E9⟩ : ∃ G, G = upd (upd H8 q (.tup [])) t (.tup [.non, .int 0, vt, .str z, .ref xw, .ref q]) := ⟨_, rfl⟩
    have ht9 : H9 t = some (.tup [.non, .int 0, vt, .str z, .ref xw, .ref q]) := by rw [E9]; exact upd_same
    have hq9 : H9 q = some (.tup []) := by rw [E9]; exact et _ _ upd_same
    have e89 : Ex H8 H9 := by rw [E9]; exact eq1.tr et
    rw [← E9]
    have e49 := e48.tr e89
    have hD9 := hD8.ex e89
    have tv9 := tv8.ex e89
    obtain ⟨dw, vc, vr, vl, wd, we, wk, hxw, _⟩ := id (hW.ex e49)
    obtain ⟨dx0, d0, kv0, hx9, _⟩ := id hD9
    refine ⟨t, rfl, ⟨_, SqT.of ht9⟩, for_it (walk_tup (xs := [.non, .int 0, vt, .str z, .ref xw, .ref q])) (fun i σ G => (∃ u7, σ = [some (.ref p), some (.ref d), some (.str z), some vt, some vu, some (.ref x), some (.ref y), u7, none, none, none]) ∧ Ex H9 G) ⟨⟨_, rfl⟩, Ex.rf _⟩ (fun i σ G _ q => SqT.of (q.2 _ _ ht9)) ?_ ?_⟩
    · rintro i xv σ G0 G hi ⟨⟨u7, rfl⟩, e9⟩ ⟨rfl, hxi⟩
      obtain ⟨sd, ty, hty, hk⟩ := side_all T (tv9.ex e9) (e9 _ _ hxw) (e9 _ _ hq9) hxi
      refine ⟨_, rfl, _, rfl, ⟨x, dx0, _, rfl, e9 _ _ hx9⟩, sd, x, xw, vt, _, L, z, ts, rfl, hD9.ex e9, tT, .inl ⟨ty, hty, hk, false, false, rfl, rfl, _, rfl, HX.if_false rfl ?_⟩⟩
      exact ⟨_, rfl, _, rfl, ⟨x, dx0, _, rfl, e9 _ _ hx9⟩, sd, x, xw, vt, _, L, z, ts, rfl, hD9.ex e9, tT, .inl ⟨ty, hty, hk, _, rfl, true, true, rfl, rfl, _, rfl, HX.if_false rfl ⟨⟨_, rfl⟩, e9⟩⟩⟩
    rintro σ G ⟨⟨u7, rfl⟩, e9⟩
    have e4g := e49.tr e9
    have hpg := hp4.ex e4g
    have hLg := hL4.ex e4g
    have l2 := len_n z
    refine ⟨_, rfl, d, _, rfl, land_world (e4g _ _ hd), _, rfl, _, _, rfl, rfl, (by rw [z1n]; exact Nat.le_of_lt (small (by omega))), ?_⟩
    refine ⟨_, rfl, _, rfl, _, rfl, _, _, rfl, rfl, (by rw [z1n]; exact Nat.le_of_lt (small (by omega))), p, d, L, _, _, rfl, hpg, by omega, hLg, sm, by omega, fun vw ws G1 y1 hq1 tw lws hws => ?_⟩
    obtain ⟨zpg, hzpg⟩ := pot_at hpg
    have hL1 := hLg.pot hpg y1
    have hW1 := (hW.ex e4g).te hzpg y1
    have hd1 := y1 _ _ (ne_of (e4g _ _ hd) hzpg (by intro y; cases y)) (e4g _ _ hd)
    have hln1 := y1 _ _ (ne_of (e4g _ _ hln) hzpg (by obtain ⟨_, _, _, zz, _⟩ := hpg; rw [hzpg] at zz; injection zz with zz; rw [zz]; exact strs_no)) (e4g _ _ hln)
    have tv1 := (tv4.ex e4g).te (y1.te hzpg)
    have hDg := (hD9.ex e9).te hzpg y1
    have tW : TabOk L (z ++ "n") ws := ⟨ok, by omega, few_of sm (by omega), kinds_n hkz, lws, hws⟩
    refine fun x2 dx2 nx2 ndx2 nxd2 => new_doing nx2 ndx2 hW1 tW tw fun G2 g2 hF => ?_
    refine nx_set ?_
    have hW2 := hW1.ex g2
    obtain ⟨dw2, vc2, vr2, vl2, wd2, we2, wk2, hxw2, _⟩ := id hW2
    refine ⟨_, rfl, d, _, rfl, land_size (g2 _ _ hd1), _, rfl, d, _, rfl, land_most (g2 _ _ hd1), ?_⟩
    refine ⟨_, rfl, d, _, rfl, land_world (g2 _ _ hd1), xw, dw2, _, rfl, hxw2, xw, L, rfl, hW2, fun v1 hv1 => ?_⟩
    refine ⟨_, rfl, d, _, rfl, land_world (g2 _ _ hd1), xw, dw2, _, rfl, hxw2, xw, L, rfl, hW2, fun v2 hv2 => ?_⟩
    refine ⟨_, rfl, d, _, rfl, land_cells (g2 _ _ hd1), ln, _, rfl, .inl ⟨SqL.of (g2 _ _ hln1), fun tc ntc => ?_⟩⟩
    have e3 := Ex.nw (o := .tup (L.cs.map V.str)) ntc
    refine fun x3 dx3 nx3 ndx3 nxd3 => new_world (L := looseL L) nx3 ndx3 (loose_ok ok) (hv1.ex e3) (hv2.ex e3) (NmT.of upd_same) fun G4 g4 hM => ?_
    refine nx_set ?_
    have e24 := e3.tr g4
    have tM := loose_tab sm (by omega) tT
    refine ⟨_, rfl, _, rfl, _, rfl, fun x4 dx4 nx4 ndx4 nxd4 => new_doing nx4 ndx4 hM tM (((tv1.ex g2).ex e24 : Tz _ vt (.tuple (tabD L z ts)))) fun G5 g5 hG => ?_⟩
    refine nx_set ?_
    have e25 := e24.tr g5
    have e15 := g2.tr e25
    have hD5 := hDg.ex e15
    have hW5 := hW1.ex e15
    have hd5 := e15 _ _ hd1
    have hF5 := hF.ex e25
    obtain ⟨dxa, _, _, hxa, _⟩ := id hD5
    obtain ⟨dxb, _, _, hxb, _⟩ := id hF5
    obtain ⟨dxc, _, _, hxc, _⟩ := id hG
    obtain ⟨dwa, _, _, _, _, _, _, hwa, _⟩ := id hW5
    have hM5 := hM.ex g5
    obtain ⟨dwb, _, _, _, _, _, _, hwb, _⟩ := id hM5
    refine ⟨_, rfl, _, rfl, ⟨x, dxa, _, rfl, hxa⟩, .inl (.inl (.inl ⟨x2, dxb, _, rfl, hxb⟩)), x, xw, vt, _, L, z, ts, rfl, hD5, tT, .inr ⟨x2, xw, vw, L, z ++ "n", ws, rfl, hF5, tW, ?_⟩⟩
    rw [wide_no]
    refine ⟨false, false, rfl, rfl, _, rfl, HX.if_false rfl ?_⟩
    refine ⟨_, rfl, _, rfl, ⟨x, dxa, _, rfl, hxa⟩, .inl (.inl (.inl ⟨x4, dxc, _, rfl, hxc⟩)), x, xw, vt, _, L, z, ts, rfl, hD5, tT, .inr ⟨x4, x3, vt, looseL L, z, ts, rfl, hG, tM, ?_⟩⟩
    refine ⟨_, rfl, _, rfl, d, _, rfl, land_world hd5, ⟨x3, dwb, _, rfl, hwb⟩, .inl ⟨xw, dwa, _, rfl, hwa⟩, x3, xw, looseL L, L, rfl, hM5, hW5, loose_ok ok, ok, rfl, _, rfl, HX.if_false (by rw [loose_eq sm (by omega) tT, decide_eq_true rfl]; rfl) ?_⟩
    refine ⟨_, rfl, _, rfl, d, _, rfl, land_world hd5, _, rfl, _, rfl, fun x6 dx6 nx6 ndx6 nxd6 => new_doing nx6 ndx6 hW5 tT (tv1.ex e15) fun G6 g6 hI => ?_⟩
    obtain ⟨dxe, _, _, hxe, _⟩ := id hI
    refine ⟨⟨x, dxa, _, rfl, g6 _ _ hxa⟩, .inl (.inl (.inl ⟨x6, dxe, _, rfl, hxe⟩)), x, xw, vt, _, L, z, ts, rfl, hD5.ex g6, tT, .inr ⟨x6, xw, vt, L, z, ts, rfl, hI, tT, ?_⟩⟩
    rw [dEq_t ok, show tEq L L z z ts ts = true from (tEq_iff tT tT).mpr rfl]
    exact k _ (x04.tr ((Ex.xb e4g).tr (y1.tr (Ex.xb (e15.tr g6))))) ((hq1.ex (e15.tr g6)).mono (by omega))
end
end K65
set_option Elab.async false
set_option linter.all false
set_option maxRecDepth 100000
set_option maxHeartbeats 4400000
namespace K65
open PySem PySem.Spec PyProof.Rows L2 HX
open PySem.W (Frag)


def spLaw (K : Frag) : Sp := fun vs H Q _ => ∃ (a : Addr) (ns : List Int), vs = [.ref a] ∧ SqL K H a (ns.map V.int) ∧ ns.length ≤ 63 ∧ ∀ H', Q (.bl true) H'

section
variable {P : Program} {w : World} {K : Frag} {mg : Str → Option Value} {base : Heap} {A : Ad}

theorem ok_law (T : Txt K mg A) : FnG P w K mg base CX0 12 A.f_law A.d_law ["_law_script"] (spLaw K) := by
  refine okG0 T.F_law sc_law (fun vs H Q E h => ?_) (fun cdv A0 outer s H vs Q E hgd0 hr h => ?_)
  · obtain ⟨_, _, rfl, _⟩ := h
    rfl
  · have hu := hu_of hr
    have hgd : (A0.deeper (envOfC "law" (defScope s_law) s.heap.objs.size A.f_law cdv)).guards = some [] := hgd0
    obtain ⟨a, ns, rfl, hS, hl, k⟩ := h
    refine ⟨_, (pss_cons (ps_for PassesOwn.never rfl (pi_range1 rfl T.g_range (pa_cons (pe_callB (call_max2 rfl) (by rfl) T.g_max (by decide +kernel) (pa_cons pe_int (pa_cons (pe_callB (call_min2 rfl) (by rfl) T.g_min (by decide +kernel) (pa_cons pe_int (pa_cons (pe_callB call_len_seq (by rfl) T.g_len (by decide +kernel) (pa_cons (pv 0) pa_nil)) pa_nil))) pa_nil))) pa_nil)) (pg_name (i := 1) sc_law.nd rfl (Or.inl rfl)) (pss_cons (ps_set (i := 2) sc_law.nd rfl (Or.inr rfl) (pe_call (ok_box T) (hr.mono (by decide)) (by rfl) T.m_box T.F_box.kp T.b_box .nil pass0 (pa_cons (pv 0) (pa_cons (pv 1) pa_nil))))
      (pss_one (ps_if (pt_not (pt_val (pe_callB (cr_all rfl) (by rfl) T.g_all (by decide +kernel) (pa_cons (pe_lc (own := [("_law_turn", 3)]) (g := (gName 3)) (tt := tYes) rfl sc_law.nd (pi_range1 rfl T.g_range (pa_cons pe_int pa_nil)) (blkOk_by (N := N_law) (sc := defScope s_law) (by decide +kernel)) (fun _ _ _ _ _ => pg_name (i := 3) sc_law.nd rfl (Or.inl rfl)) (fun _ _ _ _ _ => pts_nil) (fun _ _ _ _ _ => (pe_callG hgd (ok_right T) (hr.mono (by decide)) (by rfl) T.m_right T.F_right.kp T.b_right .nil pass0 (pa_cons (pv 2) pa_nil)))) pa_nil)))) (pss_one (ps_ret pe_bl)) pss_nil))))
      (pss_one (ps_ret pe_bl))), ?_⟩
    refine ⟨_, rfl, a, _, rfl, .inl hS, _, _, rfl, _, _, rfl, ?_⟩
    obtain ⟨n, en⟩ : ∃ z, z = (if (if ((ns.map V.int).length : Int) < 3 then ((ns.map V.int).length : Int) else 3) > 1 then (if ((ns.map V.int).length : Int) < 3 then ((ns.map V.int).length : Int) else 3) else 1) := ⟨_, rfl⟩
    have n1 : 1 ≤ n := by rw [en]; split <;> split at * <;> omega
    have n3 : n ≤ 3 := by rw [en]; split <;> split at * <;> omega
    rw [← en]
    refine ⟨n, rfl, by omega, by omega, for_range (lo := 0) (n := n.toNat) (fun i σ H' => (∃ v1 v2 v3, σ = [some (.ref a), v1, v2, v3]) ∧ Ex H H') ⟨⟨_, _, _, rfl⟩, Ex.rf H⟩ ?_ ?_⟩
    · rintro i σ H2 hi ⟨⟨v1, v2, v3, rfl⟩, e2⟩
      refine ⟨_, rfl, _, rfl, a, ns, 0 + i, rfl, sql_ex hS e2, by omega, by omega, fun p H3 hp e3 pot => ?_⟩
      refine ⟨6, rfl, by decide, by decide, fun D nD => lc_range (lo := 0) (n := 6) (fun j H' => XB p H3 H' ∧ PotAt H' p (12700 * (j : Int)) ∧ H' D = some (.lst (List.replicate j (.bl true)))) ⟨Ex.xb (Ex.nw nD), (pot.mono (by omega)).up (Ne.symm (pot_none pot nD)), upd_same⟩ ?_ ?_⟩
      · rintro j H4 hj ⟨e4, hp4, hD⟩
        have nDp : D ≠ p := pot_none pot nD
        refine ⟨rfl, _, rfl, p, _, rfl, hp4, by omega, fun H5 x5 hp5 => ?_⟩
        have hD5 := x5 _ _ nDp hD
        refine ⟨_, hD5, small (by rw [List.length_replicate]; omega), XB.mu (e4.tr x5) nD, (hp5.mono (by push_cast; omega)).up (Ne.symm nDp), ?_⟩
        rw [rep_next]
        exact upd_same
      · rintro H4 ⟨e4, hp4, hD⟩
        refine ⟨D, List.replicate 6 true, rfl, SqL.of (by rw [hD, rep_bl]), _, rfl, HX.if_false (by rw [all_rep]; rfl) ?_⟩
        exact ⟨⟨_, _, _, rfl⟩, e2.tr fun b o hb => e4 b o (ne_of_none hb hp) (e3 _ _ hb)⟩
    · rintro σ H2 _
      exact k _
end
end K65
set_option Elab.async false
set_option linter.all false
set_option maxRecDepth 100000
set_option maxHeartbeats 4400000
namespace K65
open PySem PySem.Spec PyProof.Rows L2 HX
open PySem.W (Frag)
def dwB (K : Frag) (f : Addr) : Bool := match K.lookup f with
  | some ⟨_, _, .func fd, _⟩ => dfB K fd.defaults
  | _ => false
theorem dw_fun {K : Frag} {x qual : Str} {params : Arguments} {body : List Stmt} {scope : Scope} {v : V} {f : Addr} {fd : FuncData} (F : FunD K x qual params body scope [v] [] f fd) (c : dwB K f = true) :
    ∃ a, FunD K x qual params body scope [.ref a] [] f fd ∧ KNil K a := by
  obtain ⟨oc, od, dV, kV, doc, pm, an, cdv, ct, osl, rfl, lk, hcd, hD, hK⟩ := F.ex
  unfold dwB at c
  rw [lk] at c
  obtain ⟨a, h1, n1⟩ := df_ok (v := dV) c
  exact ⟨a, ⟨⟨oc, od, dV, kV, doc, pm, an, cdv, ct, osl, rfl, lk, hcd, h1, hK⟩, F.kp⟩, knil_ok n1⟩
def fnl : List DX := ([⟨glo "is_whole", "is_whole", "is_whole", s_is_whole⟩, ⟨glo "is_size", "is_size", "is_size", s_is_size⟩, ⟨glo "is_most", "is_most", "is_most", s_is_most⟩, ⟨glo "are_items", "are_items", "are_items", s_are_items⟩, ⟨glo "is_name", "is_name", "is_name", s_is_name⟩, ⟨glo "are_rising", "are_rising", "are_rising", s_are_rising⟩, ⟨glo "are_names", "are_names", "are_names", s_are_names⟩, ⟨glo "are_pairs", "are_pairs", "are_pairs", s_are_pairs⟩, ⟨glo "are_kinds", "are_kinds", "are_kinds", s_are_kinds⟩, ⟨glo "are_alike", "are_alike", "are_alike", s_are_alike⟩, ⟨glo "is_stand", "is_stand", "is_stand", s_is_stand⟩, ⟨prp "World" "size", "size", "World.size", s_World_size⟩, ⟨prp "World" "most", "most", "World.most", s_World_most⟩, ⟨prp "World" "cells", "cells", "World.cells", s_World_cells⟩, ⟨prp "World" "rows", "rows", "World.rows", s_World_rows⟩, ⟨prp "World" "loose", "loose", "World.loose", s_World_loose⟩, ⟨met "World" "__eq__", "__eq__", "World.__eq__", s_World_eq⟩, ⟨glo "_are_cells", "_are_cells", "_are_cells", s_are_cells⟩, ⟨glo "_are_rows", "_are_rows", "_are_rows", s_are_rows⟩, ⟨glo "_are_loose", "_are_loose", "_are_loose", s_are_loose⟩] : List DX) ++ ([⟨glo "all_values", "all_values", "all_values", s_all_values⟩, ⟨glo "all_items", "all_items", "all_items", s_all_items⟩, ⟨glo "check_few", "check_few", "check_few", s_check_few⟩, ⟨glo "all_keys", "all_keys", "all_keys", s_all_keys⟩, ⟨glo "_choices", "_choices", "_choices", s_choices⟩, ⟨met "Doing" "__init__", "__init__", "Doing.__init__", s_Doing_init⟩, ⟨prp "Doing" "world", "world", "Doing.world", s_Doing_world⟩, ⟨prp "Doing" "kinds", "kinds", "Doing.kinds", s_Doing_kinds⟩, ⟨prp "Doing" "table", "table", "Doing.table", s_Doing_table⟩, ⟨met "Doing" "__eq__", "__eq__", "Doing.__eq__", s_Doing_eq⟩, ⟨met "Doing" "__le__", "__le__", "Doing.__le__", s_Doing_le⟩, ⟨met "Doing" "__lt__", "__lt__", "Doing.__lt__", s_Doing_lt⟩, ⟨met "Doing" "__ge__", "__ge__", "Doing.__ge__", s_Doing_ge⟩, ⟨met "Doing" "__gt__", "__gt__", "Doing.__gt__", s_Doing_gt⟩, ⟨glo "check_kinds", "check_kinds", "check_kinds", s_check_kinds⟩, ⟨glo "parted", "parted", "parted", s_parted⟩, ⟨glo "beyond", "beyond", "beyond", s_beyond⟩, ⟨glo "_is_within", "_is_within", "_is_within", s_is_within⟩, ⟨glo "_first_key", "_first_key", "_first_key", s_first_key⟩, ⟨glo "_is_table", "_is_table", "_is_table", s_is_table⟩] : List DX) ++ ([⟨glo "_is_row", "_is_row", "_is_row", s_is_row⟩, ⟨glo "_is_told", "_is_told", "_is_told", s_is_told⟩, ⟨glo "_is_end", "_is_end", "_is_end", s_is_end⟩, ⟨glo "_law_box", "_law_box", "_law_box", s_box⟩, ⟨glo "_law_take", "_law_take", "_law_take", s_take⟩, ⟨glo "_law_of", "_law_of", "_law_of", s_of⟩, ⟨glo "_law_products", "_law_products", "_law_products", s_products⟩, ⟨glo "_law_fillings", "_law_fillings", "_law_fillings", s_fillings⟩, ⟨glo "_law_land", "_law_land", "_law_land", s_land⟩, ⟨glo "_law_letters", "_law_letters", "_law_letters", s_letters⟩, ⟨glo "_law_kinds", "_law_kinds", "_law_kinds", s_kinds⟩, ⟨glo "_law_stands", "_law_stands", "_law_stands", s_stands⟩, ⟨glo "_law_all_values", "_law_all_values", "_law_all_values", s_law_all_values⟩, ⟨glo "_law_keys", "_law_keys", "_law_keys", s_keys⟩, ⟨glo "_law_told_drawn", "_law_told_drawn", "_law_told_drawn", s_told_drawn⟩, ⟨glo "_law_table", "_law_table", "_law_table", s_table⟩, ⟨glo "_law_other_table", "_law_other_table", "_law_other_table", s_other_table⟩, ⟨glo "_law_is_within", "_law_is_within", "_law_is_within", s_law_is_within⟩, ⟨glo "_law_first", "_law_first", "_law_first", s_first⟩, ⟨glo "_law_compared_right", "_law_compared_right", "_law_compared_right", s_compared_right⟩] : List DX) ++ ([⟨glo "_law_right", "_law_right", "_law_right", s_right⟩, ⟨glo "law", "law", "law", s_law⟩] : List DX)
def fnd : List DX := [⟨met "World" "__init__", "__init__", "World.__init__", s_World_init⟩]
def nmG : List Str := ((["is_whole", "is_size", "is_most", "are_items", "is_name", "are_rising", "are_names", "are_pairs", "are_kinds", "are_alike", "is_stand", "_are_cells", "_are_rows", "_are_loose", "all_values", "all_items"] : List Str) ++ (["check_few", "all_keys", "_choices", "check_kinds", "parted", "beyond", "_is_within", "_first_key", "_is_table", "_is_row", "_is_told", "_is_end", "_law_box", "_law_take", "_law_of", "_law_products"] : List Str) ++ (["_law_fillings", "_law_land", "_law_letters", "_law_kinds", "_law_stands", "_law_all_values", "_law_keys", "_law_told_drawn", "_law_table", "_law_other_table", "_law_is_within", "_law_first", "_law_compared_right", "_law_right", "law", "World"] : List Str) ++ (["Doing"] : List Str))
def nmF : List Str := ((["isinstance", "int", "bool", "str", "len", "abs", "repr", "all", "range", "tuple", "list", "zip", "enumerate", "max", "min"] : List Str))
def b_cls (K : Frag) : Bool := clsB K (He.ga K "World") && (mkB K (He.ga K "World") (met "World" "__init__" K) && (clsB K (He.ga K "Doing") && (mkB K (He.ga K "Doing") (met "Doing" "__init__" K))))
def b_noa (K : Frag) : Bool := noatB K (He.ga K "World") "_size" && (noatB K (He.ga K "World") "_most" && (noatB K (He.ga K "World") "_cells" && (noatB K (He.ga K "World") "_rows" && (noatB K (He.ga K "World") "_loose" && (noatB K (He.ga K "World") "_cell_numbers" && (noatB K (He.ga K "World") "_row_numbers" && (noatB K (He.ga K "Doing") "_world" && (noatB K (He.ga K "Doing") "_kinds" && (noatB K (He.ga K "Doing") "_table" && (noatB K (He.ga K "Doing") "_by_key"))))))))))
def b_prp (K : Frag) : Bool := propB K (He.ga K "World") "size" (met "World" "size" K) (prp "World" "size" K) && (propB K (He.ga K "World") "most" (met "World" "most" K) (prp "World" "most" K) && (propB K (He.ga K "World") "cells" (met "World" "cells" K) (prp "World" "cells" K) && (propB K (He.ga K "World") "rows" (met "World" "rows" K) (prp "World" "rows" K) && (propB K (He.ga K "World") "loose" (met "World" "loose" K) (prp "World" "loose" K) && (propB K (He.ga K "Doing") "world" (met "Doing" "world" K) (prp "Doing" "world" K) && (propB K (He.ga K "Doing") "kinds" (met "Doing" "kinds" K) (prp "Doing" "kinds" K) && (propB K (He.ga K "Doing") "table" (met "Doing" "table" K) (prp "Doing" "table" K))))))))
def b_isi (K : Frag) : Bool := isiB K (He.ga K "World") && (isiB K (He.ga K "Doing") && (He.eqO (PySem.W.specialIn K (.builtin "object.__class__") "__get__") (some (some (.builtin "getset_descriptor.__get__"))) && (decide (PySem.W.takesIn K (.builtin "object.__class__") = some true))))
def b_eqw (K : Frag) : Bool := He.eqO (PySem.W.findIn K (.ref (He.ga K "World")) "__eq__") (some (some (.ref (met "World" "__eq__" K)))) && (PySem.W.isFn K (.ref (met "World" "__eq__" K)) && (He.eqO (PySem.W.findIn K (.ref (He.ga K "World")) "__ne__") (some (some (.builtin "object.__ne__"))) && (decide (PySem.W.mroIn K (He.ga K "World") (.type "object") = some true) && (PySem.W.notFirst K (He.ga K "World") (.ref (He.ga K "World")) && (PySem.W.notFirst K (He.ga K "World") (.type "int") && (PySem.W.notFirst K (He.ga K "World") (.type "tuple")))))))
def b_eqd (K : Frag) : Bool := He.eqO (PySem.W.findIn K (.ref (He.ga K "Doing")) "__eq__") (some (some (.ref (met "Doing" "__eq__" K)))) && (PySem.W.isFn K (.ref (met "Doing" "__eq__" K)) && (He.eqO (PySem.W.findIn K (.ref (He.ga K "Doing")) "__ne__") (some (some (.builtin "object.__ne__"))) && (decide (PySem.W.mroIn K (He.ga K "Doing") (.type "object") = some true) && (PySem.W.notFirst K (He.ga K "Doing") (.ref (He.ga K "Doing")) && (PySem.W.notFirst K (He.ga K "Doing") (.type "int") && (PySem.W.notFirst K (He.ga K "Doing") (.type "tuple")))))))
def b_kit (K : Frag) : Bool := decide (PySem.W.kitOne K (.ref (He.ga K "World")) (.ref (He.ga K "Doing")) = some false) && (decide (PySem.W.kitOne K (.type "tuple") (.ref (He.ga K "Doing")) = some false) && (decide (PySem.W.kitOne K (.type "NoneType") (.ref (He.ga K "Doing")) = some false) && (decide (PySem.W.kitOne K (.type "str") (.ref (He.ga K "Doing")) = some false) && (decide (PySem.W.kitOne K (.type "int") (.ref (He.ga K "Doing")) = some false)))))
def b_nof (K : Frag) : Bool := PySem.W.notFirst K (He.ga K "Doing") (.type "NoneType") && (PySem.W.notFirst K (He.ga K "Doing") (.type "str") && (PySem.W.notFirst K (He.ga K "Doing") (.ref (He.ga K "World"))))
def b_cmp (K : Frag) : Bool := He.eqO (PySem.W.findIn K (.ref (He.ga K "Doing")) (cmpInfo .LtE).2.1) (some (some (.ref (met "Doing" "__le__" K)))) && (PySem.W.isFn K (.ref (met "Doing" "__le__" K)) && (He.eqO (PySem.W.findIn K (.ref (He.ga K "Doing")) (cmpInfo .Lt).2.1) (some (some (.ref (met "Doing" "__lt__" K)))) && (PySem.W.isFn K (.ref (met "Doing" "__lt__" K)) && (He.eqO (PySem.W.findIn K (.ref (He.ga K "Doing")) (cmpInfo .GtE).2.1) (some (some (.ref (met "Doing" "__ge__" K)))) && (PySem.W.isFn K (.ref (met "Doing" "__ge__" K)) && (He.eqO (PySem.W.findIn K (.ref (He.ga K "Doing")) (cmpInfo .Gt).2.1) (some (some (.ref (met "Doing" "__gt__" K)))) && (PySem.W.isFn K (.ref (met "Doing" "__gt__" K)))))))))
def b_cst (K : Frag) : Bool := (He.Fa.int "MOST_LETTERS_forms" 8).ok K && ((He.Fa.str "LETTERS" "abcdefghijklmnopqrstuvwxyz").ok K && ((He.Fa.int "MOST_CELLS" 2).ok K && ((He.Fa.int "MOST_ROWS" 2).ok K && ((He.Fa.int "MOST_KEYS" 1000).ok K && ((He.Fa.int "MOST_WORDS" 3).ok K && ((He.Fa.int "MOST_LETTERS_doings" 4).ok K))))))
def b_kwd (K : Frag) : Bool := dwB K (met "World" "__init__" K)
def ex (K : Frag) : Bool := nmG.all (fun x => He.eqO (PySem.W.nsIn K mainGlobals x) (some (some (.ref (He.ga K x))))) && (nmF.all (fun x => He.eqO (PySem.W.nsIn K mainGlobals x) (some none)) && (b_cls K && (b_noa K && (b_prp K && (b_isi K && (b_eqw K && (b_eqd K && (b_kit K && (b_nof K && (b_cmp K && (b_cst K && (b_kwd K))))))))))))
theorem ex_glob {K : Frag} {h : Heap} {mg : Str → Option Value} (X : K.In h) (G : h.Ns mainGlobals mg) (c : ex K = true) {x : Str} (hx : x ∈ nmG) : mg x = some (.ref (He.ga K x)) := by
  unfold ex at c
  simp only [Bool.and_eq_true] at c
  exact PySem.W.mg_of X G (He.eqO_ok (List.all_eq_true.mp c.1 x hx))
theorem ex_free {K : Frag} {h : Heap} {mg : Str → Option Value} (X : K.In h) (G : h.Ns mainGlobals mg) (c : ex K = true) {x : Str} (hx : x ∈ nmF) : mg x = none := by
  unfold ex at c
  simp only [Bool.and_eq_true] at c
  exact PySem.W.mg_none_of X G (He.eqO_ok (List.all_eq_true.mp c.2.1 x hx))
theorem ex_cls {K : Frag} (c : ex K = true) : b_cls K = true := by
  unfold ex at c
  simp only [Bool.and_eq_true] at c
  exact c.2.2.1
theorem ex_noa {K : Frag} (c : ex K = true) : b_noa K = true := by
  unfold ex at c
  simp only [Bool.and_eq_true] at c
  exact c.2.2.2.1
theorem ex_prp {K : Frag} (c : ex K = true) : b_prp K = true := by
  unfold ex at c
  simp only [Bool.and_eq_true] at c
  exact c.2.2.2.2.1
theorem ex_isi {K : Frag} (c : ex K = true) : b_isi K = true := by
  unfold ex at c
  simp only [Bool.and_eq_true] at c
  exact c.2.2.2.2.2.1
theorem ex_eqw {K : Frag} (c : ex K = true) : b_eqw K = true := by
  unfold ex at c
  simp only [Bool.and_eq_true] at c
  exact c.2.2.2.2.2.2.1
theorem ex_eqd {K : Frag} (c : ex K = true) : b_eqd K = true := by
  unfold ex at c
  simp only [Bool.and_eq_true] at c
  exact c.2.2.2.2.2.2.2.1
theorem ex_kit {K : Frag} (c : ex K = true) : b_kit K = true := by
  unfold ex at c
  simp only [Bool.and_eq_true] at c
  exact c.2.2.2.2.2.2.2.2.1
theorem ex_nof {K : Frag} (c : ex K = true) : b_nof K = true := by
  unfold ex at c
  simp only [Bool.and_eq_true] at c
  exact c.2.2.2.2.2.2.2.2.2.1
theorem ex_cmp {K : Frag} (c : ex K = true) : b_cmp K = true := by
  unfold ex at c
  simp only [Bool.and_eq_true] at c
  exact c.2.2.2.2.2.2.2.2.2.2.1
theorem ex_cst {K : Frag} (c : ex K = true) : b_cst K = true := by
  unfold ex at c
  simp only [Bool.and_eq_true] at c
  exact c.2.2.2.2.2.2.2.2.2.2.2.1
theorem ex_kwd {K : Frag} (c : ex K = true) : b_kwd K = true := by
  unfold ex at c
  simp only [Bool.and_eq_true] at c
  exact c.2.2.2.2.2.2.2.2.2.2.2.2
abbrev R : PySem.W.OpenRow := PySem.W.OpenLaw.row PySem.Challenge.rw_tapedonce_k65_whole_orders_of_doings
def names : List Str := ((["_wall", "TapeError", "BadWorld", "BadKinds", "BadDoing", "NoKey", "TooMany", "MOST_LETTERS_forms", "LETTERS", "is_whole", "is_size", "is_most", "are_items", "is_name", "are_rising", "are_names"] : List Str) ++ (["are_pairs", "are_kinds", "are_alike", "is_stand", "are_values", "_is_value", "MOST_CELLS", "MOST_ROWS", "World", "_are_cells", "_are_rows", "_are_loose", "all_values", "all_items", "MOST_KEYS", "is_key"] : List Str) ++ (["check_few", "all_keys", "_choices", "MOST_WORDS", "MOST_LETTERS_doings", "Doing", "check_kinds", "parted", "beyond", "_is_within", "_first_key", "_behind", "_is_table", "_is_row", "_is_told", "_is_end"] : List Str) ++ (["_law_box", "_law_take", "_law_of", "_law_products", "_law_fillings", "_law_land", "_law_letters", "_law_kinds", "_law_stands", "_law_all_values", "_law_keys", "_law_told_drawn", "_law_table", "_law_other_table", "_law_is_within", "_law_first"] : List Str) ++ (["_law_compared_right", "_law_right"] : List Str))
theorem run (w : World) : HandSHeadRun.RunEq R (PySem.W.view R.prog [73]) (hookZ 5 ex fnl fnd) (obTZ 5 ex fnl fnd) 9400 names w := by
  intro os
  kernel_rfl
theorem facts {P : Program} {w : World} {K : Frag} {h : Heap} {mg : Str → Option Value} {f : Addr} (X : K.In h) (G : h.Ns mainGlobals mg) (hfa : mg ("law" : Str) = some (.ref f)) (c : SaysY ex fnl fnd K) :
    ∃ fd : FuncData, (∀ (s : Shared) (v : Value), BindsTo s fd ⟨[v], []⟩ [("_law_script", v)]) ∧ ∀ base : Heap, K.In base → base.Ns mainGlobals mg → FnG P w K mg base CX0 12 f fd ["_law_script"] (spLaw K) := by
  have ce := c.facts
  have h_cls := ex_cls ce
  unfold b_cls at h_cls
  simp only [Bool.and_eq_true] at h_cls
  have h_noa := ex_noa ce
  unfold b_noa at h_noa
  simp only [Bool.and_eq_true] at h_noa
  have h_prp := ex_prp ce
  unfold b_prp at h_prp
  simp only [Bool.and_eq_true] at h_prp
  have h_isi := ex_isi ce
  unfold b_isi at h_isi
  simp only [Bool.and_eq_true] at h_isi
  have h_eqw := ex_eqw ce
  unfold b_eqw at h_eqw
  simp only [Bool.and_eq_true] at h_eqw
  have h_eqd := ex_eqd ce
  unfold b_eqd at h_eqd
  simp only [Bool.and_eq_true] at h_eqd
  have h_kit := ex_kit ce
  unfold b_kit at h_kit
  simp only [Bool.and_eq_true] at h_kit
  have h_nof := ex_nof ce
  unfold b_nof at h_nof
  simp only [Bool.and_eq_true] at h_nof
  have h_cmp := ex_cmp ce
  unfold b_cmp at h_cmp
  simp only [Bool.and_eq_true] at h_cmp
  have h_cst := ex_cst ce
  unfold b_cst at h_cst
  simp only [Bool.and_eq_true] at h_cst
  have h_kwd := ex_kwd ce
  unfold b_kwd at h_kwd

  obtain ⟨d0, F0⟩ := c.def_ 0 (d := (⟨glo "is_whole", "is_whole", "is_whole", s_is_whole⟩ : DX)) rfl
  obtain ⟨d1, F1⟩ := c.def_ 1 (d := (⟨glo "is_size", "is_size", "is_size", s_is_size⟩ : DX)) rfl
  obtain ⟨d2, F2⟩ := c.def_ 2 (d := (⟨glo "is_most", "is_most", "is_most", s_is_most⟩ : DX)) rfl
  obtain ⟨d3, F3⟩ := c.def_ 3 (d := (⟨glo "are_items", "are_items", "are_items", s_are_items⟩ : DX)) rfl
  obtain ⟨d4, F4⟩ := c.def_ 4 (d := (⟨glo "is_name", "is_name", "is_name", s_is_name⟩ : DX)) rfl
  obtain ⟨d5, F5⟩ := c.def_ 5 (d := (⟨glo "are_rising", "are_rising", "are_rising", s_are_rising⟩ : DX)) rfl
  obtain ⟨d6, F6⟩ := c.def_ 6 (d := (⟨glo "are_names", "are_names", "are_names", s_are_names⟩ : DX)) rfl
  obtain ⟨d7, F7⟩ := c.def_ 7 (d := (⟨glo "are_pairs", "are_pairs", "are_pairs", s_are_pairs⟩ : DX)) rfl
  obtain ⟨d8, F8⟩ := c.def_ 8 (d := (⟨glo "are_kinds", "are_kinds", "are_kinds", s_are_kinds⟩ : DX)) rfl
  obtain ⟨d9, F9⟩ := c.def_ 9 (d := (⟨glo "are_alike", "are_alike", "are_alike", s_are_alike⟩ : DX)) rfl
  obtain ⟨d10, F10⟩ := c.def_ 10 (d := (⟨glo "is_stand", "is_stand", "is_stand", s_is_stand⟩ : DX)) rfl
  obtain ⟨d11, F11⟩ := c.def_ 11 (d := (⟨prp "World" "size", "size", "World.size", s_World_size⟩ : DX)) rfl
  obtain ⟨d12, F12⟩ := c.def_ 12 (d := (⟨prp "World" "most", "most", "World.most", s_World_most⟩ : DX)) rfl
  obtain ⟨d13, F13⟩ := c.def_ 13 (d := (⟨prp "World" "cells", "cells", "World.cells", s_World_cells⟩ : DX)) rfl
  obtain ⟨d14, F14⟩ := c.def_ 14 (d := (⟨prp "World" "rows", "rows", "World.rows", s_World_rows⟩ : DX)) rfl
  obtain ⟨d15, F15⟩ := c.def_ 15 (d := (⟨prp "World" "loose", "loose", "World.loose", s_World_loose⟩ : DX)) rfl
  obtain ⟨d16, F16⟩ := c.def_ 16 (d := (⟨met "World" "__eq__", "__eq__", "World.__eq__", s_World_eq⟩ : DX)) rfl
  obtain ⟨d17, F17⟩ := c.def_ 17 (d := (⟨glo "_are_cells", "_are_cells", "_are_cells", s_are_cells⟩ : DX)) rfl
  obtain ⟨d18, F18⟩ := c.def_ 18 (d := (⟨glo "_are_rows", "_are_rows", "_are_rows", s_are_rows⟩ : DX)) rfl
  obtain ⟨d19, F19⟩ := c.def_ 19 (d := (⟨glo "_are_loose", "_are_loose", "_are_loose", s_are_loose⟩ : DX)) rfl
  obtain ⟨d20, F20⟩ := c.def_ 20 (d := (⟨glo "all_values", "all_values", "all_values", s_all_values⟩ : DX)) rfl
  obtain ⟨d21, F21⟩ := c.def_ 21 (d := (⟨glo "all_items", "all_items", "all_items", s_all_items⟩ : DX)) rfl
  obtain ⟨d22, F22⟩ := c.def_ 22 (d := (⟨glo "check_few", "check_few", "check_few", s_check_few⟩ : DX)) rfl
  obtain ⟨d23, F23⟩ := c.def_ 23 (d := (⟨glo "all_keys", "all_keys", "all_keys", s_all_keys⟩ : DX)) rfl
  obtain ⟨d24, F24⟩ := c.def_ 24 (d := (⟨glo "_choices", "_choices", "_choices", s_choices⟩ : DX)) rfl
  obtain ⟨d25, F25⟩ := c.def_ 25 (d := (⟨met "Doing" "__init__", "__init__", "Doing.__init__", s_Doing_init⟩ : DX)) rfl
  obtain ⟨d26, F26⟩ := c.def_ 26 (d := (⟨prp "Doing" "world", "world", "Doing.world", s_Doing_world⟩ : DX)) rfl
  obtain ⟨d27, F27⟩ := c.def_ 27 (d := (⟨prp "Doing" "kinds", "kinds", "Doing.kinds", s_Doing_kinds⟩ : DX)) rfl
  obtain ⟨d28, F28⟩ := c.def_ 28 (d := (⟨prp "Doing" "table", "table", "Doing.table", s_Doing_table⟩ : DX)) rfl
  obtain ⟨d29, F29⟩ := c.def_ 29 (d := (⟨met "Doing" "__eq__", "__eq__", "Doing.__eq__", s_Doing_eq⟩ : DX)) rfl
  obtain ⟨d30, F30⟩ := c.def_ 30 (d := (⟨met "Doing" "__le__", "__le__", "Doing.__le__", s_Doing_le⟩ : DX)) rfl
  obtain ⟨d31, F31⟩ := c.def_ 31 (d := (⟨met "Doing" "__lt__", "__lt__", "Doing.__lt__", s_Doing_lt⟩ : DX)) rfl
  obtain ⟨d32, F32⟩ := c.def_ 32 (d := (⟨met "Doing" "__ge__", "__ge__", "Doing.__ge__", s_Doing_ge⟩ : DX)) rfl
  obtain ⟨d33, F33⟩ := c.def_ 33 (d := (⟨met "Doing" "__gt__", "__gt__", "Doing.__gt__", s_Doing_gt⟩ : DX)) rfl
  obtain ⟨d34, F34⟩ := c.def_ 34 (d := (⟨glo "check_kinds", "check_kinds", "check_kinds", s_check_kinds⟩ : DX)) rfl
  obtain ⟨d35, F35⟩ := c.def_ 35 (d := (⟨glo "parted", "parted", "parted", s_parted⟩ : DX)) rfl
  obtain ⟨d36, F36⟩ := c.def_ 36 (d := (⟨glo "beyond", "beyond", "beyond", s_beyond⟩ : DX)) rfl
  obtain ⟨d37, F37⟩ := c.def_ 37 (d := (⟨glo "_is_within", "_is_within", "_is_within", s_is_within⟩ : DX)) rfl
  obtain ⟨d38, F38⟩ := c.def_ 38 (d := (⟨glo "_first_key", "_first_key", "_first_key", s_first_key⟩ : DX)) rfl
  obtain ⟨d39, F39⟩ := c.def_ 39 (d := (⟨glo "_is_table", "_is_table", "_is_table", s_is_table⟩ : DX)) rfl
  obtain ⟨d40, F40⟩ := c.def_ 40 (d := (⟨glo "_is_row", "_is_row", "_is_row", s_is_row⟩ : DX)) rfl
  obtain ⟨d41, F41⟩ := c.def_ 41 (d := (⟨glo "_is_told", "_is_told", "_is_told", s_is_told⟩ : DX)) rfl
  obtain ⟨d42, F42⟩ := c.def_ 42 (d := (⟨glo "_is_end", "_is_end", "_is_end", s_is_end⟩ : DX)) rfl
  obtain ⟨d43, F43⟩ := c.def_ 43 (d := (⟨glo "_law_box", "_law_box", "_law_box", s_box⟩ : DX)) rfl
  obtain ⟨d44, F44⟩ := c.def_ 44 (d := (⟨glo "_law_take", "_law_take", "_law_take", s_take⟩ : DX)) rfl
  obtain ⟨d45, F45⟩ := c.def_ 45 (d := (⟨glo "_law_of", "_law_of", "_law_of", s_of⟩ : DX)) rfl
  obtain ⟨d46, F46⟩ := c.def_ 46 (d := (⟨glo "_law_products", "_law_products", "_law_products", s_products⟩ : DX)) rfl
  obtain ⟨d47, F47⟩ := c.def_ 47 (d := (⟨glo "_law_fillings", "_law_fillings", "_law_fillings", s_fillings⟩ : DX)) rfl
  obtain ⟨d48, F48⟩ := c.def_ 48 (d := (⟨glo "_law_land", "_law_land", "_law_land", s_land⟩ : DX)) rfl
  obtain ⟨d49, F49⟩ := c.def_ 49 (d := (⟨glo "_law_letters", "_law_letters", "_law_letters", s_letters⟩ : DX)) rfl
  obtain ⟨d50, F50⟩ := c.def_ 50 (d := (⟨glo "_law_kinds", "_law_kinds", "_law_kinds", s_kinds⟩ : DX)) rfl
  obtain ⟨d51, F51⟩ := c.def_ 51 (d := (⟨glo "_law_stands", "_law_stands", "_law_stands", s_stands⟩ : DX)) rfl
  obtain ⟨d52, F52⟩ := c.def_ 52 (d := (⟨glo "_law_all_values", "_law_all_values", "_law_all_values", s_law_all_values⟩ : DX)) rfl
  obtain ⟨d53, F53⟩ := c.def_ 53 (d := (⟨glo "_law_keys", "_law_keys", "_law_keys", s_keys⟩ : DX)) rfl
  obtain ⟨d54, F54⟩ := c.def_ 54 (d := (⟨glo "_law_told_drawn", "_law_told_drawn", "_law_told_drawn", s_told_drawn⟩ : DX)) rfl
  obtain ⟨d55, F55⟩ := c.def_ 55 (d := (⟨glo "_law_table", "_law_table", "_law_table", s_table⟩ : DX)) rfl
  obtain ⟨d56, F56⟩ := c.def_ 56 (d := (⟨glo "_law_other_table", "_law_other_table", "_law_other_table", s_other_table⟩ : DX)) rfl
  obtain ⟨d57, F57⟩ := c.def_ 57 (d := (⟨glo "_law_is_within", "_law_is_within", "_law_is_within", s_law_is_within⟩ : DX)) rfl
  obtain ⟨d58, F58⟩ := c.def_ 58 (d := (⟨glo "_law_first", "_law_first", "_law_first", s_first⟩ : DX)) rfl
  obtain ⟨d59, F59⟩ := c.def_ 59 (d := (⟨glo "_law_compared_right", "_law_compared_right", "_law_compared_right", s_compared_right⟩ : DX)) rfl
  obtain ⟨d60, F60⟩ := c.def_ 60 (d := (⟨glo "_law_right", "_law_right", "_law_right", s_right⟩ : DX)) rfl
  obtain ⟨d61, F61⟩ := c.def_ 61 (d := (⟨glo "law", "law", "law", s_law⟩ : DX)) rfl
  obtain ⟨dW, vW, FW⟩ := c.def2 0 (d := (⟨met "World" "__init__", "__init__", "World.__init__", s_World_init⟩ : DX)) rfl
  obtain ⟨ka, FW2, nka⟩ := dw_fun FW h_kwd
  have e := hfa.symm.trans (ex_glob X G ce (x := "law") (by decide +kernel))
  cases e
  have T : Txt K mg { C_World := He.ga K "World", C_Doing := He.ga K "Doing", f_is_whole := (glo "is_whole" K), f_is_size := (glo "is_size" K), f_is_most := (glo "is_most" K), f_are_items := (glo "are_items" K), f_is_name := (glo "is_name" K), f_are_rising := (glo "are_rising" K), f_are_names := (glo "are_names" K), f_are_pairs := (glo "are_pairs" K), f_are_kinds := (glo "are_kinds" K), f_are_alike := (glo "are_alike" K), f_is_stand := (glo "is_stand" K), f_World_size := (prp "World" "size" K), f_World_most := (prp "World" "most" K), f_World_cells := (prp "World" "cells" K), f_World_rows := (prp "World" "rows" K), f_World_loose := (prp "World" "loose" K), f_World_eq := (met "World" "__eq__" K), f_are_cells := (glo "_are_cells" K), f_are_rows := (glo "_are_rows" K), f_are_loose := (glo "_are_loose" K), f_all_values := (glo "all_values" K), f_all_items := (glo "all_items" K), f_check_few := (glo "check_few" K), f_all_keys := (glo "all_keys" K), f_choices := (glo "_choices" K), f_Doing_init := (met "Doing" "__init__" K), f_Doing_world := (prp "Doing" "world" K), f_Doing_kinds := (prp "Doing" "kinds" K), f_Doing_table := (prp "Doing" "table" K), f_Doing_eq := (met "Doing" "__eq__" K), f_Doing_le := (met "Doing" "__le__" K), f_Doing_lt := (met "Doing" "__lt__" K), f_Doing_ge := (met "Doing" "__ge__" K), f_Doing_gt := (met "Doing" "__gt__" K), f_check_kinds := (glo "check_kinds" K), f_parted := (glo "parted" K), f_beyond := (glo "beyond" K), f_is_within := (glo "_is_within" K), f_first_key := (glo "_first_key" K), f_is_table := (glo "_is_table" K), f_is_row := (glo "_is_row" K), f_is_told := (glo "_is_told" K), f_is_end := (glo "_is_end" K), f_box := (glo "_law_box" K), f_take := (glo "_law_take" K), f_of := (glo "_law_of" K), f_products := (glo "_law_products" K), f_fillings := (glo "_law_fillings" K), f_land := (glo "_law_land" K), f_letters := (glo "_law_letters" K), f_kinds := (glo "_law_kinds" K), f_stands := (glo "_law_stands" K), f_law_all_values := (glo "_law_all_values" K), f_keys := (glo "_law_keys" K), f_told_drawn := (glo "_law_told_drawn" K), f_table := (glo "_law_table" K), f_other_table := (glo "_law_other_table" K), f_law_is_within := (glo "_law_is_within" K), f_first := (glo "_law_first" K), f_compared_right := (glo "_law_compared_right" K), f_right := (glo "_law_right" K), f_law := (glo "law" K), d_is_whole := d0, d_is_size := d1, d_is_most := d2, d_are_items := d3, d_is_name := d4, d_are_rising := d5, d_are_names := d6, d_are_pairs := d7, d_are_kinds := d8, d_are_alike := d9, d_is_stand := d10, d_World_size := d11, d_World_most := d12, d_World_cells := d13, d_World_rows := d14, d_World_loose := d15, d_World_eq := d16, d_are_cells := d17, d_are_rows := d18, d_are_loose := d19, d_all_values := d20, d_all_items := d21, d_check_few := d22, d_all_keys := d23, d_choices := d24, d_Doing_init := d25, d_Doing_world := d26, d_Doing_kinds := d27, d_Doing_table := d28, d_Doing_eq := d29, d_Doing_le := d30, d_Doing_lt := d31, d_Doing_ge := d32, d_Doing_gt := d33, d_check_kinds := d34, d_parted := d35, d_beyond := d36, d_is_within := d37, d_first_key := d38, d_is_table := d39, d_is_row := d40, d_is_told := d41, d_is_end := d42, d_box := d43, d_take := d44, d_of := d45, d_products := d46, d_fillings := d47, d_land := d48, d_letters := d49, d_kinds := d50, d_stands := d51, d_law_all_values := d52, d_keys := d53, d_told_drawn := d54, d_table := d55, d_other_table := d56, d_law_is_within := d57, d_first := d58, d_compared_right := d59, d_right := d60, d_law := d61, f_World_init := met "World" "__init__" K, d_World_init := dW, p_size := met "World" "size" K, p_most := met "World" "most" K, p_cells := met "World" "cells" K, p_rows := met "World" "rows" K, p_loose := met "World" "loose" K, p_world := met "Doing" "world" K, p_kinds := met "Doing" "kinds" K, p_table := met "Doing" "table" K : Ad } := {
    F_is_whole := F0
    b_is_whole := F0.binds (ps := ["value", "low", "below"]) fun _ _ _ _ _ _ us hl => match us, hl with | [_, _, _], _ => rfl
    m_is_whole := (ex_glob X G ce (x := "is_whole") (by decide +kernel))
    F_is_size := F1
    b_is_size := F1.binds (ps := ["value"]) fun _ _ _ _ _ _ us hl => match us, hl with | [_], _ => rfl
    m_is_size := (ex_glob X G ce (x := "is_size") (by decide +kernel))
    F_is_most := F2
    b_is_most := F2.binds (ps := ["value"]) fun _ _ _ _ _ _ us hl => match us, hl with | [_], _ => rfl
    m_is_most := (ex_glob X G ce (x := "is_most") (by decide +kernel))
    F_are_items := F3
    b_are_items := F3.binds (ps := ["value", "size", "most"]) fun _ _ _ _ _ _ us hl => match us, hl with | [_, _, _], _ => rfl
    m_are_items := (ex_glob X G ce (x := "are_items") (by decide +kernel))
    F_is_name := F4
    b_is_name := F4.binds (ps := ["value"]) fun _ _ _ _ _ _ us hl => match us, hl with | [_], _ => rfl
    m_is_name := (ex_glob X G ce (x := "is_name") (by decide +kernel))
    F_are_rising := F5
    b_are_rising := F5.binds (ps := ["names"]) fun _ _ _ _ _ _ us hl => match us, hl with | [_], _ => rfl
    m_are_rising := (ex_glob X G ce (x := "are_rising") (by decide +kernel))
    F_are_names := F6
    b_are_names := F6.binds (ps := ["value", "most"]) fun _ _ _ _ _ _ us hl => match us, hl with | [_, _], _ => rfl
    m_are_names := (ex_glob X G ce (x := "are_names") (by decide +kernel))
    F_are_pairs := F7
    b_are_pairs := F7.binds (ps := ["value", "most"]) fun _ _ _ _ _ _ us hl => match us, hl with | [_, _], _ => rfl
    m_are_pairs := (ex_glob X G ce (x := "are_pairs") (by decide +kernel))
    F_are_kinds := F8
    b_are_kinds := F8.binds (ps := ["value", "most", "with_rows"]) fun _ _ _ _ _ _ us hl => match us, hl with | [_, _, _], _ => rfl
    m_are_kinds := (ex_glob X G ce (x := "are_kinds") (by decide +kernel))
    F_are_alike := F9
    b_are_alike := F9.binds (ps := ["known", "value"]) fun _ _ _ _ _ _ us hl => match us, hl with | [_, _], _ => rfl
    m_are_alike := (ex_glob X G ce (x := "are_alike") (by decide +kernel))
    F_is_stand := F10
    b_is_stand := F10.binds (ps := ["world", "value"]) fun _ _ _ _ _ _ us hl => match us, hl with | [_, _], _ => rfl
    m_is_stand := (ex_glob X G ce (x := "is_stand") (by decide +kernel))
    F_World_size := F11
    b_World_size := F11.binds (ps := ["self"]) fun _ _ _ _ _ _ us hl => match us, hl with | [_], _ => rfl
    F_World_most := F12
    b_World_most := F12.binds (ps := ["self"]) fun _ _ _ _ _ _ us hl => match us, hl with | [_], _ => rfl
    F_World_cells := F13
    b_World_cells := F13.binds (ps := ["self"]) fun _ _ _ _ _ _ us hl => match us, hl with | [_], _ => rfl
    F_World_rows := F14
    b_World_rows := F14.binds (ps := ["self"]) fun _ _ _ _ _ _ us hl => match us, hl with | [_], _ => rfl
    F_World_loose := F15
    b_World_loose := F15.binds (ps := ["self"]) fun _ _ _ _ _ _ us hl => match us, hl with | [_], _ => rfl
    F_World_eq := F16
    b_World_eq := F16.binds (ps := ["self", "other"]) fun _ _ _ _ _ _ us hl => match us, hl with | [_, _], _ => rfl
    F_are_cells := F17
    b_are_cells := F17.binds (ps := ["value", "size"]) fun _ _ _ _ _ _ us hl => match us, hl with | [_, _], _ => rfl
    m_are_cells := (ex_glob X G ce (x := "_are_cells") (by decide +kernel))
    F_are_rows := F18
    b_are_rows := F18.binds (ps := ["value", "size", "most", "cells"]) fun _ _ _ _ _ _ us hl => match us, hl with | [_, _, _, _], _ => rfl
    m_are_rows := (ex_glob X G ce (x := "_are_rows") (by decide +kernel))
    F_are_loose := F19
    b_are_loose := F19.binds (ps := ["value", "cells", "rows"]) fun _ _ _ _ _ _ us hl => match us, hl with | [_, _, _], _ => rfl
    m_are_loose := (ex_glob X G ce (x := "_are_loose") (by decide +kernel))
    F_all_values := F20
    b_all_values := F20.binds (ps := ["world", "kinds"]) fun _ _ _ _ _ _ us hl => match us, hl with | [_, _], _ => rfl
    m_all_values := (ex_glob X G ce (x := "all_values") (by decide +kernel))
    F_all_items := F21
    b_all_items := F21.binds (ps := ["world"]) fun _ _ _ _ _ _ us hl => match us, hl with | [_], _ => rfl
    m_all_items := (ex_glob X G ce (x := "all_items") (by decide +kernel))
    F_check_few := F22
    b_check_few := F22.binds (ps := ["world", "kinds"]) fun _ _ _ _ _ _ us hl => match us, hl with | [_, _], _ => rfl
    m_check_few := (ex_glob X G ce (x := "check_few") (by decide +kernel))
    F_all_keys := F23
    b_all_keys := F23.binds (ps := ["world", "kinds"]) fun _ _ _ _ _ _ us hl => match us, hl with | [_, _], _ => rfl
    m_all_keys := (ex_glob X G ce (x := "all_keys") (by decide +kernel))
    F_choices := F24
    b_choices := F24.binds (ps := ["world"]) fun _ _ _ _ _ _ us hl => match us, hl with | [_], _ => rfl
    m_choices := (ex_glob X G ce (x := "_choices") (by decide +kernel))
    F_Doing_init := F25
    b_Doing_init := F25.binds (ps := ["self", "world", "kinds", "table"]) fun _ _ _ _ _ _ us hl => match us, hl with | [_, _, _, _], _ => rfl
    F_Doing_world := F26
    b_Doing_world := F26.binds (ps := ["self"]) fun _ _ _ _ _ _ us hl => match us, hl with | [_], _ => rfl
    F_Doing_kinds := F27
    b_Doing_kinds := F27.binds (ps := ["self"]) fun _ _ _ _ _ _ us hl => match us, hl with | [_], _ => rfl
    F_Doing_table := F28
    b_Doing_table := F28.binds (ps := ["self"]) fun _ _ _ _ _ _ us hl => match us, hl with | [_], _ => rfl
    F_Doing_eq := F29
    b_Doing_eq := F29.binds (ps := ["self", "other"]) fun _ _ _ _ _ _ us hl => match us, hl with | [_, _], _ => rfl
    F_Doing_le := F30
    b_Doing_le := F30.binds (ps := ["self", "other"]) fun _ _ _ _ _ _ us hl => match us, hl with | [_, _], _ => rfl
    F_Doing_lt := F31
    b_Doing_lt := F31.binds (ps := ["self", "other"]) fun _ _ _ _ _ _ us hl => match us, hl with | [_, _], _ => rfl
    F_Doing_ge := F32
    b_Doing_ge := F32.binds (ps := ["self", "other"]) fun _ _ _ _ _ _ us hl => match us, hl with | [_, _], _ => rfl
    F_Doing_gt := F33
    b_Doing_gt := F33.binds (ps := ["self", "other"]) fun _ _ _ _ _ _ us hl => match us, hl with | [_, _], _ => rfl
    F_check_kinds := F34
    b_check_kinds := F34.binds (ps := ["world", "kinds", "most"]) fun _ _ _ _ _ _ us hl => match us, hl with | [_, _, _], _ => rfl
    m_check_kinds := (ex_glob X G ce (x := "check_kinds") (by decide +kernel))
    F_parted := F35
    b_parted := F35.binds (ps := ["one", "other"]) fun _ _ _ _ _ _ us hl => match us, hl with | [_, _], _ => rfl
    m_parted := (ex_glob X G ce (x := "parted") (by decide +kernel))
    F_beyond := F36
    b_beyond := F36.binds (ps := ["one", "other"]) fun _ _ _ _ _ _ us hl => match us, hl with | [_, _], _ => rfl
    m_beyond := (ex_glob X G ce (x := "beyond") (by decide +kernel))
    F_is_within := F37
    b_is_within := F37.binds (ps := ["one", "other"]) fun _ _ _ _ _ _ us hl => match us, hl with | [_, _], _ => rfl
    m_is_within := (ex_glob X G ce (x := "_is_within") (by decide +kernel))
    F_first_key := F38
    b_first_key := F38.binds (ps := ["found"]) fun _ _ _ _ _ _ us hl => match us, hl with | [_], _ => rfl
    m_first_key := (ex_glob X G ce (x := "_first_key") (by decide +kernel))
    F_is_table := F39
    b_is_table := F39.binds (ps := ["world", "kinds", "value"]) fun _ _ _ _ _ _ us hl => match us, hl with | [_, _, _], _ => rfl
    m_is_table := (ex_glob X G ce (x := "_is_table") (by decide +kernel))
    F_is_row := F40
    b_is_row := F40.binds (ps := ["world", "key", "value"]) fun _ _ _ _ _ _ us hl => match us, hl with | [_, _, _], _ => rfl
    m_is_row := (ex_glob X G ce (x := "_is_row") (by decide +kernel))
    F_is_told := F41
    b_is_told := F41.binds (ps := ["world", "value"]) fun _ _ _ _ _ _ us hl => match us, hl with | [_, _], _ => rfl
    m_is_told := (ex_glob X G ce (x := "_is_told") (by decide +kernel))
    F_is_end := F42
    b_is_end := F42.binds (ps := ["world", "value"]) fun _ _ _ _ _ _ us hl => match us, hl with | [_, _], _ => rfl
    m_is_end := (ex_glob X G ce (x := "_is_end") (by decide +kernel))
    F_box := F43
    b_box := F43.binds (ps := ["_law_script", "_law_k"]) fun _ _ _ _ _ _ us hl => match us, hl with | [_, _], _ => rfl
    m_box := (ex_glob X G ce (x := "_law_box") (by decide +kernel))
    F_take := F44
    b_take := F44.binds (ps := ["_law_box_here", "_law_many"]) fun _ _ _ _ _ _ us hl => match us, hl with | [_, _], _ => rfl
    m_take := (ex_glob X G ce (x := "_law_take") (by decide +kernel))
    F_of := F45
    b_of := F45.binds (ps := ["_law_box_here", "_law_some"]) fun _ _ _ _ _ _ us hl => match us, hl with | [_, _], _ => rfl
    m_of := (ex_glob X G ce (x := "_law_of") (by decide +kernel))
    F_products := F46
    b_products := F46.binds (ps := ["_law_lots"]) fun _ _ _ _ _ _ us hl => match us, hl with | [_], _ => rfl
    m_products := (ex_glob X G ce (x := "_law_products") (by decide +kernel))
    F_fillings := F47
    b_fillings := F47.binds (ps := ["_law_size", "_law_most"]) fun _ _ _ _ _ _ us hl => match us, hl with | [_, _], _ => rfl
    m_fillings := (ex_glob X G ce (x := "_law_fillings") (by decide +kernel))
    F_land := F48
    b_land := F48.binds (ps := ["_law_box_here"]) fun _ _ _ _ _ _ us hl => match us, hl with | [_], _ => rfl
    m_land := (ex_glob X G ce (x := "_law_land") (by decide +kernel))
    F_letters := F49
    b_letters := F49.binds (ps := ["_law_box_here", "_law_land_here", "_law_upto"]) fun _ _ _ _ _ _ us hl => match us, hl with | [_, _, _], _ => rfl
    m_letters := (ex_glob X G ce (x := "_law_letters") (by decide +kernel))
    F_kinds := F50
    b_kinds := F50.binds (ps := ["_law_box_here", "_law_land_here", "_law_upto"]) fun _ _ _ _ _ _ us hl => match us, hl with | [_, _, _], _ => rfl
    m_kinds := (ex_glob X G ce (x := "_law_kinds") (by decide +kernel))
    F_stands := F51
    b_stands := F51.binds (ps := ["_law_land_here"]) fun _ _ _ _ _ _ us hl => match us, hl with | [_], _ => rfl
    m_stands := (ex_glob X G ce (x := "_law_stands") (by decide +kernel))
    F_law_all_values := F52
    b_law_all_values := F52.binds (ps := ["_law_land_here", "_law_kinds_here"]) fun _ _ _ _ _ _ us hl => match us, hl with | [_, _], _ => rfl
    m_law_all_values := (ex_glob X G ce (x := "_law_all_values") (by decide +kernel))
    F_keys := F53
    b_keys := F53.binds (ps := ["_law_land_here", "_law_kinds_here"]) fun _ _ _ _ _ _ us hl => match us, hl with | [_, _], _ => rfl
    m_keys := (ex_glob X G ce (x := "_law_keys") (by decide +kernel))
    F_told_drawn := F54
    b_told_drawn := F54.binds (ps := ["_law_box_here", "_law_land_here", "_law_stands_here"]) fun _ _ _ _ _ _ us hl => match us, hl with | [_, _, _], _ => rfl
    m_told_drawn := (ex_glob X G ce (x := "_law_told_drawn") (by decide +kernel))
    F_table := F55
    b_table := F55.binds (ps := ["_law_box_here", "_law_land_here", "_law_kinds_here"]) fun _ _ _ _ _ _ us hl => match us, hl with | [_, _, _], _ => rfl
    m_table := (ex_glob X G ce (x := "_law_table") (by decide +kernel))
    F_other_table := F56
    b_other_table := F56.binds (ps := ["_law_box_here", "_law_land_here", "_law_kinds_here", "_law_table_here"]) fun _ _ _ _ _ _ us hl => match us, hl with | [_, _, _, _], _ => rfl
    m_other_table := (ex_glob X G ce (x := "_law_other_table") (by decide +kernel))
    F_law_is_within := F57
    b_law_is_within := F57.binds (ps := ["_law_table_here", "_law_other"]) fun _ _ _ _ _ _ us hl => match us, hl with | [_, _], _ => rfl
    m_law_is_within := (ex_glob X G ce (x := "_law_is_within") (by decide +kernel))
    F_first := F58
    b_first := F58.binds (ps := ["_law_table_here", "_law_other", "_law_is_beyond"]) fun _ _ _ _ _ _ us hl => match us, hl with | [_, _, _], _ => rfl
    m_first := (ex_glob X G ce (x := "_law_first") (by decide +kernel))
    F_compared_right := F59
    b_compared_right := F59.binds (ps := ["_law_table_here", "_law_other", "_law_one", "_law_two"]) fun _ _ _ _ _ _ us hl => match us, hl with | [_, _, _, _], _ => rfl
    m_compared_right := (ex_glob X G ce (x := "_law_compared_right") (by decide +kernel))
    F_right := F60
    b_right := F60.binds (ps := ["_law_box_here"]) fun _ _ _ _ _ _ us hl => match us, hl with | [_], _ => rfl
    m_right := (ex_glob X G ce (x := "_law_right") (by decide +kernel))
    F_law := F61
    b_law := F61.binds (ps := ["_law_script"]) fun _ _ _ _ _ _ us hl => match us, hl with | [_], _ => rfl
    m_law := (ex_glob X G ce (x := "law") (by decide +kernel))
    m_World := (ex_glob X G ce (x := "World") (by decide +kernel))
    m_Doing := (ex_glob X G ce (x := "Doing") (by decide +kernel))
    g_isinstance := ex_free X G ce (x := "isinstance") (by decide +kernel)
    g_int := ex_free X G ce (x := "int") (by decide +kernel)
    g_bool := ex_free X G ce (x := "bool") (by decide +kernel)
    g_str := ex_free X G ce (x := "str") (by decide +kernel)
    g_len := ex_free X G ce (x := "len") (by decide +kernel)
    g_abs := ex_free X G ce (x := "abs") (by decide +kernel)
    g_repr := ex_free X G ce (x := "repr") (by decide +kernel)
    g_all := ex_free X G ce (x := "all") (by decide +kernel)
    g_range := ex_free X G ce (x := "range") (by decide +kernel)
    g_tuple := ex_free X G ce (x := "tuple") (by decide +kernel)
    g_list := ex_free X G ce (x := "list") (by decide +kernel)
    g_zip := ex_free X G ce (x := "zip") (by decide +kernel)
    g_enumerate := ex_free X G ce (x := "enumerate") (by decide +kernel)
    g_max := ex_free X G ce (x := "max") (by decide +kernel)
    g_min := ex_free X G ce (x := "min") (by decide +kernel)
    cls_World := clsB_ok h_cls.1
    mk_World := mkB_ok h_cls.2.1
    cls_Doing := clsB_ok h_cls.2.2.1
    mk_Doing := mkB_ok h_cls.2.2.2
    n_size := noatB_ok h_noa.1
    n_most := noatB_ok h_noa.2.1
    n_cells := noatB_ok h_noa.2.2.1
    n_rows := noatB_ok h_noa.2.2.2.1
    n_loose := noatB_ok h_noa.2.2.2.2.1
    n_cell_numbers := noatB_ok h_noa.2.2.2.2.2.1
    n_row_numbers := noatB_ok h_noa.2.2.2.2.2.2.1
    n_world := noatB_ok h_noa.2.2.2.2.2.2.2.1
    n_kinds := noatB_ok h_noa.2.2.2.2.2.2.2.2.1
    n_table := noatB_ok h_noa.2.2.2.2.2.2.2.2.2.1
    n_by_key := noatB_ok h_noa.2.2.2.2.2.2.2.2.2.2
    P_size := propB_ok h_prp.1
    P_most := propB_ok h_prp.2.1
    P_cells := propB_ok h_prp.2.2.1
    P_rows := propB_ok h_prp.2.2.2.1
    P_loose := propB_ok h_prp.2.2.2.2.1
    P_world := propB_ok h_prp.2.2.2.2.2.1
    P_kinds := propB_ok h_prp.2.2.2.2.2.2.1
    P_table := propB_ok h_prp.2.2.2.2.2.2.2
    kcl := (isiB_ok h_isi.1).1
    kclD := (isiB_ok h_isi.2.1).1
    kgs := He.eqO_ok h_isi.2.2.1
    ktk := of_decide_eq_true h_isi.2.2.2
    k_DW := of_decide_eq_true h_kit.1
    k_tup := of_decide_eq_true h_kit.2.1
    k_non := of_decide_eq_true h_kit.2.2.1
    k_str := of_decide_eq_true h_kit.2.2.2.1
    k_int := of_decide_eq_true h_kit.2.2.2.2
    nfN := h_nof.1
    nfS := h_nof.2.1
    nfW := h_nof.2.2
    c_MOST_LETTERS_forms := He.int_ok X G h_cst.1
    c_LETTERS := He.str_ok X G h_cst.2.1
    c_MOST_CELLS := He.int_ok X G h_cst.2.2.1
    c_MOST_ROWS := He.int_ok X G h_cst.2.2.2.1
    c_MOST_KEYS := He.int_ok X G h_cst.2.2.2.2.1
    c_MOST_WORDS := He.int_ok X G h_cst.2.2.2.2.2.1
    c_MOST_LETTERS_doings := He.int_ok X G h_cst.2.2.2.2.2.2
    kob := (isiB_ok h_isi.1).2
    kobD := (isiB_ok h_isi.2.1).2
    eqc := ⟨He.eqO_ok h_eqw.1, h_eqw.2.1, He.eqO_ok h_eqw.2.2.1, of_decide_eq_true h_eqw.2.2.2.1, h_eqw.2.2.2.2.1, h_eqw.2.2.2.2.2.1, h_eqw.2.2.2.2.2.2⟩
    eqd := ⟨He.eqO_ok h_eqd.1, h_eqd.2.1, He.eqO_ok h_eqd.2.2.1, of_decide_eq_true h_eqd.2.2.2.1, h_eqd.2.2.2.2.1, h_eqd.2.2.2.2.2.1, h_eqd.2.2.2.2.2.2⟩
    cle := ⟨He.eqO_ok h_cmp.1, h_cmp.2.1, h_eqd.2.2.2.2.1⟩
    clt := ⟨He.eqO_ok h_cmp.2.2.1, h_cmp.2.2.2.1, h_eqd.2.2.2.2.1⟩
    cge := ⟨He.eqO_ok h_cmp.2.2.2.2.1, h_cmp.2.2.2.2.2.1, h_eqd.2.2.2.2.1⟩
    cgt := ⟨He.eqO_ok h_cmp.2.2.2.2.2.2.1, h_cmp.2.2.2.2.2.2.2, h_eqd.2.2.2.2.1⟩
    F_World_init := ⟨ka, FW2, nka⟩ }
  refine ⟨_, fun s v => ?_, fun base _ _ => ok_law T⟩
  obtain ⟨oc, od, kV, doc, pm, an, cdv, ct, osl, e2, lk, hcd⟩ := F61.ex
  rw [e2]
  exact .of_eq rfl
end K65
open PySem PySem.W PyProof.Rows
set_option maxRecDepth 100000 in
set_option maxHeartbeats 0 in
theorem PySem.Challenge.cw_tapedonce_k65_whole_orders_of_doings_holds : PySem.Challenge.rw_tapedonce_k65_whole_orders_of_doings.Holds := by
  w_on; o_law
  refine HandSHeadRun.head_any (r := OpenLaw.row PySem.Challenge.rw_tapedonce_k65_whole_orders_of_doings) (q := view (OpenLaw.row PySem.Challenge.rw_tapedonce_k65_whole_orders_of_doings).prog [73]) (H := HX.hookZ 5 K65.ex K65.fnl K65.fnd) (ob := HX.obTZ 5 K65.ex K65.fnl K65.fnd) (M := 9400) (loose := K65.names) (d := HandSHeadRun.topDef (OpenLaw.row PySem.Challenge.rw_tapedonce_k65_whole_orders_of_doings).prog 73) (kwd := []) HX.obTZ_eq
    (by kernel_rfl) (fun s => by kernel_rfl) K65.run (by kernel_rfl) (by kernel_rfl) (by kernel_rfl) (by rfl) (by first | assumption | decide +kernel) (by decide +kernel) ⟨rfl, rfl, rfl, rfl, rfl, by decide +kernel⟩ ?hw ?hc
  case hw => w_witness2
  case hc =>
    refine HX.walk_GX (l := PySem.Challenge.rw_tapedonce_k65_whole_orders_of_doings) (n := 63) (k := 12) (x := "_law_script") (CX := fun _ => L2.CX0) rfl (by decide) (by kernel_rfl) ⟨rfl, by decide, by decide⟩ ?F (fun _ _ _ _ _ z => z)
    intro w mg fa h Y G hmg0
    obtain ⟨K, KX, c⟩ := Y
    have hmg : mg ("law" : PySem.Str) = some (.ref fa) := by
      have e : (HandSHeadRun.topDef (OpenLaw.row PySem.Challenge.rw_tapedonce_k65_whole_orders_of_doings).prog 73).name = ("law" : PySem.Str) := by kernel_rfl
      rw [← e]
      exact hmg0
    obtain ⟨fd, hb, hF⟩ := K65.facts (P := (PySem.Challenge.rw_tapedonce_k65_whole_orders_of_doings).prog) (w := w) KX G hmg c
    exact ⟨K, fd, [], K65.spLaw K, KX, (fun _ h => nomatch h), (fun _ h => nomatch h), hb, fun H a ns hl hS _ => ⟨a, ns, rfl, hS, hl, fun _ => rfl⟩, fun base hK hN _ => hF base hK hN⟩


