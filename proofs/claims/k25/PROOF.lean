import PyProof.Rows.All
import Wide.All
import OpenK.AllK
import Wide.FinOn
import PyProof.EqAt
import PyProof.EqKinds
import PyProof.TupleCall
import PyProof.NeKinds
import PyProof.TwoTypesSub
import HandS.Base
import HandS.Call
import HandS.List
import KE.KOpsOwn
import PyProof.ReprRoads
import PyProof.AutoIntOps
import HandS.Words
import HandS.Ends
import HandS.Comp
import HandS.Lambda
import HandS.Exc
import HandS.ExcInit
import HandS.ExcOwn
import HandS.ExcField
import HandS.IsInst
import HandS.Property
import HandS.Dict
import HandS.Iter
import HandS.WordsExc
import HandS.WordsDict
import HandS.WordsList
import HandS.MakeKw
import PyProof.ReprLen
import HandS.ExcIs
import HandS.ExcValue
import KE.KExcIs
import HandS.MakeKwOnly
import HandS.Walk
import HandS.EndTab
import HandS.SetFor
import HandS.Head0
import HandS.Head1
import HandS.Head2
import HandS.HeadHook1
import HandS.HeadHook2
import KE.GoesEnum
import HandS.Zip
import HandS.Star
import HandS.DictComp
import HandS.TupMul
import HandS.TupAny
import HandS.Small
import HandS.Defaults
import HandS.More
import PyProof.InstNe
import KE.KRevSl
import PyProof.ReprReads
import PyProof.PureStr
import PyProof.P3Statements
import KE.KEqDict
import PyProof.TupleOfStr
import PyProof.ListStr
import HandS.Conv
import PySem.Challenge.RW_tapedonce_k25_setups_refused
set_option Elab.async false
set_option linter.all false
set_option maxRecDepth 100000
set_option maxHeartbeats 4400000
/-! operators between instances of an own class and ints, both ways -/
namespace HX
open PySem PySem.W PySem.Spec PySem.Calls PyProof.Rows
/-- the builtin declines the plain object at x -/
def Decl (B : Builtin) : Prop := ∀ (i : Int) (t : Tok) (x : Addr) (c : Value) (dd : Option Addr) (sl : Array (Option Value)),
  Meets (B ⟨[.int i t, .ref x], []⟩) (fun _ R s => s.heap.get? x = some { cls := c, dict := dd, data := .plain, slots := sl } ∧ R (.ok (.ret .notImplemented)) s)
theorem decl_add : Decl Builtin.«int.__add__» := fun i t x c dd sl => .of_wp fun prog w A R s h => by obtain ⟨hp, g, d, tk, os⟩ := s; obtain ⟨hl, h⟩ := h; wp_walk using AutoSeq1.wpAny_loadPart' hl, wpAny_load hl; exact ⟨_, rfl, h⟩
theorem decl_sub : Decl Builtin.«int.__sub__» := fun i t x c dd sl => .of_wp fun prog w A R s h => by obtain ⟨hp, g, d, tk, os⟩ := s; obtain ⟨hl, h⟩ := h; wp_walk using AutoSeq1.wpAny_loadPart' hl, wpAny_load hl; exact ⟨_, rfl, h⟩
theorem decl_mul : Decl Builtin.«int.__mul__» := fun i t x c dd sl => .of_wp fun prog w A R s h => by obtain ⟨hp, g, d, tk, os⟩ := s; obtain ⟨hl, h⟩ := h; wp_walk using AutoSeq1.wpAny_loadPart' hl, wpAny_load hl; exact ⟨_, rfl, h⟩
theorem decl_floordiv : Decl Builtin.«int.__floordiv__» := fun i t x c dd sl => .of_wp fun prog w A R s h => by obtain ⟨hp, g, d, tk, os⟩ := s; obtain ⟨hl, h⟩ := h; wp_walk using AutoSeq1.wpAny_loadPart' hl, wpAny_load hl; exact ⟨_, rfl, h⟩
theorem decl_eq : Decl Builtin.«int.__eq__» := fun i t x c dd sl => .of_wp fun prog w A R s h => by obtain ⟨hp, g, d, tk, os⟩ := s; obtain ⟨hl, h⟩ := h; wp_walk using AutoSeq1.wpAny_loadPart' hl, wpAny_load hl; exact ⟨_, rfl, h⟩
theorem decl_ne : Decl Builtin.«int.__ne__» := fun i t x c dd sl => .of_wp fun prog w A R s h => by obtain ⟨hp, g, d, tk, os⟩ := s; obtain ⟨hl, h⟩ := h; wp_walk using AutoSeq1.wpAny_loadPart' hl, wpAny_load hl; exact ⟨_, rfl, h⟩
theorem decl_lt : Decl Builtin.«int.__lt__» := fun i t x c dd sl => .of_wp fun prog w A R s h => by obtain ⟨hp, g, d, tk, os⟩ := s; obtain ⟨hl, h⟩ := h; wp_walk using AutoSeq1.wpAny_loadPart' hl, wpAny_load hl; exact ⟨_, rfl, h⟩
theorem decl_le : Decl Builtin.«int.__le__» := fun i t x c dd sl => .of_wp fun prog w A R s h => by obtain ⟨hp, g, d, tk, os⟩ := s; obtain ⟨hl, h⟩ := h; wp_walk using AutoSeq1.wpAny_loadPart' hl, wpAny_load hl; exact ⟨_, rfl, h⟩
theorem decl_gt : Decl Builtin.«int.__gt__» := fun i t x c dd sl => .of_wp fun prog w A R s h => by obtain ⟨hp, g, d, tk, os⟩ := s; obtain ⟨hl, h⟩ := h; wp_walk using AutoSeq1.wpAny_loadPart' hl, wpAny_load hl; exact ⟨_, rfl, h⟩
theorem decl_ge : Decl Builtin.«int.__ge__» := fun i t x c dd sl => .of_wp fun prog w A R s h => by obtain ⟨hp, g, d, tk, os⟩ := s; obtain ⟨hl, h⟩ := h; wp_walk using AutoSeq1.wpAny_loadPart' hl, wpAny_load hl; exact ⟨_, rfl, h⟩
end HX
set_option Elab.async false
set_option linter.all false
set_option maxRecDepth 100000
set_option maxHeartbeats 4400000
namespace HX
open PySem PySem.W PySem.Spec PySem.Calls PyProof.Rows
section
variable {prog : Program} {w : World} {A : Around} {E : Value → Shared → Prop} {s : Shared} {K : Frag} {x C L f g : Addr} {h₀ : Heap} {m : Str → Option Value} {ox : Obj} {od : Option Obj}
theorem looks_nip {M : Model} {h : Heap} {nm : String} (X : K.In h) (hs : findIn K (.ref C) (PySem.dunder nm) = some (some (.ref f))) (hr : findIn K (.ref C) (dunderR nm) = some (some (.ref g))) : Looks M h (numberSlotInPython (.ref C) nm) true := by
  intro A Q E s k q
  unfold numberSlotInPython
  refine wpAny_bind (looks_findIn X hs A _ E s k (wpAny_bind (wpAny_pure ?_)))
  refine wpAny_bind (looks_findIn X hr A _ E s k (wpAny_bind (wpAny_pure ?_)))
  simp only [Bool.or_true, if_true]
  exact wpAny_pure q
theorem binop1_KI {nm : String} {i : Int} {t : Tok} {idr : String} {Q : Option Value → Shared → Prop} (F : Fr h₀ L s.heap m) (X₀ : K.In h₀) (I : InstAt s.heap x ox C od) (hc : selfFirst K C = true)
    (hs : findIn K (.ref C) (PySem.dunder nm) = some (some (.ref f))) (hf : isFn K (.ref f) = true) (hr : findIn K (.ref C) (dunderR nm) = some (some (.ref g)))
    (hfi : fillsNumberSlot (.type "int") nm = pure true) (hni : subIn K (.type "int") (.ref C) = some false) (hri : typeLookup (.type "int") (dunderR nm) = pure (some (.builtin idr)))
    (h : wpAny (model prog w) A (call (.ref f) [.ref x, .int i t]) (W.CmpBack fun v s' => Q (some v) s') E s) : wpAny (model prog w) A (binaryOp1 nm (.ref x) (.int i t)) Q E s := by
  have X := X₀.keeps F.keep
  obtain ⟨cd, rest, hcd, hm⟩ := ksp_first hc
  have hpy : numberSlotInPython (.type "int") nm = pure false := rfl
  have hne : (Value.ref C == Value.type "int") = false := by simp
  unfold binaryOp1
  refine wpAny_bind (I.type.here (wpAny_bind (wpAny_typeOf (typeIs_int s i t) (wpAny_bind ((fills_K X hcd hm hs).here ?_))))); simp only [hne, Bool.false_eq_true, if_false]
  refine wpAny_bind (wpAny_of_eq hfi ?_); simp only [Bool.and_self, if_true]
  refine wpAny_bind ((looks_subIn X hni).here ?_)
  simp only [Bool.false_eq_true, if_false, pure_bind, Bool.not_false, Bool.and_self, if_true]
  refine wpAny_bind ((looks_nip X hs hr).here ?_)
  simp only [hpy, pure_bind, if_true, Bool.not_false]
  refine wpAny_bind (wpAny_of_eq hri ?_)
  unfold tryMethod
  refine wpAny_bind (wpAny_bind (special_fn X I hs (beq_iff_eq.mp hf) (wpAny_mono h (fun v s' hv => ?_) fun _ _ e => e)))
  cases v <;> first | exact hv.elim | exact wpAny_pure (wpAny_pure hv)
theorem binop_KI {op : Operator} {i : Int} {t : Tok} {idr : String} {Q : Value → Shared → Prop} (F : Fr h₀ L s.heap m) (X₀ : K.In h₀) (I : InstAt s.heap x ox C od) (hc : selfFirst K C = true)
    (hs : findIn K (.ref C) (PySem.dunder op.info.2) = some (some (.ref f))) (hf : isFn K (.ref f) = true) (hr : findIn K (.ref C) (dunderR op.info.2) = some (some (.ref g)))
    (hfi : fillsNumberSlot (.type "int") op.info.2 = pure true) (hni : subIn K (.type "int") (.ref C) = some false) (hri : typeLookup (.type "int") (dunderR op.info.2) = pure (some (.builtin idr)))
    (h : wpAny (model prog w) A (call (.ref f) [.ref x, .int i t]) (W.CmpBack Q) E s) : wpAny (model prog w) A (binaryOp op (.ref x) (.int i t)) Q E s := by
  unfold binaryOp; refine wpAny_holding (wpAny_bind ?_)
  refine binop1_KI F X₀ I hc hs hf hr hfi hni hri (wpAny_mono h (fun v s' hv => ?_) fun _ _ e => e)
  cases v <;> first | exact hv.elim | exact wpAny_pure hv
/-- int op instance: the reflected method -/
theorem binop1_IK {nm : String} {i : Int} {t : Tok} {id : String} {B : Builtin} {Q : Option Value → Shared → Prop} (F : Fr h₀ L s.heap m) (X₀ : K.In h₀) (I : InstAt s.heap x ox C od) (hp : ox.data = .plain) (hc : selfFirst K C = true)
    (hs : findIn K (.ref C) (PySem.dunder nm) = some (some (.ref g))) (hr : findIn K (.ref C) (dunderR nm) = some (some (.ref f))) (hf : isFn K (.ref f) = true)
    (hfi : fillsNumberSlot (.type "int") nm = pure true) (hni : subIn K (.ref C) (.type "int") = some false) (slot : Slot "int" (PySem.dunder nm) id) (entry : entryFor table id = some B) (args : ∀ a b, argsOk id ⟨[a, b], []⟩) (D : Decl B)
    (h : wpAny (model prog w) A (call (.ref f) [.ref x, .int i t]) (W.CmpBack fun v s' => Q (some v) s') E s) : wpAny (model prog w) A (binaryOp1 nm (.int i t) (.ref x)) Q E s := by
  have X := X₀.keeps F.keep
  obtain ⟨cd, rest, hcd, hm⟩ := ksp_first hc
  have hpy : numberSlotInPython (.type "int") nm = pure false := rfl
  have hne : (Value.type "int" == Value.ref C) = false := by simp
  obtain ⟨oc, odd, odt, osl⟩ := ox
  simp only at hp
  subst hp
  have hx := I.at_
  unfold binaryOp1
  refine wpAny_bind (wpAny_typeOf (typeIs_int s i t) (wpAny_bind (I.type.here (wpAny_bind (wpAny_of_eq hfi ?_))))); simp only [hne, Bool.false_eq_true, if_false]
  refine wpAny_bind ((fills_K X hcd hm hs).here ?_); simp only [Bool.and_self, if_true]
  refine wpAny_bind ((looks_subIn X hni).here ?_); simp only [hpy, Bool.false_eq_true, if_false, pure_bind, Bool.not_false, Bool.and_self, if_true]
  refine wpAny_bind (wpAny_tryMethod_declines (typeIs_int s i t) slot (call_meets slot (typeIs_int s i t) entry (args _ _) (D i t x _ _ _) ⟨hx, ?_⟩))
  refine ⟨rfl, ?_⟩
  unfold tryMethod
  refine wpAny_bind (wpAny_bind (special_fn X I hr (beq_iff_eq.mp hf) (wpAny_mono h (fun v s' hv => ?_) fun _ _ e => e)))
  cases v <;> first | exact hv.elim | exact wpAny_pure (wpAny_bind (wpAny_rule (wpAny_pure hv)))
theorem binop_IK {op : Operator} {i : Int} {t : Tok} {id : String} {B : Builtin} {Q : Value → Shared → Prop} (F : Fr h₀ L s.heap m) (X₀ : K.In h₀) (I : InstAt s.heap x ox C od) (hp : ox.data = .plain) (hc : selfFirst K C = true)
    (hs : findIn K (.ref C) (PySem.dunder op.info.2) = some (some (.ref g))) (hr : findIn K (.ref C) (dunderR op.info.2) = some (some (.ref f))) (hf : isFn K (.ref f) = true)
    (hfi : fillsNumberSlot (.type "int") op.info.2 = pure true) (hni : subIn K (.ref C) (.type "int") = some false) (slot : Slot "int" (PySem.dunder op.info.2) id) (entry : entryFor table id = some B) (args : ∀ a b, argsOk id ⟨[a, b], []⟩) (D : Decl B)
    (h : wpAny (model prog w) A (call (.ref f) [.ref x, .int i t]) (W.CmpBack Q) E s) : wpAny (model prog w) A (binaryOp op (.int i t) (.ref x)) Q E s := by
  unfold binaryOp; refine wpAny_holding (wpAny_bind ?_)
  refine binop1_IK F X₀ I hp hc hs hr hf hfi hni slot entry args D (wpAny_mono h (fun v s' hv => ?_) fun _ _ e => e)
  cases v <;> first | exact hv.elim | exact wpAny_pure hv
/-- int < instance: the reflected comparison -/
theorem cmp_IK {op : CmpOp} {i : Int} {t : Tok} {id : String} {B : Builtin} {Q : Value → Shared → Prop} (hu : A.units < cLine) (F : Fr h₀ L s.heap m) (X₀ : K.In h₀) (I : InstAt s.heap x ox C od) (hp : ox.data = .plain)
    (hr : findIn K (.ref C) (cmpInfo op).2.2 = some (some (.ref f))) (hf : isFn K (.ref f) = true) (hni : subIn K (.ref C) (.type "int") = some false)
    (slot : Slot "int" (cmpInfo op).2.1 id) (entry : entryFor table id = some B) (args : ∀ a b, argsOk id ⟨[a, b], []⟩) (D : Decl B)
    (h : wpAny (model prog w) A (call (.ref f) [.ref x, .int i t]) (W.CmpBack Q) E s) : wpAny (model prog w) A (richCompare op (.int i t) (.ref x)) Q E s := by
  have X := X₀.keeps F.keep
  have hne : (Value.type "int" != Value.ref C) = true := by simp
  obtain ⟨oc, odd, odt, osl⟩ := ox
  simp only at hp
  subst hp
  have hx := I.at_
  have one : wpAny (model prog w) A (tryCompare (.ref x) (cmpInfo op).2.2 (.int i t)) (fun r s' => ∃ v, r = some v ∧ Q v s') E s := by
    unfold tryCompare
    refine wpAny_bind (ifBound_K X I hr hf (wpAny_mono h (fun v s' hv => ?_) fun _ _ e => e)); cases v <;> first | exact hv.elim | exact wpAny_pure ⟨_, rfl, hv⟩
  unfold richCompare
  have ho : oneThing? op (.int i t) (.ref x) = none := by cases op <;> rfl
  simp only [ho]; refine wpAny_holding (wpAny_bind (wpAny_cRoomFor hu ?_))
  refine wpAny_bind (wpAny_typeOf (typeIs_int s i t) (wpAny_bind (I.type.here ?_)))
  rw [if_pos hne]
  refine wpAny_bind ((looks_subIn X hni).here ?_); simp only [Bool.false_eq_true, if_false, Bool.not_false, if_true]
  refine wpAny_bind (wpAny_tryCompare_declines (typeIs_int s i t) slot (call_meets slot (typeIs_int s i t) entry (args _ _) (D i t x _ _ _) ⟨hx, ?_⟩))
  refine ⟨rfl, wpAny_bind (wpAny_mono one (fun r s' z => ?_) fun _ _ e => e)⟩
  obtain ⟨v, rfl, hq⟩ := z
  exact wpAny_pure hq
end
end HX
set_option Elab.async false
set_option linter.all false
set_option maxRecDepth 100000
set_option maxHeartbeats 4400000
namespace HX
open L2 PyProof.Rows PySem.Spec PySem
section
variable {X : Cx}
/-- what stands behind a method's call is never NotImplemented -/
theorem ep_back {pins : List (Addr × Obj)} {σ : L2.St} {Q : VK} {u : Value} {s' : Shared} (h : EP X pins σ Q u s') : PySem.W.CmpBack (EP X pins σ Q) u s' := by
  have h' := h
  obtain ⟨v, H', I', r, q⟩ := h
  have ne : u ≠ .notImplemented := by
    intro z
    subst z
    cases v <;> first | (obtain ⟨t, z⟩ := r; cases z; done) | cases r
  cases u <;> first | exact absurd rfl ne | exact h'
/-- the facts of an int's operator -/
structure IntOp (op : Operator) : Prop where
  fi : fillsNumberSlot (.type "int") op.info.2 = pure true
  ri : ∃ idr, typeLookup (.type "int") (dunderR op.info.2) = pure (some (.builtin idr))
  le : ∃ (id : String) (B : Builtin), Slot "int" (PySem.dunder op.info.2) id ∧ entryFor table id = some B ∧ (∀ a b, argsOk id ⟨[a, b], []⟩) ∧ Decl B
theorem io_add : IntOp .Add := ⟨F.fills_int_add, ⟨_, F.slot_int_radd.lookup⟩, _, _, F.slot_int_add, F.entry_int_add, F.args_int_add_2, decl_add⟩
theorem io_sub : IntOp .Sub := ⟨F.fills_int_sub, ⟨_, F.slot_int_rsub.lookup⟩, _, _, F.slot_int_sub, F.entry_int_sub, F.args_int_sub_2, decl_sub⟩
theorem io_mul : IntOp .Mult := ⟨F.fills_int_mul, ⟨_, F.slot_int_rmul.lookup⟩, _, _, F.slot_int_mul, F.entry_int_mul, F.args_int_mul_2, decl_mul⟩
theorem io_fdv : IntOp .FloorDiv := ⟨F.fills_int_floordiv, ⟨_, F.slot_int_rfloordiv.lookup⟩, _, _, F.slot_int_floordiv, F.entry_int_floordiv, F.args_int_floordiv_2, decl_floordiv⟩
structure IntCmp (op : CmpOp) : Prop where
  le : ∃ (id : String) (B : Builtin), Slot "int" (cmpInfo op).2.1 id ∧ entryFor table id = some B ∧ (∀ a b, argsOk id ⟨[a, b], []⟩) ∧ Decl B
theorem ic_eq : IntCmp .Eq := ⟨_, _, F.slot_int_eq, F.entry_int_eq, F.args_int_eq_2, decl_eq⟩
theorem ic_ne : IntCmp .NotEq := ⟨_, _, F.slot_int_ne, F.entry_int_ne, F.args_int_ne_2, decl_ne⟩
theorem ic_lt : IntCmp .Lt := ⟨_, _, F.slot_int_lt, F.entry_int_lt, F.args_int_lt_2, decl_lt⟩
theorem ic_le : IntCmp .LtE := ⟨_, _, F.slot_int_le, F.entry_int_le, F.args_int_le_2, decl_le⟩
theorem ic_gt : IntCmp .Gt := ⟨_, _, F.slot_int_gt, F.entry_int_gt, F.args_int_gt_2, decl_gt⟩
theorem ic_ge : IntCmp .GtE := ⟨_, _, F.slot_int_ge, F.entry_int_ge, F.args_int_ge_2, decl_ge⟩
/-- the class's own operator and its reflected one -/
structure ArC (K : PySem.W.Frag) (C : Addr) (op : Operator) (f g : Addr) : Prop where
  sf : PySem.W.selfFirst K C = true
  hs : PySem.W.findIn K (.ref C) (PySem.dunder op.info.2) = some (some (.ref f))
  hf : PySem.W.isFn K (.ref f) = true
  hr : PySem.W.findIn K (.ref C) (dunderR op.info.2) = some (some (.ref g))
  hg : PySem.W.isFn K (.ref g) = true
  n1 : PySem.W.subIn K (.type "int") (.ref C) = some false
  n2 : PySem.W.subIn K (.ref C) (.type "int") = some false
def isI (C : Addr) (H : Hp) (x : V) : Prop := ∃ a dx fs, x = .ref a ∧ H a = some (.ins C dx fs)
theorem isI_inst {pins : List (Addr × Obj)} {σ : L2.St} {H : Hp} {s : Shared} {C a dx : Addr} {fs : List (Str × V)} (I : Inv X pins σ H s) (e : H a = some (.ins C dx fs)) : ∃ od, PySem.W.InstAt s.heap a (PySem.W.instObj C dx) C od := by
  obtain ⟨mA, O, _⟩ := ins_get I.hok e
  obtain ⟨od, J, _⟩ := O.look
  exact ⟨_, J⟩
/-- x op y, one of the two at least an instance of the class at C, the other one too, or an int -/
def rOwn (C : Addr) (sp spR : Sp) (E : XK) : R2 := fun x y H Q => (isI C H x ∧ (isI C H y ∨ ∃ i, y = .int i) ∧ sp [x, y] H Q E) ∨ (isI C H y ∧ (∃ i, x = .int i) ∧ spR [y, x] H Q E)
theorem op_own {op : Operator} {CX : CXT} {C f g : Addr} {k : Nat} {fd gd : FuncData} {ps ps' : List Str} {sp spR : Sp} {E : XK} (IO : IntOp op) (T : ArC X.K C op f g) (F1 : FnOk X.prog X.w X.K X.mg X.base CX k f fd ps sp) (b1 : Binds X.K fd ps [])
    (F2 : FnOk X.prog X.w X.K X.mg X.base CX k g gd ps' spR) (b2 : Binds X.K gd ps' []) (hr : Room k X.A) (hx : Passes CX X E) : OpR X (binaryOp op) (rOwn C sp spR E) := by
  intro pins s σ H x y v u; intro Q I rx ry h
  obtain ⟨m, hF⟩ := I.fr
  rcases h with ⟨⟨a, dx, fs, rfl, ea⟩, hy, q⟩ | ⟨⟨b, dx, fs, rfl, eb⟩, ⟨i, rfl⟩, q⟩
  · obtain ⟨od, J⟩ := isI_inst I ea
    cases (id rx : v = Value.ref a)
    rcases hy with ⟨b, dy, gs, rfl, eb⟩ | ⟨i, rfl⟩
    · obtain ⟨od', J'⟩ := isI_inst I eb
      cases (id ry : u = Value.ref b)
      exact PySem.W.binop_K hF I.ok.mod.kin J J'.type T.sf T.hs T.hf (thn (run_fn (us := [.ref a, .ref b]) (vs := [.ref a, .ref b]) F1 hr b1 .nil hx I (.cons rfl (.cons rfl .nil)) q) fun u s' z => ep_back z)
    · obtain ⟨t, e⟩ := (show ∃ t, u = Value.int i t from ry)
      subst e
      obtain ⟨idr, ri⟩ := IO.ri
      exact binop_KI hF I.ok.mod.kin J T.sf T.hs T.hf T.hr IO.fi T.n1 ri (thn (run_fn (us := [.ref a, .int i t]) (vs := [.ref a, .int i]) F1 hr b1 .nil hx I (.cons rfl (.cons ⟨t, rfl⟩ .nil)) q) fun u s' z => ep_back z)
  · obtain ⟨od, J⟩ := isI_inst I eb
    cases (id ry : u = Value.ref b)
    obtain ⟨t, e⟩ := (show ∃ t, v = Value.int i t from rx)
    subst e
    obtain ⟨id, B, sl, en, ar, D⟩ := IO.le
    exact binop_IK hF I.ok.mod.kin J rfl T.sf T.hs T.hr T.hg IO.fi T.n2 sl en ar D (thn (run_fn (us := [.ref b, .int i t]) (vs := [.ref b, .int i]) F2 hr b2 .nil hx I (.cons rfl (.cons ⟨t, rfl⟩ .nil)) q) fun u s' z => ep_back z)
structure CmC (K : PySem.W.Frag) (C : Addr) (op : CmpOp) (f g : Addr) : Prop where
  hs : PySem.W.findIn K (.ref C) (cmpInfo op).2.1 = some (some (.ref f))
  hf : PySem.W.isFn K (.ref f) = true
  hr : PySem.W.findIn K (.ref C) (cmpInfo op).2.2 = some (some (.ref g))
  hg : PySem.W.isFn K (.ref g) = true
  nc : PySem.W.notFirst K C (.ref C) = true
  n1 : PySem.W.notFirst K C (.type "int") = true
  n2 : PySem.W.subIn K (.ref C) (.type "int") = some false
theorem op_cmpW {op : CmpOp} {CX : CXT} {C f g : Addr} {k : Nat} {fd gd : FuncData} {ps ps' : List Str} {sp spR : Sp} {E : XK} (IO : IntCmp op) (T : CmC X.K C op f g) (F1 : FnOk X.prog X.w X.K X.mg X.base CX k f fd ps sp) (b1 : Binds X.K fd ps [])
    (F2 : FnOk X.prog X.w X.K X.mg X.base CX k g gd ps' spR) (b2 : Binds X.K gd ps' []) (hr : Room k X.A) (hx : Passes CX X E) : OpR X (richCompare op) (rOwn C sp spR E) := by
  intro pins s σ H x y v u; intro Q I rx ry h
  obtain ⟨m, hF⟩ := I.fr
  have hu := hr.units0
  rcases h with ⟨⟨a, dx, fs, rfl, ea⟩, hy, q⟩ | ⟨⟨b, dx, fs, rfl, eb⟩, ⟨i, rfl⟩, q⟩
  · obtain ⟨od, J⟩ := isI_inst I ea
    cases (id rx : v = Value.ref a)
    rcases hy with ⟨b, dy, gs, rfl, eb⟩ | ⟨i, rfl⟩
    · obtain ⟨od', J'⟩ := isI_inst I eb
      cases (id ry : u = Value.ref b)
      exact PySem.W.cmp_K hu hF I.ok.mod.kin J J'.type T.nc T.hs T.hf (thn (run_fn (us := [.ref a, .ref b]) (vs := [.ref a, .ref b]) F1 hr b1 .nil hx I (.cons rfl (.cons rfl .nil)) q) fun u s' z => ep_back z)
    · obtain ⟨t, e⟩ := (show ∃ t, u = Value.int i t from ry)
      subst e
      exact PySem.W.cmp_K hu hF I.ok.mod.kin J (fun A Q E s k q => wpAny_typeOf (typeIs_int s i t) q) T.n1 T.hs T.hf (thn (run_fn (us := [.ref a, .int i t]) (vs := [.ref a, .int i]) F1 hr b1 .nil hx I (.cons rfl (.cons ⟨t, rfl⟩ .nil)) q) fun u s' z => ep_back z)
  · obtain ⟨od, J⟩ := isI_inst I eb
    cases (id ry : u = Value.ref b)
    obtain ⟨t, e⟩ := (show ∃ t, v = Value.int i t from rx)
    subst e
    obtain ⟨id, B, sl, en, ar, D⟩ := IO.le
    exact cmp_IK hu hF I.ok.mod.kin J rfl T.hr T.hg T.n2 sl en ar D (thn (run_fn (us := [.ref b, .int i t]) (vs := [.ref b, .int i]) F2 hr b2 .nil hx I (.cons rfl (.cons ⟨t, rfl⟩ .nil)) q) fun u s' z => ep_back z)
/-- -x of an own class -/
def rNegO (C : Addr) (sp : Sp) (E : XK) : V → Hp → VK → Prop := fun x H Q => isI C H x ∧ sp [x] H Q E
theorem un_negO {CX : CXT} {C f : Addr} {k : Nat} {fd : FuncData} {ps : List Str} {sp : Sp} {E : XK} (hs : PySem.W.findIn X.K (.ref C) "__neg__" = some (some (.ref f))) (hf : PySem.W.isFn X.K (.ref f) = true) (F1 : FnOk X.prog X.w X.K X.mg X.base CX k f fd ps sp)
    (b1 : Binds X.K fd ps []) (hr : Room k X.A) (hx : Passes CX X E) : UnR X (unaryOp .USub) (rNegO C sp E) := by
  intro pins s σ H x v Q I rx h
  obtain ⟨m, hF⟩ := I.fr
  obtain ⟨⟨a, dx, fs, rfl, ea⟩, q⟩ := h
  obtain ⟨od, J⟩ := isI_inst I ea
  cases (id rx : v = Value.ref a)
  exact PySem.W.ksp_neg hF I.ok.mod.kin J hs hf (run_fn (us := [.ref a]) (vs := [.ref a]) F1 hr b1 .nil hx I (.cons rfl .nil) q)
end
end HX
set_option Elab.async false
set_option linter.all false
set_option maxRecDepth 100000
set_option maxHeartbeats 4400000
namespace HX
open L2 PyProof.Rows PySem.Spec PySem
/-- a def's promise where no repr is under way around the call -/
structure FnG (P : Program) (w : World) (K : PySem.W.Frag) (mg : Str → Option Value) (base : Heap) (CX : CXT) (k : Nat) (f : Addr) (fd : FuncData) (ps : List Str) (sp : Sp) : Prop where
  ln : ∀ vs H Q E, sp vs H Q E → vs.length = ps.length
  go : ∀ (A : Around) (outer : List Env) (s : Shared) (H : Hp) (args : Args) (us : List Value) (vs : List V) (Q : VK) (E : XK), A.guards = some [] → Room k A → Env0 P w K mg base A outer s H → BindsTo s fd args (ps.zip us) → Vals vs us →
    sp vs H Q E → codeAny (model P w) A (.call (.ref f) args) (CR CX outer P w H s Q E) s
theorem FnG.of {P : Program} {w : World} {K : PySem.W.Frag} {mg : Str → Option Value} {base : Heap} {CX : CXT} {k : Nat} {f : Addr} {fd : FuncData} {ps : List Str} {sp : Sp} (F : FnOk P w K mg base CX k f fd ps sp) : FnG P w K mg base CX k f fd ps sp :=
  ⟨F.len, fun A o s H args us vs Q E _ => F.run A o s H args us vs Q E⟩
/-- a def by its body, for FnG; exceptions may leave -/
theorem okG {CX : CXT} {P : Program} {w : World} {K : PySem.W.Frag} {mg : Str → Option Value} {base : Heap} {x qual : Str} {st : Stmt} {f : Addr} {fd : FuncData} {N ps : List Str} {k : Nat} {sp : Sp} (F : Fun K x qual st f fd) (S : FnScope N ps (defScope st)) (len : ∀ vs H Q E, sp vs H Q E → vs.length = ps.length)
    (hbody : ∀ (cdv : Value) (A : Around) (outer : List Env) (s : Shared) (H : Hp) (vs : List V) (Q : VK) (E : XK), A.guards = some [] → Room k (A.deeper (envOfC qual (defScope st) s.heap.objs.size f cdv)) → sp vs H Q E →
      ∃ t, PSs (cxOf CX P w K mg base N qual (defScope st) f cdv A outer s H E) (defBody st) t ∧ t { nx := fun _ H' => Q .non H', rt := Q } (L2.start N vs) H) : FnG P w K mg base CX (k + 1) f fd ps sp := by
  let ⟨oc, od, kV, doc, pm, an, cdv, ct, osl, e0, lk, hcd⟩ := F.ex; subst e0
  exact ⟨len, fun A o s H args us vs Q E hg hr e0 hb r hsp => LamX.run_ofS lk hcd S hr e0 hb r (len _ _ _ _ hsp) fun hr' => hbody cdv A o s H vs Q E hg hr' hsp⟩
/-- .. no exception leaves -/
theorem okG0 {P : Program} {w : World} {K : PySem.W.Frag} {mg : Str → Option Value} {base : Heap} {x qual : Str} {st : Stmt} {f : Addr} {fd : FuncData} {N ps : List Str} {k : Nat} {sp : Sp} (F : Fun K x qual st f fd) (S : FnScope N ps (defScope st)) (len : ∀ vs H Q E, sp vs H Q E → vs.length = ps.length)
    (hbody : ∀ (cdv : Value) (A : Around) (outer : List Env) (s : Shared) (H : Hp) (vs : List V) (Q : VK) (E : XK), A.guards = some [] → Room k (A.deeper (envOfC qual (defScope st) s.heap.objs.size f cdv)) → sp vs H Q E →
      ∃ t, PSs (cxOf CX0 P w K mg base N qual (defScope st) f cdv A outer s H E).nox (defBody st) t ∧ t { nx := fun _ H' => Q .non H', rt := Q } (L2.start N vs) H) : FnG P w K mg base CX0 (k + 1) f fd ps sp :=
  okG F S len fun cdv A outer s H vs Q E hg hr h => let ⟨t, p, q⟩ := hbody cdv A outer s H vs Q E hg hr h; ⟨t, p.nox, q⟩
section
variable {sp : Sp} {CX : CXT} {X : Cx} {k : Nat} {f C : Addr} {fd : FuncData} {ps : List Str} {dvs : List V} {ds : List Value} {E : XK} {x m : Str} {p pos apos : Pos} {e o : Expr} {es : List Expr} {ta : TE} {t : TA}
theorem run_g {pins : List (Addr × Obj)} {σ : L2.St} {H : Hp} {s : Shared} {Q : VK} {us : List Value} {vs : List V} (hgd : X.A.guards = some []) (F : FnG X.prog X.w X.K X.mg X.base CX k f fd ps sp) (hr : Room k X.A) (hb : Binds X.K fd ps ds) (hd : Vals dvs ds) (hx : Passes CX X E)
    (I : L2.Inv X pins σ H s) (r : Vals vs us) (h : sp (vs ++ dvs) H Q E) : wpAny (model X.prog X.w) X.A (call (.ref f) us) (EP X pins σ Q) X.xe s := by
  have rr : Vals (vs ++ dvs) (us ++ ds) := r.append hd; have hl : (us ++ ds).length = ps.length := rr.length.symm.trans (F.ln _ _ _ _ h)
  refine wpAny_call (codeAny_mono (F.go X.A X.stack s H ⟨us, []⟩ (us ++ ds) (vs ++ dvs) Q E hgd hr I.env0 (hb s us I.kIn hl) rr h) fun z s' hq => ?_)
  match z, hq with
  | .error er, hq => exact hx pins σ H s er s' I hq
  | .ok (.ret u), hq => exact I.after hq
  | .ok .next, hq => exact False.elim hq
  | .ok .brk, hq => exact False.elim hq
  | .ok .cont, hq => exact False.elim hq
theorem pe_callG (hgd : X.A.guards = some []) (F : FnG X.prog X.w X.K X.mg X.base CX k f fd ps sp) (hr : Room k X.A) (hg : Gl X x) (hm : X.mg x = some (.ref f)) (hk : PySem.W.keepIn X.K (.ref f) = true) (hb : Binds X.K fd ps ds) (hd : Vals dvs ds) (hx : Passes CX X E) (ha : PA X (e :: es) t)
    (hdb : (x == ("__debug__" : Str)) = false := by decide) (he : starEach (e :: es) X.env = (false, eval e X.env) :: starEach es X.env := by rfl) (hpl : (backTo pos (starEach es X.env)).any (·.1) = false := by rfl) :
    PE X (.Call (.Name x p) (e :: es) [] pos) (tCall sp dvs E t) := ⟨fun pins s σ H Q I h => wpAny_Call_Name_kw (ld_glob I hg hm (PySem.W.callWith_K (h₀ := X.base) I.ok.mod.kin hk (thn (ha.run pos pins s σ H _ I h) fun us s1 z => by
      obtain ⟨vs, H1, I1, r, q⟩ := z; exact ⟨I1.kIn, run_g hgd F hr hb hd hx I1 r q⟩) he hpl) hdb)⟩
end
/-- data at any depth, dicts too -/
inductive Dq (K : PySem.W.Frag) (H : Hp) : V → PyData → Prop
  | non : Dq K H .non .none
  | bl (b : Bool) : Dq K H (.bl b) (.bool b)
  | int (i : Int) : Dq K H (.int i) (.int i)
  | str (x : Str) : Dq K H (.str x) (.str x)
  | lst {a : Addr} {xs : List V} {ds : List PyData} : SqL K H a xs → xs.length = ds.length → (∀ (i : Nat) (v : V) (d : PyData), xs[i]? = some v → ds[i]? = some d → Dq K H v d) → Dq K H (.ref a) (.list ds)
  | tup {a : Addr} {xs : List V} {ds : List PyData} : SqT K H a xs → xs.length = ds.length → (∀ (i : Nat) (v : V) (d : PyData), xs[i]? = some v → ds[i]? = some d → Dq K H v d) → Dq K H (.ref a) (.tuple ds)
section
variable {H : Hp} {X : Cx} {σ : L2.St} {pins : List (Addr × Obj)} {s : Shared}
theorem readsAll_of {h : Heap} : ∀ {us : List Value} {ds : List PyData}, us.length = ds.length → (∀ (i : Nat) (u : Value) (d : PyData), us[i]? = some u → ds[i]? = some d → ∃ as, Reads h u d as) → ∃ as, ReadsAll h us ds as
  | [], [], _, _ => ⟨_, .nil⟩
  | [], _ :: _, z, _ | _ :: _, [], z, _ => by simp at z
  | u :: us, d :: ds, hl, h => by
    obtain ⟨as, q1⟩ := h 0 u d rfl rfl
    obtain ⟨bs, q2⟩ := readsAll_of (us := us) (ds := ds) (by simpa using hl) fun i u d e1 e2 => h (i + 1) u d (by simpa using e1) (by simpa using e2)
    exact ⟨_, .cons q1 q2⟩
theorem Dq.reads (I : L2.Inv X pins σ H s) {v : V} {d : PyData} (h : Dq X.K H v d) : ∀ u, RelV v u → ∃ as, Reads s.heap u d as := by
  induction h with
  | non => intro u r; cases r; exact ⟨_, .none⟩
  | bl b => intro u r; cases r; exact ⟨_, .bool b⟩
  | int i => intro u r; obtain ⟨t, rfl⟩ := r; exact ⟨_, .int i t⟩
  | str x => intro u r; obtain ⟨t, rfl⟩ := r; exact ⟨_, .str x t⟩
  | @lst a xs ds hs hl hi ih =>
    intro u r
    cases r
    obtain ⟨its, rv, ⟨o, m, ho, hc, _, hd⟩, _⟩ := I.list hs
    obtain ⟨as, q⟩ := readsAll_of (h := s.heap) (us := its) (ds := ds) (rv.length.symm.trans hl) fun i u d e1 e2 => by
      obtain ⟨v, hv⟩ : ∃ v, xs[i]? = some v := ⟨_, List.getElem?_eq_getElem (by have := (List.getElem?_eq_some_iff.mp e1).1; rw [rv.length]; exact this)⟩
      obtain ⟨u', hu, ru⟩ := rv.get hv; rw [e1] at hu; cases hu
      exact ih i v d hv e2 u ru
    exact ⟨_, .list ho hc hd q⟩
  | @tup a xs ds hs hl hi ih =>
    intro u r
    cases r
    obtain ⟨its, rv, ⟨o, ho, hc, m, hd⟩, _⟩ := I.tuple hs
    obtain ⟨as, q⟩ := readsAll_of (h := s.heap) (us := its) (ds := ds) (rv.length.symm.trans hl) fun i u d e1 e2 => by
      obtain ⟨v, hv⟩ : ∃ v, xs[i]? = some v := ⟨_, List.getElem?_eq_getElem (by have := (List.getElem?_eq_some_iff.mp e1).1; rw [rv.length]; exact this)⟩
      obtain ⟨u', hu, ru⟩ := rv.get hv; rw [e1] at hu; cases hu
      exact ih i v d hv e2 u ru
    exact ⟨_, .tuple ho hc hd q⟩
end
section
variable {X : Cx}
/-- repr of such data -/
def rRepr (K : PySem.W.Frag) : List V → Hp → VK → Prop := fun xs H Q => ∃ v d, xs = [v] ∧ Dq K H v d ∧ d.showable = true ∧ d.hasDict = false ∧ d.depth ≤ 60 ∧ d.shown.length ≤ sizeLine ∧ Q (.str d.shown) H
theorem call_reprD (hgd : X.A.guards = some []) (hu : X.A.units + 64 < cLine) : CallR X (.builtin "repr") (rRepr X.K) := by
  intro pins s σ H xs us; intro Q I r h
  obtain ⟨v, d, rfl, hd, hs, hn, hp, hz, q⟩ := h
  cases r with
  | cons r1 r2 =>
    cases r2
    rename_i u
    obtain ⟨as, hr⟩ := hd.reads I u r1
    have fin : ∀ h' t tk, (∀ b o, s.heap.get? b = some o → h'.get? b = some o) → EP X pins σ Q (.str d.shown t) { s with heap := h', toks := tk } := fun h' t tk k => ⟨.str d.shown, H, I.kept k, ⟨_, rfl⟩, q⟩
    cases hr with
    | none => exact PySem.P.repr_of_none (fin _ _ _ fun _ _ z => z)
    | bool b => exact PySem.P.repr_of_bool (fin _ _ _ fun _ _ z => z)
    | int i t => exact PySem.P.repr_of_int (by simpa [PyData.showable] using hs) (fin _ _ _ fun _ _ z => z)
    | str x t => exact PySem.P.repr_of_str (fin _ _ _ fun _ _ z => z)
    | list h1 h2 h3 h4 => exact repr_of_reads' (.list h1 h2 h3 h4) hs (fun z => by rw [hn] at z; cases z) hgd (by omega) (fun _ _ z => z) (fun h' u tk k => fin h' u tk k) hz
    | tuple h1 h2 h3 h4 => exact repr_of_reads' (.tuple h1 h2 h3 h4) hs (fun z => by rw [hn] at z; cases z) hgd (by omega) (fun _ _ z => z) (fun h' u tk k => fin h' u tk k) hz
    | dict h1 h2 h3 h4 h5 => simp [PyData.hasDict] at hn
end
end HX
set_option Elab.async false
set_option linter.all false
set_option maxRecDepth 100000
set_option maxHeartbeats 4400000
namespace HX
open L2 PyProof.Rows PySem.Spec PySem
theorem ints_vals : ∀ {vs : List Value} {ns : List Int}, IntsAre vs ns → Vals (ns.map V.int) vs
  | _, _, .nil => Paired.nil
  | _, _, .cons n t h => Paired.cons ⟨t, rfl⟩ (ints_vals h)
/-- the law's call from its promise (a def that may be called where no repr is under way); H: the script alone, or nothing -/
theorem lawG_core {P : Program} {w : World} {K : PySem.W.Frag} {mg mb : Str → Option Value} {CX : CXT} {k : Nat} {fa a : Addr} {fd : FuncData} {x : Str} {sp : Sp} {s1 : Shared} {vs : List Value} {H : Hp}
    (KX : K.In s1.heap) (hns : s1.heap.Ns mainGlobals mg) (hb : s1.heap.Ns builtinsNs mb) (hbb : ∀ x : Str, x ≠ "__name__" → mb x = bootBuiltins x) (hlim : s1.heap.NoLimit) (hg : s1.gens = #[])
    (ha : s1.heap.get? a = some { cls := .type "list", data := .seq vs.toArray }) (hr : Room k callerA)
    (F : ∀ base : Heap, K.In base → base.Ns mainGlobals mg → FnG P w K mg base CX k fa fd [x] sp) (hbind : ∀ (s : Shared) (u : Value), BindsTo s fd ⟨[u], []⟩ [(x, u)])
    (hsp : sp [.ref a] H (fun v _ => v = .bl true) fun _ _ _ => False) (hCX : ∀ e s', CX [] H s1 (fun _ _ _ => False) e s' → False)
    (hO : ∀ b u, H b = some u → b = a ∧ ∃ o xs, u = .frz o (.lst xs)) (hok : HOk P w H s1.heap) (hK : ∀ u, H a = some u → K.lookup a = none) :
    codeAny (model P w) callerA (.call (.ref fa) ⟨[.ref a], []⟩) (fun r s' => r = .ok (.ret (.bool true)) ∧ OldK s1.heap s'.heap ∧ s'.os = s1.os ∧ AllBare s'.gens) s1 := by
  have un : ∀ {b : Addr}, b ≠ a → H b = none := fun {b} z => by
    cases q : H b with
    | none => rfl
    | some u => exact absurd (hO b u q).1 z
  have nsK : ∀ {b : Addr} {m : Str → Option Value}, s1.heap.Ns b m → (hidT s1.heap H).Ns b m := fun {b m} ⟨o, es, ep, e, d, r⟩ => by
    refine ⟨o, es, ep, hidT_get e (un fun z => ?_), d, r⟩
    rw [z, ha] at e
    cases e
    cases d
  have inB : K.In (hidT s1.heap H) := fun b o e => hidT_get (KX b o e) (by
    cases q : H b with
    | none => rfl
    | some u =>
      have y := (hO b u q).1
      subst y
      have y2 : K.lookup b = none := hK u q
      rw [show K.lookup b = some o from e] at y2
      cases y2)
  obtain ⟨mc, l1, l2⟩ := hlim
  have e0 : Env0 P w K mg (hidT s1.heap H) callerA [] s1 H := ⟨rfl, ⟨inB, nsK hns, ⟨mb, nsK hb, hbb⟩, ⟨mc, nsK l1, l2⟩⟩, fun b o e => of_hidT e, Nat.le_of_eq (hidT_size _ _), trivial, fun b z => absurd (show b ∈ ([] : List Addr) from z) List.not_mem_nil, hok, .of_eq hg⟩
  refine codeAny_mono ((F _ inB (nsK hns)).go callerA [] s1 H ⟨[.ref a], []⟩ [.ref a] [.ref a] _ _ rfl hr e0 (hbind s1 (.ref a)) (.cons rfl .nil) hsp) fun r s' h => ?_
  match r, h with
  | .error e, h => exact (hCX e s' h).elim
  | .ok .next, h => exact False.elim h
  | .ok .brk, h => exact False.elim h
  | .ok .cont, h => exact False.elim h
  | .ok (.ret u), h =>
    obtain ⟨v, H', os, bare, U, hok', r', q⟩ := h
    obtain rfl : v = .bl true := q
    have ru : u = Value.bool true := r'; subst ru; refine ⟨rfl, OldK.of_keep fun b o e => ?_, os, bare⟩
    cases q : H b with
    | none => exact U.keep b o e q (fun z => absurd (show b ∈ ([] : List Addr) from z) List.not_mem_nil) List.not_mem_nil
    | some u =>
      obtain ⟨_, ob, xs, z⟩ := hO b u q
      subst z
      have y1 := (hok b _ q).1
      have y2 := (hok' b _ (U.frzs b ob _ q)).1
      rw [e] at y1
      cases y1
      exact y2
theorem walk_G {l : PySem.W.OpenLaw} {n k : Nat} {q : Program} {loose : List Str} {XP : (Str → Option Value) → Heap → Prop} {YP : World → Heap → Prop} {d : DefRec} {K : Params → PySem.W.Frag} {CX : World → CXT} {sp : World → Sp} {x : Str}
    (hn : l.most = some n) (hn2 : n ≤ sizeLine) (hdf : d.params.defaults = []) (hr : Room k callerA) (hY : ∀ (v : World) (h : Heap), YP v h → (K v.params).In h)
    (F : ∀ (w : World) (m : Str → Option Value) (fa : Addr) (h : Heap), (K w.params).In h → h.Ns mainGlobals m → m d.name = some (.ref fa) →
      ∃ fd : FuncData, (∀ (s : Shared) (u : Value), BindsTo s fd ⟨[u], []⟩ [(x, u)]) ∧ ∀ base : Heap, (K w.params).In base → base.Ns mainGlobals m → FnG l.prog w (K w.params) m base (CX w) k fa fd [x] (sp w))
    (hsp : ∀ (w : World) (H : Hp) (a : Addr) (ns : List Int), ns.length ≤ n → SqL (K w.params) H a (ns.map V.int) → (∀ b u, H b = some u → b = a) → sp w [.ref a] H (fun v _ => v = .bl true) fun _ _ _ => False)
    (hCX : ∀ (w : World) (G : Hp) (s : Shared) (e : Value) (s' : Shared), CX w [] G s (fun _ _ _ => False) e s' → False) : PySem.W.WalkO q loose XP YP l.row.toRowW d [] (fun f vs => PySem.call f vs) := by
  refine Att.attach_call hn hdf fun w s0 s1 mg mb fa o pm cd doc a vs ns G Y ho hd hcd hmg hobj hints hlen hgen => ?_
  have KX := hY w _ Y; obtain ⟨fd, hb, hF⟩ := F w mg fa _ KX G.T.g hmg
  have rv := ints_vals hints; have lv := hints.length
  cases hk : (K w.params).lookup a with
  | some o' =>
    have e := KX a o' hk
    rw [hobj] at e
    cases e
    exact lawG_core (H := fun _ => none) KX G.T.g G.T.b G.T.builtins G.T.nolimit hgen hobj hr hF hb (hsp w _ a ns hlen (.inr ⟨_, vs.toArray, _, hk, rfl, rfl, rfl, by rw [List.size_toArray, lv]; exact Nat.le_trans hlen hn2, by simpa using rv⟩) fun b u z => by cases z)
      (fun e s' => hCX w _ s1 e s') (fun b u z => by cases z) (fun b u z => by cases z) fun u z => by cases z
  | none =>
    have at_ : ∀ {b u}, (fun b => if b = a then some (HO.frz { cls := .type "list", data := .seq vs.toArray } (.lst (ns.map V.int))) else none) b = some u → b = a ∧ u = HO.frz { cls := .type "list", data := .seq vs.toArray } (.lst (ns.map V.int)) := fun {b u} z => by
      by_cases hba : b = a
      · exact ⟨hba, (Option.some.inj ((if_pos hba).symm.trans z)).symm⟩
      · exact absurd ((if_neg hba).symm.trans z) (fun y => nomatch y)
    refine lawG_core (H := fun b => if b = a then some (.frz { cls := .type "list", data := .seq vs.toArray } (.lst (ns.map V.int))) else none) KX G.T.g G.T.b G.T.builtins G.T.nolimit hgen hobj hr hF hb
      (hsp w _ a ns hlen (.inl (.inr ⟨_, if_pos rfl⟩)) fun b u z => (at_ z).1) (fun e s' => hCX w _ s1 e s') (fun b u z => ⟨(at_ z).1, _, _, (at_ z).2⟩) (fun b u z => ?_) fun _ _ => hk
    obtain ⟨e1, e2⟩ := at_ z
    subst e1
    subst e2
    exact ⟨hobj, by rw [List.length_map]; exact Nat.le_trans hlen hn2, vs, _, rv, hobj⟩
end HX
set_option Elab.async false
set_option linter.all false
set_option maxRecDepth 100000
set_option maxHeartbeats 4400000
namespace HX
open L2 PyProof.Rows PySem.Spec PySem
section
variable {X : Cx} {CX : CXT} {C f g : Addr} {k : Nat} {fd gd : FuncData} {ps ps' : List Str} {sp spR : Sp} {E : XK}
theorem op_eqN (T : CmC X.K C .Eq f g) (F1 : FnOk X.prog X.w X.K X.mg X.base CX k f fd ps sp) (b1 : Binds X.K fd ps []) (F2 : FnOk X.prog X.w X.K X.mg X.base CX k g gd ps' spR) (b2 : Binds X.K gd ps' []) (hr : Room k X.A) (hx : Passes CX X E) :
    OpR X (compareOp .Eq) (rOwn C sp spR E) := fun pins s σ H x y v u Q I rx ry h => op_cmpW ic_eq T F1 b1 F2 b2 hr hx pins s σ H x y v u Q I rx ry h
theorem op_neN (T : CmC X.K C .NotEq f g) (F1 : FnOk X.prog X.w X.K X.mg X.base CX k f fd ps sp) (b1 : Binds X.K fd ps []) (F2 : FnOk X.prog X.w X.K X.mg X.base CX k g gd ps' spR) (b2 : Binds X.K gd ps' []) (hr : Room k X.A) (hx : Passes CX X E) :
    OpR X (compareOp .NotEq) (rOwn C sp spR E) := fun pins s σ H x y v u Q I rx ry h => op_cmpW ic_ne T F1 b1 F2 b2 hr hx pins s σ H x y v u Q I rx ry h
theorem op_ltN (T : CmC X.K C .Lt f g) (F1 : FnOk X.prog X.w X.K X.mg X.base CX k f fd ps sp) (b1 : Binds X.K fd ps []) (F2 : FnOk X.prog X.w X.K X.mg X.base CX k g gd ps' spR) (b2 : Binds X.K gd ps' []) (hr : Room k X.A) (hx : Passes CX X E) :
    OpR X (compareOp .Lt) (rOwn C sp spR E) := fun pins s σ H x y v u Q I rx ry h => op_cmpW ic_lt T F1 b1 F2 b2 hr hx pins s σ H x y v u Q I rx ry h
theorem op_leN (T : CmC X.K C .LtE f g) (F1 : FnOk X.prog X.w X.K X.mg X.base CX k f fd ps sp) (b1 : Binds X.K fd ps []) (F2 : FnOk X.prog X.w X.K X.mg X.base CX k g gd ps' spR) (b2 : Binds X.K gd ps' []) (hr : Room k X.A) (hx : Passes CX X E) :
    OpR X (compareOp .LtE) (rOwn C sp spR E) := fun pins s σ H x y v u Q I rx ry h => op_cmpW ic_le T F1 b1 F2 b2 hr hx pins s σ H x y v u Q I rx ry h
theorem op_gtN (T : CmC X.K C .Gt f g) (F1 : FnOk X.prog X.w X.K X.mg X.base CX k f fd ps sp) (b1 : Binds X.K fd ps []) (F2 : FnOk X.prog X.w X.K X.mg X.base CX k g gd ps' spR) (b2 : Binds X.K gd ps' []) (hr : Room k X.A) (hx : Passes CX X E) :
    OpR X (compareOp .Gt) (rOwn C sp spR E) := fun pins s σ H x y v u Q I rx ry h => op_cmpW ic_gt T F1 b1 F2 b2 hr hx pins s σ H x y v u Q I rx ry h
theorem op_geN (T : CmC X.K C .GtE f g) (F1 : FnOk X.prog X.w X.K X.mg X.base CX k f fd ps sp) (b1 : Binds X.K fd ps []) (F2 : FnOk X.prog X.w X.K X.mg X.base CX k g gd ps' spR) (b2 : Binds X.K gd ps' []) (hr : Room k X.A) (hx : Passes CX X E) :
    OpR X (compareOp .GtE) (rOwn C sp spR E) := fun pins s σ H x y v u Q I rx ry h => op_cmpW ic_ge T F1 b1 F2 b2 hr hx pins s σ H x y v u Q I rx ry h
/-- i ** j, of an i that is neither -1, 0 nor 1, the result below 2 ^ 100000 -/
def CPowW (i j : Int) : Prop := 2 ≤ i ∧ 0 < j ∧ Builtin.Int.intTooBig (((Builtin.Int.intBits i : Nat) : Int) * j) = false
theorem op_powW : OpR X (binaryOp .Pow) (rI CPowW fun i j => .int (i ^ j.toNat)) := opI fun i j t u s Q E hc q => by
  obtain ⟨h1, h2, h3⟩ := hc
  have h4 : ¬ ((i == 0 || i == 1) = true) := by simp; omega
  have h5 : ¬ ((i == -1) = true) := by simp; omega
  exact AutoIntOps.pow_4 (by omega) (by simp; omega) h4 h5 (by rw [h3]; decide) q
end
/-- all that was known is known -/
abbrev Ex (H H' : Hp) : Prop := ∀ a o, H a = some o → H' a = some o
/-- .. but what stood at p -/
abbrev XB (p : Addr) (H H' : Hp) : Prop := ∀ a o, a ≠ p → H a = some o → H' a = some o
theorem Ex.rf (H : Hp) : Ex H H := fun _ _ h => h
theorem Ex.tr {H H1 H2 : Hp} (a : Ex H H1) (b : Ex H1 H2) : Ex H H2 := fun c o h => b c o (a c o h)
theorem Ex.nw {H : Hp} {p : Addr} {o : HO} (h : H p = none) : Ex H (upd H p o) := fun a u e => by rw [upd_ne (ne_of_none e h)]; exact e
theorem Ex.fr {H H' : Hp} {p : Addr} (e : Ex H H') (h : H' p = none) : H p = none := by
  cases q : H p with
  | none => rfl
  | some o => rw [e p o q] at h; cases h
theorem Ex.xb {H H' : Hp} {p : Addr} (e : Ex H H') : XB p H H' := fun a o _ h => e a o h
theorem XB.tr {H H1 H2 : Hp} {p : Addr} (a : XB p H H1) (b : XB p H1 H2) : XB p H H2 := fun c o n h => b c o n (a c o n h)
theorem XB.wr {H : Hp} {p : Addr} {o : HO} : XB p H (upd H p o) := fun a u n e => by rw [upd_ne n]; exact e
theorem XB.fr {H H' : Hp} {p q : Addr} {o : HO} (e : XB p H H') (hp : H' p = some o) (h : H' q = none) : H q = none := by
  cases z : H q with
  | none => rfl
  | some u =>
    by_cases y : q = p
    · rw [y, hp] at h; cases h
    · rw [e q u y z] at h; cases h
theorem if_dec {p : Prop} [Decidable p] {A B : Prop} (h1 : p → A) (h2 : ¬ p → B) : if decide p = true then A else B := by
  by_cases h : p
  · rw [decide_eq_true h]; exact iteT (h1 h)
  · rw [decide_eq_false h]; exact iteF (h2 h)
theorem if_eq {b c : Bool} {A B : Prop} (e : b = c) (h : if c = true then A else B) : if b = true then A else B := by rw [e]; exact h
theorem if_true {b : Bool} {A B : Prop} (e : b = true) (h : A) : if b = true then A else B := by rw [e]; exact iteT h
theorem if_false {b : Bool} {A B : Prop} (e : b = false) (h : B) : if b = true then A else B := by rw [e]; exact iteF h
end HX
set_option Elab.async false
set_option linter.all false
set_option maxRecDepth 100000
set_option maxHeartbeats 4400000
namespace HX
open L2 PyProof.Rows PySem.Spec PySem
/-- data whose repr is asked -/
structure Fine (d : PyData) : Prop where
  sh : d.showable = true
  nd : d.hasDict = false
  dp : d.depth ≤ 60
  ln : d.shown.length ≤ sizeLine
theorem sh_int {i : Int} (h0 : -1000000 ≤ i) (h1 : i ≤ 1000000) : (PyData.int i).showable = true := by
  unfold PyData.showable
  have h : i.natAbs < 2 ^ 64 := by omega
  have h2 : i.natAbs.log2 < 64 := PySem.Flt.log2_lt_of (by decide) h
  first | exact decide_eq_true (by omega)
theorem ls_int {i : Int} (h0 : -1000000 ≤ i) (h1 : i ≤ 1000000) : (PyData.int i).leavesShort 13 = true := by
  have h := PyData.shown_int_le (i := i) (by omega)
  unfold PyData.leavesShort
  simpa [PyData.shown] using h
/-- a flat item -/
inductive Flat : PyData → Prop
  | non : Flat .none
  | bl (b : Bool) : Flat (.bool b)
  | int (i : Int) (h0 : -1000000 ≤ i) (h1 : i ≤ 1000000) : Flat (.int i)
  | str (x : Str) (h : x.cps.size ≤ 60) (hc : (x.cps.toList.all fun c => decide (c < 16 ^ 8)) = true) : Flat (.str x)
theorem Flat.all {ds : List PyData} (h : ∀ d ∈ ds, Flat d) : PyData.showableAll ds = true ∧ PyData.hasDictAll ds = false ∧ PyData.leavesShortAll 13 ds = true ∧ PyData.depthAll ds ≤ 1 ∧ PyData.weightAll ds ≤ 70 * ds.length := by
  induction ds with
  | nil => simp [PyData.showableAll, PyData.hasDictAll, PyData.leavesShortAll, PyData.depthAll, PyData.weightAll]
  | cons d ds ih =>
    obtain ⟨i1, i2, i3, i4, i5⟩ := ih fun x hx => h x (List.mem_cons_of_mem _ hx)
    have hd := h d List.mem_cons_self
    simp only [PyData.showableAll, PyData.hasDictAll, PyData.leavesShortAll, PyData.depthAll, PyData.weightAll, i1, i2, i3, Bool.and_true, Bool.or_false, List.length_cons]
    cases hd with
    | non => simp [PyData.showable, PyData.hasDict, PyData.leavesShort, PyData.depth, PyData.weight]; omega
    | bl b => simp [PyData.showable, PyData.hasDict, PyData.leavesShort, PyData.depth, PyData.weight]; omega
    | int i h0 h1 =>
      have h2 : i.natAbs.log2 < 64 := PySem.Flt.log2_lt_of (by decide) (by omega : i.natAbs < 2 ^ 64)
      simp only [sh_int h0 h1, PyData.hasDict, ls_int h0 h1, PyData.depth, PyData.weight]
      refine ⟨by first | rfl | trivial, by first | rfl | trivial, by first | rfl | trivial, by omega, ?_⟩
      split <;> omega
    | str x hx hc =>
      simp only [PyData.showable, PyData.hasDict, PyData.leavesShort, PyData.depth, PyData.weight, hc]
      refine ⟨by first | rfl | trivial, by first | rfl | trivial, by first | rfl | trivial, by omega, by omega⟩
theorem fine_list {ds : List PyData} (h : ∀ d ∈ ds, Flat d) (hl : ds.length ≤ 1000) : Fine (.list ds) := by
  obtain ⟨h1, h2, h3, h4, h5⟩ := Flat.all h
  refine ⟨by simp only [PyData.showable, h1], by simp only [PyData.hasDict, h2], by simp only [PyData.depth]; omega, PyData.shown_fits (B := 13) (by decide) (by decide) (by simp only [PyData.leavesShort, h3]) (by simp only [PyData.weight]; omega)⟩
theorem fine_tup {ds : List PyData} (h : ∀ d ∈ ds, Flat d) (hl : ds.length ≤ 1000) : Fine (.tuple ds) := by
  obtain ⟨h1, h2, h3, h4, h5⟩ := Flat.all h
  refine ⟨by simp only [PyData.showable, h1], by simp only [PyData.hasDict, h2], by simp only [PyData.depth]; omega, PyData.shown_fits (B := 13) (by decide) (by decide) (by simp only [PyData.leavesShort, h3]) (by simp only [PyData.weight]; omega)⟩
theorem fine_non : Fine .none := ⟨rfl, rfl, by decide, by simp only [PyData.shown]; decide +kernel⟩
theorem fine_bl (b : Bool) : Fine (.bool b) := ⟨rfl, rfl, by simp [PyData.depth], by cases b <;> simp only [PyData.shown] <;> decide +kernel⟩
theorem flat_zero : Flat (.str "zero") := .str _ (by decide +kernel) (by decide +kernel)
/-- flat values and their data -/
def fl : V → PyData
  | .non => .none
  | .bl b => .bool b
  | .int i => .int i
  | .str x => .str x
  | _ => .none
def isFl : V → Bool
  | .non | .bl _ | .int _ | .str _ => true
  | _ => false
theorem dq_fl {K : PySem.W.Frag} {H : Hp} {v : V} (h : isFl v = true) : Dq K H v (fl v) := by
  cases v <;> first | exact .non | exact .bl _ | exact .int _ | exact .str _ | cases h
theorem dq_items {K : PySem.W.Frag} {H : Hp} {xs : List V} (h : xs.all isFl = true) : ∀ (i : Nat) (v : V) (d : PyData), xs[i]? = some v → (xs.map fl)[i]? = some d → Dq K H v d := fun i v d e1 e2 => by
  rw [List.getElem?_map, e1] at e2
  cases e2
  exact dq_fl (List.all_eq_true.mp h v (List.mem_of_getElem? e1))
theorem dq_lst {K : PySem.W.Frag} {H : Hp} {a : Addr} {xs : List V} (e : H a = some (.lst xs)) (h : xs.all isFl = true) : Dq K H (.ref a) (.list (xs.map fl)) := .lst (SqL.of e) (by rw [List.length_map]) (dq_items h)
theorem dq_tup {K : PySem.W.Frag} {H : Hp} {a : Addr} {xs : List V} (e : H a = some (.tup xs)) (h : xs.all isFl = true) : Dq K H (.ref a) (.tuple (xs.map fl)) := .tup (SqT.of e) (by rw [List.length_map]) (dq_items h)
end HX
set_option Elab.async false
set_option linter.all false
set_option maxRecDepth 100000
set_option maxHeartbeats 4400000
namespace HX
open L2 PyProof.Rows PySem.Spec PySem
section
variable {X : Cx} {CX : CXT} {C f : Addr} {k : Nat} {fd : FuncData} {ps : List Str} {sp : Sp} {E : L2.St → XK} {a b e : Expr} {ta tb te : TE} {pos pos' : Pos} {x : Str} {i : Nat} {op : Operator}
/-- a def run within a call of a builtin -/
theorem run_one {pins : List (Addr × Obj)} {σ : L2.St} {H : Hp} {s : Shared} {Q : VK} {us : List Value} {vs : List V} {E : XK} (F : FnOk X.prog X.w X.K X.mg X.base CX k f fd ps sp) (hr : Room (k + 1) X.A) (hb : Binds X.K fd ps []) (hx : PassesAt CX X σ E)
    (I : L2.Inv X pins σ H s) (r : Vals vs us) (h : sp vs H Q E) : wpAny (model X.prog X.w) X.A.in1 (call (.ref f) us) (EP X pins σ Q) X.xe s := by
  have few : (us ++ []).length = ps.length := by rw [List.append_nil, ← r.length]; exact F.len _ _ _ _ h
  have bound := hb s us I.kIn few; rw [List.append_nil] at bound
  refine wpAny_call (codeAny_mono (F.run X.A.in1 X.stack s H ⟨us, []⟩ us vs Q E hr.in1 I.env0.in1 bound r h) fun z s' hq => ?_)
  match z, hq with
  | .ok (.ret u), w => exact I.after w
  | .ok .next, w | .ok .brk, w | .ok .cont, w => exact False.elim w
  | .error er, w => exact hx pins H s er s' I w
/-- a[b] of an own class -/
def tSubO (C : Addr) (sp : Sp) (E : L2.St → XK) (ta tb : TE) : TE := fun σ H Q => ta σ H fun x H1 => tb σ H1 fun y H2 => isI C H2 x ∧ sp [x, y] H2 Q (E σ)
theorem pe_subO (hs : PySem.W.findIn X.K (.ref C) "__getitem__" = some (some (.ref f))) (hf : PySem.W.fnIn X.K f = true) (hfn : PySem.W.isFn X.K (.ref f) = true) (F : FnOk X.prog X.w X.K X.mg X.base CX k f fd ps sp) (hb : Binds X.K fd ps []) (hr : Room (k + 1) X.A)
    (hx : ∀ σ, PassesAt CX X σ (E σ)) (ha : PE X a ta) (hbb : PE X b tb) (hsl : ∀ x i, subscripted b true (.ref x) i = runValue (.builtin "lifetime.subscript" ⟨[.ref x, i], []⟩)) : PE X (.Subscript a b pos) (tSubO C sp E ta tb) := by
  refine ⟨fun pins s σ H Q I h => ?_⟩
  refine Subscript_ (binT ha hbb I h fun v u s2 x y H2 I2 rx ry q => ?_)
  obtain ⟨m, hF⟩ := I2.fr
  obtain ⟨⟨p, dx, fs, rfl, ep⟩, q⟩ := q
  obtain ⟨od, J⟩ := isI_inst I2 ep
  cases (id rx : v = Value.ref p)
  exact PySem.W.sub_K hF I2.ok.mod.kin J hs hf hfn (run_one (us := [.ref p, u]) (vs := [.ref p, y]) F hr hb (hx σ) I2 (.cons rfl (.cons ry .nil)) q) (hsl _ _)
/-- o[i] = v of an own class -/
def gSubO (C : Addr) (sp : Sp) (E : L2.St → XK) (to ti : TE) : TG := fun v σ H Q => to σ H fun o H1 => ti σ H1 fun i H2 => isI C H2 o ∧ sp [o, i, v] H2 (fun _ H3 => Q σ H3) (E σ)
theorem pg_subO (hq : PySem.W.noSeq X.K C = true) (hs : PySem.W.findIn X.K (.ref C) "__setitem__" = some (some (.ref f))) (hfn : PySem.W.isFn X.K (.ref f) = true) (F : FnOk X.prog X.w X.K X.mg X.base CX k f fd ps sp) (hb : Binds X.K fd ps []) (hr : Room k X.A)
    (hx : ∀ σ, PassesAt CX X σ (E σ)) (ho : PE X a ta) (hi : PE X b tb)
    (ha : ∀ v, assign (.Subscript a b pos) X.env v = (do let o1 ← holding [v] (eval a X.env); let i1 ← holding [v, o1] (eval b X.env); standAt pos; holding [v, o1, i1] (setItem o1 i1 v); release [v, o1, i1] []) := by intro _; rfl) : PG X (.Subscript a b pos) (gSubO C sp E ta tb) := by
  refine ⟨fun pp t τ G val vv R J rv w => ?_⟩
  rw [ha]
  refine wpAny_bind (wpAny_holding (thn (ho.run pp t τ G _ J w) fun o1 t1 ⟨x, G1, J1, rx, w1⟩ => wpAny_bind (wpAny_holding (thn (hi.run pp t1 τ G1 _ J1 w1) fun i1 t2 ⟨y, G2, J2, ry, w2⟩ => ?_))))
  obtain ⟨⟨p, dx, fs, rfl, ep⟩, q⟩ := w2
  obtain ⟨m, hF⟩ := J2.fr
  obtain ⟨od, W⟩ := isI_inst J2 ep
  have eo : o1 = Value.ref p := rx; subst eo
  have done := run_fnS (us := [.ref p, i1, vv]) (vs := [.ref p, y, val]) F hr hb (hx τ) J2 (.cons rfl (.cons ry (.cons rv .nil))) q
  exact wpAny_bind (wpAny_standAt (wpAny_bind (wpAny_holding (PySem.W.ksp_setItem hF J2.ok.mod.kin W hq hs hfn (thn done fun _ t3 ⟨_, G3, J3, _, w3⟩ => wpAny_release ⟨τ, G3, J3, w3⟩)))))
/-- x op= e of an own class -/
def tAugO (C : Addr) (sp : Sp) (E : L2.St → XK) (i : Nat) (te : TE) : TS := fun D σ H => ∃ x, σ[i]? = some (some x) ∧ te σ H fun y H1 => isI C H1 x ∧ sp [x, y] H1 (fun z H2 => D.nx (σ.set i (some z)) H2) (E σ)
theorem ps_augO (hc : PySem.W.selfFirst X.K C = true) (hs : PySem.W.findIn X.K (.ref C) (dunderI op.info.2) = some (some (.ref f))) (hfn : PySem.W.isFn X.K (.ref f) = true) (F : FnOk X.prog X.w X.K X.mg X.base CX k f fd ps sp) (hb : Binds X.K fd ps []) (hr : Room k X.A)
    (hxx : ∀ σ, PassesAt CX X σ (E σ)) (hN : X.N.Nodup) (hi : X.N[i]? = some x) (hx : X.env.scope.names.lookup x = some .local) (he : PE X e te) : PS X (.AugAssign (.Name x pos') op e pos) (tAugO C sp E i te) := by
  refine ⟨fun pp t τ G D J w => wpAny_AugAssign_Name ?_⟩
  obtain ⟨v, e1, w⟩ := w
  obtain ⟨m, hn, hl⟩ := J.loc
  obtain ⟨u, r, l⟩ := hl i x v hi e1 (.inl hx)
  rcases l with ⟨hk, hm⟩ | ⟨hk, _⟩
  · refine wpAny_loadName_local J.ok.kind hk hn hm (thn (he.run pp t τ G _ J w) fun b t1 ⟨y, G1, J1, r1, w1⟩ => ?_)
    obtain ⟨⟨p, dx, fs, rfl, ep⟩, q⟩ := w1
    obtain ⟨m1, hF⟩ := J1.fr
    obtain ⟨od, W⟩ := isI_inst J1 ep
    have eu : u = Value.ref p := r; subst eu
    have done := run_fnS (us := [.ref p, b]) (vs := [.ref p, y]) F hr hb (hxx τ) J1 (.cons rfl (.cons r1 .nil)) q
    refine thn (PySem.W.ksp_inplace hF J1.ok.mod.kin W hc hs hfn (thn done fun z t2 hz => ep_back hz)) fun z t2 ⟨zv, G2, J2, r2, w2⟩ => ?_
    exact store_ok J2 hN hi (.inl hx) r2 (fun t3 J3 => ⟨_, G2, J3, w2⟩) (.inr hx)
  · rcases hk with hk | hk <;> (have z : X.env.scope.names.lookup x = _ := hk; rw [hx] at z; cases z)
/-- len of an own class -/
def rLenO (C : Addr) (sp : Sp) (E : XK) : List V → Hp → VK → Prop := fun xs H Q => ∃ x, xs = [x] ∧ isI C H x ∧ sp [x] H (fun v H' => ∃ n : Nat, v = .int n ∧ n < 1000 ∧ Q (.int n) H') E
theorem call_lenO {E : XK} (hs : PySem.W.findIn X.K (.ref C) "__len__" = some (some (.ref f))) (hf : PySem.W.isFn X.K (.ref f) = true) (F : FnOk X.prog X.w X.K X.mg X.base CX k f fd ps sp) (hb : Binds X.K fd ps []) (hr : Room (k + 1) X.A) (hx : Passes CX X E) :
    CallR X (.builtin "len") (rLenO C sp E) := by
  intro pins s σ H xs us; intro Q I r h
  obtain ⟨m, hF⟩ := I.fr
  obtain ⟨x, rfl, ⟨p, dx, fs, rfl, ep⟩, q⟩ := h
  obtain ⟨od, J⟩ := isI_inst I ep
  cases r with
  | cons r1 r2 =>
    cases r2
    rename_i u
    cases (id r1 : u = Value.ref p)
    refine PySem.W.len_K hF I.ok.mod.kin J hs hf (thn (run_one (us := [.ref p]) (vs := [.ref p]) F hr hb (fun pins H s e s' => hx pins σ H s e s') I (.cons rfl .nil) q) fun z s2 hz => ?_)
    obtain ⟨v, H2, I2, r3, n, rfl, hn, q2⟩ := hz
    obtain ⟨t, rfl⟩ := r3
    exact ⟨⟨by omega, by omega⟩, .int n, H2, I2.tok _, ⟨_, rfl⟩, q2⟩
end
end HX
set_option Elab.async false
set_option linter.all false
set_option maxRecDepth 100000
set_option maxHeartbeats 4400000
namespace HX
open L2 PyProof.Rows PySem.Spec PySem
section
variable {X : Cx} {es : List Expr} {t : TA} {pos : Pos}
/-- a new list stands apart from the table of modules -/
def tLstN (t : TA) : TE := fun σ H Q => t σ H fun xs H1 => xs.length ≤ sizeLine ∧ ∀ p, H1 p = none → p ≠ sysModules → Q (.ref p) (upd H1 p (.lst xs))
theorem pe_lstN (h : PA X es t) : PE X (.List es pos) (tLstN t) := by
  refine ⟨fun pins s σ H Q I hq => wpAny_List_spliced (thn (h.run pos pins s σ H _ I hq) fun us s1 ⟨xs, H1, I1, r, z, q⟩ => ⟨by rw [← r.length]; exact z, ?_⟩)⟩
  have e0 : H1 s1.heap.objs.size = none := I1.hok.fresh (Nat.le_refl _)
  have e1 : Inv X pins σ (upd H1 s1.heap.objs.size (.lst xs)) _ := I1.laid (t' := s1.toks) (fun b u e => Heap.get?_push_of_some _ e) (Nat.le_refl _) ⟨z, us, 0, r, Heap.get?_push_size _ rfl⟩
  exact ⟨.ref _, _, e1, rfl, q _ e0 (Nat.ne_of_gt I1.big)⟩
end
/-- data at any depth, dicts by texts too; its lists stand apart from the table of modules, and from the list at p -/
inductive Dz (p : Addr) (H : Hp) : V → PyData → Prop
  | non : Dz p H .non .none
  | bl (b : Bool) : Dz p H (.bl b) (.bool b)
  | int (i : Int) : Dz p H (.int i) (.int i)
  | str (x : Str) : Dz p H (.str x) (.str x)
  | lst {a : Addr} {xs : List V} {ds : List PyData} : H a = some (.lst xs) → a ≠ sysModules → a ≠ p → xs.length = ds.length → (∀ (i : Nat) (v : V) (d : PyData), xs[i]? = some v → ds[i]? = some d → Dz p H v d) → Dz p H (.ref a) (.list ds)
  | tup {a : Addr} {xs : List V} {ds : List PyData} : H a = some (.tup xs) → xs.length = ds.length → (∀ (i : Nat) (v : V) (d : PyData), xs[i]? = some v → ds[i]? = some d → Dz p H v d) → Dz p H (.ref a) (.tuple ds)
  | dct {a : Addr} {ks : List (Str × V)} {ds : List PyData} : H a = some (.dK (ks.map fun p => (Sum.inr p.1, p.2))) → ks.length = ds.length → (∀ (i : Nat) (v : V) (d : PyData), (ks.map (·.2))[i]? = some v → ds[i]? = some d → Dz p H v d) → Dz p H (.ref a) (.dict ((ks.map fun p => PyData.str p.1).zip ds))
theorem Dz.ex {p : Addr} {H H' : Hp} {v : V} {d : PyData} (h : Dz p H v d) (e : Ex H H') : Dz p H' v d := by
  induction h with
  | non => exact .non
  | bl b => exact .bl b
  | int i => exact .int i
  | str x => exact .str x
  | lst h n m hl _ ih => exact .lst (e _ _ h) n m hl ih
  | tup h hl _ ih => exact .tup (e _ _ h) hl ih
  | dct h hl _ ih => exact .dct (e _ _ h) hl ih
theorem Dz.xb {p : Addr} {H H' : Hp} {v : V} {d : PyData} {zs : List V} (h : Dz p H v d) (hp : H p = some (.lst zs)) (e : XB p H H') : Dz p H' v d := by
  induction h with
  | non => exact .non
  | bl b => exact .bl b
  | int i => exact .int i
  | str x => exact .str x
  | lst h n m hl _ ih => exact .lst (e _ _ m h) n m hl ih
  | tup h hl _ ih => exact .tup (e _ _ (ne_of h hp (by intro y; cases y)) h) hl ih
  | dct h hl _ ih => exact .dct (e _ _ (ne_of h hp (by intro y; cases y)) h) hl ih
section
variable {H : Hp} {X : Cx} {σ : L2.St} {pins : List (Addr × Obj)} {s : Shared}
theorem readsAllM {h : Heap} : ∀ {us : List Value} {ds : List PyData}, us.length = ds.length → (∀ (i : Nat) (u : Value) (d : PyData), us[i]? = some u → ds[i]? = some d → ∃ as, Reads h u d as ∧ sysModules ∉ as) → ∃ as, ReadsAll h us ds as ∧ sysModules ∉ as
  | [], [], _, _ => ⟨_, .nil, by simp⟩
  | [], _ :: _, z, _ | _ :: _, [], z, _ => by simp at z
  | u :: us, d :: ds, hl, h => by
    obtain ⟨as, q1, m1⟩ := h 0 u d rfl rfl
    obtain ⟨bs, q2, m2⟩ := readsAllM (us := us) (ds := ds) (by simpa using hl) fun i u d e1 e2 => h (i + 1) u d (by simpa using e1) (by simpa using e2)
    exact ⟨_, .cons q1 q2, by rw [List.mem_append]; exact fun z => z.elim m1 m2⟩
theorem pairs_keys {P : Program} {w : World} {h : Heap} : ∀ {es : List DictEntry} {ks : List (Str × V)} {vs : List (Key × Value)}, Pairs (mixKind P w) es vs → KV (ks.map fun p => (Sum.inr p.1, p.2)) vs →
    ReadsAll h (es.map (·.key)) (ks.map fun p => PyData.str p.1) [] ∧ Vals (ks.map (·.2)) (es.map (·.val))
  | [], [], _, _, _ => ⟨.nil, .nil⟩
  | _ :: _, [], _, hp, hk => by cases hk; cases hp
  | [], _ :: _, _, hp, hk => by cases hk; cases hp
  | e :: es, k :: ks, _, hp, hk => by
    cases hk with
    | cons h1 h2 =>
      cases hp with
      | cons i1 i2 i3 =>
        obtain ⟨q1, q2⟩ := pairs_keys (h := h) i3 h2
        obtain ⟨h3, h4⟩ := h1
        refine ⟨?_, .cons (by show RelV k.2 e.val; rw [i2]; exact h4) q2⟩
        have i0 : keyIs (Sum.inr k.1) e.key = true := by
          have z : (Sum.inr k.1 : Key) = _ := h3
          rw [z]; exact i1
        rcases keyIs_shape i0 with ⟨i, t, z, _⟩ | ⟨x, t, z, y⟩
        · cases z
        · cases z
          refine ReadsAll.cons (as := []) (bs := []) ?_ q1
          show Reads h e.key (PyData.str k.1) []
          rw [show e.key = Value.str k.1 t from y]
          exact .str _ _
theorem Dz.reads {p : Addr} (I : L2.Inv X pins σ H s) {v : V} {d : PyData} (h : Dz p H v d) : ∀ u, RelV v u → ∃ as, Reads s.heap u d as ∧ sysModules ∉ as := by
  induction h with
  | non => intro u r; cases r; exact ⟨_, .none, by simp⟩
  | bl b => intro u r; cases r; exact ⟨_, .bool b, by simp⟩
  | int i => intro u r; obtain ⟨t, rfl⟩ := r; exact ⟨_, .int i t, by simp⟩
  | str x => intro u r; obtain ⟨t, rfl⟩ := r; exact ⟨_, .str x t, by simp⟩
  | @lst a xs ds hs na _ hl hi ih =>
    intro u r
    cases r
    obtain ⟨its, rv, ⟨o, n, ho, hc, _, hd⟩, _⟩ := I.list (SqL.of hs)
    obtain ⟨as, q, m⟩ := readsAllM (h := s.heap) (us := its) (ds := ds) (rv.length.symm.trans hl) fun i u d e1 e2 => by
      obtain ⟨v, hv⟩ : ∃ v, xs[i]? = some v := ⟨_, List.getElem?_eq_getElem (by have := (List.getElem?_eq_some_iff.mp e1).1; rw [rv.length]; exact this)⟩
      obtain ⟨u', hu, ru⟩ := rv.get hv; rw [e1] at hu; cases hu
      exact ih i v d hv e2 u ru
    exact ⟨_, .list ho hc hd q, by rw [List.mem_cons]; exact fun z => z.elim (fun e => na e.symm) m⟩
  | @tup a xs ds hs hl hi ih =>
    intro u r
    cases r
    obtain ⟨its, rv, ⟨o, ho, hc, n, hd⟩, _⟩ := I.tuple (SqT.of hs)
    obtain ⟨as, q, m⟩ := readsAllM (h := s.heap) (us := its) (ds := ds) (rv.length.symm.trans hl) fun i u d e1 e2 => by
      obtain ⟨v, hv⟩ : ∃ v, xs[i]? = some v := ⟨_, List.getElem?_eq_getElem (by have := (List.getElem?_eq_some_iff.mp e1).1; rw [rv.length]; exact this)⟩
      obtain ⟨u', hu, ru⟩ := rv.get hv; rw [e1] at hu; cases hu
      exact ih i v d hv e2 u ru
    exact ⟨_, .tuple ho hc hd q, m⟩
  | @dct a ks ds hs hl hi ih =>
    intro u r
    cases r
    obtain ⟨_, na, vs, kv, o, es, ep, ho, hc, hd, _, hp, _⟩ := dk_of I.hok hs
    obtain ⟨q1, rv⟩ := pairs_keys (h := s.heap) hp kv
    obtain ⟨as, q, m⟩ := readsAllM (h := s.heap) (us := es.toList.map (·.val)) (ds := ds) (rv.length.symm.trans (by rw [List.length_map]; exact hl)) fun i u d e1 e2 => by
      obtain ⟨v, hv⟩ : ∃ v, (ks.map (·.2))[i]? = some v := ⟨_, List.getElem?_eq_getElem (by have := (List.getElem?_eq_some_iff.mp e1).1; rw [rv.length]; exact this)⟩
      obtain ⟨u', hu, ru⟩ := rv.get hv; rw [e1] at hu; cases hu
      exact ih i v d hv e2 u ru
    have l1 : (ks.map fun p => PyData.str p.1).length ≤ ds.length := by rw [List.length_map, hl]; exact Nat.le_refl _
    have l2 : ds.length ≤ (ks.map fun p => PyData.str p.1).length := by rw [List.length_map, hl]; exact Nat.le_refl _
    refine ⟨_, .dict (as := []) (bs := as) ho hc.1 hd (by rw [List.map_fst_zip l1]; exact q1) (by rw [List.map_snd_zip l2]; exact q), ?_⟩
    rw [List.mem_append, List.mem_singleton]
    exact fun z => z.elim (fun e => by rw [← e] at na; simp at na) m
end
section
variable {X : Cx}
/-- repr of such data -/
def rReprZ : List V → Hp → VK → Prop := fun xs H Q => ∃ v d p, xs = [v] ∧ Dz p H v d ∧ d.showable = true ∧ d.depth ≤ 60 ∧ d.shown.length ≤ sizeLine ∧ Q (.str d.shown) H
theorem call_reprZ (hgd : X.A.guards = some []) (hu : X.A.units + 64 < cLine) : CallR X (.builtin "repr") rReprZ := by
  intro pins s σ H xs us; intro Q I r h
  obtain ⟨v, d, p, rfl, hd, hs, hp, hz, q⟩ := h
  cases r with
  | cons r1 r2 =>
    cases r2
    rename_i u
    obtain ⟨as, hr, hm⟩ := hd.reads I u r1
    have fin : ∀ h' t tk, (∀ b o, s.heap.get? b = some o → h'.get? b = some o) → EP X pins σ Q (.str d.shown t) { s with heap := h', toks := tk } := fun h' t tk k => ⟨.str d.shown, H, I.kept k, ⟨_, rfl⟩, q⟩
    cases hr with
    | none => exact PySem.P.repr_of_none (fin _ _ _ fun _ _ z => z)
    | bool b => exact PySem.P.repr_of_bool (fin _ _ _ fun _ _ z => z)
    | int i t => exact PySem.P.repr_of_int (by simpa [PyData.showable] using hs) (fin _ _ _ fun _ _ z => z)
    | str x t => exact PySem.P.repr_of_str (fin _ _ _ fun _ _ z => z)
    | list h1 h2 h3 h4 => exact repr_of_reads' (.list h1 h2 h3 h4) hs (fun _ => hm) hgd (by omega) (fun _ _ z => z) (fun h' u tk k => fin h' u tk k) hz
    | tuple h1 h2 h3 h4 => exact repr_of_reads' (.tuple h1 h2 h3 h4) hs (fun _ => hm) hgd (by omega) (fun _ _ z => z) (fun h' u tk k => fin h' u tk k) hz
    | dict h1 h2 h3 h4 h5 => exact repr_of_reads' (.dict h1 h2 h3 h4 h5) hs (fun _ => hm) hgd (by omega) (fun _ _ z => z) (fun h' u tk k => fin h' u tk k) hz
end
end HX
set_option Elab.async false
set_option linter.all false
set_option maxRecDepth 100000
set_option maxHeartbeats 4400000
namespace HX
open L2 PyProof.Rows PySem.Spec PySem
theorem ok_app {a b : Str} (ha : PyData.strOk a = true) (hb : PyData.strOk b = true) : PyData.strOk (a ++ b) = true := by
  unfold PyData.strOk at *
  show (a.cps ++ b.cps).all _ = true
  rw [Array.all_append, ha, hb]; rfl
theorem ok_list {a : Str} (h : PyData.strOk a = true) : PyData.strOk (listText [a]) = true := by
  show PyData.strOk (((("[" : Str) ++ (("" : String) : Str)) ++ a) ++ "]") = true
  exact ok_app (ok_app (by decide +kernel) h) (by decide +kernel)
theorem ok_tup1 {a : Str} (h : PyData.strOk a = true) : PyData.strOk (tupleText [a]) = true := by
  show PyData.strOk ((("(" : Str) ++ a) ++ ((",)" : String) : Str)) = true
  exact ok_app (ok_app (by decide +kernel) h) (by decide +kernel)
theorem ok_tup2 {a b : Str} (h : PyData.strOk a = true) (k : PyData.strOk b = true) : PyData.strOk (tupleText [a, b]) = true := by
  show PyData.strOk ((("(" : Str) ++ (a ++ ", " ++ b)) ++ ((")" : String) : Str)) = true
  exact ok_app (ok_app (by decide +kernel) (ok_app (ok_app h (by decide +kernel)) k)) (by decide +kernel)
theorem ok_dict {a b : Str} (h : PyData.strOk a = true) (k : PyData.strOk b = true) : PyData.strOk (dictText [a ++ ": " ++ b]) = true := by
  show PyData.strOk ((("{" : Str) ++ (a ++ ": " ++ b)) ++ (("}" : String) : Str)) = true
  exact ok_app (ok_app (by decide +kernel) (ok_app (ok_app h (by decide +kernel)) k)) (by decide +kernel)
/-- data of a bounded text: n sheaths about small data -/
structure Bd (n : Nat) (d : PyData) : Prop where
  sh : d.showable = true
  dp : d.depth ≤ n + 4
  lv : d.leavesShort 24 = true
  wt : d.weight ≤ 60 * n + 400
  ok : PyData.strOk d.shown = true
theorem Bd.up {n m : Nat} {d : PyData} (h : Bd n d) (e : n ≤ m) : Bd m d := ⟨h.sh, by have := h.dp; omega, h.lv, by have := h.wt; omega, h.ok⟩
theorem Bd.l1 {n : Nat} {d : PyData} (h : Bd n d) : Bd (n + 1) (.list [d]) := by
  have a := h.dp; have b := h.wt
  refine ⟨by simp only [PyData.showable, PyData.showableAll, h.sh, Bool.and_self], ?_, by simp only [PyData.leavesShort, PyData.leavesShortAll, h.lv, Bool.and_self], ?_, ?_⟩
  · simp only [PyData.depth, PyData.depthAll]; omega
  · simp only [PyData.weight, PyData.weightAll]; omega
  · show PyData.strOk (listText [d.shown]) = true; exact ok_list h.ok
theorem Bd.t1 {n : Nat} {d : PyData} (h : Bd n d) : Bd (n + 1) (.tuple [d]) := by
  have a := h.dp; have b := h.wt
  refine ⟨by simp only [PyData.showable, PyData.showableAll, h.sh, Bool.and_self], ?_, by simp only [PyData.leavesShort, PyData.leavesShortAll, h.lv, Bool.and_self], ?_, ?_⟩
  · simp only [PyData.depth, PyData.depthAll]; omega
  · simp only [PyData.weight, PyData.weightAll]; omega
  · show PyData.strOk (tupleText [d.shown]) = true; exact ok_tup1 h.ok
/-- (d, 1) -/
theorem Bd.t2 {n : Nat} {d : PyData} (h : Bd n d) : Bd (n + 1) (.tuple [d, .int 1]) := by
  have a := h.dp; have b := h.wt
  have s1 : (PyData.int 1).showable = true := by decide +kernel
  have l1 : (PyData.int 1).leavesShort 24 = true := by decide +kernel
  have d1 : (PyData.int 1).depth = 0 := by decide +kernel
  have w1 : (PyData.int 1).weight = 1 := by decide +kernel
  refine ⟨by simp only [PyData.showable, PyData.showableAll, h.sh, Bool.true_and]; exact (Bool.and_true _).trans s1, ?_, by simp only [PyData.leavesShortAll, h.lv, l1, PyData.leavesShort, Bool.true_and]; first | rfl | exact (Bool.and_true _).trans l1, ?_, ?_⟩
  · simp only [PyData.depth, PyData.depthAll]; omega
  · have e : (PyData.tuple [d, .int 1]).weight = d.weight + 1 + ((PyData.int 1).weight + 1 + 0) := by simp only [PyData.weight, PyData.weightAll]
    omega
  · show PyData.strOk (tupleText [d.shown, (PyData.int 1).shown]) = true; exact ok_tup2 h.ok (by decide +kernel)
/-- {k: d}, k a short text -/
theorem Bd.d1 {n : Nat} {d : PyData} {k : Str} (h : Bd n d) (hk : k.cps.size ≤ 20) (hok : PyData.strOk (PyData.str k).shown = true) (hc : (k.cps.toList.all fun c => decide (c < 16 ^ 8)) = true) : Bd (n + 1) (.dict [(.str k, d)]) := by
  have a := h.dp; have b := h.wt
  refine ⟨by simp only [PyData.showable, PyData.showableKv, h.sh, Bool.and_self], ?_, by simp only [PyData.leavesShort, PyData.leavesShortKv, h.lv, hc, Bool.and_self], ?_, ?_⟩
  · simp only [PyData.depth, PyData.depthKv]; omega
  · simp only [PyData.weight, PyData.weightKv]; omega
  · show PyData.strOk (dictText [((PyData.str k).shown ++ ": " ++ d.shown)]) = true; exact ok_dict hok h.ok
theorem Bd.len {n : Nat} {d : PyData} (h : Bd n d) (hn : n ≤ 50) : d.shown.length ≤ sizeLine := by
  have q := PyData.shown_le 24 (by decide) d h.lv
  have b := h.wt
  have e := sizeLine_eq
  have m : (24 + 2) * d.weight ≤ 26 * 3400 := Nat.mul_le_mul_left _ (by omega)
  omega
/-- small data at once -/
theorem Bd.of {d : PyData} (h : (d.showable && decide (d.depth ≤ 4) && d.leavesShort 24 && decide (d.weight ≤ 400) && PyData.strOk d.shown) = true) : Bd 0 d := by
  simp only [Bool.and_eq_true, decide_eq_true_eq] at h
  exact ⟨h.1.1.1.1, by have := h.1.1.1.2; omega, h.1.1.2, by have := h.1.2; omega, h.2⟩
example : Bd 0 (.int (10 ^ 17)) := .of (by decide +kernel)
example : Bd 0 (.tuple [.tuple [], .list [.none]]) := .of (by decide +kernel)
end HX
set_option Elab.async false
set_option linter.all false
set_option maxRecDepth 100000
set_option maxHeartbeats 4400000
namespace HX
open L2 PyProof.Rows PySem.Spec PySem
/-- an exception that was caught, tracked as a value: its class at C, its dict at d -/
def ErrV (C : Addr) (d : Option Addr) (a : Addr) : HO := .ext fun h => ∃ (oe : Obj) (vs : Array Value), h.get? a = some oe ∧ Zc (.ref C) d oe ∧ oe.data = .fields vs
theorem errV_ok {P : Program} {w : World} {H : Hp} {h : Heap} {a C : Addr} {d : Option Addr} {oe : Obj} {vs : Array Value} (e : h.get? a = some oe) (z : Zc (.ref C) d oe) (q : oe.data = .fields vs) : ObjOk P w H h a (ErrV C d a) :=
  ⟨⟨oe, vs, e, z, q⟩, ⟨oe, e⟩, fun _ _ ⟨o, v, x, y⟩ k => ⟨o, v, k o x, y⟩⟩
theorem errV_at {P : Program} {w : World} {H : Hp} {h : Heap} {a C : Addr} {d : Option Addr} (k : HOk P w H h) (e : H a = some (ErrV C d a)) : ∃ (oe : Obj) (vs : Array Value), h.get? a = some oe ∧ Zc (.ref C) d oe ∧ oe.data = .fields vs :=
  let ⟨z, _⟩ := k a _ e; z
section
variable {X : Cx} {pins : List (Addr × Obj)} {σ : L2.St} {H : Hp} {s : Shared} {a : Addr} {oe : Obj} {vs : Array Value} {C : Addr} {d : Option Addr}
/-- at the suite's end: the exception, held by a pin so far, is tracked from now on -/
theorem keepErr (I : L2.Inv X ((a, oe) :: pins) σ H s) (n0 : X.s_0.heap.get? a = none) (np : ∀ p ∈ X.pn ++ pins, p.1 ≠ a) (z : Zc (.ref C) d oe) (q : oe.data = .fields vs) : L2.Inv X pins σ (upd H a (ErrV C d a)) s := by
  obtain ⟨ga, na, nL, _, nc⟩ := I.pin (a, oe) (List.mem_append_right _ List.mem_cons_self)
  have off : ∀ {b : Addr} {o : HO}, H b = some o → b ≠ a := fun e => ne_of_none e na
  have b0 : ∀ {b : Addr} {o : Obj}, X.s_0.heap.get? b = some o → b ≠ a := fun e y => by rw [y, n0] at e; cases e
  have hk : HOk X.prog X.w (upd H a (ErrV C d a)) s.heap := HOk.laidN I.hok (fun _ _ e => e) na (errV_ok ga z q)
  refine { ok := I.ok, os := I.os, bare := I.bare, base := ?_, loc := I.loc, cell := I.cell, free := ?_, freeC := fun x c e => ?_, pin := fun p hp => ?_, hok := hk, len := I.len }
  · exact { keep := I.base.keep, slot := I.base.slot, free := fun b o e n x => by rw [upd_ne (b0 e)]; exact I.base.free b o e n x, there := I.base.there,
            tups := fun b xs e => by have y := I.base.tups b xs e; rw [upd_ne (off y)]; exact y,
            frzs := fun b o u e => by have y := I.base.frzs b o u e; rw [upd_ne (off y)]; exact y,
            tbls := fun b ps e => by obtain ⟨m, y⟩ := I.base.tbls b ps e; exact ⟨m, by rw [upd_ne (off y)]; exact y⟩ }
  · rw [upd_ne (Ne.symm nL)]; exact I.free
  · have nca : c ≠ a := fun y => by
      obtain ⟨v, o, ho, hd⟩ := I.cell x c e
      rw [y, ga] at ho
      cases ho
      exact nc v hd
    rw [upd_ne nca]; exact I.freeC x c e
  · have y := I.pin p (by
      rcases List.mem_append.mp hp with h | h
      · exact List.mem_append_left _ h
      · exact List.mem_append_right _ (List.mem_cons_of_mem _ h))
    exact ⟨y.1, by rw [upd_ne (np p hp)]; exact y.2.1, y.2.2⟩
/-- what stands there, as the library's rules of instances ask it -/
theorem errV_inst (I : L2.Inv X pins σ H s) (e : H a = some (ErrV C none a)) : PySem.W.InstAt s.heap a ((s.heap.get? a).getD default) C none := by
  obtain ⟨oe, vs, g, z, q⟩ := errV_at I.hok e
  rw [g]
  exact ⟨g, z.1, by unfold PySem.W.notCls; rw [Option.getD_some, q] <;> rfl, by rw [Option.getD_some, z.2]; trivial⟩
end
section
variable {X : Cx} {C : Addr} {e : Expr} {te : TE} {pos : Pos} {n : Str} {pins : List (Addr × Obj)} {σ : L2.St} {H : Hp} {s : Shared}
/-- e.n of a tracked exception -/
def tErrF (C : Addr) (n : Str) (te : TE) : TE := fun σ H Q => te σ H fun x H1 => ∃ (a dd : Addr) (fs : List (Str × V)) (v : V), x = .ref a ∧ H1 a = some (ErrV C (some dd) a) ∧ H1 dd = some (.xd fs) ∧ fs.lookup n = some v ∧ Q v H1
theorem pe_errF (T : XfC X.K C) (hno : PySem.W.findIn X.K (.ref C) n = some none) (he : PE X e te) (hb : attributeBase e n X.env (eval e X.env) = eval e X.env := by rfl) : PE X (.Attribute e n pos) (tErrF C n te) := by
  refine ⟨fun pp t τ G R J w => attr_of hb (thn (he.run pp t τ G _ J w) fun u t1 ⟨x, G1, J1, rx, a, dd, fs, v, ex, ea, ed, l, q⟩ => ?_)⟩
  subst ex
  have eu : u = Value.ref a := rx; subst eu
  obtain ⟨oe, vs, g, z, hd⟩ := errV_at J1.hok ea
  obtain ⟨mA, hns, hr⟩ : ObjOk X.prog X.w G1 t1.heap dd (.xd fs) := J1.hok dd _ ed
  obtain ⟨od, ho, hl⟩ := lookIn_ns hns
  obtain ⟨u, hu, ru⟩ := RelO.some_of (v := v) (o := mA n) (by rw [← l]; exact hr n)
  have W : PySem.W.InstAt t1.heap a oe C (some od) := ⟨g, z.1, by unfold PySem.W.notCls; rw [hd] <;> rfl, by rw [z.2]; exact ho⟩
  exact HandSPX.exc_get J1.kIn W T.ga T.gg T.exC (PySem.W.findObj_own T.hdC hno rfl (by rw [hl, hu])) (handed_of ru) ⟨v, G1, J1.tok _, ru, q⟩
/-- what the class says so that isinstance asks its errors rightly -/
structure ErrC (K : PySem.W.Frag) (C : Addr) : Prop where
  cl : (PySem.W.clsIn K C).isSome = true
  ga : PySem.W.findIn K (.ref C) "__getattribute__" = some (some (.builtin "BaseException.__getattribute__"))
  gt : PySem.W.findIn K (.ref C) "__getattr__" = some none
  be : PySem.W.subIn K (.ref C) (.type "BaseException") = some true
  kc : PySem.W.findIn K (.ref C) "__class__" = some (some (.builtin "object.__class__"))
  kg : PySem.W.specialIn K (.builtin "object.__class__") "__get__" = some (some (.builtin "getset_descriptor.__get__"))
  kt : PySem.W.takesIn K (.builtin "object.__class__") = some true
  ob : PySem.W.mroIn K C (.type "object") = some true
theorem errV_some (J : L2.Inv X pins σ H s) {a dd : Addr} {fs : List (Str × V)} (ea : H a = some (ErrV C (some dd) a)) (ed : H dd = some (.xd fs)) : ∃ oe od, PySem.W.InstAt s.heap a oe C (some od) := by
  obtain ⟨oe, vs, g, z, hd⟩ := errV_at J.hok ea
  obtain ⟨mA, hns, _⟩ : ObjOk X.prog X.w H s.heap dd (.xd fs) := J.hok dd _ ed
  obtain ⟨od, ho, _⟩ := lookIn_ns hns
  exact ⟨oe, od, g, z.1, by unfold PySem.W.notCls; rw [hd] <;> rfl, by rw [z.2]; exact ho⟩
/-- isinstance of a tracked error -/
def rIsErr (K : PySem.W.Frag) : List V → Hp → VK → Prop := fun xs H Q => ∃ (a C dd : Addr) (fs : List (Str × V)) (c : V) (cv : Value) (b : Bool), xs = [.ref a, c] ∧ H a = some (ErrV C (some dd) a) ∧ H dd = some (.xd fs) ∧ ErrC K C ∧ (∀ u, RelV c u → u = cv) ∧ PySem.W.kitOne K (.ref C) cv = some b ∧ Q (.bl b) H
theorem call_isErr : CallR X (.builtin "isinstance") (rIsErr X.K) := by
  intro pp t τ G xs us; intro Q J r h
  obtain ⟨a, C, dd, fs, c, cv, b, rfl, ea, ed, T, hcv, e, q⟩ := h
  cases r with
  | cons rx rr =>
    cases rr with
    | cons rt rr =>
      cases rr; cases rx
      have ec := hcv _ rt; subst ec
      obtain ⟨oe, od, W⟩ := errV_some J ea ed
      exact PySem.W.kia_one (PySem.W.kitx_exc T.cl T.ga T.gt T.be T.kc T.kg T.kt T.ob) J.kIn W e (fun z => nomatch z) fun tk => ⟨.bl b, G, J.kept (t' := tk) fun _ _ z => z, rfl, q⟩
end
end HX
set_option Elab.async false
set_option linter.all false
set_option maxRecDepth 100000
set_option maxHeartbeats 4400000
namespace HX
open L2 PyProof.Rows PySem.Spec PySem
/-- as wAs, but behind the suite the caught error is a tracked value -/
def wKp (K : PySem.W.Frag) (c : Value) (i : Nat) (ts : Addr → Value → Option Addr → TS) (Wout : WX) (D : Ends) : WX := fun cls d σ H => ∃ b, PySem.W.exmOne K cls c = some b ∧ (b = false → Wout cls d σ H) ∧
  (b = true → ∃ C, cls = .ref C ∧ ∀ a, H a = none → ts a cls d { D with nx := fun σ' H' => D.nx (σ'.set i none) (upd H' a (ErrV C d a)), bk := fun σ' H' => D.bk (σ'.set i none) H', ct := fun σ' H' => D.ct (σ'.set i none) H' } (σ.set i (some (.ref a))) H)
section
variable {X : Cx} {x n : Str} {c : Value} {i : Nat} {b₀ : Stmt} {body suite : List Stmt} {np pos pos' : Pos} {tb : WX → TS} {ts : Addr → Value → Option Addr → TS} {Wout : WX}
theorem ps_try_keep (hs : X.stack = X.env :: X.outer) (hf : X.env.frame = some X.env.locals) (hN : X.N.Nodup) (hi : X.N[i]? = some n) (hln : X.env.kindOf n = some .local) (hc : Names X x c) (tk : Takes X Wout) (hex : X.ex = [])
    (hb : ∀ (W : WX) (pn : List (Addr × Obj)) (xe : Value → Shared → Prop), Takes (X.tr pn xe) W → PassesOwn (model X.prog X.w) X.A X.env xe → PSs (X.tr pn xe) body (tb W))
    (hsu : ∀ (a : Addr) (oe : Obj) (cls : Value) (d : Option Addr) (pn : List (Addr × Obj)), Zc cls d oe → (∃ vs, oe.data = .fields vs) → PSs (X.suite a ((a, oe) :: pn)) (b₀ :: suite) (ts a cls d)) :
    PS X (.Try body [.ExceptHandler (some (.Name x np)) (some n) (b₀ :: suite) pos'] [] [] pos) (fun D σ H => tb (wKp X.K c i ts Wout D) D σ H) := by
  refine ⟨fun pp t0 τ G D J0 w0 => ?_⟩
  have ok := J0.ok
  have fr : X.A.frames = some (X.env :: X.outer) := by rw [ok.frames, hs]
  let land : Value → Shared → Prop := fun e t => wpAny (model X.prog X.w) X.A (noteFrame e X.env) (fun _ t => wpAny (model X.prog X.w) X.A (setFlight e none) (fun _ t => wpAny (model X.prog X.w) X.A (handleBy e X.env [.ExceptHandler (some (.Name x np)) (some n) (b₀ :: suite) pos']) (SP X pp D) X.xe t) X.xe t) X.xe t
  have caught : Takes (X.tr (X.pn ++ pp) land) (wKp X.K c i ts Wout D) := by
    rintro u t ⟨a, B, tI, _, τ1, G1, cls, d, rfl, J1', nb, up, sky, na, os, ag, b, hb1, hno, hyes⟩
    have J1 : L2.Inv X pp τ1 G1 tI := J1'.ofTry ok
    have sky1 : Sky B (X.env :: X.outer) a (Zc cls d) X.env.locals t.heap := by rw [← hs]; exact sky
    refine Sky.land Zc.steady fr hf sky1 fun h3 fl3 up3 => ?_
    have J3 : L2.Inv X pp τ1 G1 { t with heap := h3 } := J1.landed nb fl3.1 (up.trans up3) os ag
    obtain ⟨oe3, vs3, he3, hz3, hd3⟩ := fl3.there
    have noF : a ∉ frs (X.env :: X.outer) := fun hm => by
      obtain ⟨_, o1, e1, z⟩ := fl3.2.2.1.mem hm
      rw [he3] at e1; cases e1; exact z _ hd3
    have nL : a ≠ X.env.locals := fun z => noF (List.mem_filterMap.mpr ⟨X.env, List.mem_cons_self, by rw [hf, z]⟩)
    have nO : a ∉ X.fs := fun hm => let ⟨e, he, q⟩ := List.mem_filterMap.mp hm; noF (List.mem_filterMap.mpr ⟨e, List.mem_cons_of_mem _ he, q⟩)
    have nB : B.get? a = none := fl3.2.1
    have nI : ∀ o, tI.heap.get? a ≠ some o := fun o e => by
      have z := nb a o e (by rw [hs]; exact noF)
      rw [nB] at z; cases z
    have n0 : X.s_0.heap.get? a = none := by
      cases e : X.s_0.heap.get? a with
      | none => rfl
      | some o => obtain ⟨o1, z⟩ := J1.base.there a o e (by rw [hex]; exact List.not_mem_nil); exact absurd z (nI o1)
    have noPin : ∀ p ∈ X.pn ++ pp, p.1 ≠ a := fun p hp z => nI p.2 (by rw [← z]; exact (J1.pin p hp).1)
    have S3 := J3.suite he3 hd3 na nL nO
    refine wpAny_handleBy_cons (codeAny_handlers_test ?_) (by intro q; cases q)
    have ty : PySem.W.Looks (model X.prog X.w) h3 (typeOf (.ref a)) cls := fun A Q E s k q => wpAny_typeOf_ref (k _ _ he3) (by rw [hz3.1]; exact q)
    have ans := PySem.W.exm_one (M := model X.prog X.w) J3.kIn ty hb1
    have named : ∀ {Q E : Value → Shared → Prop}, Q c { t with heap := h3 } → wpAny (model X.prog X.w) (X.A.mark (some (.ref a))) (eval (.Name x np) X.env) Q E { t with heap := h3 } := fun {Q E} q => by
      obtain ⟨hg, nd, hm | ⟨hm, hv, nn⟩⟩ := hc
      · exact ld_glob (X := X.suite a ((a, oe3) :: (X.pn ++ pp))) S3 hg hm q nd
      · exact ld_blt (X := X.suite a ((a, oe3) :: (X.pn ++ pp))) S3 hg hm hv q nn nd
    refine named (ans.here ?_)
    cases b with
    | false =>
      show wpAny _ X.A (handleBy (.ref a) X.env []) _ _ _
      refine wpAny_handleBy_nil ?_
      have on : wpAny (model X.prog X.w) X.A (setFlight (.ref a) X.env.frame) (fun _ t4 => wpAny (model X.prog X.w) X.A (throw (.ref a) : Sem Flow) (SP X pp D) X.xe t4) X.xe { t with heap := h3 } := by
        rw [hf]
        exact HandSPX.setFlight_upZ fl3 fun h4 held up4 => wpAny_throw (tk _ _ ⟨a, B, tI, pp, τ1, G1, cls, d, rfl, J1, nb, (up.trans up3).trans up4, .inr (.inr (by rw [hs]; exact held)), na, os, ag, hno rfl⟩)
      obtain ⟨_, _, _, oe, vs, T, _, _, he, _, hd, h1, _⟩ := id fl3
      unfold PySem.passOn
      refine wpAny_bind (wpAny_field he hd h1 ?_)
      rw [if_neg (show ¬ ((Value.ref T == Value.none) = true) from by simp)]
      first | exact wpAny_bind (wpAny_pure (wpAny_bind on)) | exact wpAny_bind on
    | true =>
      obtain ⟨C, ec, yes⟩ := hyes rfl
      subst ec
      refine codeAny_handlers_suite_as (HandSPX.lands_againZ fl3 fun h4 fl4 up4 => ?_)
      have J4 : L2.Inv X pp τ1 G1 { t with heap := h4 } := J1.landed nb fl4.1 ((up.trans up3).trans up4) os ag
      obtain ⟨oe4, vs4, he4, hz4, hd4⟩ := fl4.there
      refine store_ok (X := X.suite a ((a, oe4) :: (X.pn ++ pp))) (v := .ref a) (J4.suite he4 hd4 na nL nO) hN hi (.inl hln) rfl (fun t5 S5 => ?_) (.inr hln)
      refine wpAny_mono ((hsu a oe4 (.ref C) d (X.pn ++ pp) hz4 ⟨_, hd4⟩).run [] t5 _ G1 _ S5 (yes a na)) (fun f t6 r => ?_) (fun _ _ z => False.elim z)
      have plain : ∀ {τ6 : L2.St} {G6 : Hp} {Q : Shared → Prop}, L2.Inv (X.suite a ((a, oe4) :: (X.pn ++ pp))) [] τ6 G6 t6 → (∀ t7, L2.Inv X pp (τ6.set i none) G6 t7 → Q t7) →
          wpAny (model X.prog X.w) X.A (do bindName X.env n .none; unbindBehindTheSuite X.env n pos') (fun _ t7 => Q t7) X.xe t6 := fun S6 k => gone_ok (S6.unsuite ok) hN hi hln k
      match f, r with
      | .next, ⟨τ6, G6, S6, q6⟩ =>
        have U : L2.Inv X ((a, oe4) :: pp) τ6 G6 t6 := { ok := ok, os := S6.os, bare := S6.bare, base := S6.base, loc := S6.loc, cell := S6.cell, free := S6.free, freeC := S6.freeC, hok := S6.hok, len := S6.len, pin := fun p hp => S6.pin p (by
          rcases List.mem_append.mp hp with h | h
          · exact List.mem_append_left _ (List.mem_cons_of_mem _ (List.mem_append_left _ h))
          · rcases List.mem_cons.mp h with h | h
            · rw [h]; exact List.mem_append_left _ List.mem_cons_self
            · exact List.mem_append_left _ (List.mem_cons_of_mem _ (List.mem_append_right _ h))) }
        exact gone_ok U hN hi hln fun t7 J7 => ⟨_, _, keepErr J7 n0 noPin hz4 hd4, q6⟩
      | .brk, ⟨τ6, G6, S6, q6⟩ => exact plain S6 fun t7 J7 => ⟨_, _, J7, q6⟩
      | .cont, ⟨τ6, G6, S6, q6⟩ => exact plain S6 fun t7 J7 => ⟨_, _, J7, q6⟩
      | .ret u, ⟨v6, τ6, G6, S6, r6, q6⟩ => exact plain S6 fun t7 J7 => ⟨_, _, _, J7, r6, q6⟩
  refine wpAny_Try_except (wpAny_mono ((hb _ (X.pn ++ pp) land caught PassesOwn.looking).run [] t0 τ G D (J0.toTry _) w0) (fun f t1 r => ?_) (fun e t1 z => z))
  match f, r with
  | .next, ⟨τ1, G1, J1, q⟩ => exact wpAny_execs_nil ⟨τ1, G1, J1.ofTry ok, q⟩
  | .brk, ⟨τ1, G1, J1, q⟩ => exact ⟨τ1, G1, J1.ofTry ok, q⟩
  | .cont, ⟨τ1, G1, J1, q⟩ => exact ⟨τ1, G1, J1.ofTry ok, q⟩
  | .ret u, ⟨v, τ1, G1, J1, rv, q⟩ => exact ⟨v, τ1, G1, J1.ofTry ok, rv, q⟩
end
end HX
set_option Elab.async false
set_option linter.all false
set_option maxRecDepth 100000
set_option maxHeartbeats 4400000
namespace HX
open L2 PyProof.Rows PySem.Spec PySem
section
variable {X : Cx} {e : Expr} {es : List Expr} {ta : TA} {p pos : Pos} {x n : Str} {CX : CXT} {C fI : Addr} {k : Nat} {fd : FuncData} {ps : List Str} {sp : Sp} {te : TE} {pins : List (Addr × Obj)} {σ : L2.St} {H : Hp} {s : Shared}
/-- C(e, ..) of an own error with an own __init__, as a value -/
def tMkV (C : Addr) (sp : Sp) (t : TA) : TE := fun σ H Q => t σ H fun vs H1 => vs.length ≤ 1000 ∧ ∀ a, H1 a = none → sp (.ref a :: vs) (upd H1 a (exo a C none)) (fun v H2 => v = .non ∧ Q (.ref a) H2) (fun _ _ _ => False)
theorem pe_mkV (T : OexC X.K C) (iC : PySem.W.findIn X.K (.ref C) "__init__" = some (some (.ref fI))) (tI : PySem.W.typeIn X.K (.ref fI) = some (.type "function")) (F1 : FnOk X.prog X.w X.K X.mg X.base CX k fI fd ps sp) (hr : Room (k + 1) X.A) (hb : Binds X.K fd ps [])
    (hx : Passes CX X (fun _ _ _ => False)) (hg : Gl X x) (hm : X.mg x = some (.ref C)) (ha : PA X (e :: es) ta) (nd : (x == ("__debug__" : Str)) = false := by decide)
    (hst : starEach (e :: es) X.env = (false, eval e X.env) :: starEach es X.env := by rfl) (hpl : (backTo pos (starEach es X.env)).any (·.1) = false := by rfl) : PE X (.Call (.Name x p) (e :: es) [] pos) (tMkV C sp ta) := by
  refine ⟨fun pp t0 τ G R J w => wpAny_Call_Name_kw (ld_glob J hg hm ?_ nd)⟩
  obtain ⟨nm, q, N, bs, bm, sn, sub, ab, col, dd, k0, k1, k2, k3, k5, hC, hbm⟩ := T.cls
  refine PySem.W.callWith_K (h₀ := X.base) J.ok.mod.kin T.kC (thn (ha.run pos pp t0 τ G _ J w) fun us t1 ⟨vs, G1, J1, r1, few, q1⟩ => ⟨J1.kIn, ?_⟩) hst hpl
  show wpAny _ _ (call (.ref C) us) _ _ _
  obtain ⟨hp, g, dr, tk, os⟩ := t1
  let a := hp.objs.size + 1
  let h2 : Heap := (hp.push (PySem.W.kdv_tup us)).push (PySem.HandSPX.excO C hp.objs.size)
  have na : G1 a = none := J1.hok.fresh (Nat.le_succ _)
  have want := q1 a na
  have got : h2.get? a = some (PySem.HandSPX.excO C hp.objs.size) := by show ((hp.push (PySem.W.kdv_tup us)).push (PySem.HandSPX.excO C hp.objs.size)).get? (hp.objs.size + 1) = _; heap_get
  have J2 : L2.Inv X pp τ (upd G1 a (exo a C none)) ⟨h2, g, dr, tk, os⟩ := J1.laid (t' := tk) (a := a) (o := exo a C none) (h' := h2) (fun b o y => Heap.get?_push_of_some _ (Heap.get?_push_of_some _ y)) (Nat.le_succ _) (exo_ok got)
  have r2 : Vals (V.ref a :: vs) (Value.ref a :: us) := .cons rfl r1
  have nps : (Value.ref a :: us ++ []).length = ps.length := by rw [List.append_nil, ← r2.length]; exact F1.len _ _ _ _ want
  have nus : us.length ≤ sizeLine := by rw [← Paired.length r1, sizeLine_eq]; omega
  have bound := hb _ (Value.ref a :: us) J2.kIn nps; rw [List.append_nil] at bound
  refine wpAny_call (PySem.HandSPX.call_own F.excBase_ValueError (fun Y => PySem.HandSPX.refsVE_contains Y bm hbm) (J1.kIn _ _ hC) (PySem.W.looks_findIn J1.kIn iC) (fun self => PySem.W.bind_fn J1.kIn self tI) nus
    (codeAny_mono (F1.run _ X.stack _ _ ⟨Value.ref a :: us, []⟩ (Value.ref a :: us) _ _ (fun _ _ _ => False) (hr.make C us []) (J2.env0.make C us []) bound r2 want) fun z t2 w2 => ?_))
  match z, w2 with
  | .ok (.ret u), w2 =>
    obtain ⟨v, G2, J3, rv, ev, q2⟩ := J2.after w2
    subst ev
    exact ⟨rv, .ref a, G2, J3, rfl, q2⟩
  | .ok .next, w2 | .ok .brk, w2 | .ok .cont, w2 => exact False.elim w2
  | .error er, w2 => exact hx pp τ _ _ er t2 J2 w2
/-- an error of the class at C with these fields: one that was made, or one that was caught -/
def ErrIs (H : Hp) (C a : Addr) (fs : List (Str × V)) : Prop := ∃ dd, (H a = some (ErrV C (some dd) a) ∧ H dd = some (.xd fs)) ∨ (H a = some (exo a C (some dd)) ∧ H dd = some (exd dd fs))
theorem errIs_inst {a : Addr} {fs : List (Str × V)} (J : L2.Inv X pins σ H s) (h : ErrIs H C a fs) : ∃ (oe od : Obj) (mA : Str → Option Value), PySem.W.InstAt s.heap a oe C (some od) ∧ (∀ f, PySem.W.lookIn f od = some (mA f)) ∧ ∀ f, RelO (fs.lookup f) (mA f) := by
  obtain ⟨dd, ⟨ea, ed⟩ | ⟨ea, ed⟩⟩ := h
  · obtain ⟨oe, vs, g, z, hd⟩ := errV_at J.hok ea
    obtain ⟨mA, hns, hr⟩ : ObjOk X.prog X.w H s.heap dd (.xd fs) := J.hok dd _ ed
    obtain ⟨od, ho, hl⟩ := lookIn_ns hns
    exact ⟨oe, od, mA, ⟨g, z.1, by unfold PySem.W.notCls; rw [hd] <;> rfl, by rw [z.2]; exact ho⟩, hl, hr⟩
  · obtain ⟨t0, g⟩ := exo_at J.hok ea
    obtain ⟨mA, hns, hr⟩ := exd_at J.hok ed
    obtain ⟨od, ho, hl⟩ := lookIn_ns hns
    exact ⟨_, od, mA, ⟨g, rfl, by unfold PySem.W.notCls; rfl, ho⟩, hl, hr⟩
/-- e.n of such an error -/
def tErrN (C : Addr) (n : Str) (te : TE) : TE := fun σ H Q => te σ H fun x H1 => ∃ (a : Addr) (fs : List (Str × V)) (v : V), x = .ref a ∧ ErrIs H1 C a fs ∧ fs.lookup n = some v ∧ Q v H1
theorem pe_errN (T : XfC X.K C) (hno : PySem.W.findIn X.K (.ref C) n = some none) (he : PE X e te) (hb : attributeBase e n X.env (eval e X.env) = eval e X.env := by rfl) : PE X (.Attribute e n pos) (tErrN C n te) := by
  refine ⟨fun pp t τ G R J w => attr_of hb (thn (he.run pp t τ G _ J w) fun u t1 ⟨x, G1, J1, rx, a, fs, v, ex, ea, l, q⟩ => ?_)⟩
  subst ex
  have eu : u = Value.ref a := rx; subst eu
  obtain ⟨oe, od, mA, W, hl, hr⟩ := errIs_inst J1 ea
  obtain ⟨u, hu, ru⟩ := RelO.some_of (v := v) (o := mA n) (by rw [← l]; exact hr n)
  exact HandSPX.exc_get J1.kIn W T.ga T.gg T.exC (PySem.W.findObj_own T.hdC hno rfl (by rw [hl, hu])) (handed_of ru) ⟨v, G1, J1.tok _, ru, q⟩
/-- isinstance of such an error -/
def rIsN (K : PySem.W.Frag) : List V → Hp → VK → Prop := fun xs H Q => ∃ (a C : Addr) (fs : List (Str × V)) (c : V) (cv : Value) (b : Bool), xs = [.ref a, c] ∧ ErrIs H C a fs ∧ ErrC K C ∧ (∀ u, RelV c u → u = cv) ∧ PySem.W.kitOne K (.ref C) cv = some b ∧ Q (.bl b) H
theorem call_isN : CallR X (.builtin "isinstance") (rIsN X.K) := by
  intro pp t τ G xs us; intro Q J r h
  obtain ⟨a, C, fs, c, cv, b, rfl, ea, T, hcv, e, q⟩ := h
  cases r with
  | cons rx rr =>
    cases rr with
    | cons rt rr =>
      cases rr; cases rx
      have ec := hcv _ rt; subst ec
      obtain ⟨oe, od, _, W, _⟩ := errIs_inst J ea
      exact PySem.W.kia_one (PySem.W.kitx_exc T.cl T.ga T.gt T.be T.kc T.kg T.kt T.ob) J.kIn W e (fun z => nomatch z) fun tk => ⟨.bl b, G, J.kept (t' := tk) fun _ _ z => z, rfl, q⟩
end
end HX
set_option Elab.async false
set_option linter.all false
set_option maxRecDepth 100000
set_option maxHeartbeats 4400000
namespace PySem.HXk
open PySem PySem.HandSPX Builtin Builtin.ObjectAttr
/-- at C stands the class of an own error that hangs on ValueError; bm: what its mro has behind it -/
def Own (hp : Heap) (C : Addr) (bm : List Value) : Prop := ∃ nm q N bs sn sub ab col dd k0 k1 k2 k3 k5, hp.get? C = some (excClassObj nm q C N bs bm true sn sub ab col dd k0 k1 k2 k3 k5 "ValueError.__new__") ∧ refsVE bm = true
/-- C(k = v, ..) of such a class with an own __init__: the object is made without the keywords, which go to __init__ -/
theorem made_by_keyword {pr : Program} {wd : World} {Ar : Around} {Rs : Result → Shared → Prop} {hp : Heap} {gs : Array GenState} {dr : Drawn} {tk : Nat} {os : OsState} {C fI : Addr} {bm : List Value} {ks : List (Str × Value)}
    (cl : Own hp C bm) (ini : W.Looks (model pr wd) hp (typeLookup (.ref C) "__init__") (some (.ref fI))) (bnd : ∀ self, W.Looks (model pr wd) hp (bindSpecial (.ref fI) self) (.ref fI, [self]))
    (go : codeAny (model pr wd) (Ar.under (.builtin "type.__call__" ⟨[.ref C], ks⟩)) (.call (.ref fI) ⟨[.ref (hp.objs.size + 1)], ks⟩) (W.InitBack (hp.objs.size + 1) Rs) ⟨(hp.push (W.kdv_tup [])).push (excO C hp.objs.size), gs, dr, tk, os⟩) :
    codeAny (model pr wd) Ar (.call (.ref C) ⟨[], ks⟩) Rs ⟨hp, gs, dr, tk, os⟩ := by
  obtain ⟨nm, q, N, bs, sn, sub, ab, col, dd, k0, k1, k2, k3, k5, at_, rv⟩ := cl
  have Z := F.excBase_ValueError
  have has : ∀ Y : String, (Value.ref C :: bm).contains (.type Y) = veTail.contains (.type Y) := fun Y => by rw [List.contains_cons, refsVE_contains Y bm rv]; rfl
  have ty : W.Looks (model pr wd) hp (typeOf (.ref C)) (.type "type") := fun _ _ _ _ kp qq => wpAny_typeOf_ref (kp _ _ at_) qq
  have lk := tc_lookup
  have bd := tc_bind (.ref C)
  have tyIs : (⟨hp, gs, dr, tk, os⟩ : Shared).TypeIs (.ref C) "type" := ⟨_, at_, rfl⟩
  -- the call's own check, then its body
  have core : wpAny (model pr wd) (Ar.under (.builtin "type.__call__" ⟨[.ref C], ks⟩)) (Builtin.«type.__call__» ⟨[.ref C], ks⟩) (fun z s' => match z with | .done r => Rs (.ok r) s' | .again c => c.quiet = true ∧ codeAny (model pr wd) Ar c Rs s') (fun e s' => Rs (.error e) s') ⟨hp, gs, dr, tk, os⟩ := by
    repeat (first | with_reducible refine wpAny_loadPart_at at_ ?_ | with_reducible refine wpAny_madeBy_exc at_ ?_ | wp_step)
    refine codeAny_call_builtin_code (Code.quiet_builtin _ Z.quiet) ?_
    have star := Z.noStar
    simp only [checkBuiltinCall, Z.newKind, Z.newSplit, Z.newRow]
    repeat (first | refine wpAny_loadPart_at at_ ?_ | (refine wpAny_isSubtype_exc at_ ?_; rw [has]) | refine wpAny_staticBase_exc at_ ?_ | refine wpAny_madeBy_exc at_ ?_ | simp only [bne_self_eq_false, Bool.false_eq_true, if_false] | wp_step)
    have ends := Z.ends
    refine codeAny_builtinAt Z.entry (wpAt_bind ?_)
    (show wpAt _ _ _ (stack >>= _) _ _ _); refine wpAt_bind (wpAt_stack fun _ _ => wpAt_of_wpAny ?_)
    wp_walk
    refine wpAt_of_wpAny ?_
    rw [Z.owner]
    repeat (first | with_reducible refine wpAny_madeHere_exc Z.canon at_ ?_ | with_reducible refine wpAny_loadPart_at at_ ?_ | (with_reducible refine wpAny_isSubtype_exc at_ ?_; rw [has]) | wp_step)
    have keep : ∀ b o, hp.get? b = some o → ((hp.push (W.kdv_tup [])).push (excO C hp.objs.size)).get? b = some o := fun _ _ y => Heap.get?_push_of_some _ (Heap.get?_push_of_some _ y)
    refine wpAny_isSubtype_exc (keep _ _ at_) ?_
    rw [show (Value.ref C :: bm).contains (.ref C) = true from by simp]
    repeat (first | wp_step)
    rw [← show (hp.push (W.kdv_tup [])).objs.size = hp.objs.size + 1 from Heap.size_push _ _] at go
    refine (ini.keeps keep).at (wpAny_holding (wpAny_bind (((bnd (.ref (hp.push (W.kdv_tup [])).objs.size)).keeps keep).at (wpAny_bind (wpAny_call (codeAny_mono go fun z s' y => ?_))))))
    rcases z with e | (v | _ | _ | _) <;> first | exact y | exact y.elim | skip
    obtain ⟨rfl, y⟩ := y
    first
      | exact wpAny_pure (wpAny_pure y)
      | (wp_walk; exact y)
  refine codeAny_of_tree (show wpAny _ _ (callAny (.ref C) _) _ _ _ from ?_)
  repeat (any_goals (first | assumption | with_reducible refine wpAny_loadPart_at at_ ?_ | wp_step))
  refine ⟨rfl, codeAny_call_builtin_at (Code.quiet_builtin _ (by decide +kernel)) entry_typeCall (W.check_slot tc_kind tc_split ?_ (W.tc_args _ _ _) ?_)⟩
  · unfold isInstance
    exact ty.andThen (.of_pure (by kernel_rfl))
  · exact core
end PySem.HXk
namespace HX
open L2 PyProof.Rows PySem.Spec PySem
theorem ErrIs.ex {H H' : Hp} {C a : Addr} {fs : List (Str × V)} (h : ErrIs H C a fs) (e : Ex H H') : ErrIs H' C a fs := let ⟨dd, q⟩ := h; ⟨dd, q.elim (fun ⟨x, y⟩ => .inl ⟨e _ _ x, e _ _ y⟩) (fun ⟨x, y⟩ => .inr ⟨e _ _ x, e _ _ y⟩)⟩
/-- an own error's __init__ that keeps what it gets under n -/
def spEI (C : Addr) (n : Str) : Sp := fun vs H Q _ => ∃ (a : Addr) (v : V), vs = [.ref a, v] ∧ H a = some (exo a C none) ∧ ∀ dx, H dx = none → dx ≠ a → Q .non (upd (upd H dx (exd dx [(n, v)])) a (exo a C (some dx)))
/-- what is asked of such a class -/
structure ErrT (K : PySem.W.Frag) (mg : Str → Option Value) (x n : Str) (C f : Addr) (d : FuncData) : Prop where
  oex : OexC K C
  xf : XfC K C
  er : ErrC K C
  no : PySem.W.findIn K (.ref C) n = some none
  ini : PySem.W.findIn K (.ref C) "__init__" = some (some (.ref f))
  fn : PySem.W.typeIn K (.ref f) = some (.type "function")
  b : Binds K d ["self", n] []
  kb : ∀ (s : Shared) (a u : Value), K.In s.heap → BindsTo s d ⟨[a], [(n, u)]⟩ [("self", a), (n, u)]
  m : mg x = some (.ref C)
section
variable {X : Cx} {e : Expr} {p pos kpos : Pos} {x n : Str} {C f : Addr} {d : FuncData} {te : TE} {k : Nat}
theorem err_of {H : Hp} {a dx C : Addr} {n : Str} {v : V} (na : H a = none) (nd : (upd H a (exo a C none)) dx = none) (ne : dx ≠ a) : Ex H (upd (upd (upd H a (exo a C none)) dx (exd dx [(n, v)])) a (exo a C (some dx))) ∧ ErrIs (upd (upd (upd H a (exo a C none)) dx (exd dx [(n, v)])) a (exo a C (some dx))) C a [(n, v)] := by
  refine ⟨fun b o hb => ?_, dx, .inr ⟨upd_same, by rw [upd_ne ne, upd_same]⟩⟩
  have h1 : b ≠ a := ne_of_none hb na
  have h2 : (upd H a (exo a C none)) b = some o := by rw [upd_ne h1]; exact hb
  have h3 : b ≠ dx := ne_of_none h2 nd
  rw [upd_ne h1, upd_ne h3]; exact h2
/-- C(e), the error as a value -/
def tMkE (C : Addr) (n : Str) (te : TE) : TE := fun σ H Q => te σ H fun v H1 => ∀ (a : Addr) (H2 : Hp), H1 a = none → Ex H1 H2 → ErrIs H2 C a [(n, v)] → Q (.ref a) H2
theorem pe_mkE (T : ErrT X.K X.mg x n C f d) (F1 : FnOk X.prog X.w X.K X.mg X.base CX0 k f d ["self", n] (spEI C n)) (hr : Room (k + 1) X.A) (hg : Gl X x) (he : PE X e te) (nd : (x == ("__debug__" : Str)) = false := by decide)
    (hst : starEach [e] X.env = (false, eval e X.env) :: starEach [] X.env := by rfl) (hpl : (backTo pos (starEach [] X.env)).any (·.1) = false := by rfl) : PE X (.Call (.Name x p) [e] [] pos) (tMkE C n te) := by
  refine ⟨fun pp t0 τ G R J w => wpAny_Call_Name_kw (ld_glob J hg T.m ?_ nd)⟩
  obtain ⟨nm, q, N, bs, bm, sn, sub, ab, col, dd, k0, k1, k2, k3, k5, hC, hbm⟩ := T.oex.cls
  refine PySem.W.callWith_K (h₀ := X.base) J.ok.mod.kin T.oex.kC (thn ((pa_cons (hs := hst) he pa_nil).run pos pp t0 τ G (fun vs H1 => match vs with | [v] => ∀ (a : Addr) (H2 : Hp), H1 a = none → Ex H1 H2 → ErrIs H2 C a [(n, v)] → R (.ref a) H2 | _ => False) J w) fun us t1 ⟨vs, G1, J1, r1, q1⟩ => ⟨J1.kIn, ?_⟩) hst hpl
  (show wpAny _ _ (call (.ref C) us) _ _ _); match vs, q1, r1 with
  | [v], q1, .cons (b := u) ru .nil =>
  obtain ⟨hp, g, dr, tk, os⟩ := t1
  let a := hp.objs.size + 1
  let h2 : Heap := (hp.push (PySem.W.kdv_tup [u])).push (PySem.HandSPX.excO C hp.objs.size)
  have na : G1 a = none := J1.hok.fresh (Nat.le_succ _)
  have got : h2.get? a = some (PySem.HandSPX.excO C hp.objs.size) := by show ((hp.push (PySem.W.kdv_tup [u])).push (PySem.HandSPX.excO C hp.objs.size)).get? (hp.objs.size + 1) = _; heap_get
  have J2 : L2.Inv X pp τ (upd G1 a (exo a C none)) ⟨h2, g, dr, tk, os⟩ := J1.laid (t' := tk) (a := a) (o := exo a C none) (h' := h2) (fun b o y => Heap.get?_push_of_some _ (Heap.get?_push_of_some _ y)) (Nat.le_succ _) (exo_ok got)
  have want : spEI C n [.ref a, v] (upd G1 a (exo a C none)) (fun w H2 => w = .non ∧ R (.ref a) H2) (fun _ _ _ => False) := ⟨a, v, rfl, upd_same, fun dx ndx ne => ⟨rfl, let ⟨e1, e2⟩ := err_of (v := v) (n := n) na ndx ne; q1 a _ na e1 e2⟩⟩
  have r2 : Vals [V.ref a, v] [Value.ref a, u] := .cons rfl (.cons ru .nil)
  have bound := T.b _ [Value.ref a, u] J2.kIn rfl; rw [List.append_nil] at bound
  refine wpAny_call (PySem.HandSPX.call_own F.excBase_ValueError (fun Y => PySem.HandSPX.refsVE_contains Y bm hbm) (J1.kIn _ _ hC) (PySem.W.looks_findIn J1.kIn T.ini) (fun self => PySem.W.bind_fn J1.kIn self T.fn) (by show 1 ≤ sizeLine; decide)
    (codeAny_mono (F1.run _ X.stack _ _ ⟨[Value.ref a, u], []⟩ [Value.ref a, u] _ _ (fun _ _ _ => False) (hr.make C [u] []) (J2.env0.make C [u] []) bound r2 want) fun z t2 w2 => ?_))
  match z, w2 with
  | .ok (.ret u), w2 =>
    obtain ⟨v, G2, J3, rv, ev, q2⟩ := J2.after w2
    subst ev
    exact ⟨rv, .ref a, G2, J3, rfl, q2⟩
  | .ok .next, w2 | .ok .brk, w2 | .ok .cont, w2 => exact False.elim w2
  | .error er, w2 => exact pass0 pp τ _ _ er t2 J2 w2
/-- C(n=e), the error as a value -/
theorem pe_mkEK (T : ErrT X.K X.mg x n C f d) (F1 : FnOk X.prog X.w X.K X.mg X.base CX0 k f d ["self", n] (spEI C n)) (hr : Room (k + 1) X.A) (hg : Gl X x) (he : PE X e te) (nd : (x == ("__debug__" : Str)) = false := by decide)
    (hall : (backToKw pos (keywordEach [⟨some n, e, kpos⟩] X.env)).all (·.1.isSome) = true := by rfl) (hks : (backToKw pos (keywordEach [⟨some n, e, kpos⟩] X.env)).filterMap (·.1) = [n] := by rfl)
    (hpl : ((backTo pos (starEach [] X.env)).any (·.1) || (backToKw pos (keywordEach [⟨some n, e, kpos⟩] X.env)).any (·.1.isNone)) = false := by rfl) : PE X (.Call (.Name x p) [] [⟨some n, e, kpos⟩] pos) (tMkE C n te) := by
  refine ⟨fun pp t0 τ G R J w => wpAny_Call_Name_kw (ld_glob J hg T.m ?_ nd)⟩
  obtain ⟨nm, q, N, bs, bm, sn, sub, ab, col, dd, k0, k1, k2, k3, k5, hC, hbm⟩ := T.oex.cls
  refine PySem.W.callWith_KW0 (h₀ := X.base) J.ok.mod.kin T.oex.kC hall ?_ hpl
  refine thn ((pk_cons (nm := some n) he pk_nil).run pos pp t0 τ G (fun vs H1 => match vs with | [v] => ∀ (a : Addr) (H2 : Hp), H1 a = none → Ex H1 H2 → ErrIs H2 C a [(n, v)] → R (.ref a) H2 | _ => False) J w) fun us t1 ⟨vs, G1, J1, r1, q1⟩ => ⟨J1.kIn, ?_⟩
  rw [hks]
  match vs, q1, r1 with
  | [v], q1, .cons (b := u) ru .nil =>
  show wpAny _ _ (call (.ref C) [] [(n, u)]) _ _ _
  obtain ⟨hp, g, dr, tk, os⟩ := t1
  let a := hp.objs.size + 1
  let h2 : Heap := (hp.push (PySem.W.kdv_tup [])).push (PySem.HandSPX.excO C hp.objs.size)
  have na : G1 a = none := J1.hok.fresh (Nat.le_succ _)
  have got : h2.get? a = some (PySem.HandSPX.excO C hp.objs.size) := by show ((hp.push (PySem.W.kdv_tup [])).push (PySem.HandSPX.excO C hp.objs.size)).get? (hp.objs.size + 1) = _; heap_get
  have J2 : L2.Inv X pp τ (upd G1 a (exo a C none)) ⟨h2, g, dr, tk, os⟩ := J1.laid (t' := tk) (a := a) (o := exo a C none) (h' := h2) (fun b o y => Heap.get?_push_of_some _ (Heap.get?_push_of_some _ y)) (Nat.le_succ _) (exo_ok got)
  have want : spEI C n [.ref a, v] (upd G1 a (exo a C none)) (fun w H2 => w = .non ∧ R (.ref a) H2) (fun _ _ _ => False) := ⟨a, v, rfl, upd_same, fun dx ndx ne => ⟨rfl, let ⟨e1, e2⟩ := err_of (v := v) (n := n) na ndx ne; q1 a _ na e1 e2⟩⟩
  have r2 : Vals [V.ref a, v] [Value.ref a, u] := .cons rfl (.cons ru .nil)
  have bound := T.kb ⟨h2, g, dr, tk, os⟩ (.ref a) u J2.kIn
  refine wpAny_call (PySem.HXk.made_by_keyword ⟨nm, q, N, bs, sn, sub, ab, col, dd, k0, k1, k2, k3, k5, J1.kIn _ _ hC, hbm⟩ (PySem.W.looks_findIn J1.kIn T.ini) (fun self => PySem.W.bind_fn J1.kIn self T.fn)
    (codeAny_mono (F1.run _ X.stack _ _ ⟨[Value.ref a], [(n, u)]⟩ [Value.ref a, u] _ _ (fun _ _ _ => False) (hr.make C [] [(n, u)]) (J2.env0.make C [] [(n, u)]) bound r2 want) fun z t2 w2 => ?_))
  match z, w2 with
  | .ok (.ret u), w2 =>
    obtain ⟨v, G2, J3, rv, ev, q2⟩ := J2.after w2
    subst ev
    exact ⟨rv, .ref a, G2, J3, rfl, q2⟩
  | .ok .next, w2 | .ok .brk, w2 | .ok .cont, w2 => exact False.elim w2
  | .error er, w2 => exact pass0 pp τ _ _ er t2 J2 w2
/-- C() of an own error without an own __init__, as a value -/
def tMk0 (C : Addr) : TE := fun σ H Q => ∀ (a : Addr), H a = none → Q (.ref a) (upd H a (exo a C none))
theorem pe_mk0 (q : PySem.W.excIn X.K C [.type "ValueError", .type "Exception", .type "BaseException", .type "object"] "ValueError.__new__" = true) (gC : X.mg x = some (.ref C)) (kC : PySem.W.keepIn X.K (.ref C) = true) (hg : Gl X x) (nd : (x == ("__debug__" : Str)) = false := by decide) : PE X (.Call (.Name x p) [] [] pos) (tMk0 C) := by
  refine ⟨fun pp t0 τ G R J w => wpAny_Call_Name_kw (ld_glob J hg gC ?_ nd)⟩
  refine PySem.W.callWith_K0 J.kIn kC ?_
  obtain ⟨bm, N, nm, qn, bs, hdct, sn, sub, ab, col, dd, k0, k1, k2, k3, k5, mN, hC, hN, hni, T⟩ := exc_obj J.kIn q
  show wpAny _ _ (call (.ref C) []) _ _ _
  obtain ⟨hp, g, dr, tk, os⟩ := t0
  refine wpAny_call_exc_subT F.excBase_ValueError T hC hN hni (fun h' e hm => ?_) (by show 0 ≤ sizeLine; decide)
  obtain ⟨t, he, _, _⟩ := hm.there
  have na : G e = none := J.hok.gone hm.new
  exact ⟨.ref e, _, J.laidN (t' := tk) (a := e) (o := exo e C none) (h' := h') hm.keeps hm.new na (exo_ok he), rfl, w e na⟩
/-- an error, with a dict or without -/
def ErrAny (H : Hp) (C a : Addr) : Prop := (∃ fs, ErrIs H C a fs) ∨ H a = some (exo a C none)
theorem ErrAny.ex {H H' : Hp} {C a : Addr} (h : ErrAny H C a) (e : Ex H H') : ErrAny H' C a := h.elim (fun ⟨fs, z⟩ => .inl ⟨fs, z.ex e⟩) (fun z => .inr (e _ _ z))
def rIsA (K : PySem.W.Frag) : List V → Hp → VK → Prop := fun xs H Q => ∃ (a C : Addr) (c : V) (cv : Value) (b : Bool), xs = [.ref a, c] ∧ ErrAny H C a ∧ ErrC K C ∧ (∀ u, RelV c u → u = cv) ∧ PySem.W.kitOne K (.ref C) cv = some b ∧ Q (.bl b) H
theorem call_isA : CallR X (.builtin "isinstance") (rIsA X.K) := by
  intro pp t τ G xs us; intro Q J r h
  obtain ⟨a, C, c, cv, b, rfl, ea, T, hcv, e, q⟩ := h
  cases r with
  | cons rx rr =>
    cases rr with
    | cons rt rr =>
      cases rr; cases rx
      have ec := hcv _ rt; subst ec
      rcases ea with ⟨fs, ea⟩ | ea
      · obtain ⟨oe, od, _, W, _⟩ := errIs_inst J ea
        exact PySem.W.kia_one (PySem.W.kitx_exc T.cl T.ga T.gt T.be T.kc T.kg T.kt T.ob) J.kIn W e (fun z => nomatch z) fun tk => ⟨.bl b, G, J.kept (t' := tk) fun _ _ z => z, rfl, q⟩
      · obtain ⟨t0, g⟩ := exo_at J.hok ea
        have W : PySem.W.InstAt t.heap a _ C none := ⟨g, rfl, by unfold PySem.W.notCls; rfl, trivial⟩
        exact PySem.W.kia_one (PySem.W.kitx_exc T.cl T.ga T.gt T.be T.kc T.kg T.kt T.ob) J.kIn W e (fun z => nomatch z) fun tk => ⟨.bl b, G, J.kept (t' := tk) fun _ _ z => z, rfl, q⟩
end
end HX
set_option Elab.async false
set_option linter.all false
set_option maxRecDepth 100000
set_option maxHeartbeats 4400000
namespace HX
open L2 PyProof.Rows PySem.Spec PySem
section
variable {X : Cx} {e : Expr} {te : TE} {pos : Pos} {n : Str} {pins : List (Addr × Obj)} {σ : L2.St} {H : Hp} {s : Shared}
/-- e.n of an error of any such class -/
def tErrA (K : PySem.W.Frag) (n : Str) (te : TE) : TE := fun σ H Q => te σ H fun x H1 => ∃ (a C : Addr) (fs : List (Str × V)) (v : V), x = .ref a ∧ ErrIs H1 C a fs ∧ XfC K C ∧ PySem.W.findIn K (.ref C) n = some none ∧ fs.lookup n = some v ∧ Q v H1
theorem pe_errA (he : PE X e te) (hb : attributeBase e n X.env (eval e X.env) = eval e X.env := by rfl) : PE X (.Attribute e n pos) (tErrA X.K n te) := by
  refine ⟨fun pp t τ G R J w => attr_of hb (thn (he.run pp t τ G _ J w) fun u t1 ⟨x, G1, J1, rx, a, C, fs, v, ex, ea, T, hno, l, q⟩ => ?_)⟩
  subst ex
  have eu : u = Value.ref a := rx; subst eu
  obtain ⟨oe, od, mA, W, hl, hr⟩ := errIs_inst J1 ea
  obtain ⟨uv, hu, ru⟩ := RelO.some_of (v := v) (o := mA n) (by rw [← l]; exact hr n)
  exact HandSPX.exc_get J1.kIn W T.ga T.gg T.exC (PySem.W.findObj_own T.hdC hno rfl (by rw [hl, hu])) (handed_of ru) ⟨v, G1, J1.tok _, ru, q⟩
end
/-- errors of these classes, each with v under n -/
inductive Errs (H : Hp) (n : Str) (v : V) : List Addr → List V → Prop
  | nil : Errs H n v [] []
  | cons {C a : Addr} {Cs : List Addr} {xs : List V} : ErrIs H C a [(n, v)] → Errs H n v Cs xs → Errs H n v (C :: Cs) (.ref a :: xs)
theorem Errs.ex {H H' : Hp} {n : Str} {v : V} {Cs : List Addr} {xs : List V} (h : Errs H n v Cs xs) (e : Ex H H') : Errs H' n v Cs xs := by
  induction h with
  | nil => exact .nil
  | cons a _ ih => exact .cons (a.ex e) ih
theorem Errs.app {H : Hp} {n : Str} {v : V} {Cs Ds : List Addr} {xs ys : List V} (h : Errs H n v Cs xs) (k : Errs H n v Ds ys) : Errs H n v (Cs ++ Ds) (xs ++ ys) := by
  induction h with
  | nil => exact k
  | cons a _ ih => exact .cons a ih
theorem Errs.len {H : Hp} {n : Str} {v : V} {Cs : List Addr} {xs : List V} (h : Errs H n v Cs xs) : xs.length = Cs.length := by
  induction h with
  | nil => rfl
  | cons _ _ ih => simp [ih]
theorem Errs.get {H : Hp} {n : Str} {v : V} {Cs : List Addr} {xs : List V} (h : Errs H n v Cs xs) {i : Nat} {x : V} (e : xs[i]? = some x) : ∃ C a, Cs[i]? = some C ∧ x = .ref a ∧ ErrIs H C a [(n, v)] := by
  induction h generalizing i with -- the place moves
  | nil => simp at e
  | @cons C a Cs xs h1 _ ih =>
    cases i with
    | zero => simp at e; exact ⟨C, a, by simp, e.symm, h1⟩
    | succ i => simpa using ih (i := i) (by simpa using e)
/-- errors of these classes -/
inductive ErrsA (H : Hp) : List Addr → List V → Prop
  | nil : ErrsA H [] []
  | cons {C a : Addr} {Cs : List Addr} {xs : List V} : ErrAny H C a → ErrsA H Cs xs → ErrsA H (C :: Cs) (.ref a :: xs)
theorem ErrsA.ex {H H' : Hp} {Cs : List Addr} {xs : List V} (h : ErrsA H Cs xs) (e : Ex H H') : ErrsA H' Cs xs := by
  induction h with
  | nil => exact .nil
  | cons a _ ih => exact .cons (a.ex e) ih
theorem ErrsA.app {H : Hp} {Cs Ds : List Addr} {xs ys : List V} (h : ErrsA H Cs xs) (k : ErrsA H Ds ys) : ErrsA H (Cs ++ Ds) (xs ++ ys) := by
  induction h with
  | nil => exact k
  | cons a _ ih => exact .cons a ih
theorem ErrsA.len {H : Hp} {Cs : List Addr} {xs : List V} (h : ErrsA H Cs xs) : xs.length = Cs.length := by
  induction h with
  | nil => rfl
  | cons _ _ ih => simp [ih]
theorem ErrsA.get {H : Hp} {Cs : List Addr} {xs : List V} (h : ErrsA H Cs xs) {i : Nat} {x : V} (e : xs[i]? = some x) : ∃ C a, Cs[i]? = some C ∧ x = .ref a ∧ ErrAny H C a := by
  induction h generalizing i with -- the place moves
  | nil => simp at e
  | @cons C a Cs xs h1 _ ih =>
    cases i with
    | zero => simp at e; exact ⟨C, a, by simp, e.symm, h1⟩
    | succ i => simpa using ih (i := i) (by simpa using e)
theorem Errs.any {H : Hp} {n : Str} {v : V} {Cs : List Addr} {xs : List V} (h : Errs H n v Cs xs) : ErrsA H Cs xs := by
  induction h with
  | nil => exact .nil
  | cons a _ ih => exact .cons (.inl ⟨_, a⟩) ih
/-- lists of one text over and over -/
theorem dp_rep {K : PySem.W.Frag} {H : Hp} (x : Str) : ∀ n : Nat, DpAll K H (List.replicate n (.str x)) (List.replicate n (.str x))
  | 0 => .nil
  | n + 1 => .cons (.str x) (dp_rep x n)
theorem lay_rep (x : Str) (hx : PyData.strOk x = true) : ∀ n : Nat, PyData.canLayAll0 (List.replicate n (.str x)) = true ∧ PyData.depthAll (List.replicate n (PyData.str x)) ≤ 1
  | 0 => by simp [PyData.canLayAll0, PyData.depthAll]
  | n + 1 => by
    obtain ⟨a, b⟩ := lay_rep x hx n
    simp only [List.replicate_succ, PyData.canLayAll0, PyData.canLay0, PyData.depthAll, PyData.depth, a, hx]
    exact ⟨by first | rfl | trivial, by omega⟩
theorem shaped_rep (x : Str) (hx : PyData.strOk x = true) (n : Nat) : SeqAt.shaped (.list (List.replicate n (.str x))) = true := by
  obtain ⟨a, b⟩ := lay_rep x hx n
  unfold SeqAt.shaped
  rw [show PyData.canLay0 (.list (List.replicate n (.str x))) = PyData.canLayAll0 (List.replicate n (.str x)) from by simp only [PyData.canLay0], a]
  have d : (PyData.list (List.replicate n (.str x))).depth ≤ 64 := by simp only [PyData.depth]; omega
  rw [decide_eq_true d]; rfl
theorem eqv_rep (x : Str) (hx : PyData.strOk x = true) (n : Nat) : PyData.eqv (.list (List.replicate n (.str x))) (.list (List.replicate n (.str x))) = true := SeqAt.eqv_refl _ (by simp only [PyData.canLay0]; exact (lay_rep x hx n).1)
/-- a list of lists of one int each -/
def ones (lo n : Nat) : List PyData := (List.range' lo n).map fun i => PyData.list [.int (i : Nat)]
def Ones (H : Hp) (lo : Nat) (xs : List V) : Prop := ∀ (i : Nat) (x : V), xs[i]? = some x → ∃ q, x = .ref q ∧ H q = some (.lst [.int ((lo + i : Nat) : Int)])
theorem Ones.ex {H H' : Hp} {lo : Nat} {xs : List V} (h : Ones H lo xs) (e : Ex H H') : Ones H' lo xs := fun i x hx => let ⟨q, a, b⟩ := h i x hx; ⟨q, a, e _ _ b⟩
theorem Ones.nil {H : Hp} {lo : Nat} : Ones H lo [] := fun i x h => by simp at h
theorem Ones.snoc {H : Hp} {lo : Nat} {xs : List V} {q : Addr} (h : Ones H lo xs) (hq : H q = some (.lst [.int ((lo + xs.length : Nat) : Int)])) : Ones H lo (xs ++ [.ref q]) := fun i x hx => by
  rw [List.getElem?_append] at hx
  split at hx
  · exact h i x hx
  · have e : i - xs.length = 0 := by
      have z := (List.getElem?_eq_some_iff.mp hx).1
      simp at z; omega
    rw [e] at hx; simp at hx; subst hx
    have e2 : i = xs.length := by omega
    subst e2
    exact ⟨q, rfl, hq⟩
theorem dp_ones {K : PySem.W.Frag} {H : Hp} : ∀ {xs : List V} {lo : Nat}, Ones H lo xs → DpAll K H xs (ones lo xs.length)
  | [], lo, _ => .nil
  | x :: xs, lo, h => by
    obtain ⟨q, rfl, hq⟩ := h 0 x rfl
    unfold ones
    rw [List.length_cons, List.range'_succ, List.map_cons]
    refine .cons (.lst (SqL.of hq) (.cons (.int _) .nil)) ?_
    exact dp_ones (lo := lo + 1) (xs := xs) fun i y hy => by
      obtain ⟨q, a, b⟩ := h (i + 1) y (by simpa using hy)
      exact ⟨q, a, by rw [b, show lo + (i + 1) = lo + 1 + i by omega]⟩
theorem lay_ones : ∀ (n lo : Nat), PyData.canLayAll0 (ones lo n) = true ∧ PyData.depthAll (ones lo n) ≤ 2
  | 0, lo => by simp [ones, PyData.canLayAll0, PyData.depthAll]
  | n + 1, lo => by
    obtain ⟨a, b⟩ := lay_ones n (lo + 1)
    have e : ones lo (n + 1) = PyData.list [.int (lo : Nat)] :: ones (lo + 1) n := by simp [ones, List.range'_succ]
    rw [e]
    simp only [PyData.canLayAll0, PyData.canLay0, PyData.depthAll, PyData.depth, a]
    exact ⟨by first | rfl | trivial, by omega⟩
theorem shaped_ones (lo n : Nat) : SeqAt.shaped (.list (ones lo n)) = true := by
  obtain ⟨a, b⟩ := lay_ones n lo
  unfold SeqAt.shaped
  rw [show PyData.canLay0 (.list (ones lo n)) = PyData.canLayAll0 (ones lo n) from by simp only [PyData.canLay0], a]
  have d : (PyData.list (ones lo n)).depth ≤ 64 := by simp only [PyData.depth]; omega
  rw [decide_eq_true d]; rfl
theorem eqv_ones (lo n : Nat) : PyData.eqv (.list (ones lo n)) (.list (ones lo n)) = true := SeqAt.eqv_refl _ (by simp only [PyData.canLay0]; exact (lay_ones n lo).1)
theorem rep_snoc {α : Type} (n : Nat) (x : α) : List.replicate n x ++ [x] = List.replicate (n + 1) x := by rw [List.replicate_succ']
theorem flat_rep {α : Type} (x : α) (n : Nat) : (List.replicate n [x]).flatten = List.replicate n x := by
  induction n with
  | zero => rfl
  | succ n ih => rw [List.replicate_succ, List.flatten_cons, ih, List.replicate_succ]; rfl
end HX
set_option Elab.async false
set_option linter.all false
set_option maxRecDepth 100000
set_option maxHeartbeats 4400000
namespace HX
open L2 PyProof.Rows PySem.Spec PySem
section
variable {X : Cx}
/-- xs * k, the new list apart from the table of modules -/
def rRepN : R2 := fun x y H Q => ∃ l k xs, x = .ref l ∧ y = .int k ∧ H l = some (.lst xs) ∧ 0 ≤ k ∧ k < 1000 ∧ xs.length * k.toNat ≤ sizeLine ∧ ∀ p, H p = none → p ≠ sysModules → Q (.ref p) (upd H p (.lst (List.replicate k.toNat xs).flatten))
theorem op_repN : OpR X (binaryOp .Mult) rRepN := by
  intro pp t τ G x y u1 u2 Q J rx ry h
  obtain ⟨l, k, xs, rfl, rfl, hl, k0, k1, hz, q⟩ := h
  cases rx; obtain ⟨tk, rfl⟩ := ry
  obtain ⟨_, vs, n, rv, el, eo⟩ := J.lstM hl
  have z1 : vs.toArray.size * k.toNat ≤ sizeLine := by rw [List.size_toArray, ← el]; exact hz
  have z2 : (sizeLine : Nat) ≤ (2 ^ 63 - 1) / 8 := by decide
  have c1 : ¬ (!Builtin.List.listFitsIndex k) = true := by rw [fitsIndex_both (by omega) (by omega)]; exact Bool.false_ne_true
  have c2 : ¬ vs.toArray.size * k.toNat > (2 ^ 63 - 1) / 8 := by omega
  have c3 : ¬ Builtin.List.listTooLong (vs.toArray.size * k.toNat) = true := by rw [notLongL z1]; exact Bool.false_ne_true
  have ff : ∀ m : Nat, List.foldl (fun a b => a ++ b) #[] (List.replicate m vs.toArray) = (List.replicate m vs).flatten.toArray := fun m => (foldl_rep vs m []).trans (by rw [List.nil_append])
  have made : List.foldl (fun a b => a ++ b) #[] (List.replicate (if vs.toArray.isEmpty = true then 0 else k.toNat) vs.toArray) = (List.replicate k.toNat vs).flatten.toArray := by
    rw [ff]; cases vs <;> simp
  refine wpAny_binaryOp_repeat_ref (T := "list") (U := "int") (by decide) ⟨_, eo, rfl⟩ (fun s' => typeIs_int s' k tk) noFill_list_mul F.fills_int_mul F.slot_int_rmul repeat_list F.slot_int_index.lookup ?_
  refine call_meets F.slot_int_rmul (typeIs_int t k tk) F.entry_int_rmul (F.args_int_rmul_2 _ _) (int___rmul___int_list k tk l vs.toArray n) ⟨eo, rfl, ⟨_, eo, rfl⟩, ?_⟩
  refine call_meets F.slot_list_mul ⟨_, eo, rfl⟩ F.entry_list_mul (F.args_list_mul_2 _ _) (AutoListH.list___mul___list_int_3 l vs.toArray n k tk c1 c2 c3) ⟨eo, ?_⟩
  rw [made]
  exact ⟨.ref _, _, J.lnew (t' := t.toks) (rv.rep k.toNat) (by rw [PyProof.Rows.lm_len_rep_flat, Nat.mul_comm]; exact hz), rfl, q _ J.fresh (Nat.ne_of_gt J.big)⟩
end
/-- the same, the written part named (within comprehensions) -/
theorem pe_errK {X : Cx} {K : PySem.W.Frag} {e : Expr} {te : TE} {pos : Pos} {n : Str} (hK : X.K = K) (he : PE X e te) (hb : attributeBase e n X.env (eval e X.env) = eval e X.env := by rfl) : PE X (.Attribute e n pos) (tErrA K n te) := hK ▸ pe_errA he hb
theorem call_isK {X : Cx} {K : PySem.W.Frag} (hK : X.K = K) : CallR X (.builtin "isinstance") (rIsA K) := hK ▸ call_isA
theorem ix_tupK {X : Cx} {K : PySem.W.Frag} (hK : X.K = K) : IxR X (rIxT K) := hK ▸ ix_tup
theorem ix_listK {X : Cx} {K : PySem.W.Frag} (hK : X.K = K) : IxR X (rIxL K) := hK ▸ ix_list
theorem q_neb {z : Str} : (!decide (V.str z = V.str z)) = false := by rw [decide_eq_true rfl]; rfl
theorem rep_bl (n : Nat) : List.replicate n (V.bl true) = (List.replicate n true).map V.bl := by rw [List.map_replicate]
theorem rep_all (n : Nat) : (List.replicate n true).all id = true := by simp
/-- five of the same data -/
theorem Bd.five {d : PyData} (h : Bd 14 d) : (PyData.list (List.replicate 5 d)).showable = true ∧ (PyData.list (List.replicate 5 d)).depth ≤ 60 ∧ (PyData.list (List.replicate 5 d)).shown.length ≤ sizeLine := by
  have a := h.dp; have b := h.wt
  have e : List.replicate 5 d = [d, d, d, d, d] := rfl
  rw [e]
  have q := PyData.shown_le 24 (by decide) (.list [d, d, d, d, d]) (by simp only [PyData.leavesShort, PyData.leavesShortAll, h.lv, Bool.and_self])
  have w : (PyData.list [d, d, d, d, d]).weight ≤ 5 * (d.weight + 1) + 10 := by simp only [PyData.weight, PyData.weightAll]; omega
  have m : (24 + 2) * (PyData.list [d, d, d, d, d]).weight ≤ 26 * 6300 := Nat.mul_le_mul_left _ (by omega)
  have z := sizeLine_eq
  refine ⟨by simp only [PyData.showable, PyData.showableAll, h.sh, Bool.and_self], by simp only [PyData.depth, PyData.depthAll]; omega, by omega⟩
theorem Ones.ne {H : Hp} {lo : Nat} {ys : List V} {D q : Addr} {z : Int} (h : Ones H lo ys) (hD : H D = some (.lst ys)) (hq : H q = some (.lst [.int z])) : q ≠ D := fun e => by
  subst e
  rw [hq] at hD
  have e2 := HO.lst.inj (Option.some.inj hD)
  obtain ⟨a, b, _⟩ := h 0 (.int z) (by rw [← e2]; rfl)
  cases b
theorem Ones.put {H : Hp} {lo : Nat} {ys : List V} {D q : Addr} {o : HO} (h : Ones H lo ys) (hD : H D = some (.lst ys)) (hq : H q = some (.lst [.int ((lo + ys.length : Nat) : Int)])) : Ones (upd H D o) lo (ys ++ [.ref q]) := by
  refine Ones.snoc (fun i x hx => ?_) (by rw [upd_ne (h.ne hD hq)]; exact hq)
  obtain ⟨r, a, b⟩ := h i x hx
  exact ⟨r, a, by rw [upd_ne (h.ne hD b)]; exact b⟩
end HX
set_option Elab.async false
set_option linter.all false
set_option maxRecDepth 100000
set_option maxHeartbeats 4400000
namespace HX
open L2 PyProof.Rows PySem.Spec PySem LamX
/-- as okG0, the def's code object named -/
theorem okGT {P : Program} {w : World} {K : PySem.W.Frag} {mg : Str → Option Value} {base : Heap} {x qual : Str} {st : Stmt} {f c : Addr} {fd : FuncData} {N ps : List Str} {k : Nat} {sp : Sp} (F : Fun K x qual st f fd) (S : FnScope N ps (defScope st)) (hc : fd.code = .ref c) (len : ∀ vs H Q E, sp vs H Q E → vs.length = ps.length)
    (hbody : ∀ (A : Around) (outer : List Env) (s : Shared) (H : Hp) (vs : List V) (Q : VK) (E : XK), A.guards = some [] → Room k (A.deeper (envOfC qual (defScope st) s.heap.objs.size f (.ref c))) → sp vs H Q E →
      ∃ t, PSs (cxOf CX0 P w K mg base N qual (defScope st) f (.ref c) A outer s H E).nox (defBody st) t ∧ t { nx := fun _ H' => Q .non H', rt := Q } (L2.start N vs) H) : FnG P w K mg base CX0 (k + 1) f fd ps sp := by
  obtain ⟨oc, od, kV, doc, pm, an, cdv, ct, osl, rfl, lk, hcd⟩ := F.ex
  have e : cdv = .ref c := hc
  subst e
  exact ⟨len, fun A o s H args us vs Q E hg hr e0 hb r hsp => LamX.run_ofS lk hcd S hr e0 hb r (len _ _ _ _ hsp) fun hr' => let ⟨t, p, q⟩ := hbody A o s H vs Q E hg hr' hsp; ⟨t, p.nox, q⟩⟩
/-- f(lambda: body), f a def of the text -/
theorem pe_lamF {X : Cx} {K : PySem.W.Frag} {T : List (Addr × Str)} {TT : (XK → Hp → VK → Prop) → Hp → VK → Prop} {x a : Str} {g c P : Addr} {k : Nat} {st : Stmt} {fd : FuncData} {Ng : List Str} {params : Arguments} {body : Expr} {scope : Scope} {t : XK → TE} {p lpos pos : Pos}
    (hK : X.K = K) (F : Fun K x x st g fd) (b : Binds K fd [a] []) (hg : Gl X x) (hm : X.mg x = some (.ref g)) (Sg : FnScope Ng [a] (defScope st)) (hNg : Ng[0]? = some a) (hva : Vis (defScope st) a)
    (hG : ∀ cdv, GivesTo X Ng x (defScope st) g cdv (defBody st) a (X.env.qual ++ "<lambda>") TT) (TB : TabB X.base X.mg c P) (hcode : X.env.code = .ref c) (hmT : (P, X.env.qual ++ "<lambda>") ∈ T) (hu : ∀ p ∈ T, p.1 = P → p.2 = X.env.qual ++ "<lambda>") (hr : Room (k + 2) X.A)
    (L : LamS X.env.scope scope) (hdef : defaultsOf params X.env = ([], [])) (hbind : ∀ (q : Str) (cl : List (Str × Addr)) (pm cv ctv : Value), bindArgs (PySem.W.kla_fn "<lambda>" q params body scope cl pm cv ctv) ⟨[], []⟩ = pure [])
    (hbody : ∀ (A : Around) (outer : List Env) (s : Shared) (H : Hp) (E : XK) (f c' : Addr), Room k (A.deeper (lamEnv X scope s.heap.objs.size f c')) → PE (lamCx X A outer s H E scope f c') body (t E))
    (hdb : (x == ("__debug__" : Str)) = false := by decide) (hd : (a == ("__debug__" : Str)) = false := by decide) (hcd : (a == ("__classdict__" : Str)) = false := by decide) : PE X (.Call (.Name x p) [.Lambda params body scope lpos] [] pos) (tLam T TT t) := by
  subst hK
  obtain ⟨oc, od, kV, doc, pm, an, cdv, ct, osl, rfl, lk, hc⟩ := F.ex
  exact pe_lamcall hg hm F.kp lk hc b Sg hNg hva (hG cdv) TB hcode hmT hu hr L hdef hbind hbody hdb hd hcd
/-- the law's call, with tables of code objects -/
theorem lawT_core {P : Program} {w : World} {K : PySem.W.Frag} {mg mb : Str → Option Value} {CX : CXT} {k : Nat} {fa a : Addr} {cs : List (Addr × Addr)} {fd : FuncData} {x : Str} {sp : Sp} {s1 : Shared} {vs : List Value} {H : Hp}
    (KX : K.In s1.heap) (hns : s1.heap.Ns mainGlobals mg) (hb : s1.heap.Ns builtinsNs mb) (hbb : ∀ x : Str, x ≠ "__name__" → mb x = bootBuiltins x) (hlim : s1.heap.NoLimit) (hg : s1.gens = #[])
    (hT : ∀ p ∈ cs, PySem.W.CodeHd s1.heap p.1 p.2 ∧ s1.heap.get? p.2 = some (PySem.W.tabObj #[])) (nT : ∀ p ∈ cs, K.lookup p.2 = none)
    (hbm : ∃ (bm : Addr) (ob : Obj), mg "__builtins__" = some (.ref bm) ∧ bm ≠ builtinsNs ∧ s1.heap.get? bm = some ob ∧ ob.cls = .type "module" ∧ ob.dict = some builtinsNs ∧ ob.data = .plain)
    (ha : s1.heap.get? a = some { cls := .type "list", data := .seq vs.toArray }) (hr : Room k callerA)
    (F : ∀ base : Heap, K.In base → base.Ns mainGlobals mg → (∀ p ∈ cs, TabB base mg p.1 p.2) → FnG P w K mg base CX k fa fd [x] sp) (hbind : ∀ (s : Shared) (u : Value), BindsTo s fd ⟨[u], []⟩ [(x, u)])
    (hsp : sp [.ref a] H (fun v _ => v = .bl true) fun _ _ _ => False) (hCX : ∀ e s', CX [] H s1 (fun _ _ _ => False) e s' → False)
    (hH : ∀ p ∈ cs, H p.2 = some (.tbl #[]))
    (hO : ∀ b u, H b = some u → (b = a ∧ ∃ o xs, u = .frz o (.lst xs)) ∨ ∃ p ∈ cs, b = p.2 ∧ u = .tbl #[]) (hok : HOk P w H s1.heap) (hK : ∀ u, H a = some u → K.lookup a = none) :
    codeAny (model P w) callerA (.call (.ref fa) ⟨[.ref a], []⟩) (fun r s' => r = .ok (.ret (.bool true)) ∧ OldK s1.heap s'.heap ∧ s'.os = s1.os ∧ AllBare s'.gens) s1 := by
  have off : ∀ {b : Addr} {o : Obj}, s1.heap.get? b = some o → (∀ us n, o.data ≠ .seq us n) → o.data ≠ .fields #[] → H b = none := fun {b o} e h1 h2 => by
    cases q : H b with
    | none => rfl
    | some u =>
      rcases hO b u q with ⟨y, _⟩ | ⟨p, hp, y, _⟩
      · rw [y, ha] at e; cases e; exact absurd rfl (h1 _ _)
      · rw [y, (hT p hp).2] at e; cases e; exact absurd rfl h2
  have nsK : ∀ {b : Addr} {m : Str → Option Value}, s1.heap.Ns b m → (hidT s1.heap H).Ns b m := fun {b m} ⟨o, es, ep, e, d, r⟩ =>
    ⟨o, es, ep, hidT_get e (off e (fun us n z => by rw [d] at z; cases z) (fun z => by rw [d] at z; cases z)), d, r⟩
  have inB : K.In (hidT s1.heap H) := fun b o e => hidT_get (KX b o e) (by
    cases q : H b with
    | none => rfl
    | some u =>
      have e : K.lookup b = some o := e
      rcases hO b u q with ⟨y, _⟩ | ⟨p, hp, y, _⟩
      · subst y; rw [hK u q] at e; cases e
      · rw [y, nT p hp] at e; cases e)
  have TB : ∀ p ∈ cs, TabB (hidT s1.heap H) mg p.1 p.2 := fun p hp => by
    obtain ⟨hC, hP⟩ := hT p hp
    refine ⟨?_, ?_, fun z => ?_⟩
    · obtain ⟨o, us, r1, r2, r3, r4, r5, r6, r7, e1, dc, d1, q3, q⟩ := hC
      refine ⟨o, us, r1, r2, r3, r4, r5, r6, r7, hidT_get e1 (off e1 (fun us n z => by rw [d1] at z; cases z) (fun z => ?_)), dc, d1, q3, q⟩
      rw [d1] at z; cases z; simp at q3
    · obtain ⟨bm, ob, b1, b2, b3, b4, b5, b6⟩ := hbm
      refine ⟨bm, ob, b1, b2, fun y => ?_, fun y => ?_, hidT_get b3 (off b3 (fun us n z => by rw [b6] at z; cases z) (fun z => by rw [b6] at z; cases z)), b4, b5, b6⟩
      · obtain ⟨o, es, ep, e, d, _⟩ := hns
        rw [y, e] at b3; cases b3; rw [d] at b6; cases b6
      · rw [y, hP] at b3; cases b3; cases b6
    · obtain ⟨o, es, ep, e, d, _⟩ := hns
      rw [z, hP] at e; cases e; cases d
  obtain ⟨mc, l1, l2⟩ := hlim
  have e0 : Env0 P w K mg (hidT s1.heap H) callerA [] s1 H := ⟨rfl, ⟨inB, nsK hns, ⟨mb, nsK hb, hbb⟩, ⟨mc, nsK l1, l2⟩⟩, fun b o e => of_hidT e, Nat.le_of_eq (hidT_size _ _), trivial, fun b z => absurd (show b ∈ ([] : List Addr) from z) List.not_mem_nil, hok, .of_eq hg⟩
  refine codeAny_mono ((F _ inB (nsK hns) TB).go callerA [] s1 H ⟨[.ref a], []⟩ [.ref a] [.ref a] _ _ rfl hr e0 (hbind s1 (.ref a)) (.cons rfl .nil) hsp) fun r s' h => ?_
  match r, h with
  | .error e, h => exact (hCX e s' h).elim
  | .ok .next, h => exact False.elim h
  | .ok .brk, h => exact False.elim h
  | .ok .cont, h => exact False.elim h
  | .ok (.ret u), h =>
    obtain ⟨v, H', os, bare, U, hok', r', q⟩ := h
    obtain rfl : v = .bl true := q
    have ru : u = Value.bool true := r'; subst ru
    have kp : ∀ b o, s1.heap.get? b = some o → s'.heap.get? b = some o ∨ ∃ p ∈ cs, b = p.2 ∧ ∃ more : Array Value, s'.heap.get? b = some { cls := .none, data := .fields more } := fun b o e => by
      cases q : H b with
      | none => exact .inl (U.keep b o e q (fun z => absurd (show b ∈ ([] : List Addr) from z) List.not_mem_nil) List.not_mem_nil)
      | some u =>
        rcases hO b u q with ⟨_, ob, xs, z⟩ | ⟨p, hp, y, z⟩
        · subst z
          have y1 := (hok b _ q).1
          have y2 := (hok' b _ (U.frzs b ob _ q)).1
          rw [e] at y1; cases y1
          exact .inl y2
        · subst z
          obtain ⟨more, m⟩ := U.tbls b #[] q
          exact .inr ⟨p, hp, y, _, hok' b _ m⟩
    refine ⟨rfl, ⟨fun b o e => ?_, fun b o e => ?_⟩, os, bare⟩
    · rcases kp b o e with z | ⟨p, hp, y, more, z⟩
      · exact .inl z
      · have e2 := (hT p hp).2
        rw [← y, e] at e2; cases e2
        rw [y] at z ⊢
        exact .inr (.inl ⟨((hT p hp).1.tab (hT p hp).2).isCodeTable, rfl, #[], more, rfl, by rw [Array.empty_append]; exact z⟩)
    · rcases kp b o e with z | ⟨p, hp, y, more, z⟩
      · exact ⟨o, z⟩
      · exact ⟨_, z⟩
/-- the law's call from what is known at the head's heap; cs: code objects and their tables -/
theorem lawT_at {P q : Program} {loose : List Str} {mean : ExcName → Option Value} {w : World} {K : PySem.W.Frag} {mg mb : Str → Option Value} {CX : CXT} {k n : Nat} {fa a : Addr} {cs : List (Addr × Addr)} {fd : FuncData} {x : Str} {sp : Sp} {s1 : Shared} {vs : List Value} {ns : List Int}
    (T : PyProof.Rows.Top q loose mean mg mb s1.heap) (KX : K.In s1.heap) (hgen : s1.gens = #[]) (hn2 : n ≤ sizeLine) (hr : Room k callerA) (hobj : s1.heap.get? a = some { cls := .type "list", data := .seq vs.toArray }) (hints : IntsAre vs ns) (hlen : ns.length ≤ n)
    (hcs : ∀ p ∈ cs, ∃ y : Str, ((recsOf q).any fun e => e.name == y) = true ∧ PySem.W.tabIn K y = some p) (nT : ∀ p ∈ cs, K.lookup p.2 = none) (hb : ∀ (s : Shared) (u : Value), BindsTo s fd ⟨[u], []⟩ [(x, u)])
    (hF : ∀ base : Heap, K.In base → base.Ns mainGlobals mg → (∀ p ∈ cs, TabB base mg p.1 p.2) → FnG P w K mg base CX k fa fd [x] sp)
    (hsp : ∀ (H : Hp), SqL K H a (ns.map V.int) → (∀ p ∈ cs, H p.2 = some (.tbl #[])) → sp [.ref a] H (fun v _ => v = .bl true) fun _ _ _ => False)
    (hCX : ∀ (G : Hp) (e : Value) (s' : Shared), CX [] G s1 (fun _ _ _ => False) e s' → False) :
    codeAny (model P w) callerA (.call (.ref fa) ⟨[.ref a], []⟩) (fun r s' => r = .ok (.ret (.bool true)) ∧ OldK s1.heap s'.heap ∧ s'.os = s1.os ∧ AllBare s'.gens) s1 := by
  have rv := ints_vals hints; have lv := hints.length
  have hT : ∀ p ∈ cs, PySem.W.CodeHd s1.heap p.1 p.2 ∧ s1.heap.get? p.2 = some (PySem.W.tabObj #[]) := fun p hp => by
    obtain ⟨y, h1, h2⟩ := hcs p hp
    obtain ⟨e, he1, he2⟩ := List.any_eq_true.mp h1
    cases hf : (recsOf q).find? (fun e => e.name == y) with
    | none => exact absurd he2 (List.find?_eq_none.mp hf e he1)
    | some dd => exact PySem.W.tab_of T KX hf h2
  have aT : ∀ p ∈ cs, p.2 ≠ a := fun p hp z => by
    have e := (hT p hp).2
    rw [z, hobj] at e
    have e2 : Data.seq vs.toArray _ = Data.fields #[] := congrArg Obj.data (Option.some.inj e)
    cases e2
  have fz : HO.frz { cls := .type "list", data := .seq vs.toArray } (.lst (ns.map V.int)) = HO.frz { cls := .type "list", data := .seq vs.toArray } (.lst (ns.map V.int)) := rfl
  cases hk : K.lookup a with
  | some o' =>
    have e := KX a o' hk
    rw [hobj] at e
    cases e
    let H0 : Hp := fun b => if b ∈ cs.map (·.2) then some (.tbl #[]) else none
    have at_ : ∀ b u, H0 b = some u → ∃ p ∈ cs, b = p.2 ∧ u = .tbl #[] := fun b u z => by
      by_cases hm : b ∈ cs.map (·.2)
      · obtain ⟨p, hp, e⟩ := List.mem_map.mp hm
        exact ⟨p, hp, e.symm, (Option.some.inj ((if_pos hm).symm.trans z)).symm⟩
      · cases (if_neg hm).symm.trans z
    have hH : ∀ p ∈ cs, H0 p.2 = some (.tbl #[]) := fun p hp => if_pos (List.mem_map.mpr ⟨p, hp, rfl⟩)
    refine lawT_core (H := H0) KX T.g T.b T.builtins T.nolimit hgen hT nT T.bmain hobj hr hF hb (hsp _ (.inr ⟨_, vs.toArray, _, hk, rfl, rfl, rfl, by rw [List.size_toArray, lv]; exact Nat.le_trans hlen hn2, by simpa using rv⟩) hH) (fun e s' => hCX _ e s') hH (fun b u z => .inr (at_ b u z)) (fun b u z => ?_) (fun u z => ?_)
    · obtain ⟨p, hp, e1, e2⟩ := at_ b u z
      subst e2; rw [e1]; exact (hT p hp).2
    · obtain ⟨p, hp, e1, _⟩ := at_ a u z
      exact absurd e1.symm (aT p hp)
  | none =>
    let H0 : Hp := fun b => if b = a then some (.frz { cls := .type "list", data := .seq vs.toArray } (.lst (ns.map V.int))) else if b ∈ cs.map (·.2) then some (.tbl #[]) else none
    have at_ : ∀ b u, H0 b = some u → (b = a ∧ u = .frz { cls := .type "list", data := .seq vs.toArray } (.lst (ns.map V.int))) ∨ ∃ p ∈ cs, b = p.2 ∧ u = .tbl #[] := fun b u z => by
      by_cases hba : b = a
      · exact .inl ⟨hba, (Option.some.inj ((if_pos hba).symm.trans z)).symm⟩
      · have z := (if_neg hba).symm.trans z
        by_cases hm : b ∈ cs.map (·.2)
        · obtain ⟨p, hp, e⟩ := List.mem_map.mp hm
          exact .inr ⟨p, hp, e.symm, (Option.some.inj ((if_pos hm).symm.trans z)).symm⟩
        · cases (if_neg hm).symm.trans z
    have hH : ∀ p ∈ cs, H0 p.2 = some (.tbl #[]) := fun p hp => (if_neg (aT p hp)).trans (if_pos (List.mem_map.mpr ⟨p, hp, rfl⟩))
    refine lawT_core (H := H0) KX T.g T.b T.builtins T.nolimit hgen hT nT T.bmain hobj hr hF hb (hsp _ (.inl (.inr ⟨_, if_pos rfl⟩)) hH) (fun e s' => hCX _ e s') hH (fun b u z => ?_) (fun b u z => ?_) (fun _ _ => hk)
    · rcases at_ b u z with ⟨e1, e2⟩ | q
      · exact .inl ⟨e1, _, _, e2⟩
      · exact .inr q
    · rcases at_ b u z with ⟨e1, e2⟩ | ⟨p, hp, e1, e2⟩
      · subst e1; subst e2
        exact ⟨hobj, by rw [List.length_map]; exact Nat.le_trans hlen hn2, vs, _, rv, hobj⟩
      · subst e2; rw [e1]; exact (hT p hp).2
theorem walk_GX {l : PySem.W.OpenLaw} {n k : Nat} {q : Program} {loose : List Str} {XP : (Str → Option Value) → Heap → Prop} {YP : World → Heap → Prop} {d : DefRec} {CX : World → CXT} {x : Str}
    (hn : l.most = some n) (hn2 : n ≤ sizeLine) (hdf : d.params.defaults = []) (hr : Room k callerA)
    (F : ∀ (w : World) (m : Str → Option Value) (fa : Addr) (h : Heap), YP w h → h.Ns mainGlobals m → m d.name = some (.ref fa) →
      ∃ (K : PySem.W.Frag) (fd : FuncData) (cs : List (Addr × Addr)) (sp : Sp), K.In h ∧ (∀ p ∈ cs, ∃ y : Str, ((recsOf q).any fun e => e.name == y) = true ∧ PySem.W.tabIn K y = some p) ∧ (∀ p ∈ cs, K.lookup p.2 = none) ∧ (∀ (s : Shared) (u : Value), BindsTo s fd ⟨[u], []⟩ [(x, u)]) ∧
        (∀ (H : Hp) (a : Addr) (ns : List Int), ns.length ≤ n → SqL K H a (ns.map V.int) → (∀ p ∈ cs, H p.2 = some (.tbl #[])) → sp [.ref a] H (fun v _ => v = .bl true) fun _ _ _ => False) ∧
        ∀ base : Heap, K.In base → base.Ns mainGlobals m → (∀ p ∈ cs, TabB base m p.1 p.2) → FnG l.prog w K m base (CX w) k fa fd [x] sp)
    (hCX : ∀ (w : World) (G : Hp) (s : Shared) (e : Value) (s' : Shared), CX w [] G s (fun _ _ _ => False) e s' → False) : PySem.W.WalkO q loose XP YP l.row.toRowW d [] (fun f vs => PySem.call f vs) := by
  refine Att.attach_call hn hdf fun w s0 s1 mg mb fa o pm cd doc a vs ns G Y ho hd hcd hmg hobj hints hlen hgen => ?_
  obtain ⟨K, fd, cs, sp, KX, hcs, nT, hb, hsp, hF⟩ := F w mg fa _ Y G.T.g hmg
  exact lawT_at G.T KX hgen hn2 hr hobj hints hlen hcs nT hb hF (fun H h1 h2 => hsp H a ns hlen h1 h2) fun G e s' => hCX w G s1 e s'
end HX
set_option Elab.async false
set_option linter.all false
set_option maxRecDepth 100000
set_option maxHeartbeats 4400000
namespace HX
open L2 PyProof.Rows PySem.Spec PySem LamX
section
variable {X : Cx}
/-- xs.count(y), flat items -/
def rCntF (K : PySem.W.Frag) : V → List V → Hp → VK → Prop := fun x xs H Q => ∃ (p : Addr) (ys : List V) (y : V), x = .ref p ∧ xs = [y] ∧ SqL K H p ys ∧ flatV y = true ∧ ys.all flatV = true ∧ Q (.int (ys.countP (fun z => eqV z y) : Nat)) H
theorem count_flat {uy : Value} {y : V} : ∀ {ys : List V} {us : List Value}, Vals ys us → ys.all flatV = true → us.countP (eqU y) = ys.countP (fun z => eqV z y)
  | _, _, .nil, _ => rfl
  | _, _, .cons r t, f => by
    rw [List.all_cons, Bool.and_eq_true] at f
    rw [List.countP_cons, List.countP_cons, count_flat (uy := uy) t f.2, eqU_of r f.1]
theorem mt_countF : MtR X "list.count" (rCntF X.K) := by
  intro pp t τ G x xs v us Q J rx rxs h
  obtain ⟨p, ys, y, rfl, rfl, hs, fy, fys, q⟩ := h
  cases rx
  cases rxs with
  | cons ry rt =>
    rename_i uy ut
    cases rt
    obtain ⟨its, rv, ⟨⟨cls, dd, data, sl⟩, n, ho, hc, hdn, hd⟩, hlen⟩ := J.list hs
    simp only at hc hd
    subst hc hd
    refine call_meets PySem.F.slot_list_count ⟨_, ho, rfl⟩ PySem.F.entry_list_count (PySem.F.args_list_count_2 _ _) (SeqAt.list_countAt p its.toArray n dd sl uy (eqU y)) ⟨ho, fun u' hu' => mem_eqAt ry fy rv fys u' (by simpa using hu'), ?_⟩
    have ec : its.toArray.toList.countP (eqU y) = ys.countP (fun z => eqV z y) := count_flat (uy := uy) rv fys
    refine ⟨.int (ys.countP (fun z => eqV z y) : Nat), G, J.tok _, ⟨t.toks, ?_⟩, q⟩
    rw [← ec]
end
/-- a lambda handed in is called where what it lets out is wished for at the slots of the call -/
def GivesS (X : Cx) (k : Nat) (Ng : List Str) (x : Str) (sg : Scope) (g : Addr) (cdg : Value) (bg : List Stmt) (a : Str) (q : Str) (TT : (XK → Hp → VK → Prop) → Hp → VK → Prop) : Prop :=
  ∀ (f c' : Addr) (s : Shared) (H : Hp) (Q : VK) (tl : XK → Hp → VK → Prop),
    (∀ (W : WX) (pn : List (Addr × Obj)) (xe : Value → Shared → Prop) (p1 p2 : Pos), Takes ((cxOf C8.CX0 X.prog X.w X.K X.mg X.base Ng x sg g cdg X.A X.stack s H C8.E0).tr pn xe) W →
      PE ((cxOf C8.CX0 X.prog X.w X.K X.mg X.base Ng x sg g cdg X.A X.stack s H C8.E0).tr pn xe) (.Call (.Name a p1) [] [] p2) (fun σZ HZ Q => σZ[0]? = some (some (.ref f)) ∧ HZ c' = some (CodeO c' q) ∧ tl (fun cls d H' => W cls d σZ H') HZ Q)) →
    Room k (X.A.deeper (envOfC x sg s.heap.objs.size g cdg)) → H c' = some (CodeO c' q) → TT tl H Q →
    ∃ t, PSs (cxOf C8.CX0 X.prog X.w X.K X.mg X.base Ng x sg g cdg X.A X.stack s H C8.E0).nox bg t ∧ t { nx := fun _ H' => Q .non H', rt := Q } (L2.start Ng [.ref f]) H
section
variable {X : Cx} {pins : List (Addr × Obj)} {σ : L2.St} {H HZ : Hp} {s s1 : Shared}
theorem pe_actS {CXg : CXT} {Eg : XK} {Ng : List Str} {qg : Str} {sg : Scope} {g f c' : Addr} {cdg pm ctv : Value} {params : Arguments} {body : Expr} {scope : Scope} {k i : Nat} {a : Str} {pn : List (Addr × Obj)} {xe : Value → Shared → Prop} {W : WX} {tb : XK → TE} {p1 p2 : Pos}
    (I : Inv X pins σ H s) (L : LamS X.env.scope scope) (hf : s.heap.get? f = some (PySem.W.kla_obj "<lambda>" (X.env.qual ++ "<lambda>") params body scope (cloFrom X.env.cells scope.names []) pm c' ctv)) (hfn : H f = none) (hfr : f ∉ frs X.stack)
    (hbind : bindArgs (PySem.W.kla_fn "<lambda>" (X.env.qual ++ "<lambda>") params body scope (cloFrom X.env.cells scope.names []) pm (.ref c') ctv) ⟨[], []⟩ = pure [])
    (tk : Takes ((cxOf CXg X.prog X.w X.K X.mg X.base Ng qg sg g cdg X.A X.stack s H Eg).tr pn xe) W) (hr : Room (k + 1) (X.A.deeper (envOfC qg sg s.heap.objs.size g cdg)))
    (hbody : ∀ (A : Around) (outer : List Env) (s : Shared) (H : Hp) (E : XK), Room k (A.deeper (lamEnv X scope s.heap.objs.size f c')) → PE (lamCx X A outer s H E scope f c') body (tb E))
    (hN : Ng[i]? = some a) (hv : Vis sg a) (hd : (a == ("__debug__" : Str)) = false := by decide) (hcd : (a == ("__classdict__" : Str)) = false := by decide) :
    PE ((cxOf CXg X.prog X.w X.K X.mg X.base Ng qg sg g cdg X.A X.stack s H Eg).tr pn xe) (.Call (.Name a p1) [] [] p2)
      (fun σZ HZ Q => σZ[i]? = some (some (.ref f)) ∧ HZ c' = some (CodeO c' (X.env.qual ++ "<lambda>")) ∧ tb (fun cls d H' => W cls d σZ H') σ HZ Q) := by
  refine ⟨fun pz sz σz Hz Q Iz ⟨hs, hc, ht⟩ => wpAny_Call_Name_kw (thn ((pe_var (pos := p1) (i := i) hN hv hd hcd).run pz sz σz Hz (fun v H1 => v = .ref f ∧ H1 = Hz) Iz ⟨.ref f, hs, rfl, rfl⟩) fun u s2 ⟨v, H1, I1, r1, ev, eH⟩ => ?_)⟩
  subst ev; subst eH
  obtain rfl : u = Value.ref f := r1
  have at1 : s2.heap.get? f = some (PySem.W.kla_obj "<lambda>" (X.env.qual ++ "<lambda>") params body scope (cloFrom X.env.cells scope.names []) pm c' ctv) := I1.base.keep f _ hf hfn hfr (fun z => nomatch (show f ∈ ([] : List Addr) from z))
  refine PySem.W.callWith_F0 ⟨_, _, _, _, at1⟩ ?_
  have un : Un (frs X.stack) [] H H1 s.heap s2.heap := I1.base
  obtain ⟨⟨oc, vs, t, hoc, hdc, hvc⟩, _, _⟩ := I1.hok c' _ hc
  have run : codeAny (model X.prog X.w) (X.A.deeper (envOfC qg sg s.heap.objs.size g cdg)) (.call (.ref f) ⟨[], []⟩) (CR (L2.CX X.prog X.w) (envOfC qg sg s.heap.objs.size g cdg :: X.stack) X.prog X.w H1 s2 Q (fun cls d H' => W cls d σz H')) s2 := by
    refine PySem.W.kla_callFunE hr.depth at1 rfl L.co L.gen rfl ⟨c', oc, vs, t, rfl, hoc, hdc, hvc⟩ ?_
    rw [hbind]
    refine wpAny_pure (wpAny_newFunctionEnv (fun y hy => (L.own y hy).2) (fun y hy => absurd hy (by simp)) (fun h₁ hns hsb => ⟨I1.nolimit.fresh _ hsb, ?_⟩) L.kind)
    (show codeAny _ _ (.expr body (lamEnv X scope s2.heap.objs.size f c')) _ _)
    have kp : ∀ b o, s2.heap.get? b = some o → h₁.get? b = some o := fun b o e => hsb.extBut b o (Nat.ne_of_lt (Heap.lt_size e)) (Heap.get?_push_of_some _ e)
    have J : Inv (lamCx X (X.A.deeper (envOfC qg sg s.heap.objs.size g cdg)) (envOfC qg sg s.heap.objs.size g cdg :: X.stack) s2 H1 (fun cls d H' => W cls d σz H') scope f c') [] σ H1 { s2 with heap := h₁, toks := s2.toks + ([] : List (Str × Value)).length } := lam_start2 I L I1.env0 hr.hd un hns kp
    exact PySem.W.kla_codeExpr (wpAny_mono ((hbody _ _ s2 H1 _ (hr.deeper _)).run [] _ _ H1 Q J ht) (fun v s' ⟨w', H', J', rv, q⟩ => ⟨w', H', J'.os, J'.bare, J'.base, J'.hok, rv, q⟩) fun e s' hq => hq)
  refine wpAny_call (codeAny_mono run fun r s' hq => ?_)
  match r, hq with
  | .error e, hq => exact passAt tk σz pz H1 s2 e s' I1 hq
  | .ok (.ret u), hq => exact I1.after hq
  | .ok .next, hq | .ok .brk, hq | .ok .cont, hq => exact False.elim hq
theorem pe_lamS {K : PySem.W.Frag} {T : List (Addr × Str)} {TT : (XK → Hp → VK → Prop) → Hp → VK → Prop} {x a : Str} {g c P : Addr} {k : Nat} {st : Stmt} {fd : FuncData} {Ng : List Str} {params : Arguments} {body : Expr} {scope : Scope} {t : XK → TE} {p lpos pos : Pos}
    (hK : X.K = K) (F : Fun K x x st g fd) (b : Binds K fd [a] []) (hg : Gl X x) (hm : X.mg x = some (.ref g)) (Sg : FnScope Ng [a] (defScope st)) (hNg : Ng[0]? = some a) (hva : Vis (defScope st) a)
    (hG : ∀ cdv, GivesS X (k + 1) Ng x (defScope st) g cdv (defBody st) a (X.env.qual ++ "<lambda>") TT) (TB : TabB X.base X.mg c P) (hcode : X.env.code = .ref c) (hmT : (P, X.env.qual ++ "<lambda>") ∈ T) (hu : ∀ p ∈ T, p.1 = P → p.2 = X.env.qual ++ "<lambda>") (hr : Room (k + 2) X.A)
    (L : LamS X.env.scope scope) (hdef : defaultsOf params X.env = ([], [])) (hbind : ∀ (q : Str) (cl : List (Str × Addr)) (pm cv ctv : Value), bindArgs (PySem.W.kla_fn "<lambda>" q params body scope cl pm cv ctv) ⟨[], []⟩ = pure [])
    (hbody : ∀ (A : Around) (outer : List Env) (s : Shared) (H : Hp) (E : XK) (f c' : Addr), Room k (A.deeper (lamEnv X scope s.heap.objs.size f c')) → PE (lamCx X A outer s H E scope f c') body (t E))
    (hdb : (x == ("__debug__" : Str)) = false := by decide) (hd : (a == ("__debug__" : Str)) = false := by decide) (hcd : (a == ("__classdict__" : Str)) = false := by decide) : PE X (.Call (.Name x p) [.Lambda params body scope lpos] [] pos) (tLam T TT t) := by
  subst hK
  obtain ⟨oc, od, kV, doc, pm, an, cdv, ct, osl, rfl, lk, hc⟩ := F.ex
  refine ⟨fun pp t0 τ G R J ⟨hT, h⟩ => wpAny_Call_Name_kw (ld_glob J hg hm (PySem.W.callWith_K (h₀ := X.base) J.ok.mod.kin F.kp ?_ (by rfl) (by rfl)) hdb)⟩
  (show wpAny _ _ (spliced ((false, eval (.Lambda params body scope lpos) X.env) :: backTo pos (starEach [] X.env))) _ _ t0)
  refine Calls.spliced_cons (lam_make2 J TB hcode hmT hu hT hdef (L.has J.ok) fun f c' pm' ctv H1 s' I1 eN T1 hf hfn hfr hco => Calls.spliced_nil ⟨I1.kIn, ?_⟩)
  refine wpAny_call (codeAny_mono (LamX.run_ofS (N := Ng) (ps := [a]) (us := [.ref f]) (vs := [.ref f]) (CX := C8.CX0) (E := C8.E0) (Q := R) lk hc Sg hr I1.env0 (b s' [.ref f] I1.kIn rfl) (.cons rfl .nil) rfl fun hr' => ?_) fun r s2 hq => ?_)
  · obtain ⟨t', ht', hq'⟩ := hG cdv f c' s' H1 R (fun E H' Q' => t E τ H' Q') (fun W pn xe p1 p2 tk => pe_actS (i := 0) I1 L hf hfn hfr (hbind _ _ _ _ _) tk hr' (fun A outer s H E hr2 => hbody A outer s H E f c' hr2) hNg hva hd hcd) hr' hco (h H1 eN T1)
    exact ⟨t', ht'.nox, hq'⟩
  · match r, hq with
    | .error e, hq => exact (show False from hq).elim
    | .ok (.ret u), hq => exact I1.after hq
    | .ok .next, hq | .ok .brk, hq | .ok .cont, hq => exact False.elim hq
end
/-- what is no table stays -/
theorem _root_.LamX.ExtN.ex {H H' : Hp} (e : ExtN H H') : ∀ {a : Addr} {o : HO}, H a = some o → (∀ ps, o ≠ .tbl ps) → H' a = some o := fun h n => e _ _ h n
theorem Dz.en {p : Addr} {H H' : Hp} {v : V} {d : PyData} (h : Dz p H v d) (e : ExtN H H') : Dz p H' v d := by
  induction h with
  | non => exact .non
  | bl b => exact .bl b
  | int i => exact .int i
  | str x => exact .str x
  | lst h n m hl _ ih => exact .lst (e _ _ h (fun _ z => by cases z)) n m hl ih
  | tup h hl _ ih => exact .tup (e _ _ h (fun _ z => by cases z)) hl ih
  | dct h hl _ ih => exact .dct (e _ _ h (fun _ z => by cases z)) hl ih
/-- all but what stands at p, and tables -/
def XN (p : Addr) (H H' : Hp) : Prop := ∀ a o, a ≠ p → (∀ ps, o ≠ .tbl ps) → H a = some o → H' a = some o
theorem XB.xn {p : Addr} {H H' : Hp} (e : XB p H H') : XN p H H' := fun a o n _ h => e a o n h
theorem XN.tr {p : Addr} {H H1 H2 : Hp} (a : XN p H H1) (b : XN p H1 H2) : XN p H H2 := fun c o n t h => b c o n t (a c o n t h)
theorem en_xn {p : Addr} {H H' : Hp} (e : ExtN H H') : XN p H H' := fun a o _ t h => e a o h t
theorem tabs_xb {T : List (Addr × Str)} {p : Addr} {H H' : Hp} {xs : List V} (t : Tabs T H) (hp : H p = some (.lst xs)) (e : XB p H H') : Tabs T H' := fun q hq => by
  obtain ⟨ps, h1, h2, h3⟩ := t q hq
  refine ⟨ps, e _ _ (fun z => by rw [z, hp] at h1; cases h1) h1, h2, fun pos cv hc => ?_⟩
  obtain ⟨c, e1, e2⟩ := h3 pos cv hc
  exact ⟨c, e1, e _ _ (fun z => by rw [z, hp] at e2; unfold CodeO at e2; cases e2) e2⟩
/-- what isinstance says of any data -/
def isInt : V → Bool | .int _ => true | .bl _ => true | _ => false
def isBool : V → Bool | .bl _ => true | _ => false
def Kd (K : PySem.W.Frag) (H : Hp) (v : V) : Prop := ∃ t : String, TyX K H v (.type t) ∧ PySem.W.kitOne K (.type t) (.type "int") = some (isInt v) ∧ PySem.W.kitOne K (.type t) (.type "bool") = some (isBool v)
theorem kd_of {K : PySem.W.Frag} {p : Addr} {H : Hp} {v : V} {d : PyData} (h : Dz p H v d) : Kd K H v := by
  cases h with
  | non => exact ⟨_, .base .non, kit_ty (r := false) (by decide +kernel), kit_ty (r := false) (by decide +kernel)⟩
  | bl b => exact ⟨_, .base (.bl _), kit_ty (r := true) (by decide +kernel), kit_ty (r := true) (by decide +kernel)⟩
  | int i => exact ⟨_, .base (.int _), kit_ty (r := true) (by decide +kernel), kit_ty (r := false) (by decide +kernel)⟩
  | str x => exact ⟨_, .base (.str _), kit_ty (r := false) (by decide +kernel), kit_ty (r := false) (by decide +kernel)⟩
  | lst h => exact ⟨_, .base (.lst h), kit_ty (r := false) (by decide +kernel), kit_ty (r := false) (by decide +kernel)⟩
  | tup h => exact ⟨_, .base (.tup h), kit_ty (r := false) (by decide +kernel), kit_ty (r := false) (by decide +kernel)⟩
  | dct h => exact ⟨_, .base (.dK h), kit_ty (r := false) (by decide +kernel), kit_ty (r := false) (by decide +kernel)⟩
/-- an integer from lo on that is less than hi -/
def whole (v : V) (lo hi : Int) : Bool := match v with
  | .int i => decide (lo ≤ i) && decide (i < hi)
  | _ => false
theorem whole_int {v : V} {lo hi : Int} (h : whole v lo hi = true) : ∃ i, v = .int i ∧ lo ≤ i ∧ i < hi := by
  cases v with
  | int i => simp [whole] at h; exact ⟨i, rfl, h.1, h.2⟩
  | _ => simp [whole] at h
def spWholeA (K : PySem.W.Frag) : Sp := fun vs H Q _ => ∃ (v : V) (lo hi : Int), vs = [v, .int lo, .int hi] ∧ Kd K H v ∧ Q (.bl (whole v lo hi)) H
end HX
set_option Elab.async false
set_option linter.all false
set_option maxRecDepth 100000
set_option maxHeartbeats 4400000
namespace HX
open L2 PyProof.Rows PySem.Spec PySem
/-! ### a Hook by facts of one's own, and the defs as they stand -/
/-- what an object of the top leads to: a namespace to what it holds, a class to its namespace, a def to its code and defaults, a property to its defs -/
def nextO (o : Obj) : List Addr := match o.data with
  | .dict es _ => es.toList.flatMap fun e => He.refV e.val
  | .cls cd => [cd.ns]
  | .func fd => He.refV fd.code ++ (He.refV fd.defaults ++ He.refV fd.kwdefaults)
  | .fields vs => if o.cls == .type "code" then [] else vs.toList.flatMap He.refV
  | _ => []
def nextG (g : Addr → Option Obj) (as : List Addr) : List Addr := as.flatMap fun a => match g a with
  | some o => nextO o
  | none => []
def pathG (g : Addr → Option Obj) : Nat → List Addr → List Addr
  | 0, as => as
  | n + 1, as => as ++ pathG g n (nextG g as)

/-! ### defs by the address they stand at -/
structure DX where
  at_ : PySem.W.Frag → Addr
  name : Str
  qual : Str
  st : Stmt
/-- a def of the module -/
def glo (x : Str) (K : PySem.W.Frag) : Addr := He.ga K x
/-- a def of a class -/
def met (C m : Str) (K : PySem.W.Frag) : Addr := He.ma K (He.ga K C) m
/-- the getter of a property of a class -/
def prp (C f : Str) (K : PySem.W.Frag) : Addr := match PySem.W.recIn K (He.ma K (He.ga K C) f) "property" with
  | some (.ref g :: _) => g
  | _ => 0
def fnX (K : PySem.W.Frag) (a : Addr) : He.FnW := match K.lookup a with
  | some ⟨_, _, .func fd, _⟩ => some (fd.name, fd.qualname, fd.params, fd.body, fd.scope, fd.globals, fd.closure, fd.builtins)
  | _ => none
def DX.val (d : DX) : He.FnW := some (d.name, d.qual, defArgs d.st, .stmts (defBody d.st), defScope d.st, mainGlobals, [], builtinsNs)
def DX.ok (K : PySem.W.Frag) (d : DX) : Bool := PySem.W.keepIn K (.ref (d.at_ K)) && (match K.lookup (d.at_ K) with
  | some ⟨_, _, .func fd, _⟩ => PySem.W.codeIn K fd.code d.qual && decide (fd.defaults = .none)
  | _ => false)
theorem DX.fun_ {K : PySem.W.Frag} {d : DX} (e : fnX K (d.at_ K) = d.val) (c : d.ok K = true) : ∃ fd, Fun K d.name d.qual d.st (d.at_ K) fd := by
  obtain ⟨kp, c2⟩ := Bool.and_eq_true_iff.mp c
  unfold fnX at e
  cases q : K.lookup (d.at_ K) with
  | none => rw [q] at c2; cases c2
  | some o =>
    obtain ⟨oc, od, dt, osl⟩ := o
    rw [q] at c2 e
    cases dt with
    | func fd =>
      obtain ⟨n1, n2, n3, n4, n5, n6, n7, n8, n9, n10, n11, n12, n13, n14, n15⟩ := fd
      have e2 : (some (n1, n2, n3, n4, n5, n6, n7, n15) : He.FnW) = some (d.name, d.qual, defArgs d.st, .stmts (defBody d.st), defScope d.st, mainGlobals, [], builtinsNs) := e
      simp only [Option.some.injEq, Prod.mk.injEq] at e2
      obtain ⟨h1, h2, h3, h4, h5, h6, h7, h8⟩ := e2
      subst h1 h2 h3 h4 h5 h6 h7 h8
      obtain ⟨k1, k2⟩ := Bool.and_eq_true_iff.mp (show (PySem.W.codeIn K n13 d.qual && decide (n8 = .none)) = true from c2)
      have k3 : n8 = .none := of_decide_eq_true k2
      subst k3
      exact ⟨_, ⟨oc, od, n9, n10, n11, n12, n13, n14, osl, rfl, q, k1⟩, kp⟩
    | _ => cases c2
def obsX (n : Nat) (ex : PySem.W.Frag → Bool) (fn : List DX) (g : Addr → Option Obj) : He.AlD :=
  let K := He.frG g (pathG g n [mainGlobals])
  (ex K && fn.all fun d => d.ok K, fn.map fun d => fnX K (d.at_ K))
def valX (fn : List DX) : He.AlD := (true, fn.map DX.val)
def SaysX (ex : PySem.W.Frag → Bool) (fn : List DX) (K : PySem.W.Frag) : Prop := (ex K && fn.all fun d => d.ok K, fn.map fun d => fnX K (d.at_ K)) = valX fn
def hookX (n : Nat) (ex : PySem.W.Frag → Bool) (fn : List DX) : PySem.W.Hook where
  α := He.AlD
  obs := fun s => obsX n ex fn s.heap.get?
  val := fun _ => valX fn
  says := fun _ h => ∃ K : PySem.W.Frag, K.In h ∧ SaysX ex fn K
  of := fun _ _ e => ⟨_, He.frG_in, e⟩
  keeps := fun _ _ _ ⟨K, a, c⟩ k => ⟨K, PySem.W.Frag.In.keeps a k, c⟩
def obT (n : Nat) (ex : PySem.W.Frag → Bool) (fn : List DX) (s : PySem.W.SharedT) : He.AlD := obsX n ex fn (HandSHeadRun.getT s)
theorem obT_eq {n : Nat} {ex : PySem.W.Frag → Bool} {fn : List DX} (s : PySem.W.SharedT) : obT n ex fn s = (hookX n ex fn).obs s.abs := by
  have e : HandSHeadRun.getT s = s.abs.heap.get? := funext (HandSHeadRun.getT_eq s)
  unfold obT; rw [e]; rfl
theorem SaysX.facts {ex : PySem.W.Frag → Bool} {fn : List DX} {K : PySem.W.Frag} (c : SaysX ex fn K) : ex K = true := (Bool.and_eq_true_iff.mp (show (ex K && fn.all fun d => d.ok K) = true from congrArg (fun z : He.AlD => z.1) c)).1
theorem SaysX.def_ {ex : PySem.W.Frag → Bool} {fn : List DX} {K : PySem.W.Frag} (c : SaysX ex fn K) (i : Nat) {d : DX} (h : fn[i]? = some d) : ∃ fd, Fun K d.name d.qual d.st (d.at_ K) fd := by
  have c1 := (Bool.and_eq_true_iff.mp (show (ex K && fn.all fun d => d.ok K) = true from congrArg (fun z : He.AlD => z.1) c)).2
  have e : fn.map (fun d => fnX K (d.at_ K)) = fn.map DX.val := congrArg (fun z : He.AlD => z.2) c
  have e2 : (fn.map (fun d => fnX K (d.at_ K)))[i]? = (fn.map DX.val)[i]? := by rw [e]
  rw [List.getElem?_map, List.getElem?_map, h] at e2
  exact DX.fun_ (Option.some.inj e2) (List.all_eq_true.mp c1 d (List.mem_of_getElem? h))
/-! ### facts of own classes -/
def clsB (K : PySem.W.Frag) (C : Addr) : Bool := PySem.W.plainGet K C Str.empty && (PySem.W.hasDictIn K C && (PySem.W.plainOver K C && He.eqO (PySem.W.findIn K (.ref C) "__setattr__") (some (some (.builtin "object.__setattr__")))))
theorem clsB_ok {K : PySem.W.Frag} {C : Addr} (c : clsB K C = true) : Cls K C := by
  obtain ⟨c1, c⟩ := Bool.and_eq_true_iff.mp c
  obtain ⟨c2, c⟩ := Bool.and_eq_true_iff.mp c
  obtain ⟨c3, c4⟩ := Bool.and_eq_true_iff.mp c
  exact ⟨c1, c2, c3, He.eqO_ok c4⟩
def mkB (K : PySem.W.Frag) (C f : Addr) : Bool := PySem.W.makesIn K C && (He.eqO (PySem.W.findIn K (.ref C) "__init__") (some (some (.ref f))) && (PySem.W.isFn K (.ref f) && PySem.W.keepIn K (.ref C)))
theorem mkB_ok {K : PySem.W.Frag} {C f : Addr} (c : mkB K C f = true) : Mk K C f := by
  obtain ⟨c1, c⟩ := Bool.and_eq_true_iff.mp c
  obtain ⟨c2, c⟩ := Bool.and_eq_true_iff.mp c
  obtain ⟨c3, c4⟩ := Bool.and_eq_true_iff.mp c
  exact ⟨c1, He.eqO_ok c2, c3, c4⟩
def noatB (K : PySem.W.Frag) (C : Addr) (f : Str) : Bool := He.eqO (PySem.W.findIn K (.ref C) f) (some none)
theorem noatB_ok {K : PySem.W.Frag} {C : Addr} {f : Str} (c : noatB K C f = true) : NoAttr K C f := He.eqO_ok c
def propB (K : PySem.W.Frag) (C : Addr) (f : Str) (p g : Addr) : Bool := He.eqO (PySem.W.findIn K (.ref C) f) (some (some (.ref p))) && (He.eqO (PySem.W.specialIn K (.ref p) "__get__") (some (some (.builtin "property.__get__"))) &&
  (decide (PySem.W.takesIn K (.ref p) = some true) && (match PySem.W.recIn K p "property" with
    | some (.ref b :: _) => decide (b = g)
    | _ => false)))
theorem propB_ok {K : PySem.W.Frag} {C : Addr} {f : Str} {p g : Addr} (c : propB K C f p g = true) : PropOf K C f p g := by
  obtain ⟨c1, c⟩ := Bool.and_eq_true_iff.mp c
  obtain ⟨c2, c⟩ := Bool.and_eq_true_iff.mp c
  obtain ⟨c3, c4⟩ := Bool.and_eq_true_iff.mp c
  refine ⟨He.eqO_ok c1, He.eqO_ok c2, of_decide_eq_true c3, ?_⟩
  split at c4
  · rename_i b r e
    obtain rfl : b = g := of_decide_eq_true c4
    exact ⟨r, e⟩
  · cases c4
def methB (K : PySem.W.Frag) (C : Addr) (m : Str) (f : Addr) : Bool := He.eqO (PySem.W.findIn K (.ref C) m) (some (some (.ref f))) && (PySem.W.isFn K (.ref f) && PySem.W.keepIn K (.ref f))
theorem methB_ok {K : PySem.W.Frag} {C : Addr} {m : Str} {f : Addr} (c : methB K C m f = true) : Meth K C m f := by
  obtain ⟨c1, c⟩ := Bool.and_eq_true_iff.mp c
  obtain ⟨c2, c3⟩ := Bool.and_eq_true_iff.mp c
  exact ⟨He.eqO_ok c1, c2, c3⟩
/-- what isinstance and the class of an object ask -/
def isiB (K : PySem.W.Frag) (C : Addr) : Bool := He.eqO (PySem.W.findIn K (.ref C) "__class__") (some (some (.builtin "object.__class__"))) && decide (PySem.W.mroIn K C (.type "object") = some true)
theorem isiB_ok {K : PySem.W.Frag} {C : Addr} (c : isiB K C = true) : PySem.W.findIn K (.ref C) "__class__" = some (some (.builtin "object.__class__")) ∧ PySem.W.mroIn K C (.type "object") = some true := by
  obtain ⟨c1, c2⟩ := Bool.and_eq_true_iff.mp c
  exact ⟨He.eqO_ok c1, of_decide_eq_true c2⟩
/-! ### code objects and their tables -/
def cod (y : Str) (K : PySem.W.Frag) : Addr := match PySem.W.tabIn K y with
  | some p => p.1
  | none => 0
def tbl (y : Str) (K : PySem.W.Frag) : Addr := match PySem.W.tabIn K y with
  | some p => p.2
  | none => 0
def tabB (K : PySem.W.Frag) (y : Str) : Bool := decide (PySem.W.tabIn K y = some (cod y K, tbl y K)) && (K.lookup (tbl y K)).isNone
theorem tabB_ok {K : PySem.W.Frag} {y : Str} (c : tabB K y = true) : PySem.W.tabIn K y = some (cod y K, tbl y K) ∧ K.lookup (tbl y K) = none := by
  obtain ⟨c1, c2⟩ := Bool.and_eq_true_iff.mp c
  exact ⟨of_decide_eq_true c1, Option.isNone_iff_eq_none.mp c2⟩
theorem code_of {K : PySem.W.Frag} {x q y : Str} {st : Stmt} {fd : FuncData} {c P : Addr} (F : Fun K x q st (He.ga K y) fd) (h : PySem.W.tabIn K y = some (c, P)) : fd.code = .ref c := by
  obtain ⟨oc, od, kV, doc, pm, an, cdv, ct, osl, rfl, lk, hcd⟩ := F.ex
  unfold PySem.W.tabIn at h
  unfold He.ga at lk
  split at h
  · rename_i f hf
    rw [hf] at lk
    dsimp only at lk
    rw [lk] at h
    dsimp only at h
    split at h
    · split at h
      · split at h
        · cases h; first | rfl | assumption
        · cases h
      · cases h
    · cases h
  · cases h
end HX
set_option Elab.async false
set_option linter.all false
set_option maxRecDepth 100000
set_option maxHeartbeats 4400000
namespace HX
open L2 PyProof.Rows PySem.Spec PySem
open PySem.W (Frag)
/-! ### facts of own errors -/
def ExcObj (K : Frag) (C : Addr) : Prop := ∃ nm q N bs bm sn sub ab col dd k0 k1 k2 k3 k5, K.lookup C = some (excClassObj nm q C N bs bm true sn sub ab col dd k0 k1 k2 k3 k5 "ValueError.__new__") ∧ PySem.HandSPX.refsVE bm = true
theorem exc_mk {K : Frag} {C : Addr} {nm q : Str} {N : Addr} {bs bm : List Value} {sn : List Str} {sub : List Value} {ab : Bool} {col : Option Bool} {dd : Option Addr} {k0 k1 k2 k3 k5 : Option Value}
    (h : K.lookup C = some (excClassObj nm q C N bs bm true sn sub ab col dd k0 k1 k2 k3 k5 "ValueError.__new__")) (r : PySem.HandSPX.refsVE bm = true) : ExcObj K C := ⟨_, _, _, _, _, _, _, _, _, _, _, _, _, _, _, h, r⟩
/-- what an own error's class says, but for its __init__ -/
def errB0 (K : Frag) (C : Addr) : Bool :=
  (PySem.W.clsIn K C).isSome && PySem.W.findIn K (.ref C) "__getattribute__" == some (some (.builtin "BaseException.__getattribute__")) && PySem.W.findIn K (.ref C) "__getattr__" == some none
  && PySem.W.subIn K (.ref C) (.type "BaseException") == some true && PySem.W.findIn K (.ref C) "__class__" == some (some (.builtin "object.__class__"))
  && PySem.W.specialIn K (.builtin "object.__class__") "__get__" == some (some (.builtin "getset_descriptor.__get__")) && PySem.W.takesIn K (.builtin "object.__class__") == some true && PySem.W.mroIn K C (.type "object") == some true
  && PySem.W.keepIn K (.ref C)
theorem errB0_er {K : Frag} {C : Addr} (h : errB0 K C = true) : ErrC K C := by
  unfold errB0 at h
  simp only [Bool.and_eq_true, beq_iff_eq] at h
  obtain ⟨⟨⟨⟨⟨⟨⟨⟨h1, h2⟩, h3⟩, h4⟩, h5⟩, h6⟩, h7⟩, h8⟩, _⟩ := h
  exact ⟨h1, h2, h3, h4, h5, h6, h7, h8⟩
theorem errB0_keep {K : Frag} {C : Addr} (h : errB0 K C = true) : PySem.W.keepIn K (.ref C) = true := by
  unfold errB0 at h
  simp only [Bool.and_eq_true, beq_iff_eq] at h
  exact h.2
def errB (K : Frag) (C f : Addr) (n : Str) : Bool :=
  errB0 K C && PySem.W.hasDictIn K C && PySem.W.findIn K (.ref C) "__setattr__" == some (some (.builtin "object.__setattr__")) && PySem.W.typeIn K (.ref C) == some (.type "type") && PySem.W.findIn K (.ref C) n == some none
  && PySem.W.findIn K (.ref C) "__init__" == some (some (.ref f)) && PySem.W.typeIn K (.ref f) == some (.type "function")
theorem errT_mk_er {K : Frag} {C f : Addr} {n : Str} (h : errB K C f n = true) : ErrC K C := by
  unfold errB at h
  simp only [Bool.and_eq_true, beq_iff_eq] at h
  exact errB0_er h.1.1.1.1.1.1
theorem errT_mk {K : Frag} {mg : Str → Option Value} {x n : Str} {C f : Addr} {d : FuncData} (o : ExcObj K C) (h : errB K C f n = true) (b : Binds K d ["self", n] []) (kb : ∀ (s : Shared) (a u : Value), K.In s.heap → BindsTo s d ⟨[a], [(n, u)]⟩ [("self", a), (n, u)]) (m : mg x = some (.ref C)) : ErrT K mg x n C f d := by
  unfold errB at h
  simp only [Bool.and_eq_true, beq_iff_eq] at h
  obtain ⟨⟨⟨⟨⟨⟨h0, h1⟩, h2⟩, h3⟩, h4⟩, h5⟩, h6⟩ := h
  have e := errB0_er h0
  exact ⟨⟨o, h2, e.be, h3, errB0_keep h0⟩, ⟨e.ga, e.gt, e.be, h1⟩, e, h4, h5, h6, b, kb, m⟩
def mroOne (K : Frag) (T C : Addr) : Bool := (PySem.W.clsIn K C).any (fun cd => decide (cd.mro = [.ref C, .ref T, .type "ValueError", .type "Exception", .type "BaseException", .type "object"])) && decide (PySem.W.typeIn K (.ref C) = some (.type "type"))
/-- errors right below the class at T, all different -/
def mroB (K : Frag) (T : Addr) (l : List Addr) : Bool := (PySem.W.clsIn K T).isSome && (decide (PySem.W.typeIn K (.ref T) = some (.type "type")) && (l.all (mroOne K T) && (decide (l.Nodup) && l.all fun C => !(C == T))))
theorem mroOne_sub {K : Frag} {T C : Addr} {v : Value} (h : mroOne K T C = true) : PySem.W.subIn K (.ref C) v = some (([.ref C, .ref T, .type "ValueError", .type "Exception", .type "BaseException", .type "object"] : List Value).contains v) := by
  unfold mroOne at h
  rw [Bool.and_eq_true] at h
  cases e : PySem.W.clsIn K C with
  | none => rw [e] at h; cases h.1
  | some cd =>
    rw [e] at h
    have m : cd.mro = _ := of_decide_eq_true h.1
    show PySem.W.mroIn K C v = _
    unfold PySem.W.mroIn
    rw [e]
    show (if cd.mro.isEmpty = true then none else some (cd.mro.contains v)) = _
    rw [m]; rfl
theorem mroOne_cls {K : Frag} {T C : Addr} (h : mroOne K T C = true) : (PySem.W.clsIn K C).isSome = true ∧ PySem.W.typeIn K (.ref C) = some (.type "type") := by
  unfold mroOne at h
  rw [Bool.and_eq_true] at h
  refine ⟨?_, of_decide_eq_true h.2⟩
  cases e : PySem.W.clsIn K C with
  | none => rw [e] at h; cases h.1
  | some cd => rfl
theorem mroB_kit {K : Frag} {T : Addr} {l : List Addr} (h : mroB K T l = true) : ∀ C ∈ l, ∀ D ∈ l, PySem.W.kitOne K (.ref C) (.ref D) = some (C == D) := fun C hC D hD => by
  unfold mroB at h
  simp only [Bool.and_eq_true, List.all_eq_true, Bool.not_eq_true', beq_eq_false_iff_ne] at h
  obtain ⟨_, _, h1, _, h3⟩ := h
  obtain ⟨c1, c2⟩ := mroOne_cls (h1 D hD)
  have sb := mroOne_sub (v := .ref D) (h1 C hC)
  by_cases e : C = D
  · subst e; simp [PySem.W.kitOne]
  · have n1 : (C == D) = false := beq_eq_false_iff_ne.mpr e
    have n2 : ((Value.ref C) == (.ref D)) = false := by simp [e]
    rw [n1]
    have ct : ([.ref C, .ref T, .type "ValueError", .type "Exception", .type "BaseException", .type "object"] : List Value).contains (.ref D) = false := by
      have e2 : ¬ D = C := fun z => e z.symm
      have e3 : ¬ D = T := h3 D hD
      simp [e2, e3]
    rw [ct] at sb
    simp [PySem.W.kitOne, PySem.W.kitCls, n2, c1, c2, sb]
theorem mroB_te {K : Frag} {T : Addr} {l : List Addr} (h : mroB K T l = true) : ∀ C ∈ l, PySem.W.kitOne K (.ref C) (.ref T) = some true := fun C hC => by
  unfold mroB at h
  simp only [Bool.and_eq_true, List.all_eq_true, Bool.not_eq_true', beq_eq_false_iff_ne, decide_eq_true_eq] at h
  obtain ⟨t1, t2, h1, _, h3⟩ := h
  have sb := mroOne_sub (v := .ref T) (h1 C hC)
  have n2 : ((Value.ref C) == (.ref T)) = false := by simp [h3 C hC]
  have ct : ([.ref C, .ref T, .type "ValueError", .type "Exception", .type "BaseException", .type "object"] : List Value).contains (.ref T) = true := by simp
  rw [ct] at sb
  simp [PySem.W.kitOne, PySem.W.kitCls, n2, t1, t2, sb]
theorem mroB_ve {K : Frag} {T : Addr} {l : List Addr} (h : mroB K T l = true) : ∀ C ∈ l, PySem.W.kitOne K (.ref C) (.type "ValueError") = some true := fun C hC => by
  unfold mroB at h
  simp only [Bool.and_eq_true, List.all_eq_true, Bool.not_eq_true', beq_eq_false_iff_ne] at h
  obtain ⟨_, _, h1, _, _⟩ := h
  have sb := mroOne_sub (v := .type "ValueError") (h1 C hC)
  have ct : ([.ref C, .ref T, .type "ValueError", .type "Exception", .type "BaseException", .type "object"] : List Value).contains (.type "ValueError") = true := by simp
  rw [ct] at sb
  have km : PySem.W.kitMeta "ValueError" = true := by decide +kernel
  have n2 : ((Value.ref C) == (.type "ValueError")) = false := rfl
  simp [PySem.W.kitOne, PySem.W.kitCls, n2, km, sb]
theorem mroB_nd {K : Frag} {T : Addr} {l : List Addr} (h : mroB K T l = true) : l.Nodup := by
  unfold mroB at h
  simp only [Bool.and_eq_true, decide_eq_true_eq] at h
  exact h.2.2.2.1
def excB (K : Frag) (C : Addr) : Bool := match K.lookup C with
  | some ⟨.type "type", _, .cls cd, sl⟩ => (match cd.mro, sl.toList with
    | .ref D :: bm, [_, _, _, _, some (.builtin n), _] => D == C && (n == "ValueError.__new__" && (!cd.hasDel && (cd.hasDict && PySem.HandSPX.refsVE bm)))
    | _, _ => false)
  | _ => false
theorem excB_ok {K : Frag} {C : Addr} (q : excB K C = true) : ExcObj K C := by
  unfold excB at q
  split at q
  · rename_i dd cd sl ho
    split at q
    · rename_i D bm k0 k1 k2 k3 n k5 hm hs
      simp only [Bool.and_eq_true, beq_iff_eq, Bool.not_eq_true'] at q
      obtain ⟨rfl, rfl, hdel, hdi, hr⟩ := q
      obtain ⟨nm, bs, mro, ns, qn, hd, sn, sub, ab, col, del⟩ := cd
      dsimp only at hm hdel hdi
      subst hm hdel hdi
      obtain ⟨l⟩ := sl
      simp only at hs
      subst hs
      exact ⟨_, _, _, _, _, _, _, _, _, _, _, _, _, _, _, ho, hr⟩
    · cases q
  · cases q
theorem kb_of {K : Frag} {x q n : Str} {st : Stmt} {f : Addr} {fd : FuncData} (F : Fun K x q st f fd) (h : ∀ (kV doc pm : Value) (an : Option Addr) (cdv ct : Value) (a u : Value), bindArgs (PySem.W.fnOf x q (defArgs st) (defBody st) (defScope st) .none kV doc pm an cdv ct) ⟨[a], [(n, u)]⟩ = pure [(("self" : Str), a), (n, u)]) :
    ∀ (s : Shared) (a u : Value), K.In s.heap → BindsTo s fd ⟨[a], [(n, u)]⟩ [("self", a), (n, u)] := by
  obtain ⟨oc, od, kV, doc, pm, an, cdv, ct, osl, rfl, lk, hcd⟩ := F.ex
  exact fun s a u _ => .of_eq (h _ _ _ _ _ _ _ _)
theorem mroB_xte {K : Frag} {T : Addr} {l : List Addr} (h : mroB K T l = true) (hb : PySem.W.subIn K (.ref T) (.type "BaseException") = some true) : ∀ C ∈ l, PySem.W.exmOne K (.ref C) (.ref T) = some true := fun C hC => by
  have k := mroB_te h C hC
  have h2 := h
  unfold mroB at h2
  simp only [Bool.and_eq_true, List.all_eq_true, Bool.not_eq_true', beq_eq_false_iff_ne, decide_eq_true_eq] at h2
  have n2 : ((Value.ref C) == (.ref T)) = false := by simp [h2.2.2.2.2 C hC]
  unfold PySem.W.kitOne at k
  rw [n2] at k
  unfold PySem.W.exmOne
  rw [hb]
  exact k
end HX
set_option Elab.async false
set_option linter.all false
set_option maxRecDepth 100000
set_option maxHeartbeats 4400000
namespace HX
open L2 PyProof.Rows PySem.Spec PySem
open PySem.W (Frag)
/-! ### list(..) of a list or a tuple: the new list stands apart from the table of modules -/
def rListN (K : Frag) : List V → Hp → VK → Prop := fun xs H Q => ∃ p ys, xs = [.ref p] ∧ (SqL K H p ys ∨ SqT K H p ys) ∧ ∀ l, H l = none → l ≠ sysModules → Q (.ref l) (upd H l (.lst ys))
theorem call_listN {X : Cx} : CallR X (.type "list") (rListN X.K) := fun pp t τ G xs us R J r h => by
  obtain ⟨p, ys, e0, hs, q⟩ := h
  subst e0
  match us, r with
  | [_], .cons rx .nil =>
    cases rx
    have new : ∀ (vs : List Value) (g : Heap) (n : Nat), Vals ys vs → ys.length ≤ sizeLine → (∀ b o, t.heap.get? b = some o → g.get? b = some o) → g.get? t.heap.objs.size = some ⟨.type "list", none, .seq vs.toArray n, #[]⟩ → EP X pp τ R (.ref t.heap.objs.size) ⟨g, t.gens, t.drawn, t.toks, t.os⟩ :=
      fun vs g n rv z kp e => ⟨.ref t.heap.objs.size, _, J.laid (t' := t.toks) (o := .lst ys) kp (Nat.le_refl _) ⟨z, vs, n, rv, e⟩, rfl, q _ (J.hok.fresh (Nat.le_refl _)) (Nat.ne_of_gt J.big)⟩
    rcases hs with hs | hs
    · obtain ⟨vs, rv, pl, z⟩ := J.list hs
      have n63 := line63; have ln := rv.length
      obtain ⟨o, h1, h2, n, h3⟩ := pl.isList
      exact call_list_seq p (.inl rfl) h1 h2 h3 (fun g n' kp e => new vs g n' rv z kp e) (by rw [List.size_toArray]; omega)
    · obtain ⟨vs, rv, ⟨o, h1, h2, n, h3⟩, z⟩ := J.tuple hs
      have n63 := line63; have ln := rv.length
      exact call_list_seq p (.inr rfl) h1 h2 h3 (fun g n' kp e => new vs g n' rv z kp e) (by rw [List.size_toArray]; omega)
/-! ### short sequences of small ints -/
def bdB (d : PyData) : Bool := d.showable && decide (d.depth ≤ 4) && d.leavesShort 24 && decide (d.weight ≤ 400) && PyData.strOk d.shown
theorem bdB_ok {d : PyData} (h : bdB d = true) : Bd 0 d := .of h
def intsTo (m : Nat) : Nat → List (List Int)
  | 0 => [[]]
  | k + 1 => [] :: (intsTo m k).flatMap fun l => (List.range m).map (fun i : Nat => ((i : Int) :: l))
theorem mem_ints {m : Nat} : ∀ {k : Nat} {l : List Int}, l.length ≤ k → (∀ i ∈ l, 0 ≤ i ∧ i < (m : Int)) → l ∈ intsTo m k
  | 0, [], _, _ => .head _
  | 0, _ :: _, h, _ => by simp at h
  | k + 1, [], _, _ => .head _
  | k + 1, i :: l, h, b => by
    refine List.mem_cons.mpr (.inr (List.mem_flatMap.mpr ⟨l, mem_ints (by simpa using h) fun j hj => b j (.tail _ hj), List.mem_map.mpr ⟨i.toNat, List.mem_range.mpr ?_, ?_⟩⟩))
    · have := b i (.head _); omega
    · have := b i (.head _); rw [Int.toNat_of_nonneg this.1]
end HX
set_option Elab.async false
set_option linter.all false
set_option maxRecDepth 100000
set_option maxHeartbeats 4400000
namespace PySem.HXe
open PySem
/-- the two new objects of enumerate(v) -/
abbrev enH (h : Heap) (o : Obj) : Heap := (h.push o).push ⟨.type "enumerate", none, .fields #[.none, .bool false, .ref h.objs.size, rawInt 0, .none, .none], #[]⟩
theorem new_enum {v : Value} {o : Obj} {F : Heap → Prop} (B : Begins v o F) : Meets (Builtin.«enumerate.__new__» ⟨[.type "enumerate", v], []⟩) (fun _ R s => F s.heap ∧ R (.ok (.ret (.ref (s.heap.push o).objs.size))) ⟨enH s.heap o, s.gens, s.drawn, s.toks, s.os⟩) :=
  .of_wp fun prog w A R s h => by
    obtain ⟨hp, g, d, tk, os⟩ := s; obtain ⟨hF, h2⟩ := h
    have h1 : F hp := hF
    have hsub := sub_enumerate
    have it1 : ∀ {A' : Around} {E : Value → Shared → Prop} {Q : Value → Shared → Prop}, Q (.ref hp.objs.size) ⟨hp.push o, g, d, tk, os⟩ → wpAny (model prog w) A' (pyIter v) Q E ⟨hp, g, d, tk, os⟩ := fun q => B.iter prog w _ _ ⟨hp, g, d, tk, os⟩ _ h1 q
    wp_walk using it1
    refine wpAny_stack_any fun st => wpAny_pure ?_
    split
    · rename_i c _ _ _ _ _; cases (c == Value.type "enumerate") <;> (wp_walk using it1; exact ⟨_, rfl, h2⟩)
    · wp_walk using it1; exact ⟨_, rfl, h2⟩
theorem enumerates {prog : Program} {w : World} {A : Around} {E : Value → Shared → Prop} {s : Shared} {v : Value} {o : Obj} {Z : Heap → Prop} {Q : Value → Shared → Prop} (B : Begins v o Z) (hF : Z s.heap)
    (h : ∀ h', IsEnum h' (s.heap.objs.size + 1) s.heap.objs.size 0 .none → h'.get? s.heap.objs.size = some o → (∀ b ob, s.heap.get? b = some ob → h'.get? b = some ob) → Q (.ref (s.heap.objs.size + 1)) ⟨h', s.gens, s.drawn, s.toks, s.os⟩) :
    wpAny (model prog w) A (call (.type "enumerate") [v]) Q E s := by
  refine callType_new F.called_enumerate (by decide) (F.typeCall_enumerate_1 _) (F.newCall_enumerate_1 _) (fun obj => F.args_object_init_2 obj _) F.entry_enumerate_new (new_enum B) ⟨hF, ?_⟩
  have z1 : (s.heap.push o).objs.size = s.heap.objs.size + 1 := Heap.size_push ..
  have ge : (enH s.heap o).get? (s.heap.push o).objs.size = _ := Heap.get?_push_size _ rfl
  have gi : (enH s.heap o).get? s.heap.objs.size = some o := Heap.get?_push_of_some _ (Heap.get?_push_size _ B.free)
  rw [z1] at ge
  show _ ∧ _
  rw [z1]
  have q := h (enH s.heap o) ge gi fun b ob e => Heap.get?_push_of_some _ (Heap.get?_push_of_some _ e)
  exact ⟨⟨_, ge, rfl⟩, q⟩
end PySem.HXe
namespace HX
open L2 PyProof.Rows PySem.Spec PySem
open PySem.W (Frag)
/-! ### enumerate of a tuple -/
def ItE (K : Frag) (a : Addr) : It :=
  ⟨fun i H => ∃ (xs : List V) (x : V), SqT K H a xs ∧ xs[i]? = some x, fun i H v H' => ∃ T x, v = .ref T ∧ H T = none ∧ H' = upd H T (.tup [.int (i : Nat), x]) ∧ ∀ xs, SqT K H a xs → xs[i]? = some x, fun i H => ∃ xs : List V, SqT K H a xs ∧ xs.length ≤ i⟩
theorem turn_enT {P : Program} {w : World} {K : Frag} {elts : List Expr} {kk : Nat} {tpos : Pos} (a e it : Addr) :
    Turn P w K (.Tuple elts kk tpos) (ItE K a) [e, it] e (fun i h => (∃ old, IsEnum h e it ((i : Nat) : Int) old) ∧ h.IsTupleIter it a i ∧ e ≠ it ∧ a ≠ it ∧ a ≠ e) := by
  refine ⟨List.mem_cons_self, ?_, ?_, ?_, ?_, fun A i s Q E st h => let ⟨⟨_, he⟩, _⟩ := st; wpAny_pyIter_enum he h⟩
  · rintro i h ⟨⟨old, he⟩, ⟨o, ho, hc, hd⟩, _⟩ b hb
    rcases List.mem_cons.mp hb with z | z
    · rw [z]; exact ⟨_, he, fun v q => by cases q⟩
    · rw [List.mem_singleton.mp z]; exact ⟨o, ho, fun v q => by rw [hd] at q; cases q⟩
  · rintro i h h' ⟨⟨old, he⟩, hi, hne⟩ k
    exact ⟨⟨old, k e (.head _) _ he⟩, hi.at fun o q => k it (.tail _ (.head _)) o q, hne⟩
  · intro X hP hw hK hc i pins s σ H E I hf st hg
    subst hP hw hK
    obtain ⟨⟨old, he⟩, hit, hne, na, nae⟩ := st
    obtain ⟨xs, x, hq, hx⟩ := hg
    obtain ⟨its, rv, pl, _⟩ := I.tuple hq
    have li : i < xs.length := (List.getElem?_eq_some_iff.mp hx).1
    have ln := rv.length
    have el : e < s.heap.objs.size := Heap.lt_size he
    have il : it < s.heap.objs.size := let ⟨_, q, _⟩ := hit; Heap.lt_size q
    have D := Draws.tuple (prog := X.prog) (w := X.w) (A := X.A.in1) (show X.A.in1.handled = none from I.ok.hd hc) it a na its.toArray
    refine wpAny_pyNext_enum_itemD D he ⟨hit, pl⟩ (by simp; omega) hne (by simp; exact ⟨hne, fun z => nae z.symm⟩) fun u h' tk hu ho st' hT hsz hk => ?_
    obtain ⟨u2, hu2, ru⟩ := rv.get hx
    have eu : u2 = u := by
      have q : its[i]? = some u := by simpa using hu
      rw [hu2] at q; exact Option.some.inj q
    subst eu
    refine ⟨_, rfl, wpAny_letOwnedTupleGo_enum (s := ⟨h', s.gens, s.drawn, tk + 1, s.os⟩) ho fun h2 he2 sb => ?_⟩
    have hT2 : h2.get? s.heap.objs.size = some ⟨.type "tuple", none, .seq #[.int i tk, u2] 0, #[]⟩ := (sb.2 _ (Nat.ne_of_gt el)).trans hT
    have J : Inv X pins σ (upd H s.heap.objs.size (.tup [.int (i : Nat), x])) ⟨h2, s.gens, s.drawn, tk + 1, s.os⟩ :=
      I.turnedNew (ch := [e, it]) (fun b ob hb q => (sb.2 b (fun z => hb (by simp [z]))).trans (hk b ob (fun z => hb (by simp [z])) (fun z => hb (by simp [z])) q)) hf (Nat.le_refl _) ⟨by show 2 ≤ sizeLine; decide, [.int i tk, u2], .cons ⟨_, rfl⟩ (.cons ru .nil), ⟨_, hT2, rfl, _, rfl⟩⟩
    refine ⟨.ref s.heap.objs.size, _, J, rfl, ⟨_, x, rfl, I.hok.fresh (Nat.le_refl _), rfl, fun ys hy => by rw [I.tuple_inj hy hq]; exact hx⟩, ⟨⟨u2, ?_⟩, st'.1.at fun o q => (sb.2 it (Ne.symm hne)).trans q, hne, na, nae⟩, fun b hb => ?_⟩
    · have e1 : ((i + 1 : Nat) : Int) = (i : Int) + 1 := Int.natCast_succ i
      rw [e1]; exact he2
    · have lt : b < s.heap.objs.size := by
        rcases List.mem_cons.mp hb with z | z
        · rw [z]; exact el
        · rw [List.mem_singleton.mp z]; exact il
      rw [upd_ne (Nat.ne_of_lt lt)]; exact (hf b hb).1
  · intro X hP hw hK hc i pins s σ H E I hf st hg
    subst hP hw hK
    obtain ⟨⟨old, he⟩, hit, hne, na, nae⟩ := st
    obtain ⟨xs, hq, hx⟩ := hg
    obtain ⟨its, rv, pl, _⟩ := I.tuple hq
    obtain ⟨f0, f1, f2, f3, f4, f5⟩ := hf it (.tail _ (.head _))
    have ln := rv.length
    have D : Draws X.prog X.w X.A.in1 it [it, a] i (fun _ _ => True) (fun j h => j = i ∧ h.IsTupleIter it a i ∧ h.IsTuple a its.toArray) :=
      ⟨fun j h st => let ⟨o, ho, _⟩ := st.2.1; ⟨o, ho⟩, fun j h h' st k => ⟨st.1, st.2.1.at fun o q => k it (.head _) o q, st.2.2.at fun o q => k a (.tail _ (.head _)) o q⟩, fun j s Q E lt st _ => absurd st.1 (Nat.ne_of_lt lt),
        fun s Q E st hE => wpAny_nextOf_tuple_end (show X.A.in1.handled = none from I.ok.hd hc) st.2.1 st.2.2 (by simp; omega) hE⟩
    exact wpAny_pyNext_enum_endD D he ⟨rfl, hit, pl⟩ fun h' eb => ⟨rfl, I.turned (t' := s.toks) (fun b o hb q => eb b o hb q) f0 f1 f3 f4 f5⟩
def iEnT (K : Frag) (ta : TA) : TI := fun σ H R => ta σ H fun vs H1 => ∃ a xs, vs = [.ref a] ∧ SqT K H1 a xs ∧ R (ItE K a) H1
theorem pi_enumT {X : Cx} {e : Expr} {ta : TA} {p pos tpos : Pos} {elts : List Expr} {kk : Nat} (hg : Gl X "enumerate") (hm : X.mg "enumerate" = none) (ha : PA X [e] ta) (hs : starEach [e] X.env = [(false, eval e X.env)] := by rfl) : PI X (.Tuple elts kk tpos) (.Call (.Name "enumerate" p) [e] [] pos) (iEnT X.K ta) := by
  refine ⟨fun pp t0 τ G R I w => ?_⟩
  refine Call_ (ld_blt I hg hm boot_enumerate (PyProof.Rows.callWith_type1 (thn (ha.run pos pp t0 τ G _ I w) fun us t ⟨vs, H1, J, r1, q1⟩ => ?_) hs rfl))
  obtain ⟨a, xs, ex, hq, q⟩ := q1
  subst ex
  cases r1 with
  | cons r z0 =>
  cases z0; cases r
  obtain ⟨its, rv, pl, _⟩ := J.tuple hq
  have la : a < t.heap.objs.size := let ⟨_, z, _⟩ := pl; Heap.lt_size z
  refine PySem.HXe.enumerates (begins_tuple a its.toArray) pl fun h' he hi hk => wpAny_pyIter_enum he ?_
  have J2 : Inv X pp τ H1 ⟨h', t.gens, t.drawn, t.toks, t.os⟩ := J.kept (t' := t.toks) hk
  refine ⟨t.heap.objs.size + 1, [t.heap.objs.size + 1, t.heap.objs.size], _, _, H1, rfl, J2, turn_enT a _ t.heap.objs.size, ⟨⟨.none, he⟩, ⟨_, hi, rfl, rfl⟩, Nat.succ_ne_self _, Nat.ne_of_lt la, Nat.ne_of_lt (Nat.lt_succ_of_lt la)⟩, fun b hb => ?_, q⟩
  have le : t.heap.objs.size ≤ b := by
    rcases List.mem_cons.mp hb with z | z
    · rw [z]; exact Nat.le_succ _
    · rw [List.mem_singleton.mp z]; exact Nat.le_refl _
  exact J.fpOk le (J.hok.fresh le)
end HX
set_option Elab.async false
set_option linter.all false
set_option maxRecDepth 100000
set_option maxHeartbeats 4400000
namespace PySem.HXm
open PySem PyProof.Rows AutoSeq1
/-- a tuple once: itself -/
theorem tup_once (l : Addr) (items : Array Value) (n : Nat) (dd : Option Addr) (sl : Array (Option Value)) (u : Tok) :
    Meets (Builtin.«tuple.__mul__» ⟨[.ref l, .int 1 u], []⟩) (fun _ R s => s.heap.get? l = some ⟨.type "tuple", dd, .seq items n, sl⟩ ∧ R (.ok (.ret (.ref l))) s) :=
  Meets.of_wp fun prog w A R s ⟨hl, h⟩ => by
    obtain ⟨hp, g, d, tk, os⟩ := s
    have f1 := AutoSeq1.idx_int
    wp_walk using wpAny_loadPart' hl
    exact ⟨_, rfl, h⟩
/-- a tuple no time: a new one without items -/
theorem tup_never (l : Addr) (items : Array Value) (n : Nat) (dd : Option Addr) (sl : Array (Option Value)) (u : Tok) (hi : items.isEmpty = false) :
    Meets (Builtin.«tuple.__mul__» ⟨[.ref l, .int 0 u], []⟩) (fun _ R s => s.heap.get? l = some ⟨.type "tuple", dd, .seq items n, sl⟩ ∧ R (.ok (.ret (.ref s.heap.objs.size))) ⟨s.heap.push ⟨.type "tuple", none, .seq #[] 0, #[]⟩, s.gens, s.drawn, s.toks, s.os⟩) :=
  Meets.of_wp fun prog w A R s ⟨hl, h⟩ => by
    obtain ⟨hp, g, d, tk, os⟩ := s
    have f1 := AutoSeq1.idx_int
    wp_walk using wpAny_loadPart' hl
    exact ⟨_, rfl, h⟩
theorem tup_bool (l : Addr) (items : Array Value) (hf : (items.size : Int) < 2 ^ 63) : Meets (Builtin.«bool.__new__» ⟨[.type "bool", .ref l], []⟩) (fun _ R s => IsTup s.heap l items ∧ R (.ok (.ret (.bool (!items.isEmpty)))) { s with toks := s.toks + 1 + 1 }) :=
  Meets.of_wp fun prog w A R s ⟨hl, hs⟩ => by
    obtain ⟨hp, g, d, tk, os⟩ := s
    have f1 := F.conv_sub_bool
    repeat (any_goals (first | assumption | (with_reducible refine PyProof.Rows.truthy_tuple hl hf ?_) | wp_step))
    all_goals first | exact ⟨_, rfl, hs⟩ | exact hs | skip
end PySem.HXm
namespace HX
open L2 PyProof.Rows PySem.Spec PySem
open PySem.W (Frag)
/-- t * 1 is t itself, t * 0 a tuple of nothing -/
def rRep01 (K : Frag) : R2 := fun x y H Q => ∃ (l : Addr) (b : Bool) (xs : List V), x = .ref l ∧ y = .int (if b = true then 1 else 0) ∧ SqT K H l xs ∧ xs ≠ [] ∧ (b = true → Q (.ref l) H) ∧ (b = false → ∀ p, H p = none → Q (.ref p) (upd H p (.tup [])))
theorem op_rep01 {X : Cx} : OpR X (binaryOp .Mult) (rRep01 X.K) := fun pp t τ G x y u v R J rx ry h => by
  obtain ⟨l, b, xs, e1, e2, hT, hne, q1, q0⟩ := h
  subst e1; subst e2
  cases rx
  obtain ⟨tk, e3⟩ := ry
  subst e3
  obtain ⟨its, r, ⟨⟨cls, dd, dt, sl⟩, ho, hc, n, hd⟩, hs⟩ := J.tuple hT
  have e4 : cls = .type "tuple" := hc
  have e5 : dt = .seq its.toArray n := hd
  subst e4; subst e5
  have ne : its.toArray.isEmpty = false := by
    cases its with
    | nil => cases r; exact absurd rfl hne
    | cons a c => rfl
  cases b with
  | true =>
    exact wpAny_binaryOp_repeat_ref (T := "tuple") (U := "int") (by decide) ⟨_, ho, rfl⟩ (fun s' => typeIs_int s' 1 tk) noFill_tuple_mul F.fills_int_mul F.slot_int_rmul repeat_tuple F.slot_int_index.lookup
      (call_meets F.slot_int_rmul (typeIs_int t 1 tk) F.entry_int_rmul (F.args_int_rmul_2 _ _) (int_rmul_tuple 1 tk l its.toArray n dd sl)
        ⟨ho, rfl, ⟨_, ho, rfl⟩, call_meets F.slot_tuple_mul ⟨_, ho, rfl⟩ F.entry_tuple_mul (F.args_tuple_mul_2 _ _) (PySem.HXm.tup_once l its.toArray n dd sl tk) ⟨ho, .ref l, G, J, rfl, q1 rfl⟩⟩)
  | false =>
    have na : G t.heap.objs.size = none := J.hok.fresh (Nat.le_refl _)
    have J2 := J.laid (t' := t.toks) (a := t.heap.objs.size) (o := .tup []) (h' := t.heap.push ⟨.type "tuple", none, .seq #[] 0, #[]⟩) (fun c o y => Heap.get?_push_of_some _ y) (Nat.le_refl _) ⟨Nat.zero_le _, [], .nil, ⟨_, Heap.get?_push_size _ rfl, rfl, 0, rfl⟩⟩
    exact wpAny_binaryOp_repeat_ref (T := "tuple") (U := "int") (by decide) ⟨_, ho, rfl⟩ (fun s' => typeIs_int s' 0 tk) noFill_tuple_mul F.fills_int_mul F.slot_int_rmul repeat_tuple F.slot_int_index.lookup
      (call_meets F.slot_int_rmul (typeIs_int t 0 tk) F.entry_int_rmul (F.args_int_rmul_2 _ _) (int_rmul_tuple 0 tk l its.toArray n dd sl)
        ⟨ho, rfl, ⟨_, ho, rfl⟩, call_meets F.slot_tuple_mul ⟨_, ho, rfl⟩ F.entry_tuple_mul (F.args_tuple_mul_2 _ _) (PySem.HXm.tup_never l its.toArray n dd sl tk ne) ⟨ho, .ref t.heap.objs.size, _, J2, rfl, q0 rfl _ na⟩⟩)
/-- bool(a tuple) -/
theorem call_boolT {X : Cx} : CallR X (.type "bool") (fun xs H Q => ∃ (a : Addr) (zs : List V), xs = [.ref a] ∧ SqT X.K H a zs ∧ Q (.bl (!zs.isEmpty)) H) := fun pp t τ G xs us R J r h => by
  obtain ⟨a, zs, e0, hs, q⟩ := h
  subst e0
  obtain rfl := Vals.ref1 r
  obtain ⟨its, rv, pl, hz⟩ := J.tuple hs
  have ln := rv.length; have l63 := line63
  refine call_bool_1 (PySem.HXm.tup_bool a its.toArray (by rw [List.size_toArray]; omega)) ⟨pl, rfl, ⟨.bl (!zs.isEmpty), G, J.tok _, ?_, q⟩⟩
  rw [isEmpty_of rv]; rfl
end HX
set_option Elab.async false
set_option linter.all false
set_option maxRecDepth 100000
set_option maxHeartbeats 4400000
namespace HX
open L2 PyProof.Rows PySem.Spec PySem
open PySem.W (Frag)
/-! ### data of tuples, texts and ints: nothing of it is ever changed -/
inductive Tz (H : Hp) : V → PyData → Prop
  | non : Tz H .non .none
  | int (i : Int) : Tz H (.int i) (.int i)
  | str (x : Str) : Tz H (.str x) (.str x)
  | tup {a : Addr} {xs : List V} {ds : List PyData} : H a = some (.tup xs) → xs.length = ds.length → (∀ (i : Nat) (v : V) (d : PyData), xs[i]? = some v → ds[i]? = some d → Tz H v d) → Tz H (.ref a) (.tuple ds)
/-- tuples stay -/
def TupK (H H' : Hp) : Prop := ∀ a xs, H a = some (.tup xs) → H' a = some (.tup xs)
theorem Tz.te {H H' : Hp} {v : V} {d : PyData} (h : Tz H v d) (e : TupK H H') : Tz H' v d := by
  induction h with
  | non => exact .non
  | int i => exact .int i
  | str x => exact .str x
  | tup h hl _ ih => exact .tup (e _ _ h) hl ih
theorem Ex.te {H H' : Hp} (e : Ex H H') : TupK H H' := fun a xs h => e _ _ h
theorem XB.te {p : Addr} {H H' : Hp} {zs : List V} (e : XB p H H') (hp : H p = some (.lst zs)) : TupK H H' := fun a xs h => e _ _ (ne_of h hp (by intro y; cases y)) h
theorem te_lst {H : Hp} {p : Addr} {zs : List V} {o : HO} (hp : H p = some (.lst zs)) : TupK H (upd H p o) := fun a xs h => by
  rw [upd_ne (ne_of h hp (by intro y; cases y))]; exact h
theorem te_dK {H : Hp} {p : Addr} {zs : List (Key × V)} {o : HO} (hp : H p = some (.dK zs)) : TupK H (upd H p o) := fun a xs h => by
  rw [upd_ne (ne_of h hp (by intro y; cases y))]; exact h
theorem te_ins {H : Hp} {p C dx : Addr} {fs : List (Str × V)} {o : HO} (hp : H p = some (.ins C dx fs)) : TupK H (upd H p o) := fun a xs h => by
  rw [upd_ne (ne_of h hp (by intro y; cases y))]; exact h
theorem TupK.tr {H H1 H2 : Hp} (a : TupK H H1) (b : TupK H1 H2) : TupK H H2 := fun c o h => b _ _ (a _ _ h)
theorem Tz.ex {H H' : Hp} {v : V} {d : PyData} (h : Tz H v d) (e : Ex H H') : Tz H' v d := h.te (Ex.te e)
theorem Tz.dz {p : Addr} {H : Hp} {v : V} {d : PyData} (h : Tz H v d) : Dz p H v d := by
  induction h with
  | non => exact .non
  | int i => exact .int i
  | str x => exact .str x
  | tup h hl _ ih => exact .tup h hl ih
theorem Tz.intI {H : Hp} {v : V} {i : Int} (h : Tz H v (.int i)) : v = .int i := by cases h; rfl
theorem Tz.strI {H : Hp} {v : V} {x : Str} (h : Tz H v (.str x)) : v = .str x := by cases h; rfl
/-- items one by one -/
def TzL (H : Hp) (xs : List V) (ds : List PyData) : Prop := xs.length = ds.length ∧ ∀ (i : Nat) (v : V) (d : PyData), xs[i]? = some v → ds[i]? = some d → Tz H v d
theorem Tz.tupI {H : Hp} {v : V} {ds : List PyData} (h : Tz H v (.tuple ds)) : ∃ a xs, v = .ref a ∧ H a = some (.tup xs) ∧ TzL H xs ds := by
  cases h with
  | tup h hl hi => exact ⟨_, _, rfl, h, hl, hi⟩
theorem TzL.tup {H : Hp} {a : Addr} {xs : List V} {ds : List PyData} (h : TzL H xs ds) (ha : H a = some (.tup xs)) : Tz H (.ref a) (.tuple ds) := .tup ha h.1 h.2
theorem TzL.te {H H' : Hp} {xs : List V} {ds : List PyData} (h : TzL H xs ds) (e : TupK H H') : TzL H' xs ds := ⟨h.1, fun i v d a b => (h.2 i v d a b).te e⟩
theorem TzL.ex {H H' : Hp} {xs : List V} {ds : List PyData} (h : TzL H xs ds) (e : Ex H H') : TzL H' xs ds := h.te (Ex.te e)
theorem TzL.nil {H : Hp} : TzL H [] [] := ⟨rfl, fun i v d a => by simp at a⟩
theorem TzL.app {H : Hp} {xs ys : List V} {ds es : List PyData} (h : TzL H xs ds) (k : TzL H ys es) : TzL H (xs ++ ys) (ds ++ es) := by
  refine ⟨by rw [List.length_append, List.length_append, h.1, k.1], fun i v d a b => ?_⟩
  by_cases hi : i < xs.length
  · rw [List.getElem?_append_left hi] at a
    rw [List.getElem?_append_left (by rw [← h.1]; exact hi)] at b
    exact h.2 i v d a b
  · rw [List.getElem?_append_right (by omega)] at a
    rw [List.getElem?_append_right (by rw [← h.1]; omega), ← h.1] at b
    exact k.2 _ v d a b
theorem TzL.one {H : Hp} {v : V} {d : PyData} (h : Tz H v d) : TzL H [v] [d] := ⟨rfl, fun i v' d' a b => by
  match i, a, b with
  | 0, a, b => cases a; cases b; exact h
  | i + 1, a, b => simp at a⟩
theorem TzL.cons {H : Hp} {v : V} {d : PyData} {xs : List V} {ds : List PyData} (h : Tz H v d) (k : TzL H xs ds) : TzL H (v :: xs) (d :: ds) := (TzL.one h).app k
theorem TzL.snoc {H : Hp} {v : V} {d : PyData} {xs : List V} {ds : List PyData} (k : TzL H xs ds) (h : Tz H v d) : TzL H (xs ++ [v]) (ds ++ [d]) := k.app (TzL.one h)
theorem TzL.get {H : Hp} {xs : List V} {ds : List PyData} (h : TzL H xs ds) {i : Nat} {d : PyData} (e : ds[i]? = some d) : ∃ v, xs[i]? = some v ∧ Tz H v d := by
  have lt := (List.getElem?_eq_some_iff.mp e).1
  have lx : i < xs.length := by rw [h.1]; exact lt
  have e2 : xs[i]? = some xs[i] := List.getElem?_eq_getElem lx
  exact ⟨_, e2, h.2 i _ d e2 e⟩
theorem TzL.gotV {H : Hp} {xs : List V} {ds : List PyData} (h : TzL H xs ds) {i : Nat} {v : V} (e : xs[i]? = some v) : ∃ d, ds[i]? = some d ∧ Tz H v d := by
  have lt := (List.getElem?_eq_some_iff.mp e).1
  have lx : i < ds.length := by rw [← h.1]; exact lt
  have e2 : ds[i]? = some ds[i] := List.getElem?_eq_getElem lx
  exact ⟨_, e2, h.2 i v _ e e2⟩
theorem TzL.consI {H : Hp} {d : PyData} {xs : List V} {ds : List PyData} (h : TzL H xs (d :: ds)) : ∃ v ys, xs = v :: ys ∧ Tz H v d ∧ TzL H ys ds := by
  match xs, h with
  | [], h => have := h.1; simp at this
  | v :: ys, h => exact ⟨v, ys, rfl, h.2 0 v d rfl rfl, by have := h.1; simpa using this, fun i v' d' a b => h.2 (i + 1) v' d' (by simpa using a) (by simpa using b)⟩
theorem TzL.nilI {H : Hp} {xs : List V} (h : TzL H xs []) : xs = [] := by
  have := h.1
  exact List.eq_nil_of_length_eq_zero (by simpa using this)
theorem TzL.strs {H : Hp} {ss : List Str} : ∀ {xs : List V}, TzL H xs (ss.map PyData.str) → xs = ss.map V.str := by
  induction ss with
  | nil => intro xs h; exact h.nilI
  | cons s r ih =>
    intro xs h
    obtain ⟨v, ys, rfl, hv, hy⟩ := TzL.consI (ds := r.map PyData.str) h
    rw [hv.strI, ih hy]; rfl
theorem TzL.ints {H : Hp} {ns : List Int} : ∀ {xs : List V}, TzL H xs (ns.map PyData.int) → xs = ns.map V.int := by
  induction ns with
  | nil => intro xs h; exact h.nilI
  | cons s r ih =>
    intro xs h
    obtain ⟨v, ys, rfl, hv, hy⟩ := TzL.consI (ds := r.map PyData.int) h
    rw [hv.intI, ih hy]; rfl
theorem tzL_strs {H : Hp} (ss : List Str) : TzL H (ss.map V.str) (ss.map PyData.str) := by
  induction ss with
  | nil => exact TzL.nil
  | cons s r ih => exact TzL.cons (.str s) ih
theorem tzL_ints {H : Hp} (ns : List Int) : TzL H (ns.map V.int) (ns.map PyData.int) := by
  induction ns with
  | nil => exact TzL.nil
  | cons s r ih => exact TzL.cons (.int s) ih
theorem Tz.tup2 {H : Hp} {v : V} {d e : PyData} (h : Tz H v (.tuple [d, e])) : ∃ a x y, v = .ref a ∧ H a = some (.tup [x, y]) ∧ Tz H x d ∧ Tz H y e := by
  obtain ⟨a, xs, rfl, ha, hl⟩ := h.tupI
  obtain ⟨x, r, rfl, hx, hr⟩ := TzL.consI hl
  obtain ⟨y, r2, rfl, hy, hr2⟩ := TzL.consI hr
  rw [hr2.nilI] at ha
  exact ⟨a, x, y, rfl, ha, hx, hy⟩
theorem Tz.tup3 {H : Hp} {v : V} {d e f : PyData} (h : Tz H v (.tuple [d, e, f])) : ∃ a x y z, v = .ref a ∧ H a = some (.tup [x, y, z]) ∧ Tz H x d ∧ Tz H y e ∧ Tz H z f := by
  obtain ⟨a, xs, rfl, ha, hl⟩ := h.tupI
  obtain ⟨x, r, rfl, hx, hr⟩ := TzL.consI hl
  obtain ⟨y, r2, rfl, hy, hr2⟩ := TzL.consI hr
  obtain ⟨z, r3, rfl, hz, hr3⟩ := TzL.consI hr2
  rw [hr3.nilI] at ha
  exact ⟨a, x, y, z, rfl, ha, hx, hy, hz⟩
/-! ### comprehensions without conditions -/
theorem ex_mu {H H' : Hp} {p : Addr} {o : HO} (e : Ex H H') (h : H p = none) : Ex H (upd H' p o) := fun a u ha => by rw [upd_ne (ne_of_none ha h)]; exact e a u ha
/-- what a comprehension over J is to be shown to do -/
def LcGoal (J : It) (g : TG) (te : L2.TE) (vs : List Nat) (σ : L2.St) (H1 : Hp) (D : Addr) (Qd : Hp → Prop) : Prop :=
  ∃ W : Nat → Nat → Hp → Prop, (∃ m, W 0 m (upd H1 D (.lst []))) ∧ ∀ i m H, W i m H →
      (J.stop i H ∧ Qd H) ∨ (J.go i H ∧ ∃ Nx : Hp → Prop, (∀ H', Nx H' → ∃ m', m' < m ∧ W (i + 1) m' H') ∧ ∀ x H', J.yld i H x H' → g x (wipe σ vs) H' fun σ2 H2 => wipe σ2 vs = wipe σ vs ∧ tYes σ2 H2 fun b H3 =>
        if b = true then te σ2 H3 fun y H4 => ∃ acc, H4 D = some (.lst acc) ∧ acc.length < sizeLine ∧ Nx (upd H4 D (.lst (acc ++ [y]))) else Nx H3)
section
variable {J : It} {n : Nat} {G : Hp → Prop} {Y : Nat → Hp → V → Hp → Prop} {g : TG} {te : L2.TE} {vs : List Nat} {σ : L2.St} {H1 : Hp} {D : Addr} {Qd : Hp → Prop}
/-- each turn makes data that f tells, and new things beside -/
theorem lc_tz (w : Walk J n G Y) (f : Nat → PyData) (hn : n < 1000) (nD : H1 D = none) (hG : ∀ H, Ex H1 H → G H)
    (hs : ∀ (i : Nat) (x : V) (H H' : Hp) (Kq : V → Hp → Prop), i < n → Ex H1 H → Y i H x H' → (∀ y H4, Ex H H4 → Tz H4 y (f i) → Kq y H4) → g x (wipe σ vs) H' fun σ2 H2 => wipe σ2 vs = wipe σ vs ∧ te σ2 H2 Kq)
    (hd : ∀ H xs, Ex H1 H → H D = some (.lst xs) → TzL H xs ((List.range n).map f) → Qd H) : LcGoal J g te vs σ H1 D Qd := by
  refine lc_it (tt := tYes) w (fun i H => Ex H1 H ∧ ∃ xs, H D = some (.lst xs) ∧ TzL H xs ((List.range i).map f)) ⟨Ex.nw nD, [], upd_same, TzL.nil⟩ (fun i H _ p => hG H p.1) (fun i x H H' hi p y => ?_) (fun H ⟨e, xs, hD, hx⟩ => hd H xs e hD hx)
  obtain ⟨e, xs, hD, hx⟩ := p
  refine hs i x H H' _ hi e y fun y H4 e4 hy => ?_
  have hD4 := e4 _ _ hD
  refine ⟨xs, hD4, ?_, ex_mu (e.tr e4) nD, xs ++ [y], upd_same, ?_⟩
  · have l := hx.1
    rw [l, List.length_map, List.length_range]
    exact Nat.lt_of_lt_of_le hi (Nat.le_trans (Nat.le_of_lt hn) (by decide))
  · rw [List.range_succ, List.map_append]
    exact ((hx.ex e4).snoc hy).te (te_lst hD4)
/-- each turn says yes -/
theorem lc_yes (w : Walk J n G Y) (hn : n < 1000) (nD : H1 D = none) (hG : ∀ H, Ex H1 H → G H)
    (hs : ∀ (i : Nat) (x : V) (H H' : Hp) (Kq : V → Hp → Prop), i < n → Ex H1 H → Y i H x H' → (∀ H4, Ex H H4 → Kq (.bl true) H4) → g x (wipe σ vs) H' fun σ2 H2 => wipe σ2 vs = wipe σ vs ∧ te σ2 H2 Kq)
    (hd : ∀ H, Ex H1 H → H D = some (.lst ((List.replicate n true).map V.bl)) → Qd H) : LcGoal J g te vs σ H1 D Qd := by
  refine lc_it (tt := tYes) w (fun i H => Ex H1 H ∧ H D = some (.lst (List.replicate i (.bl true)))) ⟨Ex.nw nD, upd_same⟩ (fun i H _ p => hG H p.1) (fun i x H H' hi p y => ?_) (fun H ⟨e, hD⟩ => hd H e (by rw [hD, rep_bl]))
  obtain ⟨e, hD⟩ := p
  refine hs i x H H' _ hi e y fun H4 e4 => ⟨_, e4 _ _ hD, ?_, ex_mu (e.tr e4) nD, ?_⟩
  · rw [List.length_replicate]
    exact Nat.lt_of_lt_of_le hi (Nat.le_trans (Nat.le_of_lt hn) (by decide))
  · rw [rep_snoc]; exact upd_same
/-- each turn draws: what is at p is changed, and Z stands at each turn -/
theorem lc_dr (w : Walk J n G Y) {p : Addr} (Z : Nat → Hp → Prop) (Gd : Nat → PyData → Prop) (hn : n < 1000) (nD : H1 D = none) (np : D ≠ p) (hp : ∀ i H, Z i H → ∃ zs, H p = some (.lst zs)) (h0 : Z 0 H1) (hZ : ∀ i H H', Z i H → Ex H H' → Z i H') (hZ2 : ∀ i H xs ys, Z i H → H D = some (.lst xs) → Z i (upd H D (.lst ys))) (hG : ∀ H, XB p H1 H → G H)
    (hs : ∀ (i : Nat) (x : V) (H H' : Hp) (Kq : V → Hp → Prop), i < n → XB p H1 H → Z i H → Y i H x H' → (∀ y H4 d, XB p H H4 → Z (i + 1) H4 → Tz H4 y d → Gd i d → Kq y H4) → g x (wipe σ vs) H' fun σ2 H2 => wipe σ2 vs = wipe σ vs ∧ te σ2 H2 Kq)
    (hd : ∀ H xs ds, XB p H1 H → Z n H → H D = some (.lst xs) → TzL H xs ds → ds.length = n → (∀ i d, ds[i]? = some d → Gd i d) → Qd H) : LcGoal J g te vs σ H1 D Qd := by
  refine lc_it (tt := tYes) w (fun i H => XB p H1 H ∧ Z i H ∧ ∃ xs ds, H D = some (.lst xs) ∧ TzL H xs ds ∧ ds.length = i ∧ ∀ j d, ds[j]? = some d → Gd j d) ⟨Ex.xb (Ex.nw nD), hZ _ _ _ h0 (Ex.nw nD), [], [], upd_same, TzL.nil, rfl, fun j d h => by simp at h⟩ (fun i H _ q => hG H q.1) (fun i x H H' hi q y => ?_) (fun H ⟨e, z, xs, ds, hD, hx, hl, hg⟩ => hd H xs ds e z hD hx hl hg)
  obtain ⟨e, z, xs, ds, hD, hx, hl, hg⟩ := q
  refine hs i x H H' _ hi e z y fun y H4 d e4 z4 hy gd => ?_
  have hD4 := e4 _ _ np hD
  obtain ⟨zs, hz⟩ := hp _ _ z
  refine ⟨xs, hD4, ?_, fun a o na ha => ?_, hZ2 _ _ _ _ z4 hD4, xs ++ [y], ds ++ [d], upd_same, ?_, ?_, fun j d' hj => ?_⟩
  · rw [hx.1, hl]
    exact Nat.lt_of_lt_of_le hi (Nat.le_trans (Nat.le_of_lt hn) (by decide))
  · rw [upd_ne (fun z => by rw [z, nD] at ha; cases ha)]
    exact e4 _ _ na (e _ _ na ha)
  · exact ((hx.te (e4.te hz)).snoc hy).te (te_lst hD4)
  · rw [List.length_append, hl]; rfl
  · by_cases h : j < ds.length
    · rw [List.getElem?_append_left h] at hj; exact hg j d' hj
    · rw [List.getElem?_append_right (by omega)] at hj
      match hk : j - ds.length, hj with
      | 0, hj =>
        cases hj
        have : j = i := by omega
        rw [this]; exact gd
      | k + 1, hj => simp at hj
end
/-! ### slices and pairs of lists and tuples alike -/
theorem sl_seq {X : Cx} : SlR X (fun x lo hi H Q => rSlL X.K x lo hi H Q ∨ rSlA X.K x lo hi H Q) := by
  intro pp t τ G x v vl vu lo hi sl Q J rx hs pl pu h
  rcases h with h | h
  · exact sl_list pp t τ G x v vl vu lo hi sl Q J rx hs pl pu h
  · exact sl_tupA pp t τ G x v vl vu lo hi sl Q J rx hs pl pu h
theorem cut_tail (xs : List V) : cutV xs (some 1) none = xs.tail := by
  cases xs with
  | nil => rfl
  | cons a r =>
    unfold cutV
    rw [show HT.sIx (a :: r).length 0 (some 1) = 1 by show min 1 (r.length + 1) = 1; omega, show HT.sIx (a :: r).length (a :: r).length none = r.length + 1 from rfl]
    show (r.take (r.length + 1 - 1)) = r
    rw [Nat.add_sub_cancel, List.take_length]
theorem walk_zipT {K : Frag} {a b : Addr} {xs ys : List V} {n : Nat} (hn : n = min xs.length ys.length) : Walk (RZ.ItzT K a b) n (fun H => SqT K H a xs ∧ SqT K H b ys) (YPair (fun i => xs[i]?) (fun i => ys[i]?)) :=
  ⟨fun i H hi q => ⟨xs, ys, xs[i]'(by omega), ys[i]'(by omega), q.1, q.2, List.getElem?_eq_getElem _, List.getElem?_eq_getElem _⟩, fun H q => ⟨xs, ys, q.1, q.2, by omega⟩,
   fun i H v H' _ q ⟨T, x, z, h1, h2, h3, h4, h5⟩ => ⟨T, x, z, h1, h2, h3, h4 xs q.1, h5 ys q.2⟩⟩
theorem walk_enT {K : Frag} {a : Addr} {xs : List V} : Walk (ItE K a) xs.length (fun H => SqT K H a xs) (YPair (fun i => some (.int (i : Nat))) (fun i => xs[i]?)) :=
  ⟨fun i H hi q => ⟨xs, xs[i], q, List.getElem?_eq_getElem _⟩, fun H q => ⟨xs, q, Nat.le_refl _⟩, fun i H v H' _ q ⟨T, x, h1, h2, h3, h4⟩ => ⟨T, .int (i : Nat), x, h1, h2, h3, rfl, h4 xs q⟩⟩
/-! ### rules with their K named, for what stands within comprehensions -/
section
variable {X : Cx} {K : Frag}
theorem call_lenK (hK : X.K = K) : CallR X (.builtin "len") (fun xs H Q => ∃ p ys, xs = [.ref p] ∧ (SqL K H p ys ∨ SqT K H p ys) ∧ Q (.int ys.length) H) := hK ▸ call_len_seq
theorem call_isiK0 (hK : X.K = K) : CallR X (.builtin "isinstance") (rIsi K) := hK ▸ call_isi
theorem op_inK (hK : X.K = K) : OpR X (compareOp .In) (rIn K false) := hK ▸ op_in_seq
theorem op_notInK (hK : X.K = K) : OpR X (compareOp .NotIn) (rIn K true) := hK ▸ op_notIn_seq
theorem op_catAK (hK : X.K = K) : OpR X (binaryOp .Add) (rCatA K) := hK ▸ op_catA
theorem call_tupleK (hK : X.K = K) : CallR X (.type "tuple") (fun xs H Q => ∃ p ys, xs = [.ref p] ∧ ((SqL K H p ys ∧ ∀ l, H l = none → Q (.ref l) (upd H l (.tup ys))) ∨ (SqT K H p ys ∧ Q (.ref p) H))) := hK ▸ call_tuple_of
end
/-! ### {name: number for number, .. in enumerate(..)} -/
section
variable {J : It} {n : Nat} {G : Hp → Prop} {Y : Nat → Hp → V → Hp → Prop} {g : TG} {tk tv : L2.TE} {vs : List Nat} {σ : L2.St} {H1 : Hp} {D : Addr} {Qd : Hp → Prop}
def DcGoal (J : It) (g : TG) (tk tv : L2.TE) (vs : List Nat) (σ : L2.St) (H1 : Hp) (D : Addr) (Qd : Hp → Prop) : Prop :=
  ∃ W : Nat → Nat → Hp → Prop, (∃ m, W 0 m (upd H1 D (.dK []))) ∧ ∀ i m H, W i m H → (J.stop i H ∧ Qd H) ∨ (J.go i H ∧ ∃ Nx : Hp → Prop, (∀ H', Nx H' → ∃ m', m' < m ∧ W (i + 1) m' H') ∧ ∀ x H', J.yld i H x H' → g x (wipe σ vs) H' fun σ2 H2 => wipe σ2 vs = wipe σ vs ∧ tYes σ2 H2 fun b H3 =>
    if b = true then tk σ2 H3 fun y H4 => tv σ2 H4 fun z H5 => ∃ kvs k, y = kV k ∧ H5 D = some (.dK kvs) ∧ kvs.length < sizeLine ∧ Nx (upd H5 D (.dK (putK kvs k z))) else Nx H3)
theorem dc_names (w : Walk J n G Y) (ss : List Str) (hn : n = ss.length) (hl : n < 1000) (nD : H1 D = none) (hG : ∀ H, Ex H1 H → G H)
    (hs : ∀ (i : Nat) (x : V) (H H' : Hp) (Kq : V → V → Hp → Prop), i < n → Ex H1 H → Y i H x H' → (∀ H4 (s : Str) z, Ex H H4 → ss[i]? = some s → z ≠ .non → Kq (.str s) z H4) → g x (wipe σ vs) H' fun σ2 H2 => wipe σ2 vs = wipe σ vs ∧ tk σ2 H2 fun y H4 => tv σ2 H4 fun z H5 => Kq y z H5)
    (hd : ∀ H kvs, Ex H1 H → H D = some (.dK kvs) → (∀ k : Str, decide ((valV kvs (Sum.inr k : Key)).getD .non = .non) = decide (k ∉ ss)) → Qd H) : DcGoal J g tk tv vs σ H1 D Qd := by
  refine ⟨fun i m H => m = n - i ∧ i ≤ n ∧ Ex H1 H ∧ ∃ kvs, H D = some (.dK kvs) ∧ kvs.length ≤ i ∧ ∀ k : Str, ((valV kvs (Sum.inr k : Key)).getD .non = .non) ↔ k ∉ ss.take i, ⟨n, rfl, Nat.zero_le _, Ex.nw nD, [], upd_same, Nat.zero_le _, fun k => by simp [valV]⟩, ?_⟩
  rintro i m H ⟨rfl, hi, e, kvs, hD, hk, hv⟩
  by_cases lt : i < n
  · refine .inr ⟨w.goes i H lt (hG H e), fun H' => Ex H1 H' ∧ ∃ kvs, H' D = some (.dK kvs) ∧ kvs.length ≤ i + 1 ∧ ∀ k : Str, ((valV kvs (Sum.inr k : Key)).getD .non = .non) ↔ k ∉ ss.take (i + 1), fun H' q => ⟨n - (i + 1), by omega, rfl, lt, q⟩, fun x H' y => ?_⟩
    refine hs i x H H' _ lt e (w.yields i H x H' lt (hG H e) y) fun H4 s z e4 hss hz => ?_
    have hD4 := e4 _ _ hD
    refine ⟨kvs, Sum.inr s, rfl, hD4, Nat.lt_of_le_of_lt hk (Nat.lt_of_lt_of_le lt (Nat.le_trans (Nat.le_of_lt hl) (by decide))), ex_mu (e.tr e4) nD, _, upd_same, Nat.le_trans (length_putK _ _ _) (Nat.succ_le_succ hk), fun k => ?_⟩
    rw [valV_put, List.take_add_one, hss]
    by_cases h : k = s
    · subst h; simp [hz]
    · have h2 : ¬ (Sum.inr k : Key) = Sum.inr s := fun z => h (Sum.inr.inj z)
      rw [if_neg h2, hv k]
      simp [h]
  · have en : i = n := by omega
    refine .inl ⟨?_, hd H kvs e hD fun k => ?_⟩
    · rw [en]; exact w.stops H (hG H e)
    · have q := hv k
      rw [en, hn, List.take_length] at q
      exact decide_eq_decide.mpr q
end
/-! ### two-fold comprehensions -/
def Lc2Goal (J : It) (g : TG) (wi1 : TI) (g1 : TG) (te : L2.TE) (vs vs1 : List Nat) (σ : L2.St) (H1 : Hp) (D : Addr) (Qd : Hp → Prop) : Prop :=
  ∃ W : Nat → Nat → Hp → Prop, (∃ m, W 0 m (upd H1 D (.lst []))) ∧ ∀ i m H, W i m H →
    (J.stop i H ∧ Qd H) ∨ (J.go i H ∧ ∃ Nx : Hp → Prop, (∀ H', Nx H' → ∃ m', m' < m ∧ W (i + 1) m' H') ∧ ∀ x H', J.yld i H x H' → g x (wipe σ vs) H' fun σ2 H2 => wipe σ2 vs = wipe σ vs ∧ tYes σ2 H2 fun b H3 =>
      if b = true then wi1 σ2 H3 fun J1 H4 => ∃ W1 : Nat → Nat → Hp → Prop, (∃ m, W1 0 m H4) ∧ ∀ j k H, W1 j k H →
        (J1.stop j H ∧ Nx H) ∨ (J1.go j H ∧ ∃ Nx1 : Hp → Prop, (∀ H', Nx1 H' → ∃ k', k' < k ∧ W1 (j + 1) k' H') ∧ ∀ x H', J1.yld j H x H' → g1 x (wipe σ2 vs1) H' fun σ3 H5 => wipe σ3 vs1 = wipe σ2 vs1 ∧ tYes σ3 H5 fun b H6 =>
          if b = true then te σ3 H6 fun y H7 => ∃ acc, H7 D = some (.lst acc) ∧ acc.length < sizeLine ∧ Nx1 (upd H7 D (.lst (acc ++ [y]))) else Nx1 H6)
      else Nx H3)
theorem lc2_tz {K : Frag} {J : It} {n : Nat} {G : Hp → Prop} {xs : List V} {a b : Nat} {wi1 : TI} {te : L2.TE} {vs vs1 : List Nat} {σ : L2.St} {H1 : Hp} {D : Addr} {Qd : Hp → Prop} (w : Walk J n G (YAt xs)) (gs : Nat → List PyData) (f : Nat → PyData → PyData) (M : Nat) (hM : ∀ i, i < n → (gs i).length ≤ M) (hn : n * M < 1000) (nD : H1 D = none) (hG : ∀ H, Ex H1 H → G H)
    (hwa : ∀ x : V, wipe ((wipe σ vs).set a (some x)) vs = wipe σ vs) (hwb : ∀ x y : V, wipe ((wipe ((wipe σ vs).set a (some x)) vs1).set b (some y)) vs1 = wipe ((wipe σ vs).set a (some x)) vs1)
    (hw : ∀ (i : Nat) (x : V) (H : Hp) (R : It → Hp → Prop), i < n → xs[i]? = some x → Ex H1 H → (∃ o, H D = some o) → (∀ (lb : Addr) (ys : List V) (H4 : Hp), Ex H H4 → H4 lb = some (.lst ys) → lb ≠ D → TzL H4 ys (gs i) → R (Itl K lb) H4) → wi1 ((wipe σ vs).set a (some x)) H R)
    (hs : ∀ (i : Nat) (x y : V) (d : PyData) (H : Hp) (Kq : V → Hp → Prop), i < n → xs[i]? = some x → Ex H1 H → d ∈ gs i → Tz H y d → (∀ v H4, Ex H H4 → Tz H4 v (f i d) → Kq v H4) → te ((wipe ((wipe σ vs).set a (some x)) vs1).set b (some y)) H Kq)
    (hd : ∀ H ys, Ex H1 H → H D = some (.lst ys) → TzL H ys ((List.range n).flatMap fun i => (gs i).map (f i)) → Qd H) : Lc2Goal J (gName a) wi1 (gName b) te vs vs1 σ H1 D Qd := by
  refine ⟨fun i m H => m = n - i ∧ i ≤ n ∧ Ex H1 H ∧ ∃ acc, H D = some (.lst acc) ∧ acc.length ≤ i * M ∧ TzL H acc ((List.range i).flatMap fun i => (gs i).map (f i)), ⟨n, rfl, Nat.zero_le _, Ex.nw nD, [], upd_same, Nat.zero_le _, TzL.nil⟩, ?_⟩
  rintro i m H ⟨rfl, hi, e, acc, hD, hl, hx⟩
  by_cases lt : i < n
  · refine .inr ⟨w.goes i H lt (hG H e), fun H' => Ex H1 H' ∧ ∃ acc, H' D = some (.lst acc) ∧ acc.length ≤ (i + 1) * M ∧ TzL H' acc ((List.range (i + 1)).flatMap fun i => (gs i).map (f i)), fun H' q => ⟨n - (i + 1), by omega, rfl, lt, q⟩, fun x H' y => ?_⟩
    obtain ⟨rfl, hxi⟩ := w.yields i H x H' lt (hG H e) y
    refine ⟨hwa x, hw i x _ _ lt hxi e ⟨_, hD⟩ fun lb ys H4 e4 hlb nlb hys => ?_⟩
    have bM : i * M + M < 1000 := by
      have h1 : (i + 1) * M ≤ n * M := Nat.mul_le_mul_right M lt
      rw [Nat.succ_mul] at h1
      omega
    have hy : ys.length = (gs i).length := hys.1
    have hMi := hM i lt
    refine ⟨fun j k H5 => k = ys.length - j ∧ j ≤ ys.length ∧ Ex H1 H5 ∧ H5 lb = some (.lst ys) ∧ TzL H5 ys (gs i) ∧ ∃ ac2, H5 D = some (.lst ac2) ∧ ac2.length ≤ i * M + j ∧ TzL H5 ac2 (((List.range i).flatMap fun i => (gs i).map (f i)) ++ ((gs i).take j).map (f i)), ⟨ys.length, rfl, Nat.zero_le _, e.tr e4, hlb, hys, acc, e4 _ _ hD, by omega, by rw [List.take_zero, List.map_nil, List.append_nil]; exact hx.ex e4⟩, ?_⟩
    rintro j k H5 ⟨rfl, hj, e5, hlb5, hys5, ac2, hD5, hl2, hx2⟩
    by_cases lt2 : j < ys.length
    · refine .inr ⟨⟨ys, ys[j], SqL.of hlb5, List.getElem?_eq_getElem lt2⟩, fun H6 => Ex H1 H6 ∧ H6 lb = some (.lst ys) ∧ TzL H6 ys (gs i) ∧ ∃ ac2, H6 D = some (.lst ac2) ∧ ac2.length ≤ i * M + (j + 1) ∧ TzL H6 ac2 (((List.range i).flatMap fun i => (gs i).map (f i)) ++ ((gs i).take (j + 1)).map (f i)), fun H6 q => ⟨ys.length - (j + 1), by omega, rfl, lt2, q⟩, fun v H6 yv => ?_⟩
      obtain ⟨rfl, yv⟩ := yv
      have hv := yv ys (SqL.of hlb5)
      obtain ⟨d, hd2, tz⟩ := hys5.gotV hv
      refine ⟨hwb x v, hs i x v d _ _ lt hxi e5 (List.mem_of_getElem? hd2) tz fun y H7 e7 ty => ?_⟩
      have hD7 := e7 _ _ hD5
      refine ⟨ac2, hD7, Nat.lt_of_le_of_lt hl2 (Nat.lt_of_lt_of_le (show i * M + j < 1000 by omega) (by decide)), ex_mu (e5.tr e7) nD, by rw [upd_ne nlb]; exact e7 _ _ hlb5, (hys5.ex e7).te (te_lst hD7), ac2 ++ [y], upd_same, by rw [List.length_append]; show ac2.length + 1 ≤ _; omega, ?_⟩
      rw [List.take_add_one, hd2]
      show TzL _ _ (_ ++ List.map (f i) ((gs i).take j ++ [d]))
      rw [List.map_append, ← List.append_assoc]
      exact ((hx2.ex e7).snoc ty).te (te_lst hD7)
    · have ej : j = ys.length := by omega
      refine .inl ⟨⟨ys, SqL.of hlb5, by omega⟩, e5, ac2, hD5, by rw [Nat.succ_mul]; omega, ?_⟩
      rw [ej, hy, List.take_length] at hx2
      rw [List.range_succ, List.flatMap_append]
      simpa using hx2
  · have en : i = n := by omega
    subst en
    exact .inl ⟨w.stops H (hG H e), hd H acc e hD hx⟩
section
variable {X : Cx} {K : Frag}
theorem pi_listK {tg l : Expr} {tl : L2.TE} (hK : X.K = K) (hl : PE X l tl) : PI X tg l (iList K tl) := hK ▸ pi_list hl
theorem pi_tupK {tg l : Expr} {tl : L2.TE} (hK : X.K = K) (hl : PE X l tl) : PI X tg l (iTup K tl) := hK ▸ pi_tup hl
theorem pa_starK {e : Expr} {es : List Expr} {p : Pos} {te : L2.TE} {t : TA} (hK : X.K = K) (he : PE X e te) (hr : PA X es t) (hs : starEach (.Starred e p :: es) X.env = (true, eval e X.env) :: starEach es X.env := by rfl) : PA X (.Starred e p :: es) (StX.tStar K te t) := hK ▸ StX.pa_star he hr hs
end
end HX
set_option Elab.async false
set_option linter.all false
set_option maxRecDepth 100000
set_option maxHeartbeats 4400000
namespace HX
open L2 PyProof.Rows PySem.Spec PySem
open PySem.W (Frag)
/-! ### defs of which the last parameter has a default, in the head of facts -/
def DX.ok2 (K : Frag) (d : DX) : Bool := PySem.W.keepIn K (.ref (d.at_ K)) && (match K.lookup (d.at_ K) with
  | some ⟨_, _, .func fd, _⟩ => PySem.W.codeIn K fd.code d.qual && (match fd.defaults with
    | .ref T => (match K.lookup T with
      | some ⟨_, _, .seq its _, _⟩ => (match its.toList with
        | [.ref _] => true
        | _ => false)
      | _ => false)
    | _ => false)
  | _ => false)
theorem seq_one {K : Frag} {T : Addr} (c : (match K.lookup T with
      | some ⟨_, _, .seq its _, _⟩ => (match its.toList with
        | [.ref _] => true
        | _ => false)
      | _ => false) = true) : ∃ (o : Obj) (a : Addr) (n : Nat), K.lookup T = some o ∧ o.data = .seq [Value.ref a].toArray n := by
  cases q : K.lookup T with
  | none => rw [q] at c; cases c
  | some o =>
    obtain ⟨oc, od, dt, osl⟩ := o
    rw [q] at c
    cases dt with
    | seq its n =>
      obtain ⟨l⟩ := its
      match l, c with
      | [.ref a], _ => exact ⟨_, a, n, rfl, rfl⟩
    | _ => cases c
theorem DX.fun2 {K : Frag} {d : DX} (e : fnX K (d.at_ K) = d.val) (c : d.ok2 K = true) : ∃ fd v, FunD K d.name d.qual (defArgs d.st) (defBody d.st) (defScope d.st) [v] [] (d.at_ K) fd := by
  obtain ⟨kp, c2⟩ := Bool.and_eq_true_iff.mp c
  unfold fnX at e
  cases q : K.lookup (d.at_ K) with
  | none => rw [q] at c2; cases c2
  | some o =>
    obtain ⟨oc, od, dt, osl⟩ := o
    rw [q] at c2 e
    cases dt with
    | func fd =>
      obtain ⟨n1, n2, n3, n4, n5, n6, n7, n8, n9, n10, n11, n12, n13, n14, n15⟩ := fd
      have e2 : (some (n1, n2, n3, n4, n5, n6, n7, n15) : He.FnW) = some (d.name, d.qual, defArgs d.st, .stmts (defBody d.st), defScope d.st, mainGlobals, [], builtinsNs) := e
      simp only [Option.some.injEq, Prod.mk.injEq] at e2
      obtain ⟨h1, h2, h3, h4, h5, h6, h7, h8⟩ := e2
      subst h1 h2 h3 h4 h5 h6 h7 h8
      obtain ⟨k1, k2⟩ := Bool.and_eq_true_iff.mp c2
      dsimp only at k2
      cases n8 with
      | ref T =>
        obtain ⟨o, a, n, hT, ho⟩ := seq_one k2
        exact ⟨_, .ref a, ⟨⟨oc, od, .ref T, n9, n10, n11, n12, n13, n14, osl, rfl, q, k1, .inr ⟨by simp, T, o, [Value.ref a], n, rfl, hT, ho, .cons rfl .nil⟩, .inl rfl⟩, kp⟩⟩
      | _ => cases k2
    | _ => cases c2
section
variable {P : Program} {w : World} {K : Frag} {mg : Str → Option Value} {base : Heap} {x qual : Str} {params : Arguments} {body : List Stmt} {scope : Scope} {v : V} {f : Addr} {fd : FuncData}
theorem FunD.ok0 {N ps : List Str} {k : Nat} {sp : Sp} {kws : List (Str × V)} {dvs : List V} (F : FunD K x qual params body scope dvs kws f fd) (S : FnScope N ps scope) (len : ∀ vs H Q E, sp vs H Q E → vs.length = ps.length)
    (hbody : ∀ (cdv : Value) (A : Around) (outer : List Env) (s : Shared) (H : Hp) (vs : List V) (Q : VK) (E : XK), Room k (A.deeper (envOfC qual scope s.heap.objs.size f cdv)) → sp vs H Q E →
      ∃ t, PSs (cxOf CX0 P w K mg base N qual scope f cdv A outer s H E).nox body t ∧ t { nx := fun _ H' => Q .non H', rt := Q } (start N vs) H) : FnOk P w K mg base CX0 (k + 1) f fd ps sp := by
  obtain ⟨oc, od, dV, kV, doc, pm, an, cdv, ct, osl, rfl, lk, hcd, _, _⟩ := F.ex
  refine fn_of lk hcd S len fun A outer s H vs Q E hr hsp => ?_
  obtain ⟨t, h, q⟩ := hbody cdv A outer s H vs Q E hr hsp
  exact ⟨t, h.nox, q⟩
/-- all parameters are given by position -/
theorem FunD.bindsAll {ps : List Str} (F : FunD K x qual params body scope [v] [] f fd) (h : ∀ (T : Addr) (kV doc pm : Value) (an : Option Addr) (cdv ct : Value) (us its : List Value), us.length = ps.length → its.length = 1 →
      ∃ k, bindArgs (PySem.W.fnOf x qual params body scope (.ref T) kV doc pm an cdv ct) ⟨us, []⟩ = seqItems? (.ref T) >>= k ∧ k (some its.toArray) = pure (ps.zip (us ++ its.drop 1))) : Binds K fd ps [] := by
  obtain ⟨ds, hv, hb⟩ := F.binds1 (ps := ps) ps.length 1 (by simp) (by simp) h
  cases hv
  exact hb
end
def obsY (n : Nat) (ex : Frag → Bool) (fn fd : List DX) (g : Addr → Option Obj) : He.AlD :=
  let K := He.frG g (pathG g n [mainGlobals])
  (ex K && (fn.all (fun d => d.ok K) && fd.all fun d => d.ok2 K), (fn ++ fd).map fun d => fnX K (d.at_ K))
def valY (fn fd : List DX) : He.AlD := (true, (fn ++ fd).map DX.val)
def SaysY (ex : Frag → Bool) (fn fd : List DX) (K : Frag) : Prop := (ex K && (fn.all (fun d => d.ok K) && fd.all fun d => d.ok2 K), (fn ++ fd).map fun d => fnX K (d.at_ K)) = valY fn fd
def hookY (n : Nat) (ex : Frag → Bool) (fn fd : List DX) : PySem.W.Hook where
  α := He.AlD
  obs := fun s => obsY n ex fn fd s.heap.get?
  val := fun _ => valY fn fd
  says := fun _ h => ∃ K : Frag, K.In h ∧ SaysY ex fn fd K
  of := fun _ _ e => ⟨_, He.frG_in, e⟩
  keeps := fun _ _ _ ⟨K, a, c⟩ k => ⟨K, PySem.W.Frag.In.keeps a k, c⟩
def obTY (n : Nat) (ex : Frag → Bool) (fn fd : List DX) (s : PySem.W.SharedT) : He.AlD := obsY n ex fn fd (HandSHeadRun.getT s)
theorem obTY_eq {n : Nat} {ex : Frag → Bool} {fn fd : List DX} (s : PySem.W.SharedT) : obTY n ex fn fd s = (hookY n ex fn fd).obs s.abs := by
  have e : HandSHeadRun.getT s = s.abs.heap.get? := funext (HandSHeadRun.getT_eq s)
  unfold obTY; rw [e]; rfl
section
variable {ex : Frag → Bool} {fn fd : List DX} {K : Frag}
theorem SaysY.all (c : SaysY ex fn fd K) : ex K = true ∧ (fn.all (fun d => d.ok K) = true ∧ fd.all (fun d => d.ok2 K) = true) := by
  have h := show (ex K && (fn.all (fun d => d.ok K) && fd.all fun d => d.ok2 K)) = true from congrArg (fun z : He.AlD => z.1) c
  obtain ⟨a, b⟩ := Bool.and_eq_true_iff.mp h
  exact ⟨a, Bool.and_eq_true_iff.mp b⟩
theorem SaysY.facts (c : SaysY ex fn fd K) : ex K = true := c.all.1
theorem SaysY.at (c : SaysY ex fn fd K) {d : DX} (i : Nat) (h : (fn ++ fd)[i]? = some d) : fnX K (d.at_ K) = d.val := by
  have e : (fn ++ fd).map (fun d => fnX K (d.at_ K)) = (fn ++ fd).map DX.val := congrArg (fun z : He.AlD => z.2) c
  have e2 : ((fn ++ fd).map (fun d => fnX K (d.at_ K)))[i]? = ((fn ++ fd).map DX.val)[i]? := by rw [e]
  rw [List.getElem?_map, List.getElem?_map, h] at e2
  exact Option.some.inj e2
theorem SaysY.def_ (c : SaysY ex fn fd K) (i : Nat) {d : DX} (h : fn[i]? = some d) : ∃ fd, Fun K d.name d.qual d.st (d.at_ K) fd :=
  DX.fun_ (c.at i (by rw [List.getElem?_append_left (List.getElem?_eq_some_iff.mp h).1]; exact h)) (List.all_eq_true.mp c.all.2.1 d (List.mem_of_getElem? h))
theorem SaysY.def2 (c : SaysY ex fn fd K) (i : Nat) {d : DX} (h : fd[i]? = some d) : ∃ f v, FunD K d.name d.qual (defArgs d.st) (defBody d.st) (defScope d.st) [v] [] (d.at_ K) f :=
  DX.fun2 (c.at (fn.length + i) (by rw [List.getElem?_append_right (Nat.le_add_right _ _), Nat.add_sub_cancel_left]; exact h)) (List.all_eq_true.mp c.all.2.2 d (List.mem_of_getElem? h))
end
end HX
set_option Elab.async false
set_option linter.all false
set_option maxRecDepth 100000
set_option maxHeartbeats 4400000
namespace HX
open L2 PyProof.Rows PySem.Spec PySem
open PySem.W (Frag)
section
variable {J : It} {n : Nat} {G : Hp → Prop} {Y : Nat → Hp → V → Hp → Prop} {g : TG} {te : L2.TE} {vs : List Nat} {σ : L2.St} {H1 : Hp} {D : Addr} {Qd : Hp → Prop}
theorem rng_snoc {α : Type} (f : Nat → α) (i : Nat) : (List.range i).map f ++ [f i] = (List.range (i + 1)).map f := by rw [List.range_succ, List.map_append]; rfl
/-- each turn tells a truth -/
theorem lc_bl (w : Walk J n G Y) (f : Nat → Bool) (hn : n < 1000) (nD : H1 D = none) (hG : ∀ H, Ex H1 H → G H)
    (hs : ∀ (i : Nat) (x : V) (H H' : Hp) (Kq : V → Hp → Prop), i < n → Ex H1 H → Y i H x H' → (∀ H4, Ex H H4 → Kq (.bl (f i)) H4) → g x (wipe σ vs) H' fun σ2 H2 => wipe σ2 vs = wipe σ vs ∧ te σ2 H2 Kq)
    (hd : ∀ H, Ex H1 H → H D = some (.lst (((List.range n).map f).map V.bl)) → Qd H) : LcGoal J g te vs σ H1 D Qd := by
  refine lc_it (tt := tYes) w (fun i H => Ex H1 H ∧ H D = some (.lst (((List.range i).map f).map V.bl))) ⟨Ex.nw nD, upd_same⟩ (fun i H _ p => hG H p.1) (fun i x H H' hi p y => ?_) (fun H ⟨e, hD⟩ => hd H e hD)
  obtain ⟨e, hD⟩ := p
  refine hs i x H H' _ hi e y fun H4 e4 => ⟨_, e4 _ _ hD, ?_, ex_mu (e.tr e4) nD, ?_⟩
  · rw [List.length_map, List.length_map, List.length_range]
    exact Nat.lt_of_lt_of_le hi (Nat.le_trans (Nat.le_of_lt hn) (by decide))
  · rw [← rng_snoc, List.map_append]; exact upd_same
end
/-- all of what is told of each, told of the list -/
theorem all_rng {α : Type} (P : α → Bool) (f : Nat → Bool) (l : List α) (h : ∀ (i : Nat) (a : α), l[i]? = some a → f i = P a) : ((List.range l.length).map f).all id = l.all P := by
  have e : (List.range l.length).map f = l.map P := by
    refine List.ext_getElem? fun i => ?_
    by_cases hi : i < l.length
    · have q : l[i]? = some l[i] := List.getElem?_eq_getElem hi
      rw [List.getElem?_map, List.getElem?_map, List.getElem?_range hi, q]
      exact congrArg some (h i _ q)
    · rw [List.getElem?_eq_none (by simpa using Nat.le_of_not_lt hi), List.getElem?_eq_none (by simpa using Nat.le_of_not_lt hi)]
  rw [e, List.all_map]; rfl
/-- what isinstance says of any data: tuple, str -/
def isTupD : PyData → Bool | .tuple _ => true | _ => false
def isStrD : PyData → Bool | .str _ => true | _ => false
theorem kt_tup {K : Frag} {p : Addr} {H : Hp} {v : V} {d : PyData} (h : Dz p H v d) : ∃ t : String, TyX K H v (.type t) ∧ PySem.W.kitOne K (.type t) (.type "tuple") = some (isTupD d) := by
  cases h with
  | non => exact ⟨_, .base .non, kit_ty (r := false) (by decide +kernel)⟩
  | bl b => exact ⟨_, .base (.bl _), kit_ty (r := false) (by decide +kernel)⟩
  | int i => exact ⟨_, .base (.int _), kit_ty (r := false) (by decide +kernel)⟩
  | str x => exact ⟨_, .base (.str _), kit_ty (r := false) (by decide +kernel)⟩
  | lst h => exact ⟨_, .base (.lst h), kit_ty (r := false) (by decide +kernel)⟩
  | tup h => exact ⟨_, .base (.tup h), kit_ty (r := true) (by decide +kernel)⟩
  | dct h => exact ⟨_, .base (.dK h), kit_ty (r := false) (by decide +kernel)⟩
theorem kt_strD {K : Frag} {p : Addr} {H : Hp} {v : V} {d : PyData} (h : Dz p H v d) : ∃ t : String, TyX K H v (.type t) ∧ PySem.W.kitOne K (.type t) (.type "str") = some (isStrD d) := by
  cases h with
  | non => exact ⟨_, .base .non, kit_ty (r := false) (by decide +kernel)⟩
  | bl b => exact ⟨_, .base (.bl _), kit_ty (r := false) (by decide +kernel)⟩
  | int i => exact ⟨_, .base (.int _), kit_ty (r := false) (by decide +kernel)⟩
  | str x => exact ⟨_, .base (.str _), kit_ty (r := true) (by decide +kernel)⟩
  | lst h => exact ⟨_, .base (.lst h), kit_ty (r := false) (by decide +kernel)⟩
  | tup h => exact ⟨_, .base (.tup h), kit_ty (r := false) (by decide +kernel)⟩
  | dct h => exact ⟨_, .base (.dK h), kit_ty (r := false) (by decide +kernel)⟩
/-- the parts of a tuple of data -/
theorem Dz.tupI {p : Addr} {H : Hp} {v : V} {ds : List PyData} (h : Dz p H v (.tuple ds)) : ∃ a xs, v = .ref a ∧ H a = some (.tup xs) ∧ xs.length = ds.length ∧ ∀ (i : Nat) (x : V) (d : PyData), xs[i]? = some x → ds[i]? = some d → Dz p H x d := by
  cases h with
  | tup ht hl hi => exact ⟨_, _, rfl, ht, hl, hi⟩
theorem Dz.strI {p : Addr} {H : Hp} {v : V} {z : Str} (h : Dz p H v (.str z)) : v = .str z := by cases h; rfl
theorem Dz.intI {p : Addr} {H : Hp} {v : V} {z : Int} (h : Dz p H v (.int z)) : v = .int z := by cases h; rfl
/-- any data of a bounded weight -/
def Wt (n : Nat) (d : PyData) : Prop := d.weight ≤ n
theorem Wt.str {n : Nat} {z : Str} (h : Wt n (.str z)) : z.length ≤ n := by unfold Wt at h; simp only [PyData.weight] at h; exact h
theorem wt_all {ds : List PyData} : ds.length ≤ PyData.weightAll ds := by
  induction ds with
  | nil => exact Nat.zero_le _
  | cons d r ih => simp only [PyData.weightAll, List.length_cons]; omega
theorem wt_mem {d : PyData} : ∀ {ds : List PyData}, d ∈ ds → d.weight ≤ PyData.weightAll ds
  | x :: r, h => by
    simp only [PyData.weightAll]
    rcases List.mem_cons.mp h with rfl | h
    · omega
    · have := wt_mem h; omega
theorem Wt.len {n : Nat} {ds : List PyData} (h : Wt n (.tuple ds)) : ds.length ≤ n := by unfold Wt at h; simp only [PyData.weight] at h; exact Nat.le_trans wt_all h
theorem Wt.mem {n : Nat} {ds : List PyData} {d : PyData} (h : Wt n (.tuple ds)) (m : d ∈ ds) : Wt n d := by unfold Wt at h ⊢; simp only [PyData.weight] at h; exact Nat.le_trans (wt_mem m) h
end HX
set_option Elab.async false
set_option linter.all false
set_option maxRecDepth 100000
set_option maxHeartbeats 4400000
namespace HX
open L2 PyProof.Rows PySem.Spec PySem
open PySem.W (Frag)
/-! ### == and != of an own class that has an __eq__ and no __ne__ -/
section
variable {M : Model} {prog : Program} {w : World} {A : Around} {E : Value → Shared → Prop} {s : Shared} {K : Frag} {x C f L : Addr} {ox : Obj} {od : Option Obj} {h₀ : Heap} {m : Str → Option Value} {b tb : Value}
/-- the class's != is looked up, bound, and called: it is object's -/
theorem ifBound_objNe {args : List Value} {Q : Option Value → Shared → Prop} (X : K.In s.heap) (I : PySem.W.InstAt s.heap x ox C od) (hs : PySem.W.findIn K (.ref C) "__ne__" = some (some (.builtin "object.__ne__")))
    (h : wpAny M A (call (.builtin "object.__ne__") (.ref x :: args)) (fun v => Q (some v)) E s) : wpAny M A (callSpecialIfBound? (.ref x) "__ne__" args) Q E s := by
  have told : wpAny M A (call (.builtin "object.__ne__") ([.ref x] ++ args) >>= fun v => pure (some v)) Q E s :=
    wpAny_bind (wpAny_mono h (fun _ _ z => wpAny_pure z) fun _ _ z => z)
  unfold callSpecialIfBound? bindSpecialIfBound?
  apply wpAny_holding
  iterate 3 apply wpAny_bind
  apply I.type.here
  apply (PySem.W.looks_findIn X hs).here
  apply wpAny_bind
  apply wpAny_askSetting
  apply wpAny_ite
  split <;> first
    | exact wpAny_bind (wpAny_of_eq (F.cmp_object.ne.bind _) (wpAny_pure (by exact told)))
    | exact wpAny_tryCatch (wpAny_bind (wpAny_of_eq (F.cmp_object.ne.bind _) (wpAny_pure (by exact told))))
theorem entry_objNe {Q : Fin → Shared → Prop} (X : K.In s.heap) (I : PySem.W.InstAt s.heap x ox C od) (hs : PySem.W.findIn K (.ref C) "__eq__" = some (some (.ref f))) (hf : PySem.W.isFn K (.ref f) = true) (hu : A.units < cLine)
    (h : wpAny (model prog w) A (call (.ref f) [.ref x, b]) (fun v s' => ∃ c, v = .bool c ∧ Q (.done (.ret (.bool (!c)))) s') E s) : wpAny (model prog w) A (Builtin.«object.__ne__» ⟨[.ref x, b], []⟩) Q E s := by
  unfold Builtin.«object.__ne__»
  repeat (first
    | with_reducible refine wpAny_cRoomFor hu ?_
    | (refine wpAny_bind (m := callSpecialIfBound? (.ref x) (Str.ofString "__eq__") [b])
        (PySem.W.ifBound_K X I hs hf (wpAny_mono h (fun r s' hr => by
          obtain ⟨c, rfl, hq⟩ := hr
          repeat (first | exact hq | exact wpAny_pure hq | exact wpAny_truthy_bool hq | (refine wpAny_bind (m := truthy (.bool _)) (wpAny_truthy_bool ?_)) | wp_step)) fun _ _ e => e)))
    | wp_step)
theorem cmpNe_K {Q : Value → Shared → Prop} (hu : A.units + 1 < cLine) (X : K.In s.heap) (I : PySem.W.InstAt s.heap x ox C od) (hb : PySem.W.Looks (model prog w) s.heap (typeOf b) tb) (hn : PySem.W.notFirst K C tb = true)
    (hm : PySem.W.mroIn K C (.type "object") = some true) (hne : PySem.W.findIn K (.ref C) "__ne__" = some (some (.builtin "object.__ne__"))) (hs : PySem.W.findIn K (.ref C) "__eq__" = some (some (.ref f))) (hf : PySem.W.isFn K (.ref f) = true)
    (h : wpAny (model prog w) A.in1 (call (.ref f) [.ref x, b]) (fun v s' => ∃ c, v = .bool c ∧ Q (.bool (!c)) s') E s) : wpAny (model prog w) A (richCompare .NotEq (.ref x) b) Q E s := by
  have one : wpAny (model prog w) A (tryCompare (.ref x) "__ne__" b) (fun r s' => ∃ v, r = some v ∧ Q v s') E s := by
    unfold tryCompare
    refine wpAny_bind (ifBound_objNe X I hne (wpAny_call (codeAny_call_builtin F.cmp_object.ne.plain F.cmpEntry_ne (PySem.W.check_slot F.cmpKind_ne F.cmpSplit_ne (I.type.andThen (PySem.W.looks_mroIn X hm)) (F.cmpArgs_ne _ _) (entry_objNe X I hs hf hu (wpAny_mono h (fun v s' hv => ?_) fun _ _ e => e))))))
    obtain ⟨c, rfl, hq⟩ := hv
    first | exact ⟨c, rfl, wpAny_pure ⟨_, rfl, hq⟩⟩ | exact ⟨c, rfl, wpAny_pure (wpAny_pure ⟨_, rfl, hq⟩)⟩ | exact ⟨c, rfl, ⟨_, rfl, hq⟩⟩
  have sub : tb = .ref C ∨ PySem.W.subIn K tb (.ref C) = some false := (Bool.or_eq_true_iff.mp hn).imp beq_iff_eq.mp beq_iff_eq.mp
  have fin : ∀ {k : Option Value → Sem Value}, (∀ v, k (some v) = pure v) → wpAny (model prog w) A (tryCompare (.ref x) "__ne__" b >>= k) Q E s := fun hk =>
    wpAny_bind (wpAny_mono one (fun r s' ⟨v, e, hq⟩ => by subst e; rw [hk]; exact wpAny_pure hq) fun _ _ z => z)
  simp only [richCompare, cmpInfo_NotEq, oneThing_ref]
  apply wpAny_holding
  apply wpAny_bind
  apply wpAny_cRoomFor (Nat.lt_of_succ_lt hu)
  apply wpAny_bind
  apply I.type.here
  apply wpAny_bind
  apply hb.here
  split
  · next q =>
    have e := sub.resolve_left fun z => by subst z; simp at q
    apply wpAny_bind
    apply (PySem.W.looks_subIn X e).here
    rw [if_neg Bool.false_ne_true]
    exact fin fun _ => rfl
  · apply wpAny_bind
    apply wpAny_pure
    rw [if_neg Bool.false_ne_true]
    exact fin fun _ => rfl
end
section
variable {X : Cx}
/-- what an instance may be compared with: of the same class, an int, a tuple -/
def eqSide (K : Frag) (C : Addr) (H : Hp) (y : V) : Prop := isI C H y ∨ (∃ i, y = .int i) ∨ ∃ a xs, y = .ref a ∧ H a = some (.tup xs)
/-- the class's own ==, and no != -/
structure EqC (K : Frag) (C f : Addr) : Prop where
  hs : PySem.W.findIn K (.ref C) "__eq__" = some (some (.ref f))
  hf : PySem.W.isFn K (.ref f) = true
  hne : PySem.W.findIn K (.ref C) "__ne__" = some (some (.builtin "object.__ne__"))
  hm : PySem.W.mroIn K C (.type "object") = some true
  nc : PySem.W.notFirst K C (.ref C) = true
  n1 : PySem.W.notFirst K C (.type "int") = true
  n2 : PySem.W.notFirst K C (.type "tuple") = true
def rEqO (K : Frag) (C : Addr) (sp : Sp) (E : XK) : R2 := fun x y H Q => isI C H x ∧ eqSide K C H y ∧ sp [x, y] H Q E
def rNeO (K : Frag) (C : Addr) (sp : Sp) (E : XK) : R2 := fun x y H Q => isI C H x ∧ eqSide K C H y ∧ sp [x, y] H (fun v H' => ∃ b, v = .bl b ∧ Q (.bl (!b)) H') E
theorem side_looks {pins : List (Addr × Obj)} {σ : L2.St} {H : Hp} {s : Shared} {C f : Addr} {y : V} {u : Value} (I : Inv X pins σ H s) (T : EqC X.K C f) (h : eqSide X.K C H y) (ry : RelV y u) : ∃ tb, PySem.W.Looks (model X.prog X.w) s.heap (typeOf u) tb ∧ PySem.W.notFirst X.K C tb = true := by
  rcases h with ⟨b, dy, gs, rfl, eb⟩ | ⟨i, rfl⟩ | ⟨a, xs, rfl, ha⟩
  · obtain ⟨od', J'⟩ := isI_inst I eb
    cases (id ry : u = Value.ref b)
    exact ⟨_, J'.type, T.nc⟩
  · obtain ⟨t, e⟩ := (show ∃ t, u = Value.int i t from ry)
    subst e
    exact ⟨_, fun A Q E s k q => wpAny_typeOf (typeIs_int s i t) q, T.n1⟩
  · cases (id ry : u = Value.ref a)
    obtain ⟨its, rv, ⟨o, ho, hc, n, hd⟩, _⟩ := I.tuple (SqT.of ha)
    exact ⟨_, fun A Q E s k q => wpAny_typeOf_ref (k _ _ ho) (by rw [hc]; exact q), T.n2⟩
theorem op_eqO {CX : CXT} {C f : Addr} {k : Nat} {fd : FuncData} {ps : List Str} {sp : Sp} {E : XK} (T : EqC X.K C f) (F1 : FnOk X.prog X.w X.K X.mg X.base CX k f fd ps sp) (b1 : Binds X.K fd ps []) (hr : Room k X.A) (hx : Passes CX X E) : OpR X (compareOp .Eq) (rEqO X.K C sp E) := by
  intro pins s σ H x y v u; intro Q I rx ry h
  obtain ⟨m, hF⟩ := I.fr
  have hu := hr.units0
  obtain ⟨⟨a, dx, fs, rfl, ea⟩, hy, q⟩ := h
  obtain ⟨od, J⟩ := isI_inst I ea
  cases (id rx : v = Value.ref a)
  obtain ⟨tb, hb, hn⟩ := side_looks I T hy ry
  unfold compareOp
  exact PySem.W.cmp_K (op := .Eq) hu hF I.ok.mod.kin J hb hn T.hs T.hf (thn (run_fn (us := [.ref a, u]) (vs := [.ref a, y]) F1 hr b1 .nil hx I (.cons rfl (.cons ry .nil)) q) fun u s' z => ep_back z)
/-- a call one deeper -/
theorem run_fn1 {CX : CXT} {f : Addr} {k : Nat} {fd : FuncData} {ps : List Str} {sp : Sp} {E : XK} {pins : List (Addr × Obj)} {σ : L2.St} {H : Hp} {s : Shared} {Q : VK} {us : List Value} {vs : List V} (F : FnOk X.prog X.w X.K X.mg X.base CX k f fd ps sp) (hr : Room (k + 1) X.A) (hb : Binds X.K fd ps []) (hx : Passes CX X E)
    (I : Inv X pins σ H s) (r : Vals vs us) (h : sp vs H Q E) : wpAny (model X.prog X.w) X.A.in1 (call (.ref f) us) (EP X pins σ Q) X.xe s := by
  have hl : (us ++ []).length = ps.length := by rw [List.append_nil, ← r.length]; exact F.len _ _ _ _ h
  have hb2 := hb s us I.kIn hl
  rw [List.append_nil] at hb2
  refine wpAny_call (codeAny_mono (F.run X.A.in1 X.stack s H ⟨us, []⟩ us vs Q E hr.in1 I.env0.in1 hb2 r h) fun r s' hq => ?_)
  cases r with
  | error e => exact hx pins σ H s e s' I hq
  | ok fl =>
    cases fl with
    | ret u => exact I.after hq
    | next => exact False.elim hq
    | brk => exact False.elim hq
    | cont => exact False.elim hq
theorem op_neO {CX : CXT} {C f : Addr} {k : Nat} {fd : FuncData} {ps : List Str} {sp : Sp} {E : XK} (T : EqC X.K C f) (F1 : FnOk X.prog X.w X.K X.mg X.base CX k f fd ps sp) (b1 : Binds X.K fd ps []) (hr : Room (k + 1) X.A) (hx : Passes CX X E) : OpR X (compareOp .NotEq) (rNeO X.K C sp E) := by
  intro pins s σ H x y v u; intro Q I rx ry h
  have hu : X.A.units + 1 < cLine := hu_of hr
  obtain ⟨⟨a, dx, fs, rfl, ea⟩, hy, q⟩ := h
  obtain ⟨od, J⟩ := isI_inst I ea
  cases (id rx : v = Value.ref a)
  obtain ⟨tb, hb, hn⟩ := side_looks I T hy ry
  unfold compareOp
  refine cmpNe_K hu I.kIn J hb hn T.hm T.hne T.hs T.hf (thn (run_fn1 (us := [.ref a, u]) (vs := [.ref a, y]) F1 hr b1 hx I (.cons rfl (.cons ry .nil)) q) fun u s' z => ?_)
  obtain ⟨v, H', I', r, c, rfl, hq⟩ := z
  cases r
  exact ⟨c, rfl, .bl (!c), H', I', rfl, hq⟩
end
end HX
set_option Elab.async false
set_option linter.all false
set_option maxRecDepth 100000
set_option maxHeartbeats 4400000
namespace HX
open L2 PyProof.Rows PySem.Spec PySem LamX
/-- one parameter p, no other name of its own: captured ones and globals -/
structure LamP (sc scope : Scope) (p : Str) : Prop where
  kind : scope.kind = .function
  co : scope.isCoroutine = false
  gen : scope.isGenerator = false
  par : scope.names.lookup p = some .local
  own : ∀ y ∈ scope.names, (y.2 = .local → y.1 = p) ∧ y.2 ≠ .cell
  free : ∀ y ∈ scope.names, y.2 = .free → sc.names.lookup y.1 = some .cell ∨ sc.names.lookup y.1 = some .free
def lamPB (sc scope : Scope) (p : Str) : Bool :=
  decide (scope.kind = .function) && !scope.isCoroutine && !scope.isGenerator && decide (scope.names.lookup p = some .local) && scope.names.all fun y => (!decide (y.2 = .local) || decide (y.1 = p)) && !decide (y.2 = .cell) && (!decide (y.2 = .free) || decide (sc.names.lookup y.1 = some .cell) || decide (sc.names.lookup y.1 = some .free))
theorem lamP_by {sc scope : Scope} {p : Str} (h : lamPB sc scope p = true) : LamP sc scope p := by
  unfold lamPB at h
  simp only [Bool.and_eq_true, Bool.or_eq_true, Bool.not_eq_true', decide_eq_true_eq, decide_eq_false_iff_not, List.all_eq_true] at h
  obtain ⟨⟨⟨⟨h1, h2⟩, h3⟩, h4⟩, h5⟩ := h
  refine ⟨h1, h2, h3, h4, fun y hy => ⟨fun e => ?_, (h5 y hy).1.2⟩, fun y hy e => ?_⟩
  · rcases (h5 y hy).1.1 with z | z
    · exact absurd e z
    · exact z
  · rcases (h5 y hy).2 with (z | z) | z
    · exact absurd e z
    · exact .inl z
    · exact .inr z
theorem LamP.has {X : Cx} {scope : Scope} {p : Str} (L : LamP X.env.scope scope p) (ok : X.Ok) : ∀ y ∈ scope.names, y.2 = .free → ∃ c, X.env.cells.lookup y.1 = some c := fun y hy e =>
  (L.free y hy e).elim (fun k => ok.has _ (.inl k)) fun k => ok.has _ (.inr k)
abbrev lamCxP (X : Cx) (A : Around) (outer : List Env) (s : Shared) (H : Hp) (E : XK) (scope : Scope) (f c' : Addr) (p : Str) : Cx := { lamCx X A outer s H E scope f c' with N := X.N ++ [p] }
section
variable {X : Cx} {pins : List (Addr × Obj)} {σ : L2.St} {H HZ : Hp} {s s1 : Shared}
theorem lam_startP {A : Around} {outer : List Env} {E : XK} {scope : Scope} {f c' : Addr} {h₁ : Heap} {tk : Nat} {p : Str} {u : Value} {w : V} (I : Inv X pins σ H s) (L : LamP X.env.scope scope p) (hp : p ∉ X.N) (e0 : Env0 X.prog X.w X.K X.mg X.base A outer s1 HZ) (hd : A.handled = none)
    (un : Un (frs X.stack) [] H HZ s.heap s1.heap) (hns : h₁.Ns s1.heap.objs.size fun y => ([(p, u)] : List (Str × Value)).reverse.lookup y) (kp : ∀ b o, s1.heap.get? b = some o → h₁.get? b = some o) (rv : L2.RelV w u) :
    Inv (lamCxP X A outer s1 HZ E scope f c' p) [] (σ ++ [some w]) HZ { s1 with heap := h₁, toks := tk } := by
  have hfree := L.has I.ok
  have cm : ∀ {y c}, (cloFrom X.env.cells scope.names []).lookup y = some c → X.env.cells.lookup y = some c := fun {y c} e => by
    rcases cloFrom_mem (PySem.mem_of_lookup e) with hm | ⟨h1, h2⟩
    · cases hm
    · obtain ⟨c1, hc⟩ := hfree _ h1 rfl
      have hc : X.env.cells.lookup y = some c1 := hc
      have e2 : c = c1 := by rw [h2, hc] <;> rfl
      rw [e2]; exact hc
  have look : ∀ {y}, scope.names.lookup y = some .free → ∃ c, (cloFrom X.env.cells scope.names []).lookup y = some c := fun {y} hl =>
    mem_lookup (cloFrom_has (cells := X.env.cells) (acc := []) (PySem.mem_of_lookup hl : (y, NameKind.free) ∈ scope.names))
  have cellK : ∀ {c : Addr} {v : Option Value}, H c = none → s.heap.IsCell c v → h₁.IsCell c v := fun {c v} n ⟨o, ho, hd⟩ => by
    obtain ⟨sl, q⟩ := un.any ho n (by simp)
    exact ⟨_, kp _ _ q, hd⟩
  have noA : ∀ b : Addr, b ∉ (lamCxP X A outer s1 HZ E scope f c' p).ex := fun b z => absurd (show b ∈ ([] : List Addr) from z) (by simp)
  refine ⟨⟨e0.mod, L.kind, rfl, rfl, Nat.le_refl _, fun y z c e1 e2 => I.ok.inj y z c (cm e1) (cm e2), fun y hy => ?_, fun y c z _ => ?_, fun _ => hd, Around.frames_deeper e0.frames, .inr ⟨rfl, rfl⟩, fun b z => absurd z (noA b), e0.bs, e0.bsz, fun b _ _ => noA b,
      fun b z => absurd z (noA b), e0.funs, e0.frf⟩,
    rfl, e0.bare, Un.kept kp, ⟨_, hns, fun i y v e1 e2 e3 => ?_⟩, fun y c e => ?_, e0.hok.fresh (Nat.le_refl _), fun y c e => ?_, fun q hq => absurd (show q ∈ ([] : List (Addr × Obj)) ++ [] from hq) (by simp), e0.hok.kept kp, ?_⟩
  · have hy : scope.names.lookup y = some .cell ∨ scope.names.lookup y = some .free := hy
    rcases hy with hy | hy
    · exact absurd rfl (L.own _ (PySem.mem_of_lookup hy)).2
    · exact look hy
  · cases (show false = true from z)
  · have e1 : (X.N ++ [p])[i]? = some y := e1
    have hl := I.len
    by_cases hi : i < X.N.length
    · rw [List.getElem?_append_left hi] at e1
      rw [List.getElem?_append_left (by rw [hl]; exact hi)] at e2
      have yp : y ≠ p := fun z => hp (z ▸ List.mem_of_getElem? e1)
      have e3 : Vis scope y := e3
      rcases e3 with k | k | k
      · exact absurd ((L.own _ (PySem.mem_of_lookup k)).1 rfl) yp
      · exact absurd rfl (L.own _ (PySem.mem_of_lookup k)).2
      · obtain ⟨m, hn, hl⟩ := I.loc
        have hvis : Vis X.env.scope y := (L.free _ (PySem.mem_of_lookup k) rfl).elim (fun k => .inr (.inl k)) (fun k => .inr (.inr k))
        obtain ⟨w', r, q⟩ := hl i y v e1 e2 hvis
        obtain ⟨c2, h2⟩ := look k
        refine ⟨w', r, .inr ⟨.inr k, c2, h2, ?_⟩⟩
        have c1 := cm h2
        rcases q with ⟨k', _⟩ | ⟨_, c3, e', z⟩
        · have k' : X.env.scope.names.lookup y = some .local := k'
          rcases L.free _ (PySem.mem_of_lookup k) rfl with k2 | k2 <;> rw [show X.env.scope.names.lookup y = _ from k2] at k' <;> cases k'
        · rw [c1] at e'
          cases e'
          exact cellK (I.freeC y _ c1) z
    · rw [List.getElem?_append_right (Nat.le_of_not_lt hi)] at e1
      rw [List.getElem?_append_right (by rw [hl]; exact Nat.le_of_not_lt hi), hl] at e2
      cases hk : i - X.N.length with
      | zero =>
        rw [hk] at e1 e2
        cases e1; cases e2
        exact ⟨u, rv, .inl ⟨L.par, by simp⟩⟩
      | succ n => rw [hk] at e1; cases e1
  · obtain ⟨w', z⟩ := I.cell y c (cm e)
    exact ⟨w', cellK (I.freeC y c (cm e)) z⟩
  · obtain ⟨v, o, ho, hd⟩ := I.cell y c (cm e)
    exact un.free c o ho (I.freeC y c (cm e)) (by simp)
  · show (σ ++ [some w]).length = (X.N ++ [p]).length
    rw [List.length_append, List.length_append, I.len]; rfl
/-- a(e), in the def that got the lambda -/
theorem pe_actP {CXg : CXT} {Eg : XK} {Ng : List Str} {qg : Str} {sg : Scope} {g f c' : Addr} {cdg pm ctv : Value} {params : Arguments} {body e : Expr} {scope : Scope} {k i : Nat} {a p : Str} {te tb : TE} {p1 p2 : Pos}
    (I : Inv X pins σ H s) (L : LamP X.env.scope scope p) (hpN : p ∉ X.N) (hf : s.heap.get? f = some (PySem.W.kla_obj "<lambda>" (X.env.qual ++ "<lambda>") params body scope (cloFrom X.env.cells scope.names []) pm c' ctv)) (hfn : H f = none) (hfr : f ∉ frs X.stack)
    (hbind : ∀ u : Value, bindArgs (PySem.W.kla_fn "<lambda>" (X.env.qual ++ "<lambda>") params body scope (cloFrom X.env.cells scope.names []) pm (.ref c') ctv) ⟨[u], []⟩ = pure [(p, u)])
    (hr : Room (k + 1) (X.A.deeper (envOfC qg sg s.heap.objs.size g cdg)))
    (hbody : ∀ (A : Around) (outer : List Env) (s : Shared) (H : Hp), Room k (A.deeper (lamEnv X scope s.heap.objs.size f c')) → PE (lamCxP X A outer s H (fun _ _ _ => False) scope f c' p) body tb)
    (hN : Ng[i]? = some a) (hv : Vis sg a) (he : PE (cxOf CXg X.prog X.w X.K X.mg X.base Ng qg sg g cdg X.A X.stack s H Eg).nox e te)
    (hs : ∀ env : Env, starEach [e] env = [(false, eval e env)] := by intro _; rfl) (hd : (a == ("__debug__" : Str)) = false := by decide) (hcd : (a == ("__classdict__" : Str)) = false := by decide) :
    PE (cxOf CXg X.prog X.w X.K X.mg X.base Ng qg sg g cdg X.A X.stack s H Eg).nox (.Call (.Name a p1) [e] [] p2)
      (fun σZ HZ Q => σZ[i]? = some (some (.ref f)) ∧ te σZ HZ fun v H1 => H1 c' = some (CodeO c' (X.env.qual ++ "<lambda>")) ∧ tb (σ ++ [some v]) H1 Q) := by
  refine ⟨fun pz sz σz Hz Q Iz ⟨hs0, ht⟩ => wpAny_Call_Name_kw (thn ((pe_var (pos := p1) (i := i) hN hv hd hcd).run pz sz σz Hz (fun v H1 => v = .ref f ∧ H1 = Hz) Iz ⟨.ref f, hs0, rfl, rfl⟩) fun u s2 ⟨v, H1, I1, r1, ev, eH⟩ => ?_)⟩
  subst ev; subst eH
  obtain rfl : u = Value.ref f := r1
  have at1 : s2.heap.get? f = some (PySem.W.kla_obj "<lambda>" (X.env.qual ++ "<lambda>") params body scope (cloFrom X.env.cells scope.names []) pm c' ctv) := I1.base.keep f _ hf hfn hfr (fun z => nomatch (show f ∈ ([] : List Addr) from z))
  refine PySem.W.callWith_F ⟨_, _, _, _, at1⟩ ?_ (hs _)
  rw [hs]
  show wpAny _ _ (spliced ((false, eval e _) :: backTo p2 [])) _ _ s2
  refine Calls.spliced_cons (thn (he.run pz s2 σz H1 _ I1 ht) fun u s3 ⟨v, H2, I2, r2, hc, hb⟩ => Calls.spliced_nil ?_)
  · have at2 : s3.heap.get? f = some (PySem.W.kla_obj "<lambda>" (X.env.qual ++ "<lambda>") params body scope (cloFrom X.env.cells scope.names []) pm c' ctv) := I2.base.keep f _ hf hfn hfr (fun z => nomatch (show f ∈ ([] : List Addr) from z))
    refine ⟨⟨_, _, _, _, at2⟩, ?_⟩
    have un : Un (frs X.stack) [] H H2 s.heap s3.heap := I2.base
    obtain ⟨⟨oc, vs, t, hoc, hdc, hvc⟩, _, _⟩ := I2.hok c' _ hc
    have run : codeAny (model X.prog X.w) (X.A.deeper (envOfC qg sg s.heap.objs.size g cdg)) (.call (.ref f) ⟨[u], []⟩) (CR (L2.CX X.prog X.w) (envOfC qg sg s.heap.objs.size g cdg :: X.stack) X.prog X.w H2 s3 Q (fun _ _ _ => False)) s3 := by
      refine PySem.W.kla_callFunE hr.depth at2 rfl L.co L.gen rfl ⟨c', oc, vs, t, rfl, hoc, hdc, hvc⟩ ?_
      rw [hbind]
      refine wpAny_pure (wpAny_newFunctionEnv (fun y hy => (L.own y hy).2) (fun y hy => ?_) (fun h₁ hns hsb => ⟨I2.nolimit.fresh _ hsb, ?_⟩) L.kind)
      · rw [List.mem_singleton.mp hy]; exact L.par
      (show codeAny _ _ (.expr body (lamEnv X scope s3.heap.objs.size f c')) _ _)
      have kp : ∀ b o, s3.heap.get? b = some o → h₁.get? b = some o := fun b o e => hsb.extBut b o (Nat.ne_of_lt (Heap.lt_size e)) (Heap.get?_push_of_some _ e)
      have J : Inv (lamCxP X (X.A.deeper (envOfC qg sg s.heap.objs.size g cdg)) (envOfC qg sg s.heap.objs.size g cdg :: X.stack) s3 H2 (fun _ _ _ => False) scope f c' p) [] (σ ++ [some v]) H2 { s3 with heap := h₁, toks := s3.toks + ([(p, u)] : List (Str × Value)).length } := lam_startP I L hpN I2.env0 hr.hd un hns kp r2
      exact PySem.W.kla_codeExpr (wpAny_mono ((hbody _ _ s3 H2 (hr.deeper _)).run [] _ _ H2 Q J hb) (fun v s' ⟨w', H', J', rv, q⟩ => ⟨w', H', J'.os, J'.bare, J'.base, J'.hok, rv, q⟩) fun e s' hq => hq)
    refine wpAny_call (codeAny_mono run fun r s' hq => ?_)
    match r, hq with
    | .error e, hq =>
      obtain ⟨_, _, _, _, _, _, _, _, _, _, _, _, _, _, _, _, z⟩ := hq
    | .ok (.ret u), hq => exact I2.after hq
    | .ok .next, hq | .ok .brk, hq | .ok .cont, hq => exact False.elim hq
end
/-- what a def makes of a value and a lambda of one parameter -/
def GivesP (X : Cx) (k : Nat) (Ng : List Str) (x : Str) (sg : Scope) (g : Addr) (cdg : Value) (bg : List Stmt) (a : Str) (q : Str) (TT : (V → Hp → VK → Prop) → V → Hp → VK → Prop) : Prop :=
  ∀ (f c' : Addr) (s : Shared) (H : Hp) (Q : VK) (v : V) (tl : V → Hp → VK → Prop),
    (∀ (e : Expr) (te : TE) (p1 p2 : Pos), (∀ env : Env, starEach [e] env = [(false, eval e env)]) → PE (cxOf C8.CX0 X.prog X.w X.K X.mg X.base Ng x sg g cdg X.A X.stack s H C8.E0).nox e te →
      PE (cxOf C8.CX0 X.prog X.w X.K X.mg X.base Ng x sg g cdg X.A X.stack s H C8.E0).nox (.Call (.Name a p1) [e] [] p2) (fun σZ HZ Q => σZ[1]? = some (some (.ref f)) ∧ te σZ HZ fun v H1 => H1 c' = some (CodeO c' q) ∧ tl v H1 Q)) →
    Room k (X.A.deeper (envOfC x sg s.heap.objs.size g cdg)) → H c' = some (CodeO c' q) → TT tl v H Q →
    ∃ t, PSs (cxOf C8.CX0 X.prog X.w X.K X.mg X.base Ng x sg g cdg X.A X.stack s H C8.E0).nox bg t ∧ t { nx := fun _ H' => Q .non H', rt := Q } (L2.start Ng [v, .ref f]) H
def tLamP (T : List (Addr × Str)) (TT : (V → Hp → VK → Prop) → V → Hp → VK → Prop) (te t : TE) : TE := fun σ H Q => te σ H fun v H0 => Tabs T H0 ∧ ∀ H1, ExtN H0 H1 → Tabs T H1 → TT (fun w H' Q' => t (σ ++ [some w]) H' Q') v H1 Q
/-- x(e, lambda p: body), x a def of the text -/
theorem pe_lamP {X : Cx} {K : PySem.W.Frag} {T : List (Addr × Str)} {TT : (V → Hp → VK → Prop) → V → Hp → VK → Prop} {x b0 a pl : Str} {g c P : Addr} {k : Nat} {st : Stmt} {fd : FuncData} {Ng : List Str} {params : Arguments} {body e : Expr} {scope : Scope} {te t : TE} {p lpos pos : Pos}
    (hK : X.K = K) (F : Fun K x x st g fd) (b : Binds K fd [b0, a] []) (hg : Gl X x) (hm : X.mg x = some (.ref g)) (Sg : FnScope Ng [b0, a] (defScope st)) (hNg : Ng[1]? = some a) (hva : Vis (defScope st) a)
    (hG : ∀ cdv, GivesP X (k + 1) Ng x (defScope st) g cdv (defBody st) a (X.env.qual ++ "<lambda>") TT) (TB : TabB X.base X.mg c P) (hcode : X.env.code = .ref c) (hmT : (P, X.env.qual ++ "<lambda>") ∈ T) (hu : ∀ p ∈ T, p.1 = P → p.2 = X.env.qual ++ "<lambda>") (hr : Room (k + 2) X.A)
    (L : LamP X.env.scope scope pl) (hpN : pl ∉ X.N) (hdef : defaultsOf params X.env = ([], [])) (hbind : ∀ (q : Str) (cl : List (Str × Addr)) (pm cv ctv u : Value), bindArgs (PySem.W.kla_fn "<lambda>" q params body scope cl pm cv ctv) ⟨[u], []⟩ = pure [(pl, u)])
    (hbody : ∀ (A : Around) (outer : List Env) (s : Shared) (H : Hp) (f c' : Addr), Room k (A.deeper (lamEnv X scope s.heap.objs.size f c')) → PE (lamCxP X A outer s H (fun _ _ _ => False) scope f c' pl) body t) (he : PE X e te)
    (hs : starEach [e, .Lambda params body scope lpos] X.env = (false, eval e X.env) :: starEach [.Lambda params body scope lpos] X.env := by rfl)
    (hdb : (x == ("__debug__" : Str)) = false := by decide) (hd : (a == ("__debug__" : Str)) = false := by decide) (hcd : (a == ("__classdict__" : Str)) = false := by decide) : PE X (.Call (.Name x p) [e, .Lambda params body scope lpos] [] pos) (tLamP T TT te t) := by
  subst hK
  obtain ⟨oc, od, kV, doc, pm, an, cdv, ct, osl, rfl, lk, hc⟩ := F.ex
  refine ⟨fun pp t0 τ G R J h => wpAny_Call_Name_kw (ld_glob J hg hm (PySem.W.callWith_K (h₀ := X.base) J.ok.mod.kin F.kp ?_ hs (by rfl)) hdb)⟩
  rw [hs]
  (show wpAny _ _ (spliced ((false, eval e X.env) :: backTo pos (starEach [.Lambda params body scope lpos] X.env))) _ _ t0)
  refine Calls.spliced_cons (thn (he.run pp t0 τ G _ J h) fun u0 t1 ⟨v0, H0, J0, r0, hT, h⟩ => ?_)
  (show wpAny _ _ (spliced ((false, eval (.Lambda params body scope lpos) X.env) :: backTo pos (starEach [] X.env))) _ _ t1)
  refine Calls.spliced_cons (lam_make2 J0 TB hcode hmT hu hT hdef (L.has J0.ok) fun f c' pm' ctv H1 s' I1 eN T1 hf hfn hfr hco => Calls.spliced_nil ⟨I1.kIn, ?_⟩)
  refine wpAny_call (codeAny_mono (LamX.run_ofS (N := Ng) (ps := [b0, a]) (us := [u0, .ref f]) (vs := [v0, .ref f]) (CX := C8.CX0) (E := C8.E0) (Q := R) lk hc Sg hr I1.env0 (b s' [u0, .ref f] I1.kIn rfl) (.cons r0 (.cons rfl .nil)) rfl fun hr' => ?_) fun r s2 hq => ?_)
  · obtain ⟨t', ht', hq'⟩ := hG cdv f c' s' H1 R v0 (fun w H' Q' => t (τ ++ [some w]) H' Q') (fun e2 te2 p1 p2 hs2 he2 => pe_actP (i := 1) I1 L hpN hf hfn hfr (hbind _ _ _ _ _) hr' (fun A outer s H hr2 => hbody A outer s H f c' hr2) hNg hva he2 hs2 hd hcd) hr' hco (h H1 eN T1)
    exact ⟨t', ht'.nox, hq'⟩
  · match r, hq with
    | .error e, hq => exact (show False from hq).elim
    | .ok (.ret u), hq => exact I1.after hq
    | .ok .next, hq | .ok .brk, hq | .ok .cont, hq => exact False.elim hq
end HX
set_option Elab.async false
set_option linter.all false
set_option maxRecDepth 100000
set_option maxHeartbeats 4400000
namespace HX
open L2 PyProof.Rows PySem.Spec PySem HT
section
variable {prog : Program} {w : PySem.World} {A : Around} {E : Value → Shared → Prop} {s : Shared}
theorem adjust_rev (n : Nat) : Builtin.Slice.sliceAdjust none none (-1) (n : Int) = ((n : Int) - 1, -1) := by
  unfold Builtin.Slice.sliceAdjust
  first | rfl | simp
theorem places_rev (n : Nat) : Builtin.Slice.slicePlaces ((n : Int) - 1) (-1) (-1) = n := by
  have e : Builtin.Slice.slicePlaces ((n : Int) - 1) (-1) (-1) = (if (n : Int) - 1 > -1 then ((n : Int) - 1 - (-1) - 1) / (1 : Int) + 1 else 0).toNat := rfl
  rw [e, Int.ediv_one]
  by_cases h : (n : Int) - 1 > -1
  · rw [if_pos h]; omega
  · rw [if_neg h]
    have : n = 0 := by omega
    rw [this]; rfl
theorem applied_rev {sl : Addr} {vk : Value} {n : Nat} {Q : Int × Int × Nat → Shared → Prop} (hs : s.heap.IsSliceOf sl .none .none vk) (pk : IsPart vk (some (-1)))
    (h : Q ((n : Int) - 1, -1, n) s) : wpAny (model prog w) A (Builtin.Slice.sliceApplied (.ref sl) (pure (n : Int))) Q E s := by
  obtain ⟨os, hos, hcs, hds⟩ := id hs
  unfold Builtin.Slice.sliceApplied Builtin.Slice.sliceFields
  refine wpAny_bind (wpAny_bind (wpAny_field hos hds (x := .none) rfl (wpAny_bind (wpAny_field hos hds (x := .none) rfl (wpAny_bind (wpAny_field hos hds (x := vk) rfl (wpAny_pure ?_)))))))
  refine wpAny_bind (slicePart_ pk ?_)
  show wpAny _ _ (if ((-1 : Int) == 0) = true then _ else _) _ _ s
  rw [if_neg (by decide)]
  refine wpAny_bind (slicePart_none (wpAny_bind (slicePart_none (wpAny_bind (wpAny_pure ?_)))))
  show wpAny _ _ (match Builtin.Slice.sliceAdjust none none (-1) (n : Int) with | (lo, hi) => pure (lo, (-1 : Int), Builtin.Slice.slicePlaces lo hi (-1))) _ _ s
  rw [adjust_rev]
  show wpAny _ _ (pure ((n : Int) - 1, (-1 : Int), Builtin.Slice.slicePlaces ((n : Int) - 1) (-1) (-1))) _ _ s
  rw [places_rev]
  exact wpAny_pure h
theorem pick_rev (xs : Array Value) : ((List.range xs.size).filterMap fun (m : Nat) => xs[(((xs.size : Int) - 1) + (m : Int) * (-1)).toNat]?).toArray = xs.toList.reverse.toArray := by
  have e : (fun (m : Nat) => xs[(((xs.size : Int) - 1) + (m : Int) * (-1)).toNat]?) = (fun k => xs[k]?) ∘ fun m => xs.size - 1 - m := by
    funext m
    have : (((xs.size : Int) - 1) + (m : Int) * (-1)).toNat = xs.size - 1 - m := by omega
    rw [this]; rfl
  rw [e, ← List.filterMap_map, PySem.W.krv_range, List.filterMap_reverse, PySem.W.krv_all]
theorem getItem_tuple_rev {t sl : Addr} {items : Array Value} {vk : Value} {Q : Value → Shared → Prop} (ht : IsTup s.heap t items) (hs : s.heap.IsSliceOf sl .none .none vk) (pk : IsPart vk (some (-1)))
    (h : Q (.ref s.heap.objs.size) { s with heap := s.heap.push { cls := .type "tuple", data := .seq items.toList.reverse.toArray } })
    (hsz : items.size ≤ sizeLine) : wpAny (model prog w) A (getItem (.ref t) (.ref sl)) Q E s := by
  have htake : sizeOk (.seq items.toList.reverse.toArray) := by
    show items.toList.reverse.toArray.size ≤ sizeLine
    rw [List.size_toArray, List.length_reverse, Array.length_toList]
    exact hsz
  obtain ⟨os, hos, hcs, hds⟩ := id hs
  have hTs : s.TypeIs (.ref sl) "slice" := ⟨os, hos, hcs⟩
  unfold getItem
  try with_reducible refine wpAny_holding ?_
  first | refine wpAny_bind (wpAny_pure ?_) | skip
  refine wpAny_bind (wpAny_sequenceKey ht.typeIs (by decide) ?_)
  refine wpAny_bind (wpAny_callSpecial?_slot (name := Str.ofString "__getitem__") ht.typeIs PyProof.Rows.slot_tuple_getitem
    (wpAny_call_entry PyProof.Rows.slot_tuple_getitem ht.typeIs entry_tuple_getitem ?_ (args_tuple_getitem _ _)))
  show wpAny _ _ (Builtin.Tuple.tupleItemsOf (.ref t) >>= _) _ _ s
  refine wpAny_bind (tupleItemsOf_ ht ?_)
  refine wpAny_bind (wpAny_typeOf hTs ?_)
  rw [if_pos (by decide)]
  refine wpAny_bind (applied_rev hs pk ?_)
  have hno : ¬ ((((items.size : Int) - 1 == 0 && (-1 : Int) == 1) && items.size == items.size) = true) := by
    intro q
    rw [Bool.and_eq_true, Bool.and_eq_true] at q
    have := q.1.2
    revert this; decide
  show wpAny _ _ (if (((items.size : Int) - 1 == 0 && (-1 : Int) == 1) && items.size == items.size) = true then _ else _) _ _ s
  rw [if_neg hno, pick_rev]
  first
    | exact wpAny_bind (m := Builtin.Tuple.tupleExact _) (wpAny_newObj_type (wpAny_pure ⟨_, rfl, wpAny_pure h⟩) htake)
    | exact wpAny_bind (m := Builtin.Tuple.tupleExact _) (wpAny_newObj_type (wpAny_bind (wpAny_pure (wpAny_pure ⟨_, rfl, wpAny_pure h⟩))) htake)
    | exact wpAny_bind (wpAny_bind (m := Builtin.Tuple.tupleExact _) (wpAny_newObj_type (wpAny_pure (wpAny_pure ⟨_, rfl, wpAny_pure h⟩)) htake))
    | exact wpAny_bind (wpAny_bind (m := Builtin.Tuple.tupleExact _) (wpAny_newObj_type (wpAny_pure ⟨_, rfl, wpAny_pure h⟩) htake))
end
section
variable {X : Cx} {e st : Expr} {te ts : TE} {p2 pos : Pos}
/-- t[::-1] -/
theorem pe_rev (he : PE X e te) (hk : PE X st ts) : PE X (.Subscript e (.Slice none none (some st) p2) pos) (fun σ H Q => te σ H fun x H1 => ts σ H1 fun k H2 => k = .int (-1) ∧ ∃ a xs, x = .ref a ∧ SqT X.K H2 a xs ∧ ∀ p, H2 p = none → Q (.ref p) (upd H2 p (.tup xs.reverse))) := by
  refine ⟨fun pins s σ H Q I h => ?_⟩
  refine Subscript_ (thn (he.run pins s σ H _ I h) fun v s1 ⟨x, H1, I1, r1, q1⟩ => ?_)
  refine wpAny_Slice ?_
  rw [evalPart_none]
  refine wpAny_pure (wpAny_pure ?_)
  rw [evalPart_some]
  refine thn (hk.run pins s1 σ H1 _ I1 q1) fun vk s3 ⟨k, H3, I3, pk, hk3, a, xs, ea, hx, q3⟩ => ?_
  subst hk3; subst ea
  obtain ⟨tk, rfl⟩ := pk
  obtain rfl : v = Value.ref a := r1
  have I4 : Inv X pins σ H3 { s3 with heap := s3.heap.push { cls := .type "slice", data := .fields #[.none, .none, .int (-1) tk] } } := I3.kept (t' := s3.toks) fun b ob q => Heap.get?_push_of_some _ q
  show wpAny (model X.prog X.w) X.A (subscriptTail e (.Slice none none (some st) p2) (.ref a) (.ref s3.heap.objs.size)) (EP X pins σ Q) X.xe { s3 with heap := s3.heap.push { cls := .type "slice", data := .fields #[.none, .none, .int (-1) tk] } }
  obtain ⟨its, r, ht, hz⟩ := I4.tuple hx
  refine tail_any (ops := [.ref a, .ref s3.heap.objs.size]) ht.typeIs PyProof.Rows.slot_tuple_getitem.lookup (getItem_tuple_rev ht (Heap.IsSliceOf.new ..) (.int _ _) ?_ (by rw [List.size_toArray]; rw [← r.length]; exact hz)) (by with_unfolding_all rfl)
  refine ⟨.ref _, _, I4.laid (t' := s3.toks) (o := .tup xs.reverse) (fun b ob q => Heap.get?_push_of_some _ q) (Nat.le_refl _) ?_, rfl, q3 _ (I4.hok.fresh (Nat.le_refl _))⟩
  exact ⟨by rw [List.length_reverse]; exact hz, _, r.reverse, IsTup.new _ _⟩
end
end HX
set_option Elab.async false
set_option linter.all false
set_option maxRecDepth 100000
set_option maxHeartbeats 4400000
namespace HX
open PySem
/-! what repr tells of small whole numbers, names and tuples of such tells them apart -/
abbrev ch (s : Str) : List Nat := s.cps.toList
theorem ch_app (a b : Str) : ch (a ++ b) = ch a ++ ch b := by
  show (a.cps ++ b.cps).toList = _
  rw [Array.toList_append]
def letters (z : Str) : Bool := (ch z).all fun c => decide (97 ≤ c) && decide (c ≤ 122)
mutual
def plainD : PyData → Bool
  | .int i => decide (0 ≤ i) && decide (i ≤ 9)
  | .str z => letters z
  | .tuple ds => plainAll ds
  | _ => false
def plainAll : List PyData → Bool
  | [] => true
  | d :: r => plainD d && plainAll r
end
theorem plainAll_mem : ∀ {ds : List PyData}, plainAll ds = true → ∀ d ∈ ds, plainD d = true
  | d :: r, h, x, hx => by
    obtain ⟨h1, h2⟩ := Bool.and_eq_true_iff.mp (show (plainD d && plainAll r) = true from h)
    rcases List.mem_cons.mp hx with e | e
    · rw [e]; exact h1
    · exact plainAll_mem h2 x e
theorem repr_letter : ∀ c : Nat, 97 ≤ c → c ≤ 122 → Builtin.Str.reprChar 39 c = [c] := by
  intro c h1 h2
  have : (List.range 123).all (fun c => !decide (97 ≤ c) || decide (Builtin.Str.reprChar 39 c = [c])) = true := by decide +kernel
  have q := List.all_eq_true.mp this c (List.mem_range.mpr (by omega))
  rw [Bool.or_eq_true] at q
  rcases q with q | q
  · simp at q; omega
  · exact of_decide_eq_true q
theorem ch_repr {z : Str} (h : letters z = true) : ch (reprText z) = 39 :: (ch z ++ [39]) := by
  have hq : reprQuote z = 39 := by
    unfold reprQuote
    have : z.cps.contains 39 = false := by
      rw [Bool.eq_false_iff]; intro q
      have q := Array.contains_iff_mem.mp q
      have := List.all_eq_true.mp h 39 (by simpa using q)
      revert this; decide
    rw [this]; rfl
  unfold reprText
  rw [hq]
  show ((z.cps.foldl (fun out c => out ++ (Builtin.Str.reprChar 39 c).toArray) #[39]).push 39).toList = _
  rw [Array.toList_push, ← Array.foldl_toList]
  have : ∀ (l : List Nat) (acc : Array Nat), (l.all fun c => decide (97 ≤ c) && decide (c ≤ 122)) = true → (l.foldl (fun out c => out ++ (Builtin.Str.reprChar 39 c).toArray) acc).toList = acc.toList ++ l := by
    intro l
    induction l with
    | nil => intro acc _; simp
    | cons c r ih =>
      intro acc hl
      rw [List.all_cons, Bool.and_eq_true, Bool.and_eq_true] at hl
      rw [List.foldl_cons, ih _ hl.2, repr_letter c (of_decide_eq_true hl.1.1) (of_decide_eq_true hl.1.2)]
      simp
  rw [this _ _ h]
  rfl
theorem ch_digit {i : Int} (h0 : 0 ≤ i) (h9 : i ≤ 9) : ch (PyData.int i).shown = [48 + i.toNat] := by
  have : (List.range 10).all (fun n => decide (ch (PyData.int (n : Int)).shown = [48 + n])) = true := by decide +kernel
  obtain ⟨n, rfl⟩ := Int.eq_ofNat_of_zero_le h0
  exact of_decide_eq_true (List.all_eq_true.mp this n (List.mem_range.mpr (by omega)))
/-- what stands behind the parts of a tuple -/
def bt : List PyData → List Nat
  | [] => [41]
  | [x] => ch x.shown ++ [41]
  | x :: y :: r => ch x.shown ++ 44 :: 32 :: bt (y :: r)
theorem ch_join : ∀ (x : PyData) (r : List PyData), ch (Str.join ", " (PyData.shownAll (x :: r))) ++ [41] = bt (x :: r)
  | x, [] => rfl
  | x, y :: r => by
    have ih := ch_join y r
    show ch (PyData.shown x ++ ", " ++ Str.join ", " (PyData.shownAll (y :: r))) ++ [41] = ch x.shown ++ 44 :: 32 :: bt (y :: r)
    rw [← ih, ch_app, ch_app]
    have : ch (((", " : String) : Str)) = [44, 32] := by decide +kernel
    rw [this]; simp
theorem ch_tuple0 : ch (PyData.tuple []).shown = [40, 41] := by decide +kernel
theorem ch_tuple1 (x : PyData) : ch (PyData.tuple [x]).shown = 40 :: (ch x.shown ++ [44, 41]) := by
  show ch (tupleText [x.shown]) = _
  unfold tupleText
  rw [ch_app, ch_app]
  rfl
theorem ch_tuple2 (x y : PyData) (r : List PyData) : ch (PyData.tuple (x :: y :: r)).shown = 40 :: bt (x :: y :: r) := by
  show ch (tupleText (PyData.shownAll (x :: y :: r))) = _
  unfold tupleText
  rw [ch_app, ch_app, ← ch_join]
  have : ((PyData.shownAll (x :: y :: r)).length == 1) = false := by
    show ((PyData.shown x :: PyData.shown y :: PyData.shownAll r).length == 1) = false
    simp
  rw [this]
  rfl
def PF (x : PyData) : Prop := ∀ y, plainD y = true → ∀ r1 r2 : List Nat, ch x.shown ++ r1 = ch y.shown ++ r2 → x = y ∧ r1 = r2
theorem str_split : ∀ {a b : List Nat} {r1 r2 : List Nat}, (a.all fun c => decide (97 ≤ c) && decide (c ≤ 122)) = true → (b.all fun c => decide (97 ≤ c) && decide (c ≤ 122)) = true → a ++ 39 :: r1 = b ++ 39 :: r2 → a = b ∧ r1 = r2
  | [], [], r1, r2, _, _, h => by simp at h; exact ⟨rfl, h⟩
  | [], c :: b, r1, r2, _, hb, h => by
    simp at h hb
    have := hb.1; omega
  | c :: a, [], r1, r2, ha, _, h => by
    simp at h ha
    have := ha.1; omega
  | c :: a, d :: b, r1, r2, ha, hb, h => by
    rw [List.all_cons, Bool.and_eq_true] at ha hb
    simp only [List.cons_append, List.cons.injEq] at h
    obtain ⟨e1, e2⟩ := str_split ha.2 hb.2 h.2
    exact ⟨by rw [h.1, e1], e2⟩
theorem bt_pf : ∀ {l1 l2 : List PyData} {r1 r2 : List Nat}, l1 ≠ [] → l2 ≠ [] → (∀ x ∈ l1, PF x) → plainAll l2 = true → bt l1 ++ r1 = bt l2 ++ r2 → l1 = l2 ∧ r1 = r2
  | [x], [y], r1, r2, _, _, hp, hl, h => by
    have hy : plainD y = true := plainAll_mem hl y (.head _)
    have h : (ch x.shown ++ [41]) ++ r1 = (ch y.shown ++ [41]) ++ r2 := h
    rw [List.append_assoc, List.append_assoc] at h
    obtain ⟨e, q⟩ := hp x (.head _) y hy _ _ h
    simp at q
    exact ⟨by rw [e], q⟩
  | [x], y :: z :: s, r1, r2, _, _, hp, hl, h => by
    have hy : plainD y = true := plainAll_mem hl y (.head _)
    have h : (ch x.shown ++ [41]) ++ r1 = (ch y.shown ++ 44 :: 32 :: bt (z :: s)) ++ r2 := h
    rw [List.append_assoc, List.append_assoc] at h
    obtain ⟨e, q⟩ := hp x (.head _) y hy _ _ h
    simp at q
  | x :: w :: t, [y], r1, r2, _, _, hp, hl, h => by
    have hy : plainD y = true := plainAll_mem hl y (.head _)
    have h : (ch x.shown ++ 44 :: 32 :: bt (w :: t)) ++ r1 = (ch y.shown ++ [41]) ++ r2 := h
    rw [List.append_assoc, List.append_assoc] at h
    obtain ⟨e, q⟩ := hp x (.head _) y hy _ _ h
    simp at q
  | x :: w :: t, y :: z :: s, r1, r2, _, _, hp, hl, h => by
    have hy : plainD y = true := plainAll_mem hl y (.head _)
    have h : (ch x.shown ++ 44 :: 32 :: bt (w :: t)) ++ r1 = (ch y.shown ++ 44 :: 32 :: bt (z :: s)) ++ r2 := h
    rw [List.append_assoc, List.append_assoc] at h
    obtain ⟨e, q⟩ := hp x (.head _) y hy _ _ h
    simp only [List.cons_append, List.cons.injEq, true_and] at q
    obtain ⟨e1, e2⟩ := bt_pf (l1 := w :: t) (l2 := z :: s) (by simp) (by simp) (fun u hu => hp u (.tail _ hu)) (Bool.and_eq_true_iff.mp (show (plainD y && plainAll (z :: s)) = true from hl)).2 q
    exact ⟨by rw [e, e1], e2⟩
/-- the first sign -/
theorem first_sign {y : PyData} (h : plainD y = true) : (∃ i : Int, y = .int i ∧ 0 ≤ i ∧ i ≤ 9 ∧ ch y.shown = [48 + i.toNat]) ∨ (∃ z : Str, y = .str z ∧ letters z = true ∧ ch y.shown = 39 :: (ch z ++ [39])) ∨ (∃ ds, y = .tuple ds ∧ plainAll ds = true) := by
  cases y with
  | int i =>
    obtain ⟨h1, h2⟩ := Bool.and_eq_true_iff.mp (show (decide (0 ≤ i) && decide (i ≤ 9)) = true from h)
    exact .inl ⟨i, rfl, of_decide_eq_true h1, of_decide_eq_true h2, ch_digit (of_decide_eq_true h1) (of_decide_eq_true h2)⟩
  | str z => exact .inr (.inl ⟨z, rfl, h, ch_repr h⟩)
  | tuple ds => exact .inr (.inr ⟨ds, rfl, h⟩)
  | none => cases h
  | bool b => cases h
  | list xs => cases h
  | dict kvs => cases h
theorem ch_tuple_head (ds : List PyData) : ∃ t, ch (PyData.tuple ds).shown = 40 :: t := by
  match ds with
  | [] => exact ⟨_, ch_tuple0⟩
  | [x] => exact ⟨_, ch_tuple1 x⟩
  | x :: y :: r => exact ⟨_, ch_tuple2 x y r⟩
theorem item_head {y : PyData} (h : plainD y = true) : ∃ c t, ch y.shown = c :: t ∧ c ≠ 41 := by
  rcases first_sign h with ⟨i, rfl, h0, h9, e⟩ | ⟨z, rfl, hz, e⟩ | ⟨ds, rfl, hd⟩
  · exact ⟨_, _, e, by omega⟩
  · exact ⟨_, _, e, by decide⟩
  · obtain ⟨t, e⟩ := ch_tuple_head ds
    exact ⟨_, _, e, by decide⟩
theorem wt_memL {d : PyData} : ∀ {ds : List PyData}, d ∈ ds → d.weight + 1 ≤ PyData.weightAll ds
  | x :: r, h => by
    simp only [PyData.weightAll]
    rcases List.mem_cons.mp h with e | e
    · subst e; omega
    · have := wt_memL e; omega
theorem tup_pf {ds : List PyData} (hds : plainAll ds = true) (hp : ∀ x ∈ ds, PF x) : PF (.tuple ds) := by
  intro y hy r1 r2 h
  rcases first_sign hy with ⟨i, rfl, h0, h9, e⟩ | ⟨z, rfl, hz, e⟩ | ⟨es, rfl, he⟩
  · obtain ⟨t, et⟩ := ch_tuple_head ds
    rw [et, e] at h
    simp only [List.cons_append, List.cons.injEq] at h
    omega
  · obtain ⟨t, et⟩ := ch_tuple_head ds
    rw [et, e] at h
    simp only [List.cons_append, List.cons.injEq] at h
    omega
  · match ds, es, hds, hp, he, h with
    | [], [], _, _, _, h =>
      simp only [ch_tuple0, List.cons_append, List.cons.injEq, List.nil_append, true_and] at h
      exact ⟨rfl, h⟩
    | [], [y], _, _, he, h =>
      obtain ⟨c, t, e1, e2⟩ := item_head (plainAll_mem he y (.head _))
      rw [ch_tuple0, ch_tuple1, e1] at h
      simp only [List.cons_append, List.cons.injEq, true_and] at h
      exact absurd h.1.symm e2
    | [], y :: y2 :: s, _, _, he, h =>
      obtain ⟨c, t, e1, e2⟩ := item_head (plainAll_mem he y (.head _))
      rw [ch_tuple0, ch_tuple2] at h
      have : bt (y :: y2 :: s) = ch y.shown ++ 44 :: 32 :: bt (y2 :: s) := rfl
      rw [this, e1] at h
      simp only [List.cons_append, List.cons.injEq, true_and] at h
      exact absurd h.1.symm e2
    | [x], [], hds, hp, _, h =>
      obtain ⟨c, t, e1, e2⟩ := item_head (plainAll_mem hds x (.head _))
      rw [ch_tuple0, ch_tuple1, e1] at h
      simp only [List.cons_append, List.cons.injEq, true_and] at h
      exact absurd h.1 e2
    | [x], [y], _, hp, he, h =>
      rw [ch_tuple1, ch_tuple1] at h
      simp only [List.cons_append, List.cons.injEq, true_and, List.append_assoc, List.nil_append] at h
      obtain ⟨e, q⟩ := hp x (.head _) y (plainAll_mem he y (.head _)) _ _ h
      simp only [List.cons.injEq, true_and] at q
      exact ⟨by rw [e], q⟩
    | [x], y :: y2 :: s, _, hp, he, h =>
      rw [ch_tuple1, ch_tuple2] at h
      have e3 : bt (y :: y2 :: s) = ch y.shown ++ 44 :: 32 :: bt (y2 :: s) := rfl
      rw [e3] at h
      simp only [List.cons_append, List.cons.injEq, true_and, List.append_assoc, List.nil_append] at h
      obtain ⟨e, q⟩ := hp x (.head _) y (plainAll_mem he y (.head _)) _ _ h
      simp at q
    | x :: x2 :: t, [], hds, hp, he, h =>
      obtain ⟨c, t2, e1, e2⟩ := item_head (plainAll_mem hds x (.head _))
      rw [ch_tuple0, ch_tuple2] at h
      have : bt (x :: x2 :: t) = ch x.shown ++ 44 :: 32 :: bt (x2 :: t) := rfl
      rw [this, e1] at h
      simp only [List.cons_append, List.cons.injEq, true_and] at h
      exact absurd h.1 e2
    | x :: x2 :: t, [y], _, hp, he, h =>
      rw [ch_tuple1, ch_tuple2] at h
      have e3 : bt (x :: x2 :: t) = ch x.shown ++ 44 :: 32 :: bt (x2 :: t) := rfl
      rw [e3] at h
      simp only [List.cons_append, List.cons.injEq, true_and, List.append_assoc, List.nil_append] at h
      obtain ⟨e, q⟩ := hp x (.head _) y (plainAll_mem he y (.head _)) _ _ h
      simp at q
    | x :: x2 :: t, y :: y2 :: s, _, hp, he, h =>
      rw [ch_tuple2, ch_tuple2] at h
      simp only [List.cons_append, List.cons.injEq, true_and] at h
      obtain ⟨e1, e2⟩ := bt_pf (by simp) (by simp) hp he h
      exact ⟨by rw [e1], e2⟩
theorem shown_pf : ∀ (n : Nat) (x : PyData), x.weight < n → plainD x = true → PF x := by
  intro n
  induction n with
  | zero => intro x hw; exact absurd hw (Nat.not_lt_zero _)
  | succ n ih =>
    intro x hw hx
    rcases first_sign hx with ⟨i, rfl, h0, h9, e⟩ | ⟨z, rfl, hz, e⟩ | ⟨ds, rfl, hd⟩
    · intro y hy r1 r2 h
      rcases first_sign hy with ⟨j, rfl, k0, k9, f⟩ | ⟨z2, rfl, hz2, f⟩ | ⟨es, rfl, he⟩
      · rw [e, f] at h
        simp only [List.cons_append, List.cons.injEq, List.nil_append] at h
        have : i = j := by omega
        exact ⟨by rw [this], h.2⟩
      · rw [e, f] at h
        simp only [List.cons_append, List.cons.injEq] at h
        omega
      · obtain ⟨t, et⟩ := ch_tuple_head es
        rw [e, et] at h
        simp only [List.cons_append, List.cons.injEq] at h
        omega
    · intro y hy r1 r2 h
      rcases first_sign hy with ⟨j, rfl, k0, k9, f⟩ | ⟨z2, rfl, hz2, f⟩ | ⟨es, rfl, he⟩
      · rw [e, f] at h
        simp only [List.cons_append, List.cons.injEq] at h
        omega
      · rw [e, f] at h
        simp only [List.cons_append, List.cons.injEq, List.append_assoc, List.nil_append, true_and] at h
        obtain ⟨e1, e2⟩ := str_split hz hz2 h
        have : z = z2 := by
          have e3 : z.cps = z2.cps := Array.ext' e1
          cases z; cases z2; simp_all
        exact ⟨by rw [this], e2⟩
      · obtain ⟨t, et⟩ := ch_tuple_head es
        rw [e, et] at h
        simp only [List.cons_append, List.cons.injEq] at h
        omega
    · refine tup_pf hd fun y hy => ih y ?_ (plainAll_mem hd y hy)
      have := wt_memL hy
      have e : (PyData.tuple ds).weight = PyData.weightAll ds := by simp only [PyData.weight]
      omega
/-- repr tells such data apart -/
theorem shown_one {x y : PyData} (hx : plainD x = true) (hy : plainD y = true) (h : x.shown = y.shown) : x = y :=
  (shown_pf _ x (Nat.lt_succ_self _) hx y hy [] [] (by rw [h])).1
end HX
set_option Elab.async false
set_option linter.all false
set_option maxRecDepth 100000
set_option maxHeartbeats 4400000
namespace HX
open L2 PyProof.Rows PySem.Spec PySem
/-! written data, and what is made of it: with its very data; p and l stand in none of it -/
def D2 (p l : Addr) (H : Hp) (v : V) (d : PyData) : Prop := Dz p H v d ∧ Dz l H v d
theorem D2.ex {p l : Addr} {H H' : Hp} {v : V} {d : PyData} (h : D2 p l H v d) (e : Ex H H') : D2 p l H' v d := ⟨h.1.ex e, h.2.ex e⟩
def Gd (p l : Addr) (H0 : Hp) (σ : L2.St) (te : TE) (d : PyData) : Prop := ∀ (H : Hp) (Q : VK), Ex H0 H → (∀ v H', Ex H H' → D2 p l H' v d → Q v H') → te σ H Q
/-- values with their data, one by one -/
def Vd (p l : Addr) (H : Hp) (xs : List V) (ds : List PyData) : Prop := xs.length = ds.length ∧ ∀ (i : Nat) (v : V) (d : PyData), xs[i]? = some v → ds[i]? = some d → D2 p l H v d
def GdA (p l : Addr) (H0 : Hp) (σ : L2.St) (t : TA) (ds : List PyData) : Prop := ∀ (H : Hp) (Q : List V → Hp → Prop), Ex H0 H → (∀ xs H', Ex H H' → Vd p l H' xs ds → Q xs H') → t σ H Q
/-- a list of such stands at v, apart from p -/
def LsAt (p l : Addr) (H : Hp) (v : V) (ds : List PyData) : Prop := ∃ a xs, v = .ref a ∧ a ≠ p ∧ a ≠ l ∧ H a = some (.lst xs) ∧ Vd p l H xs ds
def GdL (p l : Addr) (H0 : Hp) (σ : L2.St) (te : TE) (ds : List PyData) : Prop := ∀ (H : Hp) (Q : VK), Ex H0 H → (∀ v H', Ex H H' → LsAt p l H' v ds → Q v H') → te σ H Q
theorem Vd.ex {p l : Addr} {H H' : Hp} {xs : List V} {ds : List PyData} (h : Vd p l H xs ds) (e : Ex H H') : Vd p l H' xs ds := ⟨h.1, fun i v d a b => (h.2 i v d a b).ex e⟩
theorem LsAt.ex {p l : Addr} {H H' : Hp} {v : V} {ds : List PyData} (h : LsAt p l H v ds) (e : Ex H H') : LsAt p l H' v ds := let ⟨a, xs, h1, h2, h2', h3, h4⟩ := h; ⟨a, xs, h1, h2, h2', e _ _ h3, h4.ex e⟩
theorem Vd.app {p l : Addr} {H : Hp} {xs ys : List V} {ds es : List PyData} (h : Vd p l H xs ds) (k : Vd p l H ys es) : Vd p l H (xs ++ ys) (ds ++ es) := by
  refine ⟨by rw [List.length_append, List.length_append, h.1, k.1], fun i v d a b => ?_⟩
  by_cases hi : i < xs.length
  · rw [List.getElem?_append_left hi] at a
    rw [List.getElem?_append_left (by rw [← h.1]; exact hi)] at b
    exact h.2 i v d a b
  · rw [List.getElem?_append_right (Nat.le_of_not_lt hi)] at a
    rw [List.getElem?_append_right (by rw [← h.1]; exact Nat.le_of_not_lt hi), ← h.1] at b
    exact k.2 _ v d a b
theorem Vd.mem {p l : Addr} {H : Hp} {xs : List V} {ds : List PyData} (h : Vd p l H xs ds) {i : Nat} {v : V} (hv : xs[i]? = some v) : ∃ d ∈ ds, D2 p l H v d := by
  have hj := (List.getElem?_eq_some_iff.mp hv).1
  have hd : ds[i]? = some (ds[i]'(by rw [← h.1]; exact hj)) := List.getElem?_eq_getElem _
  exact ⟨_, List.getElem_mem _, h.2 i v _ hv hd⟩
theorem Vd.rev {p l : Addr} {H : Hp} {xs : List V} {ds : List PyData} (h : Vd p l H xs ds) : Vd p l H xs.reverse ds.reverse := by
  refine ⟨by rw [List.length_reverse, List.length_reverse, h.1], fun i v d a b => ?_⟩
  have hi : i < xs.length := by have := (List.getElem?_eq_some_iff.mp a).1; rw [List.length_reverse] at this; exact this
  rw [List.getElem?_reverse hi] at a
  rw [List.getElem?_reverse (by rw [← h.1]; exact hi), ← h.1] at b
  exact h.2 _ v d a b
theorem Vd.drop {p l : Addr} {H : Hp} {xs : List V} {ds : List PyData} (h : Vd p l H xs ds) (k : Nat) : Vd p l H (xs.drop k) (ds.drop k) :=
  ⟨by rw [List.length_drop, List.length_drop, h.1], fun i v d a b => by rw [List.getElem?_drop] at a b; exact h.2 _ v d a b⟩
theorem Vd.take {p l : Addr} {H : Hp} {xs : List V} {ds : List PyData} (h : Vd p l H xs ds) (k : Nat) : Vd p l H (xs.take k) (ds.take k) :=
  ⟨by rw [List.length_take, List.length_take, h.1], fun i v d a b => by
    rw [List.getElem?_take] at a b
    by_cases q : i < k
    · rw [if_pos q] at a b; exact h.2 _ v d a b
    · rw [if_neg q] at a; cases a⟩
theorem D2.vd {p l : Addr} {H : Hp} {v : V} {ds : List PyData} (h : D2 p l H v (.tuple ds)) : ∃ a xs, v = .ref a ∧ H a = some (.tup xs) ∧ Vd p l H xs ds := by
  obtain ⟨h1, h2⟩ := h
  cases h1 with
  | tup e1 hl hi =>
    cases h2 with
    | tup e2 hl2 hi2 =>
      rw [e1] at e2
      cases e2
      exact ⟨_, _, rfl, e1, hl, fun i v d a b => ⟨hi i v d a b, hi2 i v d a b⟩⟩
theorem Vd.tup {p l a : Addr} {H : Hp} {xs : List V} {ds : List PyData} (h : Vd p l H xs ds) (ha : H a = some (.tup xs)) : D2 p l H (.ref a) (.tuple ds) := ⟨.tup ha h.1 fun i v d a b => (h.2 i v d a b).1, .tup ha h.1 fun i v d a b => (h.2 i v d a b).2⟩
section
variable {p l : Addr} {H0 : Hp} {σ : L2.St} {K : PySem.W.Frag}
theorem gd_non : Gd p l H0 σ (tC .non) .none := fun H Q _ k => k _ _ (Ex.rf _) ⟨.non, .non⟩
theorem gd_bl (b : Bool) : Gd p l H0 σ (tC (.bl b)) (.bool b) := fun H Q _ k => k _ _ (Ex.rf _) ⟨.bl b, .bl b⟩
theorem gd_int (i : Int) : Gd p l H0 σ (tC (.int i)) (.int i) := fun H Q _ k => k _ _ (Ex.rf _) ⟨.int i, .int i⟩
theorem gd_str (z : Str) : Gd p l H0 σ (tC (.str z)) (.str z) := fun H Q _ k => k _ _ (Ex.rf _) ⟨.str z, .str z⟩
theorem gd_var {i : Nat} {v : V} {d : PyData} (hv : σ[i]? = some (some v)) (hz : D2 p l H0 v d) : Gd p l H0 σ (tVar i) d := fun H Q e k => ⟨v, hv, k v H (Ex.rf _) (hz.ex e)⟩
theorem gda_nil : GdA p l H0 σ tNil [] := fun H Q _ k => k [] H (Ex.rf _) ⟨rfl, fun i v d a _ => by cases a⟩
theorem gda_cons {te : TE} {t : TA} {d : PyData} {ds : List PyData} (h : Gd p l H0 σ te d) (k : GdA p l H0 σ t ds) : GdA p l H0 σ (tCons te t) (d :: ds) := fun H Q e q =>
  h H _ e fun v H1 e1 z => k H1 _ (e.tr e1) fun xs H2 e2 y => q _ _ (e1.tr e2) ⟨by rw [List.length_cons, List.length_cons, y.1], fun i v' d' a b => by
    cases i with
    | zero => cases a; cases b; exact z.ex e2
    | succ n => exact y.2 n v' d' a b⟩
theorem lt_line {n : Nat} (h : n < 1000) : n ≤ sizeLine := Nat.le_of_lt (Nat.lt_of_lt_of_le h (by decide))
theorem gd_tup {t : TA} {ds : List PyData} (h : GdA p l H0 σ t ds) (hn : ds.length < 1000 := by first | decide | (simp; done) | omega) : Gd p l H0 σ (tTup t) (.tuple ds) := fun H Q e k =>
  h H _ e fun xs H1 e1 y => ⟨by rw [y.1]; exact lt_line hn, fun q nq => k _ _ (e1.tr (Ex.nw nq)) ((y.ex (Ex.nw nq)).tup upd_same)⟩
theorem gd_dict : Gd p l H0 σ tDNewK (.dict []) := fun H Q e k q nq => k _ _ (Ex.nw nq) ⟨.dct (ks := []) (ds := []) upd_same rfl (fun i v d a _ => by cases a), .dct (ks := []) (ds := []) upd_same rfl (fun i v d a _ => by cases a)⟩
variable (hp : (∃ o, H0 p = some o) ∧ ∃ o, H0 l = some o)
include hp
theorem ne_p {H : Hp} {q : Addr} (e : Ex H0 H) (nq : H q = none) : q ≠ p ∧ q ≠ l := by
  obtain ⟨⟨o, h⟩, o', h'⟩ := hp
  exact ⟨fun z => (by rw [z, e _ _ h] at nq; cases nq), fun z => (by rw [z, e _ _ h'] at nq; cases nq)⟩
theorem d2_lst {H : Hp} {q : Addr} {xs : List V} {ds : List PyData} (e : Ex H0 H) (nq : H q = none) (ns : q ≠ sysModules) (y : Vd p l H xs ds) : D2 p l (upd H q (.lst xs)) (.ref q) (.list ds) :=
  let ⟨n1, n2⟩ := ne_p hp e nq
  ⟨.lst upd_same ns n1 y.1 fun i v d a b => (y.2 i v d a b).1.ex (Ex.nw nq), .lst upd_same ns n2 y.1 fun i v d a b => (y.2 i v d a b).2.ex (Ex.nw nq)⟩
theorem gd_lst {t : TA} {ds : List PyData} (h : GdA p l H0 σ t ds) (hn : ds.length < 1000 := by first | decide | (simp; done) | omega) : Gd p l H0 σ (tLstN t) (.list ds) := fun H Q e k =>
  h H _ e fun xs H1 e1 y => ⟨by rw [y.1]; exact lt_line hn, fun q nq ns => k _ _ (e1.tr (Ex.nw nq)) (d2_lst hp (e.tr e1) nq ns y)⟩
theorem gdl_lst {t : TA} {ds : List PyData} (h : GdA p l H0 σ t ds) (hn : ds.length < 1000 := by first | decide | (simp; done) | omega) : GdL p l H0 σ (tLstN t) ds := fun H Q e k =>
  h H _ e fun xs H1 e1 y => ⟨by rw [y.1]; exact lt_line hn, fun q nq ns => k _ _ (e1.tr (Ex.nw nq)) ⟨q, xs, rfl, (ne_p hp (e.tr e1) nq).1, (ne_p hp (e.tr e1) nq).2, upd_same, y.ex (Ex.nw nq)⟩⟩
omit hp in
theorem gdl_var {i : Nat} {v : V} {ds : List PyData} (hv : σ[i]? = some (some v)) (hz : LsAt p l H0 v ds) : GdL p l H0 σ (tVar i) ds := fun H Q e k => ⟨v, hv, k v H (Ex.rf _) (hz.ex e)⟩
theorem gdl_cat {te tf : TE} {ds es : List PyData} (h : GdL p l H0 σ te ds) (k : GdL p l H0 σ tf es) (hn : ds.length + es.length < 1000) : GdL p l H0 σ (tOp rCat te tf) (ds ++ es) := fun H Q e q =>
  h H _ e fun v H1 e1 z => k H1 _ (e.tr e1) fun u H2 e2 y => by
    obtain ⟨a, xs, rfl, na, na', ha, va⟩ := z.ex e2
    obtain ⟨b, ys, rfl, nb, nb', hb, vb⟩ := y
    refine ⟨a, b, xs, ys, rfl, rfl, ha, hb, by rw [va.1, vb.1]; exact lt_line hn, fun c nc => q _ _ ((e1.tr e2).tr (Ex.nw nc)) ⟨c, _, rfl, (ne_p hp ((e.tr e1).tr e2) nc).1, (ne_p hp ((e.tr e1).tr e2) nc).2, upd_same, (va.app vb).ex (Ex.nw nc)⟩⟩
theorem gdl_twice {te : TE} {ds : List PyData} (h : GdL p l H0 σ te ds) (hn : ds.length < 400) : GdL p l H0 σ (tOp rRepN te (tC (.int 2))) (ds ++ ds) := fun H Q e q =>
  h H _ e fun v H1 e1 z => by
    obtain ⟨a, xs, rfl, na, na', ha, va⟩ := z
    refine ⟨a, 2, xs, rfl, rfl, ha, by decide, by decide, ?_, fun c nc _ => ?_⟩
    · show xs.length * 2 ≤ sizeLine
      rw [va.1]; exact lt_line (by omega)
    have er : (List.replicate (2 : Int).toNat xs).flatten = xs ++ xs := by
      show (List.replicate 2 xs).flatten = xs ++ xs
      simp [List.replicate]
    rw [er]
    exact q _ _ (e1.tr (Ex.nw nc)) ⟨c, _, rfl, (ne_p hp (e.tr e1) nc).1, (ne_p hp (e.tr e1) nc).2, upd_same, (va.app va).ex (Ex.nw nc)⟩
theorem gd_listof {te : TE} {ds : List PyData} (h : Gd p l H0 σ te (.tuple ds)) : Gd p l H0 σ (tCB (rListN K) (tCons te tNil)) (.list ds) := fun H Q e q =>
  h H _ e fun v H1 e1 z => by
    obtain ⟨a, xs, rfl, ha, va⟩ := z.vd
    exact ⟨a, xs, rfl, .inr (SqT.of ha), fun c nc ns => q _ _ (e1.tr (Ex.nw nc)) (d2_lst hp (e.tr e1) nc ns va)⟩
omit hp
theorem gd_catT {te tf : TE} {ds es : List PyData} (h : Gd p l H0 σ te (.tuple ds)) (k : Gd p l H0 σ tf (.tuple es)) (hn : ds.length + es.length < 1000) : Gd p l H0 σ (tOp (rCatA K) te tf) (.tuple (ds ++ es)) := fun H Q e q =>
  h H _ e fun v H1 e1 z => k H1 _ (e.tr e1) fun u H2 e2 y => by
    obtain ⟨a, xs, rfl, ha, va⟩ := (z.ex e2).vd
    obtain ⟨b, ys, rfl, hb, vb⟩ := y.vd
    refine ⟨a, b, xs, ys, rfl, rfl, SqT.of ha, SqT.of hb, by rw [va.1, vb.1]; exact lt_line hn, fun h0 => q _ _ (e1.tr e2) ?_, fun h0 h1 => q _ _ (e1.tr e2) ?_, fun h0 h1 l nl => q _ _ ((e1.tr e2).tr (Ex.nw nl)) (((va.app vb).ex (Ex.nw nl)).tup upd_same)⟩
    · have : ds = [] := List.eq_nil_of_length_eq_zero (by rw [← va.1, h0]; rfl)
      rw [this]; exact vb.tup hb
    · have : es = [] := List.eq_nil_of_length_eq_zero (by rw [← vb.1, h1]; rfl)
      rw [this, List.append_nil]; exact va.tup ha
/-- the items of a slice -/
def cutD (ds : List PyData) (lo hi : Option Int) : List PyData := (ds.drop (HT.sIx ds.length 0 lo)).take (HT.sIx ds.length ds.length hi - HT.sIx ds.length 0 lo)
theorem cut_sl {H : Hp} {v : V} {ds : List PyData} {lo hi : Option Int} {Q : VK} (z : D2 p l H v (.tuple ds)) (q : ∀ v H', Ex H H' → D2 p l H' v (.tuple (cutD ds lo hi)) → Q v H') : rSlA K v lo hi H Q := by
  obtain ⟨a, xs, rfl, ha, va⟩ := z.vd
  refine ⟨a, xs, rfl, SqT.of ha, fun h => q _ _ (Ex.rf _) ?_, fun h c nc => q _ _ (Ex.nw nc) ?_⟩
  · have : cutD ds lo hi = ds := by
      unfold cutD
      rw [← va.1, h.1, h.2, List.drop_zero, Nat.sub_zero, va.1, List.take_length]
    rw [this]; exact va.tup ha
  · have : Vd p l H (cutV xs lo hi) (cutD ds lo hi) := by
      unfold cutV cutD
      rw [va.1]
      exact (va.drop _).take _
    exact (this.ex (Ex.nw nc)).tup upd_same
theorem gd_upto {te : TE} {ds : List PyData} {k : Int} (h : Gd p l H0 σ te (.tuple ds)) : Gd p l H0 σ (tSl (rSlA K) te tNoPart (tPart (tC (.int k)))) (.tuple (cutD ds none (some k))) := fun H Q e q =>
  h H _ e fun v H1 e1 z => ⟨k, rfl, cut_sl z fun v H' e' z' => q _ _ (e1.tr e') z'⟩
theorem gd_from {te : TE} {ds : List PyData} {k : Int} (h : Gd p l H0 σ te (.tuple ds)) : Gd p l H0 σ (tSl (rSlA K) te (tPart (tC (.int k))) tNoPart) (.tuple (cutD ds (some k) none)) := fun H Q e q =>
  h H _ e fun v H1 e1 z => ⟨k, rfl, cut_sl z fun v H' e' z' => q _ _ (e1.tr e') z'⟩
end
/-! data of a bounded weight -/
structure Pz (n : Nat) (d : PyData) : Prop where
  sh : d.showable = true
  dp : d.depth ≤ 8
  lv : d.leavesShort 24 = true
  wt : d.weight ≤ n
structure PzL (n : Nat) (ds : List PyData) : Prop where
  sh : PyData.showableAll ds = true
  dp : PyData.depthAll ds ≤ 7
  lv : PyData.leavesShortAll 24 ds = true
  wt : PyData.weightAll ds ≤ n
def pzB (n : Nat) (d : PyData) : Bool := d.showable && (decide (d.depth ≤ 8) && (d.leavesShort 24 && decide (d.weight ≤ n)))
theorem pz_by {n : Nat} {d : PyData} (h : pzB n d = true) : Pz n d := by
  unfold pzB at h
  simp only [Bool.and_eq_true, decide_eq_true_eq] at h
  exact ⟨h.1, h.2.1, h.2.2.1, h.2.2.2⟩
theorem Pz.up {n m : Nat} {d : PyData} (h : Pz n d) (e : n ≤ m) : Pz m d := ⟨h.sh, h.dp, h.lv, Nat.le_trans h.wt e⟩
theorem Pz.tup {n : Nat} {ds : List PyData} (h : Pz n (.tuple ds)) : PzL n ds :=
  ⟨by have := h.sh; simpa only [PyData.showable] using this, by have := h.dp; simp only [PyData.depth] at this; omega, by have := h.lv; simpa only [PyData.leavesShort] using this, by have := h.wt; simpa only [PyData.weight] using this⟩
theorem PzL.tup {n : Nat} {ds : List PyData} (h : PzL n ds) : Pz n (.tuple ds) :=
  ⟨by simp only [PyData.showable]; exact h.sh, by simp only [PyData.depth]; have := h.dp; omega, by simp only [PyData.leavesShort]; exact h.lv, by simp only [PyData.weight]; exact h.wt⟩
theorem PzL.lst {n : Nat} {ds : List PyData} (h : PzL n ds) : Pz n (.list ds) :=
  ⟨by simp only [PyData.showable]; exact h.sh, by simp only [PyData.depth]; have := h.dp; omega, by simp only [PyData.leavesShort]; exact h.lv, by simp only [PyData.weight]; exact h.wt⟩
theorem PzL.up {n m : Nat} {ds : List PyData} (h : PzL n ds) (e : n ≤ m) : PzL m ds := ⟨h.sh, h.dp, h.lv, Nat.le_trans h.wt e⟩
theorem pzl_nil (n : Nat) : PzL n [] := ⟨rfl, Nat.zero_le _, rfl, Nat.zero_le _⟩
theorem pzl_cons {n : Nat} {d : PyData} {ds : List PyData} : PzL n (d :: ds) ↔ (d.showable = true ∧ d.depth ≤ 7 ∧ d.leavesShort 24 = true) ∧ ∃ m, PzL m ds ∧ d.weight + 1 + m ≤ n := by
  constructor
  · rintro ⟨h1, h2, h3, h4⟩
    simp only [PyData.showableAll, PyData.depthAll, PyData.leavesShortAll, PyData.weightAll, Bool.and_eq_true] at h1 h2 h3 h4
    exact ⟨⟨h1.1, by omega, h3.1⟩, PyData.weightAll ds, ⟨h1.2, by omega, h3.2, Nat.le_refl _⟩, h4⟩
  · rintro ⟨⟨h1, h2, h3⟩, m, ⟨k1, k2, k3, k4⟩, h4⟩
    refine ⟨?_, ?_, ?_, ?_⟩
    · simp only [PyData.showableAll, h1, k1, Bool.and_self]
    · simp only [PyData.depthAll]; omega
    · simp only [PyData.leavesShortAll, h3, k3, Bool.and_self]
    · simp only [PyData.weightAll]; omega
theorem PzL.app : ∀ {n m : Nat} {ds es : List PyData}, PzL n ds → PzL m es → PzL (n + m) (ds ++ es)
  | n, m, [], es, _, k => k.up (Nat.le_add_left _ _)
  | n, m, d :: ds, es, h, k => by
    obtain ⟨h1, j, h2, h3⟩ := pzl_cons.mp h
    exact pzl_cons.mpr ⟨h1, j + m, h2.app k, by omega⟩
theorem PzL.drop : ∀ {n : Nat} {ds : List PyData} (k : Nat), PzL n ds → PzL n (ds.drop k)
  | n, ds, 0, h => h
  | n, [], k + 1, h => h
  | n, d :: ds, k + 1, h => by
    obtain ⟨h1, j, h2, h3⟩ := pzl_cons.mp h
    exact (h2.drop k).up (by omega)
theorem PzL.take : ∀ {n : Nat} {ds : List PyData} (k : Nat), PzL n ds → PzL n (ds.take k)
  | n, ds, 0, h => pzl_nil _
  | n, [], k + 1, h => h
  | n, d :: ds, k + 1, h => by
    obtain ⟨h1, j, h2, h3⟩ := pzl_cons.mp h
    exact pzl_cons.mpr ⟨h1, j, h2.take k, h3⟩
theorem PzL.rev : ∀ {n : Nat} {ds : List PyData}, PzL n ds → PzL n ds.reverse
  | n, [], h => h
  | n, d :: ds, h => by
    obtain ⟨h1, j, h2, h3⟩ := pzl_cons.mp h
    rw [List.reverse_cons]
    exact (h2.rev.app (pzl_cons.mpr ⟨h1, 0, pzl_nil 0, Nat.le_refl _⟩)).up (by omega)
theorem PzL.cut {n : Nat} {ds : List PyData} (h : PzL n ds) (lo hi : Option Int) : PzL n (cutD ds lo hi) := (h.drop _).take _
theorem PzL.len : ∀ {n : Nat} {ds : List PyData}, PzL n ds → ds.length ≤ n
  | n, [], _ => Nat.zero_le _
  | n, d :: ds, h => by
    obtain ⟨h1, j, h2, h3⟩ := pzl_cons.mp h
    have := h2.len
    rw [List.length_cons]; omega
theorem Pz.wt2 {n m : Nat} {d : PyData} (h : Pz n d) (e : n ≤ m) : Wt m d := Nat.le_trans h.wt e
theorem Pz.fz {n : Nat} {d : PyData} (h : Pz n d) (hn : n ≤ 5000) : d.showable = true ∧ d.depth ≤ 60 ∧ d.shown.length ≤ sizeLine := by
  refine ⟨h.sh, Nat.le_trans h.dp (by decide), ?_⟩
  have a := PyData.shown_le 24 (by decide) d h.lv
  have b := h.wt
  have : (24 + 2) * d.weight + 24 ≤ 26 * 5000 + 24 := by omega
  exact Nat.le_trans a (Nat.le_trans this (by decide))
end HX
set_option Elab.async false
set_option linter.all false
set_option maxRecDepth 100000
set_option maxHeartbeats 4400000
namespace HX
open L2 PyProof.Rows PySem.Spec PySem
section
variable {X : Cx} {CXX : CXT} {kk : Nat} {ff CC : Addr} {fdd : FuncData} {pps : List Str} {spp : Sp} {dws : List V} {dds : List Value} {EE : L2.St → XK} {xx : Str} {q1 q2 : Pos} {ee : Expr} {ees : List Expr} {tt : TA}
/-- C(..), what leaves told with the names' values at the call -/
def tMakeS (C : Addr) (spp : Sp) (dws : List V) (EE : L2.St → XK) (tt : TA) : TE := fun τ G R => tt τ G fun ws G1 => ∀ (x dx : Addr), G1 x = none → G1 dx = none → dx ≠ x →
  spp (.ref x :: (ws ++ dws)) (upd (upd G1 dx (.own x)) x (.ins C dx [])) (fun v G2 => v = .non ∧ R (.ref x) G2) (EE τ)
theorem pe_makeS (M : Mk X.K CC ff) (F : FnOk X.prog X.w X.K X.mg X.base CXX kk ff fdd pps spp) (room : Room (kk + 1) X.A) (gx : Gl X xx) (mx : X.mg xx = some (.ref CC)) (bx : Binds X.K fdd pps dds) (dv : Vals dws dds) (away : ∀ τ, PassesAt CXX X τ (EE τ))
    (args : PA X (ee :: ees) tt) (nd : (xx == ("__debug__" : Str)) = false := by decide) (st : starEach (ee :: ees) X.env = (false, eval ee X.env) :: starEach ees X.env := by rfl) (pl : (backTo q2 (starEach ees X.env)).any (·.1) = false := by rfl) :
    PE X (.Call (.Name xx q1) (ee :: ees) [] q2) (tMakeS CC spp dws EE tt) := ⟨fun pp t0 τ G R J hh => wpAny_Call_Name_kw (ld_glob J gx mx (PySem.W.callWith_K (h₀ := X.base) J.ok.mod.kin M.kp (thn (args.run q2 pp t0 τ G _ J hh) fun us t1 ⟨ws, G1, J1, ru, qu⟩ => ⟨J1.kIn, by
      have new := qu (t1.heap.objs.size + 1) t1.heap.objs.size (J1.hok.fresh (Nat.le_succ _)) (J1.hok.fresh (Nat.le_refl _)) (Nat.ne_of_lt (Nat.lt_succ_self _))
      have J2 := L2.Inv.made (C := CC) J1
      have both : Vals (V.ref (t1.heap.objs.size + 1) :: (ws ++ dws)) (Value.ref (t1.heap.objs.size + 1) :: (us ++ dds)) := .cons rfl (ru.append dv)
      have many := both.length.symm.trans (F.len _ _ _ _ new)
      refine wpAny_call (make_map (f := ff) J1.kIn M.makes M.init (beq_iff_eq.mp M.fn) (codeAny_mono (F.run _ X.stack _ _ ⟨_ :: us, []⟩ _ _ _ (EE τ) (room.make CC us []) (J2.env0.make CC us []) (bx _ (_ :: us) J2.kIn many) both new) fun r t2 got => ?_))
      match r, got with
      | .error e, got => exact away τ pp _ _ e t2 J2 got
      | .ok (.ret u), got =>
        obtain ⟨_, G3, J3, rv, rfl, q3⟩ := J2.after got
        exact ⟨rv, ⟨V.ref (t1.heap.objs.size + 1), G3, J3, rfl, q3⟩⟩
      | .ok .next, got | .ok .brk, got | .ok .cont, got => exact False.elim got⟩) st pl) nd)⟩
end
end HX
set_option Elab.async false
set_option linter.all false
set_option maxRecDepth 100000
set_option maxHeartbeats 4400000
namespace HX
open L2 PyProof.Rows PySem.Spec PySem
/-! lists of plain data: told apart by repr; == says whether they are the same -/
theorem from_ch : ∀ (ts : List Str) (k : Nat) (acc : Str), 0 < k → ts ≠ [] → ch (textFrom k acc ts) = ch acc ++ ([44, 32] ++ ch (Str.join ", " ts))
  | [t], k, acc, hk, _ => by
    show ch (acc ++ (if k > 0 then ", " else "" : String) ++ t) = ch acc ++ ([44, 32] ++ ch t)
    rw [if_pos hk, ch_app, ch_app]
    have : ch (((", " : String) : Str)) = [44, 32] := by decide +kernel
    rw [this, List.append_assoc]
  | t :: u :: r, k, acc, hk, _ => by
    show ch (textFrom (k + 1) (acc ++ (if k > 0 then ", " else "" : String) ++ t) (u :: r)) = ch acc ++ ([44, 32] ++ ch (t ++ ", " ++ Str.join ", " (u :: r)))
    rw [from_ch (u :: r) (k + 1) _ (Nat.succ_pos _) (by simp), if_pos hk]
    have : ch (((", " : String) : Str)) = [44, 32] := by decide +kernel
    rw [ch_app, ch_app, ch_app, ch_app, this]
    simp only [List.append_assoc]
theorem ch_list (x y : PyData) (r : List PyData) : ch (PyData.list (x :: y :: r)).shown = 91 :: (ch (Str.join ", " (PyData.shownAll (x :: y :: r))) ++ [93]) := by
  show ch (textFrom 1 (("[" : Str) ++ (("" : String) : Str) ++ x.shown) (PyData.shownAll (y :: r)) ++ "]") = _
  rw [ch_app, from_ch _ 1 _ (by decide) (by show PyData.shown y :: PyData.shownAll r ≠ []; simp), ch_app, ch_app]
  show _ = 91 :: (ch (x.shown ++ ", " ++ Str.join ", " (PyData.shownAll (y :: r))) ++ [93])
  rw [ch_app, ch_app]
  have e1 : ch (((", " : String) : Str)) = [44, 32] := by decide +kernel
  have e2 : ch (("[" : Str)) = [91] := by decide +kernel
  have e3 : ch ((("" : String) : Str)) = [] := by decide +kernel
  have e4 : ch (("]" : Str)) = [93] := by decide +kernel
  rw [e1, e2, e3, e4]
  simp
theorem list_one {x y x2 y2 : PyData} {r s : List PyData} (h1 : plainAll (x :: y :: r) = true) (h2 : plainAll (x2 :: y2 :: s) = true) (h : (PyData.list (x :: y :: r)).shown = (PyData.list (x2 :: y2 :: s)).shown) : x :: y :: r = x2 :: y2 :: s := by
  have q : ch (PyData.list (x :: y :: r)).shown = ch (PyData.list (x2 :: y2 :: s)).shown := by rw [h]
  rw [ch_list, ch_list] at q
  simp only [List.cons.injEq, true_and] at q
  have q2 := List.append_cancel_right q
  refine (bt_pf (r1 := []) (r2 := []) (by simp) (by simp) (fun z hz => shown_pf _ z (Nat.lt_succ_self _) (plainAll_mem h1 z hz)) h2 ?_).1
  rw [← ch_join, ← ch_join, q2]
theorem plainAll_of : ∀ {ds : List PyData}, (∀ d ∈ ds, plainD d = true) → plainAll ds = true
  | [], _ => rfl
  | d :: r, h => Bool.and_eq_true_iff.mpr ⟨h d (.head _), plainAll_of fun x hx => h x (.tail _ hx)⟩
mutual
theorem eqv_plain : ∀ (d e : PyData), plainD d = true → plainD e = true → (PyData.eqv d e = true ↔ d = e)
  | .int i, .int j, _, _ => by simp [PyData.eqv]
  | .int i, .str z, _, _ => by simp [PyData.eqv]
  | .int i, .tuple es, _, _ => by simp [PyData.eqv]
  | .str z, .int j, _, _ => by simp [PyData.eqv]
  | .str z, .str y, _, _ => by simp [PyData.eqv]
  | .str z, .tuple es, _, _ => by simp [PyData.eqv]
  | .tuple ds, .int j, _, _ => by simp [PyData.eqv]
  | .tuple ds, .str y, _, _ => by simp [PyData.eqv]
  | .tuple ds, .tuple es, h1, h2 => by
    have := eqvAll_plain ds es h1 h2
    simp only [PyData.eqv, PyData.tuple.injEq]
    exact this
theorem eqvAll_plain : ∀ (ds es : List PyData), plainAll ds = true → plainAll es = true → (PyData.eqvAll ds es = true ↔ ds = es)
  | [], [], _, _ => by simp [PyData.eqvAll]
  | [], e :: es, _, _ => by simp [PyData.eqvAll]
  | d :: ds, [], _, _ => by simp [PyData.eqvAll]
  | d :: ds, e :: es, h1, h2 => by
    obtain ⟨a1, a2⟩ := Bool.and_eq_true_iff.mp (show (plainD d && plainAll ds) = true from h1)
    obtain ⟨b1, b2⟩ := Bool.and_eq_true_iff.mp (show (plainD e && plainAll es) = true from h2)
    have q1 := eqv_plain d e a1 b1
    have q2 := eqvAll_plain ds es a2 b2
    simp only [PyData.eqvAll, Bool.and_eq_true, List.cons.injEq, q1, q2]
end
theorem letters_ok {z : Str} (h : letters z = true) : PyData.strOk z = true := by
  unfold PyData.strOk
  rw [Array.all_eq_true_iff_forall_mem]
  intro c hc
  have q := List.all_eq_true.mp h c (by simpa using hc)
  simp only [Bool.and_eq_true, decide_eq_true_eq] at q
  simp
  omega
mutual
theorem canLay_plain : ∀ (d : PyData), plainD d = true → d.canLay0 = true
  | .int i, _ => rfl
  | .str z, h => by simp only [PyData.canLay0]; exact letters_ok h
  | .tuple ds, h => by simp only [PyData.canLay0]; exact canLayAll_plain ds h
theorem canLayAll_plain : ∀ (ds : List PyData), plainAll ds = true → PyData.canLayAll0 ds = true
  | [], _ => rfl
  | d :: ds, h => by
    obtain ⟨a1, a2⟩ := Bool.and_eq_true_iff.mp (show (plainD d && plainAll ds) = true from h)
    simp only [PyData.canLayAll0, canLay_plain d a1, canLayAll_plain ds a2, Bool.and_self]
end
theorem shaped_plain {n : Nat} {d : PyData} (h : plainD d = true) (k : Pz n d) : SeqAt.shaped d = true := by
  unfold SeqAt.shaped
  rw [canLay_plain d h, Bool.true_and]
  exact decide_eq_true (Nat.le_trans k.dp (by decide))
end HX
set_option Elab.async false
set_option linter.all false
set_option maxRecDepth 100000
set_option maxHeartbeats 4400000
namespace HX
open L2 PyProof.Rows PySem.Spec PySem
open PySem.W (Frag)
/-! ### any data beside texts: in, not in; tuples of the very same things -/
section
open PySem.SeqAt
open AutoSeq1 (wpAny_loadPart')
open MeetsSeq
section
variable {A : Around} {E : Value → Shared → Prop} {s : Shared} {prog : Program} {w : World}
theorem dict_decl {l : Addr} {o : Obj} {b : Str} {u : Tok} {Q : Value → Shared → Prop} (hl : s.heap.get? l = some o) (hc : o.cls = .type "dict") (h : Q .notImplemented s) : wpAny (model prog w) A (call (.builtin "dict.__eq__") [.ref l, .str b u]) Q E s := by
  have ti : s.TypeIs (.ref l) "dict" := ⟨_, hl, hc⟩
  refine wpAny_call_entry PySem.F.slot_dict_eq ti PySem.F.entry_dict_eq ?_ (PySem.F.args_dict_eq_2 _ _)
  show wpAny _ _ (Builtin.Dict.dictSlotArgs "__eq__" ⟨[.ref l, .str b u], []⟩ >>= _) _ _ s
  refine wpAny_bind ?_
  unfold Builtin.Dict.dictSlotArgs
  refine wpAny_bind (wpAny_notOrdered_dict ti ?_)
  show wpAny _ _ (pure (Value.ref l, Value.str b u)) _ _ s
  refine wpAny_pure ?_
  refine wpAny_bind (wpAny_isInstance (T := "str") (typeIs_str s b u) PySem.F.sub_str_dict ?_)
  simp only [Bool.not_false, if_true]
  refine wpAny_bind (wpAny_rule ?_)
  refine wpAny_bind (wpAny_pure ?_)
  exact wpAny_pure ⟨_, rfl, h⟩
theorem str_eq_declines_dict (b : Str) (u : Tok) (l : Addr) (es : Array DictEntry) (n : Nat) (dd : Option Addr) (sl : Array (Option Value)) :
    Meets (Builtin.«str.__eq__» ⟨[.str b u, .ref l], []⟩) (fun _ R s => s.heap.get? l = some { cls := .type "dict", dict := dd, data := .dict es n, slots := sl } ∧ R (.ok (.ret .notImplemented)) s) :=
  .of_wp fun prog w A R s h => by obtain ⟨hp, g, d, tk, os⟩ := s; obtain ⟨hl, h⟩ := h; wp_walk using wpAny_loadPart' hl, wpAny_load hl; exact ⟨_, rfl, h⟩
theorem RcAt.str_dict {l : Addr} {o : Obj} {es : Array DictEntry} {n : Nat} (b : Str) (u : Tok) (hl : s.heap.get? l = some o) (hc : o.cls = .type "dict") (hd : o.data = .dict es n) (hu : A.units < cLine) : RcAt A s (.str b u) (.ref l) false := fun prog w E Q h => by
  obtain ⟨cls, dd, data, sl⟩ := o
  simp only at hc hd
  subst hc hd
  exact rc_eq_decline_or (k := false) (typeIs_str s b u) ⟨_, hl, rfl⟩ (by decide) F.sub_dict_str F.slot_str_eq F.slot_dict_eq_refl
    (fun _ hq => call_meets F.slot_str_eq (typeIs_str s b u) F.entry_str_eq (F.args_str_eq_2 _ _) (str_eq_declines_dict b u l es n dd sl) ⟨hl, hq⟩)
    (fun _ hq => dict_decl hl rfl hq)
    (fun _ hq => wpAny_of_eq (rfl : isSame (.str b u) (.ref l) = pure false) hq) (.inr hu) h
theorem EqAt.str_dict {l : Addr} {o : Obj} {es : Array DictEntry} {n : Nat} (b : Str) (u : Tok) (hl : s.heap.get? l = some o) (hc : o.cls = .type "dict") (hd : o.data = .dict es n) (hu : A.units < cLine) : EqAt A s (.str b u) (.ref l) false := fun prog w E Q h => by
  unfold eqBool
  refine wpAny_holding ?_
  refine wpAny_ite_split (fun hab => absurd (eq_of_beq hab) nofun) (fun _ => ?_)
  exact wpAny_bind (RcAt.str_dict b u hl hc hd hu prog w E _ (wpAny_truthy_bool h))
end
section
variable {X : Cx} {pins : List (Addr × Obj)} {σ : L2.St} {H : Hp} {s : Shared}
def hasD (d : PyData) (ss : List Str) : Bool := match d with | .str z => decide (z ∈ ss) | _ => false
def eqZ (d : PyData) (y : Value) : Bool := match d, y with | .str z, .str b _ => b == z | _, _ => false
theorem eqAt_z {A : Around} {p : Addr} {x : V} {v : Value} {d : PyData} {b : Str} {t : Tok} (I : Inv X pins σ H s) (h : Dz p H x d) (r : RelV x v) (hu : A.units < cLine) : EqAt A s (.str b t) v (eqZ d (.str b t)) := by
  cases h with
  | non => cases (show v = .none from r); exact EqAt.str_none b t
  | bl c => cases (show v = .bool c from r); exact EqAt.str_bool b t c
  | int i => obtain ⟨u, rfl⟩ := (show ∃ u, v = .int i u from r); exact EqAt.str_int b t i u
  | str z => obtain ⟨u, rfl⟩ := (show ∃ u, v = .str z u from r); exact EqAt.str_str b t z u
  | lst hs _ _ _ _ =>
    cases (show v = .ref _ from r)
    obtain ⟨its, rv, pl, _⟩ := I.list (SqL.of hs)
    exact EqAt.str_list b t pl.isList hu
  | tup hs _ _ =>
    cases (show v = .ref _ from r)
    obtain ⟨its, rv, pl, _⟩ := I.tuple (SqT.of hs)
    exact EqAt.str_tuple b t pl hu
  | dct hs _ _ =>
    cases (show v = .ref _ from r)
    obtain ⟨_, na, vs, kv, o, es, ep, ho, hc, hd, _, hp, _⟩ := dk_of I.hok hs
    exact EqAt.str_dict b t ho hc.1 hd hu
theorem any_z {d : PyData} : ∀ {ss : List Str} {us : List Value}, Vals (ss.map V.str) us → us.any (eqZ d) = hasD d ss
  | [], us, h => by cases h; cases d <;> rfl
  | z :: ss, us, h => by
    cases h with
    | cons r1 r2 =>
      obtain ⟨t, rfl⟩ := (show ∃ t, _ = Value.str z t from r1)
      rw [List.any_cons, any_z r2]
      cases d with
      | str y =>
        show ((z == y) || decide (y ∈ ss)) = decide (y ∈ z :: ss)
        by_cases e : z = y
        · subst e; simp
        · have e2 : ¬ y = z := fun q => e q.symm
          simp [e, e2]
      | _ => rfl
/-- any data not in a tuple of texts -/
def rNiZ (K : Frag) : R2 := fun x y H Q => ∃ (p : Addr) (d : PyData) (a : Addr) (ss : List Str), Dz p H x d ∧ y = .ref a ∧ SqT K H a (ss.map V.str) ∧ Q (.bl (!(hasD d ss))) H
theorem op_notInZ (hu : X.A.units + 64 < cLine) : OpR X (compareOp .NotIn) (rNiZ X.K) := by
  intro pins s σ H x y v u; intro Q I rx ry h
  obtain ⟨p, d, a, ss, hz, rfl, hq, q⟩ := h
  cases (show u = .ref a from ry)
  obtain ⟨its, r, pl, _⟩ := I.tuple hq
  refine SeqAt.notIn_tupleAt (eqZ d) pl (fun w hw => ?_) ⟨.bl _, H, I, rfl, ?_⟩
  · obtain ⟨i, hi⟩ := List.getElem?_of_mem (show w ∈ its by simpa using hw)
    obtain ⟨x2, hx2⟩ : ∃ x2, (ss.map V.str)[i]? = some x2 := ⟨_, List.getElem?_eq_getElem (by have := (List.getElem?_eq_some_iff.mp hi).1; rw [r.length]; exact this)⟩
    obtain ⟨u', hu', ru⟩ := r.get hx2
    rw [hi] at hu'
    cases hu'
    rw [List.getElem?_map] at hx2
    cases e : ss[i]? with
    | none => rw [e] at hx2; cases hx2
    | some z =>
      rw [e] at hx2
      cases hx2
      obtain ⟨t, rfl⟩ := (show ∃ t, w = Value.str z t from ru)
      exact eqAt_z I hz rx (by show X.A.in1.units < cLine; have : X.A.in1.units ≤ X.A.units + 1 := Nat.le_refl _; omega)
  · rw [show its.toArray.any (eqZ d) = its.any (eqZ d) by simp, any_z r]
    exact q
/-- values that are one and the same in two tuples -/
theorem eqAt_sameV {A : Around} {x : V} {v u : Value} (hx : flatV x = true ∨ ∃ a, x = .ref a) (r : RelV x v) (r2 : RelV x u) : EqAt A s v u true := by
  rcases hx with hx | ⟨a, rfl⟩
  · cases x with
    | non => cases (show v = .none from r); cases (show u = .none from r2); exact EqAt.same _
    | bl c => cases (show v = .bool c from r); cases (show u = .bool c from r2); exact EqAt.same _
    | int i => obtain ⟨t, rfl⟩ := (show ∃ t, v = .int i t from r); obtain ⟨t2, rfl⟩ := (show ∃ t, u = .int i t from r2); exact cast (by rw [beq_self_eq_true]) (EqAt.int_int (A := A) (s := s) i t i t2)
    | str i => obtain ⟨t, rfl⟩ := (show ∃ t, v = .str i t from r); obtain ⟨t2, rfl⟩ := (show ∃ t, u = .str i t from r2); exact cast (by rw [beq_self_eq_true]) (EqAt.str_str (A := A) (s := s) i t i t2)
    | _ => cases hx
  · cases (show v = .ref a from r); cases (show u = .ref a from r2); exact EqAt.same _
def sameOk (x : V) : Prop := flatV x = true ∨ ∃ a, x = .ref a
/-- (t,) != (u,), t and u tuples of the very same things -/
def rNeSame : R2 := fun x y H Q => ∃ (a b c d : Addr) (xs : List V), x = .ref a ∧ y = .ref b ∧ H a = some (.tup [.ref c]) ∧ H b = some (.tup [.ref d]) ∧ H c = some (.tup xs) ∧ H d = some (.tup xs) ∧ (∀ v ∈ xs, sameOk v) ∧ Q (.bl false) H
theorem all_true {n : Nat} {e : Nat → Bool} (h : ∀ i, i < n → e i = true) : (List.range n).all e = true := List.all_eq_true.mpr fun i hi => h i (List.mem_range.mp hi)
theorem op_neSame (hu : X.A.units + 64 < cLine) : OpR X (compareOp .NotEq) rNeSame := by
  intro pins s σ H x y v u; intro Q I rx ry h
  obtain ⟨a, b, c, d, xs, rfl, rfl, ha, hb, hc, hd, hx, q⟩ := h
  cases (show v = .ref a from rx)
  cases (show u = .ref b from ry)
  obtain ⟨i1, r1, p1, _⟩ := I.tuple (SqT.of (K := X.K) ha)
  obtain ⟨i2, r2, p2, _⟩ := I.tuple (SqT.of (K := X.K) hb)
  obtain ⟨i3, r3, p3, _⟩ := I.tuple (SqT.of (K := X.K) hc)
  obtain ⟨i4, r4, p4, _⟩ := I.tuple (SqT.of (K := X.K) hd)
  have inner : EqAt X.A.in1 s (.ref c) (.ref d) true := by
    by_cases e : c = d
    · subst e; exact EqAt.same _
    · have u1 : X.A.in1.units < cLine := by have : X.A.in1.units ≤ X.A.units + 1 := Nat.le_refl _; omega
      have k := RcAt.tuples (e := fun _ => true) p3 p4 u1 (fun j h1 h2 => by
        have j1 : j < i3.length := by simpa using h1
        have j2 : j < i4.length := by simpa using h2
        have jx : j < xs.length := by rw [r3.length]; exact j1
        have ex : xs[j]? = some xs[j] := List.getElem?_eq_getElem jx
        obtain ⟨w1, hw1, q1⟩ := r3.get ex
        obtain ⟨w2, hw2, q2⟩ := r4.get ex
        rw [List.getElem?_eq_getElem j1] at hw1
        rw [List.getElem?_eq_getElem j2] at hw2
        have e1 : i3.toArray[j] = w1 := by simpa using hw1
        have e2 : i4.toArray[j] = w2 := by simpa using hw2
        rw [e1, e2]
        exact eqAt_sameV (hx _ (List.getElem_mem jx)) q1 q2)
      have sz : i3.toArray.size = i4.toArray.size := by rw [List.size_toArray, List.size_toArray, ← r3.length, ← r4.length]
      have kk : ((List.range (min i3.toArray.size i4.toArray.size)).all (fun _ => true) && i3.toArray.size == i4.toArray.size) = true := by
        rw [all_true fun _ _ => rfl, sz, beq_self_eq_true]; rfl
      rw [kk] at k
      exact EqAt.of_refs e k
  match r1, r2 with
  | .cons q1 .nil, .cons q2 .nil =>
    rename_i w1 w2
    cases (show w1 = .ref c from q1)
    cases (show w2 = .ref d from q2)
    refine RcNeAt.tuples (e := fun _ => true) p1 p2 (by omega) (fun j h1 h2 => ?_) X.prog X.w _ _ ?_
    · have j0 : j = 0 := by
        have : j < 1 := by simpa using h1
        omega
      subst j0
      exact inner
    · exact ⟨.bl false, H, I, rfl, q⟩
end
end
end HX
set_option Elab.async false
set_option linter.all false
set_option maxRecDepth 100000
set_option maxHeartbeats 4400000
namespace HX
open L2 PyProof.Rows PySem.Spec PySem
open PySem.W (Frag)
/-! ### own == and != beside None and texts too -/
section
variable {X : Cx}
def eqSideW (K : Frag) (C : Addr) (H : Hp) (y : V) : Prop := eqSide K C H y ∨ (y = .non ∧ PySem.W.notFirst K C (.type "NoneType") = true) ∨ ((∃ z, y = .str z) ∧ PySem.W.notFirst K C (.type "str") = true)
def rEqW (K : Frag) (C : Addr) (sp : Sp) (E : XK) : R2 := fun x y H Q => isI C H x ∧ eqSideW K C H y ∧ sp [x, y] H Q E
def rNeW (K : Frag) (C : Addr) (sp : Sp) (E : XK) : R2 := fun x y H Q => isI C H x ∧ eqSideW K C H y ∧ sp [x, y] H (fun v H' => ∃ b, v = .bl b ∧ Q (.bl (!b)) H') E
theorem side_looksW {pins : List (Addr × Obj)} {σ : L2.St} {H : Hp} {s : Shared} {C f : Addr} {y : V} {u : Value} (I : Inv X pins σ H s) (T : EqC X.K C f) (h : eqSideW X.K C H y) (ry : RelV y u) : ∃ tb, PySem.W.Looks (model X.prog X.w) s.heap (typeOf u) tb ∧ PySem.W.notFirst X.K C tb = true := by
  rcases h with h | ⟨rfl, h⟩ | ⟨⟨z, rfl⟩, h⟩
  · exact side_looks I T h ry
  · cases (show u = .none from ry)
    exact ⟨_, fun A Q E s k q => wpAny_typeOf (show s.TypeIs .none "NoneType" from rfl) q, h⟩
  · obtain ⟨t, rfl⟩ := (show ∃ t, u = Value.str z t from ry)
    exact ⟨_, fun A Q E s k q => wpAny_typeOf (typeIs_str s z t) q, h⟩
theorem op_eqW {CX : CXT} {C f : Addr} {k : Nat} {fd : FuncData} {ps : List Str} {sp : Sp} {E : XK} (T : EqC X.K C f) (F1 : FnOk X.prog X.w X.K X.mg X.base CX k f fd ps sp) (b1 : Binds X.K fd ps []) (hr : Room k X.A) (hx : Passes CX X E) : OpR X (compareOp .Eq) (rEqW X.K C sp E) := by
  intro pins s σ H x y v u; intro Q I rx ry h
  obtain ⟨m, hF⟩ := I.fr
  have hu := hr.units0
  obtain ⟨⟨a, dx, fs, rfl, ea⟩, hy, q⟩ := h
  obtain ⟨od, J⟩ := isI_inst I ea
  cases (id rx : v = Value.ref a)
  obtain ⟨tb, hb, hn⟩ := side_looksW I T hy ry
  unfold compareOp
  exact PySem.W.cmp_K (op := .Eq) hu hF I.ok.mod.kin J hb hn T.hs T.hf (thn (run_fn (us := [.ref a, u]) (vs := [.ref a, y]) F1 hr b1 .nil hx I (.cons rfl (.cons ry .nil)) q) fun u s' z => ep_back z)
theorem op_neW {CX : CXT} {C f : Addr} {k : Nat} {fd : FuncData} {ps : List Str} {sp : Sp} {E : XK} (T : EqC X.K C f) (F1 : FnOk X.prog X.w X.K X.mg X.base CX k f fd ps sp) (b1 : Binds X.K fd ps []) (hr : Room (k + 1) X.A) (hx : Passes CX X E) : OpR X (compareOp .NotEq) (rNeW X.K C sp E) := by
  intro pins s σ H x y v u; intro Q I rx ry h
  have hu : X.A.units + 1 < cLine := hu_of hr
  obtain ⟨⟨a, dx, fs, rfl, ea⟩, hy, q⟩ := h
  obtain ⟨od, J⟩ := isI_inst I ea
  cases (id rx : v = Value.ref a)
  obtain ⟨tb, hb, hn⟩ := side_looksW I T hy ry
  unfold compareOp
  refine cmpNe_K hu I.kIn J hb hn T.hm T.hne T.hs T.hf (thn (run_fn1 (us := [.ref a, u]) (vs := [.ref a, y]) F1 hr b1 hx I (.cons rfl (.cons ry .nil)) q) fun u s' z => ?_)
  obtain ⟨v, H', I', r, c, rfl, hq⟩ := z
  cases r
  exact ⟨c, rfl, .bl (!c), H', I', rfl, hq⟩
end
end HX
set_option Elab.async false
set_option linter.all false
set_option maxRecDepth 100000
set_option maxHeartbeats 4400000
namespace HX
open L2 PyProof.Rows PySem.Spec PySem
open PySem.W (Frag)
/-! ### tuple(text) -/
section
variable {X : Cx}
def signsV (z : Str) : List V := z.cps.toList.map fun c => V.str ⟨#[c]⟩
theorem signs_vals {z : Str} {acc : Array Value} (h : ItemsOf (SignAt z) acc z.cps.size) : Vals (signsV z) acc.toList := by
  have gen : ∀ (cs : List Nat) (us : List Value), cs.length = us.length → (∀ (i : Nat) (c : Nat) (u : Value), cs[i]? = some c → us[i]? = some u → ∃ t, u = .str ⟨#[c]⟩ t) → Vals (cs.map fun c => V.str ⟨#[c]⟩) us := by
    intro cs
    induction cs with
    | nil => intro us hl _; cases us with
      | nil => exact .nil
      | cons u us => simp at hl
    | cons c cs ih => intro us hl hi; cases us with
      | nil => simp at hl
      | cons u us => exact .cons (hi 0 c u rfl rfl) (ih us (by simpa using hl) fun i c u a b => hi (i + 1) c u (by simpa using a) (by simpa using b))
  refine gen _ _ (by rw [Array.length_toList, Array.length_toList]; exact h.1.symm) fun i c u h1 h2 => ?_
  obtain ⟨c2, t, e1, e2⟩ := h.2 i u (by rw [← Array.getElem?_toList]; exact h2)
  rw [Array.getElem?_toList] at h1
  rw [h1] at e1
  cases e1
  exact ⟨t, e2⟩
def rTupS : List V → Hp → VK → Prop := fun xs H Q => ∃ z : Str, xs = [.str z] ∧ z.cps.size ≤ sizeLine ∧ ∀ l, H l = none → Q (.ref l) (upd H l (.tup (signsV z)))
theorem call_tupS (hc : X.calm = true) : CallR X (.type "tuple") rTupS := by
  intro pins s σ H xs us; intro Q I r h
  obtain ⟨z, rfl, hz, q⟩ := h
  obtain ⟨u, rfl, t, rfl⟩ := vals1 r
  refine call_tuple_str (hsz := hz) (I.ok.hd hc) z t fun h' tk acc kp ha => ?_
  have I1 : Inv X pins σ H { s with heap := h', toks := tk } := I.kept (t' := tk) kp
  have I2 : Inv X pins σ (upd H h'.objs.size (.tup (signsV z))) { s with heap := h'.push { cls := .type "tuple", data := .seq acc }, toks := tk } :=
    I1.laid (t' := tk) (fun b o e => Heap.get?_push_of_some _ e) (Nat.le_refl _) (show ObjOk X.prog X.w _ _ _ (.tup (signsV z)) from ⟨by unfold signsV; rw [List.length_map, Array.length_toList]; exact hz, acc.toList, signs_vals ha, IsTup.new _ _⟩)
  exact ⟨.ref h'.objs.size, _, I2, rfl, q _ (I1.hok.fresh (Nat.le_refl _))⟩
end
end HX
set_option Elab.async false
set_option linter.all false
set_option maxRecDepth 100000
set_option maxHeartbeats 4400000
namespace HX
open L2 PyProof.Rows PySem.Spec PySem
open PySem.W (Frag)
/-! ### a def with a default () and keyword-only ones known = False, held = True, own = (), in the head of facts -/
def knilB (K : Frag) (a : Addr) : Bool := match K.lookup a with
  | some ⟨c, _, .seq its _, _⟩ => decide (c = .type "tuple") && its.isEmpty
  | _ => false
def dfB (K : Frag) (v : Value) : Bool := match v with
  | .ref T => (match K.lookup T with
    | some ⟨_, _, .seq its _, _⟩ => (match its.toList with
      | [.ref a] => knilB K a
      | _ => false)
    | _ => false)
  | _ => false
def kdB (K : Frag) (v : Value) : Bool := match v with
  | .ref D => He.eqO (PySem.W.nsIn K D "known") (some (some (.bool false))) && (He.eqO (PySem.W.nsIn K D "held") (some (some (.bool true))) && (match PySem.W.nsIn K D "own" with
    | some (some (.ref b)) => knilB K b
    | _ => false))
  | _ => false
def kwB (K : Frag) (f : Addr) : Bool := match K.lookup f with
  | some ⟨_, _, .func fd, _⟩ => dfB K fd.defaults && kdB K fd.kwdefaults
  | _ => false
theorem knil_ok {K : Frag} {a : Addr} (c : knilB K a = true) : ∃ (o : Obj) (n : Nat), K.lookup a = some o ∧ o.cls = .type "tuple" ∧ o.data = .seq #[] n := by
  unfold knilB at c
  cases q : K.lookup a with
  | none => rw [q] at c; cases c
  | some o =>
    obtain ⟨oc, od, dt, osl⟩ := o
    rw [q] at c
    cases dt with
    | seq its n =>
      obtain ⟨c1, c2⟩ := Bool.and_eq_true_iff.mp c
      have e : its = #[] := Array.isEmpty_iff.mp c2
      subst e
      exact ⟨_, n, rfl, of_decide_eq_true c1, rfl⟩
    | _ => cases c
theorem df_ok {K : Frag} {v : Value} (c : dfB K v = true) : ∃ a, DflV K v [.ref a] ∧ knilB K a = true := by
  unfold dfB at c
  cases v with
  | ref T =>
    dsimp only at c
    cases q : K.lookup T with
    | none => rw [q] at c; cases c
    | some o =>
      obtain ⟨oc, od, dt, osl⟩ := o
      rw [q] at c
      cases dt with
      | seq its n =>
        obtain ⟨l⟩ := its
        match l, c with
        | [.ref a], c => exact ⟨a, .inr ⟨by simp, T, _, [.ref a], n, rfl, q, rfl, .cons rfl .nil⟩, c⟩
      | _ => cases c
  | _ => cases c
theorem kd_ok {K : Frag} {v : Value} (c : kdB K v = true) : ∃ b, KwdV K v [("known", .bl false), ("held", .bl true), ("own", .ref b)] ∧ knilB K b = true := by
  unfold kdB at c
  cases v with
  | ref D =>
    dsimp only at c
    obtain ⟨c1, c2⟩ := Bool.and_eq_true_iff.mp c
    obtain ⟨c2, c3⟩ := Bool.and_eq_true_iff.mp c2
    cases q : PySem.W.nsIn K D "own" with
    | none => rw [q] at c3; cases c3
    | some o =>
      rw [q] at c3
      cases o with
      | none => cases c3
      | some u =>
        cases u with
        | ref b =>
          refine ⟨b, .inr ⟨D, rfl, fun p hp => ?_⟩, c3⟩
          simp only [List.mem_cons, List.not_mem_nil, or_false] at hp
          rcases hp with rfl | rfl | rfl
          · exact ⟨_, He.eqO_ok c1, rfl⟩
          · exact ⟨_, He.eqO_ok c2, rfl⟩
          · exact ⟨_, q, rfl⟩
        | _ => cases c3
  | _ => cases c
theorem kw_fun {K : Frag} {x qual : Str} {params : Arguments} {body : List Stmt} {scope : Scope} {v : V} {f : Addr} {fd : FuncData} (F : FunD K x qual params body scope [v] [] f fd) (c : kwB K f = true) :
    ∃ a b, FunD K x qual params body scope [.ref a] [("known", .bl false), ("held", .bl true), ("own", .ref b)] f fd ∧ (∃ (o : Obj) (n : Nat), K.lookup a = some o ∧ o.cls = .type "tuple" ∧ o.data = .seq #[] n) ∧ ∃ (o : Obj) (n : Nat), K.lookup b = some o ∧ o.cls = .type "tuple" ∧ o.data = .seq #[] n := by
  obtain ⟨oc, od, dV, kV, doc, pm, an, cdv, ct, osl, rfl, lk, hcd, hD, hK⟩ := F.ex
  unfold kwB at c
  rw [lk] at c
  obtain ⟨c1, c2⟩ := Bool.and_eq_true_iff.mp c
  obtain ⟨a, h1, n1⟩ := df_ok (v := dV) c1
  obtain ⟨b, h2, n2⟩ := kd_ok (v := kV) c2
  exact ⟨a, b, ⟨⟨oc, od, dV, kV, doc, pm, an, cdv, ct, osl, rfl, lk, hcd, h1, h2⟩, F.kp⟩, knil_ok n1, knil_ok n2⟩
/-! the same hook (HX25's hookY), which also knows what the tuples hold that the path leads to -/
def itemsG (g : Addr → Option Obj) (as : List Addr) : List Addr := as.flatMap fun a => match g a with
  | some o => (match o.data with
    | .seq its _ => its.toList.flatMap He.refV
    | _ => [])
  | none => []
def obsZ (n : Nat) (ex : Frag → Bool) (fn fd : List DX) (g : Addr → Option Obj) : He.AlD :=
  let as := pathG g n [mainGlobals]
  let K := He.frG g (as ++ itemsG g as)
  (ex K && (fn.all (fun d => d.ok K) && fd.all fun d => d.ok2 K), (fn ++ fd).map fun d => fnX K (d.at_ K))
def hookZ (n : Nat) (ex : Frag → Bool) (fn fd : List DX) : PySem.W.Hook where
  α := He.AlD
  obs := fun s => obsZ n ex fn fd s.heap.get?
  val := fun _ => valY fn fd
  says := fun _ h => ∃ K : Frag, K.In h ∧ SaysY ex fn fd K
  of := fun _ _ e => ⟨_, He.frG_in, e⟩
  keeps := fun _ _ _ ⟨K, a, c⟩ k => ⟨K, PySem.W.Frag.In.keeps a k, c⟩
def obTZ (n : Nat) (ex : Frag → Bool) (fn fd : List DX) (s : PySem.W.SharedT) : He.AlD := obsZ n ex fn fd (HandSHeadRun.getT s)
theorem obTZ_eq {n : Nat} {ex : Frag → Bool} {fn fd : List DX} (s : PySem.W.SharedT) : obTZ n ex fn fd s = (hookZ n ex fn fd).obs s.abs := by
  have e : HandSHeadRun.getT s = s.abs.heap.get? := funext (HandSHeadRun.getT_eq s)
  unfold obTZ; rw [e]; rfl
end HX
set_option Elab.async false
set_option linter.all false
set_option maxRecDepth 100000
set_option maxHeartbeats 4400000
namespace HX
open L2 LamX PyProof.Rows PySem.Spec PySem
open PySem.W (Frag)
/-! ### a lambda as a value that nobody calls -/
def FnO (a : Addr) : HO := .ext fun h => ∃ o, h.get? a = some o
theorem fnO_ok {P : Program} {w : World} {H : Hp} {h : Heap} {a : Addr} {o : Obj} (e : h.get? a = some o) : ObjOk P w H h a (FnO a) := ⟨⟨o, e⟩, ⟨o, e⟩, fun _ _ ⟨o, x⟩ k => ⟨o, k o x⟩⟩
section
variable {X : Cx} {pins : List (Addr × Obj)} {σ : L2.St} {H : Hp} {s : Shared}
theorem lam_val {T : List (Addr × Str)} {c P : Addr} {params : Arguments} {body : Expr} {scope : Scope} {pos : Pos} {E : Value → Shared → Prop} {Q : Value → Shared → Prop} (I : Inv X pins σ H s) (TB : TabB X.base X.mg c P) (hcode : X.env.code = .ref c)
    (hm : (P, X.env.qual ++ "<lambda>") ∈ T) (hu : ∀ p ∈ T, p.1 = P → p.2 = X.env.qual ++ "<lambda>") (hT : Tabs T H) (hdef : defaultsOf params X.env = ([], [])) (hfree : ∀ y ∈ scope.names, y.2 = .free → ∃ c, X.env.cells.lookup y.1 = some c)
    (h : ∀ (f : Addr) (H1 : Hp) (s' : Shared), Inv X pins σ (upd H1 f (FnO f)) s' → ExtN H H1 → Tabs T H1 → H1 f = none → Q (.ref f) s') :
    wpAny (model X.prog X.w) X.A (eval (.Lambda params body scope pos) X.env) Q E s := by
  obtain ⟨ps, hP, ht, ha⟩ := hT _ hm
  refine PySem.W.kla_eval hdef ?_
  have bP : s.heap.BuiltinsAt X.mg P := TB.bm.keeps I.bk
  have hP' : s.heap.get? P = some { cls := .none, data := .fields ps } := I.hok P _ hP
  cases hc : codeAmong pos ps.toList with
  | none =>
    refine PySem.W.kla_makeFunction (mg := X.mg) (c := c) (P := P) (ps := ps) (closure_ok hfree) I.ok.glob (I.mod.glob.keeps I.bk) hcode (TB.code.keeps I.bk) hP' ht hc TB.gP bP fun c' ctv h' tk hx hge hlt hrec htb => ?_
    obtain ⟨c2, oc, vs, t, e2, hoc, hd, hv⟩ := hrec
    cases e2
    have hsz : s.heap.objs.size ≤ h'.objs.size := Nat.le_trans hge (Nat.le_of_lt hlt)
    have nC : H c' = none := I.hok.fresh hge
    have I1 := inv_table (t' := tk) (more := #[rawInt pos.line, rawInt pos.col, .ref c']) (h' := h') I hP hx htb hge ⟨oc, vs, t, hoc, hd, hv⟩
    have hE : ExtN H (upd (upd H P (.tbl (ps ++ #[rawInt pos.line, rawInt pos.col, .ref c']))) c' (CodeO c' (X.env.qual ++ "<lambda>"))) := fun b o e n => by
      rw [upd_ne (ne_of_none e nC), upd_ne (fun z => n ps (Option.some.inj (e.symm.trans (by rw [z]; exact hP))))]
      exact e
    have eL : (ps ++ #[rawInt pos.line, rawInt pos.col, .ref c']).toList = ps.toList ++ [rawInt pos.line, rawInt pos.col, .ref c'] := by simp
    have I2 := I1.laid (a := h'.objs.size) (o := FnO h'.objs.size) (t' := tk) (h' := h'.push (PySem.W.kla_obj "<lambda>" (X.env.qual ++ "<lambda>") params body scope (cloFrom X.env.cells scope.names []) ((X.mg "__name__").getD .none) c' ctv)) (fun b o e => Heap.get?_push_of_some _ e) (Nat.le_refl _) (fnO_ok (Heap.get?_push_size _ rfl))
    refine h h'.objs.size _ _ I2 hE (fun p hp => ?_) (I1.hok.fresh (Nat.le_refl _))
    by_cases hb : p.1 = P
    · rw [hu p hp hb, hb]
      refine ⟨_, by rw [upd_ne (ne_of_none hP nC), upd_same], by rw [eL]; exact PySem.TriplesOk_snoc _ _ _ _ ht, fun p' cv hcv => ?_⟩
      rw [eL] at hcv
      rcases among_app _ ht hcv with z | z
      · obtain ⟨c0, e1, e2⟩ := ha p' cv z
        exact ⟨c0, e1, hE _ _ e2 codeO_ne⟩
      · exact ⟨c', z, upd_same⟩
    · obtain ⟨ps', a1, a2, a3⟩ := hT p hp
      refine ⟨ps', by rw [upd_ne (ne_of_none a1 nC), upd_ne hb]; exact a1, a2, fun p' cv hcv => ?_⟩
      obtain ⟨c0, e1, e2⟩ := a3 p' cv hcv
      exact ⟨c0, e1, hE _ _ e2 codeO_ne⟩
  | some cv =>
    obtain ⟨c', e, hco⟩ := ha pos cv hc
    subst e
    refine PySem.W.kla_makeFunctionHit (mg := X.mg) (c := c) (P := P) (ps := ps) (closure_ok hfree) I.ok.glob (I.mod.glob.keeps I.bk) hcode (TB.code.keeps I.bk) hP' ht hc bP fun ctv h' tk hx hsz => ?_
    have I1 : Inv X pins σ H { s with heap := h', toks := tk } := I.kept fun b o e => hx b o e
    have I2 := I1.laid (a := h'.objs.size) (o := FnO h'.objs.size) (t' := tk) (h' := h'.push (PySem.W.kla_obj "<lambda>" (X.env.qual ++ "<lambda>") params body scope (cloFrom X.env.cells scope.names []) ((X.mg "__name__").getD .none) c' ctv)) (fun b o e => Heap.get?_push_of_some _ e) (Nat.le_refl _) (fnO_ok (Heap.get?_push_size _ rfl))
    exact h h'.objs.size H _ I2 (ExtN.refl H) hT (I1.hok.fresh (Nat.le_refl _))
def tLamV (T : List (Addr × Str)) : TE := fun σ H Q => Tabs T H ∧ ∀ (H1 : Hp) (f : Addr), ExtN H H1 → Tabs T H1 → H1 f = none → Q (.ref f) (upd H1 f (FnO f))
theorem pe_lamV {T : List (Addr × Str)} {c P : Addr} {params : Arguments} {body : Expr} {scope : Scope} {pos : Pos} (TB : TabB X.base X.mg c P) (hcode : X.env.code = .ref c)
    (hm : (P, X.env.qual ++ "<lambda>") ∈ T) (hu : ∀ p ∈ T, p.1 = P → p.2 = X.env.qual ++ "<lambda>") (hdef : defaultsOf params X.env = ([], []) := by rfl) (hfree : (scope.names.all fun y => !decide (y.2 = .free)) = true := by decide +kernel) : PE X (.Lambda params body scope pos) (tLamV T) :=
  ⟨fun pp t0 τ G R J ⟨hT, h⟩ => lam_val J TB hcode hm hu hT hdef (fun y hy e => absurd (List.all_eq_true.mp hfree y hy) (by rw [decide_eq_true e]; decide)) fun f H1 s' I1 en t1 hf => ⟨.ref f, _, I1, rfl, h H1 f en t1 hf⟩⟩
/-! ### list(text) -/
def rLstS : List V → Hp → VK → Prop := fun xs H Q => ∃ z : Str, xs = [.str z] ∧ z.cps.size ≤ sizeLine ∧ ∀ l, H l = none → l ≠ sysModules → Q (.ref l) (upd H l (.lst (signsV z)))
theorem call_lstS (hc : X.calm = true) : CallR X (.type "list") rLstS := by
  intro pins s σ H xs us; intro Q I r h
  obtain ⟨z, rfl, hz, q⟩ := h
  obtain ⟨u, rfl, t, rfl⟩ := vals1 r
  refine call_list_str (hn := hz) (I.ok.hd hc) z t fun h' tk acc c' kp hS ha => ?_
  have I2 : Inv X pins σ (upd H s.heap.objs.size (.lst (signsV z))) { s with heap := h', toks := tk } :=
    I.laid (t' := tk) kp (Nat.le_refl _) (show ObjOk X.prog X.w _ _ _ (.lst (signsV z)) from ⟨by unfold signsV; rw [List.length_map, Array.length_toList]; exact hz, acc.toList, c', signs_vals ha, by simpa using hS⟩)
  exact ⟨.ref s.heap.objs.size, _, I2, rfl, q _ (I.hok.fresh (Nat.le_refl _)) (Nat.ne_of_gt I.big)⟩
/-! ### a thing equals itself -/
theorem all_yes {n : Nat} : (List.range n).all (fun _ => true) = true := List.all_eq_true.mpr fun _ _ => rfl
def rEqS : R2 := fun x y H Q => y = x ∧ (x = .non ∨ (∃ a xs, x = .ref a ∧ H a = some (.tup xs)) ∨ ∃ a xs, x = .ref a ∧ H a = some (.lst xs)) ∧ Q (.bl true) H
theorem op_eqS (hu : X.A.units + 64 < cLine) : OpR X (compareOp .Eq) rEqS := by
  intro pins s σ H x y v u; intro Q I rx ry h
  obtain ⟨rfl, h, q⟩ := h
  have fin : EP X pins σ Q (.bool true) s := ⟨.bl true, H, I, rfl, q⟩
  rcases h with rfl | ⟨a, xs, rfl, ha⟩ | ⟨a, xs, rfl, ha⟩
  · cases (show v = .none from rx); cases (show u = .none from ry)
    exact SeqAt.RcAt.none_none X.prog X.w _ _ fin
  · cases (show v = .ref a from rx); cases (show u = .ref a from ry)
    obtain ⟨its, r, p, _⟩ := I.tuple (SqT.of (K := X.K) ha)
    have k := SeqAt.RcAt.tuples (A := X.A) (e := fun _ => true) p p (by omega) (fun j h1 h2 => SeqAt.EqAt.same _)
    rw [all_yes, beq_self_eq_true] at k
    exact k X.prog X.w _ _ fin
  · cases (show v = .ref a from rx); cases (show u = .ref a from ry)
    obtain ⟨its, r, p, _⟩ := I.list (SqL.of (K := X.K) ha)
    have k := SeqAt.RcAt.lists (A := X.A) (e := fun _ => true) p.isList p.isList rfl (by omega) (fun j h1 h2 => SeqAt.EqAt.same _)
    rw [all_yes] at k
    exact k X.prog X.w _ _ fin
def rNeS : R2 := fun x y H Q => y = x ∧ (∃ a xs, x = .ref a ∧ H a = some (.tup xs)) ∧ Q (.bl false) H
theorem op_neS (hu : X.A.units + 64 < cLine) : OpR X (compareOp .NotEq) rNeS := by
  intro pins s σ H x y v u; intro Q I rx ry h
  obtain ⟨rfl, ⟨a, xs, rfl, ha⟩, q⟩ := h
  have fin : EP X pins σ Q (.bool false) s := ⟨.bl false, H, I, rfl, q⟩
  cases (show v = .ref a from rx); cases (show u = .ref a from ry)
  obtain ⟨its, r, p, _⟩ := I.tuple (SqT.of (K := X.K) ha)
  have k := SeqAt.RcNeAt.tuples (A := X.A) (e := fun _ => true) p p (by omega) (fun j h1 h2 => SeqAt.EqAt.same _)
  rw [all_yes, beq_self_eq_true] at k
  exact k X.prog X.w _ _ fin
end
end HX
set_option Elab.async false
set_option linter.all false
set_option maxRecDepth 100000
set_option maxHeartbeats 4400000
namespace K25
open PySem PySem.Spec PyProof.Rows L2 HX
open PySem.W (Frag)

def topS (i : Nat) : Stmt := PySem.Challenge.pw_tapedonce_k25_setups_refused.main.body.getD i (.Pass ⟨0, 0, 0, 0⟩)
abbrev s_wall : Stmt := topS 0
abbrev N_wall : List Str := ["k"]
theorem sc_wall : FnScope N_wall ["k"] (defScope s_wall) := ⟨rfl, rfl, rfl, by decide +kernel, rfl, by decide +kernel, by decide +kernel⟩
abbrev s_BadWorld_init : Stmt := inClass (topS 3) 0
abbrev N_BadWorld_init : List Str := ["self", "value"]
theorem sc_BadWorld_init : FnScope N_BadWorld_init ["self", "value"] (defScope s_BadWorld_init) := ⟨rfl, rfl, rfl, by decide +kernel, rfl, by decide +kernel, by decide +kernel⟩
abbrev s_BadSetup_init : Stmt := inClass (topS 4) 0
abbrev N_BadSetup_init : List Str := ["self", "value"]
theorem sc_BadSetup_init : FnScope N_BadSetup_init ["self", "value"] (defScope s_BadSetup_init) := ⟨rfl, rfl, rfl, by decide +kernel, rfl, by decide +kernel, by decide +kernel⟩
abbrev s_is_whole : Stmt := topS 8
abbrev N_is_whole : List Str := ["value", "low", "below"]
theorem sc_is_whole : FnScope N_is_whole ["value", "low", "below"] (defScope s_is_whole) := ⟨rfl, rfl, rfl, by decide +kernel, rfl, by decide +kernel, by decide +kernel⟩
abbrev s_is_size : Stmt := topS 9
abbrev N_is_size : List Str := ["value"]
theorem sc_is_size : FnScope N_is_size ["value"] (defScope s_is_size) := ⟨rfl, rfl, rfl, by decide +kernel, rfl, by decide +kernel, by decide +kernel⟩
abbrev s_is_most : Stmt := topS 10
abbrev N_is_most : List Str := ["value"]
theorem sc_is_most : FnScope N_is_most ["value"] (defScope s_is_most) := ⟨rfl, rfl, rfl, by decide +kernel, rfl, by decide +kernel, by decide +kernel⟩
abbrev s_are_items : Stmt := topS 11
abbrev N_are_items : List Str := ["value", "size", "most", "worth"]
theorem sc_are_items : FnScope N_are_items ["value", "size", "most"] (defScope s_are_items) := ⟨rfl, rfl, rfl, by decide +kernel, rfl, by decide +kernel, by decide +kernel⟩
abbrev s_is_name : Stmt := topS 12
abbrev N_is_name : List Str := ["value", "letter"]
theorem sc_is_name : FnScope N_is_name ["value"] (defScope s_is_name) := ⟨rfl, rfl, rfl, by decide +kernel, rfl, by decide +kernel, by decide +kernel⟩
abbrev s_are_rising : Stmt := topS 13
abbrev N_are_rising : List Str := ["names", "one", "other"]
theorem sc_are_rising : FnScope N_are_rising ["names"] (defScope s_are_rising) := ⟨rfl, rfl, rfl, by decide +kernel, rfl, by decide +kernel, by decide +kernel⟩
abbrev s_are_names : Stmt := topS 14
abbrev N_are_names : List Str := ["value", "most", "name"]
theorem sc_are_names : FnScope N_are_names ["value", "most"] (defScope s_are_names) := ⟨rfl, rfl, rfl, by decide +kernel, rfl, by decide +kernel, by decide +kernel⟩
abbrev s_are_pairs : Stmt := topS 15
abbrev N_are_pairs : List Str := ["value", "most", "pair"]
theorem sc_are_pairs : FnScope N_are_pairs ["value", "most"] (defScope s_are_pairs) := ⟨rfl, rfl, rfl, by decide +kernel, rfl, by decide +kernel, by decide +kernel⟩
abbrev s_are_kinds : Stmt := topS 16
abbrev N_are_kinds : List Str := ["value", "most", "with_rows", "kinds", "kind"]
theorem sc_are_kinds : FnScope N_are_kinds ["value", "most", "with_rows"] (defScope s_are_kinds) := ⟨rfl, rfl, rfl, by decide +kernel, rfl, by decide +kernel, by decide +kernel⟩
abbrev s_World_init : Stmt := inClass (topS 22) 0
abbrev N_World_init : List Str := ["self", "size", "most", "cells", "rows", "loose", "at", "cell", "row"]
theorem sc_World_init : FnScope N_World_init ["self", "size", "most", "cells", "rows", "loose"] (defScope s_World_init) := ⟨rfl, rfl, rfl, by decide +kernel, rfl, by decide +kernel, by decide +kernel⟩
abbrev s_World_size : Stmt := inClass (topS 22) 1
abbrev N_World_size : List Str := ["self"]
theorem sc_World_size : FnScope N_World_size ["self"] (defScope s_World_size) := ⟨rfl, rfl, rfl, by decide +kernel, rfl, by decide +kernel, by decide +kernel⟩
abbrev s_World_most : Stmt := inClass (topS 22) 2
abbrev N_World_most : List Str := ["self"]
theorem sc_World_most : FnScope N_World_most ["self"] (defScope s_World_most) := ⟨rfl, rfl, rfl, by decide +kernel, rfl, by decide +kernel, by decide +kernel⟩
abbrev s_World_cells : Stmt := inClass (topS 22) 3
abbrev N_World_cells : List Str := ["self"]
theorem sc_World_cells : FnScope N_World_cells ["self"] (defScope s_World_cells) := ⟨rfl, rfl, rfl, by decide +kernel, rfl, by decide +kernel, by decide +kernel⟩
abbrev s_World_rows : Stmt := inClass (topS 22) 4
abbrev N_World_rows : List Str := ["self"]
theorem sc_World_rows : FnScope N_World_rows ["self"] (defScope s_World_rows) := ⟨rfl, rfl, rfl, by decide +kernel, rfl, by decide +kernel, by decide +kernel⟩
abbrev s_World_loose : Stmt := inClass (topS 22) 5
abbrev N_World_loose : List Str := ["self"]
theorem sc_World_loose : FnScope N_World_loose ["self"] (defScope s_World_loose) := ⟨rfl, rfl, rfl, by decide +kernel, rfl, by decide +kernel, by decide +kernel⟩
abbrev s_World_first : Stmt := inClass (topS 22) 6
abbrev N_World_first : List Str := ["self", "cell", "row"]
theorem sc_World_first : FnScope N_World_first ["self"] (defScope s_World_first) := ⟨rfl, rfl, rfl, by decide +kernel, rfl, by decide +kernel, by decide +kernel⟩
abbrev s_World_eq : Stmt := inClass (topS 22) 7
abbrev N_World_eq : List Str := ["self", "other"]
theorem sc_World_eq : FnScope N_World_eq ["self", "other"] (defScope s_World_eq) := ⟨rfl, rfl, rfl, by decide +kernel, rfl, by decide +kernel, by decide +kernel⟩
abbrev s_World_cell_number : Stmt := inClass (topS 22) 8
abbrev N_World_cell_number : List Str := ["self", "name"]
theorem sc_World_cell_number : FnScope N_World_cell_number ["self", "name"] (defScope s_World_cell_number) := ⟨rfl, rfl, rfl, by decide +kernel, rfl, by decide +kernel, by decide +kernel⟩
abbrev s_World_row_number : Stmt := inClass (topS 22) 9
abbrev N_World_row_number : List Str := ["self", "name"]
theorem sc_World_row_number : FnScope N_World_row_number ["self", "name"] (defScope s_World_row_number) := ⟨rfl, rfl, rfl, by decide +kernel, rfl, by decide +kernel, by decide +kernel⟩
abbrev s_Setup_init : Stmt := inClass (topS 23) 0
abbrev N_Setup_init : List Str := ["self", "world", "works", "room", "at", "work"]
theorem sc_Setup_init : FnScope N_Setup_init ["self", "world", "works", "room"] (defScope s_Setup_init) := ⟨rfl, rfl, rfl, by decide +kernel, rfl, by decide +kernel, by decide +kernel⟩
abbrev s_Setup_world : Stmt := inClass (topS 23) 1
abbrev N_Setup_world : List Str := ["self"]
theorem sc_Setup_world : FnScope N_Setup_world ["self"] (defScope s_Setup_world) := ⟨rfl, rfl, rfl, by decide +kernel, rfl, by decide +kernel, by decide +kernel⟩
abbrev s_Setup_works : Stmt := inClass (topS 23) 2
abbrev N_Setup_works : List Str := ["self"]
theorem sc_Setup_works : FnScope N_Setup_works ["self"] (defScope s_Setup_works) := ⟨rfl, rfl, rfl, by decide +kernel, rfl, by decide +kernel, by decide +kernel⟩
abbrev s_Setup_places : Stmt := inClass (topS 23) 3
abbrev N_Setup_places : List Str := ["self"]
theorem sc_Setup_places : FnScope N_Setup_places ["self"] (defScope s_Setup_places) := ⟨rfl, rfl, rfl, by decide +kernel, rfl, by decide +kernel, by decide +kernel⟩
abbrev s_Setup_deeds : Stmt := inClass (topS 23) 4
abbrev N_Setup_deeds : List Str := ["self"]
theorem sc_Setup_deeds : FnScope N_Setup_deeds ["self"] (defScope s_Setup_deeds) := ⟨rfl, rfl, rfl, by decide +kernel, rfl, by decide +kernel, by decide +kernel⟩
abbrev s_Setup_work_number : Stmt := inClass (topS 23) 5
abbrev N_Setup_work_number : List Str := ["self", "value"]
theorem sc_Setup_work_number : FnScope N_Setup_work_number ["self", "value"] (defScope s_Setup_work_number) := ⟨rfl, rfl, rfl, by decide +kernel, rfl, by decide +kernel, by decide +kernel⟩
abbrev s_are_cells : Stmt := topS 24
abbrev N_are_cells : List Str := ["value", "size", "cell"]
theorem sc_are_cells : FnScope N_are_cells ["value", "size"] (defScope s_are_cells) := ⟨rfl, rfl, rfl, by decide +kernel, rfl, by decide +kernel, by decide +kernel⟩
abbrev s_are_rows : Stmt := topS 25
abbrev N_are_rows : List Str := ["value", "size", "most", "cells", "taken", "cell", "row"]
theorem sc_are_rows : FnScope N_are_rows ["value", "size", "most", "cells"] (defScope s_are_rows) := ⟨rfl, rfl, rfl, by decide +kernel, rfl, by decide +kernel, by decide +kernel⟩
abbrev s_are_loose : Stmt := topS 26
abbrev N_are_loose : List Str := ["value", "cells", "rows", "taken", "cell", "row", "name"]
theorem sc_are_loose : FnScope N_are_loose ["value", "cells", "rows"] (defScope s_are_loose) := ⟨rfl, rfl, rfl, by decide +kernel, rfl, by decide +kernel, by decide +kernel⟩
abbrev s_are_works : Stmt := topS 27
abbrev N_are_works : List Str := ["value", "world", "work", "part"]
theorem sc_are_works : FnScope N_are_works ["value", "world"] (defScope s_are_works) := ⟨rfl, rfl, rfl, by decide +kernel, rfl, by decide +kernel, by decide +kernel⟩
abbrev s_is_work : Stmt := topS 28
abbrev N_is_work : List Str := ["value", "world"]
theorem sc_is_work : FnScope N_is_work ["value", "world"] (defScope s_is_work) := ⟨rfl, rfl, rfl, by decide +kernel, rfl, by decide +kernel, by decide +kernel⟩
abbrev s_all_calls : Stmt := topS 29
abbrev N_all_calls : List Str := ["world", "works", "work", "values"]
theorem sc_all_calls : FnScope N_all_calls ["world", "works"] (defScope s_all_calls) := ⟨rfl, rfl, rfl, by decide +kernel, rfl, by decide +kernel, by decide +kernel⟩
abbrev s_all_values : Stmt := topS 30
abbrev N_all_values : List Str := ["world", "kinds", "names", "found", "kind", "choices", "row", "values", "choice"]
theorem sc_all_values : FnScope N_all_values ["world", "kinds"] (defScope s_all_values) := ⟨rfl, rfl, rfl, by decide +kernel, rfl, by decide +kernel, by decide +kernel⟩
abbrev s_all_changes : Stmt := topS 31
abbrev N_all_changes : List Str := ["world", "found", "name", "things", "thing"]
theorem sc_all_changes : FnScope N_all_changes ["world"] (defScope s_all_changes) := ⟨rfl, rfl, rfl, by decide +kernel, rfl, by decide +kernel, by decide +kernel⟩
abbrev s_all_items : Stmt := topS 32
abbrev N_all_items : List Str := ["world", "found", "one", "other"]
theorem sc_all_items : FnScope N_all_items ["world"] (defScope s_all_items) := ⟨rfl, rfl, rfl, by decide +kernel, rfl, by decide +kernel, by decide +kernel⟩
abbrev s_pot : Stmt := topS 34
abbrev N_pot : List Str := ["_law_script", "_law_k", "_law_cell", "_law_figures"]
theorem sc_pot : FnScope N_pot ["_law_script", "_law_k"] (defScope s_pot) := ⟨rfl, rfl, rfl, by decide +kernel, rfl, by decide +kernel, by decide +kernel⟩
abbrev s_take : Stmt := topS 35
abbrev N_take : List Str := ["_law_pot_here", "_law_many", "_law_digit", "_law_prime", "_law_mixed"]
theorem sc_take : FnScope N_take ["_law_pot_here", "_law_many"] (defScope s_take) := ⟨rfl, rfl, rfl, by decide +kernel, rfl, by decide +kernel, by decide +kernel⟩
abbrev s_of : Stmt := topS 36
abbrev N_of : List Str := ["_law_pot_here", "_law_some_here"]
theorem sc_of : FnScope N_of ["_law_pot_here", "_law_some_here"] (defScope s_of) := ⟨rfl, rfl, rfl, by decide +kernel, rfl, by decide +kernel, by decide +kernel⟩
abbrev s_law_is_name : Stmt := topS 37
abbrev N_law_is_name : List Str := ["_law_value", "_law_sign"]
theorem sc_law_is_name : FnScope N_law_is_name ["_law_value"] (defScope s_law_is_name) := ⟨rfl, rfl, rfl, by decide +kernel, rfl, by decide +kernel, by decide +kernel⟩
abbrev s_law_are_rising : Stmt := topS 38
abbrev N_law_are_rising : List Str := ["_law_names", "_law_at"]
theorem sc_law_are_rising : FnScope N_law_are_rising ["_law_names"] (defScope s_law_are_rising) := ⟨rfl, rfl, rfl, by decide +kernel, rfl, by decide +kernel, by decide +kernel⟩
abbrev s_items : Stmt := topS 39
abbrev N_items : List Str := ["_law_pot_here", "_law_size", "_law_most", "_law_lap"]
theorem sc_items : FnScope N_items ["_law_pot_here", "_law_size", "_law_most"] (defScope s_items) := ⟨rfl, rfl, rfl, by decide +kernel, rfl, by decide +kernel, by decide +kernel⟩
abbrev s_some : Stmt := topS 40
abbrev N_some : List Str := ["_law_pot_here", "_law_names", "_law_many", "_law_found", "_law_name"]
theorem sc_some : FnScope N_some ["_law_pot_here", "_law_names", "_law_many"] (defScope s_some) := ⟨rfl, rfl, rfl, by decide +kernel, rfl, by decide +kernel, by decide +kernel⟩
abbrev s_lore : Stmt := topS 41
abbrev N_lore : List Str := ["_law_pot_here", "_law_sizes", "_law_upto", "_law_size", "_law_most", "_law_names", "_law_some_here", "_law_held", "_law_cells", "_law_rows", "_law_name"]
theorem sc_lore : FnScope N_lore ["_law_pot_here", "_law_sizes", "_law_upto"] (defScope s_lore) := ⟨rfl, rfl, rfl, by decide +kernel, rfl, by decide +kernel, by decide +kernel⟩
abbrev s_world : Stmt := topS 42
abbrev N_world : List Str := ["_law_lore_here"]
theorem sc_world : FnScope N_world ["_law_lore_here"] (defScope s_world) := ⟨rfl, rfl, rfl, by decide +kernel, rfl, by decide +kernel, by decide +kernel⟩
abbrev s_is_from : Stmt := topS 43
abbrev N_is_from : List Str := ["_law_value", "_law_low", "_law_high"]
theorem sc_is_from : FnScope N_is_from ["_law_value", "_law_low", "_law_high"] (defScope s_is_from) := ⟨rfl, rfl, rfl, by decide +kernel, rfl, by decide +kernel, by decide +kernel⟩
abbrev s_law_are_works : Stmt := topS 44
abbrev N_law_are_works : List Str := ["_law_value", "_law_has_rows", "_law_letters", "_law_work", "_law_letter"]
theorem sc_law_are_works : FnScope N_law_are_works ["_law_value", "_law_has_rows"] (defScope s_law_are_works) := ⟨rfl, rfl, rfl, by decide +kernel, rfl, by decide +kernel, by decide +kernel⟩
abbrev s_work_triple : Stmt := topS 45
abbrev N_work_triple : List Str := ["_law_pot_here", "_law_name", "_law_has_rows", "_law_thing", "_law_letters", "_law_turn"]
theorem sc_work_triple : FnScope N_work_triple ["_law_pot_here", "_law_name", "_law_has_rows"] (defScope s_work_triple) := ⟨rfl, rfl, rfl, by decide +kernel, rfl, by decide +kernel, by decide +kernel⟩
abbrev s_bent_works : Stmt := topS 46
abbrev N_bent_works : List Str := ["_law_pot_here", "_law_works", "_law_at", "_law_name", "_law_thing", "_law_kinds", "_law_some_here", "_law_bent"]
theorem sc_bent_works : FnScope N_bent_works ["_law_pot_here", "_law_works"] (defScope s_bent_works) := ⟨rfl, rfl, rfl, by decide +kernel, rfl, by decide +kernel, by decide +kernel⟩
abbrev s_told : Stmt := topS 47
abbrev N_told : List Str := ["_law_world_here", "_law_works", "_law_room", "_law_told_here", "_law_caught", "error"]
theorem sc_told : FnScope N_told ["_law_world_here", "_law_works", "_law_room"] (defScope s_told) := ⟨rfl, rfl, rfl, by decide +kernel, rfl, by decide +kernel, by decide +kernel⟩
abbrev s_right : Stmt := topS 48
abbrev N_right : List Str := ["_law_pot_here", "_law_lore_here", "_law_names", "_law_works", "_law_room", "_law_world_here", "_law_told_here", "_law_name"]
theorem sc_right : FnScope N_right ["_law_pot_here"] (defScope s_right) := ⟨rfl, rfl, rfl, by decide +kernel, rfl, by decide +kernel, by decide +kernel⟩
abbrev s_law : Stmt := topS 49
abbrev N_law : List Str := ["_law_script", "_law_k", "_law_pot_here", "_law_turn"]
theorem sc_law : FnScope N_law ["_law_script"] (defScope s_law) := ⟨rfl, rfl, rfl, by decide +kernel, rfl, by decide +kernel, by decide +kernel⟩
structure Ad where
  C_TapeError : Addr
  C_BadSetup : Addr
  C_World : Addr
  C_Setup : Addr
  f_BadSetup_init : Addr
  d_BadSetup_init : FuncData
  f_is_whole : Addr
  d_is_whole : FuncData
  f_is_size : Addr
  d_is_size : FuncData
  f_is_most : Addr
  d_is_most : FuncData
  f_are_items : Addr
  d_are_items : FuncData
  f_is_name : Addr
  d_is_name : FuncData
  f_are_rising : Addr
  d_are_rising : FuncData
  f_are_names : Addr
  d_are_names : FuncData
  f_are_kinds : Addr
  d_are_kinds : FuncData
  f_are_pairs : Addr
  d_are_pairs : FuncData
  f_are_cells : Addr
  d_are_cells : FuncData
  f_are_rows : Addr
  d_are_rows : FuncData
  f_are_loose : Addr
  d_are_loose : FuncData
  f_World_init : Addr
  d_World_init : FuncData
  f_World_size : Addr
  d_World_size : FuncData
  f_World_most : Addr
  d_World_most : FuncData
  f_World_cells : Addr
  d_World_cells : FuncData
  f_World_rows : Addr
  d_World_rows : FuncData
  f_World_loose : Addr
  d_World_loose : FuncData
  f_World_eq : Addr
  d_World_eq : FuncData
  f_World_cell_number : Addr
  d_World_cell_number : FuncData
  f_is_work : Addr
  d_is_work : FuncData
  f_are_works : Addr
  d_are_works : FuncData
  f_all_values : Addr
  d_all_values : FuncData
  f_all_calls : Addr
  d_all_calls : FuncData
  f_all_items : Addr
  d_all_items : FuncData
  f_all_changes : Addr
  d_all_changes : FuncData
  f_Setup_init : Addr
  d_Setup_init : FuncData
  f_Setup_world : Addr
  d_Setup_world : FuncData
  f_Setup_works : Addr
  d_Setup_works : FuncData
  f_Setup_places : Addr
  d_Setup_places : FuncData
  f_pot : Addr
  d_pot : FuncData
  f_take : Addr
  d_take : FuncData
  f_of : Addr
  d_of : FuncData
  f_law_is_name : Addr
  d_law_is_name : FuncData
  f_law_are_rising : Addr
  d_law_are_rising : FuncData
  f_items : Addr
  d_items : FuncData
  f_some : Addr
  d_some : FuncData
  f_lore : Addr
  d_lore : FuncData
  f_world : Addr
  d_world : FuncData
  f_is_from : Addr
  d_is_from : FuncData
  f_law_are_works : Addr
  d_law_are_works : FuncData
  f_work_triple : Addr
  d_work_triple : FuncData
  f_bent_works : Addr
  d_bent_works : FuncData
  f_told : Addr
  d_told : FuncData
  f_right : Addr
  d_right : FuncData
  f_law : Addr
  d_law : FuncData
  p_size : Addr
  p_most : Addr
  p_cells : Addr
  p_rows : Addr
  p_loose : Addr
  p_world : Addr
  p_works : Addr
  p_places : Addr
  c_work_triple : Addr
  P_work_triple : Addr
structure Txt (K : Frag) (mg : Str → Option Value) (A : Ad) : Prop where
  F_BadSetup_init : Fun K "__init__" "BadSetup.__init__" s_BadSetup_init A.f_BadSetup_init A.d_BadSetup_init
  F_is_whole : Fun K "is_whole" "is_whole" s_is_whole A.f_is_whole A.d_is_whole
  b_is_whole : Binds K A.d_is_whole ["value", "low", "below"] []
  m_is_whole : mg "is_whole" = some (.ref A.f_is_whole)
  F_is_size : Fun K "is_size" "is_size" s_is_size A.f_is_size A.d_is_size
  b_is_size : Binds K A.d_is_size ["value"] []
  m_is_size : mg "is_size" = some (.ref A.f_is_size)
  F_is_most : Fun K "is_most" "is_most" s_is_most A.f_is_most A.d_is_most
  b_is_most : Binds K A.d_is_most ["value"] []
  m_is_most : mg "is_most" = some (.ref A.f_is_most)
  F_are_items : Fun K "are_items" "are_items" s_are_items A.f_are_items A.d_are_items
  b_are_items : Binds K A.d_are_items ["value", "size", "most"] []
  m_are_items : mg "are_items" = some (.ref A.f_are_items)
  F_is_name : Fun K "is_name" "is_name" s_is_name A.f_is_name A.d_is_name
  b_is_name : Binds K A.d_is_name ["value"] []
  m_is_name : mg "is_name" = some (.ref A.f_is_name)
  F_are_rising : Fun K "are_rising" "are_rising" s_are_rising A.f_are_rising A.d_are_rising
  b_are_rising : Binds K A.d_are_rising ["names"] []
  m_are_rising : mg "are_rising" = some (.ref A.f_are_rising)
  F_are_names : Fun K "are_names" "are_names" s_are_names A.f_are_names A.d_are_names
  b_are_names : Binds K A.d_are_names ["value", "most"] []
  m_are_names : mg "are_names" = some (.ref A.f_are_names)
  F_are_kinds : Fun K "are_kinds" "are_kinds" s_are_kinds A.f_are_kinds A.d_are_kinds
  b_are_kinds : Binds K A.d_are_kinds ["value", "most", "with_rows"] []
  m_are_kinds : mg "are_kinds" = some (.ref A.f_are_kinds)
  F_are_pairs : Fun K "are_pairs" "are_pairs" s_are_pairs A.f_are_pairs A.d_are_pairs
  b_are_pairs : Binds K A.d_are_pairs ["value", "most"] []
  m_are_pairs : mg "are_pairs" = some (.ref A.f_are_pairs)
  F_are_cells : Fun K "_are_cells" "_are_cells" s_are_cells A.f_are_cells A.d_are_cells
  b_are_cells : Binds K A.d_are_cells ["value", "size"] []
  m_are_cells : mg "_are_cells" = some (.ref A.f_are_cells)
  F_are_rows : Fun K "_are_rows" "_are_rows" s_are_rows A.f_are_rows A.d_are_rows
  b_are_rows : Binds K A.d_are_rows ["value", "size", "most", "cells"] []
  m_are_rows : mg "_are_rows" = some (.ref A.f_are_rows)
  F_are_loose : Fun K "_are_loose" "_are_loose" s_are_loose A.f_are_loose A.d_are_loose
  b_are_loose : Binds K A.d_are_loose ["value", "cells", "rows"] []
  m_are_loose : mg "_are_loose" = some (.ref A.f_are_loose)
  F_World_init : ∃ v, FunD K "__init__" "World.__init__" (defArgs s_World_init) (defBody s_World_init) (defScope s_World_init) [v] [] A.f_World_init A.d_World_init
  b_World_init : Binds K A.d_World_init ["self", "size", "most", "cells", "rows", "loose"] []
  F_World_size : Fun K "size" "World.size" s_World_size A.f_World_size A.d_World_size
  b_World_size : Binds K A.d_World_size ["self"] []
  F_World_most : Fun K "most" "World.most" s_World_most A.f_World_most A.d_World_most
  b_World_most : Binds K A.d_World_most ["self"] []
  F_World_cells : Fun K "cells" "World.cells" s_World_cells A.f_World_cells A.d_World_cells
  b_World_cells : Binds K A.d_World_cells ["self"] []
  F_World_rows : Fun K "rows" "World.rows" s_World_rows A.f_World_rows A.d_World_rows
  b_World_rows : Binds K A.d_World_rows ["self"] []
  F_World_loose : Fun K "loose" "World.loose" s_World_loose A.f_World_loose A.d_World_loose
  b_World_loose : Binds K A.d_World_loose ["self"] []
  F_World_eq : Fun K "__eq__" "World.__eq__" s_World_eq A.f_World_eq A.d_World_eq
  b_World_eq : Binds K A.d_World_eq ["self", "other"] []
  F_World_cell_number : Fun K "cell_number" "World.cell_number" s_World_cell_number A.f_World_cell_number A.d_World_cell_number
  b_World_cell_number : Binds K A.d_World_cell_number ["self", "name"] []
  F_is_work : Fun K "_is_work" "_is_work" s_is_work A.f_is_work A.d_is_work
  b_is_work : Binds K A.d_is_work ["value", "world"] []
  m_is_work : mg "_is_work" = some (.ref A.f_is_work)
  F_are_works : Fun K "_are_works" "_are_works" s_are_works A.f_are_works A.d_are_works
  b_are_works : Binds K A.d_are_works ["value", "world"] []
  m_are_works : mg "_are_works" = some (.ref A.f_are_works)
  F_all_values : Fun K "all_values" "all_values" s_all_values A.f_all_values A.d_all_values
  b_all_values : Binds K A.d_all_values ["world", "kinds"] []
  m_all_values : mg "all_values" = some (.ref A.f_all_values)
  F_all_calls : Fun K "_all_calls" "_all_calls" s_all_calls A.f_all_calls A.d_all_calls
  b_all_calls : Binds K A.d_all_calls ["world", "works"] []
  m_all_calls : mg "_all_calls" = some (.ref A.f_all_calls)
  F_all_items : Fun K "all_items" "all_items" s_all_items A.f_all_items A.d_all_items
  b_all_items : Binds K A.d_all_items ["world"] []
  m_all_items : mg "all_items" = some (.ref A.f_all_items)
  F_all_changes : Fun K "_all_changes" "_all_changes" s_all_changes A.f_all_changes A.d_all_changes
  b_all_changes : Binds K A.d_all_changes ["world"] []
  m_all_changes : mg "_all_changes" = some (.ref A.f_all_changes)
  F_Setup_init : Fun K "__init__" "Setup.__init__" s_Setup_init A.f_Setup_init A.d_Setup_init
  b_Setup_init : Binds K A.d_Setup_init ["self", "world", "works", "room"] []
  F_Setup_world : Fun K "world" "Setup.world" s_Setup_world A.f_Setup_world A.d_Setup_world
  b_Setup_world : Binds K A.d_Setup_world ["self"] []
  F_Setup_works : Fun K "works" "Setup.works" s_Setup_works A.f_Setup_works A.d_Setup_works
  b_Setup_works : Binds K A.d_Setup_works ["self"] []
  F_Setup_places : Fun K "places" "Setup.places" s_Setup_places A.f_Setup_places A.d_Setup_places
  b_Setup_places : Binds K A.d_Setup_places ["self"] []
  F_pot : Fun K "_law_pot" "_law_pot" s_pot A.f_pot A.d_pot
  b_pot : Binds K A.d_pot ["_law_script", "_law_k"] []
  m_pot : mg "_law_pot" = some (.ref A.f_pot)
  F_take : Fun K "_law_take" "_law_take" s_take A.f_take A.d_take
  b_take : Binds K A.d_take ["_law_pot_here", "_law_many"] []
  m_take : mg "_law_take" = some (.ref A.f_take)
  F_of : Fun K "_law_of" "_law_of" s_of A.f_of A.d_of
  b_of : Binds K A.d_of ["_law_pot_here", "_law_some_here"] []
  m_of : mg "_law_of" = some (.ref A.f_of)
  F_law_is_name : Fun K "_law_is_name" "_law_is_name" s_law_is_name A.f_law_is_name A.d_law_is_name
  b_law_is_name : Binds K A.d_law_is_name ["_law_value"] []
  m_law_is_name : mg "_law_is_name" = some (.ref A.f_law_is_name)
  F_law_are_rising : Fun K "_law_are_rising" "_law_are_rising" s_law_are_rising A.f_law_are_rising A.d_law_are_rising
  b_law_are_rising : Binds K A.d_law_are_rising ["_law_names"] []
  m_law_are_rising : mg "_law_are_rising" = some (.ref A.f_law_are_rising)
  F_items : Fun K "_law_items" "_law_items" s_items A.f_items A.d_items
  b_items : Binds K A.d_items ["_law_pot_here", "_law_size", "_law_most"] []
  m_items : mg "_law_items" = some (.ref A.f_items)
  F_some : Fun K "_law_some" "_law_some" s_some A.f_some A.d_some
  b_some : Binds K A.d_some ["_law_pot_here", "_law_names", "_law_many"] []
  m_some : mg "_law_some" = some (.ref A.f_some)
  F_lore : Fun K "_law_lore" "_law_lore" s_lore A.f_lore A.d_lore
  b_lore : Binds K A.d_lore ["_law_pot_here", "_law_sizes", "_law_upto"] []
  m_lore : mg "_law_lore" = some (.ref A.f_lore)
  F_world : Fun K "_law_world" "_law_world" s_world A.f_world A.d_world
  b_world : Binds K A.d_world ["_law_lore_here"] []
  m_world : mg "_law_world" = some (.ref A.f_world)
  F_is_from : Fun K "_law_is_from" "_law_is_from" s_is_from A.f_is_from A.d_is_from
  b_is_from : Binds K A.d_is_from ["_law_value", "_law_low", "_law_high"] []
  m_is_from : mg "_law_is_from" = some (.ref A.f_is_from)
  F_law_are_works : Fun K "_law_are_works" "_law_are_works" s_law_are_works A.f_law_are_works A.d_law_are_works
  b_law_are_works : Binds K A.d_law_are_works ["_law_value", "_law_has_rows"] []
  m_law_are_works : mg "_law_are_works" = some (.ref A.f_law_are_works)
  F_work_triple : Fun K "_law_work_triple" "_law_work_triple" s_work_triple A.f_work_triple A.d_work_triple
  b_work_triple : Binds K A.d_work_triple ["_law_pot_here", "_law_name", "_law_has_rows"] []
  m_work_triple : mg "_law_work_triple" = some (.ref A.f_work_triple)
  F_bent_works : Fun K "_law_bent_works" "_law_bent_works" s_bent_works A.f_bent_works A.d_bent_works
  b_bent_works : Binds K A.d_bent_works ["_law_pot_here", "_law_works"] []
  m_bent_works : mg "_law_bent_works" = some (.ref A.f_bent_works)
  F_told : Fun K "_law_told" "_law_told" s_told A.f_told A.d_told
  b_told : Binds K A.d_told ["_law_world_here", "_law_works", "_law_room"] []
  m_told : mg "_law_told" = some (.ref A.f_told)
  F_right : Fun K "_law_right" "_law_right" s_right A.f_right A.d_right
  b_right : Binds K A.d_right ["_law_pot_here"] []
  m_right : mg "_law_right" = some (.ref A.f_right)
  F_law : Fun K "law" "law" s_law A.f_law A.d_law
  b_law : Binds K A.d_law ["_law_script"] []
  m_law : mg "law" = some (.ref A.f_law)
  E_BadSetup : ErrT K mg "BadSetup" "value" A.C_BadSetup A.f_BadSetup_init A.d_BadSetup_init
  m_TapeError : mg "TapeError" = some (.ref A.C_TapeError)
  m_BadSetup : mg "BadSetup" = some (.ref A.C_BadSetup)
  m_World : mg "World" = some (.ref A.C_World)
  m_Setup : mg "Setup" = some (.ref A.C_Setup)
  g_isinstance : mg "isinstance" = none
  g_int : mg "int" = none
  g_bool : mg "bool" = none
  g_str : mg "str" = none
  g_len : mg "len" = none
  g_abs : mg "abs" = none
  g_repr : mg "repr" = none
  g_all : mg "all" = none
  g_range : mg "range" = none
  g_tuple : mg "tuple" = none
  g_list : mg "list" = none
  g_zip : mg "zip" = none
  g_enumerate : mg "enumerate" = none
  g_max : mg "max" = none
  g_min : mg "min" = none
  g_ValueError : mg "ValueError" = none
  c_MOST_LETTERS : ∃ t, mg "MOST_LETTERS" = some (.int 8 t)
  c_LETTERS : ∃ t, mg "LETTERS" = some (.str "abcdefghijklmnopqrstuvwxyz" t)
  c_MOST_CELLS : ∃ t, mg "MOST_CELLS" = some (.int 2 t)
  c_MOST_ROWS : ∃ t, mg "MOST_ROWS" = some (.int 2 t)
  c_MOST_WORKS : ∃ t, mg "MOST_WORKS" = some (.int 3 t)
  c_MOST_VALUES : ∃ t, mg "MOST_VALUES" = some (.int 3 t)
  cls_World : Cls K A.C_World
  mk_World : Mk K A.C_World A.f_World_init
  cls_Setup : Cls K A.C_Setup
  mk_Setup : Mk K A.C_Setup A.f_Setup_init
  n_size : NoAttr K A.C_World "_size"
  n_most : NoAttr K A.C_World "_most"
  n_cells : NoAttr K A.C_World "_cells"
  n_rows : NoAttr K A.C_World "_rows"
  n_loose : NoAttr K A.C_World "_loose"
  n_cell_numbers : NoAttr K A.C_World "_cell_numbers"
  n_row_numbers : NoAttr K A.C_World "_row_numbers"
  n_world : NoAttr K A.C_Setup "_world"
  n_works : NoAttr K A.C_Setup "_works"
  n_places : NoAttr K A.C_Setup "_places"
  n_numbers : NoAttr K A.C_Setup "_numbers"
  n_deeds : NoAttr K A.C_Setup "_deeds"
  P_size : PropOf K A.C_World "size" A.p_size A.f_World_size
  P_most : PropOf K A.C_World "most" A.p_most A.f_World_most
  P_cells : PropOf K A.C_World "cells" A.p_cells A.f_World_cells
  P_rows : PropOf K A.C_World "rows" A.p_rows A.f_World_rows
  P_loose : PropOf K A.C_World "loose" A.p_loose A.f_World_loose
  P_world : PropOf K A.C_Setup "world" A.p_world A.f_Setup_world
  P_works : PropOf K A.C_Setup "works" A.p_works A.f_Setup_works
  P_places : PropOf K A.C_Setup "places" A.p_places A.f_Setup_places
  M_cell_number : Meth K A.C_World "cell_number" A.f_World_cell_number
  kit : ∀ C ∈ [A.C_BadSetup], ∀ D ∈ [A.C_BadSetup], PySem.W.kitOne K (.ref C) (.ref D) = some (C == D)
  kte : ∀ C ∈ [A.C_BadSetup], PySem.W.kitOne K (.ref C) (.ref A.C_TapeError) = some true
  kve : ∀ C ∈ [A.C_BadSetup], PySem.W.kitOne K (.ref C) (.type "ValueError") = some true
  xte : ∀ C ∈ [A.C_BadSetup], PySem.W.exmOne K (.ref C) (.ref A.C_TapeError) = some true
  kcl : PySem.W.findIn K (.ref A.C_World) "__class__" = some (some (.builtin "object.__class__"))
  kgs : PySem.W.specialIn K (.builtin "object.__class__") "__get__" = some (some (.builtin "getset_descriptor.__get__"))
  ktk : PySem.W.takesIn K (.builtin "object.__class__") = some true
  kob : PySem.W.mroIn K A.C_World (.type "object") = some true
  eqc : EqC K A.C_World A.f_World_eq
  dc_work_triple : A.d_work_triple.code = .ref A.c_work_triple

theorem small {n : Nat} (h : n < 1000) : n < sizeLine := Nat.lt_of_lt_of_le h (by decide)
def abc : Str := "abcdefghijklmnopqrstuvwxyz"
def nameOk (z : Str) : Bool := decide (1 ≤ z.length) && (decide (z.length ≤ 8) && z.cps.toList.all (fun c => decide (c ∈ abc.cps.toList)))
def rises : List Str → Bool
  | a :: b :: r => decide (a.cps.toList < b.cps.toList) && rises (b :: r)
  | _ => true
theorem rises_at : ∀ {ss : List Str} {i : Nat} {a b : Str}, rises ss = true → ss[i]? = some a → ss[i + 1]? = some b → decide (a.cps.toList < b.cps.toList) = true
  | [], i, a, b, _, h, _ => by simp at h
  | [_], 0, a, b, _, _, h => by simp at h
  | [_], i + 1, a, b, _, h, _ => by simp at h
  | x :: y :: r, 0, a, b, h, h1, h2 => by cases h1; cases h2; exact (Bool.and_eq_true_iff.mp h).1
  | x :: y :: r, i + 1, a, b, h, h1, h2 => rises_at (ss := y :: r) (Bool.and_eq_true_iff.mp h).2 (by simpa using h1) (by simpa using h2)
def okN (ss : List Str) : Bool := ss.all nameOk && rises ss
def pD (p : Str × PyData) : PyData := .tuple [.str p.1, p.2]
def kindsOk (b : Bool) (z : Str) : Bool := z.cps.toList.all fun c => c == 110 || (b && c == 114)
def spSizeA (K : Frag) (lo hi : Int) : Sp := fun vs H Q _ => ∃ v : V, vs = [v] ∧ Kd K H v ∧ Q (.bl (whole v lo hi)) H
def Yes (H : Hp) (Q : VK) : Prop := ∀ H', Ex H H' → Q (.bl true) H'
def spItems : Sp := fun vs H Q _ => ∃ (v : V) (is : List Int) (s m : Int), vs = [v, .int s, .int m] ∧ Tz H v (.tuple (is.map PyData.int)) ∧ (is.length : Int) ≤ m ∧ m < 900 ∧ (∀ i ∈ is, 0 ≤ i ∧ i < s) ∧ Yes H Q
def spName : Sp := fun vs H Q _ => ∃ z : Str, vs = [.str z] ∧ nameOk z = true ∧ Yes H Q
def spRise : Sp := fun vs H Q _ => ∃ (a : Addr) (ss : List Str), vs = [.ref a] ∧ (H a = some (.lst (ss.map V.str)) ∨ H a = some (.tup (ss.map V.str))) ∧ rises ss = true ∧ ss.length < 900 ∧ Yes H Q
def spNames : Sp := fun vs H Q _ => ∃ (v : V) (ss : List Str) (m : Int), vs = [v, .int m] ∧ Tz H v (.tuple (ss.map PyData.str)) ∧ okN ss = true ∧ (ss.length : Int) ≤ m ∧ m < 900 ∧ Yes H Q
def spKinds : Sp := fun vs H Q _ => ∃ (z : Str) (m : Int) (b : Bool), vs = [.str z, .int m, .bl b] ∧ (z.length : Int) ≤ m ∧ m < 900 ∧ kindsOk b z = true ∧ Yes H Q
def spPairs : Sp := fun vs H Q _ => ∃ (v : V) (ps : List (Str × PyData)) (m : Int), vs = [v, .int m] ∧ Tz H v (.tuple (ps.map pD)) ∧ (ps.length : Int) ≤ m ∧ m < 900 ∧ okN (ps.map (·.1)) = true ∧ Yes H Q
theorem flat_strs (ss : List Str) : (ss.map V.str).all flatV = true := by simp [flatV]
theorem kt_str {K : Frag} {H : Hp} (z : Str) : TyX K H (.str z) (.type "str") := .base (.str z)

section
variable {P : Program} {w : World} {K : Frag} {mg : Str → Option Value} {base : Heap} {A : Ad}

theorem ok_is_whole (T : Txt K mg A) : FnOk P w K mg base CX0 1 A.f_is_whole A.d_is_whole ["value", "low", "below"] (spWholeA K) := by
  refine T.F_is_whole.ok sc_is_whole (fun vs H Q E h => ?_) (fun cdv A0 outer s H vs Q E hr h => ?_)
  · obtain ⟨_, _, _, rfl, _⟩ := h
    rfl
  · have hu := hu_of hr
    obtain ⟨v, lo, hi, rfl, hk, k⟩ := h
    refine ⟨_, (pss_one (ps_ret (pe_and (pe_callB call_isi (by rfl) T.g_isinstance (by decide +kernel) (pa_cons (pv 0) (pa_cons (pe_bltn (v := .ty "int") (by rfl) T.g_int (by decide +kernel) rfl) pa_nil))) (pe_and (pe_not (pe_callB call_isi (by rfl) T.g_isinstance (by decide +kernel) (pa_cons (pv 0) (pa_cons (pe_bltn (v := .ty "bool") (by rfl) T.g_bool (by decide +kernel) rfl) pa_nil)))) (pe_one (pe_chain op_le op_lt (pv 1) (pv 0) (pv 2))))))), ?_⟩
    obtain ⟨t, ty, ki, kb⟩ := hk
    cases v with
    | int i =>
      refine ⟨_, rfl, _, _, _, _, _, rfl, .ty _, ty, ki, true, rfl, iteT ?_⟩
      refine ⟨_, rfl, _, _, _, _, _, rfl, .ty _, ty, kb, false, rfl, true, rfl, iteT ?_⟩
      refine ⟨_, rfl, _, rfl, _, _, rfl, rfl, _, rfl, if_dec (fun h1 => ?_) (fun h1 => ?_)⟩
      · refine ⟨_, rfl, _, _, rfl, rfl, ?_⟩
        simp only [whole, decide_eq_true h1, Bool.true_and] at k
        exact k
      · simp only [whole, decide_eq_false h1, Bool.false_and] at k
        exact k
    | bl b =>
      refine ⟨_, rfl, _, _, _, _, _, rfl, .ty _, ty, ki, true, rfl, iteT ?_⟩
      exact ⟨_, rfl, _, _, _, _, _, rfl, .ty _, ty, kb, true, rfl, false, rfl, iteF k⟩
    | _ => exact ⟨_, rfl, _, _, _, _, _, rfl, .ty _, ty, ki, false, rfl, iteF k⟩
theorem ok_is_size (T : Txt K mg A) : FnOk P w K mg base CX0 2 A.f_is_size A.d_is_size ["value"] (spSizeA K 2 5) := by
  refine T.F_is_size.ok sc_is_size (fun vs H Q E h => ?_) (fun cdv A0 outer s H vs Q E hr h => ?_)
  · obtain ⟨_, rfl, _⟩ := h
    rfl
  · have hu := hu_of hr
    obtain ⟨v, rfl, hk, k⟩ := h
    refine ⟨_, (pss_one (ps_ret (pe_call (ok_is_whole T) (hr.mono (by decide)) (by rfl) T.m_is_whole T.F_is_whole.kp T.b_is_whole .nil pass0 (pa_cons (pv 0) (pa_cons pe_int (pa_cons pe_int pa_nil)))))), ?_⟩
    exact ⟨_, rfl, _, _, _, rfl, hk, k⟩
theorem ok_is_most (T : Txt K mg A) : FnOk P w K mg base CX0 2 A.f_is_most A.d_is_most ["value"] (spSizeA K 1 3) := by
  refine T.F_is_most.ok sc_is_most (fun vs H Q E h => ?_) (fun cdv A0 outer s H vs Q E hr h => ?_)
  · obtain ⟨_, rfl, _⟩ := h
    rfl
  · have hu := hu_of hr
    obtain ⟨v, rfl, hk, k⟩ := h
    refine ⟨_, (pss_one (ps_ret (pe_call (ok_is_whole T) (hr.mono (by decide)) (by rfl) T.m_is_whole T.F_is_whole.kp T.b_is_whole .nil pass0 (pa_cons (pv 0) (pa_cons pe_int (pa_cons pe_int pa_nil)))))), ?_⟩
    exact ⟨_, rfl, _, _, _, rfl, hk, k⟩
theorem kd_int {K : Frag} {H : Hp} (i : Int) : Kd K H (.int i) := kd_of (p := 0) (.int i)
theorem whole_yes {i lo hi : Int} (h : lo ≤ i) (k : i < hi) : whole (.int i) lo hi = true := by simp [whole, h, k]
theorem ok_are_items (T : Txt K mg A) : FnOk P w K mg base CX0 2 A.f_are_items A.d_are_items ["value", "size", "most"] (spItems) := by
  refine T.F_are_items.ok sc_are_items (fun vs H Q E h => ?_) (fun cdv A0 outer s H vs Q E hr h => ?_)
  · obtain ⟨_, _, _, _, rfl, _⟩ := h
    rfl
  · have hu := hu_of hr
    obtain ⟨v, is, sz, mo, rfl, hz, hl, hm, hb, k⟩ := h
    refine ⟨_, (pss_cons (ps_if (PW.pt (pw_or (pt_not (pt_val (pe_callB call_isi (by rfl) T.g_isinstance (by decide +kernel) (pa_cons (pv 0) (pa_cons (pe_bltn (v := .ty "tuple") (by rfl) T.g_tuple (by decide +kernel) rfl) pa_nil))))) (pw_or1 (pt_cmpR op_gt (pe_callB call_len_seq (by rfl) T.g_len (by decide +kernel) (pa_cons (pv 0) pa_nil)) (pv 2) (nomark _))))) (pss_one (ps_ret pe_bl)) pss_nil)
      (pss_one (ps_ret (pe_callB (cr_all rfl) (by rfl) T.g_all (by decide +kernel) (pa_cons (pe_lc (own := [("worth", 3)]) (g := (gName 3)) (tt := tYes) rfl sc_are_items.nd (pi_tup (pv 0)) (blkOk_by (N := N_are_items) (sc := defScope s_are_items) (by decide +kernel)) (fun _ _ _ _ _ => pg_name (i := 3) sc_are_items.nd rfl (Or.inl rfl)) (fun _ _ _ _ _ => pts_nil) (fun _ _ _ _ _ => (pe_call (ok_is_whole T) (hr.mono (by decide)) (by rfl) T.m_is_whole T.F_is_whole.kp T.b_is_whole .nil pass0 (pa_cons (pv 3) (pa_cons pe_int (pa_cons (pv 1) pa_nil)))))) pa_nil))))), ?_⟩
    obtain ⟨a, xs, rfl, ht, hx⟩ := hz.tupI
    obtain rfl := hx.ints
    refine ⟨_, rfl, _, _, _, _, _, rfl, .ty _, .base (.tup ht), kit_ty (r := true) (by decide +kernel), _, rfl, HX.if_false rfl ?_⟩
    refine ⟨_, rfl, a, _, rfl, .inr (SqT.of ht), _, rfl, _, _, rfl, rfl, _, rfl, HX.if_false (decide_eq_false (by rw [List.length_map]; omega)) ?_⟩
    refine ⟨_, rfl, a, rfl, ⟨_, SqT.of ht⟩, fun D nD => lc_yes (walk_tup (xs := is.map V.int)) (by rw [List.length_map]; omega) nD (fun H' e => SqT.of (e _ _ ht)) (fun i x H2 H3 Kq hi e y kq => ?_) (fun H2 e hD => ?_)⟩
    · obtain ⟨rfl, hx⟩ := y
      rw [List.getElem?_map] at hx
      obtain ⟨z, hz, rfl⟩ := Option.map_eq_some_iff.mp hx
      have hb2 := hb z (List.mem_of_getElem? hz)
      refine ⟨rfl, _, rfl, _, rfl, _, 0, sz, rfl, kd_int z, ?_⟩
      rw [whole_yes hb2.1 hb2.2]
      exact kq _ (Ex.rf _)
    · refine ⟨D, _, rfl, SqL.of hD, ?_⟩
      rw [rep_all]
      exact k _ e
theorem ok_is_name (T : Txt K mg A) : FnOk P w K mg base CX0 1 A.f_is_name A.d_is_name ["value"] (spName) := by
  refine T.F_is_name.ok sc_is_name (fun vs H Q E h => ?_) (fun cdv A0 outer s H vs Q E hr h => ?_)
  · obtain ⟨_, rfl, _⟩ := h
    rfl
  · have hu := hu_of hr
    obtain ⟨z, rfl, hn, k⟩ := h
    refine ⟨_, (pss_cons (ps_if (PW.pt (pw_or (pt_not (pt_val (pe_callB call_isi (by rfl) T.g_isinstance (by decide +kernel) (pa_cons (pv 0) (pa_cons (pe_bltn (v := .ty "str") (by rfl) T.g_str (by decide +kernel) rfl) pa_nil))))) (pw_or1 (pt_not (pt_chain op_le op_le pe_int (pe_callB call_len_str (by rfl) T.g_len (by decide +kernel) (pa_cons (pv 0) pa_nil)) (pe_glob (v := .int 8) (by rfl) T.c_MOST_LETTERS.choose_spec ⟨_, rfl⟩)))))) (pss_one (ps_ret pe_bl)) pss_nil)
      (pss_one (ps_ret (pe_callB (cr_all rfl) (by rfl) T.g_all (by decide +kernel) (pa_cons (pe_lc (own := [("letter", 1)]) (g := (gName 1)) (tt := tYes) rfl sc_is_name.nd (pi_str (pv 0)) (blkOk_by (N := N_is_name) (sc := defScope s_is_name) (by decide +kernel)) (fun _ _ _ _ _ => pg_name (i := 1) sc_is_name.nd rfl (Or.inl rfl)) (fun _ _ _ _ _ => pts_nil) (fun _ _ _ _ _ => (pe_cmpR op_in_sign (pv 1) (pe_glob (v := .str "abcdefghijklmnopqrstuvwxyz") (by rfl) T.c_LETTERS.choose_spec ⟨_, rfl⟩) (by rfl)))) pa_nil))))), ?_⟩
    unfold nameOk at hn
    simp only [Bool.and_eq_true, decide_eq_true_eq] at hn
    obtain ⟨l1, l8, ha⟩ := hn
    have hs : z.length ≤ sizeLine := Nat.le_trans l8 (by decide)
    refine ⟨_, rfl, _, _, _, _, _, rfl, .ty _, .base (.str z), kit_ty (r := true) (by decide +kernel), _, rfl, HX.if_false rfl ?_⟩
    refine ⟨_, rfl, z, rfl, hs, _, _, rfl, rfl, _, rfl, HX.if_true (decide_eq_true (by omega)) ?_⟩
    refine ⟨_, _, rfl, rfl, _, rfl, HX.if_false (by rw [decide_eq_true (by omega)]; rfl) ?_⟩
    refine ⟨_, rfl, z, rfl, fun D nD => lc_yes walk_str (by show z.length < 1000; omega) nD (fun _ _ => trivial) (fun i x H2 H3 Kq hi e y kq => ?_) (fun H2 e hD => ?_)⟩
    · obtain ⟨rfl, c, hc, rfl⟩ := y
      refine ⟨rfl, _, rfl, c, _, rfl, rfl, ?_⟩
      have hm : c ∈ z.cps.toList := by
        have := Array.mem_of_getElem? hc
        simpa using this
      have := List.all_eq_true.mp ha c hm
      rw [show decide (c ∈ ("abcdefghijklmnopqrstuvwxyz" : Str).cps.toList) = true from this]
      exact kq _ (Ex.rf _)
    · refine ⟨D, _, rfl, SqL.of hD, ?_⟩
      rw [rep_all]
      exact k _ e
theorem ok_are_rising (T : Txt K mg A) : FnOk P w K mg base CX0 1 A.f_are_rising A.d_are_rising ["names"] (spRise) := by
  refine T.F_are_rising.ok sc_are_rising (fun vs H Q E h => ?_) (fun cdv A0 outer s H vs Q E hr h => ?_)
  · obtain ⟨_, _, rfl, _⟩ := h
    rfl
  · have hu := hu_of hr
    obtain ⟨a, ss, rfl, ha, hr, hl, k⟩ := h
    refine ⟨_, (pss_one (ps_ret (pe_callB (cr_all rfl) (by rfl) T.g_all (by decide +kernel) (pa_cons (pe_lc (own := [("one", 1), ("other", 2)]) (g := (gTup K 2 (gCons (gName 1) (gCons (gName 2) gNil)))) (tt := tYes) rfl sc_are_rising.nd (RZ.pi_zipA (by rfl) T.g_zip (pa_cons (pv 0) (pa_cons (pe_slice sl_seq (pv 0) (po_some pe_int) po_none) pa_nil))) (blkOk_by (N := N_are_rising) (sc := defScope s_are_rising) (by decide +kernel)) (fun _ _ _ _ _ => pg_tup rfl (pgs_cons (pg_name (i := 1) sc_are_rising.nd rfl (Or.inl rfl)) (pgs_cons (pg_name (i := 2) sc_are_rising.nd rfl (Or.inl rfl)) pgs_nil))) (fun _ _ _ _ _ => pts_nil) (fun _ _ _ _ _ => (pe_cmpR op_lt_str (pv 1) (pv 2) (nomark _)))) pa_nil)))), ?_⟩
    have turn : ∀ (i : Nat) (x : V) (H2 H3 : Hp), YPair (fun i => (ss.map V.str)[i]?) (fun i => (ss.map V.str).tail[i]?) i H2 x H3 → ∃ T u z, x = .ref T ∧ H2 T = none ∧ H3 = upd H2 T (.tup [.str u, .str z]) ∧ decide (u.cps.toList < z.cps.toList) = true := fun i x H2 H3 y => by
      obtain ⟨T, v, v', h1, h2, h3, h4, h5⟩ := y
      replace h4 : (ss.map V.str)[i]? = some v := h4
      replace h5 : (ss.map V.str).tail[i]? = some v' := h5
      rw [List.getElem?_map] at h4
      obtain ⟨u, hu, rfl⟩ := Option.map_eq_some_iff.mp h4
      rw [List.getElem?_tail, List.getElem?_map] at h5
      obtain ⟨z, hz, rfl⟩ := Option.map_eq_some_iff.mp h5
      exact ⟨T, u, z, h1, h2, h3, rises_at hr hu hz⟩
    have ln : (ss.map V.str).length = ss.length := List.length_map ..
    have lt : (ss.map V.str).tail.length = ss.length - 1 := by rw [List.length_tail, ln]
    rcases ha with ha | ha
    · refine ⟨_, rfl, _, rfl, _, rfl, .inl ⟨a, _, rfl, SqL.of ha, fun q nq => ?_⟩⟩
      rw [cut_tail]
      have e0 : Ex H (upd H q (.lst (ss.map V.str).tail)) := Ex.nw nq
      refine ⟨a, q, _, _, rfl, .inl ⟨SqL.of (e0 _ _ ha), SqL.of upd_same, fun D nD => lc_yes (walk_zip (xs := ss.map V.str) (ys := (ss.map V.str).tail) rfl) (by omega) nD (fun H' e => ⟨SqL.of (e _ _ (e0 _ _ ha)), SqL.of (e _ _ upd_same)⟩) (fun i x H2 H3 Kq hi e y kq => ?_) (fun H2 e hD => ?_)⟩⟩
      · obtain ⟨T, u, z, rfl, nT, rfl, hlt⟩ := turn i x H2 H3 y
        refine ⟨T, _, rfl, SqT.of upd_same, rfl, _, _, rfl, _, _, rfl, rfl, rfl, _, rfl, _, rfl, u, z, rfl, rfl, ?_⟩
        rw [hlt]
        exact kq _ (Ex.nw nT)
      · refine ⟨D, _, rfl, SqL.of hD, ?_⟩
        rw [rep_all]
        exact k _ (e0.tr e)
    · refine ⟨_, rfl, _, rfl, _, rfl, .inr ⟨a, _, rfl, SqT.of ha, fun hw => ?_, fun hw q nq => ?_⟩⟩
      · have h0 : ss = [] := by
          have := hw.1
          rw [ln] at this
          have h1 : min 1 ss.length = 0 := this
          exact List.eq_nil_of_length_eq_zero (by omega)
        have e0 : Ex H H := Ex.rf _
        have hq : H a = some (.tup (ss.map V.str).tail) := by rw [ha, h0]; rfl
        refine ⟨a, a, _, _, rfl, .inr ⟨SqT.of (e0 _ _ ha), SqT.of hq, fun D nD => lc_yes (walk_zipT (xs := ss.map V.str) (ys := (ss.map V.str).tail) rfl) (by omega) nD (fun H' e => ⟨SqT.of (e _ _ (e0 _ _ ha)), SqT.of (e _ _ hq)⟩) (fun i x H2 H3 Kq hi e y kq => ?_) (fun H2 e hD => ?_)⟩⟩
        · obtain ⟨T, u, z, rfl, nT, rfl, hlt⟩ := turn i x H2 H3 y
          refine ⟨T, _, rfl, SqT.of upd_same, rfl, _, _, rfl, _, _, rfl, rfl, rfl, _, rfl, _, rfl, u, z, rfl, rfl, ?_⟩
          rw [hlt]
          exact kq _ (Ex.nw nT)
        · refine ⟨D, _, rfl, SqL.of hD, ?_⟩
          rw [rep_all]
          exact k _ (e0.tr e)
      · rw [cut_tail]
        have e0 : Ex H (upd H q (.tup (ss.map V.str).tail)) := Ex.nw nq
        have hq : (upd H q (.tup (ss.map V.str).tail)) q = some (.tup (ss.map V.str).tail) := upd_same
        refine ⟨a, q, _, _, rfl, .inr ⟨SqT.of (e0 _ _ ha), SqT.of hq, fun D nD => lc_yes (walk_zipT (xs := ss.map V.str) (ys := (ss.map V.str).tail) rfl) (by omega) nD (fun H' e => ⟨SqT.of (e _ _ (e0 _ _ ha)), SqT.of (e _ _ hq)⟩) (fun i x H2 H3 Kq hi e y kq => ?_) (fun H2 e hD => ?_)⟩⟩
        · obtain ⟨T, u, z, rfl, nT, rfl, hlt⟩ := turn i x H2 H3 y
          refine ⟨T, _, rfl, SqT.of upd_same, rfl, _, _, rfl, _, _, rfl, rfl, rfl, _, rfl, _, rfl, u, z, rfl, rfl, ?_⟩
          rw [hlt]
          exact kq _ (Ex.nw nT)
        · refine ⟨D, _, rfl, SqL.of hD, ?_⟩
          rw [rep_all]
          exact k _ (e0.tr e)
theorem ok_are_names (T : Txt K mg A) : FnOk P w K mg base CX0 2 A.f_are_names A.d_are_names ["value", "most"] (spNames) := by
  refine T.F_are_names.ok sc_are_names (fun vs H Q E h => ?_) (fun cdv A0 outer s H vs Q E hr h => ?_)
  · obtain ⟨_, _, _, rfl, _⟩ := h
    rfl
  · have hu := hu_of hr
    obtain ⟨v, ss, m, rfl, hz, hn, hl, hm, k⟩ := h
    refine ⟨_, (pss_cons (ps_if (PW.pt (pw_or (pt_not (pt_val (pe_callB call_isi (by rfl) T.g_isinstance (by decide +kernel) (pa_cons (pv 0) (pa_cons (pe_bltn (v := .ty "tuple") (by rfl) T.g_tuple (by decide +kernel) rfl) pa_nil))))) (pw_or1 (pt_cmpR op_gt (pe_callB call_len_seq (by rfl) T.g_len (by decide +kernel) (pa_cons (pv 0) pa_nil)) (pv 1) (nomark _))))) (pss_one (ps_ret pe_bl)) pss_nil)
      (pss_one (ps_ret (pe_and (pe_callB (cr_all rfl) (by rfl) T.g_all (by decide +kernel) (pa_cons (pe_lc (own := [("name", 2)]) (g := (gName 2)) (tt := tYes) rfl sc_are_names.nd (pi_tup (pv 0)) (blkOk_by (N := N_are_names) (sc := defScope s_are_names) (by decide +kernel)) (fun _ _ _ _ _ => pg_name (i := 2) sc_are_names.nd rfl (Or.inl rfl)) (fun _ _ _ _ _ => pts_nil) (fun _ _ _ _ _ => (pe_call (ok_is_name T) (hr.mono (by decide)) (by rfl) T.m_is_name T.F_is_name.kp T.b_is_name .nil pass0 (pa_cons (pv 2) pa_nil)))) pa_nil)) (pe_one (pe_call (ok_are_rising T) (hr.mono (by decide)) (by rfl) T.m_are_rising T.F_are_rising.kp T.b_are_rising .nil pass0 (pa_cons (pv 0) pa_nil))))))), ?_⟩
    obtain ⟨a, xs, rfl, ht, hx⟩ := hz.tupI
    obtain rfl := hx.strs
    obtain ⟨n1, n2⟩ := Bool.and_eq_true_iff.mp (show (ss.all nameOk && rises ss) = true from hn)
    refine ⟨_, rfl, _, _, _, _, _, rfl, .ty _, .base (.tup ht), kit_ty (r := true) (by decide +kernel), _, rfl, HX.if_false rfl ?_⟩
    refine ⟨_, rfl, a, _, rfl, .inr (SqT.of ht), _, rfl, _, _, rfl, rfl, _, rfl, HX.if_false (decide_eq_false (by rw [List.length_map]; omega)) ?_⟩
    refine ⟨_, rfl, a, rfl, ⟨_, SqT.of ht⟩, fun D nD => lc_yes (walk_tup (xs := ss.map V.str)) (by rw [List.length_map]; omega) nD (fun H' e => SqT.of (e _ _ ht)) (fun i x H2 H3 Kq hi e y kq => ?_) (fun H2 e hD => ?_)⟩
    · obtain ⟨rfl, hx⟩ := y
      rw [List.getElem?_map] at hx
      obtain ⟨z, hz, rfl⟩ := Option.map_eq_some_iff.mp hx
      exact ⟨rfl, _, rfl, z, rfl, List.all_eq_true.mp n1 z (List.mem_of_getElem? hz), fun H4 e4 => kq H4 e4⟩
    · refine ⟨D, _, rfl, SqL.of hD, ?_⟩
      rw [rep_all]
      refine ⟨_, rfl, HX.if_true rfl ?_⟩
      exact ⟨_, rfl, a, ss, rfl, .inr (e _ _ ht), n2, by omega, fun H4 e4 => k _ (e.tr e4)⟩
theorem ok_are_kinds (T : Txt K mg A) : FnOk P w K mg base CX0 1 A.f_are_kinds A.d_are_kinds ["value", "most", "with_rows"] (spKinds) := by
  refine T.F_are_kinds.ok sc_are_kinds (fun vs H Q E h => ?_) (fun cdv A0 outer s H vs Q E hr h => ?_)
  · obtain ⟨_, _, _, rfl, _⟩ := h
    rfl
  · have hu := hu_of hr
    obtain ⟨z, m, b, rfl, hl, hm, hk, k⟩ := h
    refine ⟨_, (pss_cons (ps_if (PW.pt (pw_or (pt_not (pt_val (pe_callB call_isi (by rfl) T.g_isinstance (by decide +kernel) (pa_cons (pv 0) (pa_cons (pe_bltn (v := .ty "str") (by rfl) T.g_str (by decide +kernel) rfl) pa_nil))))) (pw_or1 (pt_cmpR op_gt (pe_callB call_len_str (by rfl) T.g_len (by decide +kernel) (pa_cons (pv 0) pa_nil)) (pv 1) (nomark _))))) (pss_one (ps_ret pe_bl)) pss_nil)
      (pss_cons (ps_set (i := 3) sc_are_kinds.nd rfl (Or.inr rfl) (pe_ifExp (pt_val (pv 2)) pe_str pe_str))
      (pss_one (ps_ret (pe_callB (cr_all rfl) (by rfl) T.g_all (by decide +kernel) (pa_cons (pe_lc (own := [("kind", 4)]) (g := (gName 4)) (tt := tYes) rfl sc_are_kinds.nd (pi_str (pv 0)) (blkOk_by (N := N_are_kinds) (sc := defScope s_are_kinds) (by decide +kernel)) (fun _ _ _ _ _ => pg_name (i := 4) sc_are_kinds.nd rfl (Or.inl rfl)) (fun _ _ _ _ _ => pts_nil) (fun _ _ _ _ _ => (pe_cmpR op_in_sign (pv 4) (pv 3) (by rfl)))) pa_nil)))))), ?_⟩
    have hs : z.length ≤ sizeLine := Nat.le_of_lt (small (by omega))
    refine ⟨_, rfl, _, _, _, _, _, rfl, .ty _, .base (.str z), kit_ty (r := true) (by decide +kernel), _, rfl, HX.if_false rfl ?_⟩
    refine ⟨_, rfl, z, rfl, hs, _, rfl, _, _, rfl, rfl, _, rfl, HX.if_false (decide_eq_false (by omega)) ?_⟩
    have fin : ∀ (y : Str), (∀ c ∈ z.cps.toList, decide (c ∈ y.cps.toList) = true) → True := fun _ _ => trivial
    clear fin
    cases b with
    | true =>
      refine ⟨_, rfl, _, rfl, HX.if_true rfl ?_⟩
      refine ⟨_, rfl, z, rfl, fun D nD => lc_yes walk_str (by show z.length < 1000; omega) nD (fun _ _ => trivial) (fun i x H2 H3 Kq hi e y kq => ?_) (fun H2 e hD => ?_)⟩
      · obtain ⟨rfl, c, hc, rfl⟩ := y
        refine ⟨rfl, _, rfl, _, rfl, c, _, rfl, rfl, ?_⟩
        have hm : c ∈ z.cps.toList := by
          have := Array.mem_of_getElem? hc
          simpa using this
        have q := List.all_eq_true.mp hk c hm
        rw [decide_eq_true (by simp at q; first | (rcases q with q | q <;> (subst q; decide)) | (subst q; decide))]
        exact kq _ (Ex.rf _)
      · refine ⟨D, _, rfl, SqL.of hD, ?_⟩
        rw [rep_all]
        exact k _ e
    | false =>
      refine ⟨_, rfl, _, rfl, HX.if_false rfl ?_⟩
      refine ⟨_, rfl, z, rfl, fun D nD => lc_yes walk_str (by show z.length < 1000; omega) nD (fun _ _ => trivial) (fun i x H2 H3 Kq hi e y kq => ?_) (fun H2 e hD => ?_)⟩
      · obtain ⟨rfl, c, hc, rfl⟩ := y
        refine ⟨rfl, _, rfl, _, rfl, c, _, rfl, rfl, ?_⟩
        have hm : c ∈ z.cps.toList := by
          have := Array.mem_of_getElem? hc
          simpa using this
        have q := List.all_eq_true.mp hk c hm
        rw [decide_eq_true (by simp at q; first | (rcases q with q | q <;> (subst q; decide)) | (subst q; decide))]
        exact kq _ (Ex.rf _)
      · refine ⟨D, _, rfl, SqL.of hD, ?_⟩
        rw [rep_all]
        exact k _ e
theorem pd_at {H : Hp} {ps : List (Str × PyData)} {xs : List V} (h : TzL H xs (ps.map pD)) {i : Nat} {x : V} (hx : xs[i]? = some x) : ∃ (p : Str × PyData) (a : Addr) (v : V), ps[i]? = some p ∧ x = .ref a ∧ H a = some (.tup [.str p.1, v]) ∧ Tz H v p.2 := by
  obtain ⟨d, hd, tz⟩ := h.gotV hx
  rw [List.getElem?_map] at hd
  obtain ⟨p, hp, rfl⟩ := Option.map_eq_some_iff.mp hd
  obtain ⟨a, y, v, rfl, ha, hy, hv⟩ := Tz.tup2 (d := .str p.1) (e := p.2) tz
  obtain rfl := hy.strI
  exact ⟨p, a, v, hp, rfl, ha, hv⟩
theorem ok_are_pairs (T : Txt K mg A) : FnOk P w K mg base CX0 2 A.f_are_pairs A.d_are_pairs ["value", "most"] (spPairs) := by
  refine T.F_are_pairs.ok sc_are_pairs (fun vs H Q E h => ?_) (fun cdv A0 outer s H vs Q E hr h => ?_)
  · obtain ⟨_, _, _, rfl, _⟩ := h
    rfl
  · have hu := hu_of hr
    obtain ⟨v, ps, m, rfl, hz, hl, hm, hn, k⟩ := h
    refine ⟨_, (pss_cons (ps_if (PW.pt (pw_or (pt_not (pt_val (pe_callB call_isi (by rfl) T.g_isinstance (by decide +kernel) (pa_cons (pv 0) (pa_cons (pe_bltn (v := .ty "tuple") (by rfl) T.g_tuple (by decide +kernel) rfl) pa_nil))))) (pw_or1 (pt_cmpR op_gt (pe_callB call_len_seq (by rfl) T.g_len (by decide +kernel) (pa_cons (pv 0) pa_nil)) (pv 1) (nomark _))))) (pss_one (ps_ret pe_bl)) pss_nil)
      (pss_cons (ps_if (pt_not (pt_val (pe_callB (cr_all rfl) (by rfl) T.g_all (by decide +kernel) (pa_cons (pe_lc (own := [("pair", 2)]) (g := (gName 2)) (tt := tYes) rfl sc_are_pairs.nd (pi_tup (pv 0)) (blkOk_by (N := N_are_pairs) (sc := defScope s_are_pairs) (by decide +kernel)) (fun _ _ _ _ _ => pg_name (i := 2) sc_are_pairs.nd rfl (Or.inl rfl)) (fun _ _ _ _ _ => pts_nil) (fun _ _ _ _ _ => (pe_and (pe_callB (call_isiK0 (K := K) rfl) (by rfl) T.g_isinstance (by decide +kernel) (pa_cons (pv 2) (pa_cons (pe_bltn (v := .ty "tuple") (by rfl) T.g_tuple (by decide +kernel) rfl) pa_nil))) (pe_and (pe_cmpR op_eq (pe_callB (call_lenK (K := K) rfl) (by rfl) T.g_len (by decide +kernel) (pa_cons (pv 2) pa_nil)) pe_int (nomark _)) (pe_one (pe_call (ok_is_name T) (hr.mono (by decide)) (by rfl) T.m_is_name T.F_is_name.kp T.b_is_name .nil pass0 (pa_cons (pe_ix (ix_tupK (K := K) rfl) (pv 2) pe_int (fun _ _ => rfl)) pa_nil))))))) pa_nil)))) (pss_one (ps_ret pe_bl)) pss_nil)
      (pss_one (ps_ret (pe_call (ok_are_rising T) (hr.mono (by decide)) (by rfl) T.m_are_rising T.F_are_rising.kp T.b_are_rising .nil pass0 (pa_cons (pe_lc (own := [("pair", 2)]) (g := (gName 2)) (tt := tYes) rfl sc_are_pairs.nd (pi_tup (pv 0)) (blkOk_by (N := N_are_pairs) (sc := defScope s_are_pairs) (by decide +kernel)) (fun _ _ _ _ _ => pg_name (i := 2) sc_are_pairs.nd rfl (Or.inl rfl)) (fun _ _ _ _ _ => pts_nil) (fun _ _ _ _ _ => (pe_ix (ix_tupK (K := K) rfl) (pv 2) pe_int (fun _ _ => rfl)))) pa_nil)))))), ?_⟩
    obtain ⟨a, xs, rfl, ht, hx⟩ := hz.tupI
    have lx : xs.length = ps.length := by rw [hx.1, List.length_map]
    obtain ⟨n1, n2⟩ := Bool.and_eq_true_iff.mp (show ((ps.map (·.1)).all nameOk && rises (ps.map (·.1))) = true from hn)
    refine ⟨_, rfl, _, _, _, _, _, rfl, .ty _, .base (.tup ht), kit_ty (r := true) (by decide +kernel), _, rfl, HX.if_false rfl ?_⟩
    refine ⟨_, rfl, a, _, rfl, .inr (SqT.of ht), _, rfl, _, _, rfl, rfl, _, rfl, HX.if_false (decide_eq_false (by omega)) ?_⟩
    refine ⟨_, rfl, a, rfl, ⟨_, SqT.of ht⟩, fun D nD => lc_yes (walk_tup (xs := xs)) (by omega) nD (fun H' e => SqT.of (e _ _ ht)) (fun i x H2 H3 Kq hi e y kq => ?_) (fun H2 e hD => ?_)⟩
    · obtain ⟨rfl, hx2⟩ := y
      obtain ⟨p, b, w2, hp, rfl, hb, hw⟩ := pd_at hx hx2
      have hb2 := e _ _ hb
      refine ⟨rfl, _, rfl, _, _, _, _, _, rfl, .ty _, .base (.tup hb2), kit_ty (r := true) (by decide +kernel), true, rfl, iteT ?_⟩
      refine ⟨_, rfl, b, _, rfl, .inr (SqT.of hb2), rfl, true, rfl, iteT ?_⟩
      refine ⟨_, rfl, b, _, _, _, rfl, rfl, SqT.of hb2, rfl, p.1, rfl, ?_, fun H4 e4 => kq H4 e4⟩
      exact List.all_eq_true.mp n1 _ (List.mem_map.mpr ⟨p, List.mem_of_getElem? hp, rfl⟩)
    · refine ⟨D, _, rfl, SqL.of hD, ?_⟩
      rw [rep_all]
      refine ⟨_, rfl, HX.if_false rfl ?_⟩
      refine ⟨_, rfl, a, rfl, ⟨_, SqT.of (e _ _ ht)⟩, fun D2 nD2 => lc_tz (walk_tup (xs := xs)) (fun i => .str ((ps.map (·.1))[i]?.getD "")) (by omega) nD2 (fun H' e' => SqT.of (e' _ _ (e _ _ ht))) (fun i x H3 H4 Kq hi e' y kq => ?_) (fun H3 ys e' hD2 hy => ?_)⟩
      · obtain ⟨rfl, hx2⟩ := y
        obtain ⟨p, b, w2, hp, rfl, hb, hw⟩ := pd_at hx hx2
        have hb2 := e' _ _ (e _ _ hb)
        refine ⟨rfl, _, rfl, b, _, _, _, rfl, rfl, SqT.of hb2, rfl, kq _ _ (Ex.rf _) ?_⟩
        rw [List.getElem?_map, hp]
        exact .str _
      · have en : (List.range xs.length).map (fun i => PyData.str ((ps.map (·.1))[i]?.getD "")) = (ps.map (·.1)).map PyData.str := by
          refine List.ext_getElem? fun i => ?_
          by_cases hi : i < xs.length
          · have h2 : i < ps.length := by omega
            simp [List.getElem?_range, hi, h2]
          · rw [List.getElem?_eq_none (by simpa using hi), List.getElem?_eq_none (by simp; omega)]
        rw [en] at hy
        obtain rfl := hy.strs
        exact ⟨D2, _, rfl, .inl hD2, n2, by rw [List.length_map]; omega, fun H4 e4 => k _ (e.tr (e'.tr e4))⟩
end
end K25
set_option Elab.async false
set_option linter.all false
set_option maxRecDepth 100000
set_option maxHeartbeats 4400000
namespace K25
open PySem PySem.Spec PyProof.Rows L2 HX
open PySem.W (Frag)


structure Lore where
  sz : Int
  mo : Int
  cn : List (Str × Int)
  rn : List (Str × List Int)
  lo : List Str
def cP (c : Str × Int) : Str × PyData := (c.1, .int c.2)
def itD (is : List Int) : PyData := .tuple (is.map PyData.int)
def rP (r : Str × List Int) : Str × PyData := (r.1, itD r.2)
def Lore.cD (L : Lore) : PyData := .tuple (L.cn.map fun c => pD (cP c))
def Lore.rD (L : Lore) : PyData := .tuple (L.rn.map fun r => pD (rP r))
def Lore.lD (L : Lore) : PyData := .tuple (L.lo.map PyData.str)
def Lore.cs (L : Lore) : List Str := L.cn.map (·.1)
def Lore.rs (L : Lore) : List Str := L.rn.map (·.1)
structure Lore.Ok (L : Lore) : Prop where
  s0 : 2 ≤ L.sz
  s1 : L.sz < 5
  m0 : 1 ≤ L.mo
  m1 : L.mo < 3
  c2 : L.cn.length ≤ 2
  cN : okN L.cs = true
  cw : ∀ c ∈ L.cn, 0 ≤ c.2 ∧ c.2 < L.sz
  r2 : L.rn.length ≤ 2
  rN : okN L.rs = true
  rw_ : ∀ r ∈ L.rn, (r.2.length : Int) ≤ L.mo ∧ ∀ i ∈ r.2, 0 ≤ i ∧ i < L.sz
  ap : ∀ x ∈ L.rs, x ∉ L.cs
  lN : okN L.lo = true
  ll : L.lo.length ≤ L.cs.length + L.rs.length
  lt : ∀ x ∈ L.lo, x ∈ L.cs ++ L.rs
  so : ∀ x ∈ L.rs, PyData.strOk x = true
theorem cD_pairs (L : Lore) : L.cD = .tuple ((L.cn.map cP).map pD) := by unfold Lore.cD; rw [List.map_map]; rfl
theorem rD_pairs (L : Lore) : L.rD = .tuple ((L.rn.map rP).map pD) := by unfold Lore.rD; rw [List.map_map]; rfl
theorem cs_pairs (L : Lore) : (L.cn.map cP).map (·.1) = L.cs := by rw [List.map_map]; rfl
theorem rs_pairs (L : Lore) : (L.rn.map rP).map (·.1) = L.rs := by rw [List.map_map]; rfl
/-- the pairs of a tuple, one by one -/
theorem cell_at {H : Hp} {L : Lore} {v : V} (h : Tz H v L.cD) : ∃ a xs, v = .ref a ∧ H a = some (.tup xs) ∧ xs.length = L.cn.length ∧ ∀ (i : Nat) (x : V), xs[i]? = some x → ∃ (c : Str × Int) (b : Addr), L.cn[i]? = some c ∧ x = .ref b ∧ H b = some (.tup [.str c.1, .int c.2]) := by
  rw [cD_pairs] at h
  obtain ⟨a, xs, rfl, ha, hx⟩ := h.tupI
  refine ⟨a, xs, rfl, ha, by rw [hx.1, List.length_map, List.length_map], fun i x e => ?_⟩
  obtain ⟨p, b, v, hp, rfl, hb, hv⟩ := pd_at hx e
  rw [List.getElem?_map] at hp
  obtain ⟨c, hc, rfl⟩ := Option.map_eq_some_iff.mp hp
  obtain rfl := Tz.intI (i := c.2) hv
  exact ⟨c, b, hc, rfl, hb⟩
theorem row_at {H : Hp} {L : Lore} {v : V} (h : Tz H v L.rD) : ∃ a xs, v = .ref a ∧ H a = some (.tup xs) ∧ xs.length = L.rn.length ∧ ∀ (i : Nat) (x : V), xs[i]? = some x → ∃ (r : Str × List Int) (b : Addr) (u : V), L.rn[i]? = some r ∧ x = .ref b ∧ H b = some (.tup [.str r.1, u]) ∧ Tz H u (itD r.2) := by
  rw [rD_pairs] at h
  obtain ⟨a, xs, rfl, ha, hx⟩ := h.tupI
  refine ⟨a, xs, rfl, ha, by rw [hx.1, List.length_map, List.length_map], fun i x e => ?_⟩
  obtain ⟨p, b, v, hp, rfl, hb, hv⟩ := pd_at hx e
  rw [List.getElem?_map] at hp
  obtain ⟨r, hr, rfl⟩ := Option.map_eq_some_iff.mp hp
  exact ⟨r, b, v, hr, rfl, hb, hv⟩
theorem eqV_str (a b : Str) : eqV (.str a) (.str b) = decide (a = b) := by
  by_cases h : a = b <;> simp [eqV, h]
theorem inV_strs (x : Str) (ss : List Str) : inV (.str x) (ss.map V.str) = decide (x ∈ ss) := by
  unfold inV
  rw [List.any_map]
  induction ss with
  | nil => simp
  | cons s r ih =>
    simp only [List.any_cons, Function.comp, eqV_str] at ih ⊢
    rw [ih]
    by_cases h : s = x
    · simp [h]
    · have h2 : ¬ x = s := fun z => h z.symm
      simp [h, h2]
def spCells : Sp := fun vs H Q _ => ∃ (v : V) (L : Lore), vs = [v, .int L.sz] ∧ L.Ok ∧ Tz H v L.cD ∧ Yes H Q
def spRows : Sp := fun vs H Q _ => ∃ (v vc : V) (L : Lore), vs = [v, .int L.sz, .int L.mo, vc] ∧ L.Ok ∧ Tz H v L.rD ∧ Tz H vc L.cD ∧ Yes H Q
def spLoose : Sp := fun vs H Q _ => ∃ (v vc vr : V) (L : Lore), vs = [v, vc, vr] ∧ L.Ok ∧ Tz H v L.lD ∧ Tz H vc L.cD ∧ Tz H vr L.rD ∧ Yes H Q

section
variable {P : Program} {w : World} {K : Frag} {mg : Str → Option Value} {base : Heap} {A : Ad}

theorem names_of {n : Nat} {ss : List Str} (h : n = ss.length) : (List.range n).map (fun i => PyData.str (ss[i]?.getD "")) = ss.map PyData.str := by
  subst h
  refine List.ext_getElem? fun i => ?_
  by_cases hi : i < ss.length
  · simp [List.getElem?_range, hi]
  · rw [List.getElem?_eq_none (by simpa using hi), List.getElem?_eq_none (by simp; omega)]
theorem ok_are_cells (T : Txt K mg A) : FnOk P w K mg base CX0 3 A.f_are_cells A.d_are_cells ["value", "size"] (spCells) := by
  refine T.F_are_cells.ok sc_are_cells (fun vs H Q E h => ?_) (fun cdv A0 outer s H vs Q E hr h => ?_)
  · obtain ⟨_, _, rfl, _⟩ := h
    rfl
  · have hu := hu_of hr
    obtain ⟨v, L, rfl, ok, hz, k⟩ := h
    refine ⟨_, (pss_one (ps_ret (pe_and (pe_call (ok_are_pairs T) (hr.mono (by decide)) (by rfl) T.m_are_pairs T.F_are_pairs.kp T.b_are_pairs .nil pass0 (pa_cons (pv 0) (pa_cons (pe_glob (v := .int 2) (by rfl) T.c_MOST_CELLS.choose_spec ⟨_, rfl⟩) pa_nil))) (pe_one (pe_callB (cr_all rfl) (by rfl) T.g_all (by decide +kernel) (pa_cons (pe_lc (own := [("cell", 2)]) (g := (gName 2)) (tt := tYes) rfl sc_are_cells.nd (pi_tup (pv 0)) (blkOk_by (N := N_are_cells) (sc := defScope s_are_cells) (by decide +kernel)) (fun _ _ _ _ _ => pg_name (i := 2) sc_are_cells.nd rfl (Or.inl rfl)) (fun _ _ _ _ _ => pts_nil) (fun _ _ _ _ _ => (pe_call (ok_is_whole T) (hr.mono (by decide)) (by rfl) T.m_is_whole T.F_is_whole.kp T.b_is_whole .nil pass0 (pa_cons (pe_ix (ix_tupK (K := K) rfl) (pv 2) pe_int (fun _ _ => rfl)) (pa_cons pe_int (pa_cons (pv 1) pa_nil)))))) pa_nil)))))), ?_⟩
    obtain ⟨a, xs, rfl, ha, lx, hx⟩ := cell_at hz
    refine ⟨_, rfl, _, L.cn.map cP, 2, rfl, by rw [← cD_pairs]; exact hz, by rw [List.length_map]; have := ok.c2; omega, by omega, by rw [cs_pairs]; exact ok.cN, fun H1 e1 => ⟨_, rfl, HX.if_true rfl ?_⟩⟩
    have ha1 := e1 _ _ ha
    have c2 := ok.c2
    refine ⟨_, rfl, a, rfl, ⟨_, SqT.of ha1⟩, fun D nD => lc_yes (walk_tup (xs := xs)) (by omega) nD (fun H' e => SqT.of (e _ _ ha1)) (fun i x H2 H3 Kq hi e y kq => ?_) (fun H2 e hD => ?_)⟩
    · obtain ⟨rfl, hx2⟩ := y
      obtain ⟨c, b, hc, rfl, hb⟩ := hx i x hx2
      have hw := ok.cw c (List.mem_of_getElem? hc)
      have hb2 := e _ _ (e1 _ _ hb)
      refine ⟨rfl, _, rfl, b, _, _, _, rfl, rfl, SqT.of hb2, rfl, _, rfl, _, 0, L.sz, rfl, kd_int c.2, ?_⟩
      rw [whole_yes hw.1 hw.2]
      exact kq _ (Ex.rf _)
    · refine ⟨D, _, rfl, SqL.of hD, ?_⟩
      rw [rep_all]
      exact k _ (e1.tr e)
theorem ok_are_rows (T : Txt K mg A) : FnOk P w K mg base CX0 3 A.f_are_rows A.d_are_rows ["value", "size", "most", "cells"] (spRows) := by
  refine T.F_are_rows.ok sc_are_rows (fun vs H Q E h => ?_) (fun cdv A0 outer s H vs Q E hr h => ?_)
  · obtain ⟨_, _, _, rfl, _⟩ := h
    rfl
  · have hu := hu_of hr
    obtain ⟨v, vc, L, rfl, ok, hz, hc, k⟩ := h
    refine ⟨_, (pss_cons (ps_if (PW.pt (pw_or (pt_not (pt_val (pe_call (ok_are_pairs T) (hr.mono (by decide)) (by rfl) T.m_are_pairs T.F_are_pairs.kp T.b_are_pairs .nil pass0 (pa_cons (pv 0) (pa_cons (pe_glob (v := .int 2) (by rfl) T.c_MOST_ROWS.choose_spec ⟨_, rfl⟩) pa_nil))))) (pw_or1 (pt_not (pt_val (pe_callB (cr_all rfl) (by rfl) T.g_all (by decide +kernel) (pa_cons (pe_lc (own := [("row", 6)]) (g := (gName 6)) (tt := tYes) rfl sc_are_rows.nd (pi_tup (pv 0)) (blkOk_by (N := N_are_rows) (sc := defScope s_are_rows) (by decide +kernel)) (fun _ _ _ _ _ => pg_name (i := 6) sc_are_rows.nd rfl (Or.inl rfl)) (fun _ _ _ _ _ => pts_nil) (fun _ _ _ _ _ => (pe_call (ok_are_items T) (hr.mono (by decide)) (by rfl) T.m_are_items T.F_are_items.kp T.b_are_items .nil pass0 (pa_cons (pe_ix (ix_tupK (K := K) rfl) (pv 6) pe_int (fun _ _ => rfl)) (pa_cons (pv 1) (pa_cons (pv 2) pa_nil)))))) pa_nil))))))) (pss_one (ps_ret pe_bl)) pss_nil)
      (pss_cons (ps_set (i := 4) sc_are_rows.nd rfl (Or.inr rfl) (pe_lc (own := [("cell", 5)]) (g := (gName 5)) (tt := tYes) rfl sc_are_rows.nd (pi_tup (pv 3)) (blkOk_by (N := N_are_rows) (sc := defScope s_are_rows) (by decide +kernel)) (fun _ _ _ _ _ => pg_name (i := 5) sc_are_rows.nd rfl (Or.inl rfl)) (fun _ _ _ _ _ => pts_nil) (fun _ _ _ _ _ => (pe_ix (ix_tupK (K := K) rfl) (pv 5) pe_int (fun _ _ => rfl)))))
      (pss_one (ps_ret (pe_callB (cr_all rfl) (by rfl) T.g_all (by decide +kernel) (pa_cons (pe_lc (own := [("row", 6)]) (g := (gName 6)) (tt := tYes) rfl sc_are_rows.nd (pi_tup (pv 0)) (blkOk_by (N := N_are_rows) (sc := defScope s_are_rows) (by decide +kernel)) (fun _ _ _ _ _ => pg_name (i := 6) sc_are_rows.nd rfl (Or.inl rfl)) (fun _ _ _ _ _ => pts_nil) (fun _ _ _ _ _ => (pe_cmpR (op_notInK (K := K) rfl) (pe_ix (ix_tupK (K := K) rfl) (pv 6) pe_int (fun _ _ => rfl)) (pv 4) (by rfl)))) pa_nil)))))), ?_⟩
    obtain ⟨a, xs, rfl, ha, lx, hx⟩ := row_at hz
    obtain ⟨ac, ys, rfl, hac, ly, hy⟩ := cell_at hc
    have r2 := ok.r2; have c2 := ok.c2
    refine ⟨_, rfl, _, L.rn.map rP, 2, rfl, by rw [← rD_pairs]; exact hz, by rw [List.length_map]; omega, by omega, by rw [rs_pairs]; exact ok.rN, fun H1 e1 => ⟨_, rfl, HX.if_false rfl ?_⟩⟩
    have ha1 := e1 _ _ ha
    refine ⟨_, rfl, a, rfl, ⟨_, SqT.of ha1⟩, fun D nD => lc_yes (walk_tup (xs := xs)) (by omega) nD (fun H' e => SqT.of (e _ _ ha1)) (fun i x H2 H3 Kq hi e y kq => ?_) (fun H2 e hD => ?_)⟩
    · obtain ⟨rfl, hx2⟩ := y
      obtain ⟨r, b, u, hr, rfl, hb, hu2⟩ := hx i x hx2
      have hw := ok.rw_ r (List.mem_of_getElem? hr)
      have hb2 := e _ _ (e1 _ _ hb)
      have m1 := ok.m1
      exact ⟨rfl, _, rfl, b, _, _, _, rfl, rfl, SqT.of hb2, rfl, _, rfl, _, rfl, u, r.2, L.sz, L.mo, rfl, (hu2.ex e1).ex e, hw.1, by omega, hw.2, fun H4 e4 => kq H4 e4⟩
    · refine ⟨D, _, rfl, SqL.of hD, ?_⟩
      rw [rep_all]
      refine ⟨_, rfl, HX.if_false rfl ?_⟩
      have e2 := e1.tr e
      have hc2 := e2 _ _ hac
      refine ⟨_, rfl, ac, rfl, ⟨_, SqT.of hc2⟩, fun D2 nD2 => lc_tz (walk_tup (xs := ys)) (fun i => .str (L.cs[i]?.getD "")) (by omega) nD2 (fun H' e' => SqT.of (e' _ _ hc2)) (fun i x H3 H4 Kq hi e' y kq => ?_) (fun H3 zs e' hD2 hzs => ?_)⟩
      · obtain ⟨rfl, hx2⟩ := y
        obtain ⟨c, b, hcc, rfl, hb⟩ := hy i x hx2
        have hb2 := e' _ _ (e2 _ _ hb)
        refine ⟨rfl, _, rfl, b, _, _, _, rfl, rfl, SqT.of hb2, rfl, kq _ _ (Ex.rf _) ?_⟩
        unfold Lore.cs
        rw [List.getElem?_map, hcc]
        exact .str _
      · rw [names_of (ss := L.cs) (by rw [ly]; exact (List.length_map ..).symm)] at hzs
        obtain rfl := hzs.strs
        have e3 := e2.tr e'
        have ha3 := e3 _ _ ha
        refine ⟨_, rfl, a, rfl, ⟨_, SqT.of ha3⟩, fun D3 nD3 => lc_yes (walk_tup (xs := xs)) (by omega) nD3 (fun H' e4 => SqT.of (e4 _ _ ha3)) (fun i x H5 H6 Kq hi e4 y kq => ?_) (fun H5 e4 hD3 => ?_)⟩
        · obtain ⟨rfl, hx2⟩ := y
          obtain ⟨r, b, u, hr, rfl, hb, hu2⟩ := hx i x hx2
          have hb2 := e4 _ _ (e3 _ _ hb)
          refine ⟨rfl, _, rfl, b, _, _, _, rfl, rfl, SqT.of hb2, rfl, _, rfl, D2, _, rfl, .inl (SqL.of (e4 _ _ hD2)), rfl, flat_strs _, ?_⟩
          have nin : inV (.str r.1) (L.cs.map V.str) = false := by
            rw [inV_strs]
            exact decide_eq_false (ok.ap _ (List.mem_map.mpr ⟨r, List.mem_of_getElem? hr, rfl⟩))
          rw [nin]
          exact kq _ (Ex.rf _)
        · refine ⟨D3, _, rfl, SqL.of hD3, ?_⟩
          rw [rep_all]
          exact k _ (e3.tr e4)
theorem ok_are_loose (T : Txt K mg A) : FnOk P w K mg base CX0 3 A.f_are_loose A.d_are_loose ["value", "cells", "rows"] (spLoose) := by
  refine T.F_are_loose.ok sc_are_loose (fun vs H Q E h => ?_) (fun cdv A0 outer s H vs Q E hr h => ?_)
  · obtain ⟨_, _, _, _, rfl, _⟩ := h
    rfl
  · have hu := hu_of hr
    obtain ⟨v, vc, vr, L, rfl, ok, hz, hc, hrw, k⟩ := h
    refine ⟨_, (pss_cons (ps_set (i := 3) sc_are_loose.nd rfl (Or.inr rfl) (pe_op op_cat (pe_lc (own := [("cell", 4)]) (g := (gName 4)) (tt := tYes) rfl sc_are_loose.nd (pi_tup (pv 1)) (blkOk_by (N := N_are_loose) (sc := defScope s_are_loose) (by decide +kernel)) (fun _ _ _ _ _ => pg_name (i := 4) sc_are_loose.nd rfl (Or.inl rfl)) (fun _ _ _ _ _ => pts_nil) (fun _ _ _ _ _ => (pe_ix (ix_tupK (K := K) rfl) (pv 4) pe_int (fun _ _ => rfl)))) (pe_lc (own := [("row", 5)]) (g := (gName 5)) (tt := tYes) rfl sc_are_loose.nd (pi_tup (pv 2)) (blkOk_by (N := N_are_loose) (sc := defScope s_are_loose) (by decide +kernel)) (fun _ _ _ _ _ => pg_name (i := 5) sc_are_loose.nd rfl (Or.inl rfl)) (fun _ _ _ _ _ => pts_nil) (fun _ _ _ _ _ => (pe_ix (ix_tupK (K := K) rfl) (pv 5) pe_int (fun _ _ => rfl))))))
      (pss_one (ps_ret (pe_and (pe_call (ok_are_names T) (hr.mono (by decide)) (by rfl) T.m_are_names T.F_are_names.kp T.b_are_names .nil pass0 (pa_cons (pv 0) (pa_cons (pe_callB call_len_seq (by rfl) T.g_len (by decide +kernel) (pa_cons (pv 3) pa_nil)) pa_nil))) (pe_one (pe_callB (cr_all rfl) (by rfl) T.g_all (by decide +kernel) (pa_cons (pe_lc (own := [("name", 6)]) (g := (gName 6)) (tt := tYes) rfl sc_are_loose.nd (pi_tup (pv 0)) (blkOk_by (N := N_are_loose) (sc := defScope s_are_loose) (by decide +kernel)) (fun _ _ _ _ _ => pg_name (i := 6) sc_are_loose.nd rfl (Or.inl rfl)) (fun _ _ _ _ _ => pts_nil) (fun _ _ _ _ _ => (pe_cmpR (op_inK (K := K) rfl) (pv 6) (pv 3) (by rfl)))) pa_nil))))))), ?_⟩
    obtain ⟨a, xs, rfl, ha, hx⟩ := hz.tupI
    obtain rfl := hx.strs
    obtain ⟨ac, ys, rfl, hac, ly, hy⟩ := cell_at hc
    obtain ⟨ar, ws, rfl, har, lw, hw⟩ := row_at hrw
    have r2 := ok.r2; have c2 := ok.c2
    have lcs : L.cs.length = L.cn.length := List.length_map ..
    have lrs : L.rs.length = L.rn.length := List.length_map ..
    have ll := ok.ll
    refine ⟨_, rfl, ac, rfl, ⟨_, SqT.of hac⟩, fun D nD => lc_tz (walk_tup (xs := ys)) (fun i => .str (L.cs[i]?.getD "")) (by omega) nD (fun H' e' => SqT.of (e' _ _ hac)) (fun i x H3 H4 Kq hi e' y kq => ?_) (fun H1 zs e1 hD hzs => ?_)⟩
    · obtain ⟨rfl, hx2⟩ := y
      obtain ⟨c, b, hcc, rfl, hb⟩ := hy i x hx2
      refine ⟨rfl, _, rfl, b, _, _, _, rfl, rfl, SqT.of (e' _ _ hb), rfl, kq _ _ (Ex.rf _) ?_⟩
      unfold Lore.cs
      rw [List.getElem?_map, hcc]
      exact .str _
    rw [names_of (ss := L.cs) (by omega)] at hzs
    obtain rfl := hzs.strs
    have har1 := e1 _ _ har
    refine ⟨_, rfl, ar, rfl, ⟨_, SqT.of har1⟩, fun D2 nD2 => lc_tz (walk_tup (xs := ws)) (fun i => .str (L.rs[i]?.getD "")) (by omega) nD2 (fun H' e' => SqT.of (e' _ _ har1)) (fun i x H3 H4 Kq hi e' y kq => ?_) (fun H2 zs e2 hD2 hzs => ?_)⟩
    · obtain ⟨rfl, hx2⟩ := y
      obtain ⟨r, b, u, hrr, rfl, hb, hu2⟩ := hw i x hx2
      refine ⟨rfl, _, rfl, b, _, _, _, rfl, rfl, SqT.of (e' _ _ (e1 _ _ hb)), rfl, kq _ _ (Ex.rf _) ?_⟩
      unfold Lore.rs
      rw [List.getElem?_map, hrr]
      exact .str _
    rw [names_of (ss := L.rs) (by omega)] at hzs
    obtain rfl := hzs.strs
    have hDa := e2 _ _ hD
    refine ⟨D, D2, _, _, rfl, rfl, hDa, hD2, Nat.le_of_lt (small (by rw [List.length_map, List.length_map]; omega)), fun l nl => ?_⟩
    rw [← List.map_append]
    have hl : (upd H2 l (.lst ((L.cs ++ L.rs).map V.str))) l = some (.lst ((L.cs ++ L.rs).map V.str)) := upd_same
    have e3 : Ex H (upd H2 l (.lst ((L.cs ++ L.rs).map V.str))) := (e1.tr e2).tr (Ex.nw nl)
    obtain ⟨H3, E3⟩ : ∃ z, z = upd H2 l (.lst ((L.cs ++ L.rs).map V.str)) := ⟨_, rfl⟩
    rw [← E3] at hl e3 ⊢
    refine ⟨_, rfl, _, rfl, l, _, rfl, .inl (SqL.of hl), _, L.lo, _, rfl, hz.ex e3, ok.lN, by rw [List.length_map, List.length_append]; omega, by rw [List.length_map, List.length_append]; omega, fun H4 e4 => ⟨_, rfl, HX.if_true rfl ?_⟩⟩
    have e5 := e3.tr e4
    have ha5 := e5 _ _ ha
    have hl4 := e4 _ _ hl
    refine ⟨_, rfl, a, rfl, ⟨_, SqT.of ha5⟩, fun D3 nD3 => lc_yes (walk_tup (xs := L.lo.map V.str)) (by rw [List.length_map]; omega) nD3 (fun H' e6 => SqT.of (e6 _ _ ha5)) (fun i x H5 H6 Kq hi e6 y kq => ?_) (fun H5 e6 hD3 => ?_)⟩
    · obtain ⟨rfl, hx2⟩ := y
      rw [List.getElem?_map] at hx2
      obtain ⟨z, hz2, rfl⟩ := Option.map_eq_some_iff.mp hx2
      refine ⟨rfl, _, rfl, _, rfl, l, _, rfl, .inl (SqL.of (e6 _ _ hl4)), rfl, flat_strs _, ?_⟩
      have yin : inV (.str z) ((L.cs ++ L.rs).map V.str) = true := by
        rw [inV_strs]
        exact decide_eq_true (ok.lt z (List.mem_of_getElem? hz2))
      rw [yin]
      exact kq _ (Ex.rf _)
    · refine ⟨D3, _, rfl, SqL.of hD3, ?_⟩
      rw [rep_all]
      exact k _ (e5.tr e6)
end
end K25
set_option Elab.async false
set_option linter.all false
set_option maxRecDepth 100000
set_option maxHeartbeats 4400000
namespace K25
open PySem PySem.Spec PyProof.Rows L2 HX
open PySem.W (Frag)


/-- the fields of a world -/
def wf (sz mo : Int) (vc vr vl vd ve : V) : List (Str × V) := putF "_row_numbers" ve (putF "_cell_numbers" vd (putF "_loose" vl (putF "_rows" vr (putF "_cells" vc (putF "_most" (.int mo) (putF "_size" (.int sz) []))))))
def WAt (C : Addr) (H : Hp) (x : Addr) (L : Lore) : Prop := ∃ (dx : Addr) (vc vr vl : V) (d e : Addr) (kvs : List (Key × V)), H x = some (.ins C dx (wf L.sz L.mo vc vr vl (.ref d) (.ref e))) ∧ Tz H vc L.cD ∧ Tz H vr L.rD ∧ Tz H vl L.lD ∧ H d = some (.dK kvs) ∧ ∀ k : Str, decide ((valV kvs (Sum.inr k : Key)).getD .non = .non) = decide (k ∉ L.cs)
theorem WAt.ex {C x : Addr} {H H' : Hp} {L : Lore} (h : WAt C H x L) (e : Ex H H') : WAt C H' x L := let ⟨dx, vc, vr, vl, d, f, kvs, h1, h2, h3, h4, h5, h6⟩ := h; ⟨dx, vc, vr, vl, d, f, kvs, e _ _ h1, h2.ex e, h3.ex e, h4.ex e, e _ _ h5, h6⟩
theorem WAt.xb {C x p : Addr} {H H' : Hp} {L : Lore} {zs : List V} (h : WAt C H x L) (hp : H p = some (.lst zs)) (e : XB p H H') : WAt C H' x L := let ⟨dx, vc, vr, vl, d, f, kvs, h1, h2, h3, h4, h5, h6⟩ := h; ⟨dx, vc, vr, vl, d, f, kvs, e _ _ (ne_of h1 hp (by intro y; cases y)) h1, h2.te (e.te hp), h3.te (e.te hp), h4.te (e.te hp), e _ _ (ne_of h5 hp (by intro y; cases y)) h5, h6⟩
def spWinit (C : Addr) : Sp := fun vs H Q _ => ∃ (x dx : Addr) (vc vr vl : V) (L : Lore), vs = [.ref x, .int L.sz, .int L.mo, vc, vr, vl] ∧ H x = some (.ins C dx []) ∧ L.Ok ∧ Tz H vc L.cD ∧ Tz H vr L.rD ∧ Tz H vl L.lD ∧ ∀ H', (∀ c o, c ≠ x → H c = some o → H' c = some o) → WAt C H' x L → Q .non H'
def spWp (C : Addr) (R : Lore → V → Hp → Prop) : Sp := fun vs H Q _ => ∃ (x : Addr) (L : Lore), vs = [.ref x] ∧ WAt C H x L ∧ ∀ v, R L v H → Q v H
def spFirst (C : Addr) : Sp := fun vs H Q _ => ∃ (x : Addr) (L : Lore), vs = [.ref x] ∧ WAt C H x L ∧ L.Ok ∧ ∀ v H', Ex H H' → Tz H' v (.tuple [.tuple (L.cn.map fun c => .int c.2), .tuple (L.rn.map fun r => itD r.2)]) → Q v H'
def spCellNo (C : Addr) : Sp := fun vs H Q _ => ∃ (x : Addr) (L : Lore) (s : Str), vs = [.ref x, .str s] ∧ WAt C H x L ∧ ∀ v, decide (v = .non) = decide (s ∉ L.cs) → Q v H

theorem wf_size (sz mo : Int) (vc vr vl vd ve : V) : (wf sz mo vc vr vl vd ve).lookup ("_size" : Str) = some (.int sz) := by
  unfold wf
  rw [lookup_putF, if_neg (by decide +kernel)]
  rw [lookup_putF, if_neg (by decide +kernel)]
  rw [lookup_putF, if_neg (by decide +kernel)]
  rw [lookup_putF, if_neg (by decide +kernel)]
  rw [lookup_putF, if_neg (by decide +kernel)]
  rw [lookup_putF, if_neg (by decide +kernel)]
  rw [lookup_putF, if_pos rfl]
theorem wf_most (sz mo : Int) (vc vr vl vd ve : V) : (wf sz mo vc vr vl vd ve).lookup ("_most" : Str) = some (.int mo) := by
  unfold wf
  rw [lookup_putF, if_neg (by decide +kernel)]
  rw [lookup_putF, if_neg (by decide +kernel)]
  rw [lookup_putF, if_neg (by decide +kernel)]
  rw [lookup_putF, if_neg (by decide +kernel)]
  rw [lookup_putF, if_neg (by decide +kernel)]
  rw [lookup_putF, if_pos rfl]
theorem wf_cells (sz mo : Int) (vc vr vl vd ve : V) : (wf sz mo vc vr vl vd ve).lookup ("_cells" : Str) = some (vc) := by
  unfold wf
  rw [lookup_putF, if_neg (by decide +kernel)]
  rw [lookup_putF, if_neg (by decide +kernel)]
  rw [lookup_putF, if_neg (by decide +kernel)]
  rw [lookup_putF, if_neg (by decide +kernel)]
  rw [lookup_putF, if_pos rfl]
theorem wf_rows (sz mo : Int) (vc vr vl vd ve : V) : (wf sz mo vc vr vl vd ve).lookup ("_rows" : Str) = some (vr) := by
  unfold wf
  rw [lookup_putF, if_neg (by decide +kernel)]
  rw [lookup_putF, if_neg (by decide +kernel)]
  rw [lookup_putF, if_neg (by decide +kernel)]
  rw [lookup_putF, if_pos rfl]
theorem wf_loose (sz mo : Int) (vc vr vl vd ve : V) : (wf sz mo vc vr vl vd ve).lookup ("_loose" : Str) = some (vl) := by
  unfold wf
  rw [lookup_putF, if_neg (by decide +kernel)]
  rw [lookup_putF, if_neg (by decide +kernel)]
  rw [lookup_putF, if_pos rfl]
theorem wf_cell_numbers (sz mo : Int) (vc vr vl vd ve : V) : (wf sz mo vc vr vl vd ve).lookup ("_cell_numbers" : Str) = some (vd) := by
  unfold wf
  rw [lookup_putF, if_neg (by decide +kernel)]
  rw [lookup_putF, if_pos rfl]
theorem wf_row_numbers (sz mo : Int) (vc vr vl vd ve : V) : (wf sz mo vc vr vl vd ve).lookup ("_row_numbers" : Str) = some (ve) := by
  unfold wf
  rw [lookup_putF, if_pos rfl]
section
variable {P : Program} {w : World} {K : Frag} {mg : Str → Option Value} {base : Heap} {A : Ad}

theorem getD_map {n : Nat} {ds : List PyData} (h : n = ds.length) : (List.range n).map (fun i => ds[i]?.getD .none) = ds := by
  subst h
  refine List.ext_getElem? fun i => ?_
  by_cases hi : i < ds.length
  · simp [List.getElem?_range, hi]
  · rw [List.getElem?_eq_none (by simpa using hi), List.getElem?_eq_none (by omega)]
theorem ok_World_init (T : Txt K mg A) : FnOk P w K mg base CX0 4 A.f_World_init A.d_World_init ["self", "size", "most", "cells", "rows", "loose"] (spWinit A.C_World) := by
  refine HX.FunD.ok0 T.F_World_init.choose_spec sc_World_init (fun vs H Q E h => ?_) (fun cdv A0 outer s H vs Q E hr h => ?_)
  · obtain ⟨_, _, _, _, _, _, rfl, _⟩ := h
    rfl
  · have hu := hu_of hr
    obtain ⟨x, dx, vc, vr, vl, L, rfl, hx, ok, zc, zr, zl, k⟩ := h
    refine ⟨_, (pss_cons (ps_if (pt_not (pt_val (pe_call (ok_is_size T) (hr.mono (by decide)) (by rfl) T.m_is_size T.F_is_size.kp T.b_is_size .nil pass0 (pa_cons (pv 1) pa_nil)))) (pss_one ps_never) pss_nil)
      (pss_cons (ps_if (pt_not (pt_val (pe_call (ok_is_most T) (hr.mono (by decide)) (by rfl) T.m_is_most T.F_is_most.kp T.b_is_most .nil pass0 (pa_cons (pv 2) pa_nil)))) (pss_one ps_never) pss_nil)
      (pss_cons (ps_if (pt_not (pt_val (pe_call (ok_are_cells T) (hr.mono (by decide)) (by rfl) T.m_are_cells T.F_are_cells.kp T.b_are_cells .nil pass0 (pa_cons (pv 3) (pa_cons (pv 1) pa_nil))))) (pss_one ps_never) pss_nil)
      (pss_cons (ps_if (pt_not (pt_val (pe_call (ok_are_rows T) (hr.mono (by decide)) (by rfl) T.m_are_rows T.F_are_rows.kp T.b_are_rows .nil pass0 (pa_cons (pv 4) (pa_cons (pv 1) (pa_cons (pv 2) (pa_cons (pv 3) pa_nil))))))) (pss_one ps_never) pss_nil)
      (pss_cons (ps_if (pt_not (pt_val (pe_call (ok_are_loose T) (hr.mono (by decide)) (by rfl) T.m_are_loose T.F_are_loose.kp T.b_are_loose .nil pass0 (pa_cons (pv 5) (pa_cons (pv 3) (pa_cons (pv 4) pa_nil)))))) (pss_one ps_never) pss_nil)
      (pss_cons (ps_fld (pv 0) (pv 1) rfl)
      (pss_cons (ps_fld (pv 0) (pv 2) rfl)
      (pss_cons (ps_fld (pv 0) (pv 3) rfl)
      (pss_cons (ps_fld (pv 0) (pv 4) rfl)
      (pss_cons (ps_fld (pv 0) (pv 5) rfl)
      (pss_cons (ps_fld (pv 0) (pe_dc (own := [("at", 6), ("cell", 7)]) (g := (gTup K 2 (gCons (gName 6) (gCons (gName 7) gNil)))) (tt := tYes) rfl sc_World_init.nd (pi_enumT (by rfl) T.g_enumerate (pa_cons (pv 3) pa_nil)) (blkOk_by (N := N_World_init) (sc := defScope s_World_init) (by decide +kernel)) (fun _ _ _ _ _ => pg_tup rfl (pgs_cons (pg_name (i := 6) sc_World_init.nd rfl (Or.inl rfl)) (pgs_cons (pg_name (i := 7) sc_World_init.nd rfl (Or.inl rfl)) pgs_nil))) (fun _ _ _ _ _ => pts_nil) (fun _ _ _ _ _ => (pe_ix (ix_tupK (K := K) rfl) (pv 7) pe_int (fun _ _ => rfl))) (fun _ _ _ _ _ => (pv 6))) rfl)
      (pss_one (ps_fld (pv 0) (pe_dc (own := [("at", 6), ("row", 8)]) (g := (gTup K 2 (gCons (gName 6) (gCons (gName 8) gNil)))) (tt := tYes) rfl sc_World_init.nd (pi_enumT (by rfl) T.g_enumerate (pa_cons (pv 4) pa_nil)) (blkOk_by (N := N_World_init) (sc := defScope s_World_init) (by decide +kernel)) (fun _ _ _ _ _ => pg_tup rfl (pgs_cons (pg_name (i := 6) sc_World_init.nd rfl (Or.inl rfl)) (pgs_cons (pg_name (i := 8) sc_World_init.nd rfl (Or.inl rfl)) pgs_nil))) (fun _ _ _ _ _ => pts_nil) (fun _ _ _ _ _ => (pe_ix (ix_tupK (K := K) rfl) (pv 8) pe_int (fun _ _ => rfl))) (fun _ _ _ _ _ => (pv 6))) rfl))))))))))))), ?_⟩
    refine ⟨_, rfl, _, rfl, kd_int _, _, rfl, HX.if_false (by rw [whole_yes ok.s0 ok.s1]; rfl) ?_⟩
    refine ⟨_, rfl, _, rfl, kd_int _, _, rfl, HX.if_false (by rw [whole_yes ok.m0 ok.m1]; rfl) ?_⟩
    refine ⟨_, rfl, _, rfl, vc, L, rfl, ok, zc, fun H1 e1 => ⟨_, rfl, HX.if_false rfl ?_⟩⟩
    refine ⟨_, rfl, _, rfl, _, rfl, _, rfl, vr, vc, L, rfl, ok, zr.ex e1, zc.ex e1, fun H2 e2 => ⟨_, rfl, HX.if_false rfl ?_⟩⟩
    have e12 := e1.tr e2
    refine ⟨_, rfl, _, rfl, _, rfl, vl, vc, vr, L, rfl, ok, zl.ex e12, zc.ex e12, zr.ex e12, fun H3 e3 => ⟨_, rfl, HX.if_false rfl ?_⟩⟩
    have e13 := e12.tr e3
    have hx3 := e13 _ _ hx
    refine ⟨_, rfl, _, rfl, x, A.C_World, dx, _, rfl, hx3, T.cls_World, T.n_size, (by show 0 < 1000; decide), _, rfl, _, rfl, x, A.C_World, dx, _, rfl, upd_same, T.cls_World, T.n_most, (by show 1 < 1000; decide), _, rfl, _, rfl, x, A.C_World, dx, _, rfl, upd_same, T.cls_World, T.n_cells, (by show 2 < 1000; decide), _, rfl, _, rfl, x, A.C_World, dx, _, rfl, upd_same, T.cls_World, T.n_rows, (by show 3 < 1000; decide), _, rfl, _, rfl, x, A.C_World, dx, _, rfl, upd_same, T.cls_World, T.n_loose, (by show 4 < 1000; decide), ?_⟩
    simp only [upd_upd]
    obtain ⟨G, EG⟩ : ∃ z, z = upd H3 x (.ins A.C_World dx (putF "_loose" vl (putF "_rows" vr (putF "_cells" vc (putF "_most" (.int L.mo) (putF "_size" (.int L.sz) [])))))) := ⟨_, rfl⟩
    rw [← EG]
    have hxG : G x = some (.ins A.C_World dx (putF "_loose" vl (putF "_rows" vr (putF "_cells" vc (putF "_most" (.int L.mo) (putF "_size" (.int L.sz) [])))))) := by rw [EG]; exact upd_same
    have oG : ∀ c o, c ≠ x → H c = some o → G c = some o := fun c o n e => by rw [EG, upd_ne n]; exact e13 _ _ e
    have tG : TupK H G := fun a xs ha => oG _ _ (ne_of ha hx (by intro y; cases y)) ha
    have r2 := ok.r2; have c2 := ok.c2
    obtain ⟨ac, ys, rfl, hac, ly, hy⟩ := cell_at (zc.te tG)
    obtain ⟨ar, ws, rfl, har, lw, hw⟩ := row_at (zr.te tG)
    have lcs : L.cs.length = L.cn.length := List.length_map ..
    have lrs : L.rs.length = L.rn.length := List.length_map ..
    refine ⟨_, rfl, ac, ys, rfl, SqT.of hac, fun D nD => dc_names walk_enT L.cs (by omega) (by omega) nD (fun H' e => SqT.of (e _ _ hac)) (fun i x2 H4 H5 Kq hi e y kq => ?_) (fun H4 kvs e4 hD hv => ?_)⟩
    · obtain ⟨T, u, u2, rfl, nT, rfl, h4, h5⟩ := y
      obtain ⟨c, b, hc, rfl, hb⟩ := hy i u2 h5
      have eT : Ex H4 (upd H4 T (.tup [u, .ref b])) := Ex.nw nT
      refine ⟨T, _, rfl, SqT.of upd_same, rfl, _, _, rfl, _, _, rfl, rfl, rfl, _, rfl, b, _, _, _, rfl, rfl, SqT.of (eT _ _ (e _ _ hb)), rfl, _, rfl, kq _ c.1 _ eT ?_ (by cases h4; intro z; cases z)⟩
      unfold Lore.cs
      rw [List.getElem?_map, hc]; rfl
    refine ⟨_, rfl, x, A.C_World, dx, _, rfl, e4 _ _ hxG, T.cls_World, T.n_cell_numbers, (by show 5 < 1000; decide), ?_⟩
    obtain ⟨G2, EG2⟩ : ∃ z, z = upd H4 x (.ins A.C_World dx (putF "_cell_numbers" (.ref D) (putF "_loose" vl (putF "_rows" (.ref ar) (putF "_cells" (.ref ac) (putF "_most" (.int L.mo) (putF "_size" (.int L.sz) []))))))) := ⟨_, rfl⟩
    rw [← EG2]
    have hx2 : G2 x = some (.ins A.C_World dx (putF "_cell_numbers" (.ref D) (putF "_loose" vl (putF "_rows" (.ref ar) (putF "_cells" (.ref ac) (putF "_most" (.int L.mo) (putF "_size" (.int L.sz) []))))))) := by rw [EG2]; exact upd_same
    have oG2 : ∀ c o, c ≠ x → G c = some o → G2 c = some o := fun c o n e => by rw [EG2, upd_ne n]; exact e4 _ _ e
    have har2 := oG2 _ _ (ne_of har hxG (by intro y; cases y)) har
    have hD2 : G2 D = some (.dK kvs) := by
      have n : D ≠ x := fun z => by rw [z, e4 _ _ hxG] at hD; cases hD
      rw [EG2, upd_ne n]; exact hD
    refine ⟨_, rfl, ar, ws, rfl, SqT.of har2, fun D2 nD2 => dc_names walk_enT L.rs (by omega) (by omega) nD2 (fun H' e => SqT.of (e _ _ har2)) (fun i x2 H5 H6 Kq hi e y kq => ?_) (fun H5 kvs2 e5 hD3 hv2 => ?_)⟩
    · obtain ⟨T, u, u2, rfl, nT, rfl, h4, h5⟩ := y
      obtain ⟨r, b, u3, hr3, rfl, hb, hu3⟩ := hw i u2 h5
      have hb2 := oG2 _ _ (ne_of hb hxG (by intro y; cases y)) hb
      have eT : Ex H5 (upd H5 T (.tup [u, .ref b])) := Ex.nw nT
      refine ⟨T, _, rfl, SqT.of upd_same, rfl, _, _, rfl, _, _, rfl, rfl, rfl, _, rfl, b, _, _, _, rfl, rfl, SqT.of (eT _ _ (e _ _ hb2)), rfl, _, rfl, kq _ r.1 _ eT ?_ (by cases h4; intro z; cases z)⟩
      unfold Lore.rs
      rw [List.getElem?_map, hr3]; rfl
    refine ⟨_, rfl, x, A.C_World, dx, _, rfl, e5 _ _ hx2, T.cls_World, T.n_row_numbers, (by show 6 < 1000; decide), ?_⟩
    have oF : ∀ c o, c ≠ x → G2 c = some o → (upd H5 x (.ins A.C_World dx (wf L.sz L.mo (.ref ac) (.ref ar) vl (.ref D) (.ref D2)))) c = some o := fun c o n e => by rw [upd_ne n]; exact e5 _ _ e
    have oA : ∀ c o, c ≠ x → H c = some o → (upd H5 x (.ins A.C_World dx (wf L.sz L.mo (.ref ac) (.ref ar) vl (.ref D) (.ref D2)))) c = some o := fun c o n e => oF _ _ n (oG2 _ _ n (oG _ _ n e))
    have tA : TupK H (upd H5 x (.ins A.C_World dx (wf L.sz L.mo (.ref ac) (.ref ar) vl (.ref D) (.ref D2)))) := fun a xs ha => oA _ _ (ne_of ha hx (by intro y; cases y)) ha
    exact k _ oA ⟨dx, _, _, vl, D, D2, kvs, upd_same, zc.te tA, zr.te tA, zl.te tA, oF _ _ (ne_of hD2 hx2 (by intro y; cases y)) hD2, hv⟩
theorem ok_World_size (T : Txt K mg A) : FnOk P w K mg base CX0 1 A.f_World_size A.d_World_size ["self"] (spWp A.C_World (fun L v H => v = .int L.sz)) := by
  refine T.F_World_size.ok sc_World_size (fun vs H Q E h => ?_) (fun cdv A0 outer s H vs Q E hr h => ?_)
  · obtain ⟨_, _, rfl, _⟩ := h
    rfl
  · have hu := hu_of hr
    obtain ⟨x, L, rfl, ⟨dx, vc, vr, vl, d, e, kvs, h1, h2, h3, h4, h5, h6⟩, k⟩ := h
    refine ⟨_, (pss_one (ps_ret (pe_fld (pv 0) rfl))), ?_⟩
    exact ⟨_, rfl, x, A.C_World, dx, _, _, rfl, h1, T.cls_World, T.n_size, wf_size _ _ _ _ _ _ _, k _ rfl⟩
theorem ok_World_most (T : Txt K mg A) : FnOk P w K mg base CX0 1 A.f_World_most A.d_World_most ["self"] (spWp A.C_World (fun L v H => v = .int L.mo)) := by
  refine T.F_World_most.ok sc_World_most (fun vs H Q E h => ?_) (fun cdv A0 outer s H vs Q E hr h => ?_)
  · obtain ⟨_, _, rfl, _⟩ := h
    rfl
  · have hu := hu_of hr
    obtain ⟨x, L, rfl, ⟨dx, vc, vr, vl, d, e, kvs, h1, h2, h3, h4, h5, h6⟩, k⟩ := h
    refine ⟨_, (pss_one (ps_ret (pe_fld (pv 0) rfl))), ?_⟩
    exact ⟨_, rfl, x, A.C_World, dx, _, _, rfl, h1, T.cls_World, T.n_most, wf_most _ _ _ _ _ _ _, k _ rfl⟩
theorem ok_World_cells (T : Txt K mg A) : FnOk P w K mg base CX0 1 A.f_World_cells A.d_World_cells ["self"] (spWp A.C_World (fun L v H => Tz H v L.cD)) := by
  refine T.F_World_cells.ok sc_World_cells (fun vs H Q E h => ?_) (fun cdv A0 outer s H vs Q E hr h => ?_)
  · obtain ⟨_, _, rfl, _⟩ := h
    rfl
  · have hu := hu_of hr
    obtain ⟨x, L, rfl, ⟨dx, vc, vr, vl, d, e, kvs, h1, h2, h3, h4, h5, h6⟩, k⟩ := h
    refine ⟨_, (pss_one (ps_ret (pe_fld (pv 0) rfl))), ?_⟩
    exact ⟨_, rfl, x, A.C_World, dx, _, _, rfl, h1, T.cls_World, T.n_cells, wf_cells _ _ _ _ _ _ _, k _ h2⟩
theorem ok_World_rows (T : Txt K mg A) : FnOk P w K mg base CX0 1 A.f_World_rows A.d_World_rows ["self"] (spWp A.C_World (fun L v H => Tz H v L.rD)) := by
  refine T.F_World_rows.ok sc_World_rows (fun vs H Q E h => ?_) (fun cdv A0 outer s H vs Q E hr h => ?_)
  · obtain ⟨_, _, rfl, _⟩ := h
    rfl
  · have hu := hu_of hr
    obtain ⟨x, L, rfl, ⟨dx, vc, vr, vl, d, e, kvs, h1, h2, h3, h4, h5, h6⟩, k⟩ := h
    refine ⟨_, (pss_one (ps_ret (pe_fld (pv 0) rfl))), ?_⟩
    exact ⟨_, rfl, x, A.C_World, dx, _, _, rfl, h1, T.cls_World, T.n_rows, wf_rows _ _ _ _ _ _ _, k _ h3⟩
theorem ok_World_loose (T : Txt K mg A) : FnOk P w K mg base CX0 1 A.f_World_loose A.d_World_loose ["self"] (spWp A.C_World (fun L v H => Tz H v L.lD)) := by
  refine T.F_World_loose.ok sc_World_loose (fun vs H Q E h => ?_) (fun cdv A0 outer s H vs Q E hr h => ?_)
  · obtain ⟨_, _, rfl, _⟩ := h
    rfl
  · have hu := hu_of hr
    obtain ⟨x, L, rfl, ⟨dx, vc, vr, vl, d, e, kvs, h1, h2, h3, h4, h5, h6⟩, k⟩ := h
    refine ⟨_, (pss_one (ps_ret (pe_fld (pv 0) rfl))), ?_⟩
    exact ⟨_, rfl, x, A.C_World, dx, _, _, rfl, h1, T.cls_World, T.n_loose, wf_loose _ _ _ _ _ _ _, k _ h4⟩
theorem ok_World_cell_number (T : Txt K mg A) : FnOk P w K mg base CX0 1 A.f_World_cell_number A.d_World_cell_number ["self", "name"] (spCellNo A.C_World) := by
  refine T.F_World_cell_number.ok sc_World_cell_number (fun vs H Q E h => ?_) (fun cdv A0 outer s H vs Q E hr h => ?_)
  · obtain ⟨_, _, _, rfl, _⟩ := h
    rfl
  · have hu := hu_of hr
    obtain ⟨x, L, sn, rfl, ⟨dx, vc, vr, vl, d, e, kvs, h1, h2, h3, h4, h5, h6⟩, k⟩ := h
    refine ⟨_, (pss_one (ps_ret (pe_dget1 hu (pe_fld (pv 0) rfl) (pv 1) (by constructor <;> rfl)))), ?_⟩
    refine ⟨_, rfl, x, A.C_World, dx, _, _, rfl, h1, T.cls_World, T.n_cell_numbers, wf_cell_numbers _ _ _ _ _ _ _, d, rfl, .inl ⟨kvs, .inl h5⟩, _, rfl, _, DGet.k (k := Sum.inr sn) h5, k _ (h6 sn)⟩
end
end K25
set_option Elab.async false
set_option linter.all false
set_option maxRecDepth 100000
set_option maxHeartbeats 4400000
namespace K25
open PySem PySem.Spec PyProof.Rows L2 HX
open PySem.W (Frag)


def wholeD (d : PyData) (lo hi : Int) : Bool := match d with
  | .int i => decide (lo ≤ i) && decide (i < hi)
  | _ => false
theorem whole_d {p : Addr} {H : Hp} {v : V} {d : PyData} (h : Dz p H v d) (lo hi : Int) : whole v lo hi = wholeD d lo hi := by cases h <;> rfl
def nameD : PyData → Bool | .str z => nameOk z | _ => false
def strD : PyData → Str | .str z => z | _ => ""
def Says (H : Hp) (Q : VK) (b : Bool) : Prop := ∀ H', Ex H H' → Q (.bl b) H'
theorem Says.no {H : Hp} {Q : VK} {b : Bool} (k : Says H Q b) (h : b = false) : Q (.bl false) H := h ▸ k H (Ex.rf _)
def spNameA : Sp := fun vs H Q _ => ∃ (p : Addr) (v : V) (d : PyData), vs = [v] ∧ Dz p H v d ∧ Wt 900 d ∧ Says H Q (nameD d)
theorem sqt_ex {K : Frag} {H H' : Hp} {a : Addr} {xs : List V} (h : SqT K H a xs) (e : Ex H H') : SqT K H' a xs :=
  h.elim (fun z => z.elim (fun y => .inl (.inl (e _ _ y))) fun ⟨o, y⟩ => .inl (.inr ⟨o, e _ _ y⟩)) .inr
def spRiseA (K : Frag) : Sp := fun vs H Q _ => ∃ (a : Addr) (ss : List Str), vs = [.ref a] ∧ (H a = some (.lst (ss.map V.str)) ∨ SqT K H a (ss.map V.str)) ∧ ss.length ≤ 900 ∧ Says H Q (rises ss)
theorem rises_rng : ∀ (ss : List Str) (f : Nat → Bool), (∀ (i : Nat) (a b : Str), ss[i]? = some a → ss[i + 1]? = some b → f i = decide (a.cps.toList < b.cps.toList)) → ((List.range (ss.length - 1)).map f).all id = rises ss
  | [], f, _ => rfl
  | [_], f, _ => rfl
  | a :: b :: r, f, h => by
    have ih := rises_rng (b :: r) (fun i => f (i + 1)) fun i x y hx hy => h (i + 1) x y (by simpa using hx) (by simpa using hy)
    have e : (List.range ((a :: b :: r).length - 1)).map f = f 0 :: (List.range ((b :: r).length - 1)).map fun i => f (i + 1) := by
      show (List.range ((b :: r).length - 1 + 1)).map f = _
      rw [List.range_succ_eq_map, List.map_cons, List.map_map]; rfl
    rw [e, List.all_cons, ih, h 0 a b rfl rfl]; rfl
theorem nameD_str {d : PyData} (h : nameD d = true) : d = .str (strD d) := by
  cases d with
  | str z => rfl
  | _ => cases h
def kindsD (d : PyData) (m : Int) (b : Bool) : Bool := match d with
  | .str z => decide ((z.length : Int) ≤ m) && kindsOk b z
  | _ => false
def spKindsA : Sp := fun vs H Q _ => ∃ (p : Addr) (v : V) (d : PyData) (m : Int) (b : Bool), vs = [v, .int m, .bl b] ∧ Dz p H v d ∧ Wt 900 d ∧ Says H Q (kindsD d m b)
theorem kinds_in (b : Bool) (z : Str) : z.cps.toList.all (fun c => decide (c ∈ (if b = true then ("nr" : Str) else ("n" : Str)).cps.toList)) = kindsOk b z := by
  unfold kindsOk
  refine congrArg (fun f => List.all z.cps.toList f) (funext fun c => ?_)
  cases b
  · show decide (c ∈ ([110] : List Nat)) = (c == 110 || (false && c == 114))
    rw [Bool.eq_iff_iff]; simp
  · show decide (c ∈ ([110, 114] : List Nat)) = (c == 110 || (true && c == 114))
    rw [Bool.eq_iff_iff]; simp
/-- what a part of works is: a triple with a name and kinds, whatever they are, or no triple -/
inductive PartD
  | three (dn dk : PyData)
  | bad
def PartAt (p : Addr) (H : Hp) (x : V) : PartD → Prop
  | .three dn dk => (∃ b vn t vk, x = .ref b ∧ H b = some (.tup [vn, t, vk]) ∧ Dz p H vn dn ∧ Dz p H vk dk) ∧ Wt 900 dn ∧ Wt 900 dk
  | .bad => x = .non ∨ (∃ z, x = .str z) ∨ (∃ a xs, x = .ref a ∧ H a = some (.lst xs)) ∨ ∃ b xs, x = .ref b ∧ H b = some (.tup xs) ∧ xs.length ≠ 3
theorem PartAt.ex {p : Addr} {H H' : Hp} {x : V} {d : PartD} (h : PartAt p H x d) (e : Ex H H') : PartAt p H' x d := by
  cases d with
  | three dn dk => obtain ⟨⟨b, vn, t, vk, h1, h2, h3, h4⟩, w⟩ := h; exact ⟨⟨b, vn, t, vk, h1, e _ _ h2, h3.ex e, h4.ex e⟩, w⟩
  | bad => exact h.imp id (Or.imp id (Or.imp (fun ⟨a, xs, h1, h2⟩ => ⟨a, xs, h1, e _ _ h2⟩) fun ⟨a, xs, h1, h2, h3⟩ => ⟨a, xs, h1, e _ _ h2, h3⟩))
def partOk (b : Bool) : PartD → Bool
  | .three dn dk => nameD dn && kindsD dk 3 b
  | .bad => false
def partN : PartD → Str
  | .three dn _ => strD dn
  | .bad => ""
/-- what works are: a tuple of parts, or no tuple -/
def WorksAt (p : Addr) (H : Hp) (v : V) : Option (List PartD) → Prop
  | some ps => (∃ a xs, v = .ref a ∧ H a = some (.tup xs) ∧ xs.length = ps.length ∧ ∀ (i : Nat) (x : V) (d : PartD), xs[i]? = some x → ps[i]? = some d → PartAt p H x d) ∧ ps.length ≤ 900
  | none => v = .non ∨ ∃ a xs, v = .ref a ∧ H a = some (.lst xs)
theorem WorksAt.ex {p : Addr} {H H' : Hp} {v : V} {o : Option (List PartD)} (h : WorksAt p H v o) (e : Ex H H') : WorksAt p H' v o := by
  cases o with
  | some ps => obtain ⟨⟨a, xs, h1, h2, h3, h4⟩, w⟩ := h; exact ⟨⟨a, xs, h1, e _ _ h2, h3, fun i x d q r => (h4 i x d q r).ex e⟩, w⟩
  | none => exact h.imp id fun ⟨a, xs, h1, h2⟩ => ⟨a, xs, h1, e _ _ h2⟩
def worksOk (b : Bool) : Option (List PartD) → Bool
  | some ps => decide (1 ≤ ps.length) && (decide (ps.length ≤ 3) && (ps.all (partOk b) && rises (ps.map partN)))
  | none => false
def spIsWorkA (C : Addr) : Sp := fun vs H Q _ => ∃ (p : Addr) (v : V) (d : PartD) (x : Addr) (L : Lore), vs = [v, .ref x] ∧ PartAt p H v d ∧ WAt C H x L ∧ Says H Q (partOk (!L.rn.isEmpty) d)
def spAreWorksA (C : Addr) : Sp := fun vs H Q _ => ∃ (p : Addr) (v : V) (o : Option (List PartD)) (x : Addr) (L : Lore), vs = [v, .ref x] ∧ WorksAt p H v o ∧ WAt C H x L ∧ Says H Q (worksOk (!L.rn.isEmpty) o)
/-- works as they ought to be, whatever stands in the middle of each -/
def WsG (H : Hp) (v : V) (ws : List (Str × Str)) : Prop := ∃ a xs, v = .ref a ∧ H a = some (.tup xs) ∧ xs.length = ws.length ∧ ∀ (i : Nat) (x : V), xs[i]? = some x → ∃ w b t, ws[i]? = some w ∧ x = .ref b ∧ H b = some (.tup [.str w.1, t, .str w.2])
theorem WsG.ex {H H' : Hp} {v : V} {ws : List (Str × Str)} (h : WsG H v ws) (e : Ex H H') : WsG H' v ws := let ⟨a, xs, h1, h2, h3, h4⟩ := h; ⟨a, xs, h1, e _ _ h2, h3, fun i x q => let ⟨w, b, t, r1, r2, r3⟩ := h4 i x q; ⟨w, b, t, r1, r2, e _ _ r3⟩⟩
def wD (w : Str × Str) : PyData := .tuple [.str w.1, .none, .str w.2]
structure WsOk (L : Lore) (ws : List (Str × Str)) : Prop where
  l1 : 1 ≤ ws.length
  l3 : ws.length ≤ 3
  n : okN (ws.map (·.1)) = true
  k : ∀ w ∈ ws, w.2.length ≤ 3 ∧ kindsOk (!L.rn.isEmpty) w.2 = true
def intsD (n : Int) : List PyData := (List.range n.toNat).map fun i : Nat => .int (i : Int)
def chD (L : Lore) (c : Nat) : List PyData := if c = 114 then L.rs.map PyData.str else intsD L.sz
def valsD (L : Lore) (cs : List Nat) : List (List PyData) := cs.foldl (fun f c => f.flatMap fun v => (chD L c).map fun d => v ++ [d]) [[]]
theorem chD_len (L : Lore) (ok : L.Ok) (c : Nat) : (chD L c).length ≤ 4 := by
  unfold chD
  split
  · have := ok.r2
    rw [List.length_map]; unfold Lore.rs; rw [List.length_map]; omega
  · have := ok.s1
    unfold intsD; rw [List.length_map, List.length_range]; omega
theorem vals_len (L : Lore) (ok : L.Ok) (cs : List Nat) : (valsD L cs).length ≤ 4 ^ cs.length := by
  unfold valsD
  have h : ∀ (cs : List Nat) (f : List (List PyData)), (cs.foldl (fun f c => f.flatMap fun v => (chD L c).map fun d => v ++ [d]) f).length ≤ f.length * 4 ^ cs.length := by
    intro cs
    induction cs with
    | nil => intro f; simp
    | cons c r ih =>
      intro f
      refine Nat.le_trans (ih _) ?_
      have h2 : (f.flatMap fun v => (chD L c).map fun d => v ++ [d]).length ≤ f.length * 4 := by
        induction f with
        | nil => simp
        | cons v t iht =>
          rw [List.flatMap_cons, List.length_append, List.length_map, List.length_cons]
          have := chD_len L ok c
          omega
      rw [List.length_cons, Nat.pow_succ, Nat.mul_comm (4 ^ r.length) 4, ← Nat.mul_assoc]
      exact Nat.mul_le_mul_right _ h2
  simpa using h cs [[]]
theorem vals_snoc (L : Lore) (cs : List Nat) (c : Nat) : valsD L (cs ++ [c]) = (valsD L cs).flatMap fun v => (chD L c).map fun d => v ++ [d] := by
  unfold valsD; rw [List.foldl_append]; rfl
theorem vals_each (L : Lore) (cs : List Nat) : ∀ v ∈ valsD L cs, v.length = cs.length := by
  have h : ∀ (cs : List Nat) (f : List (List PyData)) (n : Nat), (∀ v ∈ f, v.length = n) → ∀ v ∈ cs.foldl (fun f c => f.flatMap fun v => (chD L c).map fun d => v ++ [d]) f, v.length = n + cs.length := by
    intro cs
    induction cs with
    | nil => intro f n hf v hv; exact hf v hv
    | cons c r ih =>
      intro f n hf v hv
      have q := ih _ (n + 1) (fun u hu => by
        obtain ⟨a, ha, hu2⟩ := List.mem_flatMap.mp hu
        obtain ⟨d, _, rfl⟩ := List.mem_map.mp hu2
        rw [List.length_append, hf a ha]; rfl) v hv
      rw [q, List.length_cons]; omega
  intro v hv
  have q := h cs [[]] 0 (fun u hu => by rw [List.mem_singleton.mp hu]; rfl) v hv
  rw [q]; omega
theorem flat_range {α β : Type} (l : List α) (a : α) (g : α → List β) : (List.range l.length).flatMap (fun i => g (l[i]?.getD a)) = l.flatMap g := by
  have e : (List.range l.length).map (fun i => l[i]?.getD a) = l := by
    refine List.ext_getElem? fun i => ?_
    by_cases hi : i < l.length
    · simp [List.getElem?_range, hi]
    · rw [List.getElem?_eq_none (by simpa using hi), List.getElem?_eq_none (by omega)]
  conv => rhs; rw [← e]
  rw [List.flatMap_map]
theorem tzL_rg {H : Hp} (n : Int) : TzL H (rgV 0 n) (intsD n) := by
  unfold rgV intsD
  refine ⟨by simp, fun i v d a b => ?_⟩
  rw [List.getElem?_map] at a b
  obtain ⟨k, hk, rfl⟩ := Option.map_eq_some_iff.mp a
  obtain ⟨j, hj, rfl⟩ := Option.map_eq_some_iff.mp b
  rw [Int.sub_zero, hj] at hk
  cases hk
  rw [Int.zero_add]
  exact .int _
theorem both {p : Prop} [Decidable p] {R Pq : V → Hp → Prop} {A B : Prop} (hA : p → (∀ v G, R v G → Pq v G) → A) (hB : ¬ p → (∀ v G, R v G → Pq v G) → B) (h : ∀ v G, R v G → Pq v G) : if decide p = true then A else B := by
  by_cases q : p
  · rw [decide_eq_true q]; exact iteT (hA q h)
  · rw [decide_eq_false q]; exact iteF (hB q h)
theorem bothE {p : Prop} [Decidable p] {R : V → Hp → Prop} {ta tb : L2.TE} {σ : L2.St} {H : Hp} {Qc : VK} (hA : p → ∀ Qd : VK, (∀ v G, R v G → Qd v G) → ta σ H Qd) (hB : ¬ p → ∀ Qd : VK, (∀ v G, R v G → Qd v G) → tb σ H Qd) (h : ∀ v G, R v G → Qc v G) : if decide p = true then ta σ H Qc else tb σ H Qc := by
  by_cases q : p
  · rw [decide_eq_true q]; exact iteT (hA q _ h)
  · rw [decide_eq_false q]; exact iteF (hB q _ h)
theorem one_sign {c k : Nat} : (V.str ⟨#[c]⟩ = V.str ⟨#[k]⟩) ↔ c = k := ⟨fun h => by injection h with h; injection h with h; simpa using h, fun h => by rw [h]⟩
def spIsWork (C : Addr) : Sp := fun vs H Q _ => ∃ (v : V) (x : Addr) (L : Lore) (w : Str × Str), vs = [v, .ref x] ∧ Tz H v (wD w) ∧ WAt C H x L ∧ L.Ok ∧ nameOk w.1 = true ∧ w.2.length ≤ 3 ∧ kindsOk (!L.rn.isEmpty) w.2 = true ∧ Yes H Q
def spAreWorks (C : Addr) : Sp := fun vs H Q _ => ∃ (v : V) (x : Addr) (L : Lore) (ws : List (Str × Str)), vs = [v, .ref x] ∧ Tz H v (.tuple (ws.map wD)) ∧ WAt C H x L ∧ L.Ok ∧ WsOk L ws ∧ Yes H Q
/-- a list of data comes, at a new place -/
def OutL (H : Hp) (ds : List PyData) (Q : VK) : Prop := ∀ (l : Addr) (xs : List V) (H' : Hp), Ex H H' → H l = none → H' l = some (.lst xs) → TzL H' xs ds → Q (.ref l) H'
def spAllV (C : Addr) : Sp := fun vs H Q _ => ∃ (x : Addr) (L : Lore) (z : Str), vs = [.ref x, .str z] ∧ WAt C H x L ∧ L.Ok ∧ z.length ≤ 3 ∧ OutL H ((valsD L z.cps.toList).map PyData.tuple) Q
theorem w_at {H : Hp} {ws : List (Str × Str)} {v : V} (h : Tz H v (.tuple (ws.map wD))) : ∃ a xs, v = .ref a ∧ H a = some (.tup xs) ∧ xs.length = ws.length ∧ ∀ (i : Nat) (x : V), xs[i]? = some x → ∃ (w : Str × Str), ws[i]? = some w ∧ Tz H x (wD w) := by
  obtain ⟨a, xs, rfl, ha, hx⟩ := h.tupI
  refine ⟨a, xs, rfl, ha, by rw [hx.1, List.length_map], fun i x e => ?_⟩
  obtain ⟨d, hd, tz⟩ := hx.gotV e
  rw [List.getElem?_map] at hd
  obtain ⟨w, hw, rfl⟩ := Option.map_eq_some_iff.mp hd
  exact ⟨w, hw, tz⟩
theorem wD_at {H : Hp} {v : V} {w : Str × Str} (h : Tz H v (wD w)) : ∃ a u, v = .ref a ∧ H a = some (.tup [.str w.1, u, .str w.2]) := by
  obtain ⟨a, x, y, z, rfl, ha, hx, hy, hz⟩ := Tz.tup3 h
  rw [hx.strI, hz.strI] at ha
  exact ⟨a, y, rfl, ha⟩


theorem works_good {p : Addr} {H : Hp} {v : V} {o : Option (List PartD)} {L : Lore} (h : WorksAt p H v o) (k : worksOk (!L.rn.isEmpty) o = true) : ∃ ws, WsG H v ws ∧ WsOk L ws := by
  cases o with
  | none => cases k
  | some ps =>
    obtain ⟨⟨a, xs, rfl, ha, hl, hi⟩, -⟩ := h
    unfold worksOk at k
    simp only [Bool.and_eq_true, decide_eq_true_eq] at k
    obtain ⟨k1, k3, kp, kr⟩ := k
    have three : ∀ d ∈ ps, ∃ n z, d = .three (.str n) (.str z) ∧ nameOk n = true ∧ z.length ≤ 3 ∧ kindsOk (!L.rn.isEmpty) z = true := fun d hd => by
      have q := List.all_eq_true.mp kp d hd
      cases d with
      | bad => cases q
      | three dn dk =>
        obtain ⟨q1, q2⟩ := Bool.and_eq_true_iff.mp q
        cases dn with
        | str n =>
          cases dk with
          | str z =>
            obtain ⟨q3, q4⟩ := Bool.and_eq_true_iff.mp q2
            exact ⟨n, z, rfl, q1, by have := of_decide_eq_true q3; omega, q4⟩
          | _ => cases q2
        | _ => cases q1
    let g : PartD → Str × Str := fun d => match d with
      | .three (.str n) (.str z) => (n, z)
      | _ => ("", "")
    have gn : (ps.map g).map (·.1) = ps.map partN := by
      rw [List.map_map]
      refine List.map_congr_left fun d hd => ?_
      obtain ⟨n, z, rfl, -⟩ := three d hd
      rfl
    refine ⟨ps.map g, ⟨a, xs, rfl, ha, by rw [List.length_map]; exact hl, fun i x hx => ?_⟩, ⟨by rw [List.length_map]; exact k1, by rw [List.length_map]; exact k3, ?_, fun w hw => ?_⟩⟩
    · have i2 : i < ps.length := by have := (List.getElem?_eq_some_iff.mp hx).1; omega
      have hd : ps[i]? = some ps[i] := List.getElem?_eq_getElem i2
      obtain ⟨n, z, e, -⟩ := three _ (List.getElem_mem i2)
      have q := hi i x _ hx hd
      rw [e] at q
      obtain ⟨⟨b, vn, t, vk, rfl, hb, zn, zk⟩, -⟩ := q
      cases zn.strI; cases zk.strI
      exact ⟨(n, z), b, t, by rw [List.getElem?_map, hd, e]; rfl, rfl, hb⟩
    · rw [gn]
      refine Bool.and_eq_true_iff.mpr ⟨List.all_eq_true.mpr fun y hy => ?_, kr⟩
      obtain ⟨d, hd, rfl⟩ := List.mem_map.mp hy
      obtain ⟨n, z, rfl, hn, -⟩ := three d hd
      exact hn
    · obtain ⟨d, hd, rfl⟩ := List.mem_map.mp hw
      obtain ⟨n, z, rfl, -, h1, h2⟩ := three d hd
      exact ⟨h1, h2⟩

section
variable {P : Program} {w : World} {K : Frag} {mg : Str → Option Value} {base : Heap} {A : Ad}

theorem none_of_ex {H H' : Hp} {a : Addr} (e : Ex H H') (h : H' a = none) : H a = none := by
  cases q : H a with
  | none => rfl
  | some o => exact absurd (e a o q) (by rw [h]; simp)
theorem ok_is_nameA (T : Txt K mg A) : FnOk P w K mg base CX0 1 A.f_is_name A.d_is_name ["value"] (spNameA) := by
  refine T.F_is_name.ok sc_is_name (fun vs H Q E h => ?_) (fun cdv A0 outer s H vs Q E hr h => ?_)
  · obtain ⟨_, _, _, rfl, _⟩ := h
    rfl
  · have hu := hu_of hr
    obtain ⟨p, v, d, rfl, hz, hw, k⟩ := h
    refine ⟨_, (pss_cons (ps_if (PW.pt (pw_or (pt_not (pt_val (pe_callB call_isi (by rfl) T.g_isinstance (by decide +kernel) (pa_cons (pv 0) (pa_cons (pe_bltn (v := .ty "str") (by rfl) T.g_str (by decide +kernel) rfl) pa_nil))))) (pw_or1 (pt_not (pt_chain op_le op_le pe_int (pe_callB call_len_str (by rfl) T.g_len (by decide +kernel) (pa_cons (pv 0) pa_nil)) (pe_glob (v := .int 8) (by rfl) T.c_MOST_LETTERS.choose_spec ⟨_, rfl⟩)))))) (pss_one (ps_ret pe_bl)) pss_nil)
      (pss_one (ps_ret (pe_callB (cr_all rfl) (by rfl) T.g_all (by decide +kernel) (pa_cons (pe_lc (own := [("letter", 1)]) (g := (gName 1)) (tt := tYes) rfl sc_is_name.nd (pi_str (pv 0)) (blkOk_by (N := N_is_name) (sc := defScope s_is_name) (by decide +kernel)) (fun _ _ _ _ _ => pg_name (i := 1) sc_is_name.nd rfl (Or.inl rfl)) (fun _ _ _ _ _ => pts_nil) (fun _ _ _ _ _ => (pe_cmpR op_in_sign (pv 1) (pe_glob (v := .str "abcdefghijklmnopqrstuvwxyz") (by rfl) T.c_LETTERS.choose_spec ⟨_, rfl⟩) (by rfl)))) pa_nil))))), ?_⟩
    obtain ⟨ty, tx, kt⟩ := kt_strD (K := K) hz
    refine ⟨_, rfl, _, _, _, _, _, rfl, .ty _, tx, kt, _, rfl, ?_⟩
    cases hz with
    | non => exact HX.if_true rfl (k.no rfl)
    | bl b => exact HX.if_true rfl (k.no rfl)
    | int i => exact HX.if_true rfl (k.no rfl)
    | lst => exact HX.if_true rfl (k.no rfl)
    | tup => exact HX.if_true rfl (k.no rfl)
    | dct => exact HX.if_true rfl (k.no rfl)
    | str z =>
      have hl := hw.str
      have hs : z.length ≤ sizeLine := Nat.le_of_lt (small (by omega))
      refine HX.if_false rfl ?_
      have kd : nameD (.str z) = (decide (1 ≤ z.length) && (decide (z.length ≤ 8) && z.cps.toList.all (fun c => decide (c ∈ abc.cps.toList)))) := rfl
      rw [kd] at k
      refine ⟨_, rfl, z, rfl, hs, _, _, rfl, rfl, _, rfl, if_dec (fun h1 => ?_) (fun h1 => ?_)⟩
      · have h1' : 1 ≤ z.length := by omega
        rw [decide_eq_true h1', Bool.true_and] at k
        refine ⟨_, _, rfl, rfl, _, rfl, ?_⟩
        by_cases h8 : z.length ≤ 8
        · rw [decide_eq_true h8, Bool.true_and] at k
          refine HX.if_false (by rw [decide_eq_true (by omega)]; rfl) ?_
          refine ⟨_, rfl, z, rfl, fun D nD => lc_bl walk_str (fun i => decide (z.cps.toList[i]?.getD 0 ∈ abc.cps.toList)) (by show z.length < 1000; omega) nD (fun _ _ => trivial) (fun i x H2 H3 Kq hi e y kq => ?_) (fun H2 e hD => ?_)⟩
          · obtain ⟨rfl, c, hc, rfl⟩ := y
            refine ⟨rfl, _, rfl, c, _, rfl, rfl, ?_⟩
            have hc2 : z.cps.toList[i]? = some c := by simpa using hc
            have kq2 := kq _ (Ex.rf _)
            rw [hc2] at kq2
            exact kq2
          · refine ⟨D, _, rfl, SqL.of hD, ?_⟩
            rw [show z.cps.size = z.cps.toList.length from Array.length_toList.symm, all_rng (fun c => decide (c ∈ abc.cps.toList)) _ z.cps.toList (fun i a h => by rw [h]; rfl)]
            exact k _ e
        · rw [decide_eq_false h8, Bool.false_and] at k
          exact HX.if_true (by rw [decide_eq_false (by omega)]; rfl) (k.no rfl)
      · rw [decide_eq_false (by omega), Bool.false_and] at k
        exact ⟨_, rfl, HX.if_true rfl (k.no rfl)⟩
theorem ok_are_risingA (T : Txt K mg A) : FnOk P w K mg base CX0 1 A.f_are_rising A.d_are_rising ["names"] (spRiseA K) := by
  refine T.F_are_rising.ok sc_are_rising (fun vs H Q E h => ?_) (fun cdv A0 outer s H vs Q E hr h => ?_)
  · obtain ⟨_, _, rfl, _⟩ := h
    rfl
  · have hu := hu_of hr
    obtain ⟨a, ss, rfl, ha, hl, k⟩ := h
    refine ⟨_, (pss_one (ps_ret (pe_callB (cr_all rfl) (by rfl) T.g_all (by decide +kernel) (pa_cons (pe_lc (own := [("one", 1), ("other", 2)]) (g := (gTup K 2 (gCons (gName 1) (gCons (gName 2) gNil)))) (tt := tYes) rfl sc_are_rising.nd (RZ.pi_zipA (by rfl) T.g_zip (pa_cons (pv 0) (pa_cons (pe_slice sl_seq (pv 0) (po_some pe_int) po_none) pa_nil))) (blkOk_by (N := N_are_rising) (sc := defScope s_are_rising) (by decide +kernel)) (fun _ _ _ _ _ => pg_tup rfl (pgs_cons (pg_name (i := 1) sc_are_rising.nd rfl (Or.inl rfl)) (pgs_cons (pg_name (i := 2) sc_are_rising.nd rfl (Or.inl rfl)) pgs_nil))) (fun _ _ _ _ _ => pts_nil) (fun _ _ _ _ _ => (pe_cmpR op_lt_str (pv 1) (pv 2) (nomark _)))) pa_nil)))), ?_⟩
    have rr := rises_rng ss (fun i => decide ((ss[i]?.getD "").cps.toList < (ss[i + 1]?.getD "").cps.toList)) (fun i a b h1 h2 => by rw [h1, h2]; rfl)
    have turn : ∀ (i : Nat) (x : V) (H2 H3 : Hp), YPair (fun i => (ss.map V.str)[i]?) (fun i => (ss.map V.str).tail[i]?) i H2 x H3 → ∃ T u z, x = .ref T ∧ H2 T = none ∧ H3 = upd H2 T (.tup [.str u, .str z]) ∧ ss[i]? = some u ∧ ss[i + 1]? = some z := fun i x H2 H3 y => by
      obtain ⟨T, v, v', h1, h2, h3, h4, h5⟩ := y
      replace h4 : (ss.map V.str)[i]? = some v := h4
      replace h5 : (ss.map V.str).tail[i]? = some v' := h5
      rw [List.getElem?_map] at h4
      obtain ⟨u, hu, rfl⟩ := Option.map_eq_some_iff.mp h4
      rw [List.getElem?_tail, List.getElem?_map] at h5
      obtain ⟨z, hz, rfl⟩ := Option.map_eq_some_iff.mp h5
      exact ⟨T, u, z, h1, h2, h3, hu, hz⟩
    have ln : (ss.map V.str).length = ss.length := List.length_map ..
    have lt : (ss.map V.str).tail.length = ss.length - 1 := by rw [List.length_tail, ln]
    rcases ha with ha | ha
    · refine ⟨_, rfl, _, rfl, _, rfl, .inl ⟨a, _, rfl, SqL.of ha, fun q nq => ?_⟩⟩
      rw [cut_tail]
      have e0 : Ex H (upd H q (.lst (ss.map V.str).tail)) := Ex.nw nq
      refine ⟨a, q, _, _, rfl, .inl ⟨SqL.of (e0 _ _ ha), SqL.of upd_same, fun D nD => lc_bl (walk_zip (xs := ss.map V.str) (ys := (ss.map V.str).tail) (n := ss.length - 1) (by omega)) (fun i => decide ((ss[i]?.getD "").cps.toList < (ss[i + 1]?.getD "").cps.toList)) (by omega) nD (fun H' e => ⟨SqL.of (e _ _ (e0 _ _ ha)), SqL.of (e _ _ upd_same)⟩) (fun i x H2 H3 Kq hi e y kq => ?_) (fun H2 e hD => ?_)⟩⟩
      · obtain ⟨T, u, z, rfl, nT, rfl, h1, h2⟩ := turn i x H2 H3 y
        rw [h1, h2] at kq
        refine ⟨T, _, rfl, SqT.of upd_same, rfl, _, _, rfl, _, _, rfl, rfl, rfl, _, rfl, _, rfl, u, z, rfl, rfl, ?_⟩
        exact kq _ (Ex.nw nT)
      · refine ⟨D, _, rfl, SqL.of hD, ?_⟩
        rw [rr]
        exact k _ (e0.tr e)
    · refine ⟨_, rfl, _, rfl, _, rfl, .inr ⟨a, _, rfl, ha, fun hw => ?_, fun hw q nq => ?_⟩⟩
      · have h0 : ss = [] := by
          have := hw.1
          rw [ln] at this
          have h1 : min 1 ss.length = 0 := this
          exact List.eq_nil_of_length_eq_zero (by omega)
        have e0 : Ex H H := Ex.rf _
        have hq : SqT K H a (ss.map V.str).tail := by rw [h0] at ha ⊢; exact ha
        refine ⟨a, a, _, _, rfl, .inr ⟨sqt_ex ha e0, hq, fun D nD => lc_bl (walk_zipT (xs := ss.map V.str) (ys := (ss.map V.str).tail) (n := ss.length - 1) (by omega)) (fun i => decide ((ss[i]?.getD "").cps.toList < (ss[i + 1]?.getD "").cps.toList)) (by omega) nD (fun H' e => ⟨sqt_ex (sqt_ex ha e0) e, sqt_ex hq e⟩) (fun i x H2 H3 Kq hi e y kq => ?_) (fun H2 e hD => ?_)⟩⟩
        · obtain ⟨T, u, z, rfl, nT, rfl, h1, h2⟩ := turn i x H2 H3 y
          rw [h1, h2] at kq
          refine ⟨T, _, rfl, SqT.of upd_same, rfl, _, _, rfl, _, _, rfl, rfl, rfl, _, rfl, _, rfl, u, z, rfl, rfl, ?_⟩
          exact kq _ (Ex.nw nT)
        · refine ⟨D, _, rfl, SqL.of hD, ?_⟩
          rw [rr]
          exact k _ (e0.tr e)
      · rw [cut_tail]
        have e0 : Ex H (upd H q (.tup (ss.map V.str).tail)) := Ex.nw nq
        have hq : SqT K (upd H q (.tup (ss.map V.str).tail)) q (ss.map V.str).tail := SqT.of upd_same
        refine ⟨a, q, _, _, rfl, .inr ⟨sqt_ex ha e0, hq, fun D nD => lc_bl (walk_zipT (xs := ss.map V.str) (ys := (ss.map V.str).tail) (n := ss.length - 1) (by omega)) (fun i => decide ((ss[i]?.getD "").cps.toList < (ss[i + 1]?.getD "").cps.toList)) (by omega) nD (fun H' e => ⟨sqt_ex (sqt_ex ha e0) e, sqt_ex hq e⟩) (fun i x H2 H3 Kq hi e y kq => ?_) (fun H2 e hD => ?_)⟩⟩
        · obtain ⟨T, u, z, rfl, nT, rfl, h1, h2⟩ := turn i x H2 H3 y
          rw [h1, h2] at kq
          refine ⟨T, _, rfl, SqT.of upd_same, rfl, _, _, rfl, _, _, rfl, rfl, rfl, _, rfl, _, rfl, u, z, rfl, rfl, ?_⟩
          exact kq _ (Ex.nw nT)
        · refine ⟨D, _, rfl, SqL.of hD, ?_⟩
          rw [rr]
          exact k _ (e0.tr e)
theorem ok_are_kindsA (T : Txt K mg A) : FnOk P w K mg base CX0 1 A.f_are_kinds A.d_are_kinds ["value", "most", "with_rows"] (spKindsA) := by
  refine T.F_are_kinds.ok sc_are_kinds (fun vs H Q E h => ?_) (fun cdv A0 outer s H vs Q E hr h => ?_)
  · obtain ⟨_, _, _, _, _, rfl, _⟩ := h
    rfl
  · have hu := hu_of hr
    obtain ⟨p, v, d, m, b, rfl, hz, hw, k⟩ := h
    refine ⟨_, (pss_cons (ps_if (PW.pt (pw_or (pt_not (pt_val (pe_callB call_isi (by rfl) T.g_isinstance (by decide +kernel) (pa_cons (pv 0) (pa_cons (pe_bltn (v := .ty "str") (by rfl) T.g_str (by decide +kernel) rfl) pa_nil))))) (pw_or1 (pt_cmpR op_gt (pe_callB call_len_str (by rfl) T.g_len (by decide +kernel) (pa_cons (pv 0) pa_nil)) (pv 1) (nomark _))))) (pss_one (ps_ret pe_bl)) pss_nil)
      (pss_cons (ps_set (i := 3) sc_are_kinds.nd rfl (Or.inr rfl) (pe_ifExp (pt_val (pv 2)) pe_str pe_str))
      (pss_one (ps_ret (pe_callB (cr_all rfl) (by rfl) T.g_all (by decide +kernel) (pa_cons (pe_lc (own := [("kind", 4)]) (g := (gName 4)) (tt := tYes) rfl sc_are_kinds.nd (pi_str (pv 0)) (blkOk_by (N := N_are_kinds) (sc := defScope s_are_kinds) (by decide +kernel)) (fun _ _ _ _ _ => pg_name (i := 4) sc_are_kinds.nd rfl (Or.inl rfl)) (fun _ _ _ _ _ => pts_nil) (fun _ _ _ _ _ => (pe_cmpR op_in_sign (pv 4) (pv 3) (by rfl)))) pa_nil)))))), ?_⟩
    obtain ⟨ty, tx, kt⟩ := kt_strD (K := K) hz
    refine ⟨_, rfl, _, _, _, _, _, rfl, .ty _, tx, kt, _, rfl, ?_⟩
    cases hz with
    | non => exact HX.if_true rfl (k.no rfl)
    | bl b => exact HX.if_true rfl (k.no rfl)
    | int i => exact HX.if_true rfl (k.no rfl)
    | lst => exact HX.if_true rfl (k.no rfl)
    | tup => exact HX.if_true rfl (k.no rfl)
    | dct => exact HX.if_true rfl (k.no rfl)
    | str z =>
      have hl := hw.str
      have hs : z.length ≤ sizeLine := Nat.le_of_lt (small (by omega))
      refine HX.if_false rfl ?_
      refine ⟨_, rfl, z, rfl, hs, _, rfl, _, _, rfl, rfl, _, rfl, if_dec (fun h1 => ?_) (fun h1 => ?_)⟩
      · exact k.no (by show (decide ((z.length : Int) ≤ m) && _) = false; rw [decide_eq_false (by omega), Bool.false_and])
      have kd : kindsD (.str z) m b = z.cps.toList.all (fun c => decide (c ∈ (if b = true then ("nr" : Str) else ("n" : Str)).cps.toList)) := by
        show (decide ((z.length : Int) ≤ m) && kindsOk b z) = _
        rw [decide_eq_true (by omega), Bool.true_and, kinds_in]
      rw [kd] at k
      cases b with
      | true =>
        refine ⟨_, rfl, _, rfl, HX.if_true rfl ?_⟩
        refine ⟨_, rfl, z, rfl, fun D nD => lc_bl walk_str (fun i => decide (z.cps.toList[i]?.getD 0 ∈ (if true = true then ("nr" : Str) else ("n" : Str)).cps.toList)) (by show z.length < 1000; omega) nD (fun _ _ => trivial) (fun i x H2 H3 Kq hi e y kq => ?_) (fun H2 e hD => ?_)⟩
        · obtain ⟨rfl, c, hc, rfl⟩ := y
          refine ⟨rfl, _, rfl, _, rfl, c, _, rfl, rfl, ?_⟩
          have hc2 : z.cps.toList[i]? = some c := by simpa using hc
          have kq2 := kq _ (Ex.rf _)
          rw [hc2] at kq2
          exact kq2
        · refine ⟨D, _, rfl, SqL.of hD, ?_⟩
          rw [show z.cps.size = z.cps.toList.length from Array.length_toList.symm, all_rng (fun c => decide (c ∈ _)) _ z.cps.toList (fun i a h => by rw [h]; rfl)]
          exact k _ e
      | false =>
        refine ⟨_, rfl, _, rfl, HX.if_false rfl ?_⟩
        refine ⟨_, rfl, z, rfl, fun D nD => lc_bl walk_str (fun i => decide (z.cps.toList[i]?.getD 0 ∈ (if false = true then ("nr" : Str) else ("n" : Str)).cps.toList)) (by show z.length < 1000; omega) nD (fun _ _ => trivial) (fun i x H2 H3 Kq hi e y kq => ?_) (fun H2 e hD => ?_)⟩
        · obtain ⟨rfl, c, hc, rfl⟩ := y
          refine ⟨rfl, _, rfl, _, rfl, c, _, rfl, rfl, ?_⟩
          have hc2 : z.cps.toList[i]? = some c := by simpa using hc
          have kq2 := kq _ (Ex.rf _)
          rw [hc2] at kq2
          exact kq2
        · refine ⟨D, _, rfl, SqL.of hD, ?_⟩
          rw [show z.cps.size = z.cps.toList.length from Array.length_toList.symm, all_rng (fun c => decide (c ∈ _)) _ z.cps.toList (fun i a h => by rw [h]; rfl)]
          exact k _ e
theorem ok_is_workA (T : Txt K mg A) : FnOk P w K mg base CX0 3 A.f_is_work A.d_is_work ["value", "world"] (spIsWorkA A.C_World) := by
  refine T.F_is_work.ok sc_is_work (fun vs H Q E h => ?_) (fun cdv A0 outer s H vs Q E hr h => ?_)
  · obtain ⟨_, _, _, _, _, rfl, _⟩ := h
    rfl
  · have hu := hu_of hr
    obtain ⟨p, v, d, x, L, rfl, hP, hW, k⟩ := h
    refine ⟨_, (pss_cons (ps_if (PW.pt (pw_or (pt_not (pt_val (pe_callB call_isi (by rfl) T.g_isinstance (by decide +kernel) (pa_cons (pv 0) (pa_cons (pe_bltn (v := .ty "tuple") (by rfl) T.g_tuple (by decide +kernel) rfl) pa_nil))))) (pw_or1 (pt_cmpR op_ne (pe_callB call_len_seq (by rfl) T.g_len (by decide +kernel) (pa_cons (pv 0) pa_nil)) pe_int (nomark _))))) (pss_one (ps_ret pe_bl)) pss_nil)
      (pss_one (ps_ret (pe_and (pe_call (ok_is_nameA T) (hr.mono (by decide)) (by rfl) T.m_is_name T.F_is_name.kp T.b_is_name .nil pass0 (pa_cons (pe_ix ix_tup (pv 0) pe_int (fun _ _ => rfl)) pa_nil)) (pe_one (pe_call (ok_are_kindsA T) (hr.mono (by decide)) (by rfl) T.m_are_kinds T.F_are_kinds.kp T.b_are_kinds .nil pass0 (pa_cons (pe_ix ix_tup (pv 0) pe_int (fun _ _ => rfl)) (pa_cons (pe_glob (v := .int 3) (by rfl) T.c_MOST_VALUES.choose_spec ⟨_, rfl⟩) (pa_cons (pe_callTy call_boolT (by rfl) T.g_bool (by decide +kernel) (pa_cons (pe_prop (pv 1) T.cls_World T.P_rows (ok_World_rows T) (hr.mono (by decide)) T.b_World_rows .nil pass0 rfl) pa_nil)) pa_nil))))))))), ?_⟩
    cases d with
    | bad =>
      rcases hP with rfl | ⟨z, rfl⟩ | ⟨a, xs, rfl, ha⟩ | ⟨b, xs, rfl, hb, hn⟩
      · exact ⟨_, rfl, _, _, _, _, _, rfl, .ty _, .base .non, kit_ty (r := false) (by decide +kernel), _, rfl, HX.if_true rfl (k.no rfl)⟩
      · exact ⟨_, rfl, _, _, _, _, _, rfl, .ty _, .base (.str z), kit_ty (r := false) (by decide +kernel), _, rfl, HX.if_true rfl (k.no rfl)⟩
      · exact ⟨_, rfl, _, _, _, _, _, rfl, .ty _, .base (.lst ha), kit_ty (r := false) (by decide +kernel), _, rfl, HX.if_true rfl (k.no rfl)⟩
      · exact ⟨_, rfl, _, _, _, _, _, rfl, .ty _, .base (.tup hb), kit_ty (r := true) (by decide +kernel), _, rfl, HX.if_false rfl ⟨_, rfl, b, _, rfl, .inr (SqT.of hb), rfl, _, rfl, HX.if_true (by rw [decide_eq_false (fun q => hn (by injection q with q; omega))]; rfl) (k.no rfl)⟩⟩
    | three dn dk =>
      obtain ⟨⟨b, vn, t, vk, rfl, hb, zn, zk⟩, wn, wk⟩ := hP
      refine ⟨_, rfl, _, _, _, _, _, rfl, .ty _, .base (.tup hb), kit_ty (r := true) (by decide +kernel), _, rfl, HX.if_false rfl ⟨_, rfl, b, _, rfl, .inr (SqT.of hb), rfl, _, rfl, HX.if_false rfl ?_⟩⟩
      refine ⟨_, rfl, b, _, _, _, rfl, rfl, SqT.of hb, rfl, p, vn, dn, rfl, zn, wn, fun H1 e1 => ⟨_, rfl, ?_⟩⟩
      by_cases h1 : nameD dn = true
      rotate_left
      · have h1 := Bool.eq_false_iff.mpr h1
        have k2 := k _ e1
        rw [show partOk (!L.rn.isEmpty) (.three dn dk) = false by show (nameD dn && _) = false; rw [h1]; rfl] at k2
        exact HX.if_false h1 k2
      refine HX.if_true h1 ?_
      have hW1 := hW.ex e1
      obtain ⟨dx, vc, vr, vl, d, e, kvs, g1, g2, g3, g4, g5, g6⟩ := id hW1
      refine ⟨_, rfl, b, _, _, _, rfl, rfl, SqT.of (e1 _ _ hb), rfl, _, rfl, x, dx, _, rfl, g1, x, L, rfl, hW1, fun v2 hv2 => ?_⟩
      obtain ⟨ar, ys, rfl, har, ly, hy⟩ := row_at hv2
      refine ⟨ar, ys, rfl, SqT.of har, p, vk, dk, 3, _, rfl, zk.ex e1, wk, fun H2 e2 => ?_⟩
      have k2 := k _ (e1.tr e2)
      rw [show partOk (!L.rn.isEmpty) (.three dn dk) = kindsD dk 3 (!ys.isEmpty) by
        show (nameD dn && kindsD dk 3 (!L.rn.isEmpty)) = _
        rw [h1, Bool.true_and, show ys.isEmpty = L.rn.isEmpty from by cases ys <;> cases hr2 : L.rn <;> first | rfl | (rw [hr2] at ly; simp at ly)]] at k2
      exact k2
theorem ok_are_worksA (T : Txt K mg A) : FnOk P w K mg base CX0 4 A.f_are_works A.d_are_works ["value", "world"] (spAreWorksA A.C_World) := by
  refine T.F_are_works.ok sc_are_works (fun vs H Q E h => ?_) (fun cdv A0 outer s H vs Q E hr h => ?_)
  · obtain ⟨_, _, _, _, _, rfl, _⟩ := h
    rfl
  · have hu := hu_of hr
    obtain ⟨p, v, o, x, L, rfl, hV, hW, k⟩ := h
    refine ⟨_, (pss_cons (ps_if (PW.pt (pw_or (pt_not (pt_val (pe_callB call_isi (by rfl) T.g_isinstance (by decide +kernel) (pa_cons (pv 0) (pa_cons (pe_bltn (v := .ty "tuple") (by rfl) T.g_tuple (by decide +kernel) rfl) pa_nil))))) (pw_or1 (pt_not (pt_chain op_le op_le pe_int (pe_callB call_len_seq (by rfl) T.g_len (by decide +kernel) (pa_cons (pv 0) pa_nil)) (pe_glob (v := .int 3) (by rfl) T.c_MOST_WORKS.choose_spec ⟨_, rfl⟩)))))) (pss_one (ps_ret pe_bl)) pss_nil)
      (pss_cons (ps_if (pt_not (pt_val (pe_callB (cr_all rfl) (by rfl) T.g_all (by decide +kernel) (pa_cons (pe_lc (own := [("part", 3)]) (g := (gName 3)) (tt := tYes) rfl sc_are_works.nd (pi_tup (pv 0)) (blkOk_by (N := N_are_works) (sc := defScope s_are_works) (by decide +kernel)) (fun _ _ _ _ _ => pg_name (i := 3) sc_are_works.nd rfl (Or.inl rfl)) (fun _ _ _ _ _ => pts_nil) (fun _ _ _ _ _ => (pe_call (ok_is_workA T) (hr.mono (by decide)) (by rfl) T.m_is_work T.F_is_work.kp T.b_is_work .nil pass0 (pa_cons (pv 3) (pa_cons (pv 1) pa_nil))))) pa_nil)))) (pss_one (ps_ret pe_bl)) pss_nil)
      (pss_one (ps_ret (pe_call (ok_are_risingA T) (hr.mono (by decide)) (by rfl) T.m_are_rising T.F_are_rising.kp T.b_are_rising .nil pass0 (pa_cons (pe_lc (own := [("work", 2)]) (g := (gName 2)) (tt := tYes) rfl sc_are_works.nd (pi_tup (pv 0)) (blkOk_by (N := N_are_works) (sc := defScope s_are_works) (by decide +kernel)) (fun _ _ _ _ _ => pg_name (i := 2) sc_are_works.nd rfl (Or.inl rfl)) (fun _ _ _ _ _ => pts_nil) (fun _ _ _ _ _ => (pe_ix (ix_tupK (K := K) rfl) (pv 2) pe_int (fun _ _ => rfl)))) pa_nil)))))), ?_⟩
    cases o with
    | none =>
      rcases hV with rfl | ⟨a, xs, rfl, ha⟩
      · exact ⟨_, rfl, _, _, _, _, _, rfl, .ty _, .base .non, kit_ty (r := false) (by decide +kernel), _, rfl, HX.if_true rfl (k.no rfl)⟩
      · exact ⟨_, rfl, _, _, _, _, _, rfl, .ty _, .base (.lst ha), kit_ty (r := false) (by decide +kernel), _, rfl, HX.if_true rfl (k.no rfl)⟩
    | some ps =>
      obtain ⟨⟨a, xs, rfl, ha, lx, hx⟩, l9⟩ := hV
      refine ⟨_, rfl, _, _, _, _, _, rfl, .ty _, .base (.tup ha), kit_ty (r := true) (by decide +kernel), _, rfl, HX.if_false rfl ?_⟩
      have kd : worksOk (!L.rn.isEmpty) (some ps) = (decide (1 ≤ ps.length) && (decide (ps.length ≤ 3) && (ps.all (partOk (!L.rn.isEmpty)) && rises (ps.map partN)))) := rfl
      rw [kd] at k
      refine ⟨_, rfl, a, _, rfl, .inr (SqT.of ha), _, _, rfl, rfl, _, rfl, if_dec (fun h1 => ?_) (fun h1 => ?_)⟩
      rotate_left
      · rw [decide_eq_false (by omega), Bool.false_and] at k
        exact ⟨_, rfl, HX.if_true rfl (k.no rfl)⟩
      rw [decide_eq_true (by omega : 1 ≤ ps.length), Bool.true_and] at k
      refine ⟨_, _, rfl, rfl, _, rfl, ?_⟩
      by_cases h3 : ps.length ≤ 3
      rotate_left
      · rw [decide_eq_false h3, Bool.false_and] at k
        exact HX.if_true (by rw [decide_eq_false (by omega)]; rfl) (k.no rfl)
      rw [decide_eq_true h3, Bool.true_and] at k
      refine HX.if_false (by rw [decide_eq_true (by omega)]; rfl) ?_
      refine ⟨_, rfl, a, rfl, ⟨_, SqT.of ha⟩, fun D nD => lc_bl (walk_tup (xs := xs)) (fun i => partOk (!L.rn.isEmpty) (ps[i]?.getD .bad)) (by omega) nD (fun H' e => SqT.of (e _ _ ha)) (fun i x2 H2 H3 Kq hi e y kq => ?_) (fun H2 e hD => ?_)⟩
      · obtain ⟨rfl, hx2⟩ := y
        have hj2 : i < ps.length := by omega
        have hd : ps[i]? = some ps[i] := List.getElem?_eq_getElem hj2
        have dz := hx i x2 _ hx2 hd
        rw [hd] at kq
        exact ⟨rfl, _, rfl, _, rfl, p, x2, _, x, L, rfl, dz.ex e, hW.ex e, fun H4 e4 => kq H4 e4⟩
      · refine ⟨D, _, rfl, SqL.of hD, ?_⟩
        rw [lx, all_rng (partOk (!L.rn.isEmpty)) _ ps (fun i a h => by rw [h]; rfl)]
        refine ⟨_, rfl, ?_⟩
        by_cases hall : ps.all (partOk (!L.rn.isEmpty)) = true
        rotate_left
        · rw [Bool.eq_false_iff.mpr hall, Bool.false_and] at k
          exact HX.if_true (by rw [Bool.eq_false_iff.mpr hall]; rfl) (k _ e)
        refine HX.if_false (by rw [hall]; rfl) ?_
        rw [hall, Bool.true_and] at k
        have ha2 := e _ _ ha
        refine ⟨_, rfl, a, rfl, ⟨_, SqT.of ha2⟩, fun D2 nD2 => lc_tz (walk_tup (xs := xs)) (fun i => .str ((ps.map partN)[i]?.getD "")) (by omega) nD2 (fun H' e' => SqT.of (e' _ _ ha2)) (fun i x2 H3 H4 Kq hi e' y kq => ?_) (fun H3 ys e' hD2 hy => ?_)⟩
        · obtain ⟨rfl, hx2⟩ := y
          have hj2 : i < ps.length := by omega
          have hd : ps[i]? = some ps[i] := List.getElem?_eq_getElem hj2
          have dz := ((hx i x2 _ hx2 hd).ex e).ex e'
          have q := List.all_eq_true.mp hall _ (List.getElem_mem hj2)
          obtain ⟨dd, hdd⟩ : ∃ z, z = ps[i] := ⟨_, rfl⟩
          rw [← hdd] at dz q hd
          cases dd with
          | bad => cases q
          | three dn dk =>
            obtain ⟨q1, -⟩ := Bool.and_eq_true_iff.mp q
            obtain ⟨⟨b, vn, t, vk, rfl, hb, zn, zk⟩, -⟩ := dz
            obtain ⟨n, rfl⟩ : ∃ n, dn = .str n := ⟨_, nameD_str q1⟩
            cases zn.strI
            refine ⟨rfl, _, rfl, b, _, _, _, rfl, rfl, SqT.of hb, rfl, kq _ _ (Ex.rf _) ?_⟩
            rw [List.getElem?_map, hd]
            exact .str _
        · rw [names_of (by rw [List.length_map]; exact lx)] at hy
          obtain rfl := hy.strs
          exact ⟨D2, _, rfl, .inl hD2, by rw [List.length_map]; omega, fun H4 e4 => k _ (e.tr (e'.tr e4))⟩
theorem ok_all_values (T : Txt K mg A) : FnOk P w K mg base CX0 3 A.f_all_values A.d_all_values ["world", "kinds"] (spAllV A.C_World) := by
  refine T.F_all_values.ok sc_all_values (fun vs H Q E h => ?_) (fun cdv A0 outer s H vs Q E hr h => ?_)
  · obtain ⟨_, _, _, rfl, _⟩ := h
    rfl
  · have hu := hu_of hr
    obtain ⟨x, L, z, rfl, hW, ok, hz, k⟩ := h
    refine ⟨_, (pss_cons (ps_setLc (i := 2) (own := [("row", 6)]) (g := (gName 6)) (tt := tYes) (by rfl) sc_all_values.nd rfl rfl (sw_true rfl rfl rfl (by decide +kernel)) (pi_tup (pe_prop (pv 0) T.cls_World T.P_rows (ok_World_rows T) (hr.mono (by decide)) T.b_World_rows .nil pass0 rfl)) (blkOk_by (N := N_all_values) (sc := defScope s_all_values) (by decide +kernel)) (fun _ _ _ _ _ => pg_name (i := 6) sc_all_values.nd rfl (Or.inl rfl)) (fun _ _ _ _ _ => pts_nil) (fun _ _ _ _ _ => (pe_ix (ix_tupK (K := K) rfl) (pv 6) pe_int (fun _ _ => rfl))))
      (pss_cons (ps_set (i := 3) sc_all_values.nd rfl (Or.inl rfl) (pe_lst (pa_cons (pe_tup pa_nil) pa_nil)))
      (pss_cons (ps_for PassesOwn.never rfl (pi_str (pv 1)) (pg_name (i := 4) sc_all_values.nd rfl (Or.inl rfl)) (pss_cons (ps_set (i := 5) sc_all_values.nd rfl (Or.inr rfl) (pe_ifExp (pt_cmpR op_eq (pv 4) pe_str (nomark _)) (pv 2) (pe_listRg rfl (by rfl) T.g_list (prg_1 (by rfl) T.g_range (pe_prop (pv 0) T.cls_World T.P_size (ok_World_size T) (hr.mono (by decide)) T.b_World_size .nil pass0 rfl)))))
      (pss_one (ps_setLc2 (i := 3) (own := [("values", 7), ("choice", 8)]) (vs1 := [8]) (g := (gName 7)) (g1 := (gName 8)) (tt := tYes) (tt1 := tYes) (by rfl) sc_all_values.nd rfl rfl (sw_true rfl rfl rfl (by decide +kernel)) (pi_list (pv 3)) (blkOk_by (N := N_all_values) (sc := defScope s_all_values) (by decide +kernel)) (by decide) (fun _ _ _ _ _ => pg_name (i := 7) sc_all_values.nd rfl (Or.inl rfl)) (fun _ _ _ _ _ => pts_nil) (fun _ _ _ _ _ => (pi_listK (K := K) rfl (pv 5))) (fun _ _ _ _ _ => pg_name (i := 8) sc_all_values.nd rfl (Or.inl rfl)) (fun _ _ _ _ _ => pts_nil) (fun _ _ _ _ _ => (pe_tup (pa_starK (K := K) rfl (pv 7) (pa_cons (pv 8) pa_nil))))))))
      (pss_one (ps_ret (pv 3)))))), ?_⟩
    obtain ⟨dx, vc, vr, vl, d, e, kvs, h1, h2, h3, h4, h5, h6⟩ := id hW
    refine ⟨_, rfl, x, dx, _, rfl, h1, x, L, rfl, hW, fun v2 hv2 => ?_⟩
    obtain ⟨ar, ws, rfl, har, lw, hw⟩ := row_at hv2
    have r2 := ok.r2
    have lrs : L.rs.length = L.rn.length := List.length_map ..
    refine ⟨ar, rfl, ⟨_, SqT.of har⟩, fun D nD => lc_tz (walk_tup (xs := ws)) (fun i => .str (L.rs[i]?.getD "")) (by omega) nD (fun H' e' => SqT.of (e' _ _ har)) (fun i x H3 H4 Kq hi e' y kq => ?_) (fun H1 zs e1 hD hzs => ?_)⟩
    · obtain ⟨rfl, hx2⟩ := y
      obtain ⟨r, b, u, hrr, rfl, hb, hu2⟩ := hw i x hx2
      refine ⟨rfl, _, rfl, b, _, _, _, rfl, rfl, SqT.of (e' _ _ hb), rfl, kq _ _ (Ex.rf _) ?_⟩
      unfold Lore.rs
      rw [List.getElem?_map, hrr]
      exact .str _
    rw [names_of (ss := L.rs) (by omega)] at hzs
    have eD : D ≠ D → False := fun h => h rfl
    refine ⟨(by show 0 ≤ sizeLine; decide), fun t nt => ⟨(by show 1 ≤ sizeLine; decide), fun l nl => ?_⟩⟩
    have et : Ex H1 (upd H1 t (.tup [])) := Ex.nw nt
    have el : Ex (upd H1 t (.tup [])) (upd (upd H1 t (.tup [])) l (.lst [.ref t])) := Ex.nw nl
    obtain ⟨G, EG⟩ : ∃ z, z = upd (upd H1 t (.tup [])) l (.lst [.ref t]) := ⟨_, rfl⟩
    have hl : G l = some (.lst [.ref t]) := by rw [EG]; exact upd_same
    rw [← EG] at el ⊢
    have eG : Ex H1 G := et.tr el
    have hzG := hzs.ex eG
    have hDG := eG _ _ hD
    have h0 : TzL G [.ref t] ((valsD L (z.cps.toList.take 0)).map PyData.tuple) := TzL.one (TzL.tup TzL.nil (el _ _ upd_same))
    have nHl : H l = none := none_of_ex e1 (none_of_ex et nl)
    refine ⟨_, rfl, z, rfl, for_it walk_str (fun i σ H' => (∃ u4 u5 u6 u7 u8 f xs, σ = [some (.ref x), some (.str z), some (.ref D), some (.ref f), u4, u5, u6, u7, u8] ∧ H' f = some (.lst xs) ∧ H f = none ∧ TzL H' xs ((valsD L (z.cps.toList.take i)).map PyData.tuple)) ∧ Ex G H') ⟨⟨_, _, _, _, _, l, _, rfl, hl, nHl, h0⟩, Ex.rf _⟩ (fun _ _ _ _ _ => trivial) ?_ ?_⟩
    · rintro i xv σ H9 H2 hi ⟨⟨u4, u5, u6, u7, u8, f, xs, rfl, hf, nf, hx⟩, e2⟩ ⟨rfl, c, hc, rfl⟩
      have i3 : i < 3 := by have : z.cps.size ≤ 3 := hz; omega
      have hxl : xs.length = (valsD L (z.cps.toList.take i)).length := by rw [hx.1, List.length_map]
      have l16 : xs.length ≤ 16 := by
        rw [hxl]
        refine Nat.le_trans (vals_len L ok _) ?_
        rw [List.length_take]
        exact Nat.le_trans (Nat.pow_le_pow_right (by decide) (show min i z.cps.toList.length ≤ 2 by omega)) (by decide)
      refine ⟨_, rfl, rfl, _, rfl, ?_⟩
      have hW2 : WAt A.C_World H2 x L := hW.ex (e1.tr (eG.tr e2))
      obtain ⟨dx2, vc2, vr2, vl2, d2, e3', kvs2, g1, _⟩ := id hW2
      have m1 := ok.s1; have m0 := ok.s0
      refine bothE (R := fun v G' => ∃ b ys, v = .ref b ∧ Ex H2 G' ∧ G' b = some (.lst ys) ∧ TzL G' ys (chD L c)) (fun hp Qd k' => ⟨_, rfl, k' _ _ ⟨D, zs, rfl, Ex.rf _, e2 _ _ hDG, by have hc2 : c = 114 := one_sign.mp hp; unfold chD; rw [if_pos hc2]; exact hzG.ex e2⟩⟩)
        (fun hp Qd k' => ⟨_, rfl, x, dx2, _, rfl, g1, x, L, rfl, hW2, fun v hv => ⟨L.sz, hv, RgOk.of_le (by decide) (by omega) (by decide) (by omega), fun q nq => k' _ _ ⟨q, _, rfl, Ex.nw nq, upd_same, by have hc2 : ¬ c = 114 := fun z => hp (one_sign.mpr z); unfold chD; rw [if_neg hc2]; exact tzL_rg _⟩⟩⟩) ?_
      rintro v G3 ⟨b, ys, rfl, e3, hb, hys⟩
      have hf3 := e3 _ _ hf
      have hx3 := hx.ex e3
      refine ⟨_, rfl, f, rfl, ⟨_, SqL.of hf3⟩, fun D2 nD2 => lc2_tz (K := K) (walk_list (xs := xs)) (fun _ => chD L c) (fun j d => .tuple (((valsD L (z.cps.toList.take i))[j]?.getD []) ++ [d])) 4 (fun _ _ => chD_len L ok c) (by omega) nD2 (fun H' e => SqL.of (e _ _ hf3)) (fun _ => rfl) (fun _ _ => rfl) (fun j xv H4 R hj hxj e4 _ kR => ?_) (fun j xv yv dd H4 Kq hj hxj e4 hdd tz kq => ?_) (fun H4 us e4 hD4 hus => ?_)⟩
      · exact ⟨_, rfl, b, rfl, ⟨_, SqL.of (e4 _ _ hb)⟩, kR b ys H4 (Ex.rf _) (e4 _ _ hb) (ne_of_none hb nD2) (hys.ex e4)⟩
      · obtain ⟨dv, hdv, tv⟩ := hx3.gotV hxj
        rw [List.getElem?_map] at hdv
        obtain ⟨vl, hvl, rfl⟩ := Option.map_eq_some_iff.mp hdv
        obtain ⟨p, ts, rfl, hp, hts⟩ := (tv.ex e4).tupI
        have lt3 : ts.length ≤ 3 := by
          rw [hts.1, vals_each L _ vl (List.mem_of_getElem? hvl), List.length_take]; omega
        refine ⟨_, rfl, p, ts, rfl, .inl (SqT.of hp), _, rfl, Nat.le_of_lt (small (by rw [List.length_append]; show ts.length + 1 < 1000; omega)), fun t nt => kq _ _ (Ex.nw nt) ?_⟩
        show Tz _ _ (.tuple (((valsD L (z.cps.toList.take i))[j]?.getD []) ++ [dd]))
        rw [hvl]
        exact TzL.tup ((hts.snoc tz).ex (Ex.nw nt)) upd_same
      · refine ⟨⟨_, _, _, _, _, D2, us, rfl, hD4, none_of_ex (e1.tr (eG.tr (e2.tr e3))) nD2, ?_⟩, e2.tr (e3.tr e4)⟩
        have tk : z.cps.toList.take (i + 1) = z.cps.toList.take i ++ [c] := by
          rw [List.take_add_one]
          have : z.cps.toList[i]? = some c := by simpa using hc
          rw [this]; rfl
        rw [tk, vals_snoc]
        have q : ((valsD L (z.cps.toList.take i)).flatMap fun v => (chD L c).map fun d => v ++ [d]).map PyData.tuple = (List.range xs.length).flatMap fun j => (chD L c).map fun d => PyData.tuple (((valsD L (z.cps.toList.take i))[j]?.getD []) ++ [d]) := by
          rw [hxl, flat_range (valsD L (z.cps.toList.take i)) [] (fun v => (chD L c).map fun d => PyData.tuple (v ++ [d])), List.map_flatMap]
          refine congrArg (fun g => (valsD L (z.cps.toList.take i)).flatMap g) (funext fun v => ?_)
          rw [List.map_map]; rfl
        rw [q]
        exact hus
    · rintro σ H2 ⟨⟨u4, u5, u6, u7, u8, f, xs, rfl, hf, nf, hx⟩, e2⟩
      refine ⟨_, rfl, k f xs H2 (e1.tr (eG.tr e2)) nf hf ?_⟩
      rw [List.take_of_length_le (by show z.cps.toList.length ≤ z.cps.size; simp)] at hx
      exact hx
end
end K25
set_option Elab.async false
set_option linter.all false
set_option maxRecDepth 100000
set_option maxHeartbeats 4400000
namespace K25
open PySem PySem.Spec PyProof.Rows L2 HX
open PySem.W (Frag)


def WG (H : Hp) (x : V) (w : Str × Str) : Prop := ∃ b t, x = .ref b ∧ H b = some (.tup [.str w.1, t, .str w.2])
theorem WG.ex {H H' : Hp} {x : V} {w : Str × Str} (h : WG H x w) (e : Ex H H') : WG H' x w := let ⟨b, t, h1, h2⟩ := h; ⟨b, t, h1, e _ _ h2⟩
theorem wg_at {H : Hp} {v : V} {ws : List (Str × Str)} (h : WsG H v ws) : ∃ a xs, v = .ref a ∧ H a = some (.tup xs) ∧ xs.length = ws.length ∧ ∀ (i : Nat) (x : V), xs[i]? = some x → ∃ w, ws[i]? = some w ∧ WG H x w :=
  let ⟨a, xs, h1, h2, h3, h4⟩ := h; ⟨a, xs, h1, h2, h3, fun i x q => let ⟨w, b, t, r1, r2, r3⟩ := h4 i x q; ⟨w, r1, b, t, r2, r3⟩⟩
theorem WsG.te {H H' : Hp} {v : V} {ws : List (Str × Str)} (h : WsG H v ws) (e : TupK H H') : WsG H' v ws := let ⟨a, xs, h1, h2, h3, h4⟩ := h; ⟨a, xs, h1, e _ _ h2, h3, fun i x q => let ⟨w, b, t, r1, r2, r3⟩ := h4 i x q; ⟨w, b, t, r1, r2, e _ _ r3⟩⟩
def rowOf (L : Lore) (i : Nat) : List PyData := PyData.tuple [.int (i : Int)] :: (if 1 < L.mo then (intsD L.sz).map fun d => PyData.tuple [.int (i : Int), d] else [])
def itemsTo (L : Lore) (k : Nat) : List PyData := PyData.tuple [] :: (List.range k).flatMap (rowOf L)
def itemsD (L : Lore) : List PyData := itemsTo L L.sz.toNat
theorem itemsTo_succ (L : Lore) (k : Nat) : itemsTo L (k + 1) = itemsTo L k ++ rowOf L k := by
  unfold itemsTo
  rw [List.range_succ, List.flatMap_append]
  simp
def thingsD (L : Lore) (n : Str) : List PyData := if n ∈ L.cs then intsD L.sz else itemsD L
def chOf (L : Lore) (n : Str) : List PyData := (thingsD L n).map fun d => PyData.tuple [.str "change", .str n, d]
def changesD (L : Lore) : List PyData := L.lo.flatMap (chOf L)
def caOf (L : Lore) (w : Str × Str) : List PyData := ((valsD L w.2.cps.toList).map PyData.tuple).map fun d => PyData.tuple [.str "call", .str w.1, d]
def callsD (L : Lore) (ws : List (Str × Str)) : List PyData := ws.flatMap (caOf L)
theorem ints_len (L : Lore) (ok : L.Ok) : (intsD L.sz).length ≤ 4 := by
  have := ok.s1
  unfold intsD; rw [List.length_map, List.length_range]; omega
theorem row_len (L : Lore) (ok : L.Ok) (i : Nat) : (rowOf L i).length ≤ 5 := by
  have := ints_len L ok
  unfold rowOf
  split
  · rw [List.length_cons, List.length_map]; omega
  · simp
theorem itemsTo_len (L : Lore) (ok : L.Ok) : ∀ k, (itemsTo L k).length ≤ 1 + 5 * k
  | 0 => by simp [itemsTo]
  | k + 1 => by
    rw [itemsTo_succ, List.length_append]
    have a := itemsTo_len L ok k
    have b := row_len L ok k
    omega
theorem items_len (L : Lore) (ok : L.Ok) : (itemsD L).length ≤ 21 := by
  have a := itemsTo_len L ok L.sz.toNat
  have := ok.s1
  unfold itemsD; omega
theorem things_len (L : Lore) (ok : L.Ok) (n : Str) : (thingsD L n).length ≤ 21 := by
  unfold thingsD
  split
  · have := ints_len L ok; omega
  · exact items_len L ok
theorem wf_cn (sz mo : Int) (vc vr vl vd ve : V) : (wf sz mo vc vr vl vd ve).lookup ("cell_number" : Str) = none := by
  unfold wf
  rw [lookup_putF, if_neg (by decide +kernel), lookup_putF, if_neg (by decide +kernel), lookup_putF, if_neg (by decide +kernel), lookup_putF, if_neg (by decide +kernel), lookup_putF, if_neg (by decide +kernel), lookup_putF, if_neg (by decide +kernel), lookup_putF, if_neg (by decide +kernel)]
  rfl
theorem bothS {p : Prop} [Decidable p] {R : V → Hp → Prop} {t1 t2 : TS} {D : Ends} {σ : L2.St} {H : Hp} (i : Nat) (hA : p → ∀ D' : Ends, (∀ v G, R v G → D'.nx (σ.set i (some v)) G) → t1 D' σ H) (hB : ¬ p → ∀ D' : Ends, (∀ v G, R v G → D'.nx (σ.set i (some v)) G) → t2 D' σ H) (h : ∀ v G, R v G → D.nx (σ.set i (some v)) G) : if decide p = true then t1 D σ H else t2 D σ H := by
  by_cases q : p
  · rw [decide_eq_true q]; exact iteT (hA q _ h)
  · rw [decide_eq_false q]; exact iteF (hB q _ h)
def spAllI (C : Addr) : Sp := fun vs H Q _ => ∃ (x : Addr) (L : Lore), vs = [.ref x] ∧ WAt C H x L ∧ L.Ok ∧ OutL H (itemsD L) Q
def spAllCh (C : Addr) : Sp := fun vs H Q _ => ∃ (x : Addr) (L : Lore), vs = [.ref x] ∧ WAt C H x L ∧ L.Ok ∧ OutL H (changesD L) Q
def spAllCa (C : Addr) : Sp := fun vs H Q _ => ∃ (x : Addr) (v : V) (L : Lore) (ws : List (Str × Str)), vs = [.ref x, v] ∧ WAt C H x L ∧ L.Ok ∧ WsOk L ws ∧ WsG H v ws ∧ OutL H (callsD L ws) Q
theorem ints_at {n : Int} {i : Nat} (h : i < n.toNat) : (intsD n)[i]? = some (.int (i : Int)) := by unfold intsD; rw [List.getElem?_map, List.getElem?_range h]; rfl
theorem ints_map (n : Int) (f : PyData → PyData) : (intsD n).map f = (List.range n.toNat).map fun i : Nat => f (.int (i : Int)) := by unfold intsD; rw [List.map_map]; rfl

section
variable {P : Program} {w : World} {K : Frag} {mg : Str → Option Value} {base : Heap} {A : Ad}

theorem ok_all_items (T : Txt K mg A) : FnOk P w K mg base CX0 3 A.f_all_items A.d_all_items ["world"] (spAllI A.C_World) := by
  refine T.F_all_items.ok sc_all_items (fun vs H Q E h => ?_) (fun cdv A0 outer s H vs Q E hr h => ?_)
  · obtain ⟨_, _, rfl, _⟩ := h
    rfl
  · have hu := hu_of hr
    obtain ⟨x, L, rfl, hW, ok, k⟩ := h
    refine ⟨_, (pss_cons (ps_set (i := 1) sc_all_items.nd rfl (Or.inl rfl) (pe_lst (pa_cons (pe_tup pa_nil) pa_nil)))
      (pss_cons (ps_for PassesOwn.never rfl (pi_range1 rfl T.g_range (pa_cons (pe_prop (pv 0) T.cls_World T.P_size (ok_World_size T) (hr.mono (by decide)) T.b_World_size .nil pass0 rfl) pa_nil)) (pg_name (i := 2) sc_all_items.nd rfl (Or.inr rfl)) (pss_cons (ps_expr (pe_bm PySem.F.plainAttrs_list PySem.F.slot_list_append PySem.F.type_list_append mt_append (pv 1) (pa_cons (pe_tup (pa_cons (pv 2) pa_nil)) pa_nil)))
      (pss_one (ps_if (pt_cmpR op_gt (pe_prop (pv 0) T.cls_World T.P_most (ok_World_most T) (hr.mono (by decide)) T.b_World_most .nil pass0 rfl) pe_int (nomark _)) (pss_one (ps_expr (pe_bm PySem.F.plainAttrs_list PySem.F.slot_list_extend PySem.F.type_list_extend mt_extend (pv 1) (pa_cons (pe_lc (own := [("other", 3)]) (g := (gName 3)) (tt := tYes) rfl sc_all_items.nd (pi_range1 rfl T.g_range (pa_cons (pe_prop (pv 0) T.cls_World T.P_size (ok_World_size T) (hr.mono (by decide)) T.b_World_size .nil pass0 rfl) pa_nil)) (blkOk_by (N := N_all_items) (sc := defScope s_all_items) (by decide +kernel)) (fun _ _ _ _ _ => pg_name (i := 3) sc_all_items.nd rfl (Or.inl rfl)) (fun _ _ _ _ _ => pts_nil) (fun _ _ _ _ _ => (pe_tup (pa_cons (pv 2) (pa_cons (pv 3) pa_nil))))) pa_nil)))) pss_nil))))
      (pss_one (ps_ret (pv 1))))), ?_⟩
    have s0 := ok.s0; have s1 := ok.s1; have m1 := ok.m1
    refine ⟨(by show 0 ≤ sizeLine; decide), fun t nt => ⟨(by show 1 ≤ sizeLine; decide), fun f nf => ?_⟩⟩
    have et : Ex H (upd H t (.tup [])) := Ex.nw nt
    have ef : Ex (upd H t (.tup [])) (upd (upd H t (.tup [])) f (.lst [.ref t])) := Ex.nw nf
    obtain ⟨G, EG⟩ : ∃ z, z = upd (upd H t (.tup [])) f (.lst [.ref t]) := ⟨_, rfl⟩
    have hf : G f = some (.lst [.ref t]) := by rw [EG]; exact upd_same
    rw [← EG] at ef ⊢
    have eG := et.tr ef
    have nHf := none_of_ex et nf
    have hWG := hW.ex eG
    obtain ⟨dx, vc, vr, vl, d, e, kvs, h1, h2, h3, h4, h5, h6⟩ := id hWG
    refine ⟨_, rfl, x, dx, _, rfl, h1, x, L, rfl, hWG, fun v hv => ⟨L.sz, by rw [show v = .int L.sz from hv], by omega, by omega, for_range (lo := 0) (n := L.sz.toNat) (fun i σ H' => (∃ u2 u3 xs, σ = [some (.ref x), some (.ref f), u2, u3] ∧ H' f = some (.lst xs) ∧ TzL H' xs (itemsTo L i)) ∧ Ex H H') ⟨⟨_, _, _, rfl, hf, TzL.one (TzL.tup TzL.nil (ef _ _ upd_same))⟩, eG⟩ ?_ ?_⟩⟩
    · rintro i σ H2 hi ⟨⟨u2, u3, xs, rfl, hf2, hx⟩, e2⟩
      have lx : xs.length ≤ 1 + 5 * i := by rw [hx.1]; exact itemsTo_len L ok i
      rw [Int.zero_add]
      refine ⟨_, rfl, .inl ⟨rfl, _, SqL.of hf2⟩, _, rfl, (by show 1 ≤ sizeLine; decide), fun t2 nt2 => ?_⟩
      have e3 : Ex H2 (upd H2 t2 (.tup [.int (i : Int)])) := Ex.nw nt2
      refine ⟨f, _, _, rfl, rfl, e3 _ _ hf2, small (by omega), ?_⟩
      have nft : f ≠ t2 := ne_of_none hf2 nt2
      obtain ⟨H3, E3⟩ : ∃ z, z = upd (upd H2 t2 (.tup [.int (i : Int)])) f (.lst (xs ++ [.ref t2])) := ⟨_, rfl⟩
      rw [← E3]
      have hf3 : H3 f = some (.lst (xs ++ [.ref t2])) := by rw [E3]; exact upd_same
      have eH3 : Ex H H3 := by rw [E3]; exact ex_mu (e2.tr e3) nHf
      have hx3 : TzL H3 (xs ++ [.ref t2]) (itemsTo L i ++ [PyData.tuple [.int (i : Int)]]) := by
        have q : TzL (upd H2 t2 (.tup [.int (i : Int)])) (xs ++ [.ref t2]) (itemsTo L i ++ [PyData.tuple [.int (i : Int)]]) := (hx.ex e3).snoc (TzL.tup (TzL.one (.int _)) upd_same)
        rw [E3]; exact q.te (te_lst (e3 _ _ hf2))
      have hW3 := hW.ex eH3
      obtain ⟨dx3, vc3, vr3, vl3, d3, e3', kvs3, g1, _⟩ := id hW3
      refine ⟨_, rfl, x, dx3, _, rfl, g1, x, L, rfl, hW3, fun v hv => ⟨_, _, hv, rfl, _, rfl, ?_⟩⟩
      by_cases hm : 1 < L.mo
      · refine HX.if_true (decide_eq_true hm) ?_
        refine ⟨_, rfl, .inl ⟨rfl, _, SqL.of hf3⟩, _, rfl, x, dx3, _, rfl, g1, x, L, rfl, hW3, fun v2 hv2 => ⟨L.sz, by rw [show v2 = .int L.sz from hv2], by omega, by omega, fun D nD => lc_tz walk_range (fun j => .tuple [.int (i : Int), .int (j : Int)]) (by omega) nD (fun _ _ => trivial) (fun j xv H4 H5 Kq hj e4 y kq => ?_) (fun H4 us e4 hD hus => ?_)⟩⟩
        · obtain ⟨rfl, rfl⟩ := y
          exact ⟨rfl, _, rfl, _, rfl, (by show 2 ≤ sizeLine; decide), fun q nq => kq _ _ (Ex.nw nq) (TzL.tup (TzL.cons (.int _) (TzL.one (by show Tz _ (V.int (0 + (j : Int))) _; rw [Int.zero_add]; exact .int _))) upd_same)⟩
        · have lu : us.length ≤ 4 := by rw [hus.1, List.length_map, List.length_range]; omega
          refine ⟨f, D, _, _, rfl, rfl, e4 _ _ hf3, hD, Nat.le_of_lt (small (by rw [List.length_append]; show xs.length + 1 + us.length < 1000; omega)), ⟨⟨_, _, _, rfl, upd_same, ?_⟩, ex_mu (eH3.tr e4) nHf⟩⟩
          rw [itemsTo_succ]
          have q : rowOf L i = [PyData.tuple [.int (i : Int)]] ++ (List.range L.sz.toNat).map fun j : Nat => PyData.tuple [.int (i : Int), .int (j : Int)] := by
            unfold rowOf
            rw [if_pos hm, ints_map]; rfl
          rw [q, ← List.append_assoc]
          exact ((hx3.ex e4).app hus).te (te_lst (e4 _ _ hf3))
      · refine HX.if_false (decide_eq_false hm) ?_
        refine ⟨⟨_, _, _, rfl, hf3, ?_⟩, eH3⟩
        rw [itemsTo_succ]
        have q : rowOf L i = [PyData.tuple [.int (i : Int)]] := by unfold rowOf; rw [if_neg hm]
        rw [q]; exact hx3
    · rintro σ H2 ⟨⟨u2, u3, xs, rfl, hf2, hx⟩, e2⟩
      exact ⟨_, rfl, k f xs H2 e2 nHf hf2 hx⟩
theorem ok_all_changes (T : Txt K mg A) : FnOk P w K mg base CX0 4 A.f_all_changes A.d_all_changes ["world"] (spAllCh A.C_World) := by
  refine T.F_all_changes.ok sc_all_changes (fun vs H Q E h => ?_) (fun cdv A0 outer s H vs Q E hr h => ?_)
  · obtain ⟨_, _, rfl, _⟩ := h
    rfl
  · have hu := hu_of hr
    obtain ⟨x, L, rfl, hW, ok, k⟩ := h
    refine ⟨_, (pss_cons (ps_set (i := 1) sc_all_changes.nd rfl (Or.inl rfl) (pe_lst pa_nil))
      (pss_cons (ps_for PassesOwn.never rfl (pi_tup (pe_prop (pv 0) T.cls_World T.P_loose (ok_World_loose T) (hr.mono (by decide)) T.b_World_loose .nil pass0 rfl)) (pg_name (i := 2) sc_all_changes.nd rfl (Or.inr rfl)) (pss_cons (ps_if (pt_cmpR op_isN (pe_meth (pv 0) T.cls_World T.M_cell_number (ok_World_cell_number T) (hr.mono (by decide)) T.b_World_cell_number .nil pass0 (pa_cons (pv 2) pa_nil)) pe_non (nomark _)) (pss_one (ps_set (i := 3) sc_all_changes.nd rfl (Or.inl rfl) (pe_call (ok_all_items T) (hr.mono (by decide)) (by rfl) T.m_all_items T.F_all_items.kp T.b_all_items .nil pass0 (pa_cons (pv 0) pa_nil)))) (pss_one (ps_set (i := 3) sc_all_changes.nd rfl (Or.inl rfl) (pe_listRg rfl (by rfl) T.g_list (prg_1 (by rfl) T.g_range (pe_prop (pv 0) T.cls_World T.P_size (ok_World_size T) (hr.mono (by decide)) T.b_World_size .nil pass0 rfl))))))
      (pss_one (ps_expr (pe_bm PySem.F.plainAttrs_list PySem.F.slot_list_extend PySem.F.type_list_extend mt_extend (pv 1) (pa_cons (pe_lc (own := [("thing", 4)]) (g := (gName 4)) (tt := tYes) rfl sc_all_changes.nd (pi_list (pv 3)) (blkOk_by (N := N_all_changes) (sc := defScope s_all_changes) (by decide +kernel)) (fun _ _ _ _ _ => pg_name (i := 4) sc_all_changes.nd rfl (Or.inl rfl)) (fun _ _ _ _ _ => pts_nil) (fun _ _ _ _ _ => (pe_tup (pa_cons pe_str (pa_cons (pv 2) (pa_cons (pv 4) pa_nil)))))) pa_nil))))))
      (pss_one (ps_ret (pv 1))))), ?_⟩
    have s0 := ok.s0; have s1 := ok.s1; have m1 := ok.m1; have c2 := ok.c2; have r2 := ok.r2; have ll := ok.ll
    have lcs : L.cs.length = L.cn.length := List.length_map ..
    have lrs : L.rs.length = L.rn.length := List.length_map ..
    refine ⟨(by show 0 ≤ sizeLine; decide), fun f nf => ?_⟩
    have eG : Ex H (upd H f (.lst [])) := Ex.nw nf
    obtain ⟨G, EG⟩ : ∃ z, z = upd H f (.lst []) := ⟨_, rfl⟩
    have hf : G f = some (.lst []) := by rw [EG]; exact upd_same
    rw [← EG] at eG ⊢
    have hWG := hW.ex eG
    obtain ⟨dx, vc, vr, vl, d, e, kvs, h1, h2, h3, h4, h5, h6⟩ := id hWG
    refine ⟨_, rfl, x, dx, _, rfl, h1, x, L, rfl, hWG, fun v hv => ?_⟩
    obtain ⟨al, ls, rfl, hal, hls⟩ := Tz.tupI (ds := L.lo.map PyData.str) hv
    obtain rfl := hls.strs
    refine ⟨al, rfl, ⟨_, SqT.of hal⟩, for_it (walk_tup (xs := L.lo.map V.str)) (fun i σ H' => (∃ u2 u3 u4 xs, σ = [some (.ref x), some (.ref f), u2, u3, u4] ∧ H' f = some (.lst xs) ∧ TzL H' xs ((L.lo.take i).flatMap (chOf L)) ∧ xs.length ≤ i * 21) ∧ Ex H H' ∧ H' al = some (.tup (L.lo.map V.str))) ⟨⟨_, _, _, _, rfl, hf, TzL.nil, Nat.zero_le _⟩, eG, hal⟩ (fun i σ H' _ q => SqT.of q.2.2) ?_ ?_⟩
    · rintro i xv σ H9 H2 hi ⟨⟨u2, u3, u4, xs, rfl, hf2, hx, lx⟩, e2, hal2⟩ ⟨rfl, hxi⟩
      rw [List.getElem?_map] at hxi
      obtain ⟨sn, hsn, rfl⟩ := Option.map_eq_some_iff.mp hxi
      have i4 : i < 4 := by rw [List.length_map] at hi; omega
      have hW2 := hW.ex e2
      obtain ⟨dx2, vc2, vr2, vl2, d2, e3', kvs2, g1, _⟩ := id hW2
      refine ⟨_, rfl, x, dx2, _, rfl, g1, wf_cn _ _ _ _ _ _ _, _, rfl, x, L, sn, rfl, hW2, fun v2 hv2 => ⟨rfl, _, rfl, ?_⟩⟩
      have hiff : (v2 = .non) ↔ sn ∉ L.cs := by
        have q := hv2
        by_cases a : v2 = .non <;> by_cases b : sn ∈ L.cs <;> simp [a, b] at q ⊢
      refine bothS (R := fun v G' => ∃ b ys, v = .ref b ∧ Ex H2 G' ∧ G' b = some (.lst ys) ∧ TzL G' ys (thingsD L sn)) 3
        (fun hp D' k' => ⟨_, rfl, x, L, rfl, hW2, ok, fun l ys G' eg nl hl hy => k' _ _ ⟨l, ys, rfl, eg, hl, by unfold thingsD; rw [if_neg (hiff.mp hp)]; exact hy⟩⟩)
        (fun hp D' k' => ⟨_, rfl, x, dx2, _, rfl, g1, x, L, rfl, hW2, fun v hv => ⟨L.sz, hv, RgOk.of_le (by decide) (by omega) (by decide) (by omega), fun q nq => k' _ _ ⟨q, _, rfl, Ex.nw nq, upd_same, by unfold thingsD; rw [if_pos (Decidable.of_not_not fun z => hp (hiff.mpr z))]; exact tzL_rg _⟩⟩⟩) ?_
      rintro v G3 ⟨b, ys, rfl, e3, hb, hys⟩
      have hf3 := e3 _ _ hf2
      have hal3 := e3 _ _ hal2
      have lt := things_len L ok sn
      refine ⟨_, rfl, .inl ⟨rfl, _, SqL.of hf3⟩, ?_⟩
      refine ⟨_, rfl, b, rfl, ⟨_, SqL.of hb⟩, fun D nD => lc_tz (walk_list (xs := ys)) (fun j => (chOf L sn)[j]?.getD .none) (by rw [hys.1]; omega) nD (fun H' e => SqL.of (e _ _ hb)) (fun j xv H4 H5 Kq hj e4 y kq => ?_) (fun H4 us e4 hD hus => ?_)⟩
      · obtain ⟨rfl, hxj⟩ := y
        obtain ⟨dd, hdd, tz⟩ := hys.gotV hxj
        refine ⟨rfl, _, rfl, _, rfl, (by show 3 ≤ sizeLine; decide), fun q nq => kq _ _ (Ex.nw nq) ?_⟩
        unfold chOf
        rw [List.getElem?_map, hdd]
        exact TzL.tup (TzL.cons (.str _) (TzL.cons (.str _) (TzL.one ((tz.ex e4).ex (Ex.nw nq))))) upd_same
      · rw [getD_map (by unfold chOf; rw [List.length_map]; exact hys.1)] at hus
        have lu : us.length ≤ 21 := by rw [hus.1]; unfold chOf; rw [List.length_map]; exact lt
        have nfD : f ≠ D := ne_of_none hf3 nD
        refine ⟨f, D, _, _, rfl, rfl, e4 _ _ hf3, hD, Nat.le_of_lt (small (by omega)), ⟨⟨_, _, _, _, rfl, upd_same, ?_, by rw [List.length_append, Nat.succ_mul]; omega⟩, ex_mu (e2.tr (e3.tr e4)) nf, ?_⟩⟩
        · rw [List.take_add_one, hsn]
          show TzL _ _ (List.flatMap (chOf L) (L.lo.take i ++ [sn]))
          rw [List.flatMap_append]
          have q : List.flatMap (chOf L) [sn] = chOf L sn := by simp
          rw [q]
          exact ((hx.ex (e3.tr e4)).app hus).te (te_lst (e4 _ _ hf3))
        · rw [upd_ne (ne_of hal3 hf3 (by intro y; cases y))]
          exact e4 _ _ hal3
    · rintro σ H2 ⟨⟨u2, u3, u4, xs, rfl, hf2, hx, lx⟩, e2, hal2⟩
      rw [List.take_of_length_le (by simp)] at hx
      exact ⟨_, rfl, k f xs H2 e2 nf hf2 hx⟩
theorem ok_all_calls (T : Txt K mg A) : FnOk P w K mg base CX0 4 A.f_all_calls A.d_all_calls ["world", "works"] (spAllCa A.C_World) := by
  refine T.F_all_calls.ok sc_all_calls (fun vs H Q E h => ?_) (fun cdv A0 outer s H vs Q E hr h => ?_)
  · obtain ⟨_, _, _, _, rfl, _⟩ := h
    rfl
  · have hu := hu_of hr
    obtain ⟨x, v, L, ws, rfl, hW, ok, wok, hz, k⟩ := h
    refine ⟨_, (pss_one (ps_ret (pe_lc2 (own := [("work", 2), ("values", 3)]) (vs1 := [3]) (g := (gName 2)) (g1 := (gName 3)) (tt := tYes) (tt1 := tYes) rfl sc_all_calls.nd (pi_tup (pv 1)) (blkOk_by (N := N_all_calls) (sc := defScope s_all_calls) (by decide +kernel)) (by decide) (fun _ _ _ _ _ => pg_name (i := 2) sc_all_calls.nd rfl (Or.inl rfl)) (fun _ _ _ _ _ => pts_nil) (fun _ _ _ _ _ => (pi_listK (K := K) rfl (pe_call (ok_all_values T) (hr.mono (by decide)) (by rfl) T.m_all_values T.F_all_values.kp T.b_all_values .nil pass0 (pa_cons (pv 0) (pa_cons (pe_ix (ix_tupK (K := K) rfl) (pv 2) pe_int (fun _ _ => rfl)) pa_nil))))) (fun _ _ _ _ _ => pg_name (i := 3) sc_all_calls.nd rfl (Or.inl rfl)) (fun _ _ _ _ _ => pts_nil) (fun _ _ _ _ _ => (pe_tup (pa_cons pe_str (pa_cons (pe_ix (ix_tupK (K := K) rfl) (pv 2) pe_int (fun _ _ => rfl)) (pa_cons (pv 3) pa_nil)))))))), ?_⟩
    obtain ⟨a, xs, rfl, ha, lx, hx⟩ := wg_at hz
    have l3 := wok.l3
    refine ⟨_, rfl, a, rfl, ⟨_, SqT.of ha⟩, fun D nD => lc2_tz (K := K) (walk_tup (xs := xs)) (fun i => (valsD L (ws[i]?.getD ("", "")).2.cps.toList).map PyData.tuple) (fun i d => .tuple [.str "call", .str (ws[i]?.getD ("", "")).1, d]) 64 (fun i hi => ?_) (by omega) nD (fun H' e => SqT.of (e _ _ ha)) (fun _ => rfl) (fun _ _ => rfl) (fun i xv H4 R hi hxi e4 hD kR => ?_) (fun i xv yv dd H4 Kq hi hxi e4 hdd tz kq => ?_) (fun H4 us e4 hD4 hus => ?_)⟩
    · obtain ⟨w', hw⟩ : ∃ z, ws[i]? = some z := ⟨_, List.getElem?_eq_getElem (by omega)⟩
      rw [hw, List.length_map]
      refine Nat.le_trans (vals_len L ok _) ?_
      have := (wok.k w' (List.mem_of_getElem? hw)).1
      exact Nat.le_trans (Nat.pow_le_pow_right (by decide) (show (w'.2.cps.toList).length ≤ 3 by rw [Array.length_toList]; exact this)) (by decide)
    · obtain ⟨w', hw, tz⟩ := hx i xv hxi
      obtain ⟨b, u, rfl, hb⟩ := id (tz.ex e4)
      obtain ⟨oD, hD⟩ := hD
      refine ⟨_, rfl, _, rfl, b, _, _, _, rfl, rfl, SqT.of hb, rfl, x, L, w'.2, rfl, hW.ex e4, ok, (wok.k w' (List.mem_of_getElem? hw)).1, fun l ys H5 e5 nl hl hy => ⟨l, rfl, ⟨_, SqL.of hl⟩, kR l ys H5 e5 hl (fun z => by rw [z, hD] at nl; cases nl) ?_⟩⟩
      rw [hw]; exact hy
    · obtain ⟨w', hw, tw⟩ := hx i xv hxi
      obtain ⟨b, u, rfl, hb⟩ := id (tw.ex e4)
      refine ⟨_, rfl, b, _, _, _, rfl, rfl, SqT.of hb, rfl, _, rfl, (by show 3 ≤ sizeLine; decide), fun q nq => kq _ _ (Ex.nw nq) ?_⟩
      rw [hw]
      exact TzL.tup (TzL.cons (.str _) (TzL.cons (.str _) (TzL.one (tz.ex (Ex.nw nq))))) upd_same
    · refine k D us H4 e4 nD hD4 ?_
      have q := flat_range ws ("", "") (caOf L)
      rw [lx] at hus
      unfold callsD
      rw [← q]
      exact hus
end
end K25
set_option Elab.async false
set_option linter.all false
set_option maxRecDepth 100000
set_option maxHeartbeats 4400000
namespace K25
open PySem PySem.Spec PyProof.Rows L2 HX
open PySem.W (Frag)


def sf (vw vk vp vn vd : V) : List (Str × V) := putF "_deeds" vd (putF "_numbers" vn (putF "_places" vp (putF "_works" vk (putF "_world" vw []))))
def deedsD (L : Lore) (ws : List (Str × Str)) : PyData := .tuple (callsD L ws ++ changesD L)
/-- a setup stands at x -/
def SAt (C : Addr) (H : Hp) (x xw : Addr) (vk vr : V) : Prop := ∃ (dx : Addr) (vn vd : V), H x = some (.ins C dx (sf (.ref xw) vk vr vn vd))
theorem SAt.ex {C x xw : Addr} {H H' : Hp} {vk vr : V} (h : SAt C H x xw vk vr) (e : Ex H H') : SAt C H' x xw vk vr := let ⟨dx, vn, vd, h1⟩ := h; ⟨dx, vn, vd, e _ _ h1⟩
def spSinit (A : Ad) : Sp := fun vs H Q E => ∃ (p x dx xw : Addr) (vk vr : V) (o : Option (List PartD)) (dr : PyData) (L : Lore), vs = [.ref x, .ref xw, vk, vr] ∧ H x = some (.ins A.C_Setup dx []) ∧ x ≠ xw ∧ L.Ok ∧ WAt A.C_World H xw L ∧ WorksAt p H vk o ∧ Dz p H vr dr ∧
  (worksOk (!L.rn.isEmpty) o = false → ∀ (dd : Addr) (H' : Hp), Ex H H' → H' dd = some (.xd [("value", vk)]) → E (.ref A.C_BadSetup) (some dd) H') ∧
  (worksOk (!L.rn.isEmpty) o = true → wholeD dr 1 3 = false → ∀ (dd : Addr) (H' : Hp), Ex H H' → H' dd = some (.xd [("value", vr)]) → E (.ref A.C_BadSetup) (some dd) H') ∧
  (worksOk (!L.rn.isEmpty) o = true → wholeD dr 1 3 = true → ∀ H', (∀ c o, c ≠ x → H c = some o → H' c = some o) → SAt A.C_Setup H' x xw vk vr → Q .non H')
def spSp (C : Addr) (R : V → V → V → V) : Sp := fun vs H Q _ => ∃ (x xw : Addr) (vk vr : V), vs = [.ref x] ∧ SAt C H x xw vk vr ∧ Q (R (.ref xw) vk vr) H
theorem chD_all (L : Lore) (ok : L.Ok) : (changesD L).length ≤ 84 := by
  have ll := ok.ll; have c2 := ok.c2; have r2 := ok.r2
  have lcs : L.cs.length = L.cn.length := List.length_map ..
  have lrs : L.rs.length = L.rn.length := List.length_map ..
  have h : ∀ l : List Str, (l.flatMap (chOf L)).length ≤ l.length * 21 := by
    intro l
    induction l with
    | nil => simp
    | cons a r ih =>
      rw [List.flatMap_cons, List.length_append, List.length_cons, Nat.succ_mul]
      have := things_len L ok a
      have q : (chOf L a).length = (thingsD L a).length := List.length_map ..
      omega
  have := h L.lo
  unfold changesD; omega
theorem caD_all (L : Lore) (ok : L.Ok) (ws : List (Str × Str)) (wok : WsOk L ws) : (callsD L ws).length ≤ 192 := by
  have h : ∀ l : List (Str × Str), (∀ w ∈ l, w.2.length ≤ 3) → (l.flatMap (caOf L)).length ≤ l.length * 64 := by
    intro l
    induction l with
    | nil => intro _; simp
    | cons a r ih =>
      intro hw
      rw [List.flatMap_cons, List.length_append, List.length_cons, Nat.succ_mul]
      have q := ih fun w h => hw w (.tail _ h)
      have q2 : (caOf L a).length ≤ 64 := by
        unfold caOf
        rw [List.length_map, List.length_map]
        refine Nat.le_trans (vals_len L ok _) ?_
        have := hw a (.head _)
        exact Nat.le_trans (Nat.pow_le_pow_right (by decide) (show a.2.cps.toList.length ≤ 3 by rw [Array.length_toList]; exact this)) (by decide)
      omega
  have := h ws fun w hw => (wok.k w hw).1
  have := wok.l3
  unfold callsD; omega

theorem sf_world (vw vk vp vn vd : V) : (sf vw vk vp vn vd).lookup ("_world" : Str) = some vw := by
  unfold sf
  rw [lookup_putF, if_neg (by decide +kernel)]
  rw [lookup_putF, if_neg (by decide +kernel)]
  rw [lookup_putF, if_neg (by decide +kernel)]
  rw [lookup_putF, if_neg (by decide +kernel)]
  rw [lookup_putF, if_pos rfl]
theorem sf_works (vw vk vp vn vd : V) : (sf vw vk vp vn vd).lookup ("_works" : Str) = some vk := by
  unfold sf
  rw [lookup_putF, if_neg (by decide +kernel)]
  rw [lookup_putF, if_neg (by decide +kernel)]
  rw [lookup_putF, if_neg (by decide +kernel)]
  rw [lookup_putF, if_pos rfl]
theorem sf_places (vw vk vp vn vd : V) : (sf vw vk vp vn vd).lookup ("_places" : Str) = some vp := by
  unfold sf
  rw [lookup_putF, if_neg (by decide +kernel)]
  rw [lookup_putF, if_neg (by decide +kernel)]
  rw [lookup_putF, if_pos rfl]
theorem sf_numbers (vw vk vp vn vd : V) : (sf vw vk vp vn vd).lookup ("_numbers" : Str) = some vn := by
  unfold sf
  rw [lookup_putF, if_neg (by decide +kernel)]
  rw [lookup_putF, if_pos rfl]
theorem sf_deeds (vw vk vp vn vd : V) : (sf vw vk vp vn vd).lookup ("_deeds" : Str) = some vd := by
  unfold sf
  rw [lookup_putF, if_pos rfl]
section
variable {P : Program} {w : World} {K : Frag} {mg : Str → Option Value} {base : Heap} {A : Ad}

theorem WAt.but {C x y : Addr} {CX dx : Addr} {fs : List (Str × V)} {H H' : Hp} {L : Lore} (h : WAt C H y L) (hx : H x = some (.ins CX dx fs)) (n : x ≠ y) (o : ∀ c u, c ≠ x → H c = some u → H' c = some u) : WAt C H' y L := by
  obtain ⟨dx, vc, vr, vl, d, e, kvs, h1, h2, h3, h4, h5, h6⟩ := h
  have t : TupK H H' := fun a xs ha => o _ _ (ne_of ha hx (by intro y; cases y)) ha
  exact ⟨dx, vc, vr, vl, d, e, kvs, o _ _ (Ne.symm n) h1, h2.te t, h3.te t, h4.te t, o _ _ (ne_of h5 hx (by intro y; cases y)) h5, h6⟩
theorem ok_BadSetup_init (T : Txt K mg A) : FnOk P w K mg base CX0 1 A.f_BadSetup_init A.d_BadSetup_init ["self", "value"] (spEI A.C_BadSetup "value") := by
  refine T.F_BadSetup_init.ok sc_BadSetup_init (fun vs H Q E h => ?_) (fun cdv A0 outer s H vs Q E hr h => ?_)
  · obtain ⟨_, _, rfl, _⟩ := h
    rfl
  · obtain ⟨a, v, rfl, ha, k⟩ := h
    refine ⟨_, pss_one (ps_ost (pv 0) (pv 1)), ?_⟩
    exact ⟨_, rfl, _, rfl, a, A.C_BadSetup, rfl, T.E_BadSetup.oex, T.E_BadSetup.no, .inl ⟨ha, k⟩⟩
theorem ok_Setup_init (T : Txt K mg A) : FnOk P w K mg base (L2.CX P w) 5 A.f_Setup_init A.d_Setup_init ["self", "world", "works", "room"] (spSinit A) := by
  refine T.F_Setup_init.okX sc_Setup_init (fun vs H Q E h => ?_) (fun cdv A0 outer s H vs Q E hr h => ?_)
  · obtain ⟨_, _, _, _, _, _, _, _, _, rfl, _⟩ := h
    rfl
  · have hu := hu_of hr
    obtain ⟨p, x, dx, xw, vk, vr, o, dr, L, rfl, hx, nxw, ok, hW, hV, hzr, kE1, kE2, kQ⟩ := h
    refine ⟨_, (pss_cons (ps_if (pt_not (pt_val (pe_call (ok_are_worksA T) (hr.mono (by decide)) (by rfl) T.m_are_works T.F_are_works.kp T.b_are_works .nil pass0 (pa_cons (pv 2) (pa_cons (pv 1) pa_nil))))) (pss_one (ps_raise rfl (takes_of rfl rfl rfl rfl) (pmk_oex T.E_BadSetup.oex T.E_BadSetup.ini T.E_BadSetup.fn (ok_BadSetup_init T) (hr.mono (by decide)) T.E_BadSetup.b .nil pass0 (by rfl) T.m_BadSetup (pa_cons (pv 2) pa_nil)))) pss_nil)
      (pss_cons (ps_if (pt_not (pt_val (pe_call (ok_is_whole T) (hr.mono (by decide)) (by rfl) T.m_is_whole T.F_is_whole.kp T.b_is_whole .nil pass0 (pa_cons (pv 3) (pa_cons pe_int (pa_cons pe_int pa_nil)))))) (pss_one (ps_raise rfl (takes_of rfl rfl rfl rfl) (pmk_oex T.E_BadSetup.oex T.E_BadSetup.ini T.E_BadSetup.fn (ok_BadSetup_init T) (hr.mono (by decide)) T.E_BadSetup.b .nil pass0 (by rfl) T.m_BadSetup (pa_cons (pv 3) pa_nil)))) pss_nil)
      (pss_cons (ps_fld (pv 0) (pv 1) rfl)
      (pss_cons (ps_fld (pv 0) (pv 2) rfl)
      (pss_cons (ps_fld (pv 0) (pv 3) rfl)
      (pss_cons (ps_fld (pv 0) (pe_dc (own := [("at", 4), ("work", 5)]) (g := (gTup K 2 (gCons (gName 4) (gCons (gName 5) gNil)))) (tt := tYes) rfl sc_Setup_init.nd (pi_enumT (by rfl) T.g_enumerate (pa_cons (pv 2) pa_nil)) (blkOk_by (N := N_Setup_init) (sc := defScope s_Setup_init) (by decide +kernel)) (fun _ _ _ _ _ => pg_tup rfl (pgs_cons (pg_name (i := 4) sc_Setup_init.nd rfl (Or.inl rfl)) (pgs_cons (pg_name (i := 5) sc_Setup_init.nd rfl (Or.inl rfl)) pgs_nil))) (fun _ _ _ _ _ => pts_nil) (fun _ _ _ _ _ => (pe_ix (ix_tupK (K := K) rfl) (pv 5) pe_int (fun _ _ => rfl))) (fun _ _ _ _ _ => (pv 4))) rfl)
      (pss_one (ps_fld (pv 0) (pe_callTy call_tuple_of (by rfl) T.g_tuple (by decide +kernel) (pa_cons (pe_op op_cat (pe_call (ok_all_calls T) (hr.mono (by decide)) (by rfl) T.m_all_calls T.F_all_calls.kp T.b_all_calls .nil pass0 (pa_cons (pv 1) (pa_cons (pv 2) pa_nil))) (pe_call (ok_all_changes T) (hr.mono (by decide)) (by rfl) T.m_all_changes T.F_all_changes.kp T.b_all_changes .nil pass0 (pa_cons (pv 1) pa_nil))) pa_nil)) rfl)))))))), ?_⟩
    refine ⟨_, rfl, _, rfl, p, vk, o, xw, L, rfl, hV, hW, fun H1 e1 => ⟨_, rfl, ?_⟩⟩
    by_cases h1 : worksOk (!L.rn.isEmpty) o = true
    rotate_left
    · have h1 := Bool.eq_false_iff.mpr h1
      refine HX.if_true (by rw [h1]; rfl) ?_
      refine ⟨_, rfl, (by show 1 ≤ 1000; decide), fun x2 nx2 => ⟨x2, _, rfl, upd_same, fun dx2 ndx ne => ⟨rfl, dx2, _, upd_same, (by rw [upd_ne ne, upd_same]), ?_, ?_⟩⟩⟩
      · rw [upd_ne ne] at ndx
        exact ndx
      · rw [upd_ne ne] at ndx
        refine (fun eX => kE1 h1 dx2 _ (e1.tr eX) upd_same) (fun c o e => ?_)
        have cx := ne_of_none e nx2
        have cd := ne_of_none e ndx
        rw [upd_ne cd, del_ne cx, upd_ne cx, upd_ne cd, upd_ne cx]
        exact e
    refine HX.if_false (by rw [h1]; rfl) ?_
    obtain ⟨ws, hz, wok⟩ := works_good hV h1
    have l3 := wok.l3
    refine ⟨_, rfl, vr, 1, 3, rfl, kd_of (hzr.ex e1), _, rfl, ?_⟩
    rw [whole_d hzr]
    by_cases h2 : wholeD dr 1 3 = true
    rotate_left
    · have h2 := Bool.eq_false_iff.mpr h2
      refine HX.if_true (by rw [h2]; rfl) ?_
      refine ⟨_, rfl, (by show 1 ≤ 1000; decide), fun x2 nx2 => ⟨x2, _, rfl, upd_same, fun dx2 ndx ne => ⟨rfl, dx2, _, upd_same, (by rw [upd_ne ne, upd_same]), ?_, ?_⟩⟩⟩
      · rw [upd_ne ne] at ndx
        exact ndx
      · rw [upd_ne ne] at ndx
        refine (fun eX => kE2 h1 h2 dx2 _ (e1.tr eX) upd_same) (fun c o e => ?_)
        have cx := ne_of_none e nx2
        have cd := ne_of_none e ndx
        rw [upd_ne cd, del_ne cx, upd_ne cx, upd_ne cd, upd_ne cx]
        exact e
    refine HX.if_false (by rw [h2]; rfl) ?_
    have k := kQ h1 h2
    have hx1 := e1 _ _ hx
    refine ⟨_, rfl, _, rfl, x, A.C_Setup, dx, _, rfl, hx1, T.cls_Setup, T.n_world, (by show 0 < 1000; decide), _, rfl, _, rfl, x, A.C_Setup, dx, _, rfl, upd_same, T.cls_Setup, T.n_works, (by show 1 < 1000; decide), _, rfl, _, rfl, x, A.C_Setup, dx, _, rfl, upd_same, T.cls_Setup, T.n_places, (by show 2 < 1000; decide), ?_⟩
    simp only [upd_upd]
    obtain ⟨G, EG⟩ : ∃ z, z = upd H1 x (.ins A.C_Setup dx (putF "_places" vr (putF "_works" vk (putF "_world" (.ref xw) [])))) := ⟨_, rfl⟩
    rw [← EG]
    have hxG : G x = some (.ins A.C_Setup dx (putF "_places" vr (putF "_works" vk (putF "_world" (.ref xw) [])))) := by rw [EG]; exact upd_same
    have oG : ∀ c o, c ≠ x → H c = some o → G c = some o := fun c o n e => by rw [EG, upd_ne n]; exact e1 _ _ e
    have tG : TupK H G := fun a xs ha => oG _ _ (ne_of ha hx (by intro y; cases y)) ha
    have hWG : WAt A.C_World G xw L := hW.but hx nxw oG
    obtain ⟨a, xs, rfl, ha, lx, hxs⟩ := wg_at (hz.te tG)
    refine ⟨_, rfl, a, xs, rfl, SqT.of ha, fun D nD => dc_names walk_enT (ws.map (·.1)) (by rw [List.length_map]; exact lx) (by omega) nD (fun H' e => SqT.of (e _ _ ha)) (fun i x2 H4 H5 Kq hi e y kq => ?_) (fun H4 kvs e4 hD hv => ?_)⟩
    · obtain ⟨T, u, u2, rfl, nT, rfl, h4, h5⟩ := y
      obtain ⟨w', hw, tw⟩ := hxs i u2 h5
      obtain ⟨b, u3, rfl, hb⟩ := id tw
      have eT : Ex H4 (upd H4 T (.tup [u, .ref b])) := Ex.nw nT
      refine ⟨T, _, rfl, SqT.of upd_same, rfl, _, _, rfl, _, _, rfl, rfl, rfl, _, rfl, b, _, _, _, rfl, rfl, SqT.of (eT _ _ (e _ _ hb)), rfl, _, rfl, kq _ w'.1 _ eT ?_ (by cases h4; intro z; cases z)⟩
      rw [List.getElem?_map, hw]; rfl
    have hx4 := e4 _ _ hxG
    refine ⟨_, rfl, x, A.C_Setup, dx, _, rfl, hx4, T.cls_Setup, T.n_numbers, (by show 3 < 1000; decide), ?_⟩
    obtain ⟨G2, EG2⟩ : ∃ z, z = upd H4 x (.ins A.C_Setup dx (putF "_numbers" (.ref D) (putF "_places" vr (putF "_works" (.ref a) (putF "_world" (.ref xw) []))))) := ⟨_, rfl⟩
    rw [← EG2]
    have hx2 : G2 x = some (.ins A.C_Setup dx (putF "_numbers" (.ref D) (putF "_places" vr (putF "_works" (.ref a) (putF "_world" (.ref xw) []))))) := by rw [EG2]; exact upd_same
    have oG2 : ∀ c o, c ≠ x → G c = some o → G2 c = some o := fun c o n e => by rw [EG2, upd_ne n]; exact e4 _ _ e
    have oA : ∀ c o, c ≠ x → H c = some o → G2 c = some o := fun c o n e => oG2 _ _ n (oG _ _ n e)
    have tA : TupK H G2 := fun a xs ha => oA _ _ (ne_of ha hx (by intro y; cases y)) ha
    have hW2 : WAt A.C_World G2 xw L := hW.but hx nxw oA
    have hz2 := hz.te tA
    refine ⟨_, rfl, _, rfl, xw, _, L, ws, rfl, hW2, ok, wok, hz2, fun l ys H5 e5 nl hl hys => ?_⟩
    refine ⟨_, rfl, xw, L, rfl, hW2.ex e5, ok, fun l2 zs H6 e6 nl2 hl2 hzs => ?_⟩
    have q1 := chD_all L ok
    have q2 := caD_all L ok ws wok
    have y1 := hys.1
    have y2 := hzs.1
    refine ⟨l, l2, _, _, rfl, rfl, e6 _ _ hl, hl2, Nat.le_of_lt (small (by omega)), fun l3 nl3 => ?_⟩
    refine ⟨l3, _, rfl, .inl ⟨SqL.of upd_same, fun t nt => ?_⟩⟩
    have e7 : Ex H6 (upd H6 l3 (.lst (ys ++ zs))) := Ex.nw nl3
    have e8 : Ex (upd H6 l3 (.lst (ys ++ zs))) (upd (upd H6 l3 (.lst (ys ++ zs))) t (.tup (ys ++ zs))) := Ex.nw nt
    have e58 := e5.tr (e6.tr (e7.tr e8))
    have hx8 := e58 _ _ hx2
    refine ⟨_, rfl, x, A.C_Setup, dx, _, rfl, hx8, T.cls_Setup, T.n_deeds, (by show 4 < 1000; decide), ?_⟩
    have oF : ∀ c o, c ≠ x → H c = some o → (upd (upd (upd H6 l3 (.lst (ys ++ zs))) t (.tup (ys ++ zs))) x (.ins A.C_Setup dx (sf (.ref xw) (.ref a) vr (.ref D) (.ref t)))) c = some o := fun c o n e => by rw [upd_ne n]; exact e58 _ _ (oA _ _ n e)
    have tF : TupK H (upd (upd (upd H6 l3 (.lst (ys ++ zs))) t (.tup (ys ++ zs))) x (.ins A.C_Setup dx (sf (.ref xw) (.ref a) vr (.ref D) (.ref t)))) := fun a xs ha => oF _ _ (ne_of ha hx (by intro y; cases y)) ha
    exact k _ oF ⟨dx, _, _, upd_same⟩
theorem ok_Setup_world (T : Txt K mg A) : FnOk P w K mg base CX0 1 A.f_Setup_world A.d_Setup_world ["self"] (spSp A.C_Setup (fun w _ _ => w)) := by
  refine T.F_Setup_world.ok sc_Setup_world (fun vs H Q E h => ?_) (fun cdv A0 outer s H vs Q E hr h => ?_)
  · obtain ⟨_, _, _, _, rfl, _⟩ := h
    rfl
  · have hu := hu_of hr
    obtain ⟨x, xw, vk, vr, rfl, ⟨dx, vn, vd, h1⟩, k⟩ := h
    refine ⟨_, (pss_one (ps_ret (pe_fld (pv 0) rfl))), ?_⟩
    exact ⟨_, rfl, x, A.C_Setup, dx, _, _, rfl, h1, T.cls_Setup, T.n_world, sf_world _ _ _ _ _, k⟩
theorem ok_Setup_works (T : Txt K mg A) : FnOk P w K mg base CX0 1 A.f_Setup_works A.d_Setup_works ["self"] (spSp A.C_Setup (fun _ k _ => k)) := by
  refine T.F_Setup_works.ok sc_Setup_works (fun vs H Q E h => ?_) (fun cdv A0 outer s H vs Q E hr h => ?_)
  · obtain ⟨_, _, _, _, rfl, _⟩ := h
    rfl
  · have hu := hu_of hr
    obtain ⟨x, xw, vk, vr, rfl, ⟨dx, vn, vd, h1⟩, k⟩ := h
    refine ⟨_, (pss_one (ps_ret (pe_fld (pv 0) rfl))), ?_⟩
    exact ⟨_, rfl, x, A.C_Setup, dx, _, _, rfl, h1, T.cls_Setup, T.n_works, sf_works _ _ _ _ _, k⟩
theorem ok_Setup_places (T : Txt K mg A) : FnOk P w K mg base CX0 1 A.f_Setup_places A.d_Setup_places ["self"] (spSp A.C_Setup (fun _ _ r => r)) := by
  refine T.F_Setup_places.ok sc_Setup_places (fun vs H Q E h => ?_) (fun cdv A0 outer s H vs Q E hr h => ?_)
  · obtain ⟨_, _, _, _, rfl, _⟩ := h
    rfl
  · have hu := hu_of hr
    obtain ⟨x, xw, vk, vr, rfl, ⟨dx, vn, vd, h1⟩, k⟩ := h
    refine ⟨_, (pss_one (ps_ret (pe_fld (pv 0) rfl))), ?_⟩
    exact ⟨_, rfl, x, A.C_Setup, dx, _, _, rfl, h1, T.cls_Setup, T.n_places, sf_places _ _ _ _ _, k⟩
end
end K25
set_option Elab.async false
set_option linter.all false
set_option maxRecDepth 100000
set_option maxHeartbeats 4400000
namespace K25
open PySem PySem.Spec PyProof.Rows L2 HX
open PySem.W (Frag)


theorem at_ints {ns : List Int} {i : Int} (h0 : 0 ≤ i) (h1 : i < (ns.length : Int)) : ∃ z : Int, atI (ns.map V.int) i = some (.int z) := by
  obtain ⟨jj, rfl⟩ := Int.eq_ofNat_of_zero_le h0
  have hj : jj < ns.length := by omega
  exact ⟨ns[jj], atI_nat (by rw [List.getElem?_map, List.getElem?_eq_getElem hj]; rfl)⟩
/-- a pot of draws stands at p; at most n were mixed -/
def PotAt (H : Hp) (p : Addr) (n : Int) : Prop := ∃ a b c : Int, H p = some (.lst [.int a, .int b, .int c]) ∧ 0 ≤ a ∧ 0 ≤ b ∧ b < 2305843009213693921 ∧ 0 ≤ c ∧ c ≤ n
theorem PotAt.mono {H : Hp} {p : Addr} {n m : Int} (h : PotAt H p n) (e : n ≤ m) : PotAt H p m := let ⟨a, b, c, h0, h1, h2, h3, h4, h5⟩ := h; ⟨a, b, c, h0, h1, h2, h3, h4, Int.le_trans h5 e⟩
theorem PotAt.ex {H H' : Hp} {p : Addr} {n : Int} (h : PotAt H p n) (e : Ex H H') : PotAt H' p n := let ⟨a, b, c, h0, hr⟩ := h; ⟨a, b, c, e _ _ h0, hr⟩
theorem PotAt.up {H : Hp} {p q : Addr} {o : HO} {N : Int} (h : PotAt H p N) (ne : p ≠ q) : PotAt (upd H q o) p N := let ⟨a, b, c, h0, hr⟩ := h; ⟨a, b, c, by rw [upd_ne ne]; exact h0, hr⟩
theorem pot_none {p l : Addr} {H : Hp} {N : Int} (q : PotAt H p N) (h : H l = none) : l ≠ p := by
  obtain ⟨a, b, c, z2, _⟩ := q
  exact Ne.symm (ne_of_none z2 h)
def spPot (K : Frag) : Sp := fun vs H Q _ => ∃ (a : Addr) (ns : List Int) (i : Int), vs = [.ref a, .int i] ∧ SqL K H a (ns.map V.int) ∧ 0 ≤ i ∧ i ≤ 3 ∧ ∀ (p : Addr) (H' : Hp), H p = none → Ex H H' → PotAt H' p 0 → Q (.ref p) H'
def spTake : Sp := fun vs H Q _ => ∃ (p : Addr) (n N : Int), vs = [.ref p, .int n] ∧ PotAt H p N ∧ 0 < n ∧ n < 1000 ∧ N ≤ 100000 ∧ ∀ (d : Int) (H' : Hp), 0 ≤ d → d < n → XB p H H' → PotAt H' p (N + 1) → Q (.int d) H'
/-- an item of a list is drawn -/
def spOf (K : Frag) : Sp := fun vs H Q _ => ∃ (p l : Addr) (xs : List V) (N : Int), vs = [.ref p, .ref l] ∧ PotAt H p N ∧ SqL K H l xs ∧ l ≠ p ∧ 0 < xs.length ∧ xs.length < 1000 ∧ N ≤ 100000 ∧
  ∀ (i : Nat) (v : V) (H' : Hp), xs[i]? = some v → XB p H H' → PotAt H' p (N + 1) → Q v H'
theorem sql_xb {K : Frag} {H H' : Hp} {a p : Addr} {xs : List V} (h : SqL K H a xs) (n : a ≠ p) (e : XB p H H') : SqL K H' a xs :=
  h.elim (fun z => z.elim (fun y => .inl (.inl (e _ _ n y))) fun ⟨o, y⟩ => .inl (.inr ⟨o, e _ _ n y⟩)) .inr
theorem sql_ex {K : Frag} {H H' : Hp} {a : Addr} {xs : List V} (h : SqL K H a xs) (e : Ex H H') : SqL K H' a xs :=
  h.elim (fun z => z.elim (fun y => .inl (.inl (e _ _ y))) fun ⟨o, y⟩ => .inl (.inr ⟨o, e _ _ y⟩)) .inr
theorem ite_b (b : Bool) : -(2 ^ 64) < (if b = true then (1 : Int) else 0) ∧ (if b = true then (1 : Int) else 0) < 2 ^ 64 := by cases b <;> decide
theorem ite_n (b : Bool) : 0 ≤ (if b = true then (1 : Int) else 0) := by cases b <;> decide
theorem at_prime (i : Int) : ∃ q : Int, atI [V.int 2147483647, .int 2147483629, .int 2147483587, .int 2147483579, .int 2147483563] (i % 5) = some (.int q) ∧ 0 < q ∧ q ≤ 2147483647 := by
  have h : i % 5 = 0 ∨ i % 5 = 1 ∨ i % 5 = 2 ∨ i % 5 = 3 ∨ i % 5 = 4 := by omega
  rcases h with h | h | h | h | h <;> rw [h]
  · exact ⟨2147483647, rfl, by decide, by decide⟩
  · exact ⟨2147483629, rfl, by decide, by decide⟩
  · exact ⟨2147483587, rfl, by decide, by decide⟩
  · exact ⟨2147483579, rfl, by decide, by decide⟩
  · exact ⟨2147483563, rfl, by decide, by decide⟩
theorem sq_le {c : Int} {m : Int} (h0 : 0 ≤ c) (h1 : c ≤ 1000000) (hm : 0 ≤ m) : 0 ≤ m * c * c ∧ m * c * c ≤ m * 1000000 * 1000000 := by
  have h2 : 0 ≤ m * c := Int.mul_nonneg hm h0
  have h3 : m * c ≤ m * 1000000 := Int.mul_le_mul_of_nonneg_left h1 hm
  exact ⟨Int.mul_nonneg h2 h0, Int.mul_le_mul h3 h1 h0 (by omega)⟩
theorem Ex.mu {H H' : Hp} {p : Addr} {o : HO} (e : Ex H H') (h : H p = none) : Ex H (upd H' p o) := fun a u ha => by
  rw [upd_ne (ne_of_none ha h)]
  exact e a u ha
theorem XB.mu {H H' : Hp} {p q : Addr} {o : HO} (e : XB p H H') (h : H q = none) : XB p H (upd H' q o) := fun a u n ha => by
  rw [upd_ne (ne_of_none ha h)]
  exact e a u n ha
theorem ex_xb {H H1 H2 : Hp} {p : Addr} (e : Ex H H1) (x : XB p H1 H2) (h : H p = none) : Ex H H2 := fun c o z => x c o (ne_of_none z h) (e c o z)
theorem rep_next {i : Nat} : List.replicate i (V.bl true) ++ [V.bl true] = List.replicate (i + 1) (V.bl true) := by rw [List.replicate_succ']
theorem two_b (b c : Bool) : 0 ≤ 1 + (if b = true then (1 : Int) else 0) + (if c = true then 1 else 0) ∧ 1 + (if b = true then (1 : Int) else 0) + (if c = true then 1 else 0) ≤ 3 := by cases b <;> cases c <;> decide


theorem ints_of {P : Int → Prop} : ∀ {ds : List PyData}, (∀ (i : Nat) (d : PyData), ds[i]? = some d → ∃ z, d = .int z ∧ P z) → ∃ is : List Int, ds = is.map PyData.int ∧ ∀ z ∈ is, P z
  | [], _ => ⟨[], rfl, fun z h => by cases h⟩
  | d :: r, h => by
    obtain ⟨z, rfl, hz⟩ := h 0 d rfl
    obtain ⟨is, rfl, hi⟩ := ints_of (ds := r) fun i d e => h (i + 1) d (by simpa using e)
    exact ⟨z :: is, rfl, fun y hy => (List.mem_cons.mp hy).elim (fun e => e ▸ hz) (hi y)⟩
/-- the names of which the bits say so -/
def pick : List Str → List Bool → List Str
  | s :: r, b :: bs => (if b = true then [s] else []) ++ pick r bs
  | _, _ => []
theorem pick_snoc : ∀ {l : List Str} {bs : List Bool} {s : Str} {b : Bool}, l.length = bs.length → pick (l ++ [s]) (bs ++ [b]) = pick l bs ++ (if b = true then [s] else [])
  | [], [], s, b, _ => by simp [pick]
  | _ :: _, [], s, b, h => by simp at h
  | [], _ :: _, s, b, h => by simp at h
  | x :: l, c :: bs, s, b, h => by
    show (if c = true then [x] else []) ++ pick (l ++ [s]) (bs ++ [b]) = (if c = true then [x] else []) ++ pick l bs ++ _
    rw [pick_snoc (by simpa using h), List.append_assoc]
theorem pick_len : ∀ (l : List Str) (bs : List Bool), (pick l bs).length ≤ l.length
  | [], bs => by cases bs <;> simp [pick]
  | _ :: _, [] => by simp [pick]
  | s :: l, b :: bs => by
    have q := pick_len l bs
    show ((if b = true then [s] else []) ++ pick l bs).length ≤ l.length + 1
    cases b <;> simp <;> omega
def spItemsDr : Sp := fun vs H Q _ => ∃ (p : Addr) (sz mo N : Int), vs = [.ref p, .int sz, .int mo] ∧ PotAt H p N ∧ N ≤ 90000 ∧ 0 < sz ∧ sz < 900 ∧ 0 ≤ mo ∧ mo ≤ 2 ∧ ∀ (v : V) (is : List Int) (H' : Hp), XB p H H' → PotAt H' p (N + 4) → Tz H' v (itD is) → (is.length : Int) ≤ mo → (∀ i ∈ is, 0 ≤ i ∧ i < sz) → Q v H'
def spSome : Sp := fun vs H Q _ => ∃ (p l : Addr) (ss : List Str) (N : Int), vs = [.ref p, .ref l, .int 2] ∧ PotAt H p N ∧ N ≤ 90000 ∧ H l = some (.lst (ss.map V.str)) ∧ l ≠ p ∧ ss.length ≤ 4 ∧ ∀ (v : V) (bs : List Bool) (H' : Hp), XB p H H' → PotAt H' p (N + 5) → bs.length = ss.length → Tz H' v (.tuple ((pick ss bs).map PyData.str)) → Q v H'

section
variable {P : Program} {w : World} {K : Frag} {mg : Str → Option Value} {base : Heap} {A : Ad}


theorem none_of_xb {p D : Addr} {H H1 : Hp} (x : XB p H H1) (n : D ≠ p) (h : H1 D = none) : H D = none := by
  cases e : H D with
  | none => rfl
  | some o => exact absurd (x D o n e) (by rw [h]; simp)
theorem ok_pot (T : Txt K mg A) : FnOk P w K mg base CX0 1 A.f_pot A.d_pot ["_law_script", "_law_k"] (spPot K) := by
  refine T.F_pot.ok sc_pot (fun vs H Q E h => ?_) (fun cdv A0 outer s H vs Q E hr h => ?_)
  · obtain ⟨_, _, _, rfl, _⟩ := h
    rfl
  · have hu := hu_of hr
    obtain ⟨a, ns, i, rfl, hS, h0, h3, k⟩ := h
    refine ⟨_, (pss_cons (ps_set (i := 2) sc_pot.nd rfl (Or.inl rfl) (pe_ifExp (pt_cmpR op_lt (pv 1) (pe_callB call_len_seq (by rfl) T.g_len (by decide +kernel) (pa_cons (pv 0) pa_nil)) (nomark _)) (pe_ix ix_list (pv 0) (pv 1) (fun _ _ => rfl)) (pe_op op_add (pe_op op_mul pe_int (pv 1)) pe_int)))
      (pss_cons (ps_set (i := 3) sc_pot.nd rfl (Or.inl rfl) (pe_op op_mul (pe_op op_mod (pe_callTy call_int1 (by rfl) T.g_int (by decide +kernel) (pa_cons (pe_callB call_abs (by rfl) T.g_abs (by decide +kernel) (pa_cons (pv 2) pa_nil)) pa_nil)) (pe_op op_powW (pe_op op_pow pe_int pe_int) pe_int)) (pe_callTy call_int1 (by rfl) T.g_int (by decide +kernel) (pa_cons (pe_cmpR op_ge (pe_callB call_abs (by rfl) T.g_abs (by decide +kernel) (pa_cons (pv 2) pa_nil)) (pe_op op_pow pe_int pe_int) (nomark _)) pa_nil))))
      (pss_one (ps_ret (pe_lst (pa_cons (pv 3) (pa_cons (pe_op op_mod (pe_callTy call_int1 (by rfl) T.g_int (by decide +kernel) (pa_cons (pe_op op_add (pe_op op_add (pe_op op_mul (pe_op op_mod (pe_callTy call_int1 (by rfl) T.g_int (by decide +kernel) (pa_cons (pv 2) pa_nil)) pe_int) pe_int) (pe_op op_mul (pe_op op_mul pe_int (pv 1)) (pv 1))) pe_int) pa_nil)) pe_int) (pa_cons pe_int pa_nil)))))))), ?_⟩
    refine ⟨_, rfl, _, rfl, a, _, rfl, .inl hS, _, _, rfl, rfl, _, rfl, if_dec (fun h1 => ?_) (fun h1 => ?_)⟩
    · rw [List.length_map] at h1
      obtain ⟨z, hz⟩ := at_ints (ns := ns) h0 h1
      refine ⟨_, rfl, _, rfl, a, _, _, _, rfl, rfl, hS, hz, ?_⟩
      refine ⟨_, rfl, _, rfl, .inl ⟨_, rfl, ?_⟩⟩
      refine ⟨_, _, rfl, rfl, (by show CPow _ _; exact ⟨by decide, by decide, by decide⟩), _, _, rfl, rfl, (by show CPowW _ _; exact ⟨by decide +kernel, by decide, by decide +kernel⟩), _, _, rfl, rfl, (by show (0 : Int) < _; decide +kernel), _, rfl, _, rfl, _, _, rfl, rfl, (by show CPow _ _; exact ⟨by decide, by decide, by decide⟩), _, _, rfl, rfl, .inr ⟨_, rfl, ?_⟩⟩
      refine ⟨_, _, rfl, rfl, (.inr (ite_b _)), ?_⟩
      refine ⟨_, rfl, ?_⟩
      refine ⟨_, rfl, .inl ⟨_, rfl, ?_⟩⟩
      refine ⟨_, _, rfl, rfl, (by show (0 : Int) < _; decide), _, _, rfl, rfl, (.inl ⟨by omega, by omega⟩), _, rfl, _, _, rfl, rfl, (.inl ⟨by decide, by decide⟩), _, rfl, _, _, rfl, rfl, (.inl ⟨by omega, by omega⟩), _, _, rfl, rfl, _, _, rfl, rfl, .inl ⟨_, rfl, ?_⟩⟩
      refine ⟨_, _, rfl, rfl, (by show (0 : Int) < _; decide), ?_⟩
      refine ⟨(by show 3 ≤ sizeLine; decide), fun p hp => k p _ hp (Ex.nw hp) ⟨_, _, _, upd_same, Int.mul_nonneg (Int.emod_nonneg _ (by decide +kernel)) (ite_n _), Int.emod_nonneg _ (by decide), Int.emod_lt_of_pos _ (by decide), by decide, by decide⟩⟩
    · refine ⟨_, rfl, _, _, rfl, rfl, .inl ⟨by decide, by decide⟩, _, _, rfl, rfl, ?_⟩
      refine ⟨_, rfl, _, rfl, .inl ⟨_, rfl, ?_⟩⟩
      refine ⟨_, _, rfl, rfl, (by show CPow _ _; exact ⟨by decide, by decide, by decide⟩), _, _, rfl, rfl, (by show CPowW _ _; exact ⟨by decide +kernel, by decide, by decide +kernel⟩), _, _, rfl, rfl, (by show (0 : Int) < _; decide +kernel), _, rfl, _, rfl, _, _, rfl, rfl, (by show CPow _ _; exact ⟨by decide, by decide, by decide⟩), _, _, rfl, rfl, .inr ⟨_, rfl, ?_⟩⟩
      refine ⟨_, _, rfl, rfl, (.inr (ite_b _)), ?_⟩
      refine ⟨_, rfl, ?_⟩
      refine ⟨_, rfl, .inl ⟨_, rfl, ?_⟩⟩
      refine ⟨_, _, rfl, rfl, (by show (0 : Int) < _; decide), _, _, rfl, rfl, (.inl ⟨by omega, by omega⟩), _, rfl, _, _, rfl, rfl, (.inl ⟨by decide, by decide⟩), _, rfl, _, _, rfl, rfl, (.inl ⟨by omega, by omega⟩), _, _, rfl, rfl, _, _, rfl, rfl, .inl ⟨_, rfl, ?_⟩⟩
      refine ⟨_, _, rfl, rfl, (by show (0 : Int) < _; decide), ?_⟩
      refine ⟨(by show 3 ≤ sizeLine; decide), fun p hp => k p _ hp (Ex.nw hp) ⟨_, _, _, upd_same, Int.mul_nonneg (Int.emod_nonneg _ (by decide +kernel)) (ite_n _), Int.emod_nonneg _ (by decide), Int.emod_lt_of_pos _ (by decide), by decide, by decide⟩⟩
theorem ok_take (T : Txt K mg A) : FnOk P w K mg base CX0 1 A.f_take A.d_take ["_law_pot_here", "_law_many"] (spTake) := by
  refine T.F_take.ok sc_take (fun vs H Q E h => ?_) (fun cdv A0 outer s H vs Q E hr h => ?_)
  · obtain ⟨_, _, _, rfl, _⟩ := h
    rfl
  · have hu := hu_of hr
    obtain ⟨p, n, N, rfl, ⟨a, b, c, hp, ha, hb, hb2, hc, hc2⟩, hn, hn2, hN, k⟩ := h
    refine ⟨_, (pss_cons (ps_if (pt_cmpR op_gt (pe_ix ix_list (pv 0) pe_int (fun _ _ => rfl)) pe_int (nomark _)) (pss_cons (ps_set (i := 2) sc_take.nd rfl (Or.inl rfl) (pe_op op_mod (pe_callTy call_int1 (by rfl) T.g_int (by decide +kernel) (pa_cons (pe_ix ix_list (pv 0) pe_int (fun _ _ => rfl)) pa_nil)) (pv 1)))
      (pss_cons (ps_asg (pe_op op_fdiv (pe_ix ix_list (pv 0) pe_int (fun _ _ => rfl)) (pv 1)) (pg_sub (pv 0) pe_int set_list))
      (pss_one (ps_ret (pv 2))))) pss_nil)
      (pss_cons (ps_asg (pe_op op_add (pe_ix ix_list (pv 0) pe_int (fun _ _ => rfl)) pe_int) (pg_sub (pv 0) pe_int set_list))
      (pss_cons (ps_set (i := 3) sc_take.nd rfl (Or.inl rfl) (pe_ix ix_list (pe_lst (pa_cons pe_int (pa_cons pe_int (pa_cons pe_int (pa_cons pe_int (pa_cons pe_int pa_nil)))))) (pe_op op_mod (pe_callTy call_int1 (by rfl) T.g_int (by decide +kernel) (pa_cons (pe_ix ix_list (pv 0) pe_int (fun _ _ => rfl)) pa_nil)) pe_int) (fun _ _ => rfl)))
      (pss_cons (ps_set (i := 4) sc_take.nd rfl (Or.inl rfl) (pe_op op_mod (pe_callTy call_int1 (by rfl) T.g_int (by decide +kernel) (pa_cons (pe_op op_pow (pe_op op_add (pe_op op_add (pe_ix ix_list (pv 0) pe_int (fun _ _ => rfl)) (pe_op op_mul (pe_op op_mul pe_int (pe_ix ix_list (pv 0) pe_int (fun _ _ => rfl))) (pe_ix ix_list (pv 0) pe_int (fun _ _ => rfl)))) pe_int) pe_int) pa_nil)) (pv 3)))
      (pss_one (ps_ret (pe_op op_mod (pe_op op_fdiv (pe_op op_mod (pe_callTy call_int1 (by rfl) T.g_int (by decide +kernel) (pa_cons (pe_op op_mul (pv 4) (pe_op op_add (pe_op op_mod (pe_callTy call_int1 (by rfl) T.g_int (by decide +kernel) (pa_cons (pv 4) pa_nil)) pe_int) (pe_op op_mul pe_int (pe_ix ix_list (pv 0) pe_int (fun _ _ => rfl))))) pa_nil)) pe_int) pe_int) (pv 1)))))))), ?_⟩
    refine ⟨_, rfl, p, _, _, _, rfl, rfl, SqL.of hp, rfl, _, _, rfl, rfl, _, rfl, if_dec (fun h1 => ?_) (fun h1 => ?_)⟩
    · refine ⟨_, rfl, p, _, _, _, rfl, rfl, SqL.of hp, rfl, .inl ⟨_, rfl, _, rfl, _, _, rfl, rfl, (by show (0 : Int) < n; omega), ?_⟩⟩
      refine ⟨_, rfl, p, _, _, _, rfl, rfl, SqL.of hp, rfl, _, rfl, _, _, rfl, rfl, ⟨hn, by omega⟩, _, rfl, p, _, _, _, rfl, rfl, hp, rfl, ?_⟩
      refine ⟨_, rfl, k _ _ (Int.emod_nonneg _ (by omega)) (Int.emod_lt_of_pos _ hn) XB.wr ⟨_, _, _, upd_same, Int.ediv_nonneg ha (by omega), hb, hb2, hc, by omega⟩⟩
    · refine ⟨_, rfl, p, _, _, _, rfl, rfl, SqL.of hp, rfl, _, _, rfl, rfl, _, rfl, p, _, _, _, rfl, rfl, hp, rfl, ?_⟩
      refine ⟨(by show 5 ≤ sizeLine; decide), fun l hl => ?_⟩
      have hp1 : (upd H p (.lst [.int a, .int b, .int (c + 1)])) p = some (.lst [.int a, .int b, .int (c + 1)]) := upd_same
      have npl : p ≠ l := ne_of_none hp1 hl
      obtain ⟨q, hq, hq0, hq1⟩ := at_prime (c + 1)
      have hp2 : (upd (upd H p (.lst [.int a, .int b, .int (c + 1)])) l (.lst [V.int 2147483647, .int 2147483629, .int 2147483587, .int 2147483579, .int 2147483563])) p = some (.lst [.int a, .int b, .int (c + 1)]) := by rw [upd_ne npl]; exact hp1
      have hl2 : (upd (upd H p (.lst [.int a, .int b, .int (c + 1)])) l (.lst [V.int 2147483647, .int 2147483629, .int 2147483587, .int 2147483579, .int 2147483563])) l = some (.lst [V.int 2147483647, .int 2147483629, .int 2147483587, .int 2147483579, .int 2147483563]) := upd_same
      have hx2 : XB p H (upd (upd H p (.lst [.int a, .int b, .int (c + 1)])) l (.lst [V.int 2147483647, .int 2147483629, .int 2147483587, .int 2147483579, .int 2147483563])) := XB.tr XB.wr (Ex.xb (Ex.nw hl))
      refine ⟨_, rfl, p, _, _, _, rfl, rfl, SqL.of hp2, rfl, .inl ⟨_, rfl, _, _, rfl, rfl, (by show (0 : Int) < _; decide), l, _, _, _, rfl, rfl, SqL.of hl2, hq, ?_⟩⟩
      obtain ⟨s0, s1⟩ := sq_le (c := c + 1) (m := 65551) (by omega) (by omega) (by decide)
      refine ⟨_, rfl, p, _, _, _, rfl, rfl, SqL.of hp2, rfl, _, rfl, p, _, _, _, rfl, rfl, SqL.of hp2, rfl, _, _, rfl, rfl, (.inl ⟨by decide, by decide⟩), _, rfl, p, _, _, _, rfl, rfl, SqL.of hp2, rfl, _, _, rfl, rfl, (.inl ⟨by omega, by omega⟩), _, _, rfl, rfl, _, _, rfl, rfl, _, _, rfl, rfl, (by show CPow _ _; exact ⟨by decide, by decide, by omega⟩), .inl ⟨_, rfl, ?_⟩⟩
      refine ⟨_, rfl, _, _, rfl, rfl, (by show (0 : Int) < q; exact hq0), ?_⟩
      have m0 : ∀ z : Int, -(2 ^ 64) < z % q ∧ z % q < 2 ^ 64 := fun z => ⟨Int.lt_of_lt_of_le (by decide) (Int.emod_nonneg z (by omega)), Int.lt_of_lt_of_le (Int.lt_of_lt_of_le (Int.emod_lt_of_pos z hq0) hq1) (by decide)⟩
      refine ⟨_, rfl, _, rfl, .inl ⟨_, rfl, ?_⟩⟩
      refine ⟨_, _, rfl, rfl, (by show (0 : Int) < _; decide), _, rfl, p, _, _, _, rfl, rfl, SqL.of hp2, rfl, _, _, rfl, rfl, (.inl ⟨by decide, by decide⟩), _, _, rfl, rfl, _, _, rfl, rfl, (.inl (m0 _)), .inl ⟨_, rfl, ?_⟩⟩
      refine ⟨_, _, rfl, rfl, (by show (0 : Int) < _; decide), _, _, rfl, rfl, ⟨by decide, by decide⟩, _, rfl, _, _, rfl, rfl, (by show (0 : Int) < n; exact hn), ?_⟩
      exact k _ _ (Int.emod_nonneg _ (by omega)) (Int.emod_lt_of_pos _ hn) hx2 ⟨_, _, _, hp2, ha, hb, hb2, by omega, by omega⟩
theorem ok_of (T : Txt K mg A) : FnOk P w K mg base CX0 2 A.f_of A.d_of ["_law_pot_here", "_law_some_here"] (spOf K) := by
  refine T.F_of.ok sc_of (fun vs H Q E h => ?_) (fun cdv A0 outer s H vs Q E hr h => ?_)
  · obtain ⟨_, _, _, _, rfl, _⟩ := h
    rfl
  · have hu := hu_of hr
    obtain ⟨p, l, xs, N, rfl, hp, hl, nlp, h0, h1, hN, k⟩ := h
    refine ⟨_, (pss_one (ps_ret (pe_ix ix_list (pv 1) (pe_call (ok_take T) (hr.mono (by decide)) (by rfl) T.m_take T.F_take.kp T.b_take .nil pass0 (pa_cons (pv 0) (pa_cons (pe_callB call_len_seq (by rfl) T.g_len (by decide +kernel) (pa_cons (pv 1) pa_nil)) pa_nil))) (fun _ _ => rfl)))), ?_⟩
    refine ⟨_, rfl, _, rfl, _, rfl, l, _, rfl, .inl hl, p, _, N, rfl, hp, by omega, by omega, hN, fun d H1 d0 d1 e1 hp1 => ?_⟩
    obtain ⟨jj, rfl⟩ := Int.eq_ofNat_of_zero_le d0
    have hj : jj < xs.length := by omega
    have hgt : xs[jj]? = some xs[jj] := List.getElem?_eq_getElem hj
    exact ⟨l, _, _, _, rfl, rfl, sql_xb hl nlp e1, atI_nat hgt, k jj _ H1 hgt e1 hp1⟩
theorem ok_items (T : Txt K mg A) : FnOk P w K mg base CX0 2 A.f_items A.d_items ["_law_pot_here", "_law_size", "_law_most"] (spItemsDr) := by
  refine T.F_items.ok sc_items (fun vs H Q E h => ?_) (fun cdv A0 outer s H vs Q E hr h => ?_)
  · obtain ⟨_, _, _, _, rfl, _⟩ := h
    rfl
  · have hu := hu_of hr
    obtain ⟨p, sz, mo, N, rfl, hp, hN, s0, s1, m0, m1, k⟩ := h
    refine ⟨_, (pss_one (ps_ret (pe_callTy call_tuple_of (by rfl) T.g_tuple (by decide +kernel) (pa_cons (pe_lc (own := [("_law_lap", 3)]) (g := (gName 3)) (tt := tYes) rfl sc_items.nd (pi_range1 rfl T.g_range (pa_cons (pe_call (ok_take T) (hr.mono (by decide)) (by rfl) T.m_take T.F_take.kp T.b_take .nil pass0 (pa_cons (pv 0) (pa_cons (pe_op op_add (pv 2) pe_int) pa_nil))) pa_nil)) (blkOk_by (N := N_items) (sc := defScope s_items) (by decide +kernel)) (fun _ _ _ _ _ => pg_name (i := 3) sc_items.nd rfl (Or.inl rfl)) (fun _ _ _ _ _ => pts_nil) (fun _ _ _ _ _ => (pe_call (ok_take T) (hr.mono (by decide)) (by rfl) T.m_take T.F_take.kp T.b_take .nil pass0 (pa_cons (pv 0) (pa_cons (pv 1) pa_nil))))) pa_nil)))), ?_⟩
    refine ⟨_, rfl, _, rfl, _, _, rfl, rfl, p, mo + 1, N, rfl, hp, by omega, by omega, by omega, fun m H1 a0 a1 x1 hp1 => ⟨m, rfl, by omega, by omega, fun D nD => ?_⟩⟩
    have nDp := pot_none hp1 nD
    refine lc_dr walk_range (p := p) (fun i H => PotAt H p (N + 1 + (i : Int))) (fun i d => ∃ z, d = .int z ∧ 0 ≤ z ∧ z < sz) (by omega) nD nDp (fun i H q => let ⟨_, _, _, z, _⟩ := q; ⟨_, z⟩) (hp1.mono (by omega)) (fun i H H' q e => q.ex e) (fun i H xs ys q hD => q.up (Ne.symm nDp)) (fun _ _ => trivial) (fun i xv H2 H3 Kq hi x2 hp2 y kq => ?_) (fun H2 xs ds x2 hp2 hD hx hl hg => ?_)
    · obtain ⟨rfl, rfl⟩ := y
      exact ⟨rfl, _, rfl, _, rfl, p, sz, _, rfl, hp2, s0, by omega, by omega, fun d H4 d0 d1 x4 hp4 => kq _ _ _ x4 (hp4.mono (by push_cast; omega)) (.int d) ⟨d, rfl, d0, d1⟩⟩
    · obtain ⟨is, rfl, his⟩ := ints_of hg
      refine ⟨D, _, rfl, .inl ⟨SqL.of hD, fun t nt => k _ is _ ?_ ((hp2.ex (Ex.nw nt)).mono (by omega)) (TzL.tup (hx.ex (Ex.nw nt)) upd_same) (by rw [List.length_map] at hl; omega) his⟩⟩
      exact XB.mu (x1.tr x2) (none_of_xb (x1.tr x2) (pot_none hp2 nt) nt)
theorem ok_some (T : Txt K mg A) : FnOk P w K mg base CX0 2 A.f_some A.d_some ["_law_pot_here", "_law_names", "_law_many"] (spSome) := by
  refine T.F_some.ok sc_some (fun vs H Q E h => ?_) (fun cdv A0 outer s H vs Q E hr h => ?_)
  · obtain ⟨_, _, _, _, rfl, _⟩ := h
    rfl
  · have hu := hu_of hr
    obtain ⟨p, l, ss, N, rfl, hp, hN, hl, nlp, l4, k⟩ := h
    refine ⟨_, (pss_cons (ps_set (i := 3) sc_some.nd rfl (Or.inl rfl) (pe_tup pa_nil))
      (pss_cons (ps_for PassesOwn.never rfl (pi_list (pv 1)) (pg_name (i := 4) sc_some.nd rfl (Or.inl rfl)) (pss_one (ps_set (i := 3) sc_some.nd rfl (Or.inl rfl) (pe_op op_catA (pv 3) (pe_op op_rep01 (pe_tup (pa_cons (pv 4) pa_nil)) (pe_callTy call_int1 (by rfl) T.g_int (by decide +kernel) (pa_cons (pe_cmpR op_eq (pe_call (ok_take T) (hr.mono (by decide)) (by rfl) T.m_take T.F_take.kp T.b_take .nil pass0 (pa_cons (pv 0) (pa_cons (pv 2) pa_nil))) pe_int (nomark _)) pa_nil)))))))
      (pss_one (ps_ret (pv 3))))), ?_⟩
    refine ⟨(by show 0 ≤ sizeLine; decide), fun t0 nt0 => ?_⟩
    have e0 : Ex H (upd H t0 (.tup [])) := Ex.nw nt0
    have hp0 := hp.ex e0
    refine ⟨_, rfl, l, rfl, ⟨_, SqL.of (e0 _ _ hl)⟩, for_list (xs := ss.map V.str) (fun i σ H' => (∃ u4 v bs, σ = [some (.ref p), some (.ref l), some (.int 2), some v, u4] ∧ bs.length = i ∧ Tz H' v (.tuple ((pick (ss.take i) bs).map PyData.str))) ∧ XB p H H' ∧ PotAt H' p (N + i)) ⟨⟨_, _, [], rfl, rfl, TzL.tup (by cases ss <;> exact TzL.nil) upd_same⟩, Ex.xb e0, hp0.mono (by omega)⟩ (fun i σ H' _ q => SqL.of (q.2.1 _ _ nlp hl)) ?_ ?_⟩
    · rintro i xv σ H2 hxi ⟨⟨u4, v, bs, rfl, hb, hv⟩, x2, hp2⟩
      rw [List.getElem?_map] at hxi
      obtain ⟨sn, hsn, rfl⟩ := Option.map_eq_some_iff.mp hxi
      have i4 : i < ss.length := (List.getElem?_eq_some_iff.mp hsn).1
      obtain ⟨a, ys, rfl, ha, hys⟩ := hv.tupI
      have lp : ys.length ≤ 4 := by
        rw [hys.1, List.length_map]
        refine Nat.le_trans (pick_len _ _) ?_
        rw [List.length_take]; omega
      refine ⟨_, rfl, _, rfl, (by show 1 ≤ sizeLine; decide), fun t nt => ?_⟩
      have e3 : Ex H2 (upd H2 t (.tup [.str sn])) := Ex.nw nt
      refine ⟨_, rfl, _, rfl, p, 2, _, rfl, hp2.ex e3, by decide, by decide, by omega, fun d H4 d0 d1 x4 hp4 => ⟨rfl, .inr ⟨_, rfl, ?_⟩⟩⟩
      obtain ⟨zs, hz⟩ : ∃ zs, (upd H2 t (.tup [.str sn])) p = some (.lst zs) := let ⟨_, _, _, z, _⟩ := hp2.ex e3; ⟨_, z⟩
      have tK : TupK H2 H4 := (Ex.te e3).tr (x4.te hz)
      have ht4 : H4 t = some (.tup [.str sn]) := (x4.te hz) _ _ upd_same
      have x24 : XB p H2 H4 := (Ex.xb e3).tr x4
      have ha4 := tK _ _ ha
      have hys4 := hys.te tK
      have pk : ∀ b : Bool, pick (ss.take (i + 1)) (bs ++ [b]) = pick (ss.take i) bs ++ (if b = true then [sn] else []) := fun b => by
        rw [List.take_add_one, hsn]
        exact pick_snoc (by rw [List.length_take, hb]; omega)
      refine ⟨t, decide (V.int d = V.int 0), _, rfl, rfl, SqT.of ht4, by simp, fun hb1 => ?_, fun hb0 t2 nt2 => ?_⟩
      · refine ⟨a, t, ys, _, rfl, rfl, SqT.of ha4, SqT.of ht4, Nat.le_of_lt (small (by show ys.length + 1 < 1000; omega)), fun h0 => ?_, fun h0 h1 => by simp at h1, fun h0 h1 q nq => ?_⟩
        · refine ⟨⟨_, _, bs ++ [true], rfl, by rw [List.length_append, hb]; rfl, ?_⟩, x2.tr x24, hp4.mono (by push_cast; omega)⟩
          rw [pk, if_pos rfl, List.map_append]
          subst h0
          have q0 := hys4.1
          have q1 : (pick (ss.take i) bs).map PyData.str = [] := List.eq_nil_of_length_eq_zero q0.symm
          rw [q1]
          exact TzL.tup (TzL.one (.str sn)) ht4
        · refine ⟨⟨_, _, bs ++ [true], rfl, by rw [List.length_append, hb]; rfl, ?_⟩, XB.mu (x2.tr x24) (none_of_xb (x2.tr x24) (pot_none hp4 nq) nq), (hp4.ex (Ex.nw nq)).mono (by push_cast; omega)⟩
          rw [pk, if_pos rfl, List.map_append]
          exact TzL.tup ((hys4.snoc (.str sn)).ex (Ex.nw nq)) upd_same
      · have e5 : Ex H4 (upd H4 t2 (.tup [])) := Ex.nw nt2
        have fin : ∀ v, Tz (upd H4 t2 (.tup [])) v (.tuple ((pick (ss.take i) bs).map PyData.str)) → (∃ u4 v' bs', ([some (.ref p), some (.ref l), some (.int 2), some v, some (.str sn)] : L2.St) = [some (.ref p), some (.ref l), some (.int 2), some v', u4] ∧ bs'.length = i + 1 ∧ Tz (upd H4 t2 (.tup [])) v' (.tuple ((pick (ss.take (i + 1)) bs').map PyData.str))) ∧ XB p H (upd H4 t2 (.tup [])) ∧ PotAt (upd H4 t2 (.tup [])) p (N + (i + 1 : Nat)) := fun v hv => by
          refine ⟨⟨_, _, bs ++ [false], rfl, by rw [List.length_append, hb]; rfl, ?_⟩, XB.mu (x2.tr x24) (none_of_xb (x2.tr x24) (pot_none hp4 nt2) nt2), (hp4.ex e5).mono (by push_cast; omega)⟩
          rw [pk]
          simpa using hv
        refine ⟨a, t2, ys, [], rfl, rfl, SqT.of (e5 _ _ ha4), SqT.of upd_same, Nat.le_of_lt (small (by show ys.length + 0 < 1000; omega)), fun h0 => ?_, fun h0 h1 => ?_, fun h0 h1 => absurd rfl h1⟩
        · refine fin _ ?_
          subst h0
          have q1 : (pick (ss.take i) bs).map PyData.str = [] := List.eq_nil_of_length_eq_zero hys4.1.symm
          rw [q1]
          exact TzL.tup TzL.nil upd_same
        · exact fin _ (TzL.tup (hys4.ex e5) (e5 _ _ ha4))
    · rintro σ H2 ⟨⟨u4, v, bs, rfl, hb, hv⟩, x2, hp2⟩
      rw [List.length_map] at hb hp2
      rw [List.length_map, List.take_length] at hv
      exact ⟨_, rfl, k v bs H2 x2 (hp2.mono (by omega)) hb hv⟩
end
end K25
set_option Elab.async false
set_option linter.all false
set_option maxRecDepth 100000
set_option maxHeartbeats 4400000
namespace K25
open PySem PySem.Spec PyProof.Rows L2 HX
open PySem.W (Frag)


def loreD (L : Lore) : PyData := .tuple [.int L.sz, .int L.mo, L.cD, L.rD, L.lD]
def NSt : List (List Str) := [["a", "b", "p", "q"], ["c", "cc", "r", "rr"], ["count", "guard", "row", "total"]]
def allB : Nat → List (List Bool)
  | 0 => [[]]
  | n + 1 => (allB n).flatMap fun l => [true :: l, false :: l]
theorem mem_allB : ∀ {n : Nat} {bs : List Bool}, bs.length = n → bs ∈ allB n
  | 0, [], _ => .head _
  | 0, _ :: _, h => by simp at h
  | n + 1, [], h => by simp at h
  | n + 1, b :: bs, h => List.mem_flatMap.mpr ⟨bs, mem_allB (by simpa using h), by cases b <;> simp⟩
def okCfg (s1 s2 : List Str) (bs : List Bool) : Bool := okN s1 && (okN s2 && (s2.all (fun x => decide (x ∉ s1)) && (okN (pick (s1 ++ s2) bs) && ((pick (s1 ++ s2) bs).all (fun x => decide (x ∈ s1 ++ s2)) && s2.all PyData.strOk))))
theorem all_cfg : (NSt.all fun ss => [0, 1, 2].all fun c => [0, 1, 2].all fun r => (allB ((ss.take c).length + ((ss.drop 2).take r).length)).all fun bs => okCfg (ss.take c) ((ss.drop 2).take r) bs) = true := by decide +kernel
theorem cut_to (xs : List V) (c : Nat) : cutV xs none (some (c : Int)) = xs.take c := by
  unfold cutV
  rw [HT.sIx_nat, HT.sIx_none, List.drop_zero, Nat.sub_zero]
  by_cases h : c ≤ xs.length
  · rw [Nat.min_eq_left h]
  · rw [Nat.min_eq_right (by omega), List.take_length, List.take_of_length_le (by omega)]
theorem cut_from (xs : List V) (c : Nat) : cutV xs (some (c : Int)) none = xs.drop c := by
  unfold cutV
  rw [HT.sIx_nat, HT.sIx_none]
  by_cases h : c ≤ xs.length
  · rw [Nat.min_eq_left h, List.take_of_length_le (by rw [List.length_drop]; omega)]
  · rw [Nat.min_eq_right (by omega), List.drop_of_length_le (by omega), List.drop_of_length_le (by omega)]; simp
theorem pairs_of {α : Type} {P : α → Prop} {f : Str → α → PyData} : ∀ {ss : List Str} {ds : List PyData}, ds.length = ss.length → (∀ (i : Nat) (d : PyData), ds[i]? = some d → ∃ s z, ss[i]? = some s ∧ d = f s z ∧ P z) → ∃ l : List (Str × α), ds = l.map (fun q => f q.1 q.2) ∧ l.map (·.1) = ss ∧ ∀ q ∈ l, P q.2
  | [], [], _, _ => ⟨[], rfl, rfl, fun q h => by cases h⟩
  | _ :: _, [], h, _ => by simp at h
  | [], _ :: _, h, _ => by simp at h
  | s :: ss, d :: ds, h, g => by
    obtain ⟨s', z, hs, rfl, hz⟩ := g 0 d rfl
    cases hs
    obtain ⟨l, rfl, rfl, hl⟩ := pairs_of (ss := ss) (ds := ds) (by simpa using h) fun i d e => g (i + 1) d (by simpa using e)
    exact ⟨(s, z) :: l, rfl, rfl, fun q hq => (List.mem_cons.mp hq).elim (fun e => e ▸ hz) (hl q)⟩
def spLore : Sp := fun vs H Q _ => ∃ (p ls tu : Addr) (N : Int), vs = [.ref p, .ref ls, .ref tu] ∧ PotAt H p N ∧ N ≤ 80000 ∧ H ls = some (.lst [.int 2, .int 3, .int 4]) ∧ ls ≠ p ∧ H tu = some (.tup [.int 1, .int 1]) ∧ ∀ (v : V) (L : Lore) (H' : Hp), XB p H H' → PotAt H' p (N + 30) → L.Ok → Tz H' v (loreD L) → Q v H'

section
variable {P : Program} {w : World} {K : Frag} {mg : Str → Option Value} {base : Heap} {A : Ad}

theorem ok_lore (T : Txt K mg A) : FnOk P w K mg base CX0 3 A.f_lore A.d_lore ["_law_pot_here", "_law_sizes", "_law_upto"] (spLore) := by
  refine T.F_lore.ok sc_lore (fun vs H Q E h => ?_) (fun cdv A0 outer s H vs Q E hr h => ?_)
  · obtain ⟨_, _, _, _, rfl, _⟩ := h
    rfl
  · have hu := hu_of hr
    obtain ⟨p, ls, tu, N, rfl, hp, hN, hls, nls, htu, k⟩ := h
    refine ⟨_, (pss_cons (ps_asg (pe_tup (pa_cons (pe_call (ok_of T) (hr.mono (by decide)) (by rfl) T.m_of T.F_of.kp T.b_of .nil pass0 (pa_cons (pv 0) (pa_cons (pv 1) pa_nil))) (pa_cons (pe_op op_add pe_int (pe_call (ok_take T) (hr.mono (by decide)) (by rfl) T.m_take T.F_take.kp T.b_take .nil pass0 (pa_cons (pv 0) (pa_cons pe_int pa_nil)))) pa_nil))) (pg_tup rfl (pgs_cons (pg_name (i := 3) sc_lore.nd rfl (Or.inr rfl)) (pgs_cons (pg_name (i := 4) sc_lore.nd rfl (Or.inr rfl)) pgs_nil))))
      (pss_cons (ps_set (i := 5) sc_lore.nd rfl (Or.inl rfl) (pe_call (ok_of T) (hr.mono (by decide)) (by rfl) T.m_of T.F_of.kp T.b_of .nil pass0 (pa_cons (pv 0) (pa_cons (pe_lst (pa_cons (pe_lst (pa_cons pe_str (pa_cons pe_str (pa_cons pe_str (pa_cons pe_str pa_nil))))) (pa_cons (pe_lst (pa_cons pe_str (pa_cons pe_str (pa_cons pe_str (pa_cons pe_str pa_nil))))) (pa_cons (pe_lst (pa_cons pe_str (pa_cons pe_str (pa_cons pe_str (pa_cons pe_str pa_nil))))) pa_nil)))) pa_nil))))
      (pss_cons (ps_par (i := 6) (j := 7) (by rfl) sc_lore.nd rfl rfl (by decide) rfl rfl (pa_cons (pe_slice sl_list (pv 5) po_none (po_some (pe_call (ok_take T) (hr.mono (by decide)) (by rfl) T.m_take T.F_take.kp T.b_take .nil pass0 (pa_cons (pv 0) (pa_cons (pe_op op_add (pe_ix ix_tup (pv 2) pe_int (fun _ _ => rfl)) pe_int) pa_nil))))) (pa_cons (pe_slice sl_list (pe_slice sl_list (pv 5) (po_some pe_int) po_none) po_none (po_some (pe_call (ok_take T) (hr.mono (by decide)) (by rfl) T.m_take T.F_take.kp T.b_take .nil pass0 (pa_cons (pv 0) (pa_cons (pe_op op_add (pe_ix ix_tup (pv 2) pe_int (fun _ _ => rfl)) pe_int) pa_nil))))) pa_nil)) (by rfl))
      (pss_cons (ps_set (i := 8) sc_lore.nd rfl (Or.inl rfl) (pe_callTy call_tuple_of (by rfl) T.g_tuple (by decide +kernel) (pa_cons (pe_lc (own := [("_law_name", 10)]) (g := (gName 10)) (tt := tYes) rfl sc_lore.nd (pi_list (pv 6)) (blkOk_by (N := N_lore) (sc := defScope s_lore) (by decide +kernel)) (fun _ _ _ _ _ => pg_name (i := 10) sc_lore.nd rfl (Or.inl rfl)) (fun _ _ _ _ _ => pts_nil) (fun _ _ _ _ _ => (pe_tup (pa_cons (pv 10) (pa_cons (pe_call (ok_take T) (hr.mono (by decide)) (by rfl) T.m_take T.F_take.kp T.b_take .nil pass0 (pa_cons (pv 0) (pa_cons (pv 3) pa_nil))) pa_nil))))) pa_nil)))
      (pss_cons (ps_set (i := 9) sc_lore.nd rfl (Or.inl rfl) (pe_callTy call_tuple_of (by rfl) T.g_tuple (by decide +kernel) (pa_cons (pe_lc (own := [("_law_name", 10)]) (g := (gName 10)) (tt := tYes) rfl sc_lore.nd (pi_list (pv 7)) (blkOk_by (N := N_lore) (sc := defScope s_lore) (by decide +kernel)) (fun _ _ _ _ _ => pg_name (i := 10) sc_lore.nd rfl (Or.inl rfl)) (fun _ _ _ _ _ => pts_nil) (fun _ _ _ _ _ => (pe_tup (pa_cons (pv 10) (pa_cons (pe_call (ok_items T) (hr.mono (by decide)) (by rfl) T.m_items T.F_items.kp T.b_items .nil pass0 (pa_cons (pv 0) (pa_cons (pv 3) (pa_cons (pv 4) pa_nil)))) pa_nil))))) pa_nil)))
      (pss_one (ps_ret (pe_tup (pa_cons (pv 3) (pa_cons (pv 4) (pa_cons (pv 8) (pa_cons (pv 9) (pa_cons (pe_call (ok_some T) (hr.mono (by decide)) (by rfl) T.m_some T.F_some.kp T.b_some .nil pass0 (pa_cons (pv 0) (pa_cons (pe_op op_cat (pv 6) (pv 7)) (pa_cons pe_int pa_nil)))) pa_nil))))))))))))), ?_⟩
    obtain ⟨zsp, hzp⟩ : ∃ zs, H p = some (.lst zs) := let ⟨_, _, _, z, _⟩ := hp; ⟨_, z⟩
    have htp : ∀ {H' : Hp}, XB p H H' → H' tu = some (.tup [.int 1, .int 1]) := fun x => (XB.te x hzp) _ _ htu
    refine ⟨_, rfl, _, rfl, p, ls, _, N, rfl, hp, SqL.of hls, nls, (by decide), (by decide), by omega, fun i v H1 hi x1 hp1 => ?_⟩
    obtain ⟨sz, rfl, s0, s1⟩ : ∃ z : Int, v = .int z ∧ 2 ≤ z ∧ z < 5 := by
      match i, hi with
      | 0, h => exact ⟨2, (Option.some.inj h).symm, by decide, by decide⟩
      | 1, h => exact ⟨3, (Option.some.inj h).symm, by decide, by decide⟩
      | 2, h => exact ⟨4, (Option.some.inj h).symm, by decide, by decide⟩
      | i + 3, h => simp at h
    refine ⟨_, rfl, p, 2, _, rfl, hp1, by decide, by decide, by omega, fun d H2 d0 d1 x2 hp2 => ⟨_, _, rfl, rfl, ?_⟩⟩
    refine ⟨(by show 2 ≤ sizeLine; decide), fun t nt => ⟨t, _, rfl, SqT.of upd_same, rfl, _, _, rfl, _, _, rfl, rfl, ?_⟩⟩
    dsimp only
    have x02 : XB p H (upd H2 t (.tup [.int sz, .int (1 + d)])) := x1.tr (x2.tr (Ex.xb (Ex.nw nt)))
    have hpt := hp2.ex (Ex.nw (o := .tup [.int sz, .int (1 + d)]) nt)
    obtain ⟨G, EG⟩ : ∃ z, z = upd H2 t (.tup [.int sz, .int (1 + d)]) := ⟨_, rfl⟩
    rw [← EG] at x02 hpt ⊢
    obtain ⟨mo, em⟩ : ∃ z, z = 1 + d := ⟨_, rfl⟩
    have m0 : 1 ≤ mo := by omega
    have m1 : mo < 3 := by omega
    rw [← em]
    clear EG em d0 d1 d nt
    refine ⟨_, rfl, (by show 4 ≤ sizeLine; decide), fun l1 n1 => ⟨(by show 4 ≤ sizeLine; decide), fun l2 n2 => ⟨(by show 4 ≤ sizeLine; decide), fun l3 n3 => ⟨(by show 3 ≤ sizeLine; decide), fun l4 n4 => ?_⟩⟩⟩⟩
    have a1 : Ex G (upd G l1 (.lst [.str "a", .str "b", .str "p", .str "q"])) := Ex.nw n1
    have a2 : Ex (upd G l1 (.lst [.str "a", .str "b", .str "p", .str "q"])) (upd (upd G l1 (.lst [.str "a", .str "b", .str "p", .str "q"])) l2 (.lst [.str "c", .str "cc", .str "r", .str "rr"])) := Ex.nw n2
    obtain ⟨G2, E2⟩ : ∃ z, z = upd (upd G l1 (.lst [.str "a", .str "b", .str "p", .str "q"])) l2 (.lst [.str "c", .str "cc", .str "r", .str "rr"]) := ⟨_, rfl⟩
    have b1 : G2 l1 = some (.lst [.str "a", .str "b", .str "p", .str "q"]) := by rw [E2]; exact a2 _ _ upd_same
    have b2 : G2 l2 = some (.lst [.str "c", .str "cc", .str "r", .str "rr"]) := by rw [E2]; exact upd_same
    rw [← E2] at a2 n3 n4 ⊢
    have a12 := a1.tr a2
    have a3 : Ex G2 (upd G2 l3 (.lst [.str "count", .str "guard", .str "row", .str "total"])) := Ex.nw n3
    have a4 : Ex (upd G2 l3 (.lst [.str "count", .str "guard", .str "row", .str "total"])) (upd (upd G2 l3 (.lst [.str "count", .str "guard", .str "row", .str "total"])) l4 (.lst [.ref l1, .ref l2, .ref l3])) := Ex.nw n4
    obtain ⟨G4, E4⟩ : ∃ z, z = upd (upd G2 l3 (.lst [.str "count", .str "guard", .str "row", .str "total"])) l4 (.lst [.ref l1, .ref l2, .ref l3]) := ⟨_, rfl⟩
    have c1 : G4 l1 = some (.lst [.str "a", .str "b", .str "p", .str "q"]) := by rw [E4]; exact a4 _ _ (a3 _ _ b1)
    have c2 : G4 l2 = some (.lst [.str "c", .str "cc", .str "r", .str "rr"]) := by rw [E4]; exact a4 _ _ (a3 _ _ b2)
    have c3 : G4 l3 = some (.lst [.str "count", .str "guard", .str "row", .str "total"]) := by rw [E4]; exact a4 _ _ upd_same
    have c4 : G4 l4 = some (.lst [.ref l1, .ref l2, .ref l3]) := by rw [E4]; exact upd_same
    have e4 : Ex G G4 := by rw [E4]; exact a12.tr (a3.tr a4)
    have hpm := hpt.ex (a12.tr a3)
    have nl4 : l4 ≠ p := pot_none hpm n4
    have nl1 : l1 ≠ p := pot_none hpt n1
    have nl2 : l2 ≠ p := pot_none (hpt.ex a1) n2
    have nl3 : l3 ≠ p := pot_none (hpt.ex a12) n3
    rw [← E4]
    have hp4 := hpt.ex e4
    clear E4 E2 a1 a2 a3 a4 a12 n1 n2 n3 n4 b1 b2
    refine ⟨p, l4, _, _, rfl, hp4, SqL.of c4, nl4, (by show 0 < 3; decide), (by show 3 < 1000; decide), by omega, fun i2 v2 H5 hi2 x5 hp5 => ?_⟩
    obtain ⟨ss, lA, rfl, hss, hlA, nlA⟩ : ∃ (ss : List Str) (lA : Addr), v2 = .ref lA ∧ ss ∈ NSt ∧ H5 lA = some (.lst (ss.map V.str)) ∧ lA ≠ p := by
      match i2, hi2 with
      | 0, h => exact ⟨["a", "b", "p", "q"], l1, (Option.some.inj h).symm, .head _, x5 _ _ nl1 c1, nl1⟩
      | 1, h => exact ⟨["c", "cc", "r", "rr"], l2, (Option.some.inj h).symm, .tail _ (.head _), x5 _ _ nl2 c2, nl2⟩
      | 2, h => exact ⟨["count", "guard", "row", "total"], l3, (Option.some.inj h).symm, .tail _ (.tail _ (.head _)), x5 _ _ nl3 c3, nl3⟩
      | i + 3, h => simp at h
    have x05 : XB p H H5 := x02.tr ((Ex.xb e4).tr x5)
    clear c1 c2 c3 c4 e4 hp4 x5 nl1 nl2 nl3 nl4 hpm hpt x1 x2 hp1 hp2
    refine ⟨_, rfl, _, rfl, _, rfl, tu, _, _, _, rfl, rfl, SqT.of (htp x05), rfl, _, _, rfl, rfl, p, 2, _, rfl, hp5, by decide, by decide, by omega, fun cI H6 ca cb x6 hp6 => ⟨_, rfl, lA, _, rfl, SqL.of (x6 _ _ nlA hlA), fun q1 nq1 => ?_⟩⟩
    obtain ⟨c, rfl⟩ := Int.eq_ofNat_of_zero_le ca
    rw [cut_to, ← List.map_take]
    have e7 : Ex H6 (upd H6 q1 (.lst ((ss.take c).map V.str))) := Ex.nw nq1
    refine ⟨_, rfl, _, rfl, lA, _, rfl, SqL.of (e7 _ _ (x6 _ _ nlA hlA)), fun q0 nq0 => ?_⟩
    rw [show ((2 : Int)) = ((2 : Nat) : Int) from rfl, cut_from, ← List.map_drop]
    have e8 : Ex (upd H6 q1 (.lst ((ss.take c).map V.str))) (upd (upd H6 q1 (.lst ((ss.take c).map V.str))) q0 (.lst ((ss.drop 2).map V.str))) := Ex.nw nq0
    obtain ⟨H8, E8⟩ : ∃ z, z = upd (upd H6 q1 (.lst ((ss.take c).map V.str))) q0 (.lst ((ss.drop 2).map V.str)) := ⟨_, rfl⟩
    have hq1 : H8 q1 = some (.lst ((ss.take c).map V.str)) := by rw [E8]; exact e8 _ _ upd_same
    have hq0 : H8 q0 = some (.lst ((ss.drop 2).map V.str)) := by rw [E8]; exact upd_same
    rw [← E8] at e8 ⊢
    have nq1p := pot_none hp6 nq1
    have nq0p := pot_none (hp6.ex e7) nq0
    have e68 := e7.tr e8
    have hp8 := hp6.ex e68
    have x08 : XB p H H8 := x05.tr (x6.tr (Ex.xb e68))
    refine ⟨_, rfl, _, rfl, tu, _, _, _, rfl, rfl, SqT.of (htp x08), rfl, _, _, rfl, rfl, p, 2, _, rfl, hp8, by decide, by decide, by omega, fun rI H9 ra rb x9 hp9 => ⟨_, rfl, q0, _, rfl, SqL.of (x9 _ _ nq0p hq0), fun q2 nq2 => ?_⟩⟩
    obtain ⟨r, rfl⟩ := Int.eq_ofNat_of_zero_le ra
    rw [cut_to, ← List.map_take]
    obtain ⟨s1l, Es1⟩ : ∃ z, z = ss.take c := ⟨_, rfl⟩
    obtain ⟨s2l, Es2⟩ : ∃ z, z = (ss.drop 2).take r := ⟨_, rfl⟩
    have cfg : ∀ bs : List Bool, bs.length = s1l.length + s2l.length → okCfg s1l s2l bs = true := fun bs hb => by
      have q := List.all_eq_true.mp (List.all_eq_true.mp (List.all_eq_true.mp all_cfg ss hss) c (by simp; omega)) r (by simp; omega)
      rw [← Es1, ← Es2] at q
      exact List.all_eq_true.mp q bs (mem_allB hb)
    have l1' : s1l.length ≤ 2 := by rw [Es1, List.length_take]; omega
    have l2' : s2l.length ≤ 2 := by rw [Es2, List.length_take]; omega
    rw [← Es1] at hq1
    rw [← Es2]
    have eA : Ex H9 (upd H9 q2 (.lst (s2l.map V.str))) := Ex.nw nq2
    obtain ⟨J, EJ⟩ : ∃ z, z = upd H9 q2 (.lst (s2l.map V.str)) := ⟨_, rfl⟩
    have hq2 : J q2 = some (.lst (s2l.map V.str)) := by rw [EJ]; exact upd_same
    rw [← EJ] at eA ⊢
    have hq1J := eA _ _ (x9 _ _ nq1p hq1)
    have nq2p := pot_none hp9 nq2
    have hpJ := hp9.ex eA
    have x0J : XB p H J := x08.tr (x9.tr (Ex.xb eA))
    clear EJ eA E8 e8 e7 e68 hq0 hq1 Es1 Es2 x9 hp9 hp8 x08 x6 hp6 hp5 x05 hlA nlA nq0 nq1 nq2 nq0p
    refine ⟨_, _, rfl, ?_⟩
    refine ⟨_, rfl, q1, rfl, ⟨_, SqL.of hq1J⟩, fun D nD => lc_dr (walk_list (xs := s1l.map V.str)) (p := p) (fun i H => PotAt H p (N + 6 + (i : Int))) (fun i d => ∃ s z, s1l[i]? = some s ∧ d = pD (cP (s, z)) ∧ (0 ≤ z ∧ z < sz)) (by rw [List.length_map]; omega) nD (pot_none hpJ nD) (fun i H q => let ⟨_, _, _, z, _⟩ := q; ⟨_, z⟩) (hpJ.mono (by omega)) (fun i H H' q e => q.ex e) (fun i H xs ys q hD => q.up (Ne.symm (pot_none hpJ nD))) (fun H' x => SqL.of (x _ _ nq1p hq1J)) (fun i xv H2 H3 Kq hi x2 hp2 y kq => ?_) (fun H2 xs ds x2 hp2 hD hx hl hg => ?_)⟩
    · obtain ⟨rfl, hxi⟩ := y
      rw [List.getElem?_map] at hxi
      obtain ⟨sn, hsn, rfl⟩ := Option.map_eq_some_iff.mp hxi
      have hi2 : i < s1l.length := (List.getElem?_eq_some_iff.mp hsn).1
      exact ⟨rfl, _, rfl, _, rfl, _, rfl, p, sz, _, rfl, hp2, by omega, by omega, by omega, fun d H4 d0 d1 x4 hp4 => ⟨(by show 2 ≤ sizeLine; decide), fun q nq => kq _ _ (pD (cP (sn, d))) (XB.mu x4 (none_of_xb x4 (pot_none hp4 nq) nq)) ((hp4.ex (Ex.nw nq)).mono (by push_cast; omega)) (TzL.tup (TzL.cons (.str _) (TzL.one (.int _))) upd_same) ⟨sn, d, hsn, rfl, d0, d1⟩⟩⟩
    rw [List.length_map] at hp2 hl
    obtain ⟨cn, rfl, hcn, hcw⟩ := pairs_of (f := fun s z => pD (cP (s, z))) hl hg
    refine ⟨D, _, rfl, .inl ⟨SqL.of hD, fun tc ntc => ?_⟩⟩
    have eB : Ex H2 (upd H2 tc (.tup xs)) := Ex.nw ntc
    obtain ⟨J2, EJ2⟩ : ∃ z, z = upd H2 tc (.tup xs) := ⟨_, rfl⟩
    have htc : J2 tc = some (.tup xs) := by rw [EJ2]; exact upd_same
    rw [← EJ2] at eB ⊢
    have hpJ2 := hp2.ex eB
    have x0J2 : XB p H J2 := x0J.tr (x2.tr (Ex.xb eB))
    have hq2b := eB _ _ (x2 _ _ nq2p hq2)
    have hq1b := eB _ _ (x2 _ _ nq1p hq1J)
    have tzc : Tz J2 (.ref tc) (.tuple (cn.map fun q => pD (cP (q.1, q.2)))) := TzL.tup (hx.ex eB) htc
    clear EJ2 eB ntc hg hl hx hD x2 hp2 x0J hpJ
    refine ⟨_, rfl, q2, rfl, ⟨_, SqL.of hq2b⟩, fun D nD => lc_dr (walk_list (xs := s2l.map V.str)) (p := p) (fun i H => PotAt H p (N + 8 + 4 * (i : Int))) (fun i d => ∃ s is, s2l[i]? = some s ∧ d = pD (rP (s, is)) ∧ ((is.length : Int) ≤ mo ∧ ∀ i ∈ is, 0 ≤ i ∧ i < sz)) (by rw [List.length_map]; omega) nD (pot_none hpJ2 nD) (fun i H q => let ⟨_, _, _, z, _⟩ := q; ⟨_, z⟩) (hpJ2.mono (by omega)) (fun i H H' q e => q.ex e) (fun i H xs ys q hD => q.up (Ne.symm (pot_none hpJ2 nD))) (fun H' x => SqL.of (x _ _ nq2p hq2b)) (fun i xv H2 H3 Kq hi x2 hp2 y kq => ?_) (fun H2 xs2 ds x2 hp2 hD hx hl hg => ?_)⟩
    · obtain ⟨rfl, hxi⟩ := y
      rw [List.getElem?_map] at hxi
      obtain ⟨sn, hsn, rfl⟩ := Option.map_eq_some_iff.mp hxi
      have hi2 : i < s2l.length := (List.getElem?_eq_some_iff.mp hsn).1
      refine ⟨rfl, _, rfl, _, rfl, _, rfl, _, rfl, p, sz, mo, _, rfl, hp2, by omega, by omega, by omega, by omega, by omega, fun v is H4 x4 hp4 tv h1 h2 => ⟨(by show 2 ≤ sizeLine; decide), fun q nq => kq _ _ (pD (rP (sn, is))) (XB.mu x4 (none_of_xb x4 (pot_none hp4 nq) nq)) ((hp4.ex (Ex.nw nq)).mono (by push_cast; omega)) (TzL.tup (TzL.cons (.str _) (TzL.one (tv.ex (Ex.nw nq)))) upd_same) ⟨sn, is, hsn, rfl, h1, h2⟩⟩⟩
    rw [List.length_map] at hp2 hl
    obtain ⟨rn, rfl, hrn, hrw⟩ := pairs_of (f := fun s is => pD (rP (s, is))) hl hg
    obtain ⟨zs2, hz2⟩ : ∃ zs, J2 p = some (.lst zs) := let ⟨_, _, _, z, _⟩ := hpJ2; ⟨_, z⟩
    have tzc2 := tzc.te (x2.te hz2)
    refine ⟨D, _, rfl, .inl ⟨SqL.of hD, fun tr ntr => ?_⟩⟩
    have eC : Ex H2 (upd H2 tr (.tup xs2)) := Ex.nw ntr
    obtain ⟨J3, EJ3⟩ : ∃ z, z = upd H2 tr (.tup xs2) := ⟨_, rfl⟩
    have htr : J3 tr = some (.tup xs2) := by rw [EJ3]; exact upd_same
    rw [← EJ3] at eC ⊢
    have hpJ3 := hp2.ex eC
    have x0J3 : XB p H J3 := x0J2.tr (x2.tr (Ex.xb eC))
    have hq2c := eC _ _ (x2 _ _ nq2p hq2b)
    have hq1c := eC _ _ (x2 _ _ nq1p hq1b)
    have tzr : Tz J3 (.ref tr) (.tuple (rn.map fun q => pD (rP (q.1, q.2)))) := TzL.tup (hx.ex eC) htr
    have tzc3 := tzc2.ex eC
    clear EJ3 eC ntr hg hl hx hD x2 hp2 x0J2 hpJ2 tzc tzc2 hz2
    refine ⟨_, rfl, _, rfl, _, rfl, _, rfl, _, rfl, _, rfl, _, rfl, q1, q2, _, _, rfl, rfl, hq1c, hq2c, Nat.le_of_lt (small (by rw [List.length_map, List.length_map]; omega)), fun l5 nl5 => ?_⟩
    rw [← List.map_append]
    have eD : Ex J3 (upd J3 l5 (.lst ((s1l ++ s2l).map V.str))) := Ex.nw nl5
    refine ⟨p, l5, s1l ++ s2l, _, rfl, hpJ3.ex eD, by omega, upd_same, pot_none hpJ3 nl5, by rw [List.length_append]; omega, fun v5 bs H7 x7 hp7 hbs tv5 => ?_⟩
    obtain ⟨zs3, hz3⟩ : ∃ zs, (upd J3 l5 (.lst ((s1l ++ s2l).map V.str))) p = some (.lst zs) := let ⟨_, _, _, z, _⟩ := hpJ3.ex eD; ⟨_, z⟩
    have tK := (Ex.te eD).tr (x7.te hz3)
    refine ⟨(by show 5 ≤ sizeLine; decide), fun q5 nq5 => ?_⟩
    have e9 : Ex H7 (upd H7 q5 (.tup [.int sz, .int mo, .ref tc, .ref tr, v5])) := Ex.nw nq5
    have cf := cfg bs (by rw [hbs, List.length_append])
    unfold okCfg at cf
    simp only [Bool.and_eq_true] at cf
    obtain ⟨f1, f2, f3, f4, f5, f6⟩ := cf
    refine k _ ⟨sz, mo, cn, rn, pick (s1l ++ s2l) bs⟩ _ (x0J3.tr ((Ex.xb eD).tr (x7.tr (Ex.xb e9)))) ((hp7.ex e9).mono (by omega)) ?_ (TzL.tup (TzL.cons (.int _) (TzL.cons (.int _) (TzL.cons ((tzc3.te tK).ex e9) (TzL.cons ((tzr.te tK).ex e9) (TzL.one (tv5.ex e9)))))) upd_same)
    have ecs : Lore.cs ⟨sz, mo, cn, rn, pick (s1l ++ s2l) bs⟩ = s1l := hcn
    have ers : Lore.rs ⟨sz, mo, cn, rn, pick (s1l ++ s2l) bs⟩ = s2l := hrn
    have lcn : cn.length = s1l.length := by rw [← hcn, List.length_map]
    have lrn : rn.length = s2l.length := by rw [← hrn, List.length_map]
    refine ⟨s0, s1, m0, m1, by show cn.length ≤ 2; omega, by rw [ecs]; exact f1, hcw, by show rn.length ≤ 2; omega, by rw [ers]; exact f2, hrw, ?_, f4, ?_, ?_, by rw [ers]; exact fun x hx => List.all_eq_true.mp f6 x hx⟩
    · rw [ecs, ers]
      exact fun x hx => of_decide_eq_true (List.all_eq_true.mp f3 x hx)
    · rw [ecs, ers]
      exact Nat.le_trans (pick_len _ _) (by rw [List.length_append]; exact Nat.le_refl _)
    · rw [ecs, ers]
      exact fun x hx => of_decide_eq_true (List.all_eq_true.mp f5 x hx)
end
end K25
set_option Elab.async false
set_option linter.all false
set_option maxRecDepth 100000
set_option maxHeartbeats 4400000
namespace K25
open PySem PySem.Spec PyProof.Rows L2 HX
open PySem.W (Frag)


def spWorld (C : Addr) : Sp := fun vs H Q _ => ∃ (v : V) (L : Lore), vs = [v] ∧ Tz H v (loreD L) ∧ L.Ok ∧ ∀ (x : Addr) (H' : Hp), Ex H H' → H x = none → WAt C H' x L → Q (.ref x) H'
theorem Tz.tup5 {H : Hp} {v : V} {d e f g h : PyData} (z : Tz H v (.tuple [d, e, f, g, h])) : ∃ a x y u w t, v = .ref a ∧ H a = some (.tup [x, y, u, w, t]) ∧ Tz H x d ∧ Tz H y e ∧ Tz H u f ∧ Tz H w g ∧ Tz H t h := by
  obtain ⟨a, xs, rfl, ha, hl⟩ := z.tupI
  obtain ⟨x, r, rfl, hx, hr⟩ := TzL.consI hl
  obtain ⟨y, r2, rfl, hy, hr2⟩ := TzL.consI hr
  obtain ⟨u, r3, rfl, hu, hr3⟩ := TzL.consI hr2
  obtain ⟨w, r4, rfl, hw, hr4⟩ := TzL.consI hr3
  obtain ⟨t, r5, rfl, ht, hr5⟩ := TzL.consI hr4
  rw [hr5.nilI] at ha
  exact ⟨a, x, y, u, w, t, rfl, ha, hx, hy, hu, hw, ht⟩
/-- the parts of a lore -/
theorem lore_at {H : Hp} {v : V} {L : Lore} (z : Tz H v (loreD L)) : ∃ a u w t, v = .ref a ∧ H a = some (.tup [.int L.sz, .int L.mo, u, w, t]) ∧ Tz H u L.cD ∧ Tz H w L.rD ∧ Tz H t L.lD := by
  obtain ⟨a, x, y, u, w, t, rfl, ha, hx, hy, hu, hw, ht⟩ := Tz.tup5 z
  rw [hx.intI, hy.intI] at ha
  exact ⟨a, u, w, t, rfl, ha, hu, hw, ht⟩
theorem abc_small : (abc.cps.toList.all fun c => decide (97 ≤ c) && decide (c ≤ 122)) = true := by decide +kernel
theorem name_letters {z : Str} (h : nameOk z = true) : letters z = true ∧ z.cps.size ≤ 8 := by
  unfold nameOk at h
  simp only [Bool.and_eq_true, decide_eq_true_eq] at h
  exact ⟨List.all_eq_true.mpr fun c hc => List.all_eq_true.mp abc_small c (of_decide_eq_true (List.all_eq_true.mp h.2.2 c hc)), h.2.1⟩
/-- small parts of pairs -/
structure Pq (w k : Nat) (d : PyData) : Prop where
  sh : d.showable = true
  dp : d.depth ≤ k
  lv : d.leavesShort 24 = true
  wt : d.weight ≤ w
theorem pq_int {i : Int} (h0 : 0 ≤ i) (h1 : i < 5) : Pq 3 0 (.int i) := by
  have : (List.range 5).all (fun n => (PyData.int (n : Int)).showable && (decide ((PyData.int (n : Int)).depth ≤ 0) && ((PyData.int (n : Int)).leavesShort 24 && decide ((PyData.int (n : Int)).weight ≤ 3)))) = true := by decide +kernel
  obtain ⟨n, rfl⟩ := Int.eq_ofNat_of_zero_le h0
  have q := List.all_eq_true.mp this n (List.mem_range.mpr (by omega))
  simp only [Bool.and_eq_true, decide_eq_true_eq] at q
  exact ⟨q.1, q.2.1, q.2.2.1, q.2.2.2⟩
theorem pq_name {z : Str} (h : nameOk z = true) : Pq 8 0 (.str z) := by
  obtain ⟨h1, h2⟩ := name_letters h
  refine ⟨rfl, Nat.le_refl _, ?_, by simp only [PyData.weight]; exact h2⟩
  simp only [PyData.leavesShort]
  refine List.all_eq_true.mpr fun c hc => ?_
  have q := List.all_eq_true.mp h1 c hc
  simp only [Bool.and_eq_true, decide_eq_true_eq] at q ⊢
  have : (122 : Nat) < 16 ^ 8 := by decide
  omega
theorem pq_pack {w k : Nat} : ∀ {ds : List PyData}, (∀ d ∈ ds, Pq w k d) → PyData.showableAll ds = true ∧ PyData.depthAll ds ≤ k ∧ PyData.leavesShortAll 24 ds = true ∧ PyData.weightAll ds ≤ ds.length * (w + 1)
  | [], _ => ⟨rfl, Nat.zero_le _, rfl, Nat.zero_le _⟩
  | d :: r, h => by
    obtain ⟨a, b, c, e⟩ := pq_pack (ds := r) fun x hx => h x (.tail _ hx)
    obtain ⟨a1, b1, c1, e1⟩ := h d (.head _)
    refine ⟨?_, ?_, ?_, ?_⟩
    · simp only [PyData.showableAll, a1, a, Bool.and_self]
    · simp only [PyData.depthAll]; omega
    · simp only [PyData.leavesShortAll, c1, c, Bool.and_self]
    · simp only [PyData.weightAll, List.length_cons]
      have : (r.length + 1) * (w + 1) = r.length * (w + 1) + (w + 1) := by rw [Nat.add_mul, Nat.one_mul]
      omega
theorem pq_tup {w k m n : Nat} {ds : List PyData} (h : ∀ d ∈ ds, Pq w k d) (hl : ds.length ≤ m) (hn : m * (w + 1) ≤ n) : Pq n (k + 1) (.tuple ds) := by
  obtain ⟨a, b, c, e⟩ := pq_pack h
  refine ⟨by simp only [PyData.showable]; exact a, by simp only [PyData.depth]; omega, by simp only [PyData.leavesShort]; exact c, ?_⟩
  simp only [PyData.weight]
  exact Nat.le_trans e (Nat.le_trans (Nat.mul_le_mul_right _ hl) hn)
theorem Pq.pz {w k n : Nat} {d : PyData} (h : Pq w k d) (h1 : k ≤ 8) (h2 : w ≤ n) : Pz n d := ⟨h.sh, Nat.le_trans h.dp h1, h.lv, Nat.le_trans h.wt h2⟩
theorem Pq.up {w k w' k' : Nat} {d : PyData} (h : Pq w k d) (h1 : w ≤ w') (h2 : k ≤ k') : Pq w' k' d := ⟨h.sh, Nat.le_trans h.dp h2, h.lv, Nat.le_trans h.wt h1⟩
theorem okN_mem {ss : List Str} (h : okN ss = true) : ∀ z ∈ ss, nameOk z = true := fun z hz => List.all_eq_true.mp (Bool.and_eq_true_iff.mp h).1 z hz
def partsOf (L : Lore) : List PyData := [.int L.sz, .int L.mo, L.cD, L.rD, L.lD]
theorem pz_lore {L : Lore} (h : L.Ok) : ∀ d ∈ partsOf L, Pz 100 d := by
  intro d hd
  simp only [partsOf, List.mem_cons, List.not_mem_nil, or_false] at hd
  rcases hd with rfl | rfl | rfl | rfl | rfl
  · exact (pq_int (by have := h.s0; omega) h.s1).pz (by decide) (by decide)
  · exact (pq_int (by have := h.m0; omega) (by have := h.m1; omega)).pz (by decide) (by decide)
  · refine (pq_tup (w := 18) (k := 1) (m := 2) (n := 100) (fun d hd => ?_) (by rw [List.length_map]; exact h.c2) (by decide)).pz (by decide) (Nat.le_refl _)
    obtain ⟨c, hc, rfl⟩ := List.mem_map.mp hd
    have nm : nameOk c.1 = true := okN_mem h.cN _ (List.mem_map.mpr ⟨c, hc, rfl⟩)
    have iv := h.cw c hc
    have s1 := h.s1
    refine pq_tup (w := 8) (k := 0) (m := 2) (n := 18) (ds := [.str c.1, .int c.2]) (fun d hd => ?_) (Nat.le_refl _) (by decide)
    simp only [List.mem_cons, List.not_mem_nil, or_false] at hd
    rcases hd with rfl | rfl
    · exact pq_name nm
    · exact (pq_int iv.1 (by omega)).up (by decide) (Nat.le_refl _)
  · refine (pq_tup (w := 18) (k := 2) (m := 2) (n := 100) (fun d hd => ?_) (by rw [List.length_map]; exact h.r2) (by decide)).pz (by decide) (Nat.le_refl _)
    obtain ⟨r, hr, rfl⟩ := List.mem_map.mp hd
    have nm : nameOk r.1 = true := okN_mem h.rN _ (List.mem_map.mpr ⟨r, hr, rfl⟩)
    have iv := h.rw_ r hr
    have s1 := h.s1
    have m1 := h.m1
    refine pq_tup (w := 8) (k := 1) (m := 2) (n := 18) (ds := [.str r.1, itD r.2]) (fun d hd => ?_) (Nat.le_refl _) (by decide)
    simp only [List.mem_cons, List.not_mem_nil, or_false] at hd
    rcases hd with rfl | rfl
    · exact (pq_name nm).up (Nat.le_refl _) (by decide)
    · refine pq_tup (w := 3) (k := 0) (m := 2) (n := 8) (ds := r.2.map PyData.int) (fun d hd => ?_) (by rw [List.length_map]; omega) (by decide)
      obtain ⟨i, hi, rfl⟩ := List.mem_map.mp hd
      have := iv.2 i hi
      exact pq_int this.1 (by omega)
  · have ll : L.lo.length ≤ 4 := by
      have a := h.ll; have b := h.c2; have c := h.r2
      unfold Lore.cs Lore.rs at a
      rw [List.length_map, List.length_map] at a
      omega
    refine (pq_tup (w := 8) (k := 0) (m := 4) (n := 100) (fun d hd => ?_) (by rw [List.length_map]; exact ll) (by decide)).pz (by decide) (Nat.le_refl _)
    obtain ⟨z, hz, rfl⟩ := List.mem_map.mp hd
    exact pq_name (okN_mem h.lN z hz)

theorem plain_str {z : Str} (h : nameOk z = true) : plainD (.str z) = true := (name_letters h).1
theorem plain_int {i : Int} (h0 : 0 ≤ i) (h1 : i < 5) : plainD (.int i) = true := by
  show (decide (0 ≤ i) && decide (i ≤ 9)) = true
  rw [decide_eq_true h0, decide_eq_true (by omega)]; rfl
theorem plain_two {a b : PyData} (h : plainD a = true) (k : plainD b = true) : plainD (.tuple [a, b]) = true := by
  show (plainD a && (plainD b && true)) = true
  rw [h, k]; rfl
theorem plain_c {L : Lore} (h : L.Ok) : plainD L.cD = true := plainAll_of fun d hd => by
  obtain ⟨c, hc, rfl⟩ := List.mem_map.mp hd
  have iv := h.cw c hc
  have s1 := h.s1
  exact plain_two (plain_str (okN_mem h.cN _ (List.mem_map.mpr ⟨c, hc, rfl⟩))) (plain_int iv.1 (by omega))
theorem plain_r {L : Lore} (h : L.Ok) : plainD L.rD = true := plainAll_of fun d hd => by
  obtain ⟨r, hr, rfl⟩ := List.mem_map.mp hd
  have iv := h.rw_ r hr
  have s1 := h.s1
  refine plain_two (plain_str (okN_mem h.rN _ (List.mem_map.mpr ⟨r, hr, rfl⟩))) (plainAll_of fun d hd => ?_)
  obtain ⟨i, hi, rfl⟩ := List.mem_map.mp hd
  have := iv.2 i hi
  exact plain_int this.1 (by omega)
theorem plain_l {L : Lore} (h : L.Ok) : plainD L.lD = true := plainAll_of fun d hd => by
  obtain ⟨z, hz, rfl⟩ := List.mem_map.mp hd
  exact plain_str (okN_mem h.lN z hz)
theorem dpAll_of {K : Frag} {H : Hp} : ∀ {xs : List V} {ds : List PyData}, xs.length = ds.length → (∀ (i : Nat) (v : V) (d : PyData), xs[i]? = some v → ds[i]? = some d → Dp K H v d) → DpAll K H xs ds
  | [], [], _, _ => .nil
  | [], _ :: _, h, _ => by simp at h
  | _ :: _, [], h, _ => by simp at h
  | v :: xs, d :: ds, h, g => .cons (g 0 v d rfl rfl) (dpAll_of (by simpa using h) fun i v d a b => g (i + 1) v d (by simpa using a) (by simpa using b))
theorem dz_dp {K : Frag} {p : Addr} {H : Hp} {v : V} {d : PyData} (h : Dz p H v d) (k : plainD d = true) : Dp K H v d := by
  induction h with
  | int i => exact .int i
  | str x => exact .str x
  | tup ha hl hi ih =>
    rename_i a xs ds
    exact .tup (SqT.of ha) (dpAll_of hl fun i v d x y => ih i v d x y (plainAll_mem k d (List.mem_of_getElem? y)))
  | _ => cases k
def spWself (C : Addr) : Sp := fun vs H Q _ => ∃ (x : Addr) (L : Lore), vs = [.ref x, .ref x] ∧ WAt C H x L ∧ L.Ok ∧ Q (.bl true) H
def spFrom (K : Frag) : Sp := fun vs H Q _ => ∃ (v : V) (lo hi : Int), vs = [v, .int lo, .int hi] ∧ Kd K H v ∧ Q (.bl (whole v lo (hi + 1))) H
def spRiseL : Sp := fun vs H Q _ => ∃ (a : Addr) (ss : List Str), vs = [.ref a] ∧ H a = some (.lst (ss.map V.str)) ∧ ss.length ≤ 900 ∧ Says H Q (rises ss)
theorem kit_selfW {K : PySem.W.Frag} {t : Value} : PySem.W.kitOne K t t = some true := if_pos (beq_iff_eq.mpr rfl)

section
variable {P : Program} {w : World} {K : Frag} {mg : Str → Option Value} {base : Heap} {A : Ad}

theorem ok_world (T : Txt K mg A) : FnOk P w K mg base CX0 6 A.f_world A.d_world ["_law_lore_here"] (spWorld A.C_World) := by
  refine T.F_world.ok sc_world (fun vs H Q E h => ?_) (fun cdv A0 outer s H vs Q E hr h => ?_)
  · obtain ⟨_, _, rfl, _⟩ := h
    rfl
  · have hu := hu_of hr
    obtain ⟨v, L, rfl, hz, ok, k⟩ := h
    refine ⟨_, (pss_one (ps_ret (pe_make T.mk_World (ok_World_init T) (hr.mono (by decide)) (by rfl) T.m_World T.b_World_init .nil pass0 (pa_cons (pe_ix ix_tup (pv 0) pe_int (fun _ _ => rfl)) (pa_cons (pe_ix ix_tup (pv 0) pe_int (fun _ _ => rfl)) (pa_cons (pe_ix ix_tup (pv 0) pe_int (fun _ _ => rfl)) (pa_cons (pe_ix ix_tup (pv 0) pe_int (fun _ _ => rfl)) (pa_cons (pe_ix ix_tup (pv 0) pe_int (fun _ _ => rfl)) pa_nil)))))))), ?_⟩
    obtain ⟨a, u, w2, t, rfl, ha, hu2, hw, ht⟩ := lore_at hz
    refine ⟨_, rfl, a, _, _, _, rfl, rfl, SqT.of ha, rfl, _, rfl, a, _, _, _, rfl, rfl, SqT.of ha, rfl, _, rfl, a, _, _, _, rfl, rfl, SqT.of ha, rfl, _, rfl, a, _, _, _, rfl, rfl, SqT.of ha, rfl, _, rfl, a, _, _, _, rfl, rfl, SqT.of ha, rfl, fun x dx nx ndx nxd => ?_⟩
    have e1 : Ex H (upd (upd H dx (.own x)) x (.ins A.C_World dx [])) := fun c o e => by rw [upd_ne (ne_of_none e nx), upd_ne (ne_of_none e ndx)]; exact e
    exact ⟨x, dx, u, w2, t, L, rfl, upd_same, ok, hu2.ex e1, hw.ex e1, ht.ex e1, fun H' o hW => ⟨rfl, k x H' (fun c u e => o c u (ne_of_none e nx) (e1 _ _ e)) nx hW⟩⟩
theorem ok_law_is_name (T : Txt K mg A) : FnOk P w K mg base CX0 1 A.f_law_is_name A.d_law_is_name ["_law_value"] (spNameA) := by
  refine T.F_law_is_name.ok sc_law_is_name (fun vs H Q E h => ?_) (fun cdv A0 outer s H vs Q E hr h => ?_)
  · obtain ⟨_, _, _, rfl, _⟩ := h
    rfl
  · have hu := hu_of hr
    obtain ⟨p, v, d, rfl, hz, hw, k⟩ := h
    refine ⟨_, (pss_cons (ps_if (PW.pt (pw_or (pt_not (pt_val (pe_callB call_isi (by rfl) T.g_isinstance (by decide +kernel) (pa_cons (pv 0) (pa_cons (pe_bltn (v := .ty "str") (by rfl) T.g_str (by decide +kernel) rfl) pa_nil))))) (pw_or1 (pt_not (pt_chain op_le op_le pe_int (pe_callB call_len_str (by rfl) T.g_len (by decide +kernel) (pa_cons (pv 0) pa_nil)) pe_int))))) (pss_one (ps_ret pe_bl)) pss_nil)
      (pss_one (ps_ret (pe_callB (cr_all rfl) (by rfl) T.g_all (by decide +kernel) (pa_cons (pe_lc (own := [("_law_sign", 1)]) (g := (gName 1)) (tt := tYes) rfl sc_law_is_name.nd (pi_str (pv 0)) (blkOk_by (N := N_law_is_name) (sc := defScope s_law_is_name) (by decide +kernel)) (fun _ _ _ _ _ => pg_name (i := 1) sc_law_is_name.nd rfl (Or.inl rfl)) (fun _ _ _ _ _ => pts_nil) (fun _ _ _ _ _ => (pe_cmpR op_in_sign (pv 1) pe_str (by rfl)))) pa_nil))))), ?_⟩
    obtain ⟨ty, tx, kt⟩ := kt_strD (K := K) hz
    refine ⟨_, rfl, _, _, _, _, _, rfl, .ty _, tx, kt, _, rfl, ?_⟩
    cases hz with
    | non => exact HX.if_true rfl (k.no rfl)
    | bl b => exact HX.if_true rfl (k.no rfl)
    | int i => exact HX.if_true rfl (k.no rfl)
    | lst => exact HX.if_true rfl (k.no rfl)
    | tup => exact HX.if_true rfl (k.no rfl)
    | dct => exact HX.if_true rfl (k.no rfl)
    | str z =>
      have hl := hw.str
      have hs : z.length ≤ sizeLine := Nat.le_of_lt (small (by omega))
      refine HX.if_false rfl ?_
      have kd : nameD (.str z) = (decide (1 ≤ z.length) && (decide (z.length ≤ 8) && z.cps.toList.all (fun c => decide (c ∈ abc.cps.toList)))) := rfl
      rw [kd] at k
      refine ⟨_, rfl, z, rfl, hs, _, _, rfl, rfl, _, rfl, if_dec (fun h1 => ?_) (fun h1 => ?_)⟩
      · have h1' : 1 ≤ z.length := by omega
        rw [decide_eq_true h1', Bool.true_and] at k
        refine ⟨_, _, rfl, rfl, _, rfl, ?_⟩
        by_cases h8 : z.length ≤ 8
        · rw [decide_eq_true h8, Bool.true_and] at k
          refine HX.if_false (by rw [decide_eq_true (by omega)]; rfl) ?_
          refine ⟨_, rfl, z, rfl, fun D nD => lc_bl walk_str (fun i => decide (z.cps.toList[i]?.getD 0 ∈ abc.cps.toList)) (by show z.length < 1000; omega) nD (fun _ _ => trivial) (fun i x H2 H3 Kq hi e y kq => ?_) (fun H2 e hD => ?_)⟩
          · obtain ⟨rfl, c, hc, rfl⟩ := y
            refine ⟨rfl, _, rfl, c, _, rfl, rfl, ?_⟩
            have hc2 : z.cps.toList[i]? = some c := by simpa using hc
            have kq2 := kq _ (Ex.rf _)
            rw [hc2] at kq2
            exact kq2
          · refine ⟨D, _, rfl, SqL.of hD, ?_⟩
            rw [show z.cps.size = z.cps.toList.length from Array.length_toList.symm, all_rng (fun c => decide (c ∈ abc.cps.toList)) _ z.cps.toList (fun i a h => by rw [h]; rfl)]
            exact k _ e
        · rw [decide_eq_false h8, Bool.false_and] at k
          exact HX.if_true (by rw [decide_eq_false (by omega)]; rfl) (k.no rfl)
      · rw [decide_eq_false (by omega), Bool.false_and] at k
        exact ⟨_, rfl, HX.if_true rfl (k.no rfl)⟩
theorem ok_is_from (T : Txt K mg A) : FnOk P w K mg base CX0 1 A.f_is_from A.d_is_from ["_law_value", "_law_low", "_law_high"] (spFrom K) := by
  refine T.F_is_from.ok sc_is_from (fun vs H Q E h => ?_) (fun cdv A0 outer s H vs Q E hr h => ?_)
  · obtain ⟨_, _, _, rfl, _⟩ := h
    rfl
  · have hu := hu_of hr
    obtain ⟨v, lo, hi, rfl, hk, k⟩ := h
    refine ⟨_, (pss_one (ps_ret (pe_and (pe_callB call_isi (by rfl) T.g_isinstance (by decide +kernel) (pa_cons (pv 0) (pa_cons (pe_bltn (v := .ty "int") (by rfl) T.g_int (by decide +kernel) rfl) pa_nil))) (pe_and (pe_not (pe_callB call_isi (by rfl) T.g_isinstance (by decide +kernel) (pa_cons (pv 0) (pa_cons (pe_bltn (v := .ty "bool") (by rfl) T.g_bool (by decide +kernel) rfl) pa_nil)))) (pe_one (pe_chain op_le op_le (pv 1) (pv 0) (pv 2))))))), ?_⟩
    obtain ⟨t, ty, ki, kb⟩ := hk
    cases v with
    | int i =>
      refine ⟨_, rfl, _, _, _, _, _, rfl, .ty _, ty, ki, true, rfl, iteT ?_⟩
      refine ⟨_, rfl, _, _, _, _, _, rfl, .ty _, ty, kb, false, rfl, true, rfl, iteT ?_⟩
      refine ⟨_, rfl, _, rfl, _, _, rfl, rfl, _, rfl, if_dec (fun h1 => ?_) (fun h1 => ?_)⟩
      · refine ⟨_, rfl, _, _, rfl, rfl, ?_⟩
        simp only [whole, decide_eq_true h1, Bool.true_and] at k
        rw [show decide (i < hi + 1) = decide (i ≤ hi) from decide_eq_decide.mpr (by omega)] at k
        exact k
      · simp only [whole, decide_eq_false h1, Bool.false_and] at k
        exact k
    | bl b =>
      refine ⟨_, rfl, _, _, _, _, _, rfl, .ty _, ty, ki, true, rfl, iteT ?_⟩
      exact ⟨_, rfl, _, _, _, _, _, rfl, .ty _, ty, kb, true, rfl, false, rfl, iteF k⟩
    | _ => exact ⟨_, rfl, _, _, _, _, _, rfl, .ty _, ty, ki, false, rfl, iteF k⟩
theorem ok_law_are_rising (T : Txt K mg A) : FnOk P w K mg base CX0 1 A.f_law_are_rising A.d_law_are_rising ["_law_names"] (spRiseL) := by
  refine T.F_law_are_rising.ok sc_law_are_rising (fun vs H Q E h => ?_) (fun cdv A0 outer s H vs Q E hr h => ?_)
  · obtain ⟨_, _, rfl, _⟩ := h
    rfl
  · have hu := hu_of hr
    obtain ⟨a, ss, rfl, ha, hl, k⟩ := h
    refine ⟨_, (pss_one (ps_ret (pe_callB (cr_all rfl) (by rfl) T.g_all (by decide +kernel) (pa_cons (pe_lc (own := [("_law_at", 1)]) (g := (gName 1)) (tt := tYes) rfl sc_law_are_rising.nd (pi_range1 rfl T.g_range (pa_cons (pe_op op_sub (pe_callB call_len_seq (by rfl) T.g_len (by decide +kernel) (pa_cons (pv 0) pa_nil)) pe_int) pa_nil)) (blkOk_by (N := N_law_are_rising) (sc := defScope s_law_are_rising) (by decide +kernel)) (fun _ _ _ _ _ => pg_name (i := 1) sc_law_are_rising.nd rfl (Or.inl rfl)) (fun _ _ _ _ _ => pts_nil) (fun _ _ _ _ _ => (pe_cmpR op_lt_str (pe_ix (ix_listK (K := K) rfl) (pv 0) (pv 1) (fun _ _ => rfl)) (pe_ix (ix_listK (K := K) rfl) (pv 0) (pe_op op_add (pv 1) pe_int) (fun _ _ => rfl)) (nomark _)))) pa_nil)))), ?_⟩
    have rr := rises_rng ss (fun i => decide ((ss[i]?.getD "").cps.toList < (ss[i + 1]?.getD "").cps.toList)) (fun i a b h1 h2 => by rw [h1, h2]; rfl)
    have ln : (ss.map V.str).length = ss.length := List.length_map ..
    refine ⟨_, rfl, a, _, rfl, .inl (SqL.of ha), _, _, rfl, rfl, ((ss.map V.str).length : Int) - 1, rfl, by omega, by omega, fun D nD => ?_⟩
    rw [show (((ss.map V.str).length : Int) - 1).toNat = ss.length - 1 from by rw [ln]; omega]
    refine lc_bl walk_range (fun i => decide ((ss[i]?.getD "").cps.toList < (ss[i + 1]?.getD "").cps.toList)) (by omega) nD (fun _ _ => trivial) (fun i x H2 H3 Kq hi e y kq => ?_) (fun H2 e hD => ?_)
    · obtain ⟨rfl, rfl⟩ := y
      have i1 : i < ss.length := by omega
      have i2 : i + 1 < ss.length := by omega
      have g1 : ss[i]? = some ss[i] := List.getElem?_eq_getElem i1
      have g2 : ss[i + 1]? = some ss[i + 1] := List.getElem?_eq_getElem i2
      have hx := e _ _ ha
      rw [g1, g2] at kq
      have a1 : atI (ss.map V.str) (0 + (i : Int)) = some (.str ss[i]) := by rw [Int.zero_add]; exact atI_nat (by rw [List.getElem?_map, g1]; rfl)
      have a2 : atI (ss.map V.str) (0 + (i : Int) + 1) = some (.str ss[i + 1]) := by
        rw [Int.zero_add, show ((i : Int) + 1) = ((i + 1 : Nat) : Int) from by push_cast; rfl]
        exact atI_nat (by rw [List.getElem?_map, g2]; rfl)
      exact ⟨rfl, _, rfl, _, rfl, a, _, _, _, rfl, rfl, SqL.of hx, a1, _, rfl, _, rfl, _, _, rfl, rfl, a, _, _, _, rfl, rfl, SqL.of hx, a2, _, _, rfl, rfl, kq _ (Ex.rf _)⟩
    · refine ⟨D, _, rfl, SqL.of hD, ?_⟩
      rw [rr]
      exact k _ e
theorem ok_World_eq (T : Txt K mg A) : FnOk P w K mg base CX0 3 A.f_World_eq A.d_World_eq ["self", "other"] (spWself A.C_World) := by
  refine T.F_World_eq.ok sc_World_eq (fun vs H Q E h => ?_) (fun cdv A0 outer s H vs Q E hr h => ?_)
  · obtain ⟨_, _, rfl, _⟩ := h
    rfl
  · have hu := hu_of hr
    obtain ⟨x, L, rfl, hW, ok, k⟩ := h
    refine ⟨_, (pss_cons (ps_if (pt_not (pt_val (pe_callB call_isi (by rfl) T.g_isinstance (by decide +kernel) (pa_cons (pv 1) (pa_cons (pe_glob (v := .ref A.C_World) (by rfl) T.m_World rfl) pa_nil))))) (pss_one (ps_ret pe_bl)) pss_nil)
      (pss_cons (ps_if (PW.pt (pw_or (pt_cmpR op_ne (pe_fld (pv 0) rfl) (pe_prop (pv 1) T.cls_World T.P_size (ok_World_size T) (hr.mono (by decide)) T.b_World_size .nil pass0 rfl) (nomark _)) (pw_or (pt_cmpR op_ne (pe_fld (pv 0) rfl) (pe_prop (pv 1) T.cls_World T.P_most (ok_World_most T) (hr.mono (by decide)) T.b_World_most .nil pass0 rfl) (nomark _)) (pw_or1 (pt_cmpR (op_neD hr.units) (pe_fld (pv 0) rfl) (pe_prop (pv 1) T.cls_World T.P_loose (ok_World_loose T) (hr.mono (by decide)) T.b_World_loose .nil pass0 rfl) (nomark _)))))) (pss_one (ps_ret pe_bl)) pss_nil)
      (pss_one (ps_ret (pe_and (pe_cmpR (op_eqD hr.units) (pe_fld (pv 0) rfl) (pe_prop (pv 1) T.cls_World T.P_cells (ok_World_cells T) (hr.mono (by decide)) T.b_World_cells .nil pass0 rfl) (nomark _)) (pe_one (pe_cmpR (op_eqD hr.units) (pe_fld (pv 0) rfl) (pe_prop (pv 1) T.cls_World T.P_rows (ok_World_rows T) (hr.mono (by decide)) T.b_World_rows .nil pass0 rfl) (nomark _)))))))), ?_⟩
    obtain ⟨dx, vc, vr, vl, d, e, kvs, h1, h2, h3, h4, h5, h6⟩ := id hW
    have pz := pz_lore ok
    refine ⟨_, rfl, _, _, _, _, _, rfl, .own _, .base (.ins h1 T.cls_World T.kcl T.kgs T.ktk T.kob), kit_selfW, _, rfl, HX.if_false rfl ?_⟩
    have eqv : ∀ d, plainD d = true → PyData.eqv d d = true := fun d h => (eqv_plain d d h h).mpr rfl
    have sl : SeqAt.shaped L.lD = true := shaped_plain (plain_l ok) (pz L.lD (by simp [partsOf]))
    have sc : SeqAt.shaped L.cD = true := shaped_plain (plain_c ok) (pz L.cD (by simp [partsOf]))
    have sr : SeqAt.shaped L.rD = true := shaped_plain (plain_r ok) (pz L.rD (by simp [partsOf]))
    refine ⟨_, rfl, x, A.C_World, dx, _, _, rfl, h1, T.cls_World, T.n_size, wf_size _ _ _ _ _ _ _, _, rfl, x, dx, _, rfl, h1, x, L, rfl, hW, fun v hv => ?_⟩
    subst hv
    refine ⟨rfl, _, rfl, HX.if_false (by rw [decide_eq_true rfl]; rfl) ?_⟩
    refine ⟨_, rfl, x, A.C_World, dx, _, _, rfl, h1, T.cls_World, T.n_most, wf_most _ _ _ _ _ _ _, _, rfl, x, dx, _, rfl, h1, x, L, rfl, hW, fun v hv => ?_⟩
    subst hv
    refine ⟨rfl, _, rfl, HX.if_false (by rw [decide_eq_true rfl]; rfl) ?_⟩
    refine ⟨_, rfl, x, A.C_World, dx, _, _, rfl, h1, T.cls_World, T.n_loose, wf_loose _ _ _ _ _ _ _, _, rfl, x, dx, _, rfl, h1, x, L, rfl, hW, fun v hv => ⟨L.lD, L.lD, dz_dp (p := x) h4.dz (plain_l ok), dz_dp (p := x) hv.dz (plain_l ok), sl, sl, _, rfl, HX.if_false (by rw [eqv _ (plain_l ok)]; rfl) ?_⟩⟩
    refine ⟨_, rfl, x, A.C_World, dx, _, _, rfl, h1, T.cls_World, T.n_cells, wf_cells _ _ _ _ _ _ _, _, rfl, x, dx, _, rfl, h1, x, L, rfl, hW, fun v hv => ⟨L.cD, L.cD, dz_dp (p := x) h2.dz (plain_c ok), dz_dp (p := x) hv.dz (plain_c ok), sc, sc, _, rfl, HX.if_true (eqv _ (plain_c ok)) ?_⟩⟩
    exact ⟨_, rfl, x, A.C_World, dx, _, _, rfl, h1, T.cls_World, T.n_rows, wf_rows _ _ _ _ _ _ _, _, rfl, x, dx, _, rfl, h1, x, L, rfl, hW, fun v hv => ⟨L.rD, L.rD, dz_dp (p := x) h3.dz (plain_r ok), dz_dp (p := x) hv.dz (plain_r ok), sr, sr, by rw [eqv _ (plain_r ok)]; exact k⟩⟩
end
end K25
set_option Elab.async false
set_option linter.all false
set_option maxRecDepth 100000
set_option maxHeartbeats 4400000
namespace K25
open PySem PySem.Spec PyProof.Rows L2 HX
open PySem.W (Frag)


theorem sp_str {d : PyData} (h : isStrD d = true) : ∃ z, d = .str z := by
  cases d with
  | str z => exact ⟨z, rfl⟩
  | _ => cases h
theorem kindsD_no {d : PyData} {m : Int} {b : Bool} (h : isStrD d = false) : kindsD d m b = false := by
  cases d with
  | str z => cases h
  | _ => rfl
def spLawWorks : Sp := fun vs H Q _ => ∃ (p : Addr) (v : V) (o : Option (List PartD)) (b : Bool), vs = [v, .bl b] ∧ WorksAt p H v o ∧ Says H Q (worksOk b o)

section
variable {P : Program} {w : World} {K : Frag} {mg : Str → Option Value} {base : Heap} {A : Ad}

theorem ok_law_are_works (T : Txt K mg A) : FnOk P w K mg base CX0 4 A.f_law_are_works A.d_law_are_works ["_law_value", "_law_has_rows"] (spLawWorks) := by
  refine T.F_law_are_works.ok sc_law_are_works (fun vs H Q E h => ?_) (fun cdv A0 outer s H vs Q E hr h => ?_)
  · obtain ⟨_, _, _, _, rfl, _⟩ := h
    rfl
  · have hu := hu_of hr
    obtain ⟨p, v, o, b, rfl, hV, k⟩ := h
    refine ⟨_, (pss_cons (ps_if (PW.pt (pw_or (pt_not (pt_val (pe_callB call_isi (by rfl) T.g_isinstance (by decide +kernel) (pa_cons (pv 0) (pa_cons (pe_bltn (v := .ty "tuple") (by rfl) T.g_tuple (by decide +kernel) rfl) pa_nil))))) (pw_or1 (pt_not (pt_chain op_le op_le pe_int (pe_callB call_len_seq (by rfl) T.g_len (by decide +kernel) (pa_cons (pv 0) pa_nil)) pe_int))))) (pss_one (ps_ret pe_bl)) pss_nil)
      (pss_cons (ps_set (i := 2) sc_law_are_works.nd rfl (Or.inr rfl) (pe_ifExp (pt_val (pv 1)) pe_str pe_str))
      (pss_cons (ps_for PassesOwn.never rfl (pi_tup (pv 0)) (pg_name (i := 3) sc_law_are_works.nd rfl (Or.inl rfl)) (pss_cons (ps_if (PW.pt (pw_or (pt_not (pt_val (pe_callB call_isi (by rfl) T.g_isinstance (by decide +kernel) (pa_cons (pv 3) (pa_cons (pe_bltn (v := .ty "tuple") (by rfl) T.g_tuple (by decide +kernel) rfl) pa_nil))))) (pw_or (pt_cmpR op_ne (pe_callB call_len_seq (by rfl) T.g_len (by decide +kernel) (pa_cons (pv 3) pa_nil)) pe_int (nomark _)) (pw_or1 (pt_not (pt_val (pe_call (ok_law_is_name T) (hr.mono (by decide)) (by rfl) T.m_law_is_name T.F_law_is_name.kp T.b_law_is_name .nil pass0 (pa_cons (pe_ix ix_tup (pv 3) pe_int (fun _ _ => rfl)) pa_nil)))))))) (pss_one (ps_ret pe_bl)) pss_nil)
      (pss_one (ps_if (PW.pt (pw_or (pt_not (pt_val (pe_callB call_isi (by rfl) T.g_isinstance (by decide +kernel) (pa_cons (pe_ix ix_tup (pv 3) pe_int (fun _ _ => rfl)) (pa_cons (pe_bltn (v := .ty "str") (by rfl) T.g_str (by decide +kernel) rfl) pa_nil))))) (pw_or (pt_cmpR op_gt (pe_callB call_len_str (by rfl) T.g_len (by decide +kernel) (pa_cons (pe_ix ix_tup (pv 3) pe_int (fun _ _ => rfl)) pa_nil)) pe_int (nomark _)) (pw_or1 (pt_not (pt_val (pe_callB (cr_all rfl) (by rfl) T.g_all (by decide +kernel) (pa_cons (pe_lc (own := [("_law_letter", 4)]) (g := (gName 4)) (tt := tYes) rfl sc_law_are_works.nd (pi_str (pe_ix ix_tup (pv 3) pe_int (fun _ _ => rfl))) (blkOk_by (N := N_law_are_works) (sc := defScope s_law_are_works) (by decide +kernel)) (fun _ _ _ _ _ => pg_name (i := 4) sc_law_are_works.nd rfl (Or.inl rfl)) (fun _ _ _ _ _ => pts_nil) (fun _ _ _ _ _ => (pe_cmpR op_in_sign (pv 4) (pv 2) (by rfl)))) pa_nil)))))))) (pss_one (ps_ret pe_bl)) pss_nil))))
      (pss_one (ps_ret (pe_call (ok_law_are_rising T) (hr.mono (by decide)) (by rfl) T.m_law_are_rising T.F_law_are_rising.kp T.b_law_are_rising .nil pass0 (pa_cons (pe_lc (own := [("_law_work", 3)]) (g := (gName 3)) (tt := tYes) rfl sc_law_are_works.nd (pi_tup (pv 0)) (blkOk_by (N := N_law_are_works) (sc := defScope s_law_are_works) (by decide +kernel)) (fun _ _ _ _ _ => pg_name (i := 3) sc_law_are_works.nd rfl (Or.inl rfl)) (fun _ _ _ _ _ => pts_nil) (fun _ _ _ _ _ => (pe_ix (ix_tupK (K := K) rfl) (pv 3) pe_int (fun _ _ => rfl)))) pa_nil))))))), ?_⟩
    cases o with
    | none =>
      rcases hV with rfl | ⟨a, xs, rfl, ha⟩
      · exact ⟨_, rfl, _, _, _, _, _, rfl, .ty _, .base .non, kit_ty (r := false) (by decide +kernel), _, rfl, HX.if_true rfl (k.no rfl)⟩
      · exact ⟨_, rfl, _, _, _, _, _, rfl, .ty _, .base (.lst ha), kit_ty (r := false) (by decide +kernel), _, rfl, HX.if_true rfl (k.no rfl)⟩
    | some ps =>
      obtain ⟨⟨a, xs, rfl, ha, lx, hx⟩, l9⟩ := hV
      refine ⟨_, rfl, _, _, _, _, _, rfl, .ty _, .base (.tup ha), kit_ty (r := true) (by decide +kernel), _, rfl, HX.if_false rfl ?_⟩
      have kd : worksOk b (some ps) = (decide (1 ≤ ps.length) && (decide (ps.length ≤ 3) && (ps.all (partOk b) && rises (ps.map partN)))) := rfl
      rw [kd] at k
      refine ⟨_, rfl, a, _, rfl, .inr (SqT.of ha), _, _, rfl, rfl, _, rfl, if_dec (fun h1 => ?_) (fun h1 => ?_)⟩
      rotate_left
      · rw [decide_eq_false (by omega), Bool.false_and] at k
        exact ⟨_, rfl, HX.if_true rfl (k.no rfl)⟩
      rw [decide_eq_true (by omega : 1 ≤ ps.length), Bool.true_and] at k
      refine ⟨_, _, rfl, rfl, _, rfl, ?_⟩
      by_cases h3 : ps.length ≤ 3
      rotate_left
      · rw [decide_eq_false h3, Bool.false_and] at k
        exact HX.if_true (by rw [decide_eq_false (by omega)]; rfl) (k.no rfl)
      rw [decide_eq_true h3, Bool.true_and] at k
      refine HX.if_false (by rw [decide_eq_true (by omega)]; rfl) ?_
      cases b with
      | true =>
        refine ⟨_, rfl, _, rfl, HX.if_true rfl ?_⟩
        refine ⟨_, rfl, a, rfl, ⟨_, SqT.of ha⟩, for_tup (xs := xs) (fun i σ H' => (∃ u3 u4, σ = [some (.ref a), some (.bl true), some (.str "nr"), u3, u4]) ∧ Ex H H' ∧ (ps.take i).all (partOk true) = true) ⟨⟨_, _, rfl⟩, Ex.rf _, rfl⟩ (fun i σ H' _ h => SqT.of (h.2.1 _ _ ha)) ?_ ?_⟩
        · rintro i x σ H2 hxi ⟨⟨u3, u4, rfl⟩, e2, hall⟩
          have hj2 : i < ps.length := by have := (List.getElem?_eq_some_iff.mp hxi).1; omega
          have hd : ps[i]? = some ps[i] := List.getElem?_eq_getElem hj2
          obtain ⟨d, hdd⟩ : ∃ z, z = ps[i] := ⟨_, rfl⟩
          have hmem : d ∈ ps := by rw [hdd]; exact List.getElem_mem hj2
          rw [← hdd] at hd
          have dz := (hx i x _ hxi hd).ex e2
          have tk : (ps.take (i + 1)).all (partOk true) = partOk true d := by
            rw [List.take_add_one, hd, List.all_append, hall]; simp
          have kF : partOk true d = false → ∀ H', Ex H2 H' → Q (.bl false) H' := fun h H' e => by
            have k2 := k _ (e2.tr e)
            rw [show ps.all (partOk true) = false from Bool.eq_false_iff.mpr fun q => (by rw [List.all_eq_true.mp q d hmem] at h; cases h), Bool.false_and] at k2
            exact k2
          cases d with
          | bad =>
            rcases dz with rfl | ⟨z, rfl⟩ | ⟨b2, ys, rfl, hb⟩ | ⟨b2, ys, rfl, hb, hn⟩
            · exact ⟨_, rfl, _, _, _, _, _, rfl, .ty _, .base .non, kit_ty (r := false) (by decide +kernel), _, rfl, HX.if_true rfl (kF rfl _ (Ex.rf _))⟩
            · exact ⟨_, rfl, _, _, _, _, _, rfl, .ty _, .base (.str z), kit_ty (r := false) (by decide +kernel), _, rfl, HX.if_true rfl (kF rfl _ (Ex.rf _))⟩
            · exact ⟨_, rfl, _, _, _, _, _, rfl, .ty _, .base (.lst hb), kit_ty (r := false) (by decide +kernel), _, rfl, HX.if_true rfl (kF rfl _ (Ex.rf _))⟩
            · exact ⟨_, rfl, _, _, _, _, _, rfl, .ty _, .base (.tup hb), kit_ty (r := true) (by decide +kernel), _, rfl, HX.if_false rfl ⟨_, rfl, b2, _, rfl, .inr (SqT.of hb), rfl, _, rfl, HX.if_true (by rw [decide_eq_false (fun q => hn (by injection q with q; omega))]; rfl) (kF rfl _ (Ex.rf _))⟩⟩
          | three dn dk =>
            obtain ⟨⟨b2, vn, t, vk, rfl, hb, zn, zk⟩, wn, wk⟩ := dz
            refine ⟨_, rfl, _, _, _, _, _, rfl, .ty _, .base (.tup hb), kit_ty (r := true) (by decide +kernel), _, rfl, HX.if_false rfl ⟨_, rfl, b2, _, rfl, .inr (SqT.of hb), rfl, _, rfl, HX.if_false rfl ?_⟩⟩
            refine ⟨_, rfl, b2, _, _, _, rfl, rfl, SqT.of hb, rfl, p, vn, dn, rfl, zn, wn, fun H3 e3 => ⟨_, rfl, ?_⟩⟩
            by_cases h1 : nameD dn = true
            rotate_left
            · have h1 := Bool.eq_false_iff.mpr h1
              exact HX.if_true (by rw [h1]; rfl) (kF (by show (nameD dn && _) = false; rw [h1]; rfl) _ e3)
            refine HX.if_false (by rw [h1]; rfl) ?_
            have hb3 := e3 _ _ hb
            have zk3 := zk.ex e3
            have pk : partOk true (.three dn dk) = kindsD dk 3 true := by show (nameD dn && kindsD dk 3 true) = _; rw [h1, Bool.true_and]
            obtain ⟨ty, tx, kt⟩ := kt_strD (K := K) zk3
            refine ⟨_, rfl, b2, _, _, _, rfl, rfl, SqT.of hb3, rfl, _, _, _, _, _, rfl, .ty _, tx, kt, _, rfl, ?_⟩
            by_cases h2 : isStrD dk = true
            rotate_left
            · have h2 := Bool.eq_false_iff.mpr h2
              exact HX.if_true (by rw [h2]; rfl) (kF (by rw [pk, kindsD_no h2]) _ e3)
            refine HX.if_false (by rw [h2]; rfl) ?_
            obtain ⟨z, rfl⟩ := sp_str h2
            cases zk.strI
            have hl := wk.str
            have hs : z.length ≤ sizeLine := Nat.le_of_lt (small (by omega))
            refine ⟨_, rfl, b2, _, _, _, rfl, rfl, SqT.of hb3, rfl, z, rfl, hs, _, _, rfl, rfl, _, rfl, if_dec (fun h3 => ?_) (fun h3 => ?_)⟩
            · exact kF (by rw [pk]; show (decide ((z.length : Int) ≤ 3) && _) = false; rw [decide_eq_false (by omega), Bool.false_and]) _ e3
            have pk2 : partOk true (.three dn (.str z)) = z.cps.toList.all (fun c => decide (c ∈ ("nr" : Str).cps.toList)) := by
              rw [pk]
              show (decide ((z.length : Int) ≤ 3) && kindsOk true z) = _
              rw [decide_eq_true (by omega), Bool.true_and, ← kinds_in]; rfl
            refine ⟨_, rfl, b2, _, _, _, rfl, rfl, SqT.of hb3, rfl, z, rfl, fun D nD => lc_bl walk_str (fun i => decide (z.cps.toList[i]?.getD 0 ∈ ("nr" : Str).cps.toList)) (by show z.length < 1000; omega) nD (fun _ _ => trivial) (fun j x H4 H5 Kq hi e y kq => ?_) (fun H4 e4 hD => ?_)⟩
            · obtain ⟨rfl, c, hc, rfl⟩ := y
              refine ⟨rfl, _, rfl, _, rfl, c, _, rfl, rfl, ?_⟩
              have hc2 : z.cps.toList[j]? = some c := by simpa using hc
              have kq2 := kq _ (Ex.rf _)
              rw [hc2] at kq2
              exact kq2
            · refine ⟨D, _, rfl, SqL.of hD, ?_⟩
              rw [show z.cps.size = z.cps.toList.length from Array.length_toList.symm, all_rng (fun c => decide (c ∈ ("nr" : Str).cps.toList)) _ z.cps.toList (fun i a h => by rw [h]; rfl), ← pk2]
              refine ⟨_, rfl, ?_⟩
              by_cases h4 : partOk true (.three dn (.str z)) = true
              · exact HX.if_false (by rw [h4]; rfl) ⟨⟨_, _, rfl⟩, e2.tr (e3.tr e4), by rw [tk]; exact h4⟩
              · have h4 := Bool.eq_false_iff.mpr h4
                exact HX.if_true (by rw [h4]; rfl) (kF h4 _ (e3.tr e4))
        · rintro σ H2 ⟨⟨u3, u4, rfl⟩, e, hall⟩
          rw [lx, List.take_length] at hall
          rw [hall, Bool.true_and] at k
          have ha2 := e _ _ ha
          refine ⟨_, rfl, a, rfl, ⟨_, SqT.of ha2⟩, fun D2 nD2 => lc_tz (walk_tup (xs := xs)) (fun i => .str ((ps.map partN)[i]?.getD "")) (by omega) nD2 (fun H' e' => SqT.of (e' _ _ ha2)) (fun i x2 H3 H4 Kq hi e' y kq => ?_) (fun H3 ys e' hD2 hy => ?_)⟩
          · obtain ⟨rfl, hx2⟩ := y
            have hj2 : i < ps.length := by omega
            have hd : ps[i]? = some ps[i] := List.getElem?_eq_getElem hj2
            have dz := ((hx i x2 _ hx2 hd).ex e).ex e'
            have q := List.all_eq_true.mp hall _ (List.getElem_mem hj2)
            obtain ⟨dd, hdd⟩ : ∃ z, z = ps[i] := ⟨_, rfl⟩
            rw [← hdd] at dz q hd
            cases dd with
            | bad => cases q
            | three dn dk =>
              obtain ⟨q1, -⟩ := Bool.and_eq_true_iff.mp q
              obtain ⟨⟨b, vn, t, vk, rfl, hb, zn, zk⟩, -⟩ := dz
              obtain ⟨n, rfl⟩ : ∃ n, dn = .str n := ⟨_, nameD_str q1⟩
              cases zn.strI
              refine ⟨rfl, _, rfl, b, _, _, _, rfl, rfl, SqT.of hb, rfl, kq _ _ (Ex.rf _) ?_⟩
              rw [List.getElem?_map, hd]
              exact .str _
          · rw [names_of (by rw [List.length_map]; exact lx)] at hy
            obtain rfl := hy.strs
            exact ⟨D2, _, rfl, hD2, by rw [List.length_map]; omega, fun H4 e4 => k _ (e.tr (e'.tr e4))⟩
      | false =>
        refine ⟨_, rfl, _, rfl, HX.if_false rfl ?_⟩
        refine ⟨_, rfl, a, rfl, ⟨_, SqT.of ha⟩, for_tup (xs := xs) (fun i σ H' => (∃ u3 u4, σ = [some (.ref a), some (.bl false), some (.str "n"), u3, u4]) ∧ Ex H H' ∧ (ps.take i).all (partOk false) = true) ⟨⟨_, _, rfl⟩, Ex.rf _, rfl⟩ (fun i σ H' _ h => SqT.of (h.2.1 _ _ ha)) ?_ ?_⟩
        · rintro i x σ H2 hxi ⟨⟨u3, u4, rfl⟩, e2, hall⟩
          have hj2 : i < ps.length := by have := (List.getElem?_eq_some_iff.mp hxi).1; omega
          have hd : ps[i]? = some ps[i] := List.getElem?_eq_getElem hj2
          obtain ⟨d, hdd⟩ : ∃ z, z = ps[i] := ⟨_, rfl⟩
          have hmem : d ∈ ps := by rw [hdd]; exact List.getElem_mem hj2
          rw [← hdd] at hd
          have dz := (hx i x _ hxi hd).ex e2
          have tk : (ps.take (i + 1)).all (partOk false) = partOk false d := by
            rw [List.take_add_one, hd, List.all_append, hall]; simp
          have kF : partOk false d = false → ∀ H', Ex H2 H' → Q (.bl false) H' := fun h H' e => by
            have k2 := k _ (e2.tr e)
            rw [show ps.all (partOk false) = false from Bool.eq_false_iff.mpr fun q => (by rw [List.all_eq_true.mp q d hmem] at h; cases h), Bool.false_and] at k2
            exact k2
          cases d with
          | bad =>
            rcases dz with rfl | ⟨z, rfl⟩ | ⟨b2, ys, rfl, hb⟩ | ⟨b2, ys, rfl, hb, hn⟩
            · exact ⟨_, rfl, _, _, _, _, _, rfl, .ty _, .base .non, kit_ty (r := false) (by decide +kernel), _, rfl, HX.if_true rfl (kF rfl _ (Ex.rf _))⟩
            · exact ⟨_, rfl, _, _, _, _, _, rfl, .ty _, .base (.str z), kit_ty (r := false) (by decide +kernel), _, rfl, HX.if_true rfl (kF rfl _ (Ex.rf _))⟩
            · exact ⟨_, rfl, _, _, _, _, _, rfl, .ty _, .base (.lst hb), kit_ty (r := false) (by decide +kernel), _, rfl, HX.if_true rfl (kF rfl _ (Ex.rf _))⟩
            · exact ⟨_, rfl, _, _, _, _, _, rfl, .ty _, .base (.tup hb), kit_ty (r := true) (by decide +kernel), _, rfl, HX.if_false rfl ⟨_, rfl, b2, _, rfl, .inr (SqT.of hb), rfl, _, rfl, HX.if_true (by rw [decide_eq_false (fun q => hn (by injection q with q; omega))]; rfl) (kF rfl _ (Ex.rf _))⟩⟩
          | three dn dk =>
            obtain ⟨⟨b2, vn, t, vk, rfl, hb, zn, zk⟩, wn, wk⟩ := dz
            refine ⟨_, rfl, _, _, _, _, _, rfl, .ty _, .base (.tup hb), kit_ty (r := true) (by decide +kernel), _, rfl, HX.if_false rfl ⟨_, rfl, b2, _, rfl, .inr (SqT.of hb), rfl, _, rfl, HX.if_false rfl ?_⟩⟩
            refine ⟨_, rfl, b2, _, _, _, rfl, rfl, SqT.of hb, rfl, p, vn, dn, rfl, zn, wn, fun H3 e3 => ⟨_, rfl, ?_⟩⟩
            by_cases h1 : nameD dn = true
            rotate_left
            · have h1 := Bool.eq_false_iff.mpr h1
              exact HX.if_true (by rw [h1]; rfl) (kF (by show (nameD dn && _) = false; rw [h1]; rfl) _ e3)
            refine HX.if_false (by rw [h1]; rfl) ?_
            have hb3 := e3 _ _ hb
            have zk3 := zk.ex e3
            have pk : partOk false (.three dn dk) = kindsD dk 3 false := by show (nameD dn && kindsD dk 3 false) = _; rw [h1, Bool.true_and]
            obtain ⟨ty, tx, kt⟩ := kt_strD (K := K) zk3
            refine ⟨_, rfl, b2, _, _, _, rfl, rfl, SqT.of hb3, rfl, _, _, _, _, _, rfl, .ty _, tx, kt, _, rfl, ?_⟩
            by_cases h2 : isStrD dk = true
            rotate_left
            · have h2 := Bool.eq_false_iff.mpr h2
              exact HX.if_true (by rw [h2]; rfl) (kF (by rw [pk, kindsD_no h2]) _ e3)
            refine HX.if_false (by rw [h2]; rfl) ?_
            obtain ⟨z, rfl⟩ := sp_str h2
            cases zk.strI
            have hl := wk.str
            have hs : z.length ≤ sizeLine := Nat.le_of_lt (small (by omega))
            refine ⟨_, rfl, b2, _, _, _, rfl, rfl, SqT.of hb3, rfl, z, rfl, hs, _, _, rfl, rfl, _, rfl, if_dec (fun h3 => ?_) (fun h3 => ?_)⟩
            · exact kF (by rw [pk]; show (decide ((z.length : Int) ≤ 3) && _) = false; rw [decide_eq_false (by omega), Bool.false_and]) _ e3
            have pk2 : partOk false (.three dn (.str z)) = z.cps.toList.all (fun c => decide (c ∈ ("n" : Str).cps.toList)) := by
              rw [pk]
              show (decide ((z.length : Int) ≤ 3) && kindsOk false z) = _
              rw [decide_eq_true (by omega), Bool.true_and, ← kinds_in]; rfl
            refine ⟨_, rfl, b2, _, _, _, rfl, rfl, SqT.of hb3, rfl, z, rfl, fun D nD => lc_bl walk_str (fun i => decide (z.cps.toList[i]?.getD 0 ∈ ("n" : Str).cps.toList)) (by show z.length < 1000; omega) nD (fun _ _ => trivial) (fun j x H4 H5 Kq hi e y kq => ?_) (fun H4 e4 hD => ?_)⟩
            · obtain ⟨rfl, c, hc, rfl⟩ := y
              refine ⟨rfl, _, rfl, _, rfl, c, _, rfl, rfl, ?_⟩
              have hc2 : z.cps.toList[j]? = some c := by simpa using hc
              have kq2 := kq _ (Ex.rf _)
              rw [hc2] at kq2
              exact kq2
            · refine ⟨D, _, rfl, SqL.of hD, ?_⟩
              rw [show z.cps.size = z.cps.toList.length from Array.length_toList.symm, all_rng (fun c => decide (c ∈ ("n" : Str).cps.toList)) _ z.cps.toList (fun i a h => by rw [h]; rfl), ← pk2]
              refine ⟨_, rfl, ?_⟩
              by_cases h4 : partOk false (.three dn (.str z)) = true
              · exact HX.if_false (by rw [h4]; rfl) ⟨⟨_, _, rfl⟩, e2.tr (e3.tr e4), by rw [tk]; exact h4⟩
              · have h4 := Bool.eq_false_iff.mpr h4
                exact HX.if_true (by rw [h4]; rfl) (kF h4 _ (e3.tr e4))
        · rintro σ H2 ⟨⟨u3, u4, rfl⟩, e, hall⟩
          rw [lx, List.take_length] at hall
          rw [hall, Bool.true_and] at k
          have ha2 := e _ _ ha
          refine ⟨_, rfl, a, rfl, ⟨_, SqT.of ha2⟩, fun D2 nD2 => lc_tz (walk_tup (xs := xs)) (fun i => .str ((ps.map partN)[i]?.getD "")) (by omega) nD2 (fun H' e' => SqT.of (e' _ _ ha2)) (fun i x2 H3 H4 Kq hi e' y kq => ?_) (fun H3 ys e' hD2 hy => ?_)⟩
          · obtain ⟨rfl, hx2⟩ := y
            have hj2 : i < ps.length := by omega
            have hd : ps[i]? = some ps[i] := List.getElem?_eq_getElem hj2
            have dz := ((hx i x2 _ hx2 hd).ex e).ex e'
            have q := List.all_eq_true.mp hall _ (List.getElem_mem hj2)
            obtain ⟨dd, hdd⟩ : ∃ z, z = ps[i] := ⟨_, rfl⟩
            rw [← hdd] at dz q hd
            cases dd with
            | bad => cases q
            | three dn dk =>
              obtain ⟨q1, -⟩ := Bool.and_eq_true_iff.mp q
              obtain ⟨⟨b, vn, t, vk, rfl, hb, zn, zk⟩, -⟩ := dz
              obtain ⟨n, rfl⟩ : ∃ n, dn = .str n := ⟨_, nameD_str q1⟩
              cases zn.strI
              refine ⟨rfl, _, rfl, b, _, _, _, rfl, rfl, SqT.of hb, rfl, kq _ _ (Ex.rf _) ?_⟩
              rw [List.getElem?_map, hd]
              exact .str _
          · rw [names_of (by rw [List.length_map]; exact lx)] at hy
            obtain rfl := hy.strs
            exact ⟨D2, _, rfl, hD2, by rw [List.length_map]; omega, fun H4 e4 => k _ (e.tr (e'.tr e4))⟩
end
end K25
set_option Elab.async false
set_option linter.all false
set_option maxRecDepth 100000
set_option maxHeartbeats 4400000
namespace K25
open PySem PySem.Spec PyProof.Rows L2 HX
open PySem.W (Frag)


open LamX
def spTold (A : Ad) : Sp := fun vs H Q _ => ∃ (p xw : Addr) (vk vr : V) (o : Option (List PartD)) (dr : PyData) (L : Lore), vs = [.ref xw, vk, vr] ∧ L.Ok ∧ WAt A.C_World H xw L ∧ WorksAt p H vk o ∧ Dz p H vr dr ∧
  (worksOk (!L.rn.isEmpty) o = false → ∀ (q : Addr) (H' : Hp), Ex H H' → H' q = some (.tup [.str "refused", vk]) → Q (.ref q) H') ∧
  (worksOk (!L.rn.isEmpty) o = true → wholeD dr 1 3 = false → ∀ (q : Addr) (H' : Hp), Ex H H' → H' q = some (.tup [.str "refused", vr]) → Q (.ref q) H') ∧
  (worksOk (!L.rn.isEmpty) o = true → wholeD dr 1 3 = true → ∀ (x q : Addr) (H' : Hp), Ex H H' → SAt A.C_Setup H' x xw vk vr → H' q = some (.tup [.str "told", .ref x]) → Q (.ref q) H')

section
variable {P : Program} {w : World} {K : Frag} {mg : Str → Option Value} {base : Heap} {A : Ad}

theorem ok_told (T : Txt K mg A) : FnOk P w K mg base CX0 7 A.f_told A.d_told ["_law_world_here", "_law_works", "_law_room"] (spTold A) := by
  refine T.F_told.ok sc_told (fun vs H Q E h => ?_) (fun cdv A0 outer s H vs Q E hr h => ?_)
  · obtain ⟨_, _, _, _, _, _, _, rfl, _⟩ := h
    rfl
  · have hu := hu_of hr
    obtain ⟨p, xw, vk, vr, ob, dr, L, rfl, ok, hW, hV, hz, k1, k2, k3⟩ := h
    refine ⟨_, (pss_cons (ps_asg (pe_tup (pa_cons pe_non (pa_cons pe_non pa_nil))) (pg_tup rfl (pgs_cons (pg_name (i := 3) sc_told.nd rfl (Or.inl rfl)) (pgs_cons (pg_name (i := 4) sc_told.nd rfl (Or.inl rfl)) pgs_nil))))
      (pss_cons (ps_try_keep (i := 5) rfl rfl sc_told.nd rfl rfl ⟨rfl, by decide, Or.inl T.m_TapeError⟩ L2.takes0 rfl
      (fun W pn xe tk _ => pss_one (ps_set (i := 3) sc_told.nd rfl (Or.inl rfl) (pe_makeS T.mk_Setup (ok_Setup_init T) (hr.mono (by decide)) (by rfl) T.m_Setup T.b_Setup_init .nil (fun τ => passAt tk τ) (pa_cons (pv 0) (pa_cons (pv 1) (pa_cons (pv 2) pa_nil))))))
      (fun a oe cls d pn hz hf => pss_one (ps_set (i := 4) sc_told.nd rfl (Or.inl rfl) (pv 5))))
      (pss_cons (ps_if (pt_cmpR op_isN (pv 4) pe_non (nomark _)) (pss_one (ps_ret (pe_tup (pa_cons pe_str (pa_cons (pv 3) pa_nil))))) pss_nil)
      (pss_cons (ps_if (PW.pt (pw_or (pt_not (pt_val (pe_callB (call_isK (K := K) rfl) (by rfl) T.g_isinstance (by decide +kernel) (pa_cons (pv 4) (pa_cons (pe_glob (v := .ref A.C_BadSetup) (by rfl) T.m_BadSetup rfl) pa_nil))))) (pw_or1 (pt_not (pt_val (pe_callB (call_isK (K := K) rfl) (by rfl) T.g_isinstance (by decide +kernel) (pa_cons (pv 4) (pa_cons (pe_bltn (v := .ty "ValueError") (by rfl) T.g_ValueError (by decide +kernel) rfl) pa_nil)))))))) (pss_one (ps_ret (pe_tup (pa_cons pe_str (pa_cons pe_non pa_nil))))) pss_nil)
      (pss_one (ps_ret (pe_tup (pa_cons pe_str (pa_cons (pe_errA (pv 4)) pa_nil))))))))), ?_⟩
    refine ⟨(by show 2 ≤ sizeLine; decide), fun t nt => ⟨t, _, rfl, SqT.of upd_same, rfl, _, _, rfl, _, _, rfl, rfl, ?_⟩⟩
    have e1 : Ex H (upd H t (.tup [.non, .non])) := Ex.nw nt
    obtain ⟨H1, E1⟩ : ∃ z, z = upd H t (.tup [.non, .non]) := ⟨_, rfl⟩
    rw [← E1] at e1 ⊢
    refine ⟨_, rfl, _, rfl, _, rfl, fun x dx nx ndx nxd => ?_⟩
    obtain ⟨HM, EM⟩ : ∃ z, z = upd (upd H1 dx (.own x)) x (.ins A.C_Setup dx []) := ⟨_, rfl⟩
    have eM : Ex H1 HM := by rw [EM]; exact fun c o e => by rw [upd_ne (ne_of_none e nx), upd_ne (ne_of_none e ndx)]; exact e
    have xM : HM x = some (.ins A.C_Setup dx []) := by rw [EM]; exact upd_same
    rw [← EM]
    have e0M := e1.tr eM
    have hm : A.C_BadSetup ∈ [A.C_BadSetup] := .head _
    have nxw : x ≠ xw := by
      obtain ⟨dy, vc, vr2, vl, d, e, kvs, g1, -⟩ := hW.ex e1
      exact Ne.symm (ne_of_none g1 nx)
    refine ⟨p, x, dx, xw, vk, vr, ob, dr, L, rfl, xM, nxw, ok, hW.ex e0M, hV.ex e0M, hz.ex e0M, fun h1 => ?_, fun h1 h2 => ?_, fun h1 h2 H2 o2 hS => ⟨rfl, ?_⟩⟩
    · {
      intro dd H2 e2 hd
      refine ⟨true, T.xte _ hm, (fun z => Bool.noConfusion z), fun _ => ⟨A.C_BadSetup, rfl, fun a na => ?_⟩⟩
      refine ⟨_, rfl, ?_⟩
      have x0 : Ex H2 (upd H2 a (ErrV A.C_BadSetup (some dd) a)) := Ex.nw na
      have ea : ErrIs (upd H2 a (ErrV A.C_BadSetup (some dd) a)) A.C_BadSetup a [("value", _)] := ⟨dd, .inl ⟨upd_same, x0 _ _ hd⟩⟩
      obtain ⟨H3, E3⟩ : ∃ z, z = upd H2 a (ErrV A.C_BadSetup (some dd) a) := ⟨_, rfl⟩
      rw [← E3] at x0 ea
      refine ⟨_, rfl, rfl, _, rfl, HX.if_false rfl ?_⟩
      rw [← E3]
      have e0 : PySem.W.kitOne K (.ref A.C_BadSetup) (.ref A.C_BadSetup) = some true := by rw [T.kit _ hm _ hm]; simp
      refine ⟨_, rfl, a, A.C_BadSetup, _, _, _, rfl, .inl ⟨_, ea⟩, T.E_BadSetup.er, (fun u r => r), e0, _, rfl, HX.if_false rfl ?_⟩
      refine ⟨_, rfl, a, A.C_BadSetup, _, _, _, rfl, .inl ⟨_, ea⟩, T.E_BadSetup.er, (fun u r => r), T.kve _ hm, _, rfl, HX.if_false rfl ?_⟩
      refine ⟨_, rfl, a, A.C_BadSetup, _, _, rfl, ea, T.E_BadSetup.xf, T.E_BadSetup.no, rfl, ?_⟩
      exact ⟨(by show 2 ≤ sizeLine; decide), fun q nq => k1 h1 q _ (e0M.tr (e2.tr (x0.tr (Ex.nw nq)))) upd_same⟩ }
    · {
      intro dd H2 e2 hd
      refine ⟨true, T.xte _ hm, (fun z => Bool.noConfusion z), fun _ => ⟨A.C_BadSetup, rfl, fun a na => ?_⟩⟩
      refine ⟨_, rfl, ?_⟩
      have x0 : Ex H2 (upd H2 a (ErrV A.C_BadSetup (some dd) a)) := Ex.nw na
      have ea : ErrIs (upd H2 a (ErrV A.C_BadSetup (some dd) a)) A.C_BadSetup a [("value", _)] := ⟨dd, .inl ⟨upd_same, x0 _ _ hd⟩⟩
      obtain ⟨H3, E3⟩ : ∃ z, z = upd H2 a (ErrV A.C_BadSetup (some dd) a) := ⟨_, rfl⟩
      rw [← E3] at x0 ea
      refine ⟨_, rfl, rfl, _, rfl, HX.if_false rfl ?_⟩
      rw [← E3]
      have e0 : PySem.W.kitOne K (.ref A.C_BadSetup) (.ref A.C_BadSetup) = some true := by rw [T.kit _ hm _ hm]; simp
      refine ⟨_, rfl, a, A.C_BadSetup, _, _, _, rfl, .inl ⟨_, ea⟩, T.E_BadSetup.er, (fun u r => r), e0, _, rfl, HX.if_false rfl ?_⟩
      refine ⟨_, rfl, a, A.C_BadSetup, _, _, _, rfl, .inl ⟨_, ea⟩, T.E_BadSetup.er, (fun u r => r), T.kve _ hm, _, rfl, HX.if_false rfl ?_⟩
      refine ⟨_, rfl, a, A.C_BadSetup, _, _, rfl, ea, T.E_BadSetup.xf, T.E_BadSetup.no, rfl, ?_⟩
      exact ⟨(by show 2 ≤ sizeLine; decide), fun q nq => k2 h1 h2 q _ (e0M.tr (e2.tr (x0.tr (Ex.nw nq)))) upd_same⟩ }
    · have e2 : Ex H H2 := fun c o e => o2 c o (ne_of_none (e1 _ _ e) nx) (e0M _ _ e)
      refine ⟨_, rfl, rfl, _, rfl, HX.if_true rfl ?_⟩
      exact ⟨_, rfl, (by show 2 ≤ sizeLine; decide), fun q nq => k3 h1 h2 x q _ (e2.tr (Ex.nw nq)) (hS.ex (Ex.nw nq)) upd_same⟩
end
end K25
set_option Elab.async false
set_option linter.all false
set_option maxRecDepth 100000
set_option maxHeartbeats 4400000
namespace K25
open PySem PySem.Spec PyProof.Rows L2 HX
open PySem.W (Frag)

open LamX
theorem okT {P : Program} {w : World} {K : PySem.W.Frag} {mg : Str → Option Value} {base : Heap} {x qual : Str} {st : Stmt} {f c : Addr} {fd : FuncData} {N ps : List Str} {k : Nat} {sp : Sp} (F : Fun K x qual st f fd) (S : FnScope N ps (defScope st)) (hc : fd.code = .ref c) (len : ∀ vs H Q E, sp vs H Q E → vs.length = ps.length)
    (hbody : ∀ (A : Around) (outer : List Env) (s : Shared) (H : Hp) (vs : List V) (Q : VK) (E : XK), Room k (A.deeper (envOfC qual (defScope st) s.heap.objs.size f (.ref c))) → sp vs H Q E →
      ∃ t, PSs (cxOf CX0 P w K mg base N qual (defScope st) f (.ref c) A outer s H E).nox (defBody st) t ∧ t { nx := fun _ H' => Q .non H', rt := Q } (L2.start N vs) H) : FnOk P w K mg base CX0 (k + 1) f fd ps sp := by
  obtain ⟨oc, od, kV, doc, pm, an, cdv, ct, osl, rfl, lk, hcd⟩ := F.ex
  have e : cdv = .ref c := hc
  subst e
  exact ⟨len, fun A o s H args us vs Q E hr e0 hb r hsp => LamX.run_ofS lk hcd S hr e0 hb r (len _ _ _ _ hsp) fun hr' => let ⟨t, p, q⟩ := hbody A o s H vs Q E hr' hsp; ⟨t, p.nox, q⟩⟩
def LetOk (b : Bool) (z : Str) : Prop := z.cps.toList = [110] ∨ (b = true ∧ z.cps.toList = [114])
theorem LetOk.len {b : Bool} {z : Str} (h : LetOk b z) : z.length = 1 := by
  have q : z.cps.toList.length = 1 := by rcases h with e | ⟨_, e⟩ <;> rw [e] <;> rfl
  rw [Array.length_toList] at q; exact q
theorem LetOk.kd {b : Bool} {z : Str} (h : LetOk b z) : z.cps.toList.all (fun c => c == 110 || (b && c == 114)) = true := by
  rcases h with e | ⟨hb, e⟩
  · rw [e]; rfl
  · rw [e, hb]; rfl
theorem join_let {b : Bool} : ∀ ls : List Str, (∀ z ∈ ls, LetOk b z) → (Txt.join "" ls).length = ls.length ∧ kindsOk b (Txt.join "" ls) = true
  | [], _ => by rw [TL.join_eq]; exact ⟨rfl, rfl⟩
  | [x], h => by
    rw [TL.join_eq]
    exact ⟨(h x (.head _)).len, (h x (.head _)).kd⟩
  | x :: y :: r, h => by
    have ih := join_let (y :: r) fun z hz => h z (.tail _ hz)
    have hx := h x (.head _)
    rw [TL.join_eq] at ih ⊢
    have e : (Str.join "" (x :: y :: r)).cps = x.cps ++ ("" : Str).cps ++ (Str.join "" (y :: r)).cps := rfl
    have z0 : ("" : Str).cps = #[] := by decide +kernel
    have l1 : x.cps.size = 1 := hx.len
    constructor
    · show (Str.join "" (x :: y :: r)).cps.size = _
      have l2 : (Str.join "" (y :: r)).cps.size = (y :: r).length := ih.1
      rw [e, z0, Array.size_append, Array.size_append, l1, l2]
      simp only [List.length_cons, List.size_toArray, List.length_nil]; omega
    · unfold kindsOk at ih ⊢
      rw [e, z0, Array.toList_append, Array.toList_append, List.all_append, List.all_append, hx.kd, ih.2]; rfl
def spOfS : Sp := fun vs H Q _ => ∃ (p : Addr) (z : Str) (N : Int), vs = [.ref p, .str z] ∧ PotAt H p N ∧ 0 < z.length ∧ z.length ≤ 5 ∧ N ≤ 100000 ∧ ∀ (c : Nat) (H' : Hp), c ∈ z.cps.toList → XB p H H' → PotAt H' p (N + 1) → Q (.str ⟨#[c]⟩) H'
theorem let_nnr : ∀ c ∈ ("nnr" : Str).cps.toList, c = 110 ∨ c = 114 := by decide +kernel
theorem let_n : ∀ c ∈ ("n" : Str).cps.toList, c = 110 := by decide +kernel
theorem let_of {b : Bool} {c : Nat} (h : c = 110 ∨ (b = true ∧ c = 114)) : LetOk b ⟨#[c]⟩ := by
  rcases h with rfl | ⟨hb, rfl⟩
  · exact .inl rfl
  · exact .inr ⟨hb, rfl⟩
theorem strs_of {P : Str → Prop} : ∀ {ds : List PyData}, (∀ (i : Nat) (d : PyData), ds[i]? = some d → ∃ z, d = .str z ∧ P z) → ∃ ls : List Str, ds = ls.map PyData.str ∧ ∀ z ∈ ls, P z
  | [], _ => ⟨[], rfl, fun z h => by cases h⟩
  | d :: r, h => by
    obtain ⟨z, rfl, hz⟩ := h 0 d rfl
    obtain ⟨ls, rfl, hl⟩ := strs_of (ds := r) fun i d e => h (i + 1) d (by simpa using e)
    exact ⟨z :: ls, rfl, fun y hy => (List.mem_cons.mp hy).elim (fun e => e ▸ hz) (hl y)⟩
theorem sum_one {b : Bool} : ∀ {ls : List Str}, (∀ z ∈ ls, LetOk b z) → (ls.map (·.length)).sum = ls.length
  | [], _ => rfl
  | x :: r, h => by
    rw [List.map_cons, List.sum_cons, (h x (.head _)).len, sum_one fun z hz => h z (.tail _ hz), List.length_cons]; omega
theorem z0 : ("" : Str).length = 0 := by decide +kernel

theorem bothB {c : Bool} {R : V → Hp → Prop} {ta tb : L2.TE} {σ : L2.St} {H : Hp} {Qc : VK} (hA : c = true → ∀ Qd : VK, (∀ v G, R v G → Qd v G) → ta σ H Qd) (hB : c = false → ∀ Qd : VK, (∀ v G, R v G → Qd v G) → tb σ H Qd) (h : ∀ v G, R v G → Qc v G) : if c = true then ta σ H Qc else tb σ H Qc := by
  cases c with
  | true => exact HX.if_true rfl (hA rfl _ h)
  | false => exact HX.if_false rfl (hB rfl _ h)
theorem let_nnn : ∀ c ∈ ("nnn" : Str).cps.toList, c = 110 := by decide +kernel
abbrev lamQ (A : Ad) : Str := (envOfC ("_law_work_triple" : Str) (defScope s_work_triple) 0 A.f_work_triple (.ref A.c_work_triple)).qual ++ "<lambda>"
abbrev Tb (A : Ad) : List (Addr × Str) := [(A.P_work_triple, lamQ A)]
theorem tabs_pot {T : List (Addr × Str)} {p : Addr} {H H' : Hp} {n : Int} (t : Tabs T H) (hp : PotAt H p n) (e : XB p H H') : Tabs T H' := let ⟨_, _, _, z, _⟩ := hp; tabs_xb t z e
theorem PotAt.en {H H' : Hp} {p : Addr} {n : Int} (h : PotAt H p n) (e : ExtN H H') : PotAt H' p n := let ⟨a, b, c, h0, hr⟩ := h; ⟨a, b, c, e _ _ h0 (fun _ z => by cases z), hr⟩
theorem en_mu {H H' : Hp} {f : Addr} {o : HO} (e : ExtN H H') (h : H' f = none) : ExtN H (upd H' f o) := e.trans fun b u hb _ => Ex.nw h b u hb
def spTriple (A : Ad) : Sp := fun vs H Q _ => ∃ (p : Addr) (n : Str) (b : Bool) (N : Int), vs = [.ref p, .str n, .bl b] ∧ PotAt H p N ∧ N ≤ 90000 ∧ Tabs (Tb A) H ∧
  ∀ (q : Addr) (t : V) (z : Str) (H' : Hp), XN p H H' → Tabs (Tb A) H' → PotAt H' p (N + 6) → H' q = some (.tup [.str n, t, .str z]) → z.length ≤ 3 → kindsOk b z = true → Q (.ref q) H'

section
variable {P : Program} {w : World} {K : Frag} {mg : Str → Option Value} {base : Heap} {A : Ad}

theorem ok_ofS (T : Txt K mg A) : FnOk P w K mg base CX0 2 A.f_of A.d_of ["_law_pot_here", "_law_some_here"] spOfS := by
  refine T.F_of.ok sc_of (fun vs H Q E h => ?_) (fun cdv A0 outer s H vs Q E hr h => ?_)
  · obtain ⟨_, _, _, rfl, _⟩ := h
    rfl
  · have hu := hu_of hr
    obtain ⟨p, z, N, rfl, hp, z0, z5, hN, k⟩ := h
    refine ⟨_, (pss_one (ps_ret (pe_ix ix_str (pv 1) (pe_call (ok_take T) (hr.mono (by decide)) (by rfl) T.m_take T.F_take.kp T.b_take .nil pass0 (pa_cons (pv 0) (pa_cons (pe_callB call_len_str (by rfl) T.g_len (by decide +kernel) (pa_cons (pv 1) pa_nil)) pa_nil))) (fun _ _ => rfl)))), ?_⟩
    refine ⟨_, rfl, _, rfl, _, rfl, z, rfl, Nat.le_of_lt (small (by omega)), p, _, N, rfl, hp, by omega, by omega, hN, fun d H1 d0 d1 e1 hp1 => ?_⟩
    obtain ⟨jj, rfl⟩ := Int.eq_ofNat_of_zero_le d0
    have hj : jj < z.cps.toList.length := by rw [Array.length_toList]; show jj < z.length; omega
    have hgt : z.cps.toList[jj]? = some z.cps.toList[jj] := List.getElem?_eq_getElem hj
    exact ⟨z, _, _, rfl, rfl, Nat.le_of_lt (small (by omega)), atI_nat hgt, k _ H1 (List.getElem_mem hj) e1 hp1⟩
theorem ok_work_triple (T : Txt K mg A) (TB : TabB base mg A.c_work_triple A.P_work_triple) : FnOk P w K mg base CX0 4 A.f_work_triple A.d_work_triple ["_law_pot_here", "_law_name", "_law_has_rows"] (spTriple A) := by
  refine okT T.F_work_triple sc_work_triple T.dc_work_triple (fun vs H Q E h => ?_) (fun A0 outer s H vs Q E hr h => ?_)
  · obtain ⟨_, _, _, _, rfl, _⟩ := h
    rfl
  · have hu := hu_of hr
    obtain ⟨p, n, b, N, rfl, hp, hN, hT, k⟩ := h
    refine ⟨_, (pss_cons (ps_set (i := 3) sc_work_triple.nd rfl (Or.inl rfl) (pe_call (ok_of T) (hr.mono (by decide)) (by rfl) T.m_of T.F_of.kp T.b_of .nil pass0 (pa_cons (pv 0) (pa_cons (pe_lstN (pa_cons (pe_lamV (T := Tb A) TB rfl (List.mem_singleton.mpr rfl) (fun p hp _ => by have e := List.mem_singleton.mp hp; subst e; rfl)) (pa_cons (pe_lamV (T := Tb A) TB rfl (List.mem_singleton.mpr rfl) (fun p hp _ => by have e := List.mem_singleton.mp hp; subst e; rfl)) (pa_cons pe_non (pa_cons pe_int (pa_cons pe_str (pa_cons (pe_tup pa_nil) pa_nil))))))) pa_nil))))
      (pss_cons (ps_set (i := 4) sc_work_triple.nd rfl (Or.inr rfl) (pe_ifExp (pt_val (pv 2)) pe_str pe_str))
      (pss_one (ps_ret (pe_tup (pa_cons (pv 1) (pa_cons (pv 3) (pa_cons (pe_join pe_str (pe_lc (own := [("_law_turn", 5)]) (g := (gName 5)) (tt := tYes) rfl sc_work_triple.nd (pi_range1 rfl T.g_range (pa_cons (pe_call (ok_take T) (hr.mono (by decide)) (by rfl) T.m_take T.F_take.kp T.b_take .nil pass0 (pa_cons (pv 0) (pa_cons pe_int pa_nil))) pa_nil)) (blkOk_by (N := N_work_triple) (sc := defScope s_work_triple) (by decide +kernel)) (fun _ _ _ _ _ => pg_name (i := 5) sc_work_triple.nd rfl (Or.inl rfl)) (fun _ _ _ _ _ => pts_nil) (fun _ _ _ _ _ => (pe_call (ok_ofS T) (hr.mono (by decide)) (by rfl) T.m_of T.F_of.kp T.b_of .nil pass0 (pa_cons (pv 0) (pa_cons (pv 4) pa_nil)))))) pa_nil)))))))), ?_⟩
    refine ⟨_, rfl, hT, fun H1 f1 en1 t1 nf1 => ?_⟩
    have u1 := t1.ext (Ex.nw (o := FnO f1) nf1)
    refine ⟨u1, fun H2 f2 en2 t2 nf2 => ⟨(by show 0 ≤ sizeLine; decide), fun t0 n0 => ⟨(by show 6 ≤ sizeLine; decide), fun l nl sl => ?_⟩⟩⟩
    have q1 := en_mu (o := FnO f1) en1 nf1
    have q2 := q1.trans (en_mu (o := FnO f2) en2 nf2)
    have u2 := t2.ext (Ex.nw (o := FnO f2) nf2)
    have e3 := (Ex.nw (o := .tup []) n0).tr (Ex.nw (o := .lst [.ref f1, .ref f2, .non, .int 0, .str "f", .ref t0]) nl)
    obtain ⟨G, EG⟩ : ∃ z, z = upd (upd (upd H2 f2 (FnO f2)) t0 (.tup [])) l (.lst [.ref f1, .ref f2, .non, .int 0, .str "f", .ref t0]) := ⟨_, rfl⟩
    have hlG : G l = some (.lst [.ref f1, .ref f2, .non, .int 0, .str "f", .ref t0]) := by rw [EG]; exact upd_same
    have nlp : l ≠ p := pot_none (((hp.en q2).ex (Ex.nw n0))) nl
    rw [← EG] at e3 ⊢
    have tG := u2.ext e3
    have pG := (hp.en q2).ex e3
    have xG : XN p H G := (en_xn q2).tr (Ex.xb e3).xn
    clear EG
    refine ⟨p, l, _, N, rfl, pG, SqL.of hlG, nlp, (by show 0 < 6; decide), (by show 6 < 1000; decide), by omega, fun i t H3 hi x3 p3 => ?_⟩
    have t3 := tabs_pot tG pG x3
    have xx3 := xG.tr x3.xn
    refine ⟨_, rfl, _, rfl, ?_⟩
    refine bothB (R := fun v G => ∃ z : Str, v = .str z ∧ G = H3 ∧ 0 < z.length ∧ z.length ≤ 5 ∧ ∀ c ∈ z.cps.toList, LetOk b ⟨#[c]⟩) (fun hc Qd k' => k' _ _ ⟨_, rfl, rfl, by decide +kernel, by decide +kernel, fun c h => let_of ((let_nnr c h).imp id fun e => ⟨hc, e⟩)⟩) (fun hc Qd k' => k' _ _ ⟨_, rfl, rfl, by decide +kernel, by decide +kernel, fun c h => let_of (.inl (let_nnn c h))⟩) ?_
    rintro _ G0' ⟨z, rfl, eG0, zl0, zl5, hlet⟩
    rw [eG0]
    clear eG0 G0'
    refine ⟨_, rfl, _, rfl, ⟨_, rfl⟩, _, rfl, p, 4, _, rfl, p3, by decide, by decide, by omega, fun m Hd m0 m1 xd hpd => ⟨m, rfl, by omega, by omega, fun D nD => ?_⟩⟩
    have nDp := pot_none hpd nD
    refine lc_dr walk_range (p := p) (fun j H => PotAt H p (N + 2 + (j : Int))) (fun j d => ∃ c, d = .str c ∧ LetOk b c) (by omega) nD nDp (fun j H q => let ⟨_, _, _, z, _⟩ := q; ⟨_, z⟩) (hpd.mono (by omega)) (fun j H H' q e => q.ex e) (fun j H xs ys q hD => q.up (Ne.symm nDp)) (fun _ _ => trivial) (fun j xv He Hf Kq hj xe hpe y kq => ?_) (fun He xs ds xe hpe hD hx hl hg => ?_)
    · obtain ⟨rfl, rfl⟩ := y
      exact ⟨rfl, _, rfl, _, rfl, p, z, _, rfl, hpe, zl0, zl5, by omega, fun c H4 hc x4 hp4 => kq _ _ _ x4 (hp4.mono (by push_cast; omega)) (.str _) ⟨_, rfl, hlet c hc⟩⟩
    · obtain ⟨ls, rfl, hls⟩ := strs_of hg
      obtain rfl := hx.strs
      rw [List.length_map] at hl
      have jl := join_let ls hls
      have x3e : XB p H3 He := xd.tr xe
      refine ⟨"", D, ls, rfl, rfl, .inl (SqL.of hD), (by rw [sum_one hls, z0]; omega), (by show 3 ≤ sizeLine; decide), fun q nq => ?_⟩
      have e9 := Ex.nw (H := He) (o := .tup [.str n, t, .str (Txt.join "" ls)]) nq
      exact k q t _ _ (xx3.tr (x3e.xn.tr (Ex.xb e9).xn)) ((tabs_pot t3 p3 x3e).ext e9) ((hpe.ex e9).mono (by omega)) upd_same (by rw [jl.1]; omega) jl.2

end
end K25
set_option Elab.async false
set_option linter.all false
set_option maxRecDepth 100000
set_option maxHeartbeats 4400000
namespace K25
open PySem PySem.Spec PyProof.Rows L2 HX
open PySem.W (Frag)


open LamX
theorem PartAt.xb {p : Addr} {H H' : Hp} {x : V} {d : PartD} {n m : Int} (h : PartAt p H x d) (hp : PotAt H p n) (hp' : PotAt H' p m) (e : XB p H H') : PartAt p H' x d := by
  obtain ⟨ys, hy⟩ : ∃ ys, H p = some (.lst ys) := let ⟨_, _, _, z, _⟩ := hp; ⟨_, z⟩
  obtain ⟨zs, hz⟩ : ∃ ys, H' p = some (.lst ys) := let ⟨_, _, _, z, _⟩ := hp'; ⟨_, z⟩
  have tp : ∀ b xs, H b = some (.tup xs) → H' b = some (.tup xs) := fun b xs q => e _ _ (ne_of q hy (by intro z; cases z)) q
  cases d with
  | three dn dk => obtain ⟨⟨b, vn, t, vk, h1, h2, h3, h4⟩, w⟩ := h; exact ⟨⟨b, vn, t, vk, h1, tp _ _ h2, h3.xb hy e, h4.xb hy e⟩, w⟩
  | bad =>
    rcases h with h | h | ⟨a, xs, h1, h2⟩ | ⟨b, xs, h1, h2, h3⟩
    · exact .inl h
    · exact .inr (.inl h)
    · by_cases ha : a = p
      · subst ha; exact .inr (.inr (.inl ⟨a, zs, h1, hz⟩))
      · exact .inr (.inr (.inl ⟨a, xs, h1, e _ _ ha h2⟩))
    · exact .inr (.inr (.inr ⟨b, xs, h1, tp _ _ h2, h3⟩))
def PL (p : Addr) (H : Hp) (xs : List V) : Prop := ∀ x ∈ xs, ∃ d, PartAt p H x d
theorem PL.ex {p : Addr} {H H' : Hp} {xs : List V} (h : PL p H xs) (e : Ex H H') : PL p H' xs := fun x hx => let ⟨d, k⟩ := h x hx; ⟨d, k.ex e⟩
theorem PL.xb {p : Addr} {H H' : Hp} {xs : List V} {n m : Int} (h : PL p H xs) (hp : PotAt H p n) (hp' : PotAt H' p m) (e : XB p H H') : PL p H' xs := fun x hx => let ⟨d, k⟩ := h x hx; ⟨d, k.xb hp hp' e⟩
theorem PL.app {p : Addr} {H : Hp} {xs ys : List V} (h : PL p H xs) (k : PL p H ys) : PL p H (xs ++ ys) := fun x hx => (List.mem_append.mp hx).elim (h x) (k x)
theorem PL.one {p : Addr} {H : Hp} {x : V} {d : PartD} (h : PartAt p H x d) : PL p H [x] := fun y hy => by rw [List.mem_singleton.mp hy]; exact ⟨d, h⟩
theorem cut_mem {xs : List V} {lo hi : Option Int} {x : V} (h : x ∈ cutV xs lo hi) : x ∈ xs := by
  unfold cutV at h
  exact List.mem_of_mem_drop (List.mem_of_mem_take h)
theorem cut_len {xs : List V} {lo hi : Option Int} : (cutV xs lo hi).length ≤ xs.length := by
  unfold cutV
  rw [List.length_take, List.length_drop]; omega
theorem PL.works {p a : Addr} {H : Hp} {xs : List V} (h : PL p H xs) (ha : H a = some (.tup xs)) (hl : xs.length ≤ 900) : ∃ o, WorksAt p H (.ref a) o := by
  have ex : ∀ {xs : List V}, PL p H xs → ∃ ps : List PartD, xs.length = ps.length ∧ ∀ (i : Nat) (x : V) (d : PartD), xs[i]? = some x → ps[i]? = some d → PartAt p H x d := by
    intro xs
    induction xs with
    | nil => intro _; exact ⟨[], rfl, fun i x d h => by simp at h⟩
    | cons x xs ih =>
      intro h
      obtain ⟨d, hd⟩ := h x (.head _)
      obtain ⟨ps, h1, h2⟩ := ih fun y hy => h y (.tail _ hy)
      refine ⟨d :: ps, by rw [List.length_cons, List.length_cons, h1], fun i y e a b => ?_⟩
      cases i with
      | zero => cases a; cases b; exact hd
      | succ i => exact h2 i y e (by simpa using a) (by simpa using b)
  obtain ⟨ps, h1, h2⟩ := ex h
  exact ⟨some ps, ⟨a, xs, rfl, ha, h1, h2⟩, by omega⟩
theorem WorksAt.xb {p : Addr} {H H' : Hp} {v : V} {o : Option (List PartD)} {n m : Int} (h : WorksAt p H v o) (hp : PotAt H p n) (hp' : PotAt H' p m) (e : XB p H H') : WorksAt p H' v o := by
  obtain ⟨ys, hy⟩ : ∃ ys, H p = some (.lst ys) := let ⟨_, _, _, z, _⟩ := hp; ⟨_, z⟩
  obtain ⟨zs, hz⟩ : ∃ ys, H' p = some (.lst ys) := let ⟨_, _, _, z, _⟩ := hp'; ⟨_, z⟩
  cases o with
  | some ps => obtain ⟨⟨a, xs, h1, h2, h3, h4⟩, w⟩ := h; exact ⟨⟨a, xs, h1, e _ _ (ne_of h2 hy (by intro z; cases z)) h2, h3, fun i x d q r => (h4 i x d q r).xb hp hp' e⟩, w⟩
  | none =>
    rcases h with h | ⟨a, xs, h1, h2⟩
    · exact .inl h
    · by_cases ha : a = p
      · subst ha; exact .inr ⟨a, zs, h1, hz⟩
      · exact .inr ⟨a, xs, h1, e _ _ ha h2⟩
def Gz (p : Addr) (H0 : Hp) (σ : L2.St) (te : TE) : Prop := ∀ (H : Hp) (Q : VK), Ex H0 H → (∀ v d H', Ex H H' → Dz p H' v d → Wt 900 d → Q v H') → te σ H Q
def Gp (p : Addr) (H0 : Hp) (σ : L2.St) (te : TE) : Prop := ∀ (H : Hp) (Q : VK), Ex H0 H → (∀ v d H', Ex H H' → PartAt p H' v d → Q v H') → te σ H Q
def GpA (p : Addr) (H0 : Hp) (σ : L2.St) (t : TA) (n : Nat) : Prop := ∀ (H : Hp) (Q : List V → Hp → Prop), Ex H0 H → (∀ xs H', Ex H H' → PL p H' xs → xs.length = n → Q xs H') → t σ H Q
def GpL (p : Addr) (H0 : Hp) (σ : L2.St) (te : TE) (n : Nat) : Prop := ∀ (H : Hp) (Q : VK), Ex H0 H → (∀ l xs H', Ex H H' → H' l = some (.lst xs) → l ≠ p → PL p H' xs → xs.length = n → Q (.ref l) H') → te σ H Q
section
variable {p : Addr} {H0 : Hp} {σ : L2.St}
theorem gz_var {i : Nat} {v : V} {d : PyData} (hv : σ[i]? = some (some v)) (hz : Dz p H0 v d) (hw : Wt 900 d) : Gz p H0 σ (tVar i) := fun H Q e k => ⟨v, hv, k v d H (Ex.rf _) (hz.ex e) hw⟩
theorem gz_str {z : Str} (h : z.length ≤ 900) : Gz p H0 σ (tC (.str z)) := fun H Q _ k => k _ (.str z) H (Ex.rf _) (.str z) (by unfold Wt; simp only [PyData.weight]; exact h)
theorem gz_int0 : Gz p H0 σ (tC (.int 0)) := fun H Q _ k => k _ (.int 0) H (Ex.rf _) (.int 0) (by unfold Wt; decide +kernel)
theorem gz_non : Gz p H0 σ (tC .non) := fun H Q _ k => k _ .none H (Ex.rf _) .non (by unfold Wt; decide +kernel)
theorem gz_add {i : Nat} {x y : Str} (hv : σ[i]? = some (some (.str x))) (h : x.length + y.length ≤ 900) : Gz p H0 σ (tOp (fun x y H Q => ∃ i j, x = .str i ∧ y = .str j ∧ i.length + j.length ≤ sizeLine ∧ Q (.str (i ++ j)) H) (tVar i) (tC (.str y))) := fun H Q _ k =>
  ⟨_, hv, x, y, rfl, rfl, Nat.le_trans h (by decide), k _ (.str (x ++ y)) H (Ex.rf _) (.str _) (by unfold Wt; simp only [PyData.weight]; show (x ++ y).length ≤ 900; have : (x ++ y).length = x.length + y.length := Array.size_append; omega)⟩
theorem gz_up {i : Nat} {x : Str} (hv : σ[i]? = some (some (.str x))) (h : x.length ≤ 8) : Gz p H0 σ (tM0 (fun x xs H Q => ∃ a, x = .str a ∧ xs = [] ∧ a.length ≤ 5592405 ∧ Q (.str (Txt.upper a)) H) (tVar i)) := fun H Q _ k =>
  ⟨_, hv, ⟨x, rfl⟩, x, rfl, rfl, by omega, k _ (.str (Txt.upper x)) H (Ex.rf _) (.str _) (by unfold Wt; simp only [PyData.weight]; have := PyProof.Rows.len_upper x; show (Txt.upper x).length ≤ 900; omega)⟩
theorem gz_lstS {i : Nat} {x : Str} (hp : ∃ o, H0 p = some o) (hv : σ[i]? = some (some (.str x))) (h : x.length ≤ 8) : Gz p H0 σ (tCB rLstS (tCons (tVar i) tNil)) := fun H Q e k =>
  ⟨_, hv, x, rfl, Nat.le_trans h (by decide), fun l nl sl => k _ (.list (x.cps.toList.map fun c => .str ⟨#[c]⟩)) _ (Ex.nw nl) (.lst upd_same sl (let ⟨o, ho⟩ := hp; Ne.symm (ne_of_none (e _ _ ho) nl)) (by unfold signsV; rw [List.length_map, List.length_map]) fun j v d hv hd => by
    unfold signsV at hv
    rw [List.getElem?_map] at hv hd
    cases q : x.cps.toList[j]? with
    | none => rw [q] at hv; cases hv
    | some c => rw [q] at hv hd; cases hv; cases hd; exact .str _) (by
    unfold Wt
    simp only [PyData.weight]
    have : ∀ cs : List Nat, PyData.weightAll (cs.map fun c => PyData.str ⟨#[c]⟩) ≤ cs.length * 2 := by
      intro cs
      induction cs with
      | nil => exact Nat.zero_le _
      | cons c cs ih =>
        rw [List.map_cons]
        simp only [PyData.weightAll, PyData.weight, List.length_cons]
        have : (#[c] : Array Nat).size = 1 := rfl
        have h2 : (⟨#[c]⟩ : Str).length = 1 := rfl
        omega
    have q := this x.cps.toList
    rw [Array.length_toList] at q
    have : x.cps.size ≤ 8 := h
    omega)⟩
theorem gp_three {t1 t3 : TE} {i : Nat} {t : V} (h1 : Gz p H0 σ t1) (ht : σ[i]? = some (some t)) (h3 : Gz p H0 σ t3) : Gp p H0 σ (tTup (tCons t1 (tCons (tVar i) (tCons t3 tNil)))) := fun H Q e k =>
  h1 H _ e fun v1 d1 H1 e1 z1 w1 => ⟨t, ht, h3 H1 _ (e.tr e1) fun v3 d3 H3 e3 z3 w3 => ⟨(by show 3 ≤ sizeLine; decide), fun q nq => k _ (.three d1 d3) _ (e1.tr (e3.tr (Ex.nw nq))) ⟨⟨q, v1, t, v3, rfl, upd_same, (z1.ex e3).ex (Ex.nw nq), z3.ex (Ex.nw nq)⟩, w1, w3⟩⟩⟩
theorem gp_two {i j : Nat} {s t : V} (hs : σ[i]? = some (some s)) (ht : σ[j]? = some (some t)) : Gp p H0 σ (tTup (tCons (tVar i) (tCons (tVar j) tNil))) := fun H Q e k =>
  ⟨s, hs, t, ht, (by show 2 ≤ sizeLine; decide), fun q nq => k _ .bad _ (Ex.nw nq) (.inr (.inr (.inr ⟨q, _, rfl, upd_same, by show 2 ≠ 3; decide⟩)))⟩
theorem gp_four {i j l : Nat} {s t u : V} {z : Str} (hs : σ[i]? = some (some s)) (ht : σ[j]? = some (some t)) (hu : σ[l]? = some (some u)) : Gp p H0 σ (tTup (tCons (tVar i) (tCons (tVar j) (tCons (tVar l) (tCons (tC (.str z)) tNil))))) := fun H Q e k =>
  ⟨s, hs, t, ht, u, hu, (by show 4 ≤ sizeLine; decide), fun q nq => k _ .bad _ (Ex.nw nq) (.inr (.inr (.inr ⟨q, _, rfl, upd_same, by show 4 ≠ 3; decide⟩)))⟩
theorem gp_lst {i j l : Nat} {s t u : V} (hs : σ[i]? = some (some s)) (ht : σ[j]? = some (some t)) (hu : σ[l]? = some (some u)) : Gp p H0 σ (tLstN (tCons (tVar i) (tCons (tVar j) (tCons (tVar l) tNil)))) := fun H Q e k =>
  ⟨s, hs, t, ht, u, hu, (by show 3 ≤ sizeLine; decide), fun q nq _ => k _ .bad _ (Ex.nw nq) (.inr (.inr (.inl ⟨q, _, rfl, upd_same⟩)))⟩
theorem gp_non : Gp p H0 σ (tC .non) := fun H Q _ k => k _ .bad H (Ex.rf _) (.inl rfl)
theorem gp_str {i : Nat} {z : Str} (hs : σ[i]? = some (some (.str z))) : Gp p H0 σ (tVar i) := fun H Q _ k => ⟨_, hs, k _ .bad H (Ex.rf _) (.inr (.inl ⟨z, rfl⟩))⟩
theorem gpa_nil : GpA p H0 σ tNil 0 := fun H Q _ k => k [] H (Ex.rf _) (fun x h => by cases h) rfl
theorem gpa_cons {te : TE} {t : TA} {n : Nat} (h : Gp p H0 σ te) (k : GpA p H0 σ t n) : GpA p H0 σ (tCons te t) (n + 1) := fun H Q e q =>
  h H _ e fun v d H1 e1 z => k H1 _ (e.tr e1) fun xs H2 e2 zs hl => q (v :: xs) H2 (e1.tr e2) ((PL.one (z.ex e2)).app zs) (by rw [List.length_cons, hl])
theorem gpl_lst {t : TA} {n : Nat} (hp : ∃ o, H0 p = some o) (h : GpA p H0 σ t n) (hn : n < 1000) : GpL p H0 σ (tLstN t) n := fun H Q e k =>
  h H _ e fun xs H1 e1 zs hl => ⟨by rw [hl]; exact lt_line hn, fun q nq sq => k q xs _ (e1.tr (Ex.nw nq)) upd_same (let ⟨o, ho⟩ := hp; Ne.symm (ne_of_none ((e.tr e1) _ _ ho) nq)) (zs.ex (Ex.nw nq)) hl⟩
theorem gpl_var {i : Nat} {l : Addr} {xs : List V} (hv : σ[i]? = some (some (.ref l))) (hl : H0 l = some (.lst xs)) (n : l ≠ p) (z : PL p H0 xs) : GpL p H0 σ (tVar i) xs.length := fun H Q e k => ⟨_, hv, k l xs H (Ex.rf _) (e _ _ hl) n (z.ex e) rfl⟩
theorem gpl_cat {te tf : TE} {n m : Nat} (hp : ∃ o, H0 p = some o) (h : GpL p H0 σ te n) (k : GpL p H0 σ tf m) (hn : n + m < 1000) : GpL p H0 σ (tOp rCat te tf) (n + m) := fun H Q e q =>
  h H _ e fun l xs H1 e1 hl nl zs ll => k H1 _ (e.tr e1) fun l2 ys H2 e2 hl2 nl2 zs2 ll2 => ⟨l, l2, xs, ys, rfl, rfl, e2 _ _ hl, hl2, by rw [ll, ll2]; exact lt_line hn, fun c nc => q c _ _ (e1.tr (e2.tr (Ex.nw nc))) upd_same (let ⟨o, ho⟩ := hp; Ne.symm (ne_of_none ((e.tr (e1.tr e2)) _ _ ho) nc)) (((zs.ex e2).app zs2).ex (Ex.nw nc)) (by rw [List.length_append, ll, ll2])⟩
theorem seq_gp {te : TE} {i : Nat} {t : TS} {D : Ends} {n : Nat} (h : GpL p H0 σ te n) (k : ∀ l xs H', Ex H0 H' → H' l = some (.lst xs) → l ≠ p → PL p H' xs → xs.length = n → t D (σ.set i (some (.ref l))) H') : tSeq (tAsg te (gName i)) t D σ H0 := h H0 _ (Ex.rf _) k
end
/-- a slice of a tuple of parts -/
theorem sl_parts {K : Frag} {p a : Addr} {H : Hp} {xs : List V} {lo hi : Option Int} {Q : VK} (ha : H a = some (.tup xs)) (z : PL p H xs) (k : ∀ b ys H', Ex H H' → H' b = some (.tup ys) → PL p H' ys → ys.length ≤ xs.length → Q (.ref b) H') : rSlA K (.ref a) lo hi H Q :=
  ⟨a, xs, rfl, SqT.of ha, fun _ => k a xs H (Ex.rf _) ha z (Nat.le_refl _), fun _ b nb => k b _ _ (Ex.nw nb) upd_same (PL.ex (fun x hx => z x (cut_mem hx)) (Ex.nw nb)) cut_len⟩
/-- two tuples of parts, one behind the other -/
theorem cat_parts {K : Frag} {p a b : Addr} {H : Hp} {xs ys : List V} {Q : VK} (ha : H a = some (.tup xs)) (hb : H b = some (.tup ys)) (zx : PL p H xs) (zy : PL p H ys) (hl : xs.length + ys.length < 1000) (k : ∀ c zs H', Ex H H' → H' c = some (.tup zs) → PL p H' zs → zs.length ≤ xs.length + ys.length → Q (.ref c) H') : rCatA K (.ref a) (.ref b) H Q :=
  ⟨a, b, xs, ys, rfl, rfl, SqT.of ha, SqT.of hb, lt_line hl, fun _ => k b ys H (Ex.rf _) hb zy (by omega), fun _ _ => k a xs H (Ex.rf _) ha zx (by omega), fun _ _ c nc => k c _ _ (Ex.nw nc) upd_same (PL.ex (zx.app zy) (Ex.nw nc)) (by rw [List.length_append]; exact Nat.le_refl _)⟩
/-- works of triples, as they were drawn -/
def WsT (H : Hp) (a : Addr) (xs : List V) : Prop := H a = some (.tup xs) ∧ 0 < xs.length ∧ xs.length ≤ 3 ∧ ∀ x ∈ xs, ∃ b n t z, x = .ref b ∧ H b = some (.tup [.str n, t, .str z]) ∧ n.length ≤ 8 ∧ z.length ≤ 3
theorem WsT.pl {p a : Addr} {H : Hp} {xs : List V} (h : WsT H a xs) : PL p H xs := fun x hx => by
  obtain ⟨b, n, t, z, rfl, hb, ln, lz⟩ := h.2.2.2 x hx
  exact ⟨.three (.str n) (.str z), ⟨b, _, t, _, rfl, hb, .str _, .str _⟩, (by unfold Wt; simp only [PyData.weight]; exact Nat.le_trans ln (by decide)), by unfold Wt; simp only [PyData.weight]; exact Nat.le_trans lz (by decide)⟩
def spBent : Sp := fun vs H Q _ => ∃ (p a : Addr) (xs : List V) (N : Int), vs = [.ref p, .ref a] ∧ PotAt H p N ∧ N ≤ 90000 ∧ WsT H a xs ∧ ∀ (v : V) (o : Option (List PartD)) (H' : Hp), XB p H H' → PotAt H' p (N + 3) → WorksAt p H' v o → Q v H'

section
variable {P : Program} {w : World} {K : Frag} {mg : Str → Option Value} {base : Heap} {A : Ad}

theorem ok_bent_works (T : Txt K mg A) : FnOk P w K mg base CX0 4 A.f_bent_works A.d_bent_works ["_law_pot_here", "_law_works"] (spBent) := by
  refine T.F_bent_works.ok sc_bent_works (fun vs H Q E h => ?_) (fun cdv A0 outer s H vs Q E hr h => ?_)
  · obtain ⟨_, _, _, _, rfl, _⟩ := h
    rfl
  · have hu := hu_of hr
    obtain ⟨p, a, xs, N, rfl, hp, hN, hW, k⟩ := h
    refine ⟨_, (pss_cons (ps_set (i := 2) sc_bent_works.nd rfl (Or.inl rfl) (pe_call (ok_take T) (hr.mono (by decide)) (by rfl) T.m_take T.F_take.kp T.b_take .nil pass0 (pa_cons (pv 0) (pa_cons (pe_callB call_len_seq (by rfl) T.g_len (by decide +kernel) (pa_cons (pv 1) pa_nil)) pa_nil))))
      (pss_cons (ps_asg (pe_ix ix_tup (pv 1) (pv 2) (fun _ _ => rfl)) (pg_tup rfl (pgs_cons (pg_name (i := 3) sc_bent_works.nd rfl (Or.inl rfl)) (pgs_cons (pg_name (i := 4) sc_bent_works.nd rfl (Or.inl rfl)) (pgs_cons (pg_name (i := 5) sc_bent_works.nd rfl (Or.inl rfl)) pgs_nil)))))
      (pss_cons (ps_set (i := 6) sc_bent_works.nd rfl (Or.inl rfl) (pe_lstN (pa_cons (pe_tup (pa_cons (pv 3) (pa_cons (pv 4) pa_nil))) (pa_cons (pe_lstN (pa_cons (pv 3) (pa_cons (pv 4) (pa_cons (pv 5) pa_nil)))) (pa_cons (pe_tup (pa_cons (pv 3) (pa_cons (pv 4) (pa_cons (pv 5) (pa_cons pe_str pa_nil))))) (pa_cons (pe_tup (pa_cons (pe_upper (pv 3)) (pa_cons (pv 4) (pa_cons (pv 5) pa_nil)))) pa_nil))))))
      (pss_cons (ps_set (i := 6) sc_bent_works.nd rfl (Or.inl rfl) (pe_op op_cat (pv 6) (pe_lstN (pa_cons (pe_tup (pa_cons (pv 3) (pa_cons (pv 4) (pa_cons (pe_op op_add_str (pv 5) pe_str) pa_nil)))) (pa_cons (pe_tup (pa_cons (pv 3) (pa_cons (pv 4) (pa_cons (pe_op op_add_str (pv 5) pe_str) pa_nil)))) (pa_cons (pe_tup (pa_cons (pv 3) (pa_cons (pv 4) (pa_cons (pe_op op_add_str (pv 5) pe_str) pa_nil)))) (pa_cons pe_non (pa_cons (pv 3) pa_nil))))))))
      (pss_cons (ps_set (i := 6) sc_bent_works.nd rfl (Or.inl rfl) (pe_op op_cat (pv 6) (pe_lstN (pa_cons (pe_tup (pa_cons (pv 3) (pa_cons (pv 4) (pa_cons (pe_callTy (call_lstS rfl) (by rfl) T.g_list (by decide +kernel) (pa_cons (pv 5) pa_nil)) pa_nil)))) (pa_cons (pe_tup (pa_cons (pv 3) (pa_cons (pv 4) (pa_cons pe_non pa_nil)))) (pa_cons (pe_tup (pa_cons (pe_op op_add_str (pv 3) pe_str) (pa_cons (pv 4) (pa_cons (pv 5) pa_nil)))) pa_nil))))))
      (pss_cons (ps_set (i := 6) sc_bent_works.nd rfl (Or.inl rfl) (pe_op op_cat (pv 6) (pe_lstN (pa_cons (pe_tup (pa_cons pe_str (pa_cons (pv 4) (pa_cons (pv 5) pa_nil)))) (pa_cons (pe_tup (pa_cons pe_int (pa_cons (pv 4) (pa_cons (pv 5) pa_nil)))) pa_nil)))))
      (pss_cons (ps_set (i := 7) sc_bent_works.nd rfl (Or.inl rfl) (pe_op op_catA (pe_op op_catA (pe_slice sl_tupA (pv 1) po_none (po_some (pv 2))) (pe_tup (pa_cons (pe_call (ok_of T) (hr.mono (by decide)) (by rfl) T.m_of T.F_of.kp T.b_of .nil pass0 (pa_cons (pv 0) (pa_cons (pv 6) pa_nil))) pa_nil))) (pe_slice sl_tupA (pv 1) (po_some (pe_op op_add (pv 2) pe_int)) po_none)))
      (pss_one (ps_ret (pe_call (ok_of T) (hr.mono (by decide)) (by rfl) T.m_of T.F_of.kp T.b_of .nil pass0 (pa_cons (pv 0) (pa_cons (pe_lstN (pa_cons (pv 7) (pa_cons (pv 7) (pa_cons (pv 7) (pa_cons (pv 7) (pa_cons (pe_rev (pv 1) (pe_un un_neg pe_int)) (pa_cons (pe_op op_catA (pv 1) (pe_slice sl_tupA (pv 1) po_none (po_some pe_int))) (pa_cons (pe_callTy call_listN (by rfl) T.g_list (by decide +kernel) (pa_cons (pv 1) pa_nil)) (pa_cons (pe_tup pa_nil) (pa_cons pe_non pa_nil)))))))))) pa_nil)))))))))))), ?_⟩
    have ha := hW.1
    have h0 := hW.2.1
    have h3 := hW.2.2.1
    refine ⟨_, rfl, _, rfl, a, _, rfl, .inr (SqT.of ha), p, _, N, rfl, hp, by omega, by omega, by omega, fun d H1 d0 d1 x1 p1 => ?_⟩
    obtain ⟨ys0, hy0⟩ : ∃ ys, H p = some (.lst ys) := let ⟨_, _, _, z, _⟩ := hp; ⟨_, z⟩
    have tp1 : ∀ b zs, H b = some (.tup zs) → H1 b = some (.tup zs) := fun b zs q => x1 _ _ (ne_of q hy0 (by intro z; cases z)) q
    have hW1 : WsT H1 a xs := ⟨tp1 _ _ ha, h0, h3, fun x hx => let ⟨b, n, t, z, r1, r2, r3, r4⟩ := hW.2.2.2 x hx; ⟨b, n, t, z, r1, tp1 _ _ r2, r3, r4⟩⟩
    obtain ⟨jj, rfl⟩ := Int.eq_ofNat_of_zero_le d0
    have hj : jj < xs.length := by omega
    have hgt : xs[jj]? = some xs[jj] := List.getElem?_eq_getElem hj
    obtain ⟨b, n, t, z, eb, hb, ln, lz⟩ := hW1.2.2.2 xs[jj] (List.getElem_mem hj)
    refine ⟨_, rfl, _, rfl, a, xs, _, _, rfl, rfl, SqT.of hW1.1, atI_nat hgt, b, _, eb, SqT.of hb, rfl, _, _, rfl, _, _, rfl, _, _, rfl, rfl, ?_⟩
    dsimp only
    have wn : Wt 900 (.str n) := by unfold Wt; simp only [PyData.weight]; exact Nat.le_trans ln (by decide)
    have wz : Wt 900 (.str z) := by unfold Wt; simp only [PyData.weight]; exact Nat.le_trans lz (by decide)
    have o1 : ∃ o, H1 p = some o := let ⟨_, _, _, z, _⟩ := p1; ⟨_, z⟩
    refine seq_gp (p := p) (gpl_lst o1 (gpa_cons (gp_two rfl rfl) (gpa_cons (gp_lst rfl rfl rfl) (gpa_cons (gp_four rfl rfl rfl) (gpa_cons (gp_three (gz_up rfl ln) rfl (gz_var rfl (.str z) wz)) gpa_nil)))) (by decide)) fun l1 ys1 H2 e2 hl1 nl1 z1 len1 => ?_
    have o2 : ∃ o, H2 p = some o := let ⟨_, z⟩ := o1; ⟨_, e2 _ _ z⟩
    refine seq_gp (p := p) (gpl_cat o2 (gpl_var rfl hl1 nl1 z1) (gpl_lst o2 (gpa_cons (gp_three (gz_var rfl (.str n) wn) rfl (gz_add rfl (by have : ("n" : Str).length = 1 := (by decide +kernel); omega))) (gpa_cons (gp_three (gz_var rfl (.str n) wn) rfl (gz_add rfl (by have : ("nnn" : Str).length = 3 := (by decide +kernel); omega))) (gpa_cons (gp_three (gz_var rfl (.str n) wn) rfl (gz_add rfl (by have : ("r" : Str).length = 1 := (by decide +kernel); omega))) (gpa_cons gp_non (gpa_cons (gp_str rfl) gpa_nil))))) (by decide)) (by omega)) fun l2 ys2 H3 e3 hl2 nl2 z2 len2 => ?_
    have o3 : ∃ o, H3 p = some o := let ⟨_, z⟩ := o2; ⟨_, e3 _ _ z⟩
    refine seq_gp (p := p) (gpl_cat o3 (gpl_var rfl hl2 nl2 z2) (gpl_lst o3 (gpa_cons (gp_three (gz_var rfl (.str n) wn) rfl (gz_lstS (by assumption) rfl (by omega))) (gpa_cons (gp_three (gz_var rfl (.str n) wn) rfl gz_non) (gpa_cons (gp_three (gz_add rfl (by have : ("zzzzzzzz" : Str).length = 8 := (by decide +kernel); omega)) rfl (gz_var rfl (.str z) wz)) gpa_nil))) (by decide)) (by omega)) fun l3 ys3 H4 e4 hl3 nl3 z3 len3 => ?_
    have o4 : ∃ o, H4 p = some o := let ⟨_, z⟩ := o3; ⟨_, e4 _ _ z⟩
    refine seq_gp (p := p) (gpl_cat o4 (gpl_var rfl hl3 nl3 z3) (gpl_lst o4 (gpa_cons (gp_three (gz_str (by decide +kernel)) rfl (gz_var rfl (.str z) wz)) (gpa_cons (gp_three gz_int0 rfl (gz_var rfl (.str z) wz)) gpa_nil)) (by decide)) (by omega)) fun l4 ys4 H5 e5 hl4 nl4 z4 len4 => ?_
    have e15 := e2.tr (e3.tr (e4.tr e5))
    have p5 := p1.ex e15
    have zW := hW1.pl (p := p)
    have hWa := hW1.1
    refine ⟨_, rfl, _, rfl, _, rfl, sl_parts (K := K) (p := p) (e15 _ _ hWa) (zW.ex e15) fun b1 zs1 H6 e6 hb1 zz1 ll1 => ?_⟩
    refine ⟨_, rfl, _, rfl, p, l4, ys4, _, rfl, p5.ex e6, SqL.of (e6 _ _ hl4), nl4, by omega, by omega, by omega, fun i v H7 hi x7 p7 => ⟨(by show 1 ≤ sizeLine; decide), fun t1 nt1 => ?_⟩⟩
    have p6 := p5.ex e6
    obtain ⟨ys6, hy6⟩ : ∃ ys, H6 p = some (.lst ys) := let ⟨_, _, _, z, _⟩ := p6; ⟨_, z⟩
    have tp7 : ∀ b zs, H6 b = some (.tup zs) → H7 b = some (.tup zs) := fun b zs q => x7 _ _ (ne_of q hy6 (by intro z; cases z)) q
    obtain ⟨dv, hdv⟩ := z4 v (List.mem_of_getElem? hi)
    have hdv7 := (hdv.ex e6).xb p6 p7 x7
    have zz7 := zz1.xb p6 p7 x7
    have hb7 := tp7 _ _ hb1
    have hW7 := tp7 _ _ (e6 _ _ (e15 _ _ hWa))
    have zW7 := ((zW.ex e15).ex e6).xb p6 p7 x7
    have q8 := Ex.nw (H := H7) (o := .tup [v]) nt1
    refine cat_parts (K := K) (p := p) (q8 _ _ hb7) upd_same (zz7.ex q8) (PL.one (hdv7.ex q8)) (by simp only [List.length_cons, List.length_nil]; omega) fun c1 zs2 H8 e8 hc1 zz2 ll2 => ?_
    have e78 := q8.tr e8
    simp only [List.length_cons, List.length_nil] at ll2
    refine ⟨_, rfl, _, rfl, _, _, rfl, rfl, _, rfl, ?_⟩
    dsimp only [tNoPart]
    refine sl_parts (K := K) (p := p) (e78 _ _ hW7) (zW7.ex e78) fun b2 zs3 H9 e9 hb2 zz3 ll3 => ?_
    refine cat_parts (K := K) (p := p) (e9 _ _ hc1) hb2 (zz2.ex e9) zz3 (by omega) fun c2 zs4 H10 e10 hc2 zz4 ll4 => ?_
    have e710 := e78.tr (e9.tr e10)
    have hWx := e710 _ _ hW7
    have zWx := zW7.ex e710
    refine ⟨_, rfl, _, rfl, _, rfl, _, rfl, _, rfl, _, rfl, _, rfl, rfl, a, xs, rfl, SqT.of hWx, fun c3 nc3 => ?_⟩
    have f1 := Ex.nw (H := H10) (o := .tup xs.reverse) nc3
    refine ⟨_, rfl, _, rfl, _, rfl, sl_parts (K := K) (p := p) (f1 _ _ hWx) (zWx.ex f1) fun b4 zs5 H11 e11 hb4 zz5 ll5 => ?_⟩
    have f11 := f1.tr e11
    refine cat_parts (K := K) (p := p) (f11 _ _ hWx) hb4 (zWx.ex f11) zz5 (by omega) fun c4 zs6 H12 e12 hc4 zz6 ll6 => ?_
    have f12 := f11.tr e12
    refine ⟨_, rfl, a, xs, rfl, .inr (SqT.of (f12 _ _ hWx)), fun l5 nl5 sl5 => ⟨(by show 0 ≤ sizeLine; decide), fun t5 nt5 => ⟨(by show 9 ≤ sizeLine; decide), fun l9 nl9 sl9 => ?_⟩⟩⟩
    have g1 := Ex.nw (H := H12) (o := .lst xs) nl5
    have g2 := Ex.nw (o := .tup []) nt5
    have g3 := Ex.nw (o := .lst [.ref c2, .ref c2, .ref c2, .ref c2, .ref c3, .ref c4, .ref l5, .ref t5, .non]) nl9
    have gA := g1.tr (g2.tr g3)
    have fA := f12.tr gA
    have pA := (p7.ex e710).ex fA
    refine ⟨p, l9, _, _, rfl, pA, SqL.of upd_same, pot_none (((p7.ex e710).ex f12).ex (g1.tr g2)) nl9, (by show 0 < 9; decide), (by show 9 < 1000; decide), by omega, fun i2 v2 HZ hi2 xZ pZ => ?_⟩
    have XX : XB p H HZ := x1.tr ((Ex.xb e15).tr ((Ex.xb e6).tr (x7.tr ((Ex.xb e710).tr ((Ex.xb fA).tr xZ)))))
    obtain ⟨o, ho⟩ : ∃ o, WorksAt p _ v2 o := by
      match i2, hi2 with
      | 0, h => cases h; exact (zz4.ex fA).works (fA _ _ hc2) (by omega)
      | 1, h => cases h; exact (zz4.ex fA).works (fA _ _ hc2) (by omega)
      | 2, h => cases h; exact (zz4.ex fA).works (fA _ _ hc2) (by omega)
      | 3, h => cases h; exact (zz4.ex fA).works (fA _ _ hc2) (by omega)
      | 4, h => cases h; exact PL.works (PL.ex (fun x hx => zWx x (List.mem_reverse.mp hx)) fA) ((e11.tr (e12.tr gA)) _ _ upd_same) (by rw [List.length_reverse]; omega)
      | 5, h => cases h; exact (zz6.ex gA).works (gA _ _ hc4) (by omega)
      | 6, h => cases h; exact ⟨none, .inr ⟨l5, xs, rfl, (g2.tr g3) _ _ upd_same⟩⟩
      | 7, h => cases h; exact PL.works (xs := []) (fun x hx => by cases hx) (g3 _ _ upd_same) (by decide)
      | 8, h => cases h; exact ⟨none, .inl rfl⟩
      | n + 9, h => simp at h
    exact k v2 o HZ XX (pZ.mono (by omega)) (ho.xb pA pZ xZ)

end
end K25
set_option Elab.async false
set_option linter.all false
set_option maxRecDepth 100000
set_option maxHeartbeats 4400000
namespace K25
open PySem PySem.Spec PyProof.Rows L2 HX
open PySem.W (Frag)


open LamX
theorem op_neDK {X : Cx} {K : Frag} (hK : X.K = K) (hu : X.A.units + 64 < cLine) : OpR X (compareOp .NotEq) (rNeD K) := hK ▸ op_neD hu
theorem rows_eqv {L : Lore} (ok : L.Ok) : PyData.eqv L.rD (.tuple []) = L.rn.isEmpty := by
  have h := eqv_plain L.rD (.tuple []) (plain_r ok) rfl
  cases hr : L.rn with
  | nil =>
    have e : L.rD = .tuple [] := by unfold Lore.rD; rw [hr]; rfl
    rw [h.mpr e]; rfl
  | cons r rs =>
    have e : L.rD ≠ .tuple [] := by unfold Lore.rD; rw [hr]; intro q; cases q
    exact Bool.eq_false_iff.mpr fun q => e (h.mp q)
theorem xn_tup {H H' : Hp} {p b : Addr} {xs : List V} {n : Int} (h : H b = some (.tup xs)) (hp : PotAt H p n) (e : XN p H H') : H' b = some (.tup xs) := by
  obtain ⟨ys, hy⟩ : ∃ ys, H p = some (.lst ys) := let ⟨_, _, _, z, _⟩ := hp; ⟨_, z⟩
  exact e _ _ (ne_of h hy (by intro z; cases z)) (fun _ z => by cases z) h
def TI (H : Hp) (xs : List V) : Prop := ∀ x ∈ xs, ∃ b n t z, x = .ref b ∧ H b = some (.tup [.str n, t, .str z]) ∧ n.length ≤ 8 ∧ z.length ≤ 3
theorem TI.te {H H' : Hp} {xs : List V} (h : TI H xs) (e : TupK H H') : TI H' xs := fun x hx => let ⟨b, n, t, z, h1, h2, h3⟩ := h x hx; ⟨b, n, t, z, h1, e _ _ h2, h3⟩
theorem xn_te {H H' : Hp} {p : Addr} {n : Int} (hp : PotAt H p n) (e : XN p H H') : TupK H H' := fun _ _ h => xn_tup h hp e
theorem xn_mu {p D : Addr} {H H' : Hp} {o : HO} (e : XN p H H') (h : H D = none) : XN p H (upd H' D o) := fun a u n t ha => by
  rw [upd_ne (ne_of_none ha h)]
  exact e a u n t ha
theorem TI.snoc {H : Hp} {xs : List V} {b : Addr} {n z : Str} {t : V} (h : TI H xs) (hb : H b = some (.tup [.str n, t, .str z])) (l8 : n.length ≤ 8) (l3 : z.length ≤ 3) : TI H (xs ++ [.ref b]) := fun x hx => by
  rcases List.mem_append.mp hx with q | q
  · exact h x q
  · rw [List.mem_singleton.mp q]; exact ⟨b, n, t, z, rfl, hb, l8, l3⟩
def pqB (w k : Nat) (d : PyData) : Bool := d.showable && (decide (d.depth ≤ k) && (d.leavesShort 24 && decide (d.weight ≤ w)))
theorem pq_by {w k : Nat} {d : PyData} (h : pqB w k d = true) : Pq w k d := by
  unfold pqB at h
  simp only [Bool.and_eq_true, decide_eq_true_eq] at h
  exact ⟨h.1, h.2.1, h.2.2.1, h.2.2.2⟩
abbrev RM : List PyData := [.int 1, .int 2, .int 0, .int 3, .bool true, .none, .str "1", .tuple [.int 1]]
theorem rm_ok : (RM.all (pqB 20 1)) = true := by decide +kernel
theorem q_eqQ2 {Q : VK} {z y : Str} {H : Hp} (e : z = y) (h : Q (.bl true) H) : Q (.bl (decide (V.str z = V.str y))) H := by
  rw [decide_eq_true (by rw [e])]; exact h
def spRight (A : Ad) : Sp := fun vs H Q _ => ∃ (p : Addr) (N : Int), vs = [.ref p] ∧ PotAt H p N ∧ N ≤ 60000 ∧ Tabs (Tb A) H ∧ ∀ H', XN p H H' → Tabs (Tb A) H' → PotAt H' p (N + 100) → Q (.bl true) H'

section
variable {P : Program} {w : World} {K : Frag} {mg : Str → Option Value} {base : Heap} {A : Ad}

theorem ok_right (T : Txt K mg A) (TB : TabB base mg A.c_work_triple A.P_work_triple) : FnG P w K mg base CX0 9 A.f_right A.d_right ["_law_pot_here"] (spRight A) := by
  refine okG0 T.F_right sc_right (fun vs H Q E h => ?_) (fun cdv A0 outer s H vs Q E hgd0 hr h => ?_)
  · obtain ⟨_, _, rfl, _⟩ := h
    rfl
  · have hu := hu_of hr
    have hgd : (A0.deeper (envOfC "_law_right" (defScope s_right) s.heap.objs.size A.f_right cdv)).guards = some [] := hgd0
    obtain ⟨p, N, rfl, hp, hN, hT, k⟩ := h
    refine ⟨_, (pss_cons (ps_set (i := 1) sc_right.nd rfl (Or.inr rfl) (pe_call (ok_lore T) (hr.mono (by decide)) (by rfl) T.m_lore T.F_lore.kp T.b_lore .nil pass0 (pa_cons (pv 0) (pa_cons (pe_lstN (pa_cons pe_int (pa_cons pe_int (pa_cons pe_int pa_nil)))) (pa_cons (pe_tup (pa_cons pe_int (pa_cons pe_int pa_nil))) pa_nil)))))
      (pss_cons (ps_set (i := 2) sc_right.nd rfl (Or.inl rfl) (pe_call (ok_of T) (hr.mono (by decide)) (by rfl) T.m_of T.F_of.kp T.b_of .nil pass0 (pa_cons (pv 0) (pa_cons (pe_lstN (pa_cons (pe_tup (pa_cons pe_str pa_nil)) (pa_cons (pe_tup (pa_cons pe_str (pa_cons pe_str pa_nil))) (pa_cons (pe_tup (pa_cons pe_str (pa_cons pe_str (pa_cons pe_str pa_nil)))) (pa_cons (pe_tup (pa_cons pe_str (pa_cons pe_str pa_nil))) pa_nil))))) pa_nil))))
      (pss_cons (ps_set (i := 3) sc_right.nd rfl (Or.inl rfl) (pe_callTy call_tuple_of (by rfl) T.g_tuple (by decide +kernel) (pa_cons (pe_lc (own := [("_law_name", 7)]) (g := (gName 7)) (tt := tYes) rfl sc_right.nd (pi_tup (pv 2)) (blkOk_by (N := N_right) (sc := defScope s_right) (by decide +kernel)) (fun _ _ _ _ _ => pg_name (i := 7) sc_right.nd rfl (Or.inl rfl)) (fun _ _ _ _ _ => pts_nil) (fun _ _ _ _ _ => (pe_call (ok_work_triple T TB) (hr.mono (by decide)) (by rfl) T.m_work_triple T.F_work_triple.kp T.b_work_triple .nil pass0 (pa_cons (pv 0) (pa_cons (pv 7) (pa_cons (pe_cmpR (op_neDK (K := K) rfl (by exact hr.units)) (pe_ix (ix_tupK (K := K) rfl) (pv 1) pe_int (fun _ _ => rfl)) (pe_tup pa_nil) (nomark _)) pa_nil)))))) pa_nil)))
      (pss_cons (ps_if (pt_cmpR op_eq (pe_call (ok_take T) (hr.mono (by decide)) (by rfl) T.m_take T.F_take.kp T.b_take .nil pass0 (pa_cons (pv 0) (pa_cons pe_int pa_nil))) pe_int (nomark _)) (pss_one (ps_set (i := 3) sc_right.nd rfl (Or.inl rfl) (pe_call (ok_bent_works T) (hr.mono (by decide)) (by rfl) T.m_bent_works T.F_bent_works.kp T.b_bent_works .nil pass0 (pa_cons (pv 0) (pa_cons (pv 3) pa_nil))))) pss_nil)
      (pss_cons (ps_par (i := 4) (j := 5) (by rfl) sc_right.nd rfl rfl (by decide) rfl rfl (pa_cons (pe_call (ok_of T) (hr.mono (by decide)) (by rfl) T.m_of T.F_of.kp T.b_of .nil pass0 (pa_cons (pv 0) (pa_cons (pe_lstN (pa_cons pe_int (pa_cons pe_int (pa_cons pe_int (pa_cons pe_int (pa_cons pe_int (pa_cons pe_int (pa_cons pe_bl (pa_cons pe_non (pa_cons pe_str (pa_cons (pe_tup (pa_cons pe_int pa_nil)) pa_nil))))))))))) pa_nil))) (pa_cons (pe_call (ok_world T) (hr.mono (by decide)) (by rfl) T.m_world T.F_world.kp T.b_world .nil pass0 (pa_cons (pv 1) pa_nil)) pa_nil)) (by rfl))
      (pss_cons (ps_set (i := 6) sc_right.nd rfl (Or.inl rfl) (pe_call (ok_told T) (hr.mono (by decide)) (by rfl) T.m_told T.F_told.kp T.b_told .nil pass0 (pa_cons (pv 5) (pa_cons (pv 3) (pa_cons (pv 4) pa_nil)))))
      (pss_cons (ps_if (pt_not (pt_val (pe_call (ok_law_are_works T) (hr.mono (by decide)) (by rfl) T.m_law_are_works T.F_law_are_works.kp T.b_law_are_works .nil pass0 (pa_cons (pv 3) (pa_cons (pe_cmpR (op_neD (by exact hr.units)) (pe_ix ix_tup (pv 1) pe_int (fun _ _ => rfl)) (pe_tup pa_nil) (nomark _)) pa_nil))))) (pss_one (ps_ret (pe_and (pe_cmpR op_eq (pe_ix ix_tup (pv 6) pe_int (fun _ _ => rfl)) pe_str (nomark _)) (pe_one (pe_cmpR (op_eqS (by exact hr.units)) (pe_ix ix_tup (pv 6) pe_int (fun _ _ => rfl)) (pv 3) (nomark _)))))) pss_nil)
      (pss_cons (ps_if (pt_not (pt_val (pe_call (ok_is_from T) (hr.mono (by decide)) (by rfl) T.m_is_from T.F_is_from.kp T.b_is_from .nil pass0 (pa_cons (pv 4) (pa_cons pe_int (pa_cons pe_int pa_nil)))))) (pss_one (ps_ret (pe_and (pe_cmpR op_eq (pe_ix ix_tup (pv 6) pe_int (fun _ _ => rfl)) pe_str (nomark _)) (pe_one (pe_cmpR op_eq (pe_callB (call_reprZ (by exact hgd) (by exact hr.units)) (by rfl) T.g_repr (by decide +kernel) (pa_cons (pe_ix ix_tup (pv 6) pe_int (fun _ _ => rfl)) pa_nil)) (pe_callB (call_reprZ (by exact hgd) (by exact hr.units)) (by rfl) T.g_repr (by decide +kernel) (pa_cons (pv 4) pa_nil)) (nomark _)))))) pss_nil)
      (pss_cons (ps_if (PW.pt (pw_or (pt_cmpR op_ne (pe_ix ix_tup (pv 6) pe_int (fun _ _ => rfl)) pe_str (nomark _)) (pw_or (pt_cmpR (op_neO T.eqc (ok_World_eq T) T.b_World_eq (hr.mono (by decide)) pass0) (pe_prop (pe_ix ix_tup (pv 6) pe_int (fun _ _ => rfl)) T.cls_Setup T.P_world (ok_Setup_world T) (hr.mono (by decide)) T.b_Setup_world .nil pass0 rfl) (pv 5) (nomark _)) (pw_or1 (pt_cmpR (op_neS (by exact hr.units)) (pe_prop (pe_ix ix_tup (pv 6) pe_int (fun _ _ => rfl)) T.cls_Setup T.P_works (ok_Setup_works T) (hr.mono (by decide)) T.b_Setup_works .nil pass0 rfl) (pv 3) (nomark _)))))) (pss_one (ps_ret pe_bl)) pss_nil)
      (pss_one (ps_ret (pe_cmpR op_eq (pe_callB (call_reprZ (by exact hgd) (by exact hr.units)) (by rfl) T.g_repr (by decide +kernel) (pa_cons (pe_prop (pe_ix ix_tup (pv 6) pe_int (fun _ _ => rfl)) T.cls_Setup T.P_places (ok_Setup_places T) (hr.mono (by decide)) T.b_Setup_places .nil pass0 rfl) pa_nil)) (pe_callB (call_reprZ (by exact hgd) (by exact hr.units)) (by rfl) T.g_repr (by decide +kernel) (pa_cons (pv 4) pa_nil)) (nomark _))))))))))))), ?_⟩
    refine ⟨_, rfl, (by show 3 ≤ sizeLine; decide), fun la nla sla => ⟨(by show 2 ≤ sizeLine; decide), fun tu ntu => ?_⟩⟩
    have e1 : Ex H (upd H la (.lst [.int 2, .int 3, .int 4])) := Ex.nw nla
    have e2 : Ex (upd H la (.lst [.int 2, .int 3, .int 4])) (upd (upd H la (.lst [.int 2, .int 3, .int 4])) tu (.tup [.int 1, .int 1])) := Ex.nw ntu
    refine ⟨p, la, tu, N, rfl, hp.ex (e1.tr e2), by omega, e2 _ _ upd_same, pot_none hp nla, upd_same, fun vl L H1 x1 hp1 ok hz => ?_⟩
    have x01 : XB p H H1 := (Ex.xb (e1.tr e2)).tr x1
    have t1 := tabs_pot hT hp x01
    obtain ⟨av, u, w2, t, rfl, hav, hcd, hrd, hld⟩ := lore_at hz
    clear e1 e2 nla ntu x1
    refine ⟨_, rfl, (by show 1 ≤ sizeLine; decide), fun n1 m1 => ⟨(by show 2 ≤ sizeLine; decide), fun n2 m2 => ⟨(by show 3 ≤ sizeLine; decide), fun n3 m3 => ⟨(by show 2 ≤ sizeLine; decide), fun n4 m4 => ⟨(by show 4 ≤ sizeLine; decide), fun ln mln sln => ?_⟩⟩⟩⟩⟩
    have a1 := Ex.nw (H := H1) (o := .tup ((["f"] : List Str).map V.str)) m1
    have a2 := Ex.nw (o := .tup ((["f", "g"] : List Str).map V.str)) m2
    have a3 := Ex.nw (o := .tup ((["a", "ab", "b"] : List Str).map V.str)) m3
    have a4 := Ex.nw (o := .tup ((["do", "work"] : List Str).map V.str)) m4
    have a5 := Ex.nw (o := .lst [.ref n1, .ref n2, .ref n3, .ref n4]) mln
    have aA := a1.tr (a2.tr (a3.tr (a4.tr a5)))
    have b1 := (a2.tr (a3.tr (a4.tr a5))) n1 _ upd_same
    have b2 := (a3.tr (a4.tr a5)) n2 _ upd_same
    have b3 := (a4.tr a5) n3 _ upd_same
    have b4 := a5 n4 _ upd_same
    refine ⟨p, ln, _, _, rfl, hp1.ex aA, SqL.of upd_same, pot_none (((hp1.ex a1).ex (a2.tr (a3.tr a4)))) mln, (by show 0 < 4; decide), (by show 4 < 1000; decide), by omega, fun i v H2 hi x2 hp2 => ?_⟩
    have te2 : TupK (upd (upd (upd (upd (upd H1 n1 (.tup ((["f"] : List Str).map V.str))) n2 (.tup ((["f", "g"] : List Str).map V.str))) n3 (.tup ((["a", "ab", "b"] : List Str).map V.str))) n4 (.tup ((["do", "work"] : List Str).map V.str))) ln (.lst [.ref n1, .ref n2, .ref n3, .ref n4])) H2 := xn_te (hp1.ex aA) x2.xn
    obtain ⟨tn, ss, rfl, htn, hss, s1, s3⟩ : ∃ (tn : Addr) (ss : List Str), v = .ref tn ∧ H2 tn = some (.tup (ss.map V.str)) ∧ (∀ z ∈ ss, z.length ≤ 8) ∧ 1 ≤ ss.length ∧ ss.length ≤ 3 := by
      match i, hi with
      | 0, h => cases h; exact ⟨n1, ["f"], rfl, te2 _ _ b1, by decide +kernel, by decide, by decide⟩
      | 1, h => cases h; exact ⟨n2, ["f", "g"], rfl, te2 _ _ b2, by decide +kernel, by decide, by decide⟩
      | 2, h => cases h; exact ⟨n3, ["a", "ab", "b"], rfl, te2 _ _ b3, by decide +kernel, by decide, by decide⟩
      | 3, h => cases h; exact ⟨n4, ["do", "work"], rfl, te2 _ _ b4, by decide +kernel, by decide, by decide⟩
      | n + 4, h => simp at h
    have te12 : TupK H1 H2 := (Ex.te aA).tr te2
    have x12 : XB p H1 H2 := (Ex.xb aA).tr x2
    have t2 := tabs_pot t1 hp1 x12
    clear a1 a2 a3 a4 a5 b1 b2 b3 b4 te2 m1 m2 m3 m4 mln aA hi x2
    have hav2 := te12 _ _ hav
    have hrd2 := hrd.te te12
    have pz := pz_lore ok
    have sr : SeqAt.shaped L.rD = true := shaped_plain (plain_r ok) (pz L.rD (by simp [partsOf]))
    refine ⟨_, rfl, tn, rfl, ⟨_, SqT.of htn⟩, fun D nD => lc_it (tt := tYes) (walk_tup (xs := ss.map V.str)) (fun i H' => XN p H2 H' ∧ Tabs (Tb A) H' ∧ PotAt H' p (N + 31 + 6 * (i : Int)) ∧ ∃ xs, H' D = some (.lst xs) ∧ xs.length = i ∧ TI H' xs) ⟨(Ex.xb (Ex.nw nD)).xn, t2.ext (Ex.nw nD), (hp2.ex (Ex.nw nD)).mono (by omega), [], upd_same, rfl, fun x h => by cases h⟩ (fun i H' _ q => SqT.of (xn_tup htn hp2 q.1)) (fun i x H3 H4 hi q y => ?_) (fun H3 q => ?_)⟩
    · obtain ⟨rfl, hx⟩ := y
      obtain ⟨xn3, t3, p3, xs, hD, lxs, ti⟩ := q
      rw [List.getElem?_map] at hx
      obtain ⟨nz, hnz, rfl⟩ := Option.map_eq_some_iff.mp hx
      have l8 := hss nz (List.mem_of_getElem? hnz)
      have i3 : i < ss.length := (List.getElem?_eq_some_iff.mp hnz).1
      have tk := xn_te hp2 xn3
      refine ⟨rfl, _, rfl, _, rfl, _, rfl, av, _, _, _, rfl, rfl, SqT.of (tk _ _ hav2), rfl, (by show 0 ≤ sizeLine; decide), fun t0 nt0 => ?_⟩
      have e0 := Ex.nw (H := H4) (o := .tup []) nt0
      have hrd4 := (hrd2.te tk).ex e0
      have nDp : D ≠ p := pot_none hp2 nD
      refine ⟨L.rD, .tuple [], dz_dp (p := p) hrd4.dz (plain_r ok), .tup (SqT.of upd_same) .nil, sr, by decide +kernel, p, nz, _, _, rfl, p3.ex e0, by omega, t3.ext e0, fun q tt z H5 x5 t5 p5 hq lz kz => ?_⟩
      have hD5 := x5 _ _ nDp (fun _ y => by cases y) (e0 _ _ hD)
      have tk5 := xn_te (p3.ex e0) x5
      refine ⟨xs, hD5, small (by omega), xn_mu (xn3.tr ((Ex.xb e0).xn.tr x5)) nD, tabs_xb t5 hD5 XB.wr, (p5.mono (by push_cast; omega)).up (Ne.symm nDp), xs ++ [.ref q], upd_same, by rw [List.length_append, lxs]; rfl, ?_⟩
      exact (((ti.te (Ex.te e0)).te tk5).snoc hq l8 lz).te (te_lst hD5)
    · obtain ⟨xn3, t3, p3, xs, hD, lxs, ti⟩ := q
      rw [List.length_map] at lxs p3
      refine ⟨D, _, rfl, .inl ⟨SqL.of hD, fun tw ntw => ?_⟩⟩
      have e4 := Ex.nw (H := H3) (o := .tup xs) ntw
      obtain ⟨H4, E4⟩ : ∃ z, z = upd H3 tw (.tup xs) := ⟨_, rfl⟩
      have htw : H4 tw = some (.tup xs) := by rw [E4]; exact upd_same
      rw [← E4] at e4 ⊢
      have te4 : TupK H1 H4 := te12.tr ((xn_te hp2 xn3).tr (Ex.te e4))
      have hWs : WsT H4 tw xs := ⟨htw, by omega, by omega, ti.te (Ex.te e4)⟩
      have p4 := p3.ex e4
      have t4 := t3.ext e4
      have xn4 : XN p H H4 := x01.xn.tr (x12.xn.tr (xn3.tr (Ex.xb e4).xn))
      clear E4
      refine ⟨_, rfl, p, 2, _, rfl, p4, by decide, by decide, by omega, fun c H5 _ _ x5 p5 => ⟨rfl, _, rfl, ?_⟩⟩
      have te5 : TupK H1 H5 := te4.tr (xn_te p4 x5.xn)
      have t5 := tabs_pot t4 p4 x5
      have xn5 := xn4.tr x5.xn
      have hWs5 : WsT H5 tw xs := ⟨xn_te p4 x5.xn _ _ hWs.1, hWs.2.1, hWs.2.2.1, TI.te hWs.2.2.2 (xn_te p4 x5.xn)⟩
      by_cases hc : decide (V.int c = V.int 0) = true
      · refine HX.if_true hc ?_
        refine ⟨_, rfl, _, rfl, p, tw, xs, _, rfl, p5, by omega, hWs5, fun vk o H6 x6 p6 hV => ?_⟩
        have te6 : TupK H1 H6 := te5.tr (xn_te p5 x6.xn)
        have t6 := tabs_pot t5 p5 x6
        have xn6 := xn5.tr x6.xn
        clear hWs hWs5 te4 te5 x5 x6 p4 t4 xn4 t5 xn5
        refine ⟨_, rfl, (by show 1 ≤ sizeLine; decide), fun t10 nt10 => ⟨(by show 10 ≤ sizeLine; decide), fun lr nlr slr => ?_⟩⟩
        have g1 := Ex.nw (H := H6) (o := .tup [.int 1]) nt10
        have g2 := Ex.nw (o := .lst [.int 1, .int 2, .int 1, .int 2, .int 0, .int 3, .bl true, .non, .str "1", .ref t10]) nlr
        have gA := g1.tr g2
        refine ⟨p, lr, _, _, rfl, p6.ex gA, SqL.of upd_same, pot_none (p6.ex g1) nlr, (by show 0 < 10; decide), (by show 10 < 1000; decide), by omega, fun ir vr G2 hir xr pr => ?_⟩
        have te7 : TupK H6 G2 := (Ex.te gA).tr (xn_te (p6.ex gA) xr.xn)
        have h10 : G2 t10 = some (.tup [.int 1]) := xn_te (p6.ex gA) xr.xn _ _ (g2 _ _ upd_same)
        obtain ⟨dr, zr, mr⟩ : ∃ dr, Dz p G2 vr dr ∧ dr ∈ RM := by
          match ir, hir with
          | 0, h => cases h; exact ⟨_, .int 1, by simp⟩
          | 1, h => cases h; exact ⟨_, .int 2, by simp⟩
          | 2, h => cases h; exact ⟨_, .int 1, by simp⟩
          | 3, h => cases h; exact ⟨_, .int 2, by simp⟩
          | 4, h => cases h; exact ⟨_, .int 0, by simp⟩
          | 5, h => cases h; exact ⟨_, .int 3, by simp⟩
          | 6, h => cases h; exact ⟨_, .bl true, by simp⟩
          | 7, h => cases h; exact ⟨_, .non, by simp⟩
          | 8, h => cases h; exact ⟨_, .str "1", by simp⟩
          | 9, h => cases h; exact ⟨.tuple [.int 1], .tup h10 rfl (fun j v d a b => by
              match j, a, b with
              | 0, a, b => cases a; cases b; exact .int 1
              | n + 1, a, b => simp at a), by simp⟩
          | n + 10, h => simp at h
        obtain ⟨f1, f2, f3⟩ := ((pq_by (List.all_eq_true.mp rm_ok dr mr)).pz (n := 20) (by decide) (by decide)).fz (by decide)
        clear mr hir h10
        have te8 := te6.tr te7
        have hV7 := (hV.ex gA).xb (p6.ex gA) pr xr
        have t7 := tabs_pot (t6.ext gA) (p6.ex gA) xr
        have xn7 := xn6.tr ((Ex.xb gA).xn.tr xr.xn)
        refine ⟨_, rfl, .ref av, L, rfl, hz.te te8, ok, fun xw G3 e3 nxw hW => ?_⟩
        have hV9 := hV7.ex e3
        have t9 := t7.ext e3
        have xn9 := xn7.tr (Ex.xb e3).xn
        have p9 := pr.ex e3
        have zr9 := zr.ex e3
        have hav9 := e3 _ _ (te8 _ _ hav)
        have hrd9 := (hrd.te te8).ex e3
        refine ⟨_, _, rfl, _, rfl, _, rfl, _, rfl, p, xw, vk, vr, o, dr, L, rfl, ok, hW, hV9, zr9, fun h1 q G4 e4 hq => ?_, fun h1 h2 q G4 e4 hq => ?_, fun h1 h2 x q G4 e4 hS hq => ?_⟩
        · refine ⟨_, rfl, _, rfl, av, _, _, _, rfl, rfl, SqT.of (e4.te _ _ hav9), rfl, (by show 0 ≤ sizeLine; decide), fun t0 nt0 => ?_⟩
          have e0 := Ex.nw (H := G4) (o := .tup []) nt0
          refine ⟨L.rD, .tuple [], dz_dp (p := p) ((hrd9.ex e4).ex e0).dz (plain_r ok), .tup (SqT.of upd_same) .nil, sr, by decide +kernel, p, vk, o, _, rfl, (hV9.ex e4).ex e0, fun G5 e5 => ⟨_, rfl, ?_⟩⟩
          have hw : worksOk (!PyData.eqv L.rD (.tuple [])) o = false := by rw [rows_eqv ok]; exact h1
          refine HX.if_true (by rw [hw]; rfl) ?_
          have e45 := e4.tr (e0.tr e5)
          have hq5 := (e0.tr e5) _ _ hq
          have xnZ := xn9.tr (Ex.xb e45).xn
          have tZ := t9.ext e45
          have pZ := (p9.ex e45).mono (m := N + 100) (by omega)
          have hV5 := hV9.ex e45
          refine ⟨_, rfl, q, _, _, _, rfl, rfl, SqT.of hq5, rfl, rfl, _, rfl, HX.if_true (decide_eq_true rfl) ?_⟩
          refine ⟨_, rfl, q, _, _, _, rfl, rfl, SqT.of hq5, rfl, _, rfl, rfl, ?_, k _ xnZ tZ pZ⟩
          cases o with
          | some ps => obtain ⟨⟨a, zs, r1, r2, -⟩, -⟩ := hV5; exact .inr (.inl ⟨a, zs, r1, r2⟩)
          | none =>
            rcases hV5 with r | ⟨a, zs, r1, r2⟩
            · exact .inl r
            · exact .inr (.inr ⟨a, zs, r1, r2⟩)
        · refine ⟨_, rfl, _, rfl, av, _, _, _, rfl, rfl, SqT.of (e4.te _ _ hav9), rfl, (by show 0 ≤ sizeLine; decide), fun t0 nt0 => ?_⟩
          have e0 := Ex.nw (H := G4) (o := .tup []) nt0
          refine ⟨L.rD, .tuple [], dz_dp (p := p) ((hrd9.ex e4).ex e0).dz (plain_r ok), .tup (SqT.of upd_same) .nil, sr, by decide +kernel, p, vk, o, _, rfl, (hV9.ex e4).ex e0, fun G5 e5 => ⟨_, rfl, ?_⟩⟩
          have hw : worksOk (!PyData.eqv L.rD (.tuple [])) o = true := by rw [rows_eqv ok]; exact h1
          refine HX.if_false (by rw [hw]; rfl) ?_
          have e45 := e4.tr (e0.tr e5)
          have hq5 := (e0.tr e5) _ _ hq
          have xnZ := xn9.tr (Ex.xb e45).xn
          have tZ := t9.ext e45
          have pZ := (p9.ex e45).mono (m := N + 100) (by omega)
          have zr5 := zr9.ex e45
          refine ⟨_, rfl, vr, 1, 2, rfl, kd_of zr5, _, rfl, ?_⟩
          rw [show whole vr 1 (2 + 1) = wholeD dr 1 3 from whole_d zr5 1 3]
          refine HX.if_true (by rw [h2]; rfl) ?_
          refine ⟨_, rfl, q, _, _, _, rfl, rfl, SqT.of hq5, rfl, rfl, _, rfl, HX.if_true (decide_eq_true rfl) ?_⟩
          exact ⟨_, rfl, q, _, _, _, rfl, rfl, SqT.of hq5, rfl, vr, dr, p, rfl, zr5, f1, f2, f3, _, rfl, vr, dr, p, rfl, zr5, f1, f2, f3, rfl, q_eqQ2 rfl (k _ xnZ tZ pZ)⟩
        · refine ⟨_, rfl, _, rfl, av, _, _, _, rfl, rfl, SqT.of (e4.te _ _ hav9), rfl, (by show 0 ≤ sizeLine; decide), fun t0 nt0 => ?_⟩
          have e0 := Ex.nw (H := G4) (o := .tup []) nt0
          refine ⟨L.rD, .tuple [], dz_dp (p := p) ((hrd9.ex e4).ex e0).dz (plain_r ok), .tup (SqT.of upd_same) .nil, sr, by decide +kernel, p, vk, o, _, rfl, (hV9.ex e4).ex e0, fun G5 e5 => ⟨_, rfl, ?_⟩⟩
          have hw : worksOk (!PyData.eqv L.rD (.tuple [])) o = true := by rw [rows_eqv ok]; exact h1
          refine HX.if_false (by rw [hw]; rfl) ?_
          have e45 := e4.tr (e0.tr e5)
          have hq5 := (e0.tr e5) _ _ hq
          have xnZ := xn9.tr (Ex.xb e45).xn
          have tZ := t9.ext e45
          have pZ := (p9.ex e45).mono (m := N + 100) (by omega)
          have zr5 := zr9.ex e45
          refine ⟨_, rfl, vr, 1, 2, rfl, kd_of zr5, _, rfl, ?_⟩
          rw [show whole vr 1 (2 + 1) = wholeD dr 1 3 from whole_d zr5 1 3]
          refine HX.if_false (by rw [h2]; rfl) ?_
          have hS5 := hS.ex (e0.tr e5)
          obtain ⟨dx, vn, vd, hx5⟩ := id hS5
          have hW5 := hW.ex e45
          obtain ⟨dw, wc, wr, wl, wd, we, wk, hw5, -⟩ := id hW5
          refine ⟨_, rfl, q, _, _, _, rfl, rfl, SqT.of hq5, rfl, rfl, _, rfl, HX.if_false (by rw [decide_eq_true rfl]; rfl) ?_⟩
          refine ⟨_, rfl, q, _, _, _, rfl, rfl, SqT.of hq5, rfl, x, dx, _, rfl, hx5, x, xw, vk, vr, rfl, hS5, _, rfl, ⟨xw, dw, _, rfl, hw5⟩, .inl ⟨xw, dw, _, rfl, hw5⟩, xw, L, rfl, hW5, ok, true, rfl, _, rfl, HX.if_false rfl ?_⟩
          have tv : ∃ a zs, vk = .ref a ∧ G5 a = some (.tup zs) := by
            have hV5 := hV9.ex e45
            cases o with
            | some ps => obtain ⟨⟨a, zs, r1, r2, -⟩, -⟩ := hV5; exact ⟨a, zs, r1, r2⟩
            | none => cases h1
          refine ⟨_, rfl, q, _, _, _, rfl, rfl, SqT.of hq5, rfl, x, dx, _, rfl, hx5, x, xw, vk, vr, rfl, hS5, _, rfl, rfl, tv, _, rfl, HX.if_false rfl ?_⟩
          exact ⟨_, rfl, q, _, _, _, rfl, rfl, SqT.of hq5, rfl, x, dx, _, rfl, hx5, x, xw, vk, vr, rfl, hS5, vr, dr, p, rfl, zr5, f1, f2, f3, _, rfl, vr, dr, p, rfl, zr5, f1, f2, f3, rfl, q_eqQ2 rfl (k _ xnZ tZ pZ)⟩
      · refine HX.if_false (Bool.eq_false_iff.mpr hc) ?_
        obtain ⟨o, hV⟩ := (hWs5.pl (p := p)).works hWs5.1 (by have := hWs5.2.2.1; omega)
        obtain ⟨H6, E6⟩ : ∃ z, z = H5 := ⟨_, rfl⟩
        have p6 : PotAt H6 p (N + 31 + 6 * (ss.length : Int) + 1 + 3) := by rw [E6]; exact p5.mono (by omega)
        obtain ⟨vk, ek⟩ : ∃ z, z = V.ref tw := ⟨_, rfl⟩
        have te6 : TupK H1 H6 := by rw [E6]; exact te5
        have t6 : Tabs (Tb A) H6 := by rw [E6]; exact t5
        have xn6 : XN p H H6 := by rw [E6]; exact xn5
        rw [← E6, ← ek] at hV ⊢
        clear hWs hWs5 te4 te5 x5 p4 t4 xn4 t5 xn5
        refine ⟨_, rfl, (by show 1 ≤ sizeLine; decide), fun t10 nt10 => ⟨(by show 10 ≤ sizeLine; decide), fun lr nlr slr => ?_⟩⟩
        have g1 := Ex.nw (H := H6) (o := .tup [.int 1]) nt10
        have g2 := Ex.nw (o := .lst [.int 1, .int 2, .int 1, .int 2, .int 0, .int 3, .bl true, .non, .str "1", .ref t10]) nlr
        have gA := g1.tr g2
        refine ⟨p, lr, _, _, rfl, p6.ex gA, SqL.of upd_same, pot_none (p6.ex g1) nlr, (by show 0 < 10; decide), (by show 10 < 1000; decide), by omega, fun ir vr G2 hir xr pr => ?_⟩
        have te7 : TupK H6 G2 := (Ex.te gA).tr (xn_te (p6.ex gA) xr.xn)
        have h10 : G2 t10 = some (.tup [.int 1]) := xn_te (p6.ex gA) xr.xn _ _ (g2 _ _ upd_same)
        obtain ⟨dr, zr, mr⟩ : ∃ dr, Dz p G2 vr dr ∧ dr ∈ RM := by
          match ir, hir with
          | 0, h => cases h; exact ⟨_, .int 1, by simp⟩
          | 1, h => cases h; exact ⟨_, .int 2, by simp⟩
          | 2, h => cases h; exact ⟨_, .int 1, by simp⟩
          | 3, h => cases h; exact ⟨_, .int 2, by simp⟩
          | 4, h => cases h; exact ⟨_, .int 0, by simp⟩
          | 5, h => cases h; exact ⟨_, .int 3, by simp⟩
          | 6, h => cases h; exact ⟨_, .bl true, by simp⟩
          | 7, h => cases h; exact ⟨_, .non, by simp⟩
          | 8, h => cases h; exact ⟨_, .str "1", by simp⟩
          | 9, h => cases h; exact ⟨.tuple [.int 1], .tup h10 rfl (fun j v d a b => by
              match j, a, b with
              | 0, a, b => cases a; cases b; exact .int 1
              | n + 1, a, b => simp at a), by simp⟩
          | n + 10, h => simp at h
        obtain ⟨f1, f2, f3⟩ := ((pq_by (List.all_eq_true.mp rm_ok dr mr)).pz (n := 20) (by decide) (by decide)).fz (by decide)
        clear mr hir h10
        have te8 := te6.tr te7
        have hV7 := (hV.ex gA).xb (p6.ex gA) pr xr
        have t7 := tabs_pot (t6.ext gA) (p6.ex gA) xr
        have xn7 := xn6.tr ((Ex.xb gA).xn.tr xr.xn)
        refine ⟨_, rfl, .ref av, L, rfl, hz.te te8, ok, fun xw G3 e3 nxw hW => ?_⟩
        have hV9 := hV7.ex e3
        have t9 := t7.ext e3
        have xn9 := xn7.tr (Ex.xb e3).xn
        have p9 := pr.ex e3
        have zr9 := zr.ex e3
        have hav9 := e3 _ _ (te8 _ _ hav)
        have hrd9 := (hrd.te te8).ex e3
        refine ⟨_, _, rfl, _, rfl, _, rfl, _, rfl, p, xw, vk, vr, o, dr, L, rfl, ok, hW, hV9, zr9, fun h1 q G4 e4 hq => ?_, fun h1 h2 q G4 e4 hq => ?_, fun h1 h2 x q G4 e4 hS hq => ?_⟩
        · refine ⟨_, rfl, _, rfl, av, _, _, _, rfl, rfl, SqT.of (e4.te _ _ hav9), rfl, (by show 0 ≤ sizeLine; decide), fun t0 nt0 => ?_⟩
          have e0 := Ex.nw (H := G4) (o := .tup []) nt0
          refine ⟨L.rD, .tuple [], dz_dp (p := p) ((hrd9.ex e4).ex e0).dz (plain_r ok), .tup (SqT.of upd_same) .nil, sr, by decide +kernel, p, vk, o, _, rfl, (hV9.ex e4).ex e0, fun G5 e5 => ⟨_, rfl, ?_⟩⟩
          have hw : worksOk (!PyData.eqv L.rD (.tuple [])) o = false := by rw [rows_eqv ok]; exact h1
          refine HX.if_true (by rw [hw]; rfl) ?_
          have e45 := e4.tr (e0.tr e5)
          have hq5 := (e0.tr e5) _ _ hq
          have xnZ := xn9.tr (Ex.xb e45).xn
          have tZ := t9.ext e45
          have pZ := (p9.ex e45).mono (m := N + 100) (by omega)
          have hV5 := hV9.ex e45
          refine ⟨_, rfl, q, _, _, _, rfl, rfl, SqT.of hq5, rfl, rfl, _, rfl, HX.if_true (decide_eq_true rfl) ?_⟩
          refine ⟨_, rfl, q, _, _, _, rfl, rfl, SqT.of hq5, rfl, _, rfl, rfl, ?_, k _ xnZ tZ pZ⟩
          cases o with
          | some ps => obtain ⟨⟨a, zs, r1, r2, -⟩, -⟩ := hV5; exact .inr (.inl ⟨a, zs, r1, r2⟩)
          | none =>
            rcases hV5 with r | ⟨a, zs, r1, r2⟩
            · exact .inl r
            · exact .inr (.inr ⟨a, zs, r1, r2⟩)
        · refine ⟨_, rfl, _, rfl, av, _, _, _, rfl, rfl, SqT.of (e4.te _ _ hav9), rfl, (by show 0 ≤ sizeLine; decide), fun t0 nt0 => ?_⟩
          have e0 := Ex.nw (H := G4) (o := .tup []) nt0
          refine ⟨L.rD, .tuple [], dz_dp (p := p) ((hrd9.ex e4).ex e0).dz (plain_r ok), .tup (SqT.of upd_same) .nil, sr, by decide +kernel, p, vk, o, _, rfl, (hV9.ex e4).ex e0, fun G5 e5 => ⟨_, rfl, ?_⟩⟩
          have hw : worksOk (!PyData.eqv L.rD (.tuple [])) o = true := by rw [rows_eqv ok]; exact h1
          refine HX.if_false (by rw [hw]; rfl) ?_
          have e45 := e4.tr (e0.tr e5)
          have hq5 := (e0.tr e5) _ _ hq
          have xnZ := xn9.tr (Ex.xb e45).xn
          have tZ := t9.ext e45
          have pZ := (p9.ex e45).mono (m := N + 100) (by omega)
          have zr5 := zr9.ex e45
          refine ⟨_, rfl, vr, 1, 2, rfl, kd_of zr5, _, rfl, ?_⟩
          rw [show whole vr 1 (2 + 1) = wholeD dr 1 3 from whole_d zr5 1 3]
          refine HX.if_true (by rw [h2]; rfl) ?_
          refine ⟨_, rfl, q, _, _, _, rfl, rfl, SqT.of hq5, rfl, rfl, _, rfl, HX.if_true (decide_eq_true rfl) ?_⟩
          exact ⟨_, rfl, q, _, _, _, rfl, rfl, SqT.of hq5, rfl, vr, dr, p, rfl, zr5, f1, f2, f3, _, rfl, vr, dr, p, rfl, zr5, f1, f2, f3, rfl, q_eqQ2 rfl (k _ xnZ tZ pZ)⟩
        · refine ⟨_, rfl, _, rfl, av, _, _, _, rfl, rfl, SqT.of (e4.te _ _ hav9), rfl, (by show 0 ≤ sizeLine; decide), fun t0 nt0 => ?_⟩
          have e0 := Ex.nw (H := G4) (o := .tup []) nt0
          refine ⟨L.rD, .tuple [], dz_dp (p := p) ((hrd9.ex e4).ex e0).dz (plain_r ok), .tup (SqT.of upd_same) .nil, sr, by decide +kernel, p, vk, o, _, rfl, (hV9.ex e4).ex e0, fun G5 e5 => ⟨_, rfl, ?_⟩⟩
          have hw : worksOk (!PyData.eqv L.rD (.tuple [])) o = true := by rw [rows_eqv ok]; exact h1
          refine HX.if_false (by rw [hw]; rfl) ?_
          have e45 := e4.tr (e0.tr e5)
          have hq5 := (e0.tr e5) _ _ hq
          have xnZ := xn9.tr (Ex.xb e45).xn
          have tZ := t9.ext e45
          have pZ := (p9.ex e45).mono (m := N + 100) (by omega)
          have zr5 := zr9.ex e45
          refine ⟨_, rfl, vr, 1, 2, rfl, kd_of zr5, _, rfl, ?_⟩
          rw [show whole vr 1 (2 + 1) = wholeD dr 1 3 from whole_d zr5 1 3]
          refine HX.if_false (by rw [h2]; rfl) ?_
          have hS5 := hS.ex (e0.tr e5)
          obtain ⟨dx, vn, vd, hx5⟩ := id hS5
          have hW5 := hW.ex e45
          obtain ⟨dw, wc, wr, wl, wd, we, wk, hw5, -⟩ := id hW5
          refine ⟨_, rfl, q, _, _, _, rfl, rfl, SqT.of hq5, rfl, rfl, _, rfl, HX.if_false (by rw [decide_eq_true rfl]; rfl) ?_⟩
          refine ⟨_, rfl, q, _, _, _, rfl, rfl, SqT.of hq5, rfl, x, dx, _, rfl, hx5, x, xw, vk, vr, rfl, hS5, _, rfl, ⟨xw, dw, _, rfl, hw5⟩, .inl ⟨xw, dw, _, rfl, hw5⟩, xw, L, rfl, hW5, ok, true, rfl, _, rfl, HX.if_false rfl ?_⟩
          have tv : ∃ a zs, vk = .ref a ∧ G5 a = some (.tup zs) := by
            have hV5 := hV9.ex e45
            cases o with
            | some ps => obtain ⟨⟨a, zs, r1, r2, -⟩, -⟩ := hV5; exact ⟨a, zs, r1, r2⟩
            | none => cases h1
          refine ⟨_, rfl, q, _, _, _, rfl, rfl, SqT.of hq5, rfl, x, dx, _, rfl, hx5, x, xw, vk, vr, rfl, hS5, _, rfl, rfl, tv, _, rfl, HX.if_false rfl ?_⟩
          exact ⟨_, rfl, q, _, _, _, rfl, rfl, SqT.of hq5, rfl, x, dx, _, rfl, hx5, x, xw, vk, vr, rfl, hS5, vr, dr, p, rfl, zr5, f1, f2, f3, _, rfl, vr, dr, p, rfl, zr5, f1, f2, f3, rfl, q_eqQ2 rfl (k _ xnZ tZ pZ)⟩

end
end K25
set_option Elab.async false
set_option linter.all false
set_option maxRecDepth 100000
set_option maxHeartbeats 4400000
namespace K25
open PySem PySem.Spec PyProof.Rows L2 HX
open PySem.W (Frag)

open LamX
def spLaw (K : Frag) (A : Ad) : Sp := fun vs H Q _ => ∃ (a : Addr) (ns : List Int), vs = [.ref a] ∧ SqL K H a (ns.map V.int) ∧ ns.length ≤ 63 ∧ Tabs (Tb A) H ∧ ∀ H', Q (.bl true) H'
theorem sql_en {K : Frag} {H H' : Hp} {a : Addr} {xs : List V} (h : SqL K H a xs) (e : ExtN H H') : SqL K H' a xs :=
  h.elim (fun z => z.elim (fun y => .inl (.inl (e _ _ y (fun _ z => by cases z)))) fun ⟨o, y⟩ => .inl (.inr ⟨o, e _ _ y (fun _ z => by cases z)⟩)) .inr
section
variable {P : Program} {w : World} {K : Frag} {mg : Str → Option Value} {base : Heap} {A : Ad}

theorem ok_law (T : Txt K mg A) (TB : TabB base mg A.c_work_triple A.P_work_triple) : FnG P w K mg base CX0 10 A.f_law A.d_law ["_law_script"] (spLaw K A) := by
  refine okG0 T.F_law sc_law (fun vs H Q E h => ?_) (fun cdv A0 outer s H vs Q E hgd0 hr h => ?_)
  · obtain ⟨_, _, rfl, _⟩ := h
    rfl
  · have hgd : (A0.deeper (envOfC "law" (defScope s_law) s.heap.objs.size A.f_law cdv)).guards = some [] := hgd0
    have hu := hu_of hr
    obtain ⟨a, ns, rfl, hS, hl, hT, k⟩ := h
    refine ⟨_, (pss_cons (ps_for PassesOwn.never rfl (pi_range1 rfl T.g_range (pa_cons (pe_callB (call_max2 rfl) (by rfl) T.g_max (by decide +kernel) (pa_cons pe_int (pa_cons (pe_callB (call_min2 rfl) (by rfl) T.g_min (by decide +kernel) (pa_cons pe_int (pa_cons (pe_callB call_len_seq (by rfl) T.g_len (by decide +kernel) (pa_cons (pv 0) pa_nil)) pa_nil))) pa_nil))) pa_nil)) (pg_name (i := 1) sc_law.nd rfl (Or.inl rfl)) (pss_cons (ps_set (i := 2) sc_law.nd rfl (Or.inr rfl) (pe_call (ok_pot T) (hr.mono (by decide)) (by rfl) T.m_pot T.F_pot.kp T.b_pot .nil pass0 (pa_cons (pv 0) (pa_cons (pv 1) pa_nil))))
      (pss_one (ps_if (pt_not (pt_val (pe_callB (cr_all rfl) (by rfl) T.g_all (by decide +kernel) (pa_cons (pe_lc (own := [("_law_turn", 3)]) (g := (gName 3)) (tt := tYes) rfl sc_law.nd (pi_range1 rfl T.g_range (pa_cons pe_int pa_nil)) (blkOk_by (N := N_law) (sc := defScope s_law) (by decide +kernel)) (fun _ _ _ _ _ => pg_name (i := 3) sc_law.nd rfl (Or.inl rfl)) (fun _ _ _ _ _ => pts_nil) (fun _ _ _ _ _ => (pe_callG hgd (ok_right T TB) (hr.mono (by decide)) (by rfl) T.m_right T.F_right.kp T.b_right .nil pass0 (pa_cons (pv 2) pa_nil)))) pa_nil)))) (pss_one (ps_ret pe_bl)) pss_nil))))
      (pss_one (ps_ret pe_bl))), ?_⟩
    refine ⟨_, rfl, a, _, rfl, .inl hS, _, _, rfl, _, _, rfl, ?_⟩
    obtain ⟨n, en⟩ : ∃ z, z = (if (if ((ns.map V.int).length : Int) < 3 then ((ns.map V.int).length : Int) else 3) > 1 then (if ((ns.map V.int).length : Int) < 3 then ((ns.map V.int).length : Int) else 3) else 1) := ⟨_, rfl⟩
    have n1 : 1 ≤ n := by rw [en]; split <;> split at * <;> omega
    have n3 : n ≤ 3 := by rw [en]; split <;> split at * <;> omega
    rw [← en]
    refine ⟨n, rfl, by omega, by omega, for_range (lo := 0) (n := n.toNat) (fun i σ H' => (∃ v1 v2 v3, σ = [some (.ref a), v1, v2, v3]) ∧ ExtN H H' ∧ Tabs (Tb A) H') ⟨⟨_, _, _, rfl⟩, ExtN.refl H, hT⟩ ?_ ?_⟩
    · rintro i σ H2 hi ⟨⟨v1, v2, v3, rfl⟩, e2, t2⟩
      refine ⟨_, rfl, _, rfl, a, ns, 0 + i, rfl, sql_en hS e2, by omega, by omega, fun p H3 hp e3 pot => ?_⟩
      refine ⟨6, rfl, by decide, by decide, fun D nD => lc_range (lo := 0) (n := 6) (fun j H' => XN p H3 H' ∧ Tabs (Tb A) H' ∧ PotAt H' p (200 * j) ∧ H' D = some (.lst (List.replicate j (.bl true)))) ⟨(Ex.xb (Ex.nw nD)).xn, (t2.ext e3).ext (Ex.nw nD), (pot.mono (by omega)).up (Ne.symm (pot_none pot nD)), upd_same⟩ ?_ ?_⟩
      · rintro j H4 hj ⟨e4, t4, hp4, hD⟩
        have nDp : D ≠ p := pot_none pot nD
        refine ⟨rfl, _, rfl, p, _, rfl, hp4, by omega, t4, fun H5 x5 t5 hp5 => ?_⟩
        have hD5 := x5 _ _ nDp (fun _ z => by cases z) hD
        refine ⟨_, hD5, small (by rw [List.length_replicate]; omega), xn_mu (e4.tr x5) nD, tabs_xb t5 hD5 XB.wr, (hp5.mono (by push_cast; omega)).up (Ne.symm nDp), ?_⟩
        rw [rep_next]
        exact upd_same
      · rintro H4 ⟨e4, t4, hp4, hD⟩
        refine ⟨D, List.replicate 6 true, rfl, SqL.of (by rw [hD, rep_bl]), _, rfl, HX.if_false (by rw [rep_all]; rfl) ?_⟩
        exact ⟨⟨_, _, _, rfl⟩, e2.trans fun b o hb nt => e4 b o (ne_of_none hb hp) nt (e3 _ _ hb), t4⟩
    · rintro σ H2 _
      exact k _
end
end K25
set_option Elab.async false
set_option linter.all false
set_option maxRecDepth 100000
set_option maxHeartbeats 4400000
namespace K25
open PySem PySem.Spec PyProof.Rows L2 HX
open PySem.W (Frag)
open LamX
def fnl : List DX := ([⟨met "BadSetup" "__init__", "__init__", "BadSetup.__init__", s_BadSetup_init⟩, ⟨glo "is_whole", "is_whole", "is_whole", s_is_whole⟩, ⟨glo "is_size", "is_size", "is_size", s_is_size⟩, ⟨glo "is_most", "is_most", "is_most", s_is_most⟩, ⟨glo "are_items", "are_items", "are_items", s_are_items⟩, ⟨glo "is_name", "is_name", "is_name", s_is_name⟩, ⟨glo "are_rising", "are_rising", "are_rising", s_are_rising⟩, ⟨glo "are_names", "are_names", "are_names", s_are_names⟩, ⟨glo "are_kinds", "are_kinds", "are_kinds", s_are_kinds⟩, ⟨glo "are_pairs", "are_pairs", "are_pairs", s_are_pairs⟩, ⟨glo "_are_cells", "_are_cells", "_are_cells", s_are_cells⟩, ⟨glo "_are_rows", "_are_rows", "_are_rows", s_are_rows⟩, ⟨glo "_are_loose", "_are_loose", "_are_loose", s_are_loose⟩, ⟨prp "World" "size", "size", "World.size", s_World_size⟩, ⟨prp "World" "most", "most", "World.most", s_World_most⟩, ⟨prp "World" "cells", "cells", "World.cells", s_World_cells⟩, ⟨prp "World" "rows", "rows", "World.rows", s_World_rows⟩, ⟨prp "World" "loose", "loose", "World.loose", s_World_loose⟩, ⟨met "World" "__eq__", "__eq__", "World.__eq__", s_World_eq⟩, ⟨met "World" "cell_number", "cell_number", "World.cell_number", s_World_cell_number⟩] : List DX) ++ ([⟨glo "_is_work", "_is_work", "_is_work", s_is_work⟩, ⟨glo "_are_works", "_are_works", "_are_works", s_are_works⟩, ⟨glo "all_values", "all_values", "all_values", s_all_values⟩, ⟨glo "_all_calls", "_all_calls", "_all_calls", s_all_calls⟩, ⟨glo "all_items", "all_items", "all_items", s_all_items⟩, ⟨glo "_all_changes", "_all_changes", "_all_changes", s_all_changes⟩, ⟨met "Setup" "__init__", "__init__", "Setup.__init__", s_Setup_init⟩, ⟨prp "Setup" "world", "world", "Setup.world", s_Setup_world⟩, ⟨prp "Setup" "works", "works", "Setup.works", s_Setup_works⟩, ⟨prp "Setup" "places", "places", "Setup.places", s_Setup_places⟩, ⟨glo "_law_pot", "_law_pot", "_law_pot", s_pot⟩, ⟨glo "_law_take", "_law_take", "_law_take", s_take⟩, ⟨glo "_law_of", "_law_of", "_law_of", s_of⟩, ⟨glo "_law_is_name", "_law_is_name", "_law_is_name", s_law_is_name⟩, ⟨glo "_law_are_rising", "_law_are_rising", "_law_are_rising", s_law_are_rising⟩, ⟨glo "_law_items", "_law_items", "_law_items", s_items⟩, ⟨glo "_law_some", "_law_some", "_law_some", s_some⟩, ⟨glo "_law_lore", "_law_lore", "_law_lore", s_lore⟩, ⟨glo "_law_world", "_law_world", "_law_world", s_world⟩, ⟨glo "_law_is_from", "_law_is_from", "_law_is_from", s_is_from⟩] : List DX) ++ ([⟨glo "_law_are_works", "_law_are_works", "_law_are_works", s_law_are_works⟩, ⟨glo "_law_work_triple", "_law_work_triple", "_law_work_triple", s_work_triple⟩, ⟨glo "_law_bent_works", "_law_bent_works", "_law_bent_works", s_bent_works⟩, ⟨glo "_law_told", "_law_told", "_law_told", s_told⟩, ⟨glo "_law_right", "_law_right", "_law_right", s_right⟩, ⟨glo "law", "law", "law", s_law⟩] : List DX)
def fnd : List DX := [⟨met "World" "__init__", "__init__", "World.__init__", s_World_init⟩]
def nmG : List Str := ((["is_whole", "is_size", "is_most", "are_items", "is_name", "are_rising", "are_names", "are_kinds", "are_pairs", "_are_cells", "_are_rows", "_are_loose", "_is_work", "_are_works", "all_values", "_all_calls"] : List Str) ++ (["all_items", "_all_changes", "_law_pot", "_law_take", "_law_of", "_law_is_name", "_law_are_rising", "_law_items", "_law_some", "_law_lore", "_law_world", "_law_is_from", "_law_are_works", "_law_work_triple", "_law_bent_works", "_law_told"] : List Str) ++ (["_law_right", "law", "TapeError", "BadSetup", "World", "Setup"] : List Str))
def nmF : List Str := ((["isinstance", "int", "bool", "str", "len", "abs", "repr", "all", "range", "tuple", "list", "zip", "enumerate", "max", "min", "ValueError"] : List Str))
def b_cls (K : Frag) : Bool := clsB K (He.ga K "World") && (mkB K (He.ga K "World") (met "World" "__init__" K) && (clsB K (He.ga K "Setup") && (mkB K (He.ga K "Setup") (met "Setup" "__init__" K))))
def b_noa (K : Frag) : Bool := noatB K (He.ga K "World") "_size" && (noatB K (He.ga K "World") "_most" && (noatB K (He.ga K "World") "_cells" && (noatB K (He.ga K "World") "_rows" && (noatB K (He.ga K "World") "_loose" && (noatB K (He.ga K "World") "_cell_numbers" && (noatB K (He.ga K "World") "_row_numbers" && (noatB K (He.ga K "Setup") "_world" && (noatB K (He.ga K "Setup") "_works" && (noatB K (He.ga K "Setup") "_places" && (noatB K (He.ga K "Setup") "_numbers" && (noatB K (He.ga K "Setup") "_deeds")))))))))))
def b_prp (K : Frag) : Bool := propB K (He.ga K "World") "size" (met "World" "size" K) (prp "World" "size" K) && (propB K (He.ga K "World") "most" (met "World" "most" K) (prp "World" "most" K) && (propB K (He.ga K "World") "cells" (met "World" "cells" K) (prp "World" "cells" K) && (propB K (He.ga K "World") "rows" (met "World" "rows" K) (prp "World" "rows" K) && (propB K (He.ga K "World") "loose" (met "World" "loose" K) (prp "World" "loose" K) && (propB K (He.ga K "Setup") "world" (met "Setup" "world" K) (prp "Setup" "world" K) && (propB K (He.ga K "Setup") "works" (met "Setup" "works" K) (prp "Setup" "works" K) && (propB K (He.ga K "Setup") "places" (met "Setup" "places" K) (prp "Setup" "places" K))))))))
def b_mth (K : Frag) : Bool := methB K (He.ga K "World") "cell_number" (met "World" "cell_number" K)
def b_isi (K : Frag) : Bool := isiB K (He.ga K "World") && (He.eqO (PySem.W.specialIn K (.builtin "object.__class__") "__get__") (some (some (.builtin "getset_descriptor.__get__"))) && (decide (PySem.W.takesIn K (.builtin "object.__class__") = some true)))
def b_eqs (K : Frag) : Bool := He.eqO (PySem.W.findIn K (.ref (He.ga K "World")) "__eq__") (some (some (.ref (met "World" "__eq__" K)))) && (PySem.W.isFn K (.ref (met "World" "__eq__" K)) && (He.eqO (PySem.W.findIn K (.ref (He.ga K "World")) "__ne__") (some (some (.builtin "object.__ne__"))) && (decide (PySem.W.mroIn K (He.ga K "World") (.type "object") = some true) && (PySem.W.notFirst K (He.ga K "World") (.ref (He.ga K "World")) && (PySem.W.notFirst K (He.ga K "World") (.type "int") && (PySem.W.notFirst K (He.ga K "World") (.type "tuple")))))))
def b_cst (K : Frag) : Bool := (He.Fa.int "MOST_LETTERS" 8).ok K && ((He.Fa.str "LETTERS" "abcdefghijklmnopqrstuvwxyz").ok K && ((He.Fa.int "MOST_CELLS" 2).ok K && ((He.Fa.int "MOST_ROWS" 2).ok K && ((He.Fa.int "MOST_WORKS" 3).ok K && ((He.Fa.int "MOST_VALUES" 3).ok K)))))
def b_errs (K : Frag) : Bool := (([("BadSetup", "value")] : List (Str × Str))).all fun c => excB K (He.ga K c.1) && errB K (He.ga K c.1) (He.ma K (He.ga K c.1) "__init__") c.2
def b_mro (K : Frag) : Bool := mroB K (He.ga K "TapeError") (((["BadSetup"] : List Str)).map (He.ga K)) && decide (PySem.W.subIn K (.ref (He.ga K "TapeError")) (.type "BaseException") = some true)
def b_tab (K : Frag) : Bool := tabB K "_law_work_triple"
def ex (K : Frag) : Bool := nmG.all (fun x => He.eqO (PySem.W.nsIn K mainGlobals x) (some (some (.ref (He.ga K x))))) && (nmF.all (fun x => He.eqO (PySem.W.nsIn K mainGlobals x) (some none)) && (b_cls K && (b_noa K && (b_prp K && (b_mth K && (b_isi K && (b_eqs K && (b_cst K && (b_errs K && (b_mro K && (b_tab K)))))))))))
theorem ex_glob {K : Frag} {h : Heap} {mg : Str → Option Value} (X : K.In h) (G : h.Ns mainGlobals mg) (c : ex K = true) {x : Str} (hx : x ∈ nmG) : mg x = some (.ref (He.ga K x)) := by
  unfold ex at c
  simp only [Bool.and_eq_true] at c
  exact PySem.W.mg_of X G (He.eqO_ok (List.all_eq_true.mp c.1 x hx))
theorem ex_free {K : Frag} {h : Heap} {mg : Str → Option Value} (X : K.In h) (G : h.Ns mainGlobals mg) (c : ex K = true) {x : Str} (hx : x ∈ nmF) : mg x = none := by
  unfold ex at c
  simp only [Bool.and_eq_true] at c
  exact PySem.W.mg_none_of X G (He.eqO_ok (List.all_eq_true.mp c.2.1 x hx))
theorem ex_cls {K : Frag} (c : ex K = true) : b_cls K = true := by
  unfold ex at c
  simp only [Bool.and_eq_true] at c
  exact c.2.2.1
theorem ex_noa {K : Frag} (c : ex K = true) : b_noa K = true := by
  unfold ex at c
  simp only [Bool.and_eq_true] at c
  exact c.2.2.2.1
theorem ex_prp {K : Frag} (c : ex K = true) : b_prp K = true := by
  unfold ex at c
  simp only [Bool.and_eq_true] at c
  exact c.2.2.2.2.1
theorem ex_mth {K : Frag} (c : ex K = true) : b_mth K = true := by
  unfold ex at c
  simp only [Bool.and_eq_true] at c
  exact c.2.2.2.2.2.1
theorem ex_isi {K : Frag} (c : ex K = true) : b_isi K = true := by
  unfold ex at c
  simp only [Bool.and_eq_true] at c
  exact c.2.2.2.2.2.2.1
theorem ex_eqs {K : Frag} (c : ex K = true) : b_eqs K = true := by
  unfold ex at c
  simp only [Bool.and_eq_true] at c
  exact c.2.2.2.2.2.2.2.1
theorem ex_cst {K : Frag} (c : ex K = true) : b_cst K = true := by
  unfold ex at c
  simp only [Bool.and_eq_true] at c
  exact c.2.2.2.2.2.2.2.2.1
theorem ex_errs {K : Frag} (c : ex K = true) : b_errs K = true := by
  unfold ex at c
  simp only [Bool.and_eq_true] at c
  exact c.2.2.2.2.2.2.2.2.2.1
theorem ex_mro {K : Frag} (c : ex K = true) : b_mro K = true := by
  unfold ex at c
  simp only [Bool.and_eq_true] at c
  exact c.2.2.2.2.2.2.2.2.2.2.1
theorem ex_tab {K : Frag} (c : ex K = true) : b_tab K = true := by
  unfold ex at c
  simp only [Bool.and_eq_true] at c
  exact c.2.2.2.2.2.2.2.2.2.2.2
abbrev R : PySem.W.OpenRow := PySem.W.OpenLaw.row PySem.Challenge.rw_tapedonce_k25_setups_refused
def names : List Str := ((["_wall", "TapeError", "BadWorld", "BadSetup", "MOST_LETTERS", "LETTERS", "is_whole", "is_size", "is_most", "are_items", "is_name", "are_rising", "are_names", "are_pairs", "are_kinds", "MOST_CELLS"] : List Str) ++ (["MOST_ROWS", "MOST_WORKS", "MOST_VALUES", "World", "Setup", "_are_cells", "_are_rows", "_are_loose", "_are_works", "_is_work", "_all_calls", "all_values", "_all_changes", "all_items", "_law_pot", "_law_take"] : List Str) ++ (["_law_of", "_law_is_name", "_law_are_rising", "_law_items", "_law_some", "_law_lore", "_law_world", "_law_is_from", "_law_are_works", "_law_bent_works", "_law_told", "_law_right"] : List Str))
theorem run (w : World) : HandSHeadRun.RunEq R (PySem.W.view R.prog [45, 49]) (hookY 5 ex fnl fnd) (obTY 5 ex fnl fnd) 9400 names w := by
  intro os
  kernel_rfl
theorem er_at {K : Frag} (ce : ex K = true) {c : Str × Str} (hc : c ∈ (([("BadSetup", "value")] : List (Str × Str)))) : excB K (He.ga K c.1) = true ∧ errB K (He.ga K c.1) (He.ma K (He.ga K c.1) "__init__") c.2 = true := Bool.and_eq_true_iff.mp (List.all_eq_true.mp (ex_errs ce) c hc)
theorem facts {P : Program} {w : World} {K : Frag} {h : Heap} {mg : Str → Option Value} {f : Addr} (X : K.In h) (G : h.Ns mainGlobals mg) (hfa : mg ("law" : Str) = some (.ref f)) (c : SaysY ex fnl fnd K) :
    ∃ (fd : FuncData) (A : Ad), A.c_work_triple = cod "_law_work_triple" K ∧ A.P_work_triple = tbl "_law_work_triple" K ∧ (∀ (s : Shared) (v : Value), BindsTo s fd ⟨[v], []⟩ [("_law_script", v)]) ∧ ∀ base : Heap, K.In base → base.Ns mainGlobals mg → TabB base mg A.c_work_triple A.P_work_triple → FnG P w K mg base CX0 10 f fd ["_law_script"] (spLaw K A) := by
  have ce := c.facts
  have h_cls := ex_cls ce
  unfold b_cls at h_cls
  simp only [Bool.and_eq_true] at h_cls
  have h_noa := ex_noa ce
  unfold b_noa at h_noa
  simp only [Bool.and_eq_true] at h_noa
  have h_prp := ex_prp ce
  unfold b_prp at h_prp
  simp only [Bool.and_eq_true] at h_prp
  have h_mth := ex_mth ce
  unfold b_mth at h_mth

  have h_isi := ex_isi ce
  unfold b_isi at h_isi
  simp only [Bool.and_eq_true] at h_isi
  have h_eqs := ex_eqs ce
  unfold b_eqs at h_eqs
  simp only [Bool.and_eq_true] at h_eqs
  have h_cst := ex_cst ce
  unfold b_cst at h_cst
  simp only [Bool.and_eq_true] at h_cst
  have mr := ex_mro ce
  unfold b_mro at mr
  simp only [Bool.and_eq_true] at mr
  obtain ⟨d0, F0⟩ := c.def_ 0 (d := (⟨met "BadSetup" "__init__", "__init__", "BadSetup.__init__", s_BadSetup_init⟩ : DX)) rfl
  obtain ⟨d1, F1⟩ := c.def_ 1 (d := (⟨glo "is_whole", "is_whole", "is_whole", s_is_whole⟩ : DX)) rfl
  obtain ⟨d2, F2⟩ := c.def_ 2 (d := (⟨glo "is_size", "is_size", "is_size", s_is_size⟩ : DX)) rfl
  obtain ⟨d3, F3⟩ := c.def_ 3 (d := (⟨glo "is_most", "is_most", "is_most", s_is_most⟩ : DX)) rfl
  obtain ⟨d4, F4⟩ := c.def_ 4 (d := (⟨glo "are_items", "are_items", "are_items", s_are_items⟩ : DX)) rfl
  obtain ⟨d5, F5⟩ := c.def_ 5 (d := (⟨glo "is_name", "is_name", "is_name", s_is_name⟩ : DX)) rfl
  obtain ⟨d6, F6⟩ := c.def_ 6 (d := (⟨glo "are_rising", "are_rising", "are_rising", s_are_rising⟩ : DX)) rfl
  obtain ⟨d7, F7⟩ := c.def_ 7 (d := (⟨glo "are_names", "are_names", "are_names", s_are_names⟩ : DX)) rfl
  obtain ⟨d8, F8⟩ := c.def_ 8 (d := (⟨glo "are_kinds", "are_kinds", "are_kinds", s_are_kinds⟩ : DX)) rfl
  obtain ⟨d9, F9⟩ := c.def_ 9 (d := (⟨glo "are_pairs", "are_pairs", "are_pairs", s_are_pairs⟩ : DX)) rfl
  obtain ⟨d10, F10⟩ := c.def_ 10 (d := (⟨glo "_are_cells", "_are_cells", "_are_cells", s_are_cells⟩ : DX)) rfl
  obtain ⟨d11, F11⟩ := c.def_ 11 (d := (⟨glo "_are_rows", "_are_rows", "_are_rows", s_are_rows⟩ : DX)) rfl
  obtain ⟨d12, F12⟩ := c.def_ 12 (d := (⟨glo "_are_loose", "_are_loose", "_are_loose", s_are_loose⟩ : DX)) rfl
  obtain ⟨d13, F13⟩ := c.def_ 13 (d := (⟨prp "World" "size", "size", "World.size", s_World_size⟩ : DX)) rfl
  obtain ⟨d14, F14⟩ := c.def_ 14 (d := (⟨prp "World" "most", "most", "World.most", s_World_most⟩ : DX)) rfl
  obtain ⟨d15, F15⟩ := c.def_ 15 (d := (⟨prp "World" "cells", "cells", "World.cells", s_World_cells⟩ : DX)) rfl
  obtain ⟨d16, F16⟩ := c.def_ 16 (d := (⟨prp "World" "rows", "rows", "World.rows", s_World_rows⟩ : DX)) rfl
  obtain ⟨d17, F17⟩ := c.def_ 17 (d := (⟨prp "World" "loose", "loose", "World.loose", s_World_loose⟩ : DX)) rfl
  obtain ⟨d18, F18⟩ := c.def_ 18 (d := (⟨met "World" "__eq__", "__eq__", "World.__eq__", s_World_eq⟩ : DX)) rfl
  obtain ⟨d19, F19⟩ := c.def_ 19 (d := (⟨met "World" "cell_number", "cell_number", "World.cell_number", s_World_cell_number⟩ : DX)) rfl
  obtain ⟨d20, F20⟩ := c.def_ 20 (d := (⟨glo "_is_work", "_is_work", "_is_work", s_is_work⟩ : DX)) rfl
  obtain ⟨d21, F21⟩ := c.def_ 21 (d := (⟨glo "_are_works", "_are_works", "_are_works", s_are_works⟩ : DX)) rfl
  obtain ⟨d22, F22⟩ := c.def_ 22 (d := (⟨glo "all_values", "all_values", "all_values", s_all_values⟩ : DX)) rfl
  obtain ⟨d23, F23⟩ := c.def_ 23 (d := (⟨glo "_all_calls", "_all_calls", "_all_calls", s_all_calls⟩ : DX)) rfl
  obtain ⟨d24, F24⟩ := c.def_ 24 (d := (⟨glo "all_items", "all_items", "all_items", s_all_items⟩ : DX)) rfl
  obtain ⟨d25, F25⟩ := c.def_ 25 (d := (⟨glo "_all_changes", "_all_changes", "_all_changes", s_all_changes⟩ : DX)) rfl
  obtain ⟨d26, F26⟩ := c.def_ 26 (d := (⟨met "Setup" "__init__", "__init__", "Setup.__init__", s_Setup_init⟩ : DX)) rfl
  obtain ⟨d27, F27⟩ := c.def_ 27 (d := (⟨prp "Setup" "world", "world", "Setup.world", s_Setup_world⟩ : DX)) rfl
  obtain ⟨d28, F28⟩ := c.def_ 28 (d := (⟨prp "Setup" "works", "works", "Setup.works", s_Setup_works⟩ : DX)) rfl
  obtain ⟨d29, F29⟩ := c.def_ 29 (d := (⟨prp "Setup" "places", "places", "Setup.places", s_Setup_places⟩ : DX)) rfl
  obtain ⟨d30, F30⟩ := c.def_ 30 (d := (⟨glo "_law_pot", "_law_pot", "_law_pot", s_pot⟩ : DX)) rfl
  obtain ⟨d31, F31⟩ := c.def_ 31 (d := (⟨glo "_law_take", "_law_take", "_law_take", s_take⟩ : DX)) rfl
  obtain ⟨d32, F32⟩ := c.def_ 32 (d := (⟨glo "_law_of", "_law_of", "_law_of", s_of⟩ : DX)) rfl
  obtain ⟨d33, F33⟩ := c.def_ 33 (d := (⟨glo "_law_is_name", "_law_is_name", "_law_is_name", s_law_is_name⟩ : DX)) rfl
  obtain ⟨d34, F34⟩ := c.def_ 34 (d := (⟨glo "_law_are_rising", "_law_are_rising", "_law_are_rising", s_law_are_rising⟩ : DX)) rfl
  obtain ⟨d35, F35⟩ := c.def_ 35 (d := (⟨glo "_law_items", "_law_items", "_law_items", s_items⟩ : DX)) rfl
  obtain ⟨d36, F36⟩ := c.def_ 36 (d := (⟨glo "_law_some", "_law_some", "_law_some", s_some⟩ : DX)) rfl
  obtain ⟨d37, F37⟩ := c.def_ 37 (d := (⟨glo "_law_lore", "_law_lore", "_law_lore", s_lore⟩ : DX)) rfl
  obtain ⟨d38, F38⟩ := c.def_ 38 (d := (⟨glo "_law_world", "_law_world", "_law_world", s_world⟩ : DX)) rfl
  obtain ⟨d39, F39⟩ := c.def_ 39 (d := (⟨glo "_law_is_from", "_law_is_from", "_law_is_from", s_is_from⟩ : DX)) rfl
  obtain ⟨d40, F40⟩ := c.def_ 40 (d := (⟨glo "_law_are_works", "_law_are_works", "_law_are_works", s_law_are_works⟩ : DX)) rfl
  obtain ⟨d41, F41⟩ := c.def_ 41 (d := (⟨glo "_law_work_triple", "_law_work_triple", "_law_work_triple", s_work_triple⟩ : DX)) rfl
  obtain ⟨d42, F42⟩ := c.def_ 42 (d := (⟨glo "_law_bent_works", "_law_bent_works", "_law_bent_works", s_bent_works⟩ : DX)) rfl
  obtain ⟨d43, F43⟩ := c.def_ 43 (d := (⟨glo "_law_told", "_law_told", "_law_told", s_told⟩ : DX)) rfl
  obtain ⟨d44, F44⟩ := c.def_ 44 (d := (⟨glo "_law_right", "_law_right", "_law_right", s_right⟩ : DX)) rfl
  obtain ⟨d45, F45⟩ := c.def_ 45 (d := (⟨glo "law", "law", "law", s_law⟩ : DX)) rfl
  obtain ⟨dW, vW, FW⟩ := c.def2 0 (d := (⟨met "World" "__init__", "__init__", "World.__init__", s_World_init⟩ : DX)) rfl
  have e := hfa.symm.trans (ex_glob X G ce (x := "law") (by decide +kernel))
  cases e
  have T : Txt K mg { C_TapeError := He.ga K "TapeError", C_BadSetup := He.ga K "BadSetup", C_World := He.ga K "World", C_Setup := He.ga K "Setup", f_BadSetup_init := (met "BadSetup" "__init__" K), f_is_whole := (glo "is_whole" K), f_is_size := (glo "is_size" K), f_is_most := (glo "is_most" K), f_are_items := (glo "are_items" K), f_is_name := (glo "is_name" K), f_are_rising := (glo "are_rising" K), f_are_names := (glo "are_names" K), f_are_kinds := (glo "are_kinds" K), f_are_pairs := (glo "are_pairs" K), f_are_cells := (glo "_are_cells" K), f_are_rows := (glo "_are_rows" K), f_are_loose := (glo "_are_loose" K), f_World_size := (prp "World" "size" K), f_World_most := (prp "World" "most" K), f_World_cells := (prp "World" "cells" K), f_World_rows := (prp "World" "rows" K), f_World_loose := (prp "World" "loose" K), f_World_eq := (met "World" "__eq__" K), f_World_cell_number := (met "World" "cell_number" K), f_is_work := (glo "_is_work" K), f_are_works := (glo "_are_works" K), f_all_values := (glo "all_values" K), f_all_calls := (glo "_all_calls" K), f_all_items := (glo "all_items" K), f_all_changes := (glo "_all_changes" K), f_Setup_init := (met "Setup" "__init__" K), f_Setup_world := (prp "Setup" "world" K), f_Setup_works := (prp "Setup" "works" K), f_Setup_places := (prp "Setup" "places" K), f_pot := (glo "_law_pot" K), f_take := (glo "_law_take" K), f_of := (glo "_law_of" K), f_law_is_name := (glo "_law_is_name" K), f_law_are_rising := (glo "_law_are_rising" K), f_items := (glo "_law_items" K), f_some := (glo "_law_some" K), f_lore := (glo "_law_lore" K), f_world := (glo "_law_world" K), f_is_from := (glo "_law_is_from" K), f_law_are_works := (glo "_law_are_works" K), f_work_triple := (glo "_law_work_triple" K), f_bent_works := (glo "_law_bent_works" K), f_told := (glo "_law_told" K), f_right := (glo "_law_right" K), f_law := (glo "law" K), d_BadSetup_init := d0, d_is_whole := d1, d_is_size := d2, d_is_most := d3, d_are_items := d4, d_is_name := d5, d_are_rising := d6, d_are_names := d7, d_are_kinds := d8, d_are_pairs := d9, d_are_cells := d10, d_are_rows := d11, d_are_loose := d12, d_World_size := d13, d_World_most := d14, d_World_cells := d15, d_World_rows := d16, d_World_loose := d17, d_World_eq := d18, d_World_cell_number := d19, d_is_work := d20, d_are_works := d21, d_all_values := d22, d_all_calls := d23, d_all_items := d24, d_all_changes := d25, d_Setup_init := d26, d_Setup_world := d27, d_Setup_works := d28, d_Setup_places := d29, d_pot := d30, d_take := d31, d_of := d32, d_law_is_name := d33, d_law_are_rising := d34, d_items := d35, d_some := d36, d_lore := d37, d_world := d38, d_is_from := d39, d_law_are_works := d40, d_work_triple := d41, d_bent_works := d42, d_told := d43, d_right := d44, d_law := d45, f_World_init := met "World" "__init__" K, d_World_init := dW, p_size := met "World" "size" K, p_most := met "World" "most" K, p_cells := met "World" "cells" K, p_rows := met "World" "rows" K, p_loose := met "World" "loose" K, p_world := met "Setup" "world" K, p_works := met "Setup" "works" K, p_places := met "Setup" "places" K, c_work_triple := cod "_law_work_triple" K, P_work_triple := tbl "_law_work_triple" K : Ad } := {
    F_BadSetup_init := F0
    F_is_whole := F1
    b_is_whole := F1.binds (ps := ["value", "low", "below"]) fun _ _ _ _ _ _ us hl => match us, hl with | [_, _, _], _ => rfl
    m_is_whole := (ex_glob X G ce (x := "is_whole") (by decide +kernel))
    F_is_size := F2
    b_is_size := F2.binds (ps := ["value"]) fun _ _ _ _ _ _ us hl => match us, hl with | [_], _ => rfl
    m_is_size := (ex_glob X G ce (x := "is_size") (by decide +kernel))
    F_is_most := F3
    b_is_most := F3.binds (ps := ["value"]) fun _ _ _ _ _ _ us hl => match us, hl with | [_], _ => rfl
    m_is_most := (ex_glob X G ce (x := "is_most") (by decide +kernel))
    F_are_items := F4
    b_are_items := F4.binds (ps := ["value", "size", "most"]) fun _ _ _ _ _ _ us hl => match us, hl with | [_, _, _], _ => rfl
    m_are_items := (ex_glob X G ce (x := "are_items") (by decide +kernel))
    F_is_name := F5
    b_is_name := F5.binds (ps := ["value"]) fun _ _ _ _ _ _ us hl => match us, hl with | [_], _ => rfl
    m_is_name := (ex_glob X G ce (x := "is_name") (by decide +kernel))
    F_are_rising := F6
    b_are_rising := F6.binds (ps := ["names"]) fun _ _ _ _ _ _ us hl => match us, hl with | [_], _ => rfl
    m_are_rising := (ex_glob X G ce (x := "are_rising") (by decide +kernel))
    F_are_names := F7
    b_are_names := F7.binds (ps := ["value", "most"]) fun _ _ _ _ _ _ us hl => match us, hl with | [_, _], _ => rfl
    m_are_names := (ex_glob X G ce (x := "are_names") (by decide +kernel))
    F_are_kinds := F8
    b_are_kinds := F8.binds (ps := ["value", "most", "with_rows"]) fun _ _ _ _ _ _ us hl => match us, hl with | [_, _, _], _ => rfl
    m_are_kinds := (ex_glob X G ce (x := "are_kinds") (by decide +kernel))
    F_are_pairs := F9
    b_are_pairs := F9.binds (ps := ["value", "most"]) fun _ _ _ _ _ _ us hl => match us, hl with | [_, _], _ => rfl
    m_are_pairs := (ex_glob X G ce (x := "are_pairs") (by decide +kernel))
    F_are_cells := F10
    b_are_cells := F10.binds (ps := ["value", "size"]) fun _ _ _ _ _ _ us hl => match us, hl with | [_, _], _ => rfl
    m_are_cells := (ex_glob X G ce (x := "_are_cells") (by decide +kernel))
    F_are_rows := F11
    b_are_rows := F11.binds (ps := ["value", "size", "most", "cells"]) fun _ _ _ _ _ _ us hl => match us, hl with | [_, _, _, _], _ => rfl
    m_are_rows := (ex_glob X G ce (x := "_are_rows") (by decide +kernel))
    F_are_loose := F12
    b_are_loose := F12.binds (ps := ["value", "cells", "rows"]) fun _ _ _ _ _ _ us hl => match us, hl with | [_, _, _], _ => rfl
    m_are_loose := (ex_glob X G ce (x := "_are_loose") (by decide +kernel))
    F_World_size := F13
    b_World_size := F13.binds (ps := ["self"]) fun _ _ _ _ _ _ us hl => match us, hl with | [_], _ => rfl
    F_World_most := F14
    b_World_most := F14.binds (ps := ["self"]) fun _ _ _ _ _ _ us hl => match us, hl with | [_], _ => rfl
    F_World_cells := F15
    b_World_cells := F15.binds (ps := ["self"]) fun _ _ _ _ _ _ us hl => match us, hl with | [_], _ => rfl
    F_World_rows := F16
    b_World_rows := F16.binds (ps := ["self"]) fun _ _ _ _ _ _ us hl => match us, hl with | [_], _ => rfl
    F_World_loose := F17
    b_World_loose := F17.binds (ps := ["self"]) fun _ _ _ _ _ _ us hl => match us, hl with | [_], _ => rfl
    F_World_eq := F18
    b_World_eq := F18.binds (ps := ["self", "other"]) fun _ _ _ _ _ _ us hl => match us, hl with | [_, _], _ => rfl
    F_World_cell_number := F19
    b_World_cell_number := F19.binds (ps := ["self", "name"]) fun _ _ _ _ _ _ us hl => match us, hl with | [_, _], _ => rfl
    F_is_work := F20
    b_is_work := F20.binds (ps := ["value", "world"]) fun _ _ _ _ _ _ us hl => match us, hl with | [_, _], _ => rfl
    m_is_work := (ex_glob X G ce (x := "_is_work") (by decide +kernel))
    F_are_works := F21
    b_are_works := F21.binds (ps := ["value", "world"]) fun _ _ _ _ _ _ us hl => match us, hl with | [_, _], _ => rfl
    m_are_works := (ex_glob X G ce (x := "_are_works") (by decide +kernel))
    F_all_values := F22
    b_all_values := F22.binds (ps := ["world", "kinds"]) fun _ _ _ _ _ _ us hl => match us, hl with | [_, _], _ => rfl
    m_all_values := (ex_glob X G ce (x := "all_values") (by decide +kernel))
    F_all_calls := F23
    b_all_calls := F23.binds (ps := ["world", "works"]) fun _ _ _ _ _ _ us hl => match us, hl with | [_, _], _ => rfl
    m_all_calls := (ex_glob X G ce (x := "_all_calls") (by decide +kernel))
    F_all_items := F24
    b_all_items := F24.binds (ps := ["world"]) fun _ _ _ _ _ _ us hl => match us, hl with | [_], _ => rfl
    m_all_items := (ex_glob X G ce (x := "all_items") (by decide +kernel))
    F_all_changes := F25
    b_all_changes := F25.binds (ps := ["world"]) fun _ _ _ _ _ _ us hl => match us, hl with | [_], _ => rfl
    m_all_changes := (ex_glob X G ce (x := "_all_changes") (by decide +kernel))
    F_Setup_init := F26
    b_Setup_init := F26.binds (ps := ["self", "world", "works", "room"]) fun _ _ _ _ _ _ us hl => match us, hl with | [_, _, _, _], _ => rfl
    F_Setup_world := F27
    b_Setup_world := F27.binds (ps := ["self"]) fun _ _ _ _ _ _ us hl => match us, hl with | [_], _ => rfl
    F_Setup_works := F28
    b_Setup_works := F28.binds (ps := ["self"]) fun _ _ _ _ _ _ us hl => match us, hl with | [_], _ => rfl
    F_Setup_places := F29
    b_Setup_places := F29.binds (ps := ["self"]) fun _ _ _ _ _ _ us hl => match us, hl with | [_], _ => rfl
    F_pot := F30
    b_pot := F30.binds (ps := ["_law_script", "_law_k"]) fun _ _ _ _ _ _ us hl => match us, hl with | [_, _], _ => rfl
    m_pot := (ex_glob X G ce (x := "_law_pot") (by decide +kernel))
    F_take := F31
    b_take := F31.binds (ps := ["_law_pot_here", "_law_many"]) fun _ _ _ _ _ _ us hl => match us, hl with | [_, _], _ => rfl
    m_take := (ex_glob X G ce (x := "_law_take") (by decide +kernel))
    F_of := F32
    b_of := F32.binds (ps := ["_law_pot_here", "_law_some_here"]) fun _ _ _ _ _ _ us hl => match us, hl with | [_, _], _ => rfl
    m_of := (ex_glob X G ce (x := "_law_of") (by decide +kernel))
    F_law_is_name := F33
    b_law_is_name := F33.binds (ps := ["_law_value"]) fun _ _ _ _ _ _ us hl => match us, hl with | [_], _ => rfl
    m_law_is_name := (ex_glob X G ce (x := "_law_is_name") (by decide +kernel))
    F_law_are_rising := F34
    b_law_are_rising := F34.binds (ps := ["_law_names"]) fun _ _ _ _ _ _ us hl => match us, hl with | [_], _ => rfl
    m_law_are_rising := (ex_glob X G ce (x := "_law_are_rising") (by decide +kernel))
    F_items := F35
    b_items := F35.binds (ps := ["_law_pot_here", "_law_size", "_law_most"]) fun _ _ _ _ _ _ us hl => match us, hl with | [_, _, _], _ => rfl
    m_items := (ex_glob X G ce (x := "_law_items") (by decide +kernel))
    F_some := F36
    b_some := F36.binds (ps := ["_law_pot_here", "_law_names", "_law_many"]) fun _ _ _ _ _ _ us hl => match us, hl with | [_, _, _], _ => rfl
    m_some := (ex_glob X G ce (x := "_law_some") (by decide +kernel))
    F_lore := F37
    b_lore := F37.binds (ps := ["_law_pot_here", "_law_sizes", "_law_upto"]) fun _ _ _ _ _ _ us hl => match us, hl with | [_, _, _], _ => rfl
    m_lore := (ex_glob X G ce (x := "_law_lore") (by decide +kernel))
    F_world := F38
    b_world := F38.binds (ps := ["_law_lore_here"]) fun _ _ _ _ _ _ us hl => match us, hl with | [_], _ => rfl
    m_world := (ex_glob X G ce (x := "_law_world") (by decide +kernel))
    F_is_from := F39
    b_is_from := F39.binds (ps := ["_law_value", "_law_low", "_law_high"]) fun _ _ _ _ _ _ us hl => match us, hl with | [_, _, _], _ => rfl
    m_is_from := (ex_glob X G ce (x := "_law_is_from") (by decide +kernel))
    F_law_are_works := F40
    b_law_are_works := F40.binds (ps := ["_law_value", "_law_has_rows"]) fun _ _ _ _ _ _ us hl => match us, hl with | [_, _], _ => rfl
    m_law_are_works := (ex_glob X G ce (x := "_law_are_works") (by decide +kernel))
    F_work_triple := F41
    b_work_triple := F41.binds (ps := ["_law_pot_here", "_law_name", "_law_has_rows"]) fun _ _ _ _ _ _ us hl => match us, hl with | [_, _, _], _ => rfl
    m_work_triple := (ex_glob X G ce (x := "_law_work_triple") (by decide +kernel))
    F_bent_works := F42
    b_bent_works := F42.binds (ps := ["_law_pot_here", "_law_works"]) fun _ _ _ _ _ _ us hl => match us, hl with | [_, _], _ => rfl
    m_bent_works := (ex_glob X G ce (x := "_law_bent_works") (by decide +kernel))
    F_told := F43
    b_told := F43.binds (ps := ["_law_world_here", "_law_works", "_law_room"]) fun _ _ _ _ _ _ us hl => match us, hl with | [_, _, _], _ => rfl
    m_told := (ex_glob X G ce (x := "_law_told") (by decide +kernel))
    F_right := F44
    b_right := F44.binds (ps := ["_law_pot_here"]) fun _ _ _ _ _ _ us hl => match us, hl with | [_], _ => rfl
    m_right := (ex_glob X G ce (x := "_law_right") (by decide +kernel))
    F_law := F45
    b_law := F45.binds (ps := ["_law_script"]) fun _ _ _ _ _ _ us hl => match us, hl with | [_], _ => rfl
    m_law := (ex_glob X G ce (x := "law") (by decide +kernel))
    m_TapeError := (ex_glob X G ce (x := "TapeError") (by decide +kernel))
    m_BadSetup := (ex_glob X G ce (x := "BadSetup") (by decide +kernel))
    m_World := (ex_glob X G ce (x := "World") (by decide +kernel))
    m_Setup := (ex_glob X G ce (x := "Setup") (by decide +kernel))
    g_isinstance := ex_free X G ce (x := "isinstance") (by decide +kernel)
    g_int := ex_free X G ce (x := "int") (by decide +kernel)
    g_bool := ex_free X G ce (x := "bool") (by decide +kernel)
    g_str := ex_free X G ce (x := "str") (by decide +kernel)
    g_len := ex_free X G ce (x := "len") (by decide +kernel)
    g_abs := ex_free X G ce (x := "abs") (by decide +kernel)
    g_repr := ex_free X G ce (x := "repr") (by decide +kernel)
    g_all := ex_free X G ce (x := "all") (by decide +kernel)
    g_range := ex_free X G ce (x := "range") (by decide +kernel)
    g_tuple := ex_free X G ce (x := "tuple") (by decide +kernel)
    g_list := ex_free X G ce (x := "list") (by decide +kernel)
    g_zip := ex_free X G ce (x := "zip") (by decide +kernel)
    g_enumerate := ex_free X G ce (x := "enumerate") (by decide +kernel)
    g_max := ex_free X G ce (x := "max") (by decide +kernel)
    g_min := ex_free X G ce (x := "min") (by decide +kernel)
    g_ValueError := ex_free X G ce (x := "ValueError") (by decide +kernel)
    E_BadSetup := errT_mk (excB_ok (er_at ce (c := ("BadSetup", "value")) (by decide +kernel)).1) (er_at ce (c := ("BadSetup", "value")) (by decide +kernel)).2 (F0.binds (ps := ["self", "value"]) fun _ _ _ _ _ _ us hl => match us, hl with | [_, _], _ => rfl) (kb_of F0 (fun _ _ _ _ _ _ _ _ => rfl)) (ex_glob X G ce (x := "BadSetup") (by decide +kernel))
    cls_World := clsB_ok h_cls.1
    mk_World := mkB_ok h_cls.2.1
    cls_Setup := clsB_ok h_cls.2.2.1
    mk_Setup := mkB_ok h_cls.2.2.2
    n_size := noatB_ok h_noa.1
    n_most := noatB_ok h_noa.2.1
    n_cells := noatB_ok h_noa.2.2.1
    n_rows := noatB_ok h_noa.2.2.2.1
    n_loose := noatB_ok h_noa.2.2.2.2.1
    n_cell_numbers := noatB_ok h_noa.2.2.2.2.2.1
    n_row_numbers := noatB_ok h_noa.2.2.2.2.2.2.1
    n_world := noatB_ok h_noa.2.2.2.2.2.2.2.1
    n_works := noatB_ok h_noa.2.2.2.2.2.2.2.2.1
    n_places := noatB_ok h_noa.2.2.2.2.2.2.2.2.2.1
    n_numbers := noatB_ok h_noa.2.2.2.2.2.2.2.2.2.2.1
    n_deeds := noatB_ok h_noa.2.2.2.2.2.2.2.2.2.2.2
    P_size := propB_ok h_prp.1
    P_most := propB_ok h_prp.2.1
    P_cells := propB_ok h_prp.2.2.1
    P_rows := propB_ok h_prp.2.2.2.1
    P_loose := propB_ok h_prp.2.2.2.2.1
    P_world := propB_ok h_prp.2.2.2.2.2.1
    P_works := propB_ok h_prp.2.2.2.2.2.2.1
    P_places := propB_ok h_prp.2.2.2.2.2.2.2
    M_cell_number := methB_ok h_mth
    kcl := (isiB_ok h_isi.1).1
    kgs := He.eqO_ok h_isi.2.1
    ktk := of_decide_eq_true h_isi.2.2
    c_MOST_LETTERS := He.int_ok X G h_cst.1
    c_LETTERS := He.str_ok X G h_cst.2.1
    c_MOST_CELLS := He.int_ok X G h_cst.2.2.1
    c_MOST_ROWS := He.int_ok X G h_cst.2.2.2.1
    c_MOST_WORKS := He.int_ok X G h_cst.2.2.2.2.1
    c_MOST_VALUES := He.int_ok X G h_cst.2.2.2.2.2
    kob := (isiB_ok h_isi.1).2
    eqc := ⟨He.eqO_ok h_eqs.1, h_eqs.2.1, He.eqO_ok h_eqs.2.2.1, of_decide_eq_true h_eqs.2.2.2.1, h_eqs.2.2.2.2.1, h_eqs.2.2.2.2.2.1, h_eqs.2.2.2.2.2.2⟩
    kit := mroB_kit mr.1
    kte := mroB_te mr.1
    kve := mroB_ve mr.1
    xte := mroB_xte mr.1 (of_decide_eq_true mr.2)
    dc_work_triple := code_of F41 (tabB_ok (ex_tab ce)).1
    F_World_init := ⟨_, FW⟩
    b_World_init := HX.FunD.bindsAll (ps := ["self", "size", "most", "cells", "rows", "loose"]) FW fun _ _ _ _ _ _ _ us its h1 h2 => match us, its, h1, h2 with | [_, _, _, _, _, _], [_], _, _ => ⟨_, rfl, rfl⟩ }
  refine ⟨_, _, rfl, rfl, fun s v => ?_, fun base _ _ TB => ok_law T TB⟩
  obtain ⟨oc, od, kV, doc, pm, an, cdv, ct, osl, e2, lk, hcd⟩ := F45.ex
  rw [e2]
  exact .of_eq rfl
end K25
open PySem PySem.W PyProof.Rows
set_option maxRecDepth 100000 in
set_option maxHeartbeats 0 in
theorem PySem.Challenge.cw_tapedonce_k25_setups_refused_holds : PySem.Challenge.rw_tapedonce_k25_setups_refused.Holds := by
  w_on; o_law
  refine HandSHeadRun.head_any (r := OpenLaw.row PySem.Challenge.rw_tapedonce_k25_setups_refused) (q := view (OpenLaw.row PySem.Challenge.rw_tapedonce_k25_setups_refused).prog [45, 49]) (H := HX.hookY 5 K25.ex K25.fnl K25.fnd) (ob := HX.obTY 5 K25.ex K25.fnl K25.fnd) (M := 9400) (loose := K25.names) (d := HandSHeadRun.topDef (OpenLaw.row PySem.Challenge.rw_tapedonce_k25_setups_refused).prog 49) (kwd := []) HX.obTY_eq
    (by kernel_rfl) (fun s => by kernel_rfl) K25.run (by kernel_rfl) (by kernel_rfl) (by kernel_rfl) (by rfl) (by first | assumption | decide +kernel) (by decide +kernel) ⟨rfl, rfl, rfl, rfl, rfl, by decide +kernel⟩ ?hw ?hc
  case hw => w_witness2
  case hc =>
    refine HX.walk_GX (l := PySem.Challenge.rw_tapedonce_k25_setups_refused) (n := 63) (k := 10) (x := "_law_script") (CX := fun _ => L2.CX0) rfl (by decide) (by kernel_rfl) ⟨rfl, by decide, by decide⟩ ?F (fun _ _ _ _ _ z => z)
    intro w mg fa h Y G hmg0
    obtain ⟨K, KX, c⟩ := Y
    have hmg : mg ("law" : PySem.Str) = some (.ref fa) := by
      have e : (HandSHeadRun.topDef (OpenLaw.row PySem.Challenge.rw_tapedonce_k25_setups_refused).prog 49).name = ("law" : PySem.Str) := by kernel_rfl
      rw [← e]
      exact hmg0
    have ct := HX.tabB_ok (K25.ex_tab c.facts)
    obtain ⟨fd, A, e1, e2, hb, hF⟩ := K25.facts (P := (PySem.Challenge.rw_tapedonce_k25_setups_refused).prog) (w := w) KX G hmg c
    have e12 : (A.c_work_triple, A.P_work_triple) = (HX.cod "_law_work_triple" K, HX.tbl "_law_work_triple" K) := by rw [e1, e2]
    refine ⟨K, fd, [(A.c_work_triple, A.P_work_triple)], K25.spLaw K A, KX, List.forall_mem_singleton.mpr ⟨"_law_work_triple", by kernel_rfl, ?_⟩, List.forall_mem_singleton.mpr ?_, hb, fun H a ns hl hS ht => ⟨a, ns, rfl, hS, hl, ?_, fun _ => rfl⟩, fun base hK hN tb => hF base hK hN (tb _ (List.mem_singleton.mpr rfl))⟩
    · rw [e12]; exact ct.1
    · rw [e2]; exact ct.2
    · exact fun p hp => by
        have e : p = _ := List.mem_singleton.mp hp
        rw [e]
        exact LamX.TabS.nil (ht _ (List.mem_singleton.mpr rfl))


