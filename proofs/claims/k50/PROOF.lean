import PyProof.Rows.All
import Wide.All
import OpenK.AllK
import Wide.FinOn
import PyProof.EqAt
import PyProof.EqKinds
import PyProof.TupleCall
import PyProof.NeKinds
import PyProof.TwoTypesSub
import HandS.Base
import HandS.Call
import HandS.List
import KE.KOpsOwn
import PyProof.ReprRoads
import PyProof.AutoIntOps
import HandS.Words
import HandS.Ends
import HandS.Comp
import HandS.Lambda
import HandS.Exc
import HandS.ExcInit
import HandS.ExcOwn
import HandS.ExcField
import HandS.IsInst
import HandS.Property
import HandS.Dict
import HandS.Iter
import HandS.WordsExc
import HandS.WordsDict
import HandS.WordsList
import HandS.MakeKw
import PyProof.ReprLen
import HandS.ExcIs
import HandS.ExcValue
import KE.KExcIs
import HandS.MakeKwOnly
import HandS.Walk
import HandS.EndTab
import HandS.SetFor
import HandS.Head0
import HandS.Head1
import HandS.Head2
import HandS.HeadHook1
import HandS.HeadHook2
import KE.GoesEnum
import HandS.Zip
import HandS.Star
import HandS.DictComp
import HandS.TupMul
import HandS.TupAny
import HandS.Small
import HandS.Defaults
import HandS.More
import PyProof.InstNe
import KE.KRevSl
import PyProof.ReprReads
import PyProof.PureStr
import PyProof.P3Statements
import KE.KEqDict
import PyProof.TupleOfStr
import PyProof.ListStr
import HandS.Text
import HandS.Conv
import PySem.Challenge.RW_tapedonce_k50_prices_of_plans
set_option Elab.async false
set_option linter.all false
set_option maxRecDepth 100000
set_option maxHeartbeats 4400000
/-! operators between instances of an own class and ints, both ways -/
namespace HX
open PySem PySem.W PySem.Spec PySem.Calls PyProof.Rows
/-- the builtin declines the plain object at x -/
def Decl (B : Builtin) : Prop := ∀ (i : Int) (t : Tok) (x : Addr) (c : Value) (dd : Option Addr) (sl : Array (Option Value)),
  Meets (B ⟨[.int i t, .ref x], []⟩) (fun _ R s => s.heap.get? x = some { cls := c, dict := dd, data := .plain, slots := sl } ∧ R (.ok (.ret .notImplemented)) s)
theorem decl_add : Decl Builtin.«int.__add__» := fun i t x c dd sl => .of_wp fun prog w A R s h => by obtain ⟨hp, g, d, tk, os⟩ := s; obtain ⟨hl, h⟩ := h; wp_walk using AutoSeq1.wpAny_loadPart' hl, wpAny_load hl; exact ⟨_, rfl, h⟩
theorem decl_sub : Decl Builtin.«int.__sub__» := fun i t x c dd sl => .of_wp fun prog w A R s h => by obtain ⟨hp, g, d, tk, os⟩ := s; obtain ⟨hl, h⟩ := h; wp_walk using AutoSeq1.wpAny_loadPart' hl, wpAny_load hl; exact ⟨_, rfl, h⟩
theorem decl_mul : Decl Builtin.«int.__mul__» := fun i t x c dd sl => .of_wp fun prog w A R s h => by obtain ⟨hp, g, d, tk, os⟩ := s; obtain ⟨hl, h⟩ := h; wp_walk using AutoSeq1.wpAny_loadPart' hl, wpAny_load hl; exact ⟨_, rfl, h⟩
theorem decl_floordiv : Decl Builtin.«int.__floordiv__» := fun i t x c dd sl => .of_wp fun prog w A R s h => by obtain ⟨hp, g, d, tk, os⟩ := s; obtain ⟨hl, h⟩ := h; wp_walk using AutoSeq1.wpAny_loadPart' hl, wpAny_load hl; exact ⟨_, rfl, h⟩
theorem decl_eq : Decl Builtin.«int.__eq__» := fun i t x c dd sl => .of_wp fun prog w A R s h => by obtain ⟨hp, g, d, tk, os⟩ := s; obtain ⟨hl, h⟩ := h; wp_walk using AutoSeq1.wpAny_loadPart' hl, wpAny_load hl; exact ⟨_, rfl, h⟩
theorem decl_ne : Decl Builtin.«int.__ne__» := fun i t x c dd sl => .of_wp fun prog w A R s h => by obtain ⟨hp, g, d, tk, os⟩ := s; obtain ⟨hl, h⟩ := h; wp_walk using AutoSeq1.wpAny_loadPart' hl, wpAny_load hl; exact ⟨_, rfl, h⟩
theorem decl_lt : Decl Builtin.«int.__lt__» := fun i t x c dd sl => .of_wp fun prog w A R s h => by obtain ⟨hp, g, d, tk, os⟩ := s; obtain ⟨hl, h⟩ := h; wp_walk using AutoSeq1.wpAny_loadPart' hl, wpAny_load hl; exact ⟨_, rfl, h⟩
theorem decl_le : Decl Builtin.«int.__le__» := fun i t x c dd sl => .of_wp fun prog w A R s h => by obtain ⟨hp, g, d, tk, os⟩ := s; obtain ⟨hl, h⟩ := h; wp_walk using AutoSeq1.wpAny_loadPart' hl, wpAny_load hl; exact ⟨_, rfl, h⟩
theorem decl_gt : Decl Builtin.«int.__gt__» := fun i t x c dd sl => .of_wp fun prog w A R s h => by obtain ⟨hp, g, d, tk, os⟩ := s; obtain ⟨hl, h⟩ := h; wp_walk using AutoSeq1.wpAny_loadPart' hl, wpAny_load hl; exact ⟨_, rfl, h⟩
theorem decl_ge : Decl Builtin.«int.__ge__» := fun i t x c dd sl => .of_wp fun prog w A R s h => by obtain ⟨hp, g, d, tk, os⟩ := s; obtain ⟨hl, h⟩ := h; wp_walk using AutoSeq1.wpAny_loadPart' hl, wpAny_load hl; exact ⟨_, rfl, h⟩
end HX
set_option Elab.async false
set_option linter.all false
set_option maxRecDepth 100000
set_option maxHeartbeats 4400000
namespace HX
open PySem PySem.W PySem.Spec PySem.Calls PyProof.Rows
section
variable {prog : Program} {w : World} {A : Around} {E : Value → Shared → Prop} {s : Shared} {K : Frag} {x C L f g : Addr} {h₀ : Heap} {m : Str → Option Value} {ox : Obj} {od : Option Obj}
theorem looks_nip {M : Model} {h : Heap} {nm : String} (X : K.In h) (hs : findIn K (.ref C) (PySem.dunder nm) = some (some (.ref f))) (hr : findIn K (.ref C) (dunderR nm) = some (some (.ref g))) : Looks M h (numberSlotInPython (.ref C) nm) true := by
  intro A Q E s k q
  unfold numberSlotInPython
  refine wpAny_bind (looks_findIn X hs A _ E s k (wpAny_bind (wpAny_pure ?_)))
  refine wpAny_bind (looks_findIn X hr A _ E s k (wpAny_bind (wpAny_pure ?_)))
  simp only [Bool.or_true, if_true]
  exact wpAny_pure q
theorem binop1_KI {nm : String} {i : Int} {t : Tok} {idr : String} {Q : Option Value → Shared → Prop} (F : Fr h₀ L s.heap m) (X₀ : K.In h₀) (I : InstAt s.heap x ox C od) (hc : selfFirst K C = true)
    (hs : findIn K (.ref C) (PySem.dunder nm) = some (some (.ref f))) (hf : isFn K (.ref f) = true) (hr : findIn K (.ref C) (dunderR nm) = some (some (.ref g)))
    (hfi : fillsNumberSlot (.type "int") nm = pure true) (hni : subIn K (.type "int") (.ref C) = some false) (hri : typeLookup (.type "int") (dunderR nm) = pure (some (.builtin idr)))
    (h : wpAny (model prog w) A (call (.ref f) [.ref x, .int i t]) (W.CmpBack fun v s' => Q (some v) s') E s) : wpAny (model prog w) A (binaryOp1 nm (.ref x) (.int i t)) Q E s := by
  have X := X₀.keeps F.keep
  obtain ⟨cd, rest, hcd, hm⟩ := ksp_first hc
  have hpy : numberSlotInPython (.type "int") nm = pure false := rfl
  have hne : (Value.ref C == Value.type "int") = false := by simp
  unfold binaryOp1
  refine wpAny_bind (I.type.here (wpAny_bind (wpAny_typeOf (typeIs_int s i t) (wpAny_bind ((fills_K X hcd hm hs).here ?_))))); simp only [hne, Bool.false_eq_true, if_false]
  refine wpAny_bind (wpAny_of_eq hfi ?_); simp only [Bool.and_self, if_true]
  refine wpAny_bind ((looks_subIn X hni).here ?_)
  simp only [Bool.false_eq_true, if_false, pure_bind, Bool.not_false, Bool.and_self, if_true]
  refine wpAny_bind ((looks_nip X hs hr).here ?_)
  simp only [hpy, pure_bind, if_true, Bool.not_false]
  refine wpAny_bind (wpAny_of_eq hri ?_)
  unfold tryMethod
  refine wpAny_bind (wpAny_bind (special_fn X I hs (beq_iff_eq.mp hf) (wpAny_mono h (fun v s' hv => ?_) fun _ _ e => e)))
  cases v <;> first | exact hv.elim | exact wpAny_pure (wpAny_pure hv)
theorem binop_KI {op : Operator} {i : Int} {t : Tok} {idr : String} {Q : Value → Shared → Prop} (F : Fr h₀ L s.heap m) (X₀ : K.In h₀) (I : InstAt s.heap x ox C od) (hc : selfFirst K C = true)
    (hs : findIn K (.ref C) (PySem.dunder op.info.2) = some (some (.ref f))) (hf : isFn K (.ref f) = true) (hr : findIn K (.ref C) (dunderR op.info.2) = some (some (.ref g)))
    (hfi : fillsNumberSlot (.type "int") op.info.2 = pure true) (hni : subIn K (.type "int") (.ref C) = some false) (hri : typeLookup (.type "int") (dunderR op.info.2) = pure (some (.builtin idr)))
    (h : wpAny (model prog w) A (call (.ref f) [.ref x, .int i t]) (W.CmpBack Q) E s) : wpAny (model prog w) A (binaryOp op (.ref x) (.int i t)) Q E s := by
  unfold binaryOp; refine wpAny_holding (wpAny_bind ?_)
  refine binop1_KI F X₀ I hc hs hf hr hfi hni hri (wpAny_mono h (fun v s' hv => ?_) fun _ _ e => e)
  cases v <;> first | exact hv.elim | exact wpAny_pure hv
/-- int op instance: the reflected method -/
theorem binop1_IK {nm : String} {i : Int} {t : Tok} {id : String} {B : Builtin} {Q : Option Value → Shared → Prop} (F : Fr h₀ L s.heap m) (X₀ : K.In h₀) (I : InstAt s.heap x ox C od) (hp : ox.data = .plain) (hc : selfFirst K C = true)
    (hs : findIn K (.ref C) (PySem.dunder nm) = some (some (.ref g))) (hr : findIn K (.ref C) (dunderR nm) = some (some (.ref f))) (hf : isFn K (.ref f) = true)
    (hfi : fillsNumberSlot (.type "int") nm = pure true) (hni : subIn K (.ref C) (.type "int") = some false) (slot : Slot "int" (PySem.dunder nm) id) (entry : entryFor table id = some B) (args : ∀ a b, argsOk id ⟨[a, b], []⟩) (D : Decl B)
    (h : wpAny (model prog w) A (call (.ref f) [.ref x, .int i t]) (W.CmpBack fun v s' => Q (some v) s') E s) : wpAny (model prog w) A (binaryOp1 nm (.int i t) (.ref x)) Q E s := by
  have X := X₀.keeps F.keep
  obtain ⟨cd, rest, hcd, hm⟩ := ksp_first hc
  have hpy : numberSlotInPython (.type "int") nm = pure false := rfl
  have hne : (Value.type "int" == Value.ref C) = false := by simp
  obtain ⟨oc, odd, odt, osl⟩ := ox
  simp only at hp
  subst hp
  have hx := I.at_
  unfold binaryOp1
  refine wpAny_bind (wpAny_typeOf (typeIs_int s i t) (wpAny_bind (I.type.here (wpAny_bind (wpAny_of_eq hfi ?_))))); simp only [hne, Bool.false_eq_true, if_false]
  refine wpAny_bind ((fills_K X hcd hm hs).here ?_); simp only [Bool.and_self, if_true]
  refine wpAny_bind ((looks_subIn X hni).here ?_); simp only [hpy, Bool.false_eq_true, if_false, pure_bind, Bool.not_false, Bool.and_self, if_true]
  refine wpAny_bind (wpAny_tryMethod_declines (typeIs_int s i t) slot (call_meets slot (typeIs_int s i t) entry (args _ _) (D i t x _ _ _) ⟨hx, ?_⟩))
  refine ⟨rfl, ?_⟩
  unfold tryMethod
  refine wpAny_bind (wpAny_bind (special_fn X I hr (beq_iff_eq.mp hf) (wpAny_mono h (fun v s' hv => ?_) fun _ _ e => e)))
  cases v <;> first | exact hv.elim | exact wpAny_pure (wpAny_bind (wpAny_rule (wpAny_pure hv)))
theorem binop_IK {op : Operator} {i : Int} {t : Tok} {id : String} {B : Builtin} {Q : Value → Shared → Prop} (F : Fr h₀ L s.heap m) (X₀ : K.In h₀) (I : InstAt s.heap x ox C od) (hp : ox.data = .plain) (hc : selfFirst K C = true)
    (hs : findIn K (.ref C) (PySem.dunder op.info.2) = some (some (.ref g))) (hr : findIn K (.ref C) (dunderR op.info.2) = some (some (.ref f))) (hf : isFn K (.ref f) = true)
    (hfi : fillsNumberSlot (.type "int") op.info.2 = pure true) (hni : subIn K (.ref C) (.type "int") = some false) (slot : Slot "int" (PySem.dunder op.info.2) id) (entry : entryFor table id = some B) (args : ∀ a b, argsOk id ⟨[a, b], []⟩) (D : Decl B)
    (h : wpAny (model prog w) A (call (.ref f) [.ref x, .int i t]) (W.CmpBack Q) E s) : wpAny (model prog w) A (binaryOp op (.int i t) (.ref x)) Q E s := by
  unfold binaryOp; refine wpAny_holding (wpAny_bind ?_)
  refine binop1_IK F X₀ I hp hc hs hr hf hfi hni slot entry args D (wpAny_mono h (fun v s' hv => ?_) fun _ _ e => e)
  cases v <;> first | exact hv.elim | exact wpAny_pure hv
/-- int < instance: the reflected comparison -/
theorem cmp_IK {op : CmpOp} {i : Int} {t : Tok} {id : String} {B : Builtin} {Q : Value → Shared → Prop} (hu : A.units < cLine) (F : Fr h₀ L s.heap m) (X₀ : K.In h₀) (I : InstAt s.heap x ox C od) (hp : ox.data = .plain)
    (hr : findIn K (.ref C) (cmpInfo op).2.2 = some (some (.ref f))) (hf : isFn K (.ref f) = true) (hni : subIn K (.ref C) (.type "int") = some false)
    (slot : Slot "int" (cmpInfo op).2.1 id) (entry : entryFor table id = some B) (args : ∀ a b, argsOk id ⟨[a, b], []⟩) (D : Decl B)
    (h : wpAny (model prog w) A (call (.ref f) [.ref x, .int i t]) (W.CmpBack Q) E s) : wpAny (model prog w) A (richCompare op (.int i t) (.ref x)) Q E s := by
  have X := X₀.keeps F.keep
  have hne : (Value.type "int" != Value.ref C) = true := by simp
  obtain ⟨oc, odd, odt, osl⟩ := ox
  simp only at hp
  subst hp
  have hx := I.at_
  have one : wpAny (model prog w) A (tryCompare (.ref x) (cmpInfo op).2.2 (.int i t)) (fun r s' => ∃ v, r = some v ∧ Q v s') E s := by
    unfold tryCompare
    refine wpAny_bind (ifBound_K X I hr hf (wpAny_mono h (fun v s' hv => ?_) fun _ _ e => e)); cases v <;> first | exact hv.elim | exact wpAny_pure ⟨_, rfl, hv⟩
  unfold richCompare
  have ho : oneThing? op (.int i t) (.ref x) = none := by cases op <;> rfl
  simp only [ho]; refine wpAny_holding (wpAny_bind (wpAny_cRoomFor hu ?_))
  refine wpAny_bind (wpAny_typeOf (typeIs_int s i t) (wpAny_bind (I.type.here ?_)))
  rw [if_pos hne]
  refine wpAny_bind ((looks_subIn X hni).here ?_); simp only [Bool.false_eq_true, if_false, Bool.not_false, if_true]
  refine wpAny_bind (wpAny_tryCompare_declines (typeIs_int s i t) slot (call_meets slot (typeIs_int s i t) entry (args _ _) (D i t x _ _ _) ⟨hx, ?_⟩))
  refine ⟨rfl, wpAny_bind (wpAny_mono one (fun r s' z => ?_) fun _ _ e => e)⟩
  obtain ⟨v, rfl, hq⟩ := z
  exact wpAny_pure hq
end
end HX
set_option Elab.async false
set_option linter.all false
set_option maxRecDepth 100000
set_option maxHeartbeats 4400000
namespace HX
open L2 PyProof.Rows PySem.Spec PySem
section
variable {X : Cx}
/-- what stands behind a method's call is never NotImplemented -/
theorem ep_back {pins : List (Addr × Obj)} {σ : L2.St} {Q : VK} {u : Value} {s' : Shared} (h : EP X pins σ Q u s') : PySem.W.CmpBack (EP X pins σ Q) u s' := by
  have h' := h
  obtain ⟨v, H', I', r, q⟩ := h
  have ne : u ≠ .notImplemented := by
    intro z
    subst z
    cases v <;> first | (obtain ⟨t, z⟩ := r; cases z; done) | cases r
  cases u <;> first | exact absurd rfl ne | exact h'
/-- the facts of an int's operator -/
structure IntOp (op : Operator) : Prop where
  fi : fillsNumberSlot (.type "int") op.info.2 = pure true
  ri : ∃ idr, typeLookup (.type "int") (dunderR op.info.2) = pure (some (.builtin idr))
  le : ∃ (id : String) (B : Builtin), Slot "int" (PySem.dunder op.info.2) id ∧ entryFor table id = some B ∧ (∀ a b, argsOk id ⟨[a, b], []⟩) ∧ Decl B
theorem io_add : IntOp .Add := ⟨F.fills_int_add, ⟨_, F.slot_int_radd.lookup⟩, _, _, F.slot_int_add, F.entry_int_add, F.args_int_add_2, decl_add⟩
theorem io_sub : IntOp .Sub := ⟨F.fills_int_sub, ⟨_, F.slot_int_rsub.lookup⟩, _, _, F.slot_int_sub, F.entry_int_sub, F.args_int_sub_2, decl_sub⟩
theorem io_mul : IntOp .Mult := ⟨F.fills_int_mul, ⟨_, F.slot_int_rmul.lookup⟩, _, _, F.slot_int_mul, F.entry_int_mul, F.args_int_mul_2, decl_mul⟩
theorem io_fdv : IntOp .FloorDiv := ⟨F.fills_int_floordiv, ⟨_, F.slot_int_rfloordiv.lookup⟩, _, _, F.slot_int_floordiv, F.entry_int_floordiv, F.args_int_floordiv_2, decl_floordiv⟩
structure IntCmp (op : CmpOp) : Prop where
  le : ∃ (id : String) (B : Builtin), Slot "int" (cmpInfo op).2.1 id ∧ entryFor table id = some B ∧ (∀ a b, argsOk id ⟨[a, b], []⟩) ∧ Decl B
theorem ic_eq : IntCmp .Eq := ⟨_, _, F.slot_int_eq, F.entry_int_eq, F.args_int_eq_2, decl_eq⟩
theorem ic_ne : IntCmp .NotEq := ⟨_, _, F.slot_int_ne, F.entry_int_ne, F.args_int_ne_2, decl_ne⟩
theorem ic_lt : IntCmp .Lt := ⟨_, _, F.slot_int_lt, F.entry_int_lt, F.args_int_lt_2, decl_lt⟩
theorem ic_le : IntCmp .LtE := ⟨_, _, F.slot_int_le, F.entry_int_le, F.args_int_le_2, decl_le⟩
theorem ic_gt : IntCmp .Gt := ⟨_, _, F.slot_int_gt, F.entry_int_gt, F.args_int_gt_2, decl_gt⟩
theorem ic_ge : IntCmp .GtE := ⟨_, _, F.slot_int_ge, F.entry_int_ge, F.args_int_ge_2, decl_ge⟩
/-- the class's own operator and its reflected one -/
structure ArC (K : PySem.W.Frag) (C : Addr) (op : Operator) (f g : Addr) : Prop where
  sf : PySem.W.selfFirst K C = true
  hs : PySem.W.findIn K (.ref C) (PySem.dunder op.info.2) = some (some (.ref f))
  hf : PySem.W.isFn K (.ref f) = true
  hr : PySem.W.findIn K (.ref C) (dunderR op.info.2) = some (some (.ref g))
  hg : PySem.W.isFn K (.ref g) = true
  n1 : PySem.W.subIn K (.type "int") (.ref C) = some false
  n2 : PySem.W.subIn K (.ref C) (.type "int") = some false
def isI (C : Addr) (H : Hp) (x : V) : Prop := ∃ a dx fs, x = .ref a ∧ H a = some (.ins C dx fs)
theorem isI_inst {pins : List (Addr × Obj)} {σ : L2.St} {H : Hp} {s : Shared} {C a dx : Addr} {fs : List (Str × V)} (I : Inv X pins σ H s) (e : H a = some (.ins C dx fs)) : ∃ od, PySem.W.InstAt s.heap a (PySem.W.instObj C dx) C od := by
  obtain ⟨mA, O, _⟩ := ins_get I.hok e
  obtain ⟨od, J, _⟩ := O.look
  exact ⟨_, J⟩
/-- x op y, one of the two at least an instance of the class at C, the other one too, or an int -/
def rOwn (C : Addr) (sp spR : Sp) (E : XK) : R2 := fun x y H Q => (isI C H x ∧ (isI C H y ∨ ∃ i, y = .int i) ∧ sp [x, y] H Q E) ∨ (isI C H y ∧ (∃ i, x = .int i) ∧ spR [y, x] H Q E)
theorem op_own {op : Operator} {CX : CXT} {C f g : Addr} {k : Nat} {fd gd : FuncData} {ps ps' : List Str} {sp spR : Sp} {E : XK} (IO : IntOp op) (T : ArC X.K C op f g) (F1 : FnOk X.prog X.w X.K X.mg X.base CX k f fd ps sp) (b1 : Binds X.K fd ps [])
    (F2 : FnOk X.prog X.w X.K X.mg X.base CX k g gd ps' spR) (b2 : Binds X.K gd ps' []) (hr : Room k X.A) (hx : Passes CX X E) : OpR X (binaryOp op) (rOwn C sp spR E) := by
  intro pins s σ H x y v u; intro Q I rx ry h
  obtain ⟨m, hF⟩ := I.fr
  rcases h with ⟨⟨a, dx, fs, rfl, ea⟩, hy, q⟩ | ⟨⟨b, dx, fs, rfl, eb⟩, ⟨i, rfl⟩, q⟩
  · obtain ⟨od, J⟩ := isI_inst I ea
    cases (id rx : v = Value.ref a)
    rcases hy with ⟨b, dy, gs, rfl, eb⟩ | ⟨i, rfl⟩
    · obtain ⟨od', J'⟩ := isI_inst I eb
      cases (id ry : u = Value.ref b)
      exact PySem.W.binop_K hF I.ok.mod.kin J J'.type T.sf T.hs T.hf (thn (run_fn (us := [.ref a, .ref b]) (vs := [.ref a, .ref b]) F1 hr b1 .nil hx I (.cons rfl (.cons rfl .nil)) q) fun u s' z => ep_back z)
    · obtain ⟨t, e⟩ := (show ∃ t, u = Value.int i t from ry)
      subst e
      obtain ⟨idr, ri⟩ := IO.ri
      exact binop_KI hF I.ok.mod.kin J T.sf T.hs T.hf T.hr IO.fi T.n1 ri (thn (run_fn (us := [.ref a, .int i t]) (vs := [.ref a, .int i]) F1 hr b1 .nil hx I (.cons rfl (.cons ⟨t, rfl⟩ .nil)) q) fun u s' z => ep_back z)
  · obtain ⟨od, J⟩ := isI_inst I eb
    cases (id ry : u = Value.ref b)
    obtain ⟨t, e⟩ := (show ∃ t, v = Value.int i t from rx)
    subst e
    obtain ⟨id, B, sl, en, ar, D⟩ := IO.le
    exact binop_IK hF I.ok.mod.kin J rfl T.sf T.hs T.hr T.hg IO.fi T.n2 sl en ar D (thn (run_fn (us := [.ref b, .int i t]) (vs := [.ref b, .int i]) F2 hr b2 .nil hx I (.cons rfl (.cons ⟨t, rfl⟩ .nil)) q) fun u s' z => ep_back z)
structure CmC (K : PySem.W.Frag) (C : Addr) (op : CmpOp) (f g : Addr) : Prop where
  hs : PySem.W.findIn K (.ref C) (cmpInfo op).2.1 = some (some (.ref f))
  hf : PySem.W.isFn K (.ref f) = true
  hr : PySem.W.findIn K (.ref C) (cmpInfo op).2.2 = some (some (.ref g))
  hg : PySem.W.isFn K (.ref g) = true
  nc : PySem.W.notFirst K C (.ref C) = true
  n1 : PySem.W.notFirst K C (.type "int") = true
  n2 : PySem.W.subIn K (.ref C) (.type "int") = some false
theorem op_cmpW {op : CmpOp} {CX : CXT} {C f g : Addr} {k : Nat} {fd gd : FuncData} {ps ps' : List Str} {sp spR : Sp} {E : XK} (IO : IntCmp op) (T : CmC X.K C op f g) (F1 : FnOk X.prog X.w X.K X.mg X.base CX k f fd ps sp) (b1 : Binds X.K fd ps [])
    (F2 : FnOk X.prog X.w X.K X.mg X.base CX k g gd ps' spR) (b2 : Binds X.K gd ps' []) (hr : Room k X.A) (hx : Passes CX X E) : OpR X (richCompare op) (rOwn C sp spR E) := by
  intro pins s σ H x y v u; intro Q I rx ry h
  obtain ⟨m, hF⟩ := I.fr
  have hu := hr.units0
  rcases h with ⟨⟨a, dx, fs, rfl, ea⟩, hy, q⟩ | ⟨⟨b, dx, fs, rfl, eb⟩, ⟨i, rfl⟩, q⟩
  · obtain ⟨od, J⟩ := isI_inst I ea
    cases (id rx : v = Value.ref a)
    rcases hy with ⟨b, dy, gs, rfl, eb⟩ | ⟨i, rfl⟩
    · obtain ⟨od', J'⟩ := isI_inst I eb
      cases (id ry : u = Value.ref b)
      exact PySem.W.cmp_K hu hF I.ok.mod.kin J J'.type T.nc T.hs T.hf (thn (run_fn (us := [.ref a, .ref b]) (vs := [.ref a, .ref b]) F1 hr b1 .nil hx I (.cons rfl (.cons rfl .nil)) q) fun u s' z => ep_back z)
    · obtain ⟨t, e⟩ := (show ∃ t, u = Value.int i t from ry)
      subst e
      exact PySem.W.cmp_K hu hF I.ok.mod.kin J (fun A Q E s k q => wpAny_typeOf (typeIs_int s i t) q) T.n1 T.hs T.hf (thn (run_fn (us := [.ref a, .int i t]) (vs := [.ref a, .int i]) F1 hr b1 .nil hx I (.cons rfl (.cons ⟨t, rfl⟩ .nil)) q) fun u s' z => ep_back z)
  · obtain ⟨od, J⟩ := isI_inst I eb
    cases (id ry : u = Value.ref b)
    obtain ⟨t, e⟩ := (show ∃ t, v = Value.int i t from rx)
    subst e
    obtain ⟨id, B, sl, en, ar, D⟩ := IO.le
    exact cmp_IK hu hF I.ok.mod.kin J rfl T.hr T.hg T.n2 sl en ar D (thn (run_fn (us := [.ref b, .int i t]) (vs := [.ref b, .int i]) F2 hr b2 .nil hx I (.cons rfl (.cons ⟨t, rfl⟩ .nil)) q) fun u s' z => ep_back z)
/-- -x of an own class -/
def rNegO (C : Addr) (sp : Sp) (E : XK) : V → Hp → VK → Prop := fun x H Q => isI C H x ∧ sp [x] H Q E
theorem un_negO {CX : CXT} {C f : Addr} {k : Nat} {fd : FuncData} {ps : List Str} {sp : Sp} {E : XK} (hs : PySem.W.findIn X.K (.ref C) "__neg__" = some (some (.ref f))) (hf : PySem.W.isFn X.K (.ref f) = true) (F1 : FnOk X.prog X.w X.K X.mg X.base CX k f fd ps sp)
    (b1 : Binds X.K fd ps []) (hr : Room k X.A) (hx : Passes CX X E) : UnR X (unaryOp .USub) (rNegO C sp E) := by
  intro pins s σ H x v Q I rx h
  obtain ⟨m, hF⟩ := I.fr
  obtain ⟨⟨a, dx, fs, rfl, ea⟩, q⟩ := h
  obtain ⟨od, J⟩ := isI_inst I ea
  cases (id rx : v = Value.ref a)
  exact PySem.W.ksp_neg hF I.ok.mod.kin J hs hf (run_fn (us := [.ref a]) (vs := [.ref a]) F1 hr b1 .nil hx I (.cons rfl .nil) q)
end
end HX
set_option Elab.async false
set_option linter.all false
set_option maxRecDepth 100000
set_option maxHeartbeats 4400000
namespace HX
open L2 PyProof.Rows PySem.Spec PySem
/-- a def's promise where no repr is under way around the call -/
structure FnG (P : Program) (w : World) (K : PySem.W.Frag) (mg : Str → Option Value) (base : Heap) (CX : CXT) (k : Nat) (f : Addr) (fd : FuncData) (ps : List Str) (sp : Sp) : Prop where
  ln : ∀ vs H Q E, sp vs H Q E → vs.length = ps.length
  go : ∀ (A : Around) (outer : List Env) (s : Shared) (H : Hp) (args : Args) (us : List Value) (vs : List V) (Q : VK) (E : XK), A.guards = some [] → Room k A → Env0 P w K mg base A outer s H → BindsTo s fd args (ps.zip us) → Vals vs us →
    sp vs H Q E → codeAny (model P w) A (.call (.ref f) args) (CR CX outer P w H s Q E) s
theorem FnG.of {P : Program} {w : World} {K : PySem.W.Frag} {mg : Str → Option Value} {base : Heap} {CX : CXT} {k : Nat} {f : Addr} {fd : FuncData} {ps : List Str} {sp : Sp} (F : FnOk P w K mg base CX k f fd ps sp) : FnG P w K mg base CX k f fd ps sp :=
  ⟨F.len, fun A o s H args us vs Q E _ => F.run A o s H args us vs Q E⟩
/-- a def by its body, for FnG; exceptions may leave -/
theorem okG {CX : CXT} {P : Program} {w : World} {K : PySem.W.Frag} {mg : Str → Option Value} {base : Heap} {x qual : Str} {st : Stmt} {f : Addr} {fd : FuncData} {N ps : List Str} {k : Nat} {sp : Sp} (F : Fun K x qual st f fd) (S : FnScope N ps (defScope st)) (len : ∀ vs H Q E, sp vs H Q E → vs.length = ps.length)
    (hbody : ∀ (cdv : Value) (A : Around) (outer : List Env) (s : Shared) (H : Hp) (vs : List V) (Q : VK) (E : XK), A.guards = some [] → Room k (A.deeper (envOfC qual (defScope st) s.heap.objs.size f cdv)) → sp vs H Q E →
      ∃ t, PSs (cxOf CX P w K mg base N qual (defScope st) f cdv A outer s H E) (defBody st) t ∧ t { nx := fun _ H' => Q .non H', rt := Q } (L2.start N vs) H) : FnG P w K mg base CX (k + 1) f fd ps sp := by
  let ⟨oc, od, kV, doc, pm, an, cdv, ct, osl, e0, lk, hcd⟩ := F.ex; subst e0
  exact ⟨len, fun A o s H args us vs Q E hg hr e0 hb r hsp => LamX.run_ofS lk hcd S hr e0 hb r (len _ _ _ _ hsp) fun hr' => hbody cdv A o s H vs Q E hg hr' hsp⟩
/-- .. no exception leaves -/
theorem okG0 {P : Program} {w : World} {K : PySem.W.Frag} {mg : Str → Option Value} {base : Heap} {x qual : Str} {st : Stmt} {f : Addr} {fd : FuncData} {N ps : List Str} {k : Nat} {sp : Sp} (F : Fun K x qual st f fd) (S : FnScope N ps (defScope st)) (len : ∀ vs H Q E, sp vs H Q E → vs.length = ps.length)
    (hbody : ∀ (cdv : Value) (A : Around) (outer : List Env) (s : Shared) (H : Hp) (vs : List V) (Q : VK) (E : XK), A.guards = some [] → Room k (A.deeper (envOfC qual (defScope st) s.heap.objs.size f cdv)) → sp vs H Q E →
      ∃ t, PSs (cxOf CX0 P w K mg base N qual (defScope st) f cdv A outer s H E).nox (defBody st) t ∧ t { nx := fun _ H' => Q .non H', rt := Q } (L2.start N vs) H) : FnG P w K mg base CX0 (k + 1) f fd ps sp :=
  okG F S len fun cdv A outer s H vs Q E hg hr h => let ⟨t, p, q⟩ := hbody cdv A outer s H vs Q E hg hr h; ⟨t, p.nox, q⟩
section
variable {sp : Sp} {CX : CXT} {X : Cx} {k : Nat} {f C : Addr} {fd : FuncData} {ps : List Str} {dvs : List V} {ds : List Value} {E : XK} {x m : Str} {p pos apos : Pos} {e o : Expr} {es : List Expr} {ta : TE} {t : TA}
theorem run_g {pins : List (Addr × Obj)} {σ : L2.St} {H : Hp} {s : Shared} {Q : VK} {us : List Value} {vs : List V} (hgd : X.A.guards = some []) (F : FnG X.prog X.w X.K X.mg X.base CX k f fd ps sp) (hr : Room k X.A) (hb : Binds X.K fd ps ds) (hd : Vals dvs ds) (hx : Passes CX X E)
    (I : L2.Inv X pins σ H s) (r : Vals vs us) (h : sp (vs ++ dvs) H Q E) : wpAny (model X.prog X.w) X.A (call (.ref f) us) (EP X pins σ Q) X.xe s := by
  have rr : Vals (vs ++ dvs) (us ++ ds) := r.append hd; have hl : (us ++ ds).length = ps.length := rr.length.symm.trans (F.ln _ _ _ _ h)
  refine wpAny_call (codeAny_mono (F.go X.A X.stack s H ⟨us, []⟩ (us ++ ds) (vs ++ dvs) Q E hgd hr I.env0 (hb s us I.kIn hl) rr h) fun z s' hq => ?_)
  match z, hq with
  | .error er, hq => exact hx pins σ H s er s' I hq
  | .ok (.ret u), hq => exact I.after hq
  | .ok .next, hq => exact False.elim hq
  | .ok .brk, hq => exact False.elim hq
  | .ok .cont, hq => exact False.elim hq
theorem pe_callG (hgd : X.A.guards = some []) (F : FnG X.prog X.w X.K X.mg X.base CX k f fd ps sp) (hr : Room k X.A) (hg : Gl X x) (hm : X.mg x = some (.ref f)) (hk : PySem.W.keepIn X.K (.ref f) = true) (hb : Binds X.K fd ps ds) (hd : Vals dvs ds) (hx : Passes CX X E) (ha : PA X (e :: es) t)
    (hdb : (x == ("__debug__" : Str)) = false := by decide) (he : starEach (e :: es) X.env = (false, eval e X.env) :: starEach es X.env := by rfl) (hpl : (backTo pos (starEach es X.env)).any (·.1) = false := by rfl) :
    PE X (.Call (.Name x p) (e :: es) [] pos) (tCall sp dvs E t) := ⟨fun pins s σ H Q I h => wpAny_Call_Name_kw (ld_glob I hg hm (PySem.W.callWith_K (h₀ := X.base) I.ok.mod.kin hk (thn (ha.run pos pins s σ H _ I h) fun us s1 z => by
      obtain ⟨vs, H1, I1, r, q⟩ := z; exact ⟨I1.kIn, run_g hgd F hr hb hd hx I1 r q⟩) he hpl) hdb)⟩
end
/-- data at any depth, dicts too -/
inductive Dq (K : PySem.W.Frag) (H : Hp) : V → PyData → Prop
  | non : Dq K H .non .none
  | bl (b : Bool) : Dq K H (.bl b) (.bool b)
  | int (i : Int) : Dq K H (.int i) (.int i)
  | str (x : Str) : Dq K H (.str x) (.str x)
  | lst {a : Addr} {xs : List V} {ds : List PyData} : SqL K H a xs → xs.length = ds.length → (∀ (i : Nat) (v : V) (d : PyData), xs[i]? = some v → ds[i]? = some d → Dq K H v d) → Dq K H (.ref a) (.list ds)
  | tup {a : Addr} {xs : List V} {ds : List PyData} : SqT K H a xs → xs.length = ds.length → (∀ (i : Nat) (v : V) (d : PyData), xs[i]? = some v → ds[i]? = some d → Dq K H v d) → Dq K H (.ref a) (.tuple ds)
section
variable {H : Hp} {X : Cx} {σ : L2.St} {pins : List (Addr × Obj)} {s : Shared}
theorem readsAll_of {h : Heap} : ∀ {us : List Value} {ds : List PyData}, us.length = ds.length → (∀ (i : Nat) (u : Value) (d : PyData), us[i]? = some u → ds[i]? = some d → ∃ as, Reads h u d as) → ∃ as, ReadsAll h us ds as
  | [], [], _, _ => ⟨_, .nil⟩
  | [], _ :: _, z, _ | _ :: _, [], z, _ => by simp at z
  | u :: us, d :: ds, hl, h => by
    obtain ⟨as, q1⟩ := h 0 u d rfl rfl
    obtain ⟨bs, q2⟩ := readsAll_of (us := us) (ds := ds) (by simpa using hl) fun i u d e1 e2 => h (i + 1) u d (by simpa using e1) (by simpa using e2)
    exact ⟨_, .cons q1 q2⟩
theorem Dq.reads (I : L2.Inv X pins σ H s) {v : V} {d : PyData} (h : Dq X.K H v d) : ∀ u, RelV v u → ∃ as, Reads s.heap u d as := by
  induction h with
  | non => intro u r; cases r; exact ⟨_, .none⟩
  | bl b => intro u r; cases r; exact ⟨_, .bool b⟩
  | int i => intro u r; obtain ⟨t, rfl⟩ := r; exact ⟨_, .int i t⟩
  | str x => intro u r; obtain ⟨t, rfl⟩ := r; exact ⟨_, .str x t⟩
  | @lst a xs ds hs hl hi ih =>
    intro u r
    cases r
    obtain ⟨its, rv, ⟨o, m, ho, hc, _, hd⟩, _⟩ := I.list hs
    obtain ⟨as, q⟩ := readsAll_of (h := s.heap) (us := its) (ds := ds) (rv.length.symm.trans hl) fun i u d e1 e2 => by
      obtain ⟨v, hv⟩ : ∃ v, xs[i]? = some v := ⟨_, List.getElem?_eq_getElem (by have := (List.getElem?_eq_some_iff.mp e1).1; rw [rv.length]; exact this)⟩
      obtain ⟨u', hu, ru⟩ := rv.get hv; rw [e1] at hu; cases hu
      exact ih i v d hv e2 u ru
    exact ⟨_, .list ho hc hd q⟩
  | @tup a xs ds hs hl hi ih =>
    intro u r
    cases r
    obtain ⟨its, rv, ⟨o, ho, hc, m, hd⟩, _⟩ := I.tuple hs
    obtain ⟨as, q⟩ := readsAll_of (h := s.heap) (us := its) (ds := ds) (rv.length.symm.trans hl) fun i u d e1 e2 => by
      obtain ⟨v, hv⟩ : ∃ v, xs[i]? = some v := ⟨_, List.getElem?_eq_getElem (by have := (List.getElem?_eq_some_iff.mp e1).1; rw [rv.length]; exact this)⟩
      obtain ⟨u', hu, ru⟩ := rv.get hv; rw [e1] at hu; cases hu
      exact ih i v d hv e2 u ru
    exact ⟨_, .tuple ho hc hd q⟩
end
section
variable {X : Cx}
/-- repr of such data -/
def rRepr (K : PySem.W.Frag) : List V → Hp → VK → Prop := fun xs H Q => ∃ v d, xs = [v] ∧ Dq K H v d ∧ d.showable = true ∧ d.hasDict = false ∧ d.depth ≤ 60 ∧ d.shown.length ≤ sizeLine ∧ Q (.str d.shown) H
theorem call_reprD (hgd : X.A.guards = some []) (hu : X.A.units + 64 < cLine) : CallR X (.builtin "repr") (rRepr X.K) := by
  intro pins s σ H xs us; intro Q I r h
  obtain ⟨v, d, rfl, hd, hs, hn, hp, hz, q⟩ := h
  cases r with
  | cons r1 r2 =>
    cases r2
    rename_i u
    obtain ⟨as, hr⟩ := hd.reads I u r1
    have fin : ∀ h' t tk, (∀ b o, s.heap.get? b = some o → h'.get? b = some o) → EP X pins σ Q (.str d.shown t) { s with heap := h', toks := tk } := fun h' t tk k => ⟨.str d.shown, H, I.kept k, ⟨_, rfl⟩, q⟩
    cases hr with
    | none => exact PySem.P.repr_of_none (fin _ _ _ fun _ _ z => z)
    | bool b => exact PySem.P.repr_of_bool (fin _ _ _ fun _ _ z => z)
    | int i t => exact PySem.P.repr_of_int (by simpa [PyData.showable] using hs) (fin _ _ _ fun _ _ z => z)
    | str x t => exact PySem.P.repr_of_str (fin _ _ _ fun _ _ z => z)
    | list h1 h2 h3 h4 => exact repr_of_reads' (.list h1 h2 h3 h4) hs (fun z => by rw [hn] at z; cases z) hgd (by omega) (fun _ _ z => z) (fun h' u tk k => fin h' u tk k) hz
    | tuple h1 h2 h3 h4 => exact repr_of_reads' (.tuple h1 h2 h3 h4) hs (fun z => by rw [hn] at z; cases z) hgd (by omega) (fun _ _ z => z) (fun h' u tk k => fin h' u tk k) hz
    | dict h1 h2 h3 h4 h5 => simp [PyData.hasDict] at hn
end
end HX
set_option Elab.async false
set_option linter.all false
set_option maxRecDepth 100000
set_option maxHeartbeats 4400000
namespace HX
open L2 PyProof.Rows PySem.Spec PySem
theorem ints_vals : ∀ {vs : List Value} {ns : List Int}, IntsAre vs ns → Vals (ns.map V.int) vs
  | _, _, .nil => Paired.nil
  | _, _, .cons n t h => Paired.cons ⟨t, rfl⟩ (ints_vals h)
/-- the law's call from its promise (a def that may be called where no repr is under way); H: the script alone, or nothing -/
theorem lawG_core {P : Program} {w : World} {K : PySem.W.Frag} {mg mb : Str → Option Value} {CX : CXT} {k : Nat} {fa a : Addr} {fd : FuncData} {x : Str} {sp : Sp} {s1 : Shared} {vs : List Value} {H : Hp}
    (KX : K.In s1.heap) (hns : s1.heap.Ns mainGlobals mg) (hb : s1.heap.Ns builtinsNs mb) (hbb : ∀ x : Str, x ≠ "__name__" → mb x = bootBuiltins x) (hlim : s1.heap.NoLimit) (hg : s1.gens = #[])
    (ha : s1.heap.get? a = some { cls := .type "list", data := .seq vs.toArray }) (hr : Room k callerA)
    (F : ∀ base : Heap, K.In base → base.Ns mainGlobals mg → FnG P w K mg base CX k fa fd [x] sp) (hbind : ∀ (s : Shared) (u : Value), BindsTo s fd ⟨[u], []⟩ [(x, u)])
    (hsp : sp [.ref a] H (fun v _ => v = .bl true) fun _ _ _ => False) (hCX : ∀ e s', CX [] H s1 (fun _ _ _ => False) e s' → False)
    (hO : ∀ b u, H b = some u → b = a ∧ ∃ o xs, u = .frz o (.lst xs)) (hok : HOk P w H s1.heap) (hK : ∀ u, H a = some u → K.lookup a = none) :
    codeAny (model P w) callerA (.call (.ref fa) ⟨[.ref a], []⟩) (fun r s' => r = .ok (.ret (.bool true)) ∧ OldK s1.heap s'.heap ∧ s'.os = s1.os ∧ AllBare s'.gens) s1 := by
  have un : ∀ {b : Addr}, b ≠ a → H b = none := fun {b} z => by
    cases q : H b with
    | none => rfl
    | some u => exact absurd (hO b u q).1 z
  have nsK : ∀ {b : Addr} {m : Str → Option Value}, s1.heap.Ns b m → (hidT s1.heap H).Ns b m := fun {b m} ⟨o, es, ep, e, d, r⟩ => by
    refine ⟨o, es, ep, hidT_get e (un fun z => ?_), d, r⟩
    rw [z, ha] at e
    cases e
    cases d
  have inB : K.In (hidT s1.heap H) := fun b o e => hidT_get (KX b o e) (by
    cases q : H b with
    | none => rfl
    | some u =>
      have y := (hO b u q).1
      subst y
      have y2 : K.lookup b = none := hK u q
      rw [show K.lookup b = some o from e] at y2
      cases y2)
  obtain ⟨mc, l1, l2⟩ := hlim
  have e0 : Env0 P w K mg (hidT s1.heap H) callerA [] s1 H := ⟨rfl, ⟨inB, nsK hns, ⟨mb, nsK hb, hbb⟩, ⟨mc, nsK l1, l2⟩⟩, fun b o e => of_hidT e, Nat.le_of_eq (hidT_size _ _), trivial, fun b z => absurd (show b ∈ ([] : List Addr) from z) List.not_mem_nil, hok, .of_eq hg⟩
  refine codeAny_mono ((F _ inB (nsK hns)).go callerA [] s1 H ⟨[.ref a], []⟩ [.ref a] [.ref a] _ _ rfl hr e0 (hbind s1 (.ref a)) (.cons rfl .nil) hsp) fun r s' h => ?_
  match r, h with
  | .error e, h => exact (hCX e s' h).elim
  | .ok .next, h => exact False.elim h
  | .ok .brk, h => exact False.elim h
  | .ok .cont, h => exact False.elim h
  | .ok (.ret u), h =>
    obtain ⟨v, H', os, bare, U, hok', r', q⟩ := h
    obtain rfl : v = .bl true := q
    have ru : u = Value.bool true := r'; subst ru; refine ⟨rfl, OldK.of_keep fun b o e => ?_, os, bare⟩
    cases q : H b with
    | none => exact U.keep b o e q (fun z => absurd (show b ∈ ([] : List Addr) from z) List.not_mem_nil) List.not_mem_nil
    | some u =>
      obtain ⟨_, ob, xs, z⟩ := hO b u q
      subst z
      have y1 := (hok b _ q).1
      have y2 := (hok' b _ (U.frzs b ob _ q)).1
      rw [e] at y1
      cases y1
      exact y2
theorem walk_G {l : PySem.W.OpenLaw} {n k : Nat} {q : Program} {loose : List Str} {XP : (Str → Option Value) → Heap → Prop} {YP : World → Heap → Prop} {d : DefRec} {K : Params → PySem.W.Frag} {CX : World → CXT} {sp : World → Sp} {x : Str}
    (hn : l.most = some n) (hn2 : n ≤ sizeLine) (hdf : d.params.defaults = []) (hr : Room k callerA) (hY : ∀ (v : World) (h : Heap), YP v h → (K v.params).In h)
    (F : ∀ (w : World) (m : Str → Option Value) (fa : Addr) (h : Heap), (K w.params).In h → h.Ns mainGlobals m → m d.name = some (.ref fa) →
      ∃ fd : FuncData, (∀ (s : Shared) (u : Value), BindsTo s fd ⟨[u], []⟩ [(x, u)]) ∧ ∀ base : Heap, (K w.params).In base → base.Ns mainGlobals m → FnG l.prog w (K w.params) m base (CX w) k fa fd [x] (sp w))
    (hsp : ∀ (w : World) (H : Hp) (a : Addr) (ns : List Int), ns.length ≤ n → SqL (K w.params) H a (ns.map V.int) → (∀ b u, H b = some u → b = a) → sp w [.ref a] H (fun v _ => v = .bl true) fun _ _ _ => False)
    (hCX : ∀ (w : World) (G : Hp) (s : Shared) (e : Value) (s' : Shared), CX w [] G s (fun _ _ _ => False) e s' → False) : PySem.W.WalkO q loose XP YP l.row.toRowW d [] (fun f vs => PySem.call f vs) := by
  refine Att.attach_call hn hdf fun w s0 s1 mg mb fa o pm cd doc a vs ns G Y ho hd hcd hmg hobj hints hlen hgen => ?_
  have KX := hY w _ Y; obtain ⟨fd, hb, hF⟩ := F w mg fa _ KX G.T.g hmg
  have rv := ints_vals hints; have lv := hints.length
  cases hk : (K w.params).lookup a with
  | some o' =>
    have e := KX a o' hk
    rw [hobj] at e
    cases e
    exact lawG_core (H := fun _ => none) KX G.T.g G.T.b G.T.builtins G.T.nolimit hgen hobj hr hF hb (hsp w _ a ns hlen (.inr ⟨_, vs.toArray, _, hk, rfl, rfl, rfl, by rw [List.size_toArray, lv]; exact Nat.le_trans hlen hn2, by simpa using rv⟩) fun b u z => by cases z)
      (fun e s' => hCX w _ s1 e s') (fun b u z => by cases z) (fun b u z => by cases z) fun u z => by cases z
  | none =>
    have at_ : ∀ {b u}, (fun b => if b = a then some (HO.frz { cls := .type "list", data := .seq vs.toArray } (.lst (ns.map V.int))) else none) b = some u → b = a ∧ u = HO.frz { cls := .type "list", data := .seq vs.toArray } (.lst (ns.map V.int)) := fun {b u} z => by
      by_cases hba : b = a
      · exact ⟨hba, (Option.some.inj ((if_pos hba).symm.trans z)).symm⟩
      · exact absurd ((if_neg hba).symm.trans z) (fun y => nomatch y)
    refine lawG_core (H := fun b => if b = a then some (.frz { cls := .type "list", data := .seq vs.toArray } (.lst (ns.map V.int))) else none) KX G.T.g G.T.b G.T.builtins G.T.nolimit hgen hobj hr hF hb
      (hsp w _ a ns hlen (.inl (.inr ⟨_, if_pos rfl⟩)) fun b u z => (at_ z).1) (fun e s' => hCX w _ s1 e s') (fun b u z => ⟨(at_ z).1, _, _, (at_ z).2⟩) (fun b u z => ?_) fun _ _ => hk
    obtain ⟨e1, e2⟩ := at_ z
    subst e1
    subst e2
    exact ⟨hobj, by rw [List.length_map]; exact Nat.le_trans hlen hn2, vs, _, rv, hobj⟩
end HX
set_option Elab.async false
set_option linter.all false
set_option maxRecDepth 100000
set_option maxHeartbeats 4400000
namespace HX
open L2 PyProof.Rows PySem.Spec PySem
section
variable {X : Cx} {CX : CXT} {C f g : Addr} {k : Nat} {fd gd : FuncData} {ps ps' : List Str} {sp spR : Sp} {E : XK}
theorem op_eqN (T : CmC X.K C .Eq f g) (F1 : FnOk X.prog X.w X.K X.mg X.base CX k f fd ps sp) (b1 : Binds X.K fd ps []) (F2 : FnOk X.prog X.w X.K X.mg X.base CX k g gd ps' spR) (b2 : Binds X.K gd ps' []) (hr : Room k X.A) (hx : Passes CX X E) :
    OpR X (compareOp .Eq) (rOwn C sp spR E) := fun pins s σ H x y v u Q I rx ry h => op_cmpW ic_eq T F1 b1 F2 b2 hr hx pins s σ H x y v u Q I rx ry h
theorem op_neN (T : CmC X.K C .NotEq f g) (F1 : FnOk X.prog X.w X.K X.mg X.base CX k f fd ps sp) (b1 : Binds X.K fd ps []) (F2 : FnOk X.prog X.w X.K X.mg X.base CX k g gd ps' spR) (b2 : Binds X.K gd ps' []) (hr : Room k X.A) (hx : Passes CX X E) :
    OpR X (compareOp .NotEq) (rOwn C sp spR E) := fun pins s σ H x y v u Q I rx ry h => op_cmpW ic_ne T F1 b1 F2 b2 hr hx pins s σ H x y v u Q I rx ry h
theorem op_ltN (T : CmC X.K C .Lt f g) (F1 : FnOk X.prog X.w X.K X.mg X.base CX k f fd ps sp) (b1 : Binds X.K fd ps []) (F2 : FnOk X.prog X.w X.K X.mg X.base CX k g gd ps' spR) (b2 : Binds X.K gd ps' []) (hr : Room k X.A) (hx : Passes CX X E) :
    OpR X (compareOp .Lt) (rOwn C sp spR E) := fun pins s σ H x y v u Q I rx ry h => op_cmpW ic_lt T F1 b1 F2 b2 hr hx pins s σ H x y v u Q I rx ry h
theorem op_leN (T : CmC X.K C .LtE f g) (F1 : FnOk X.prog X.w X.K X.mg X.base CX k f fd ps sp) (b1 : Binds X.K fd ps []) (F2 : FnOk X.prog X.w X.K X.mg X.base CX k g gd ps' spR) (b2 : Binds X.K gd ps' []) (hr : Room k X.A) (hx : Passes CX X E) :
    OpR X (compareOp .LtE) (rOwn C sp spR E) := fun pins s σ H x y v u Q I rx ry h => op_cmpW ic_le T F1 b1 F2 b2 hr hx pins s σ H x y v u Q I rx ry h
theorem op_gtN (T : CmC X.K C .Gt f g) (F1 : FnOk X.prog X.w X.K X.mg X.base CX k f fd ps sp) (b1 : Binds X.K fd ps []) (F2 : FnOk X.prog X.w X.K X.mg X.base CX k g gd ps' spR) (b2 : Binds X.K gd ps' []) (hr : Room k X.A) (hx : Passes CX X E) :
    OpR X (compareOp .Gt) (rOwn C sp spR E) := fun pins s σ H x y v u Q I rx ry h => op_cmpW ic_gt T F1 b1 F2 b2 hr hx pins s σ H x y v u Q I rx ry h
theorem op_geN (T : CmC X.K C .GtE f g) (F1 : FnOk X.prog X.w X.K X.mg X.base CX k f fd ps sp) (b1 : Binds X.K fd ps []) (F2 : FnOk X.prog X.w X.K X.mg X.base CX k g gd ps' spR) (b2 : Binds X.K gd ps' []) (hr : Room k X.A) (hx : Passes CX X E) :
    OpR X (compareOp .GtE) (rOwn C sp spR E) := fun pins s σ H x y v u Q I rx ry h => op_cmpW ic_ge T F1 b1 F2 b2 hr hx pins s σ H x y v u Q I rx ry h
/-- i ** j, of an i that is neither -1, 0 nor 1, the result below 2 ^ 100000 -/
def CPowW (i j : Int) : Prop := 2 ≤ i ∧ 0 < j ∧ Builtin.Int.intTooBig (((Builtin.Int.intBits i : Nat) : Int) * j) = false
theorem op_powW : OpR X (binaryOp .Pow) (rI CPowW fun i j => .int (i ^ j.toNat)) := opI fun i j t u s Q E hc q => by
  obtain ⟨h1, h2, h3⟩ := hc
  have h4 : ¬ ((i == 0 || i == 1) = true) := by simp; omega
  have h5 : ¬ ((i == -1) = true) := by simp; omega
  exact AutoIntOps.pow_4 (by omega) (by simp; omega) h4 h5 (by rw [h3]; decide) q
end
/-- all that was known is known -/
abbrev Ex (H H' : Hp) : Prop := ∀ a o, H a = some o → H' a = some o
/-- .. but what stood at p -/
abbrev XB (p : Addr) (H H' : Hp) : Prop := ∀ a o, a ≠ p → H a = some o → H' a = some o
theorem Ex.rf (H : Hp) : Ex H H := fun _ _ h => h
theorem Ex.tr {H H1 H2 : Hp} (a : Ex H H1) (b : Ex H1 H2) : Ex H H2 := fun c o h => b c o (a c o h)
theorem Ex.nw {H : Hp} {p : Addr} {o : HO} (h : H p = none) : Ex H (upd H p o) := fun a u e => by rw [upd_ne (ne_of_none e h)]; exact e
theorem Ex.fr {H H' : Hp} {p : Addr} (e : Ex H H') (h : H' p = none) : H p = none := by
  cases q : H p with
  | none => rfl
  | some o => rw [e p o q] at h; cases h
theorem Ex.xb {H H' : Hp} {p : Addr} (e : Ex H H') : XB p H H' := fun a o _ h => e a o h
theorem XB.tr {H H1 H2 : Hp} {p : Addr} (a : XB p H H1) (b : XB p H1 H2) : XB p H H2 := fun c o n h => b c o n (a c o n h)
theorem XB.wr {H : Hp} {p : Addr} {o : HO} : XB p H (upd H p o) := fun a u n e => by rw [upd_ne n]; exact e
theorem XB.fr {H H' : Hp} {p q : Addr} {o : HO} (e : XB p H H') (hp : H' p = some o) (h : H' q = none) : H q = none := by
  cases z : H q with
  | none => rfl
  | some u =>
    by_cases y : q = p
    · rw [y, hp] at h; cases h
    · rw [e q u y z] at h; cases h
theorem if_dec {p : Prop} [Decidable p] {A B : Prop} (h1 : p → A) (h2 : ¬ p → B) : if decide p = true then A else B := by
  by_cases h : p
  · rw [decide_eq_true h]; exact iteT (h1 h)
  · rw [decide_eq_false h]; exact iteF (h2 h)
theorem if_eq {b c : Bool} {A B : Prop} (e : b = c) (h : if c = true then A else B) : if b = true then A else B := by rw [e]; exact h
theorem if_true {b : Bool} {A B : Prop} (e : b = true) (h : A) : if b = true then A else B := by rw [e]; exact iteT h
theorem if_false {b : Bool} {A B : Prop} (e : b = false) (h : B) : if b = true then A else B := by rw [e]; exact iteF h
end HX
set_option Elab.async false
set_option linter.all false
set_option maxRecDepth 100000
set_option maxHeartbeats 4400000
namespace HX
open L2 PyProof.Rows PySem.Spec PySem
/-- data whose repr is asked -/
structure Fine (d : PyData) : Prop where
  sh : d.showable = true
  nd : d.hasDict = false
  dp : d.depth ≤ 60
  ln : d.shown.length ≤ sizeLine
theorem sh_int {i : Int} (h0 : -1000000 ≤ i) (h1 : i ≤ 1000000) : (PyData.int i).showable = true := by
  unfold PyData.showable
  have h : i.natAbs < 2 ^ 64 := by omega
  have h2 : i.natAbs.log2 < 64 := PySem.Flt.log2_lt_of (by decide) h
  first | exact decide_eq_true (by omega)
theorem ls_int {i : Int} (h0 : -1000000 ≤ i) (h1 : i ≤ 1000000) : (PyData.int i).leavesShort 13 = true := by
  have h := PyData.shown_int_le (i := i) (by omega)
  unfold PyData.leavesShort
  simpa [PyData.shown] using h
/-- a flat item -/
inductive Flat : PyData → Prop
  | non : Flat .none
  | bl (b : Bool) : Flat (.bool b)
  | int (i : Int) (h0 : -1000000 ≤ i) (h1 : i ≤ 1000000) : Flat (.int i)
  | str (x : Str) (h : x.cps.size ≤ 60) (hc : (x.cps.toList.all fun c => decide (c < 16 ^ 8)) = true) : Flat (.str x)
theorem Flat.all {ds : List PyData} (h : ∀ d ∈ ds, Flat d) : PyData.showableAll ds = true ∧ PyData.hasDictAll ds = false ∧ PyData.leavesShortAll 13 ds = true ∧ PyData.depthAll ds ≤ 1 ∧ PyData.weightAll ds ≤ 70 * ds.length := by
  induction ds with
  | nil => simp [PyData.showableAll, PyData.hasDictAll, PyData.leavesShortAll, PyData.depthAll, PyData.weightAll]
  | cons d ds ih =>
    obtain ⟨i1, i2, i3, i4, i5⟩ := ih fun x hx => h x (List.mem_cons_of_mem _ hx)
    have hd := h d List.mem_cons_self
    simp only [PyData.showableAll, PyData.hasDictAll, PyData.leavesShortAll, PyData.depthAll, PyData.weightAll, i1, i2, i3, Bool.and_true, Bool.or_false, List.length_cons]
    cases hd with
    | non => simp [PyData.showable, PyData.hasDict, PyData.leavesShort, PyData.depth, PyData.weight]; omega
    | bl b => simp [PyData.showable, PyData.hasDict, PyData.leavesShort, PyData.depth, PyData.weight]; omega
    | int i h0 h1 =>
      have h2 : i.natAbs.log2 < 64 := PySem.Flt.log2_lt_of (by decide) (by omega : i.natAbs < 2 ^ 64)
      simp only [sh_int h0 h1, PyData.hasDict, ls_int h0 h1, PyData.depth, PyData.weight]
      refine ⟨by first | rfl | trivial, by first | rfl | trivial, by first | rfl | trivial, by omega, ?_⟩
      split <;> omega
    | str x hx hc =>
      simp only [PyData.showable, PyData.hasDict, PyData.leavesShort, PyData.depth, PyData.weight, hc]
      refine ⟨by first | rfl | trivial, by first | rfl | trivial, by first | rfl | trivial, by omega, by omega⟩
theorem fine_list {ds : List PyData} (h : ∀ d ∈ ds, Flat d) (hl : ds.length ≤ 1000) : Fine (.list ds) := by
  obtain ⟨h1, h2, h3, h4, h5⟩ := Flat.all h
  refine ⟨by simp only [PyData.showable, h1], by simp only [PyData.hasDict, h2], by simp only [PyData.depth]; omega, PyData.shown_fits (B := 13) (by decide) (by decide) (by simp only [PyData.leavesShort, h3]) (by simp only [PyData.weight]; omega)⟩
theorem fine_tup {ds : List PyData} (h : ∀ d ∈ ds, Flat d) (hl : ds.length ≤ 1000) : Fine (.tuple ds) := by
  obtain ⟨h1, h2, h3, h4, h5⟩ := Flat.all h
  refine ⟨by simp only [PyData.showable, h1], by simp only [PyData.hasDict, h2], by simp only [PyData.depth]; omega, PyData.shown_fits (B := 13) (by decide) (by decide) (by simp only [PyData.leavesShort, h3]) (by simp only [PyData.weight]; omega)⟩
theorem fine_non : Fine .none := ⟨rfl, rfl, by decide, by simp only [PyData.shown]; decide +kernel⟩
theorem fine_bl (b : Bool) : Fine (.bool b) := ⟨rfl, rfl, by simp [PyData.depth], by cases b <;> simp only [PyData.shown] <;> decide +kernel⟩
theorem flat_zero : Flat (.str "zero") := .str _ (by decide +kernel) (by decide +kernel)
/-- flat values and their data -/
def fl : V → PyData
  | .non => .none
  | .bl b => .bool b
  | .int i => .int i
  | .str x => .str x
  | _ => .none
def isFl : V → Bool
  | .non | .bl _ | .int _ | .str _ => true
  | _ => false
theorem dq_fl {K : PySem.W.Frag} {H : Hp} {v : V} (h : isFl v = true) : Dq K H v (fl v) := by
  cases v <;> first | exact .non | exact .bl _ | exact .int _ | exact .str _ | cases h
theorem dq_items {K : PySem.W.Frag} {H : Hp} {xs : List V} (h : xs.all isFl = true) : ∀ (i : Nat) (v : V) (d : PyData), xs[i]? = some v → (xs.map fl)[i]? = some d → Dq K H v d := fun i v d e1 e2 => by
  rw [List.getElem?_map, e1] at e2
  cases e2
  exact dq_fl (List.all_eq_true.mp h v (List.mem_of_getElem? e1))
theorem dq_lst {K : PySem.W.Frag} {H : Hp} {a : Addr} {xs : List V} (e : H a = some (.lst xs)) (h : xs.all isFl = true) : Dq K H (.ref a) (.list (xs.map fl)) := .lst (SqL.of e) (by rw [List.length_map]) (dq_items h)
theorem dq_tup {K : PySem.W.Frag} {H : Hp} {a : Addr} {xs : List V} (e : H a = some (.tup xs)) (h : xs.all isFl = true) : Dq K H (.ref a) (.tuple (xs.map fl)) := .tup (SqT.of e) (by rw [List.length_map]) (dq_items h)
end HX
set_option Elab.async false
set_option linter.all false
set_option maxRecDepth 100000
set_option maxHeartbeats 4400000
namespace HX
open L2 PyProof.Rows PySem.Spec PySem
section
variable {X : Cx} {CX : CXT} {C f : Addr} {k : Nat} {fd : FuncData} {ps : List Str} {sp : Sp} {E : L2.St → XK} {a b e : Expr} {ta tb te : TE} {pos pos' : Pos} {x : Str} {i : Nat} {op : Operator}
/-- a def run within a call of a builtin -/
theorem run_one {pins : List (Addr × Obj)} {σ : L2.St} {H : Hp} {s : Shared} {Q : VK} {us : List Value} {vs : List V} {E : XK} (F : FnOk X.prog X.w X.K X.mg X.base CX k f fd ps sp) (hr : Room (k + 1) X.A) (hb : Binds X.K fd ps []) (hx : PassesAt CX X σ E)
    (I : L2.Inv X pins σ H s) (r : Vals vs us) (h : sp vs H Q E) : wpAny (model X.prog X.w) X.A.in1 (call (.ref f) us) (EP X pins σ Q) X.xe s := by
  have few : (us ++ []).length = ps.length := by rw [List.append_nil, ← r.length]; exact F.len _ _ _ _ h
  have bound := hb s us I.kIn few; rw [List.append_nil] at bound
  refine wpAny_call (codeAny_mono (F.run X.A.in1 X.stack s H ⟨us, []⟩ us vs Q E hr.in1 I.env0.in1 bound r h) fun z s' hq => ?_)
  match z, hq with
  | .ok (.ret u), w => exact I.after w
  | .ok .next, w | .ok .brk, w | .ok .cont, w => exact False.elim w
  | .error er, w => exact hx pins H s er s' I w
/-- a[b] of an own class -/
def tSubO (C : Addr) (sp : Sp) (E : L2.St → XK) (ta tb : TE) : TE := fun σ H Q => ta σ H fun x H1 => tb σ H1 fun y H2 => isI C H2 x ∧ sp [x, y] H2 Q (E σ)
theorem pe_subO (hs : PySem.W.findIn X.K (.ref C) "__getitem__" = some (some (.ref f))) (hf : PySem.W.fnIn X.K f = true) (hfn : PySem.W.isFn X.K (.ref f) = true) (F : FnOk X.prog X.w X.K X.mg X.base CX k f fd ps sp) (hb : Binds X.K fd ps []) (hr : Room (k + 1) X.A)
    (hx : ∀ σ, PassesAt CX X σ (E σ)) (ha : PE X a ta) (hbb : PE X b tb) (hsl : ∀ x i, subscripted b true (.ref x) i = runValue (.builtin "lifetime.subscript" ⟨[.ref x, i], []⟩)) : PE X (.Subscript a b pos) (tSubO C sp E ta tb) := by
  refine ⟨fun pins s σ H Q I h => ?_⟩
  refine Subscript_ (binT ha hbb I h fun v u s2 x y H2 I2 rx ry q => ?_)
  obtain ⟨m, hF⟩ := I2.fr
  obtain ⟨⟨p, dx, fs, rfl, ep⟩, q⟩ := q
  obtain ⟨od, J⟩ := isI_inst I2 ep
  cases (id rx : v = Value.ref p)
  exact PySem.W.sub_K hF I2.ok.mod.kin J hs hf hfn (run_one (us := [.ref p, u]) (vs := [.ref p, y]) F hr hb (hx σ) I2 (.cons rfl (.cons ry .nil)) q) (hsl _ _)
/-- o[i] = v of an own class -/
def gSubO (C : Addr) (sp : Sp) (E : L2.St → XK) (to ti : TE) : TG := fun v σ H Q => to σ H fun o H1 => ti σ H1 fun i H2 => isI C H2 o ∧ sp [o, i, v] H2 (fun _ H3 => Q σ H3) (E σ)
theorem pg_subO (hq : PySem.W.noSeq X.K C = true) (hs : PySem.W.findIn X.K (.ref C) "__setitem__" = some (some (.ref f))) (hfn : PySem.W.isFn X.K (.ref f) = true) (F : FnOk X.prog X.w X.K X.mg X.base CX k f fd ps sp) (hb : Binds X.K fd ps []) (hr : Room k X.A)
    (hx : ∀ σ, PassesAt CX X σ (E σ)) (ho : PE X a ta) (hi : PE X b tb)
    (ha : ∀ v, assign (.Subscript a b pos) X.env v = (do let o1 ← holding [v] (eval a X.env); let i1 ← holding [v, o1] (eval b X.env); standAt pos; holding [v, o1, i1] (setItem o1 i1 v); release [v, o1, i1] []) := by intro _; rfl) : PG X (.Subscript a b pos) (gSubO C sp E ta tb) := by
  refine ⟨fun pp t τ G val vv R J rv w => ?_⟩
  rw [ha]
  refine wpAny_bind (wpAny_holding (thn (ho.run pp t τ G _ J w) fun o1 t1 ⟨x, G1, J1, rx, w1⟩ => wpAny_bind (wpAny_holding (thn (hi.run pp t1 τ G1 _ J1 w1) fun i1 t2 ⟨y, G2, J2, ry, w2⟩ => ?_))))
  obtain ⟨⟨p, dx, fs, rfl, ep⟩, q⟩ := w2
  obtain ⟨m, hF⟩ := J2.fr
  obtain ⟨od, W⟩ := isI_inst J2 ep
  have eo : o1 = Value.ref p := rx; subst eo
  have done := run_fnS (us := [.ref p, i1, vv]) (vs := [.ref p, y, val]) F hr hb (hx τ) J2 (.cons rfl (.cons ry (.cons rv .nil))) q
  exact wpAny_bind (wpAny_standAt (wpAny_bind (wpAny_holding (PySem.W.ksp_setItem hF J2.ok.mod.kin W hq hs hfn (thn done fun _ t3 ⟨_, G3, J3, _, w3⟩ => wpAny_release ⟨τ, G3, J3, w3⟩)))))
/-- x op= e of an own class -/
def tAugO (C : Addr) (sp : Sp) (E : L2.St → XK) (i : Nat) (te : TE) : TS := fun D σ H => ∃ x, σ[i]? = some (some x) ∧ te σ H fun y H1 => isI C H1 x ∧ sp [x, y] H1 (fun z H2 => D.nx (σ.set i (some z)) H2) (E σ)
theorem ps_augO (hc : PySem.W.selfFirst X.K C = true) (hs : PySem.W.findIn X.K (.ref C) (dunderI op.info.2) = some (some (.ref f))) (hfn : PySem.W.isFn X.K (.ref f) = true) (F : FnOk X.prog X.w X.K X.mg X.base CX k f fd ps sp) (hb : Binds X.K fd ps []) (hr : Room k X.A)
    (hxx : ∀ σ, PassesAt CX X σ (E σ)) (hN : X.N.Nodup) (hi : X.N[i]? = some x) (hx : X.env.scope.names.lookup x = some .local) (he : PE X e te) : PS X (.AugAssign (.Name x pos') op e pos) (tAugO C sp E i te) := by
  refine ⟨fun pp t τ G D J w => wpAny_AugAssign_Name ?_⟩
  obtain ⟨v, e1, w⟩ := w
  obtain ⟨m, hn, hl⟩ := J.loc
  obtain ⟨u, r, l⟩ := hl i x v hi e1 (.inl hx)
  rcases l with ⟨hk, hm⟩ | ⟨hk, _⟩
  · refine wpAny_loadName_local J.ok.kind hk hn hm (thn (he.run pp t τ G _ J w) fun b t1 ⟨y, G1, J1, r1, w1⟩ => ?_)
    obtain ⟨⟨p, dx, fs, rfl, ep⟩, q⟩ := w1
    obtain ⟨m1, hF⟩ := J1.fr
    obtain ⟨od, W⟩ := isI_inst J1 ep
    have eu : u = Value.ref p := r; subst eu
    have done := run_fnS (us := [.ref p, b]) (vs := [.ref p, y]) F hr hb (hxx τ) J1 (.cons rfl (.cons r1 .nil)) q
    refine thn (PySem.W.ksp_inplace hF J1.ok.mod.kin W hc hs hfn (thn done fun z t2 hz => ep_back hz)) fun z t2 ⟨zv, G2, J2, r2, w2⟩ => ?_
    exact store_ok J2 hN hi (.inl hx) r2 (fun t3 J3 => ⟨_, G2, J3, w2⟩) (.inr hx)
  · rcases hk with hk | hk <;> (have z : X.env.scope.names.lookup x = _ := hk; rw [hx] at z; cases z)
/-- len of an own class -/
def rLenO (C : Addr) (sp : Sp) (E : XK) : List V → Hp → VK → Prop := fun xs H Q => ∃ x, xs = [x] ∧ isI C H x ∧ sp [x] H (fun v H' => ∃ n : Nat, v = .int n ∧ n < 1000 ∧ Q (.int n) H') E
theorem call_lenO {E : XK} (hs : PySem.W.findIn X.K (.ref C) "__len__" = some (some (.ref f))) (hf : PySem.W.isFn X.K (.ref f) = true) (F : FnOk X.prog X.w X.K X.mg X.base CX k f fd ps sp) (hb : Binds X.K fd ps []) (hr : Room (k + 1) X.A) (hx : Passes CX X E) :
    CallR X (.builtin "len") (rLenO C sp E) := by
  intro pins s σ H xs us; intro Q I r h
  obtain ⟨m, hF⟩ := I.fr
  obtain ⟨x, rfl, ⟨p, dx, fs, rfl, ep⟩, q⟩ := h
  obtain ⟨od, J⟩ := isI_inst I ep
  cases r with
  | cons r1 r2 =>
    cases r2
    rename_i u
    cases (id r1 : u = Value.ref p)
    refine PySem.W.len_K hF I.ok.mod.kin J hs hf (thn (run_one (us := [.ref p]) (vs := [.ref p]) F hr hb (fun pins H s e s' => hx pins σ H s e s') I (.cons rfl .nil) q) fun z s2 hz => ?_)
    obtain ⟨v, H2, I2, r3, n, rfl, hn, q2⟩ := hz
    obtain ⟨t, rfl⟩ := r3
    exact ⟨⟨by omega, by omega⟩, .int n, H2, I2.tok _, ⟨_, rfl⟩, q2⟩
end
end HX
set_option Elab.async false
set_option linter.all false
set_option maxRecDepth 100000
set_option maxHeartbeats 4400000
namespace HX
open L2 PyProof.Rows PySem.Spec PySem
section
variable {X : Cx} {es : List Expr} {t : TA} {pos : Pos}
/-- a new list stands apart from the table of modules -/
def tLstN (t : TA) : TE := fun σ H Q => t σ H fun xs H1 => xs.length ≤ sizeLine ∧ ∀ p, H1 p = none → p ≠ sysModules → Q (.ref p) (upd H1 p (.lst xs))
theorem pe_lstN (h : PA X es t) : PE X (.List es pos) (tLstN t) := by
  refine ⟨fun pins s σ H Q I hq => wpAny_List_spliced (thn (h.run pos pins s σ H _ I hq) fun us s1 ⟨xs, H1, I1, r, z, q⟩ => ⟨by rw [← r.length]; exact z, ?_⟩)⟩
  have e0 : H1 s1.heap.objs.size = none := I1.hok.fresh (Nat.le_refl _)
  have e1 : Inv X pins σ (upd H1 s1.heap.objs.size (.lst xs)) _ := I1.laid (t' := s1.toks) (fun b u e => Heap.get?_push_of_some _ e) (Nat.le_refl _) ⟨z, us, 0, r, Heap.get?_push_size _ rfl⟩
  exact ⟨.ref _, _, e1, rfl, q _ e0 (Nat.ne_of_gt I1.big)⟩
end
/-- data at any depth, dicts by texts too; its lists stand apart from the table of modules, and from the list at p -/
inductive Dz (p : Addr) (H : Hp) : V → PyData → Prop
  | non : Dz p H .non .none
  | bl (b : Bool) : Dz p H (.bl b) (.bool b)
  | int (i : Int) : Dz p H (.int i) (.int i)
  | str (x : Str) : Dz p H (.str x) (.str x)
  | lst {a : Addr} {xs : List V} {ds : List PyData} : H a = some (.lst xs) → a ≠ sysModules → a ≠ p → xs.length = ds.length → (∀ (i : Nat) (v : V) (d : PyData), xs[i]? = some v → ds[i]? = some d → Dz p H v d) → Dz p H (.ref a) (.list ds)
  | tup {a : Addr} {xs : List V} {ds : List PyData} : H a = some (.tup xs) → xs.length = ds.length → (∀ (i : Nat) (v : V) (d : PyData), xs[i]? = some v → ds[i]? = some d → Dz p H v d) → Dz p H (.ref a) (.tuple ds)
  | dct {a : Addr} {ks : List (Str × V)} {ds : List PyData} : H a = some (.dK (ks.map fun p => (Sum.inr p.1, p.2))) → ks.length = ds.length → (∀ (i : Nat) (v : V) (d : PyData), (ks.map (·.2))[i]? = some v → ds[i]? = some d → Dz p H v d) → Dz p H (.ref a) (.dict ((ks.map fun p => PyData.str p.1).zip ds))
theorem Dz.ex {p : Addr} {H H' : Hp} {v : V} {d : PyData} (h : Dz p H v d) (e : Ex H H') : Dz p H' v d := by
  induction h with
  | non => exact .non
  | bl b => exact .bl b
  | int i => exact .int i
  | str x => exact .str x
  | lst h n m hl _ ih => exact .lst (e _ _ h) n m hl ih
  | tup h hl _ ih => exact .tup (e _ _ h) hl ih
  | dct h hl _ ih => exact .dct (e _ _ h) hl ih
theorem Dz.xb {p : Addr} {H H' : Hp} {v : V} {d : PyData} {zs : List V} (h : Dz p H v d) (hp : H p = some (.lst zs)) (e : XB p H H') : Dz p H' v d := by
  induction h with
  | non => exact .non
  | bl b => exact .bl b
  | int i => exact .int i
  | str x => exact .str x
  | lst h n m hl _ ih => exact .lst (e _ _ m h) n m hl ih
  | tup h hl _ ih => exact .tup (e _ _ (ne_of h hp (by intro y; cases y)) h) hl ih
  | dct h hl _ ih => exact .dct (e _ _ (ne_of h hp (by intro y; cases y)) h) hl ih
section
variable {H : Hp} {X : Cx} {σ : L2.St} {pins : List (Addr × Obj)} {s : Shared}
theorem readsAllM {h : Heap} : ∀ {us : List Value} {ds : List PyData}, us.length = ds.length → (∀ (i : Nat) (u : Value) (d : PyData), us[i]? = some u → ds[i]? = some d → ∃ as, Reads h u d as ∧ sysModules ∉ as) → ∃ as, ReadsAll h us ds as ∧ sysModules ∉ as
  | [], [], _, _ => ⟨_, .nil, by simp⟩
  | [], _ :: _, z, _ | _ :: _, [], z, _ => by simp at z
  | u :: us, d :: ds, hl, h => by
    obtain ⟨as, q1, m1⟩ := h 0 u d rfl rfl
    obtain ⟨bs, q2, m2⟩ := readsAllM (us := us) (ds := ds) (by simpa using hl) fun i u d e1 e2 => h (i + 1) u d (by simpa using e1) (by simpa using e2)
    exact ⟨_, .cons q1 q2, by rw [List.mem_append]; exact fun z => z.elim m1 m2⟩
theorem pairs_keys {P : Program} {w : World} {h : Heap} : ∀ {es : List DictEntry} {ks : List (Str × V)} {vs : List (Key × Value)}, Pairs (mixKind P w) es vs → KV (ks.map fun p => (Sum.inr p.1, p.2)) vs →
    ReadsAll h (es.map (·.key)) (ks.map fun p => PyData.str p.1) [] ∧ Vals (ks.map (·.2)) (es.map (·.val))
  | [], [], _, _, _ => ⟨.nil, .nil⟩
  | _ :: _, [], _, hp, hk => by cases hk; cases hp
  | [], _ :: _, _, hp, hk => by cases hk; cases hp
  | e :: es, k :: ks, _, hp, hk => by
    cases hk with
    | cons h1 h2 =>
      cases hp with
      | cons i1 i2 i3 =>
        obtain ⟨q1, q2⟩ := pairs_keys (h := h) i3 h2
        obtain ⟨h3, h4⟩ := h1
        refine ⟨?_, .cons (by show RelV k.2 e.val; rw [i2]; exact h4) q2⟩
        have i0 : keyIs (Sum.inr k.1) e.key = true := by
          have z : (Sum.inr k.1 : Key) = _ := h3
          rw [z]; exact i1
        rcases keyIs_shape i0 with ⟨i, t, z, _⟩ | ⟨x, t, z, y⟩
        · cases z
        · cases z
          refine ReadsAll.cons (as := []) (bs := []) ?_ q1
          show Reads h e.key (PyData.str k.1) []
          rw [show e.key = Value.str k.1 t from y]
          exact .str _ _
theorem Dz.reads {p : Addr} (I : L2.Inv X pins σ H s) {v : V} {d : PyData} (h : Dz p H v d) : ∀ u, RelV v u → ∃ as, Reads s.heap u d as ∧ sysModules ∉ as := by
  induction h with
  | non => intro u r; cases r; exact ⟨_, .none, by simp⟩
  | bl b => intro u r; cases r; exact ⟨_, .bool b, by simp⟩
  | int i => intro u r; obtain ⟨t, rfl⟩ := r; exact ⟨_, .int i t, by simp⟩
  | str x => intro u r; obtain ⟨t, rfl⟩ := r; exact ⟨_, .str x t, by simp⟩
  | @lst a xs ds hs na _ hl hi ih =>
    intro u r
    cases r
    obtain ⟨its, rv, ⟨o, n, ho, hc, _, hd⟩, _⟩ := I.list (SqL.of hs)
    obtain ⟨as, q, m⟩ := readsAllM (h := s.heap) (us := its) (ds := ds) (rv.length.symm.trans hl) fun i u d e1 e2 => by
      obtain ⟨v, hv⟩ : ∃ v, xs[i]? = some v := ⟨_, List.getElem?_eq_getElem (by have := (List.getElem?_eq_some_iff.mp e1).1; rw [rv.length]; exact this)⟩
      obtain ⟨u', hu, ru⟩ := rv.get hv; rw [e1] at hu; cases hu
      exact ih i v d hv e2 u ru
    exact ⟨_, .list ho hc hd q, by rw [List.mem_cons]; exact fun z => z.elim (fun e => na e.symm) m⟩
  | @tup a xs ds hs hl hi ih =>
    intro u r
    cases r
    obtain ⟨its, rv, ⟨o, ho, hc, n, hd⟩, _⟩ := I.tuple (SqT.of hs)
    obtain ⟨as, q, m⟩ := readsAllM (h := s.heap) (us := its) (ds := ds) (rv.length.symm.trans hl) fun i u d e1 e2 => by
      obtain ⟨v, hv⟩ : ∃ v, xs[i]? = some v := ⟨_, List.getElem?_eq_getElem (by have := (List.getElem?_eq_some_iff.mp e1).1; rw [rv.length]; exact this)⟩
      obtain ⟨u', hu, ru⟩ := rv.get hv; rw [e1] at hu; cases hu
      exact ih i v d hv e2 u ru
    exact ⟨_, .tuple ho hc hd q, m⟩
  | @dct a ks ds hs hl hi ih =>
    intro u r
    cases r
    obtain ⟨_, na, vs, kv, o, es, ep, ho, hc, hd, _, hp, _⟩ := dk_of I.hok hs
    obtain ⟨q1, rv⟩ := pairs_keys (h := s.heap) hp kv
    obtain ⟨as, q, m⟩ := readsAllM (h := s.heap) (us := es.toList.map (·.val)) (ds := ds) (rv.length.symm.trans (by rw [List.length_map]; exact hl)) fun i u d e1 e2 => by
      obtain ⟨v, hv⟩ : ∃ v, (ks.map (·.2))[i]? = some v := ⟨_, List.getElem?_eq_getElem (by have := (List.getElem?_eq_some_iff.mp e1).1; rw [rv.length]; exact this)⟩
      obtain ⟨u', hu, ru⟩ := rv.get hv; rw [e1] at hu; cases hu
      exact ih i v d hv e2 u ru
    have l1 : (ks.map fun p => PyData.str p.1).length ≤ ds.length := by rw [List.length_map, hl]; exact Nat.le_refl _
    have l2 : ds.length ≤ (ks.map fun p => PyData.str p.1).length := by rw [List.length_map, hl]; exact Nat.le_refl _
    refine ⟨_, .dict (as := []) (bs := as) ho hc.1 hd (by rw [List.map_fst_zip l1]; exact q1) (by rw [List.map_snd_zip l2]; exact q), ?_⟩
    rw [List.mem_append, List.mem_singleton]
    exact fun z => z.elim (fun e => by rw [← e] at na; simp at na) m
end
section
variable {X : Cx}
/-- repr of such data -/
def rReprZ : List V → Hp → VK → Prop := fun xs H Q => ∃ v d p, xs = [v] ∧ Dz p H v d ∧ d.showable = true ∧ d.depth ≤ 60 ∧ d.shown.length ≤ sizeLine ∧ Q (.str d.shown) H
theorem call_reprZ (hgd : X.A.guards = some []) (hu : X.A.units + 64 < cLine) : CallR X (.builtin "repr") rReprZ := by
  intro pins s σ H xs us; intro Q I r h
  obtain ⟨v, d, p, rfl, hd, hs, hp, hz, q⟩ := h
  cases r with
  | cons r1 r2 =>
    cases r2
    rename_i u
    obtain ⟨as, hr, hm⟩ := hd.reads I u r1
    have fin : ∀ h' t tk, (∀ b o, s.heap.get? b = some o → h'.get? b = some o) → EP X pins σ Q (.str d.shown t) { s with heap := h', toks := tk } := fun h' t tk k => ⟨.str d.shown, H, I.kept k, ⟨_, rfl⟩, q⟩
    cases hr with
    | none => exact PySem.P.repr_of_none (fin _ _ _ fun _ _ z => z)
    | bool b => exact PySem.P.repr_of_bool (fin _ _ _ fun _ _ z => z)
    | int i t => exact PySem.P.repr_of_int (by simpa [PyData.showable] using hs) (fin _ _ _ fun _ _ z => z)
    | str x t => exact PySem.P.repr_of_str (fin _ _ _ fun _ _ z => z)
    | list h1 h2 h3 h4 => exact repr_of_reads' (.list h1 h2 h3 h4) hs (fun _ => hm) hgd (by omega) (fun _ _ z => z) (fun h' u tk k => fin h' u tk k) hz
    | tuple h1 h2 h3 h4 => exact repr_of_reads' (.tuple h1 h2 h3 h4) hs (fun _ => hm) hgd (by omega) (fun _ _ z => z) (fun h' u tk k => fin h' u tk k) hz
    | dict h1 h2 h3 h4 h5 => exact repr_of_reads' (.dict h1 h2 h3 h4 h5) hs (fun _ => hm) hgd (by omega) (fun _ _ z => z) (fun h' u tk k => fin h' u tk k) hz
end
end HX
set_option Elab.async false
set_option linter.all false
set_option maxRecDepth 100000
set_option maxHeartbeats 4400000
namespace HX
open L2 PyProof.Rows PySem.Spec PySem
theorem ok_app {a b : Str} (ha : PyData.strOk a = true) (hb : PyData.strOk b = true) : PyData.strOk (a ++ b) = true := by
  unfold PyData.strOk at *
  show (a.cps ++ b.cps).all _ = true
  rw [Array.all_append, ha, hb]; rfl
theorem ok_list {a : Str} (h : PyData.strOk a = true) : PyData.strOk (listText [a]) = true := by
  show PyData.strOk (((("[" : Str) ++ (("" : String) : Str)) ++ a) ++ "]") = true
  exact ok_app (ok_app (by decide +kernel) h) (by decide +kernel)
theorem ok_tup1 {a : Str} (h : PyData.strOk a = true) : PyData.strOk (tupleText [a]) = true := by
  show PyData.strOk ((("(" : Str) ++ a) ++ ((",)" : String) : Str)) = true
  exact ok_app (ok_app (by decide +kernel) h) (by decide +kernel)
theorem ok_tup2 {a b : Str} (h : PyData.strOk a = true) (k : PyData.strOk b = true) : PyData.strOk (tupleText [a, b]) = true := by
  show PyData.strOk ((("(" : Str) ++ (a ++ ", " ++ b)) ++ ((")" : String) : Str)) = true
  exact ok_app (ok_app (by decide +kernel) (ok_app (ok_app h (by decide +kernel)) k)) (by decide +kernel)
theorem ok_dict {a b : Str} (h : PyData.strOk a = true) (k : PyData.strOk b = true) : PyData.strOk (dictText [a ++ ": " ++ b]) = true := by
  show PyData.strOk ((("{" : Str) ++ (a ++ ": " ++ b)) ++ (("}" : String) : Str)) = true
  exact ok_app (ok_app (by decide +kernel) (ok_app (ok_app h (by decide +kernel)) k)) (by decide +kernel)
/-- data of a bounded text: n sheaths about small data -/
structure Bd (n : Nat) (d : PyData) : Prop where
  sh : d.showable = true
  dp : d.depth ≤ n + 4
  lv : d.leavesShort 24 = true
  wt : d.weight ≤ 60 * n + 400
  ok : PyData.strOk d.shown = true
theorem Bd.up {n m : Nat} {d : PyData} (h : Bd n d) (e : n ≤ m) : Bd m d := ⟨h.sh, by have := h.dp; omega, h.lv, by have := h.wt; omega, h.ok⟩
theorem Bd.l1 {n : Nat} {d : PyData} (h : Bd n d) : Bd (n + 1) (.list [d]) := by
  have a := h.dp; have b := h.wt
  refine ⟨by simp only [PyData.showable, PyData.showableAll, h.sh, Bool.and_self], ?_, by simp only [PyData.leavesShort, PyData.leavesShortAll, h.lv, Bool.and_self], ?_, ?_⟩
  · simp only [PyData.depth, PyData.depthAll]; omega
  · simp only [PyData.weight, PyData.weightAll]; omega
  · show PyData.strOk (listText [d.shown]) = true; exact ok_list h.ok
theorem Bd.t1 {n : Nat} {d : PyData} (h : Bd n d) : Bd (n + 1) (.tuple [d]) := by
  have a := h.dp; have b := h.wt
  refine ⟨by simp only [PyData.showable, PyData.showableAll, h.sh, Bool.and_self], ?_, by simp only [PyData.leavesShort, PyData.leavesShortAll, h.lv, Bool.and_self], ?_, ?_⟩
  · simp only [PyData.depth, PyData.depthAll]; omega
  · simp only [PyData.weight, PyData.weightAll]; omega
  · show PyData.strOk (tupleText [d.shown]) = true; exact ok_tup1 h.ok
/-- (d, 1) -/
theorem Bd.t2 {n : Nat} {d : PyData} (h : Bd n d) : Bd (n + 1) (.tuple [d, .int 1]) := by
  have a := h.dp; have b := h.wt
  have s1 : (PyData.int 1).showable = true := by decide +kernel
  have l1 : (PyData.int 1).leavesShort 24 = true := by decide +kernel
  have d1 : (PyData.int 1).depth = 0 := by decide +kernel
  have w1 : (PyData.int 1).weight = 1 := by decide +kernel
  refine ⟨by simp only [PyData.showable, PyData.showableAll, h.sh, Bool.true_and]; exact (Bool.and_true _).trans s1, ?_, by simp only [PyData.leavesShortAll, h.lv, l1, PyData.leavesShort, Bool.true_and]; first | rfl | exact (Bool.and_true _).trans l1, ?_, ?_⟩
  · simp only [PyData.depth, PyData.depthAll]; omega
  · have e : (PyData.tuple [d, .int 1]).weight = d.weight + 1 + ((PyData.int 1).weight + 1 + 0) := by simp only [PyData.weight, PyData.weightAll]
    omega
  · show PyData.strOk (tupleText [d.shown, (PyData.int 1).shown]) = true; exact ok_tup2 h.ok (by decide +kernel)
/-- {k: d}, k a short text -/
theorem Bd.d1 {n : Nat} {d : PyData} {k : Str} (h : Bd n d) (hk : k.cps.size ≤ 20) (hok : PyData.strOk (PyData.str k).shown = true) (hc : (k.cps.toList.all fun c => decide (c < 16 ^ 8)) = true) : Bd (n + 1) (.dict [(.str k, d)]) := by
  have a := h.dp; have b := h.wt
  refine ⟨by simp only [PyData.showable, PyData.showableKv, h.sh, Bool.and_self], ?_, by simp only [PyData.leavesShort, PyData.leavesShortKv, h.lv, hc, Bool.and_self], ?_, ?_⟩
  · simp only [PyData.depth, PyData.depthKv]; omega
  · simp only [PyData.weight, PyData.weightKv]; omega
  · show PyData.strOk (dictText [((PyData.str k).shown ++ ": " ++ d.shown)]) = true; exact ok_dict hok h.ok
theorem Bd.len {n : Nat} {d : PyData} (h : Bd n d) (hn : n ≤ 50) : d.shown.length ≤ sizeLine := by
  have q := PyData.shown_le 24 (by decide) d h.lv
  have b := h.wt
  have e := sizeLine_eq
  have m : (24 + 2) * d.weight ≤ 26 * 3400 := Nat.mul_le_mul_left _ (by omega)
  omega
/-- small data at once -/
theorem Bd.of {d : PyData} (h : (d.showable && decide (d.depth ≤ 4) && d.leavesShort 24 && decide (d.weight ≤ 400) && PyData.strOk d.shown) = true) : Bd 0 d := by
  simp only [Bool.and_eq_true, decide_eq_true_eq] at h
  exact ⟨h.1.1.1.1, by have := h.1.1.1.2; omega, h.1.1.2, by have := h.1.2; omega, h.2⟩
example : Bd 0 (.int (10 ^ 17)) := .of (by decide +kernel)
example : Bd 0 (.tuple [.tuple [], .list [.none]]) := .of (by decide +kernel)
end HX
set_option Elab.async false
set_option linter.all false
set_option maxRecDepth 100000
set_option maxHeartbeats 4400000
namespace HX
open L2 PyProof.Rows PySem.Spec PySem
/-- an exception that was caught, tracked as a value: its class at C, its dict at d -/
def ErrV (C : Addr) (d : Option Addr) (a : Addr) : HO := .ext fun h => ∃ (oe : Obj) (vs : Array Value), h.get? a = some oe ∧ Zc (.ref C) d oe ∧ oe.data = .fields vs
theorem errV_ok {P : Program} {w : World} {H : Hp} {h : Heap} {a C : Addr} {d : Option Addr} {oe : Obj} {vs : Array Value} (e : h.get? a = some oe) (z : Zc (.ref C) d oe) (q : oe.data = .fields vs) : ObjOk P w H h a (ErrV C d a) :=
  ⟨⟨oe, vs, e, z, q⟩, ⟨oe, e⟩, fun _ _ ⟨o, v, x, y⟩ k => ⟨o, v, k o x, y⟩⟩
theorem errV_at {P : Program} {w : World} {H : Hp} {h : Heap} {a C : Addr} {d : Option Addr} (k : HOk P w H h) (e : H a = some (ErrV C d a)) : ∃ (oe : Obj) (vs : Array Value), h.get? a = some oe ∧ Zc (.ref C) d oe ∧ oe.data = .fields vs :=
  let ⟨z, _⟩ := k a _ e; z
section
variable {X : Cx} {pins : List (Addr × Obj)} {σ : L2.St} {H : Hp} {s : Shared} {a : Addr} {oe : Obj} {vs : Array Value} {C : Addr} {d : Option Addr}
/-- at the suite's end: the exception, held by a pin so far, is tracked from now on -/
theorem keepErr (I : L2.Inv X ((a, oe) :: pins) σ H s) (n0 : X.s_0.heap.get? a = none) (np : ∀ p ∈ X.pn ++ pins, p.1 ≠ a) (z : Zc (.ref C) d oe) (q : oe.data = .fields vs) : L2.Inv X pins σ (upd H a (ErrV C d a)) s := by
  obtain ⟨ga, na, nL, _, nc⟩ := I.pin (a, oe) (List.mem_append_right _ List.mem_cons_self)
  have off : ∀ {b : Addr} {o : HO}, H b = some o → b ≠ a := fun e => ne_of_none e na
  have b0 : ∀ {b : Addr} {o : Obj}, X.s_0.heap.get? b = some o → b ≠ a := fun e y => by rw [y, n0] at e; cases e
  have hk : HOk X.prog X.w (upd H a (ErrV C d a)) s.heap := HOk.laidN I.hok (fun _ _ e => e) na (errV_ok ga z q)
  refine { ok := I.ok, os := I.os, bare := I.bare, base := ?_, loc := I.loc, cell := I.cell, free := ?_, freeC := fun x c e => ?_, pin := fun p hp => ?_, hok := hk, len := I.len }
  · exact { keep := I.base.keep, slot := I.base.slot, free := fun b o e n x => by rw [upd_ne (b0 e)]; exact I.base.free b o e n x, there := I.base.there,
            tups := fun b xs e => by have y := I.base.tups b xs e; rw [upd_ne (off y)]; exact y,
            frzs := fun b o u e => by have y := I.base.frzs b o u e; rw [upd_ne (off y)]; exact y,
            tbls := fun b ps e => by obtain ⟨m, y⟩ := I.base.tbls b ps e; exact ⟨m, by rw [upd_ne (off y)]; exact y⟩ }
  · rw [upd_ne (Ne.symm nL)]; exact I.free
  · have nca : c ≠ a := fun y => by
      obtain ⟨v, o, ho, hd⟩ := I.cell x c e
      rw [y, ga] at ho
      cases ho
      exact nc v hd
    rw [upd_ne nca]; exact I.freeC x c e
  · have y := I.pin p (by
      rcases List.mem_append.mp hp with h | h
      · exact List.mem_append_left _ h
      · exact List.mem_append_right _ (List.mem_cons_of_mem _ h))
    exact ⟨y.1, by rw [upd_ne (np p hp)]; exact y.2.1, y.2.2⟩
/-- what stands there, as the library's rules of instances ask it -/
theorem errV_inst (I : L2.Inv X pins σ H s) (e : H a = some (ErrV C none a)) : PySem.W.InstAt s.heap a ((s.heap.get? a).getD default) C none := by
  obtain ⟨oe, vs, g, z, q⟩ := errV_at I.hok e
  rw [g]
  exact ⟨g, z.1, by unfold PySem.W.notCls; rw [Option.getD_some, q] <;> rfl, by rw [Option.getD_some, z.2]; trivial⟩
end
section
variable {X : Cx} {C : Addr} {e : Expr} {te : TE} {pos : Pos} {n : Str} {pins : List (Addr × Obj)} {σ : L2.St} {H : Hp} {s : Shared}
/-- e.n of a tracked exception -/
def tErrF (C : Addr) (n : Str) (te : TE) : TE := fun σ H Q => te σ H fun x H1 => ∃ (a dd : Addr) (fs : List (Str × V)) (v : V), x = .ref a ∧ H1 a = some (ErrV C (some dd) a) ∧ H1 dd = some (.xd fs) ∧ fs.lookup n = some v ∧ Q v H1
theorem pe_errF (T : XfC X.K C) (hno : PySem.W.findIn X.K (.ref C) n = some none) (he : PE X e te) (hb : attributeBase e n X.env (eval e X.env) = eval e X.env := by rfl) : PE X (.Attribute e n pos) (tErrF C n te) := by
  refine ⟨fun pp t τ G R J w => attr_of hb (thn (he.run pp t τ G _ J w) fun u t1 ⟨x, G1, J1, rx, a, dd, fs, v, ex, ea, ed, l, q⟩ => ?_)⟩
  subst ex
  have eu : u = Value.ref a := rx; subst eu
  obtain ⟨oe, vs, g, z, hd⟩ := errV_at J1.hok ea
  obtain ⟨mA, hns, hr⟩ : ObjOk X.prog X.w G1 t1.heap dd (.xd fs) := J1.hok dd _ ed
  obtain ⟨od, ho, hl⟩ := lookIn_ns hns
  obtain ⟨u, hu, ru⟩ := RelO.some_of (v := v) (o := mA n) (by rw [← l]; exact hr n)
  have W : PySem.W.InstAt t1.heap a oe C (some od) := ⟨g, z.1, by unfold PySem.W.notCls; rw [hd] <;> rfl, by rw [z.2]; exact ho⟩
  exact HandSPX.exc_get J1.kIn W T.ga T.gg T.exC (PySem.W.findObj_own T.hdC hno rfl (by rw [hl, hu])) (handed_of ru) ⟨v, G1, J1.tok _, ru, q⟩
/-- what the class says so that isinstance asks its errors rightly -/
structure ErrC (K : PySem.W.Frag) (C : Addr) : Prop where
  cl : (PySem.W.clsIn K C).isSome = true
  ga : PySem.W.findIn K (.ref C) "__getattribute__" = some (some (.builtin "BaseException.__getattribute__"))
  gt : PySem.W.findIn K (.ref C) "__getattr__" = some none
  be : PySem.W.subIn K (.ref C) (.type "BaseException") = some true
  kc : PySem.W.findIn K (.ref C) "__class__" = some (some (.builtin "object.__class__"))
  kg : PySem.W.specialIn K (.builtin "object.__class__") "__get__" = some (some (.builtin "getset_descriptor.__get__"))
  kt : PySem.W.takesIn K (.builtin "object.__class__") = some true
  ob : PySem.W.mroIn K C (.type "object") = some true
theorem errV_some (J : L2.Inv X pins σ H s) {a dd : Addr} {fs : List (Str × V)} (ea : H a = some (ErrV C (some dd) a)) (ed : H dd = some (.xd fs)) : ∃ oe od, PySem.W.InstAt s.heap a oe C (some od) := by
  obtain ⟨oe, vs, g, z, hd⟩ := errV_at J.hok ea
  obtain ⟨mA, hns, _⟩ : ObjOk X.prog X.w H s.heap dd (.xd fs) := J.hok dd _ ed
  obtain ⟨od, ho, _⟩ := lookIn_ns hns
  exact ⟨oe, od, g, z.1, by unfold PySem.W.notCls; rw [hd] <;> rfl, by rw [z.2]; exact ho⟩
/-- isinstance of a tracked error -/
def rIsErr (K : PySem.W.Frag) : List V → Hp → VK → Prop := fun xs H Q => ∃ (a C dd : Addr) (fs : List (Str × V)) (c : V) (cv : Value) (b : Bool), xs = [.ref a, c] ∧ H a = some (ErrV C (some dd) a) ∧ H dd = some (.xd fs) ∧ ErrC K C ∧ (∀ u, RelV c u → u = cv) ∧ PySem.W.kitOne K (.ref C) cv = some b ∧ Q (.bl b) H
theorem call_isErr : CallR X (.builtin "isinstance") (rIsErr X.K) := by
  intro pp t τ G xs us; intro Q J r h
  obtain ⟨a, C, dd, fs, c, cv, b, rfl, ea, ed, T, hcv, e, q⟩ := h
  cases r with
  | cons rx rr =>
    cases rr with
    | cons rt rr =>
      cases rr; cases rx
      have ec := hcv _ rt; subst ec
      obtain ⟨oe, od, W⟩ := errV_some J ea ed
      exact PySem.W.kia_one (PySem.W.kitx_exc T.cl T.ga T.gt T.be T.kc T.kg T.kt T.ob) J.kIn W e (fun z => nomatch z) fun tk => ⟨.bl b, G, J.kept (t' := tk) fun _ _ z => z, rfl, q⟩
end
end HX
set_option Elab.async false
set_option linter.all false
set_option maxRecDepth 100000
set_option maxHeartbeats 4400000
namespace HX
open L2 PyProof.Rows PySem.Spec PySem
/-- as wAs, but behind the suite the caught error is a tracked value -/
def wKp (K : PySem.W.Frag) (c : Value) (i : Nat) (ts : Addr → Value → Option Addr → TS) (Wout : WX) (D : Ends) : WX := fun cls d σ H => ∃ b, PySem.W.exmOne K cls c = some b ∧ (b = false → Wout cls d σ H) ∧
  (b = true → ∃ C, cls = .ref C ∧ ∀ a, H a = none → ts a cls d { D with nx := fun σ' H' => D.nx (σ'.set i none) (upd H' a (ErrV C d a)), bk := fun σ' H' => D.bk (σ'.set i none) H', ct := fun σ' H' => D.ct (σ'.set i none) H' } (σ.set i (some (.ref a))) H)
section
variable {X : Cx} {x n : Str} {c : Value} {i : Nat} {b₀ : Stmt} {body suite : List Stmt} {np pos pos' : Pos} {tb : WX → TS} {ts : Addr → Value → Option Addr → TS} {Wout : WX}
theorem ps_try_keep (hs : X.stack = X.env :: X.outer) (hf : X.env.frame = some X.env.locals) (hN : X.N.Nodup) (hi : X.N[i]? = some n) (hln : X.env.kindOf n = some .local) (hc : Names X x c) (tk : Takes X Wout) (hex : X.ex = [])
    (hb : ∀ (W : WX) (pn : List (Addr × Obj)) (xe : Value → Shared → Prop), Takes (X.tr pn xe) W → PassesOwn (model X.prog X.w) X.A X.env xe → PSs (X.tr pn xe) body (tb W))
    (hsu : ∀ (a : Addr) (oe : Obj) (cls : Value) (d : Option Addr) (pn : List (Addr × Obj)), Zc cls d oe → (∃ vs, oe.data = .fields vs) → PSs (X.suite a ((a, oe) :: pn)) (b₀ :: suite) (ts a cls d)) :
    PS X (.Try body [.ExceptHandler (some (.Name x np)) (some n) (b₀ :: suite) pos'] [] [] pos) (fun D σ H => tb (wKp X.K c i ts Wout D) D σ H) := by
  refine ⟨fun pp t0 τ G D J0 w0 => ?_⟩
  have ok := J0.ok
  have fr : X.A.frames = some (X.env :: X.outer) := by rw [ok.frames, hs]
  let land : Value → Shared → Prop := fun e t => wpAny (model X.prog X.w) X.A (noteFrame e X.env) (fun _ t => wpAny (model X.prog X.w) X.A (setFlight e none) (fun _ t => wpAny (model X.prog X.w) X.A (handleBy e X.env [.ExceptHandler (some (.Name x np)) (some n) (b₀ :: suite) pos']) (SP X pp D) X.xe t) X.xe t) X.xe t
  have caught : Takes (X.tr (X.pn ++ pp) land) (wKp X.K c i ts Wout D) := by
    rintro u t ⟨a, B, tI, _, τ1, G1, cls, d, rfl, J1', nb, up, sky, na, os, ag, b, hb1, hno, hyes⟩
    have J1 : L2.Inv X pp τ1 G1 tI := J1'.ofTry ok
    have sky1 : Sky B (X.env :: X.outer) a (Zc cls d) X.env.locals t.heap := by rw [← hs]; exact sky
    refine Sky.land Zc.steady fr hf sky1 fun h3 fl3 up3 => ?_
    have J3 : L2.Inv X pp τ1 G1 { t with heap := h3 } := J1.landed nb fl3.1 (up.trans up3) os ag
    obtain ⟨oe3, vs3, he3, hz3, hd3⟩ := fl3.there
    have noF : a ∉ frs (X.env :: X.outer) := fun hm => by
      obtain ⟨_, o1, e1, z⟩ := fl3.2.2.1.mem hm
      rw [he3] at e1; cases e1; exact z _ hd3
    have nL : a ≠ X.env.locals := fun z => noF (List.mem_filterMap.mpr ⟨X.env, List.mem_cons_self, by rw [hf, z]⟩)
    have nO : a ∉ X.fs := fun hm => let ⟨e, he, q⟩ := List.mem_filterMap.mp hm; noF (List.mem_filterMap.mpr ⟨e, List.mem_cons_of_mem _ he, q⟩)
    have nB : B.get? a = none := fl3.2.1
    have nI : ∀ o, tI.heap.get? a ≠ some o := fun o e => by
      have z := nb a o e (by rw [hs]; exact noF)
      rw [nB] at z; cases z
    have n0 : X.s_0.heap.get? a = none := by
      cases e : X.s_0.heap.get? a with
      | none => rfl
      | some o => obtain ⟨o1, z⟩ := J1.base.there a o e (by rw [hex]; exact List.not_mem_nil); exact absurd z (nI o1)
    have noPin : ∀ p ∈ X.pn ++ pp, p.1 ≠ a := fun p hp z => nI p.2 (by rw [← z]; exact (J1.pin p hp).1)
    have S3 := J3.suite he3 hd3 na nL nO
    refine wpAny_handleBy_cons (codeAny_handlers_test ?_) (by intro q; cases q)
    have ty : PySem.W.Looks (model X.prog X.w) h3 (typeOf (.ref a)) cls := fun A Q E s k q => wpAny_typeOf_ref (k _ _ he3) (by rw [hz3.1]; exact q)
    have ans := PySem.W.exm_one (M := model X.prog X.w) J3.kIn ty hb1
    have named : ∀ {Q E : Value → Shared → Prop}, Q c { t with heap := h3 } → wpAny (model X.prog X.w) (X.A.mark (some (.ref a))) (eval (.Name x np) X.env) Q E { t with heap := h3 } := fun {Q E} q => by
      obtain ⟨hg, nd, hm | ⟨hm, hv, nn⟩⟩ := hc
      · exact ld_glob (X := X.suite a ((a, oe3) :: (X.pn ++ pp))) S3 hg hm q nd
      · exact ld_blt (X := X.suite a ((a, oe3) :: (X.pn ++ pp))) S3 hg hm hv q nn nd
    refine named (ans.here ?_)
    cases b with
    | false =>
      show wpAny _ X.A (handleBy (.ref a) X.env []) _ _ _
      refine wpAny_handleBy_nil ?_
      have on : wpAny (model X.prog X.w) X.A (setFlight (.ref a) X.env.frame) (fun _ t4 => wpAny (model X.prog X.w) X.A (throw (.ref a) : Sem Flow) (SP X pp D) X.xe t4) X.xe { t with heap := h3 } := by
        rw [hf]
        exact HandSPX.setFlight_upZ fl3 fun h4 held up4 => wpAny_throw (tk _ _ ⟨a, B, tI, pp, τ1, G1, cls, d, rfl, J1, nb, (up.trans up3).trans up4, .inr (.inr (by rw [hs]; exact held)), na, os, ag, hno rfl⟩)
      obtain ⟨_, _, _, oe, vs, T, _, _, he, _, hd, h1, _⟩ := id fl3
      unfold PySem.passOn
      refine wpAny_bind (wpAny_field he hd h1 ?_)
      rw [if_neg (show ¬ ((Value.ref T == Value.none) = true) from by simp)]
      first | exact wpAny_bind (wpAny_pure (wpAny_bind on)) | exact wpAny_bind on
    | true =>
      obtain ⟨C, ec, yes⟩ := hyes rfl
      subst ec
      refine codeAny_handlers_suite_as (HandSPX.lands_againZ fl3 fun h4 fl4 up4 => ?_)
      have J4 : L2.Inv X pp τ1 G1 { t with heap := h4 } := J1.landed nb fl4.1 ((up.trans up3).trans up4) os ag
      obtain ⟨oe4, vs4, he4, hz4, hd4⟩ := fl4.there
      refine store_ok (X := X.suite a ((a, oe4) :: (X.pn ++ pp))) (v := .ref a) (J4.suite he4 hd4 na nL nO) hN hi (.inl hln) rfl (fun t5 S5 => ?_) (.inr hln)
      refine wpAny_mono ((hsu a oe4 (.ref C) d (X.pn ++ pp) hz4 ⟨_, hd4⟩).run [] t5 _ G1 _ S5 (yes a na)) (fun f t6 r => ?_) (fun _ _ z => False.elim z)
      have plain : ∀ {τ6 : L2.St} {G6 : Hp} {Q : Shared → Prop}, L2.Inv (X.suite a ((a, oe4) :: (X.pn ++ pp))) [] τ6 G6 t6 → (∀ t7, L2.Inv X pp (τ6.set i none) G6 t7 → Q t7) →
          wpAny (model X.prog X.w) X.A (do bindName X.env n .none; unbindBehindTheSuite X.env n pos') (fun _ t7 => Q t7) X.xe t6 := fun S6 k => gone_ok (S6.unsuite ok) hN hi hln k
      match f, r with
      | .next, ⟨τ6, G6, S6, q6⟩ =>
        have U : L2.Inv X ((a, oe4) :: pp) τ6 G6 t6 := { ok := ok, os := S6.os, bare := S6.bare, base := S6.base, loc := S6.loc, cell := S6.cell, free := S6.free, freeC := S6.freeC, hok := S6.hok, len := S6.len, pin := fun p hp => S6.pin p (by
          rcases List.mem_append.mp hp with h | h
          · exact List.mem_append_left _ (List.mem_cons_of_mem _ (List.mem_append_left _ h))
          · rcases List.mem_cons.mp h with h | h
            · rw [h]; exact List.mem_append_left _ List.mem_cons_self
            · exact List.mem_append_left _ (List.mem_cons_of_mem _ (List.mem_append_right _ h))) }
        exact gone_ok U hN hi hln fun t7 J7 => ⟨_, _, keepErr J7 n0 noPin hz4 hd4, q6⟩
      | .brk, ⟨τ6, G6, S6, q6⟩ => exact plain S6 fun t7 J7 => ⟨_, _, J7, q6⟩
      | .cont, ⟨τ6, G6, S6, q6⟩ => exact plain S6 fun t7 J7 => ⟨_, _, J7, q6⟩
      | .ret u, ⟨v6, τ6, G6, S6, r6, q6⟩ => exact plain S6 fun t7 J7 => ⟨_, _, _, J7, r6, q6⟩
  refine wpAny_Try_except (wpAny_mono ((hb _ (X.pn ++ pp) land caught PassesOwn.looking).run [] t0 τ G D (J0.toTry _) w0) (fun f t1 r => ?_) (fun e t1 z => z))
  match f, r with
  | .next, ⟨τ1, G1, J1, q⟩ => exact wpAny_execs_nil ⟨τ1, G1, J1.ofTry ok, q⟩
  | .brk, ⟨τ1, G1, J1, q⟩ => exact ⟨τ1, G1, J1.ofTry ok, q⟩
  | .cont, ⟨τ1, G1, J1, q⟩ => exact ⟨τ1, G1, J1.ofTry ok, q⟩
  | .ret u, ⟨v, τ1, G1, J1, rv, q⟩ => exact ⟨v, τ1, G1, J1.ofTry ok, rv, q⟩
end
end HX
set_option Elab.async false
set_option linter.all false
set_option maxRecDepth 100000
set_option maxHeartbeats 4400000
namespace HX
open L2 PyProof.Rows PySem.Spec PySem
section
variable {X : Cx} {e : Expr} {es : List Expr} {ta : TA} {p pos : Pos} {x n : Str} {CX : CXT} {C fI : Addr} {k : Nat} {fd : FuncData} {ps : List Str} {sp : Sp} {te : TE} {pins : List (Addr × Obj)} {σ : L2.St} {H : Hp} {s : Shared}
/-- C(e, ..) of an own error with an own __init__, as a value -/
def tMkV (C : Addr) (sp : Sp) (t : TA) : TE := fun σ H Q => t σ H fun vs H1 => vs.length ≤ 1000 ∧ ∀ a, H1 a = none → sp (.ref a :: vs) (upd H1 a (exo a C none)) (fun v H2 => v = .non ∧ Q (.ref a) H2) (fun _ _ _ => False)
theorem pe_mkV (T : OexC X.K C) (iC : PySem.W.findIn X.K (.ref C) "__init__" = some (some (.ref fI))) (tI : PySem.W.typeIn X.K (.ref fI) = some (.type "function")) (F1 : FnOk X.prog X.w X.K X.mg X.base CX k fI fd ps sp) (hr : Room (k + 1) X.A) (hb : Binds X.K fd ps [])
    (hx : Passes CX X (fun _ _ _ => False)) (hg : Gl X x) (hm : X.mg x = some (.ref C)) (ha : PA X (e :: es) ta) (nd : (x == ("__debug__" : Str)) = false := by decide)
    (hst : starEach (e :: es) X.env = (false, eval e X.env) :: starEach es X.env := by rfl) (hpl : (backTo pos (starEach es X.env)).any (·.1) = false := by rfl) : PE X (.Call (.Name x p) (e :: es) [] pos) (tMkV C sp ta) := by
  refine ⟨fun pp t0 τ G R J w => wpAny_Call_Name_kw (ld_glob J hg hm ?_ nd)⟩
  obtain ⟨nm, q, N, bs, bm, sn, sub, ab, col, dd, k0, k1, k2, k3, k5, hC, hbm⟩ := T.cls
  refine PySem.W.callWith_K (h₀ := X.base) J.ok.mod.kin T.kC (thn (ha.run pos pp t0 τ G _ J w) fun us t1 ⟨vs, G1, J1, r1, few, q1⟩ => ⟨J1.kIn, ?_⟩) hst hpl
  show wpAny _ _ (call (.ref C) us) _ _ _
  obtain ⟨hp, g, dr, tk, os⟩ := t1
  let a := hp.objs.size + 1
  let h2 : Heap := (hp.push (PySem.W.kdv_tup us)).push (PySem.HandSPX.excO C hp.objs.size)
  have na : G1 a = none := J1.hok.fresh (Nat.le_succ _)
  have want := q1 a na
  have got : h2.get? a = some (PySem.HandSPX.excO C hp.objs.size) := by show ((hp.push (PySem.W.kdv_tup us)).push (PySem.HandSPX.excO C hp.objs.size)).get? (hp.objs.size + 1) = _; heap_get
  have J2 : L2.Inv X pp τ (upd G1 a (exo a C none)) ⟨h2, g, dr, tk, os⟩ := J1.laid (t' := tk) (a := a) (o := exo a C none) (h' := h2) (fun b o y => Heap.get?_push_of_some _ (Heap.get?_push_of_some _ y)) (Nat.le_succ _) (exo_ok got)
  have r2 : Vals (V.ref a :: vs) (Value.ref a :: us) := .cons rfl r1
  have nps : (Value.ref a :: us ++ []).length = ps.length := by rw [List.append_nil, ← r2.length]; exact F1.len _ _ _ _ want
  have nus : us.length ≤ sizeLine := by rw [← Paired.length r1, sizeLine_eq]; omega
  have bound := hb _ (Value.ref a :: us) J2.kIn nps; rw [List.append_nil] at bound
  refine wpAny_call (PySem.HandSPX.call_own F.excBase_ValueError (fun Y => PySem.HandSPX.refsVE_contains Y bm hbm) (J1.kIn _ _ hC) (PySem.W.looks_findIn J1.kIn iC) (fun self => PySem.W.bind_fn J1.kIn self tI) nus
    (codeAny_mono (F1.run _ X.stack _ _ ⟨Value.ref a :: us, []⟩ (Value.ref a :: us) _ _ (fun _ _ _ => False) (hr.make C us []) (J2.env0.make C us []) bound r2 want) fun z t2 w2 => ?_))
  match z, w2 with
  | .ok (.ret u), w2 =>
    obtain ⟨v, G2, J3, rv, ev, q2⟩ := J2.after w2
    subst ev
    exact ⟨rv, .ref a, G2, J3, rfl, q2⟩
  | .ok .next, w2 | .ok .brk, w2 | .ok .cont, w2 => exact False.elim w2
  | .error er, w2 => exact hx pp τ _ _ er t2 J2 w2
/-- an error of the class at C with these fields: one that was made, or one that was caught -/
def ErrIs (H : Hp) (C a : Addr) (fs : List (Str × V)) : Prop := ∃ dd, (H a = some (ErrV C (some dd) a) ∧ H dd = some (.xd fs)) ∨ (H a = some (exo a C (some dd)) ∧ H dd = some (exd dd fs))
theorem errIs_inst {a : Addr} {fs : List (Str × V)} (J : L2.Inv X pins σ H s) (h : ErrIs H C a fs) : ∃ (oe od : Obj) (mA : Str → Option Value), PySem.W.InstAt s.heap a oe C (some od) ∧ (∀ f, PySem.W.lookIn f od = some (mA f)) ∧ ∀ f, RelO (fs.lookup f) (mA f) := by
  obtain ⟨dd, ⟨ea, ed⟩ | ⟨ea, ed⟩⟩ := h
  · obtain ⟨oe, vs, g, z, hd⟩ := errV_at J.hok ea
    obtain ⟨mA, hns, hr⟩ : ObjOk X.prog X.w H s.heap dd (.xd fs) := J.hok dd _ ed
    obtain ⟨od, ho, hl⟩ := lookIn_ns hns
    exact ⟨oe, od, mA, ⟨g, z.1, by unfold PySem.W.notCls; rw [hd] <;> rfl, by rw [z.2]; exact ho⟩, hl, hr⟩
  · obtain ⟨t0, g⟩ := exo_at J.hok ea
    obtain ⟨mA, hns, hr⟩ := exd_at J.hok ed
    obtain ⟨od, ho, hl⟩ := lookIn_ns hns
    exact ⟨_, od, mA, ⟨g, rfl, by unfold PySem.W.notCls; rfl, ho⟩, hl, hr⟩
/-- e.n of such an error -/
def tErrN (C : Addr) (n : Str) (te : TE) : TE := fun σ H Q => te σ H fun x H1 => ∃ (a : Addr) (fs : List (Str × V)) (v : V), x = .ref a ∧ ErrIs H1 C a fs ∧ fs.lookup n = some v ∧ Q v H1
theorem pe_errN (T : XfC X.K C) (hno : PySem.W.findIn X.K (.ref C) n = some none) (he : PE X e te) (hb : attributeBase e n X.env (eval e X.env) = eval e X.env := by rfl) : PE X (.Attribute e n pos) (tErrN C n te) := by
  refine ⟨fun pp t τ G R J w => attr_of hb (thn (he.run pp t τ G _ J w) fun u t1 ⟨x, G1, J1, rx, a, fs, v, ex, ea, l, q⟩ => ?_)⟩
  subst ex
  have eu : u = Value.ref a := rx; subst eu
  obtain ⟨oe, od, mA, W, hl, hr⟩ := errIs_inst J1 ea
  obtain ⟨u, hu, ru⟩ := RelO.some_of (v := v) (o := mA n) (by rw [← l]; exact hr n)
  exact HandSPX.exc_get J1.kIn W T.ga T.gg T.exC (PySem.W.findObj_own T.hdC hno rfl (by rw [hl, hu])) (handed_of ru) ⟨v, G1, J1.tok _, ru, q⟩
/-- isinstance of such an error -/
def rIsN (K : PySem.W.Frag) : List V → Hp → VK → Prop := fun xs H Q => ∃ (a C : Addr) (fs : List (Str × V)) (c : V) (cv : Value) (b : Bool), xs = [.ref a, c] ∧ ErrIs H C a fs ∧ ErrC K C ∧ (∀ u, RelV c u → u = cv) ∧ PySem.W.kitOne K (.ref C) cv = some b ∧ Q (.bl b) H
theorem call_isN : CallR X (.builtin "isinstance") (rIsN X.K) := by
  intro pp t τ G xs us; intro Q J r h
  obtain ⟨a, C, fs, c, cv, b, rfl, ea, T, hcv, e, q⟩ := h
  cases r with
  | cons rx rr =>
    cases rr with
    | cons rt rr =>
      cases rr; cases rx
      have ec := hcv _ rt; subst ec
      obtain ⟨oe, od, _, W, _⟩ := errIs_inst J ea
      exact PySem.W.kia_one (PySem.W.kitx_exc T.cl T.ga T.gt T.be T.kc T.kg T.kt T.ob) J.kIn W e (fun z => nomatch z) fun tk => ⟨.bl b, G, J.kept (t' := tk) fun _ _ z => z, rfl, q⟩
end
end HX
set_option Elab.async false
set_option linter.all false
set_option maxRecDepth 100000
set_option maxHeartbeats 4400000
namespace PySem.HXk
open PySem PySem.HandSPX Builtin Builtin.ObjectAttr
/-- at C stands the class of an own error that hangs on ValueError; bm: what its mro has behind it -/
def Own (hp : Heap) (C : Addr) (bm : List Value) : Prop := ∃ nm q N bs sn sub ab col dd k0 k1 k2 k3 k5, hp.get? C = some (excClassObj nm q C N bs bm true sn sub ab col dd k0 k1 k2 k3 k5 "ValueError.__new__") ∧ refsVE bm = true
/-- C(k = v, ..) of such a class with an own __init__: the object is made without the keywords, which go to __init__ -/
theorem made_by_keyword {pr : Program} {wd : World} {Ar : Around} {Rs : Result → Shared → Prop} {hp : Heap} {gs : Array GenState} {dr : Drawn} {tk : Nat} {os : OsState} {C fI : Addr} {bm : List Value} {ks : List (Str × Value)}
    (cl : Own hp C bm) (ini : W.Looks (model pr wd) hp (typeLookup (.ref C) "__init__") (some (.ref fI))) (bnd : ∀ self, W.Looks (model pr wd) hp (bindSpecial (.ref fI) self) (.ref fI, [self]))
    (go : codeAny (model pr wd) (Ar.under (.builtin "type.__call__" ⟨[.ref C], ks⟩)) (.call (.ref fI) ⟨[.ref (hp.objs.size + 1)], ks⟩) (W.InitBack (hp.objs.size + 1) Rs) ⟨(hp.push (W.kdv_tup [])).push (excO C hp.objs.size), gs, dr, tk, os⟩) :
    codeAny (model pr wd) Ar (.call (.ref C) ⟨[], ks⟩) Rs ⟨hp, gs, dr, tk, os⟩ := by
  obtain ⟨nm, q, N, bs, sn, sub, ab, col, dd, k0, k1, k2, k3, k5, at_, rv⟩ := cl
  have Z := F.excBase_ValueError
  have has : ∀ Y : String, (Value.ref C :: bm).contains (.type Y) = veTail.contains (.type Y) := fun Y => by rw [List.contains_cons, refsVE_contains Y bm rv]; rfl
  have ty : W.Looks (model pr wd) hp (typeOf (.ref C)) (.type "type") := fun _ _ _ _ kp qq => wpAny_typeOf_ref (kp _ _ at_) qq
  have lk := tc_lookup
  have bd := tc_bind (.ref C)
  have tyIs : (⟨hp, gs, dr, tk, os⟩ : Shared).TypeIs (.ref C) "type" := ⟨_, at_, rfl⟩
  -- the call's own check, then its body
  have core : wpAny (model pr wd) (Ar.under (.builtin "type.__call__" ⟨[.ref C], ks⟩)) (Builtin.«type.__call__» ⟨[.ref C], ks⟩) (fun z s' => match z with | .done r => Rs (.ok r) s' | .again c => c.quiet = true ∧ codeAny (model pr wd) Ar c Rs s') (fun e s' => Rs (.error e) s') ⟨hp, gs, dr, tk, os⟩ := by
    repeat (first | with_reducible refine wpAny_loadPart_at at_ ?_ | with_reducible refine wpAny_madeBy_exc at_ ?_ | wp_step)
    refine codeAny_call_builtin_code (Code.quiet_builtin _ Z.quiet) ?_
    have star := Z.noStar
    simp only [checkBuiltinCall, Z.newKind, Z.newSplit, Z.newRow]
    repeat (first | refine wpAny_loadPart_at at_ ?_ | (refine wpAny_isSubtype_exc at_ ?_; rw [has]) | refine wpAny_staticBase_exc at_ ?_ | refine wpAny_madeBy_exc at_ ?_ | simp only [bne_self_eq_false, Bool.false_eq_true, if_false] | wp_step)
    have ends := Z.ends
    refine codeAny_builtinAt Z.entry (wpAt_bind ?_)
    (show wpAt _ _ _ (stack >>= _) _ _ _); refine wpAt_bind (wpAt_stack fun _ _ => wpAt_of_wpAny ?_)
    wp_walk
    refine wpAt_of_wpAny ?_
    rw [Z.owner]
    repeat (first | with_reducible refine wpAny_madeHere_exc Z.canon at_ ?_ | with_reducible refine wpAny_loadPart_at at_ ?_ | (with_reducible refine wpAny_isSubtype_exc at_ ?_; rw [has]) | wp_step)
    have keep : ∀ b o, hp.get? b = some o → ((hp.push (W.kdv_tup [])).push (excO C hp.objs.size)).get? b = some o := fun _ _ y => Heap.get?_push_of_some _ (Heap.get?_push_of_some _ y)
    refine wpAny_isSubtype_exc (keep _ _ at_) ?_
    rw [show (Value.ref C :: bm).contains (.ref C) = true from by simp]
    repeat (first | wp_step)
    rw [← show (hp.push (W.kdv_tup [])).objs.size = hp.objs.size + 1 from Heap.size_push _ _] at go
    refine (ini.keeps keep).at (wpAny_holding (wpAny_bind (((bnd (.ref (hp.push (W.kdv_tup [])).objs.size)).keeps keep).at (wpAny_bind (wpAny_call (codeAny_mono go fun z s' y => ?_))))))
    rcases z with e | (v | _ | _ | _) <;> first | exact y | exact y.elim | skip
    obtain ⟨rfl, y⟩ := y
    first
      | exact wpAny_pure (wpAny_pure y)
      | (wp_walk; exact y)
  refine codeAny_of_tree (show wpAny _ _ (callAny (.ref C) _) _ _ _ from ?_)
  repeat (any_goals (first | assumption | with_reducible refine wpAny_loadPart_at at_ ?_ | wp_step))
  refine ⟨rfl, codeAny_call_builtin_at (Code.quiet_builtin _ (by decide +kernel)) entry_typeCall (W.check_slot tc_kind tc_split ?_ (W.tc_args _ _ _) ?_)⟩
  · unfold isInstance
    exact ty.andThen (.of_pure (by kernel_rfl))
  · exact core
end PySem.HXk
namespace HX
open L2 PyProof.Rows PySem.Spec PySem
theorem ErrIs.ex {H H' : Hp} {C a : Addr} {fs : List (Str × V)} (h : ErrIs H C a fs) (e : Ex H H') : ErrIs H' C a fs := let ⟨dd, q⟩ := h; ⟨dd, q.elim (fun ⟨x, y⟩ => .inl ⟨e _ _ x, e _ _ y⟩) (fun ⟨x, y⟩ => .inr ⟨e _ _ x, e _ _ y⟩)⟩
/-- an own error's __init__ that keeps what it gets under n -/
def spEI (C : Addr) (n : Str) : Sp := fun vs H Q _ => ∃ (a : Addr) (v : V), vs = [.ref a, v] ∧ H a = some (exo a C none) ∧ ∀ dx, H dx = none → dx ≠ a → Q .non (upd (upd H dx (exd dx [(n, v)])) a (exo a C (some dx)))
/-- what is asked of such a class -/
structure ErrT (K : PySem.W.Frag) (mg : Str → Option Value) (x n : Str) (C f : Addr) (d : FuncData) : Prop where
  oex : OexC K C
  xf : XfC K C
  er : ErrC K C
  no : PySem.W.findIn K (.ref C) n = some none
  ini : PySem.W.findIn K (.ref C) "__init__" = some (some (.ref f))
  fn : PySem.W.typeIn K (.ref f) = some (.type "function")
  b : Binds K d ["self", n] []
  kb : ∀ (s : Shared) (a u : Value), K.In s.heap → BindsTo s d ⟨[a], [(n, u)]⟩ [("self", a), (n, u)]
  m : mg x = some (.ref C)
section
variable {X : Cx} {e : Expr} {p pos kpos : Pos} {x n : Str} {C f : Addr} {d : FuncData} {te : TE} {k : Nat}
theorem err_of {H : Hp} {a dx C : Addr} {n : Str} {v : V} (na : H a = none) (nd : (upd H a (exo a C none)) dx = none) (ne : dx ≠ a) : Ex H (upd (upd (upd H a (exo a C none)) dx (exd dx [(n, v)])) a (exo a C (some dx))) ∧ ErrIs (upd (upd (upd H a (exo a C none)) dx (exd dx [(n, v)])) a (exo a C (some dx))) C a [(n, v)] := by
  refine ⟨fun b o hb => ?_, dx, .inr ⟨upd_same, by rw [upd_ne ne, upd_same]⟩⟩
  have h1 : b ≠ a := ne_of_none hb na
  have h2 : (upd H a (exo a C none)) b = some o := by rw [upd_ne h1]; exact hb
  have h3 : b ≠ dx := ne_of_none h2 nd
  rw [upd_ne h1, upd_ne h3]; exact h2
/-- C(e), the error as a value -/
def tMkE (C : Addr) (n : Str) (te : TE) : TE := fun σ H Q => te σ H fun v H1 => ∀ (a : Addr) (H2 : Hp), H1 a = none → Ex H1 H2 → ErrIs H2 C a [(n, v)] → Q (.ref a) H2
theorem pe_mkE (T : ErrT X.K X.mg x n C f d) (F1 : FnOk X.prog X.w X.K X.mg X.base CX0 k f d ["self", n] (spEI C n)) (hr : Room (k + 1) X.A) (hg : Gl X x) (he : PE X e te) (nd : (x == ("__debug__" : Str)) = false := by decide)
    (hst : starEach [e] X.env = (false, eval e X.env) :: starEach [] X.env := by rfl) (hpl : (backTo pos (starEach [] X.env)).any (·.1) = false := by rfl) : PE X (.Call (.Name x p) [e] [] pos) (tMkE C n te) := by
  refine ⟨fun pp t0 τ G R J w => wpAny_Call_Name_kw (ld_glob J hg T.m ?_ nd)⟩
  obtain ⟨nm, q, N, bs, bm, sn, sub, ab, col, dd, k0, k1, k2, k3, k5, hC, hbm⟩ := T.oex.cls
  refine PySem.W.callWith_K (h₀ := X.base) J.ok.mod.kin T.oex.kC (thn ((pa_cons (hs := hst) he pa_nil).run pos pp t0 τ G (fun vs H1 => match vs with | [v] => ∀ (a : Addr) (H2 : Hp), H1 a = none → Ex H1 H2 → ErrIs H2 C a [(n, v)] → R (.ref a) H2 | _ => False) J w) fun us t1 ⟨vs, G1, J1, r1, q1⟩ => ⟨J1.kIn, ?_⟩) hst hpl
  (show wpAny _ _ (call (.ref C) us) _ _ _); match vs, q1, r1 with
  | [v], q1, .cons (b := u) ru .nil =>
  obtain ⟨hp, g, dr, tk, os⟩ := t1
  let a := hp.objs.size + 1
  let h2 : Heap := (hp.push (PySem.W.kdv_tup [u])).push (PySem.HandSPX.excO C hp.objs.size)
  have na : G1 a = none := J1.hok.fresh (Nat.le_succ _)
  have got : h2.get? a = some (PySem.HandSPX.excO C hp.objs.size) := by show ((hp.push (PySem.W.kdv_tup [u])).push (PySem.HandSPX.excO C hp.objs.size)).get? (hp.objs.size + 1) = _; heap_get
  have J2 : L2.Inv X pp τ (upd G1 a (exo a C none)) ⟨h2, g, dr, tk, os⟩ := J1.laid (t' := tk) (a := a) (o := exo a C none) (h' := h2) (fun b o y => Heap.get?_push_of_some _ (Heap.get?_push_of_some _ y)) (Nat.le_succ _) (exo_ok got)
  have want : spEI C n [.ref a, v] (upd G1 a (exo a C none)) (fun w H2 => w = .non ∧ R (.ref a) H2) (fun _ _ _ => False) := ⟨a, v, rfl, upd_same, fun dx ndx ne => ⟨rfl, let ⟨e1, e2⟩ := err_of (v := v) (n := n) na ndx ne; q1 a _ na e1 e2⟩⟩
  have r2 : Vals [V.ref a, v] [Value.ref a, u] := .cons rfl (.cons ru .nil)
  have bound := T.b _ [Value.ref a, u] J2.kIn rfl; rw [List.append_nil] at bound
  refine wpAny_call (PySem.HandSPX.call_own F.excBase_ValueError (fun Y => PySem.HandSPX.refsVE_contains Y bm hbm) (J1.kIn _ _ hC) (PySem.W.looks_findIn J1.kIn T.ini) (fun self => PySem.W.bind_fn J1.kIn self T.fn) (by show 1 ≤ sizeLine; decide)
    (codeAny_mono (F1.run _ X.stack _ _ ⟨[Value.ref a, u], []⟩ [Value.ref a, u] _ _ (fun _ _ _ => False) (hr.make C [u] []) (J2.env0.make C [u] []) bound r2 want) fun z t2 w2 => ?_))
  match z, w2 with
  | .ok (.ret u), w2 =>
    obtain ⟨v, G2, J3, rv, ev, q2⟩ := J2.after w2
    subst ev
    exact ⟨rv, .ref a, G2, J3, rfl, q2⟩
  | .ok .next, w2 | .ok .brk, w2 | .ok .cont, w2 => exact False.elim w2
  | .error er, w2 => exact pass0 pp τ _ _ er t2 J2 w2
/-- C(n=e), the error as a value -/
theorem pe_mkEK (T : ErrT X.K X.mg x n C f d) (F1 : FnOk X.prog X.w X.K X.mg X.base CX0 k f d ["self", n] (spEI C n)) (hr : Room (k + 1) X.A) (hg : Gl X x) (he : PE X e te) (nd : (x == ("__debug__" : Str)) = false := by decide)
    (hall : (backToKw pos (keywordEach [⟨some n, e, kpos⟩] X.env)).all (·.1.isSome) = true := by rfl) (hks : (backToKw pos (keywordEach [⟨some n, e, kpos⟩] X.env)).filterMap (·.1) = [n] := by rfl)
    (hpl : ((backTo pos (starEach [] X.env)).any (·.1) || (backToKw pos (keywordEach [⟨some n, e, kpos⟩] X.env)).any (·.1.isNone)) = false := by rfl) : PE X (.Call (.Name x p) [] [⟨some n, e, kpos⟩] pos) (tMkE C n te) := by
  refine ⟨fun pp t0 τ G R J w => wpAny_Call_Name_kw (ld_glob J hg T.m ?_ nd)⟩
  obtain ⟨nm, q, N, bs, bm, sn, sub, ab, col, dd, k0, k1, k2, k3, k5, hC, hbm⟩ := T.oex.cls
  refine PySem.W.callWith_KW0 (h₀ := X.base) J.ok.mod.kin T.oex.kC hall ?_ hpl
  refine thn ((pk_cons (nm := some n) he pk_nil).run pos pp t0 τ G (fun vs H1 => match vs with | [v] => ∀ (a : Addr) (H2 : Hp), H1 a = none → Ex H1 H2 → ErrIs H2 C a [(n, v)] → R (.ref a) H2 | _ => False) J w) fun us t1 ⟨vs, G1, J1, r1, q1⟩ => ⟨J1.kIn, ?_⟩
  rw [hks]
  match vs, q1, r1 with
  | [v], q1, .cons (b := u) ru .nil =>
  show wpAny _ _ (call (.ref C) [] [(n, u)]) _ _ _
  obtain ⟨hp, g, dr, tk, os⟩ := t1
  let a := hp.objs.size + 1
  let h2 : Heap := (hp.push (PySem.W.kdv_tup [])).push (PySem.HandSPX.excO C hp.objs.size)
  have na : G1 a = none := J1.hok.fresh (Nat.le_succ _)
  have got : h2.get? a = some (PySem.HandSPX.excO C hp.objs.size) := by show ((hp.push (PySem.W.kdv_tup [])).push (PySem.HandSPX.excO C hp.objs.size)).get? (hp.objs.size + 1) = _; heap_get
  have J2 : L2.Inv X pp τ (upd G1 a (exo a C none)) ⟨h2, g, dr, tk, os⟩ := J1.laid (t' := tk) (a := a) (o := exo a C none) (h' := h2) (fun b o y => Heap.get?_push_of_some _ (Heap.get?_push_of_some _ y)) (Nat.le_succ _) (exo_ok got)
  have want : spEI C n [.ref a, v] (upd G1 a (exo a C none)) (fun w H2 => w = .non ∧ R (.ref a) H2) (fun _ _ _ => False) := ⟨a, v, rfl, upd_same, fun dx ndx ne => ⟨rfl, let ⟨e1, e2⟩ := err_of (v := v) (n := n) na ndx ne; q1 a _ na e1 e2⟩⟩
  have r2 : Vals [V.ref a, v] [Value.ref a, u] := .cons rfl (.cons ru .nil)
  have bound := T.kb ⟨h2, g, dr, tk, os⟩ (.ref a) u J2.kIn
  refine wpAny_call (PySem.HXk.made_by_keyword ⟨nm, q, N, bs, sn, sub, ab, col, dd, k0, k1, k2, k3, k5, J1.kIn _ _ hC, hbm⟩ (PySem.W.looks_findIn J1.kIn T.ini) (fun self => PySem.W.bind_fn J1.kIn self T.fn)
    (codeAny_mono (F1.run _ X.stack _ _ ⟨[Value.ref a], [(n, u)]⟩ [Value.ref a, u] _ _ (fun _ _ _ => False) (hr.make C [] [(n, u)]) (J2.env0.make C [] [(n, u)]) bound r2 want) fun z t2 w2 => ?_))
  match z, w2 with
  | .ok (.ret u), w2 =>
    obtain ⟨v, G2, J3, rv, ev, q2⟩ := J2.after w2
    subst ev
    exact ⟨rv, .ref a, G2, J3, rfl, q2⟩
  | .ok .next, w2 | .ok .brk, w2 | .ok .cont, w2 => exact False.elim w2
  | .error er, w2 => exact pass0 pp τ _ _ er t2 J2 w2
/-- C() of an own error without an own __init__, as a value -/
def tMk0 (C : Addr) : TE := fun σ H Q => ∀ (a : Addr), H a = none → Q (.ref a) (upd H a (exo a C none))
theorem pe_mk0 (q : PySem.W.excIn X.K C [.type "ValueError", .type "Exception", .type "BaseException", .type "object"] "ValueError.__new__" = true) (gC : X.mg x = some (.ref C)) (kC : PySem.W.keepIn X.K (.ref C) = true) (hg : Gl X x) (nd : (x == ("__debug__" : Str)) = false := by decide) : PE X (.Call (.Name x p) [] [] pos) (tMk0 C) := by
  refine ⟨fun pp t0 τ G R J w => wpAny_Call_Name_kw (ld_glob J hg gC ?_ nd)⟩
  refine PySem.W.callWith_K0 J.kIn kC ?_
  obtain ⟨bm, N, nm, qn, bs, hdct, sn, sub, ab, col, dd, k0, k1, k2, k3, k5, mN, hC, hN, hni, T⟩ := exc_obj J.kIn q
  show wpAny _ _ (call (.ref C) []) _ _ _
  obtain ⟨hp, g, dr, tk, os⟩ := t0
  refine wpAny_call_exc_subT F.excBase_ValueError T hC hN hni (fun h' e hm => ?_) (by show 0 ≤ sizeLine; decide)
  obtain ⟨t, he, _, _⟩ := hm.there
  have na : G e = none := J.hok.gone hm.new
  exact ⟨.ref e, _, J.laidN (t' := tk) (a := e) (o := exo e C none) (h' := h') hm.keeps hm.new na (exo_ok he), rfl, w e na⟩
/-- an error, with a dict or without -/
def ErrAny (H : Hp) (C a : Addr) : Prop := (∃ fs, ErrIs H C a fs) ∨ H a = some (exo a C none)
theorem ErrAny.ex {H H' : Hp} {C a : Addr} (h : ErrAny H C a) (e : Ex H H') : ErrAny H' C a := h.elim (fun ⟨fs, z⟩ => .inl ⟨fs, z.ex e⟩) (fun z => .inr (e _ _ z))
def rIsA (K : PySem.W.Frag) : List V → Hp → VK → Prop := fun xs H Q => ∃ (a C : Addr) (c : V) (cv : Value) (b : Bool), xs = [.ref a, c] ∧ ErrAny H C a ∧ ErrC K C ∧ (∀ u, RelV c u → u = cv) ∧ PySem.W.kitOne K (.ref C) cv = some b ∧ Q (.bl b) H
theorem call_isA : CallR X (.builtin "isinstance") (rIsA X.K) := by
  intro pp t τ G xs us; intro Q J r h
  obtain ⟨a, C, c, cv, b, rfl, ea, T, hcv, e, q⟩ := h
  cases r with
  | cons rx rr =>
    cases rr with
    | cons rt rr =>
      cases rr; cases rx
      have ec := hcv _ rt; subst ec
      rcases ea with ⟨fs, ea⟩ | ea
      · obtain ⟨oe, od, _, W, _⟩ := errIs_inst J ea
        exact PySem.W.kia_one (PySem.W.kitx_exc T.cl T.ga T.gt T.be T.kc T.kg T.kt T.ob) J.kIn W e (fun z => nomatch z) fun tk => ⟨.bl b, G, J.kept (t' := tk) fun _ _ z => z, rfl, q⟩
      · obtain ⟨t0, g⟩ := exo_at J.hok ea
        have W : PySem.W.InstAt t.heap a _ C none := ⟨g, rfl, by unfold PySem.W.notCls; rfl, trivial⟩
        exact PySem.W.kia_one (PySem.W.kitx_exc T.cl T.ga T.gt T.be T.kc T.kg T.kt T.ob) J.kIn W e (fun z => nomatch z) fun tk => ⟨.bl b, G, J.kept (t' := tk) fun _ _ z => z, rfl, q⟩
end
end HX
set_option Elab.async false
set_option linter.all false
set_option maxRecDepth 100000
set_option maxHeartbeats 4400000
namespace HX
open L2 PyProof.Rows PySem.Spec PySem
section
variable {X : Cx} {e : Expr} {te : TE} {pos : Pos} {n : Str} {pins : List (Addr × Obj)} {σ : L2.St} {H : Hp} {s : Shared}
/-- e.n of an error of any such class -/
def tErrA (K : PySem.W.Frag) (n : Str) (te : TE) : TE := fun σ H Q => te σ H fun x H1 => ∃ (a C : Addr) (fs : List (Str × V)) (v : V), x = .ref a ∧ ErrIs H1 C a fs ∧ XfC K C ∧ PySem.W.findIn K (.ref C) n = some none ∧ fs.lookup n = some v ∧ Q v H1
theorem pe_errA (he : PE X e te) (hb : attributeBase e n X.env (eval e X.env) = eval e X.env := by rfl) : PE X (.Attribute e n pos) (tErrA X.K n te) := by
  refine ⟨fun pp t τ G R J w => attr_of hb (thn (he.run pp t τ G _ J w) fun u t1 ⟨x, G1, J1, rx, a, C, fs, v, ex, ea, T, hno, l, q⟩ => ?_)⟩
  subst ex
  have eu : u = Value.ref a := rx; subst eu
  obtain ⟨oe, od, mA, W, hl, hr⟩ := errIs_inst J1 ea
  obtain ⟨uv, hu, ru⟩ := RelO.some_of (v := v) (o := mA n) (by rw [← l]; exact hr n)
  exact HandSPX.exc_get J1.kIn W T.ga T.gg T.exC (PySem.W.findObj_own T.hdC hno rfl (by rw [hl, hu])) (handed_of ru) ⟨v, G1, J1.tok _, ru, q⟩
end
/-- errors of these classes, each with v under n -/
inductive Errs (H : Hp) (n : Str) (v : V) : List Addr → List V → Prop
  | nil : Errs H n v [] []
  | cons {C a : Addr} {Cs : List Addr} {xs : List V} : ErrIs H C a [(n, v)] → Errs H n v Cs xs → Errs H n v (C :: Cs) (.ref a :: xs)
theorem Errs.ex {H H' : Hp} {n : Str} {v : V} {Cs : List Addr} {xs : List V} (h : Errs H n v Cs xs) (e : Ex H H') : Errs H' n v Cs xs := by
  induction h with
  | nil => exact .nil
  | cons a _ ih => exact .cons (a.ex e) ih
theorem Errs.app {H : Hp} {n : Str} {v : V} {Cs Ds : List Addr} {xs ys : List V} (h : Errs H n v Cs xs) (k : Errs H n v Ds ys) : Errs H n v (Cs ++ Ds) (xs ++ ys) := by
  induction h with
  | nil => exact k
  | cons a _ ih => exact .cons a ih
theorem Errs.len {H : Hp} {n : Str} {v : V} {Cs : List Addr} {xs : List V} (h : Errs H n v Cs xs) : xs.length = Cs.length := by
  induction h with
  | nil => rfl
  | cons _ _ ih => simp [ih]
theorem Errs.get {H : Hp} {n : Str} {v : V} {Cs : List Addr} {xs : List V} (h : Errs H n v Cs xs) {i : Nat} {x : V} (e : xs[i]? = some x) : ∃ C a, Cs[i]? = some C ∧ x = .ref a ∧ ErrIs H C a [(n, v)] := by
  induction h generalizing i with -- the place moves
  | nil => simp at e
  | @cons C a Cs xs h1 _ ih =>
    cases i with
    | zero => simp at e; exact ⟨C, a, by simp, e.symm, h1⟩
    | succ i => simpa using ih (i := i) (by simpa using e)
/-- errors of these classes -/
inductive ErrsA (H : Hp) : List Addr → List V → Prop
  | nil : ErrsA H [] []
  | cons {C a : Addr} {Cs : List Addr} {xs : List V} : ErrAny H C a → ErrsA H Cs xs → ErrsA H (C :: Cs) (.ref a :: xs)
theorem ErrsA.ex {H H' : Hp} {Cs : List Addr} {xs : List V} (h : ErrsA H Cs xs) (e : Ex H H') : ErrsA H' Cs xs := by
  induction h with
  | nil => exact .nil
  | cons a _ ih => exact .cons (a.ex e) ih
theorem ErrsA.app {H : Hp} {Cs Ds : List Addr} {xs ys : List V} (h : ErrsA H Cs xs) (k : ErrsA H Ds ys) : ErrsA H (Cs ++ Ds) (xs ++ ys) := by
  induction h with
  | nil => exact k
  | cons a _ ih => exact .cons a ih
theorem ErrsA.len {H : Hp} {Cs : List Addr} {xs : List V} (h : ErrsA H Cs xs) : xs.length = Cs.length := by
  induction h with
  | nil => rfl
  | cons _ _ ih => simp [ih]
theorem ErrsA.get {H : Hp} {Cs : List Addr} {xs : List V} (h : ErrsA H Cs xs) {i : Nat} {x : V} (e : xs[i]? = some x) : ∃ C a, Cs[i]? = some C ∧ x = .ref a ∧ ErrAny H C a := by
  induction h generalizing i with -- the place moves
  | nil => simp at e
  | @cons C a Cs xs h1 _ ih =>
    cases i with
    | zero => simp at e; exact ⟨C, a, by simp, e.symm, h1⟩
    | succ i => simpa using ih (i := i) (by simpa using e)
theorem Errs.any {H : Hp} {n : Str} {v : V} {Cs : List Addr} {xs : List V} (h : Errs H n v Cs xs) : ErrsA H Cs xs := by
  induction h with
  | nil => exact .nil
  | cons a _ ih => exact .cons (.inl ⟨_, a⟩) ih
/-- lists of one text over and over -/
theorem dp_rep {K : PySem.W.Frag} {H : Hp} (x : Str) : ∀ n : Nat, DpAll K H (List.replicate n (.str x)) (List.replicate n (.str x))
  | 0 => .nil
  | n + 1 => .cons (.str x) (dp_rep x n)
theorem lay_rep (x : Str) (hx : PyData.strOk x = true) : ∀ n : Nat, PyData.canLayAll0 (List.replicate n (.str x)) = true ∧ PyData.depthAll (List.replicate n (PyData.str x)) ≤ 1
  | 0 => by simp [PyData.canLayAll0, PyData.depthAll]
  | n + 1 => by
    obtain ⟨a, b⟩ := lay_rep x hx n
    simp only [List.replicate_succ, PyData.canLayAll0, PyData.canLay0, PyData.depthAll, PyData.depth, a, hx]
    exact ⟨by first | rfl | trivial, by omega⟩
theorem shaped_rep (x : Str) (hx : PyData.strOk x = true) (n : Nat) : SeqAt.shaped (.list (List.replicate n (.str x))) = true := by
  obtain ⟨a, b⟩ := lay_rep x hx n
  unfold SeqAt.shaped
  rw [show PyData.canLay0 (.list (List.replicate n (.str x))) = PyData.canLayAll0 (List.replicate n (.str x)) from by simp only [PyData.canLay0], a]
  have d : (PyData.list (List.replicate n (.str x))).depth ≤ 64 := by simp only [PyData.depth]; omega
  rw [decide_eq_true d]; rfl
theorem eqv_rep (x : Str) (hx : PyData.strOk x = true) (n : Nat) : PyData.eqv (.list (List.replicate n (.str x))) (.list (List.replicate n (.str x))) = true := SeqAt.eqv_refl _ (by simp only [PyData.canLay0]; exact (lay_rep x hx n).1)
/-- a list of lists of one int each -/
def ones (lo n : Nat) : List PyData := (List.range' lo n).map fun i => PyData.list [.int (i : Nat)]
def Ones (H : Hp) (lo : Nat) (xs : List V) : Prop := ∀ (i : Nat) (x : V), xs[i]? = some x → ∃ q, x = .ref q ∧ H q = some (.lst [.int ((lo + i : Nat) : Int)])
theorem Ones.ex {H H' : Hp} {lo : Nat} {xs : List V} (h : Ones H lo xs) (e : Ex H H') : Ones H' lo xs := fun i x hx => let ⟨q, a, b⟩ := h i x hx; ⟨q, a, e _ _ b⟩
theorem Ones.nil {H : Hp} {lo : Nat} : Ones H lo [] := fun i x h => by simp at h
theorem Ones.snoc {H : Hp} {lo : Nat} {xs : List V} {q : Addr} (h : Ones H lo xs) (hq : H q = some (.lst [.int ((lo + xs.length : Nat) : Int)])) : Ones H lo (xs ++ [.ref q]) := fun i x hx => by
  rw [List.getElem?_append] at hx
  split at hx
  · exact h i x hx
  · have e : i - xs.length = 0 := by
      have z := (List.getElem?_eq_some_iff.mp hx).1
      simp at z; omega
    rw [e] at hx; simp at hx; subst hx
    have e2 : i = xs.length := by omega
    subst e2
    exact ⟨q, rfl, hq⟩
theorem dp_ones {K : PySem.W.Frag} {H : Hp} : ∀ {xs : List V} {lo : Nat}, Ones H lo xs → DpAll K H xs (ones lo xs.length)
  | [], lo, _ => .nil
  | x :: xs, lo, h => by
    obtain ⟨q, rfl, hq⟩ := h 0 x rfl
    unfold ones
    rw [List.length_cons, List.range'_succ, List.map_cons]
    refine .cons (.lst (SqL.of hq) (.cons (.int _) .nil)) ?_
    exact dp_ones (lo := lo + 1) (xs := xs) fun i y hy => by
      obtain ⟨q, a, b⟩ := h (i + 1) y (by simpa using hy)
      exact ⟨q, a, by rw [b, show lo + (i + 1) = lo + 1 + i by omega]⟩
theorem lay_ones : ∀ (n lo : Nat), PyData.canLayAll0 (ones lo n) = true ∧ PyData.depthAll (ones lo n) ≤ 2
  | 0, lo => by simp [ones, PyData.canLayAll0, PyData.depthAll]
  | n + 1, lo => by
    obtain ⟨a, b⟩ := lay_ones n (lo + 1)
    have e : ones lo (n + 1) = PyData.list [.int (lo : Nat)] :: ones (lo + 1) n := by simp [ones, List.range'_succ]
    rw [e]
    simp only [PyData.canLayAll0, PyData.canLay0, PyData.depthAll, PyData.depth, a]
    exact ⟨by first | rfl | trivial, by omega⟩
theorem shaped_ones (lo n : Nat) : SeqAt.shaped (.list (ones lo n)) = true := by
  obtain ⟨a, b⟩ := lay_ones n lo
  unfold SeqAt.shaped
  rw [show PyData.canLay0 (.list (ones lo n)) = PyData.canLayAll0 (ones lo n) from by simp only [PyData.canLay0], a]
  have d : (PyData.list (ones lo n)).depth ≤ 64 := by simp only [PyData.depth]; omega
  rw [decide_eq_true d]; rfl
theorem eqv_ones (lo n : Nat) : PyData.eqv (.list (ones lo n)) (.list (ones lo n)) = true := SeqAt.eqv_refl _ (by simp only [PyData.canLay0]; exact (lay_ones n lo).1)
theorem rep_snoc {α : Type} (n : Nat) (x : α) : List.replicate n x ++ [x] = List.replicate (n + 1) x := by rw [List.replicate_succ']
theorem flat_rep {α : Type} (x : α) (n : Nat) : (List.replicate n [x]).flatten = List.replicate n x := by
  induction n with
  | zero => rfl
  | succ n ih => rw [List.replicate_succ, List.flatten_cons, ih, List.replicate_succ]; rfl
end HX
set_option Elab.async false
set_option linter.all false
set_option maxRecDepth 100000
set_option maxHeartbeats 4400000
namespace HX
open L2 PyProof.Rows PySem.Spec PySem
section
variable {X : Cx}
/-- xs * k, the new list apart from the table of modules -/
def rRepN : R2 := fun x y H Q => ∃ l k xs, x = .ref l ∧ y = .int k ∧ H l = some (.lst xs) ∧ 0 ≤ k ∧ k < 1000 ∧ xs.length * k.toNat ≤ sizeLine ∧ ∀ p, H p = none → p ≠ sysModules → Q (.ref p) (upd H p (.lst (List.replicate k.toNat xs).flatten))
theorem op_repN : OpR X (binaryOp .Mult) rRepN := by
  intro pp t τ G x y u1 u2 Q J rx ry h
  obtain ⟨l, k, xs, rfl, rfl, hl, k0, k1, hz, q⟩ := h
  cases rx; obtain ⟨tk, rfl⟩ := ry
  obtain ⟨_, vs, n, rv, el, eo⟩ := J.lstM hl
  have z1 : vs.toArray.size * k.toNat ≤ sizeLine := by rw [List.size_toArray, ← el]; exact hz
  have z2 : (sizeLine : Nat) ≤ (2 ^ 63 - 1) / 8 := by decide
  have c1 : ¬ (!Builtin.List.listFitsIndex k) = true := by rw [fitsIndex_both (by omega) (by omega)]; exact Bool.false_ne_true
  have c2 : ¬ vs.toArray.size * k.toNat > (2 ^ 63 - 1) / 8 := by omega
  have c3 : ¬ Builtin.List.listTooLong (vs.toArray.size * k.toNat) = true := by rw [notLongL z1]; exact Bool.false_ne_true
  have ff : ∀ m : Nat, List.foldl (fun a b => a ++ b) #[] (List.replicate m vs.toArray) = (List.replicate m vs).flatten.toArray := fun m => (foldl_rep vs m []).trans (by rw [List.nil_append])
  have made : List.foldl (fun a b => a ++ b) #[] (List.replicate (if vs.toArray.isEmpty = true then 0 else k.toNat) vs.toArray) = (List.replicate k.toNat vs).flatten.toArray := by
    rw [ff]; cases vs <;> simp
  refine wpAny_binaryOp_repeat_ref (T := "list") (U := "int") (by decide) ⟨_, eo, rfl⟩ (fun s' => typeIs_int s' k tk) noFill_list_mul F.fills_int_mul F.slot_int_rmul repeat_list F.slot_int_index.lookup ?_
  refine call_meets F.slot_int_rmul (typeIs_int t k tk) F.entry_int_rmul (F.args_int_rmul_2 _ _) (int___rmul___int_list k tk l vs.toArray n) ⟨eo, rfl, ⟨_, eo, rfl⟩, ?_⟩
  refine call_meets F.slot_list_mul ⟨_, eo, rfl⟩ F.entry_list_mul (F.args_list_mul_2 _ _) (AutoListH.list___mul___list_int_3 l vs.toArray n k tk c1 c2 c3) ⟨eo, ?_⟩
  rw [made]
  exact ⟨.ref _, _, J.lnew (t' := t.toks) (rv.rep k.toNat) (by rw [PyProof.Rows.lm_len_rep_flat, Nat.mul_comm]; exact hz), rfl, q _ J.fresh (Nat.ne_of_gt J.big)⟩
end
/-- the same, the written part named (within comprehensions) -/
theorem pe_errK {X : Cx} {K : PySem.W.Frag} {e : Expr} {te : TE} {pos : Pos} {n : Str} (hK : X.K = K) (he : PE X e te) (hb : attributeBase e n X.env (eval e X.env) = eval e X.env := by rfl) : PE X (.Attribute e n pos) (tErrA K n te) := hK ▸ pe_errA he hb
theorem call_isK {X : Cx} {K : PySem.W.Frag} (hK : X.K = K) : CallR X (.builtin "isinstance") (rIsA K) := hK ▸ call_isA
theorem ix_tupK {X : Cx} {K : PySem.W.Frag} (hK : X.K = K) : IxR X (rIxT K) := hK ▸ ix_tup
theorem ix_listK {X : Cx} {K : PySem.W.Frag} (hK : X.K = K) : IxR X (rIxL K) := hK ▸ ix_list
theorem q_neb {z : Str} : (!decide (V.str z = V.str z)) = false := by rw [decide_eq_true rfl]; rfl
theorem rep_bl (n : Nat) : List.replicate n (V.bl true) = (List.replicate n true).map V.bl := by rw [List.map_replicate]
theorem rep_all (n : Nat) : (List.replicate n true).all id = true := by simp
/-- five of the same data -/
theorem Bd.five {d : PyData} (h : Bd 14 d) : (PyData.list (List.replicate 5 d)).showable = true ∧ (PyData.list (List.replicate 5 d)).depth ≤ 60 ∧ (PyData.list (List.replicate 5 d)).shown.length ≤ sizeLine := by
  have a := h.dp; have b := h.wt
  have e : List.replicate 5 d = [d, d, d, d, d] := rfl
  rw [e]
  have q := PyData.shown_le 24 (by decide) (.list [d, d, d, d, d]) (by simp only [PyData.leavesShort, PyData.leavesShortAll, h.lv, Bool.and_self])
  have w : (PyData.list [d, d, d, d, d]).weight ≤ 5 * (d.weight + 1) + 10 := by simp only [PyData.weight, PyData.weightAll]; omega
  have m : (24 + 2) * (PyData.list [d, d, d, d, d]).weight ≤ 26 * 6300 := Nat.mul_le_mul_left _ (by omega)
  have z := sizeLine_eq
  refine ⟨by simp only [PyData.showable, PyData.showableAll, h.sh, Bool.and_self], by simp only [PyData.depth, PyData.depthAll]; omega, by omega⟩
theorem Ones.ne {H : Hp} {lo : Nat} {ys : List V} {D q : Addr} {z : Int} (h : Ones H lo ys) (hD : H D = some (.lst ys)) (hq : H q = some (.lst [.int z])) : q ≠ D := fun e => by
  subst e
  rw [hq] at hD
  have e2 := HO.lst.inj (Option.some.inj hD)
  obtain ⟨a, b, _⟩ := h 0 (.int z) (by rw [← e2]; rfl)
  cases b
theorem Ones.put {H : Hp} {lo : Nat} {ys : List V} {D q : Addr} {o : HO} (h : Ones H lo ys) (hD : H D = some (.lst ys)) (hq : H q = some (.lst [.int ((lo + ys.length : Nat) : Int)])) : Ones (upd H D o) lo (ys ++ [.ref q]) := by
  refine Ones.snoc (fun i x hx => ?_) (by rw [upd_ne (h.ne hD hq)]; exact hq)
  obtain ⟨r, a, b⟩ := h i x hx
  exact ⟨r, a, by rw [upd_ne (h.ne hD b)]; exact b⟩
end HX
set_option Elab.async false
set_option linter.all false
set_option maxRecDepth 100000
set_option maxHeartbeats 4400000
namespace HX
open L2 PyProof.Rows PySem.Spec PySem LamX
/-- as okG0, the def's code object named -/
theorem okGT {P : Program} {w : World} {K : PySem.W.Frag} {mg : Str → Option Value} {base : Heap} {x qual : Str} {st : Stmt} {f c : Addr} {fd : FuncData} {N ps : List Str} {k : Nat} {sp : Sp} (F : Fun K x qual st f fd) (S : FnScope N ps (defScope st)) (hc : fd.code = .ref c) (len : ∀ vs H Q E, sp vs H Q E → vs.length = ps.length)
    (hbody : ∀ (A : Around) (outer : List Env) (s : Shared) (H : Hp) (vs : List V) (Q : VK) (E : XK), A.guards = some [] → Room k (A.deeper (envOfC qual (defScope st) s.heap.objs.size f (.ref c))) → sp vs H Q E →
      ∃ t, PSs (cxOf CX0 P w K mg base N qual (defScope st) f (.ref c) A outer s H E).nox (defBody st) t ∧ t { nx := fun _ H' => Q .non H', rt := Q } (L2.start N vs) H) : FnG P w K mg base CX0 (k + 1) f fd ps sp := by
  obtain ⟨oc, od, kV, doc, pm, an, cdv, ct, osl, rfl, lk, hcd⟩ := F.ex
  have e : cdv = .ref c := hc
  subst e
  exact ⟨len, fun A o s H args us vs Q E hg hr e0 hb r hsp => LamX.run_ofS lk hcd S hr e0 hb r (len _ _ _ _ hsp) fun hr' => let ⟨t, p, q⟩ := hbody A o s H vs Q E hg hr' hsp; ⟨t, p.nox, q⟩⟩
/-- f(lambda: body), f a def of the text -/
theorem pe_lamF {X : Cx} {K : PySem.W.Frag} {T : List (Addr × Str)} {TT : (XK → Hp → VK → Prop) → Hp → VK → Prop} {x a : Str} {g c P : Addr} {k : Nat} {st : Stmt} {fd : FuncData} {Ng : List Str} {params : Arguments} {body : Expr} {scope : Scope} {t : XK → TE} {p lpos pos : Pos}
    (hK : X.K = K) (F : Fun K x x st g fd) (b : Binds K fd [a] []) (hg : Gl X x) (hm : X.mg x = some (.ref g)) (Sg : FnScope Ng [a] (defScope st)) (hNg : Ng[0]? = some a) (hva : Vis (defScope st) a)
    (hG : ∀ cdv, GivesTo X Ng x (defScope st) g cdv (defBody st) a (X.env.qual ++ "<lambda>") TT) (TB : TabB X.base X.mg c P) (hcode : X.env.code = .ref c) (hmT : (P, X.env.qual ++ "<lambda>") ∈ T) (hu : ∀ p ∈ T, p.1 = P → p.2 = X.env.qual ++ "<lambda>") (hr : Room (k + 2) X.A)
    (L : LamS X.env.scope scope) (hdef : defaultsOf params X.env = ([], [])) (hbind : ∀ (q : Str) (cl : List (Str × Addr)) (pm cv ctv : Value), bindArgs (PySem.W.kla_fn "<lambda>" q params body scope cl pm cv ctv) ⟨[], []⟩ = pure [])
    (hbody : ∀ (A : Around) (outer : List Env) (s : Shared) (H : Hp) (E : XK) (f c' : Addr), Room k (A.deeper (lamEnv X scope s.heap.objs.size f c')) → PE (lamCx X A outer s H E scope f c') body (t E))
    (hdb : (x == ("__debug__" : Str)) = false := by decide) (hd : (a == ("__debug__" : Str)) = false := by decide) (hcd : (a == ("__classdict__" : Str)) = false := by decide) : PE X (.Call (.Name x p) [.Lambda params body scope lpos] [] pos) (tLam T TT t) := by
  subst hK
  obtain ⟨oc, od, kV, doc, pm, an, cdv, ct, osl, rfl, lk, hc⟩ := F.ex
  exact pe_lamcall hg hm F.kp lk hc b Sg hNg hva (hG cdv) TB hcode hmT hu hr L hdef hbind hbody hdb hd hcd
/-- the law's call, with tables of code objects -/
theorem lawT_core {P : Program} {w : World} {K : PySem.W.Frag} {mg mb : Str → Option Value} {CX : CXT} {k : Nat} {fa a : Addr} {cs : List (Addr × Addr)} {fd : FuncData} {x : Str} {sp : Sp} {s1 : Shared} {vs : List Value} {H : Hp}
    (KX : K.In s1.heap) (hns : s1.heap.Ns mainGlobals mg) (hb : s1.heap.Ns builtinsNs mb) (hbb : ∀ x : Str, x ≠ "__name__" → mb x = bootBuiltins x) (hlim : s1.heap.NoLimit) (hg : s1.gens = #[])
    (hT : ∀ p ∈ cs, PySem.W.CodeHd s1.heap p.1 p.2 ∧ s1.heap.get? p.2 = some (PySem.W.tabObj #[])) (nT : ∀ p ∈ cs, K.lookup p.2 = none)
    (hbm : ∃ (bm : Addr) (ob : Obj), mg "__builtins__" = some (.ref bm) ∧ bm ≠ builtinsNs ∧ s1.heap.get? bm = some ob ∧ ob.cls = .type "module" ∧ ob.dict = some builtinsNs ∧ ob.data = .plain)
    (ha : s1.heap.get? a = some { cls := .type "list", data := .seq vs.toArray }) (hr : Room k callerA)
    (F : ∀ base : Heap, K.In base → base.Ns mainGlobals mg → (∀ p ∈ cs, TabB base mg p.1 p.2) → FnG P w K mg base CX k fa fd [x] sp) (hbind : ∀ (s : Shared) (u : Value), BindsTo s fd ⟨[u], []⟩ [(x, u)])
    (hsp : sp [.ref a] H (fun v _ => v = .bl true) fun _ _ _ => False) (hCX : ∀ e s', CX [] H s1 (fun _ _ _ => False) e s' → False)
    (hH : ∀ p ∈ cs, H p.2 = some (.tbl #[]))
    (hO : ∀ b u, H b = some u → (b = a ∧ ∃ o xs, u = .frz o (.lst xs)) ∨ ∃ p ∈ cs, b = p.2 ∧ u = .tbl #[]) (hok : HOk P w H s1.heap) (hK : ∀ u, H a = some u → K.lookup a = none) :
    codeAny (model P w) callerA (.call (.ref fa) ⟨[.ref a], []⟩) (fun r s' => r = .ok (.ret (.bool true)) ∧ OldK s1.heap s'.heap ∧ s'.os = s1.os ∧ AllBare s'.gens) s1 := by
  have off : ∀ {b : Addr} {o : Obj}, s1.heap.get? b = some o → (∀ us n, o.data ≠ .seq us n) → o.data ≠ .fields #[] → H b = none := fun {b o} e h1 h2 => by
    cases q : H b with
    | none => rfl
    | some u =>
      rcases hO b u q with ⟨y, _⟩ | ⟨p, hp, y, _⟩
      · rw [y, ha] at e; cases e; exact absurd rfl (h1 _ _)
      · rw [y, (hT p hp).2] at e; cases e; exact absurd rfl h2
  have nsK : ∀ {b : Addr} {m : Str → Option Value}, s1.heap.Ns b m → (hidT s1.heap H).Ns b m := fun {b m} ⟨o, es, ep, e, d, r⟩ =>
    ⟨o, es, ep, hidT_get e (off e (fun us n z => by rw [d] at z; cases z) (fun z => by rw [d] at z; cases z)), d, r⟩
  have inB : K.In (hidT s1.heap H) := fun b o e => hidT_get (KX b o e) (by
    cases q : H b with
    | none => rfl
    | some u =>
      have e : K.lookup b = some o := e
      rcases hO b u q with ⟨y, _⟩ | ⟨p, hp, y, _⟩
      · subst y; rw [hK u q] at e; cases e
      · rw [y, nT p hp] at e; cases e)
  have TB : ∀ p ∈ cs, TabB (hidT s1.heap H) mg p.1 p.2 := fun p hp => by
    obtain ⟨hC, hP⟩ := hT p hp
    refine ⟨?_, ?_, fun z => ?_⟩
    · obtain ⟨o, us, r1, r2, r3, r4, r5, r6, r7, e1, dc, d1, q3, q⟩ := hC
      refine ⟨o, us, r1, r2, r3, r4, r5, r6, r7, hidT_get e1 (off e1 (fun us n z => by rw [d1] at z; cases z) (fun z => ?_)), dc, d1, q3, q⟩
      rw [d1] at z; cases z; simp at q3
    · obtain ⟨bm, ob, b1, b2, b3, b4, b5, b6⟩ := hbm
      refine ⟨bm, ob, b1, b2, fun y => ?_, fun y => ?_, hidT_get b3 (off b3 (fun us n z => by rw [b6] at z; cases z) (fun z => by rw [b6] at z; cases z)), b4, b5, b6⟩
      · obtain ⟨o, es, ep, e, d, _⟩ := hns
        rw [y, e] at b3; cases b3; rw [d] at b6; cases b6
      · rw [y, hP] at b3; cases b3; cases b6
    · obtain ⟨o, es, ep, e, d, _⟩ := hns
      rw [z, hP] at e; cases e; cases d
  obtain ⟨mc, l1, l2⟩ := hlim
  have e0 : Env0 P w K mg (hidT s1.heap H) callerA [] s1 H := ⟨rfl, ⟨inB, nsK hns, ⟨mb, nsK hb, hbb⟩, ⟨mc, nsK l1, l2⟩⟩, fun b o e => of_hidT e, Nat.le_of_eq (hidT_size _ _), trivial, fun b z => absurd (show b ∈ ([] : List Addr) from z) List.not_mem_nil, hok, .of_eq hg⟩
  refine codeAny_mono ((F _ inB (nsK hns) TB).go callerA [] s1 H ⟨[.ref a], []⟩ [.ref a] [.ref a] _ _ rfl hr e0 (hbind s1 (.ref a)) (.cons rfl .nil) hsp) fun r s' h => ?_
  match r, h with
  | .error e, h => exact (hCX e s' h).elim
  | .ok .next, h => exact False.elim h
  | .ok .brk, h => exact False.elim h
  | .ok .cont, h => exact False.elim h
  | .ok (.ret u), h =>
    obtain ⟨v, H', os, bare, U, hok', r', q⟩ := h
    obtain rfl : v = .bl true := q
    have ru : u = Value.bool true := r'; subst ru
    have kp : ∀ b o, s1.heap.get? b = some o → s'.heap.get? b = some o ∨ ∃ p ∈ cs, b = p.2 ∧ ∃ more : Array Value, s'.heap.get? b = some { cls := .none, data := .fields more } := fun b o e => by
      cases q : H b with
      | none => exact .inl (U.keep b o e q (fun z => absurd (show b ∈ ([] : List Addr) from z) List.not_mem_nil) List.not_mem_nil)
      | some u =>
        rcases hO b u q with ⟨_, ob, xs, z⟩ | ⟨p, hp, y, z⟩
        · subst z
          have y1 := (hok b _ q).1
          have y2 := (hok' b _ (U.frzs b ob _ q)).1
          rw [e] at y1; cases y1
          exact .inl y2
        · subst z
          obtain ⟨more, m⟩ := U.tbls b #[] q
          exact .inr ⟨p, hp, y, _, hok' b _ m⟩
    refine ⟨rfl, ⟨fun b o e => ?_, fun b o e => ?_⟩, os, bare⟩
    · rcases kp b o e with z | ⟨p, hp, y, more, z⟩
      · exact .inl z
      · have e2 := (hT p hp).2
        rw [← y, e] at e2; cases e2
        rw [y] at z ⊢
        exact .inr (.inl ⟨((hT p hp).1.tab (hT p hp).2).isCodeTable, rfl, #[], more, rfl, by rw [Array.empty_append]; exact z⟩)
    · rcases kp b o e with z | ⟨p, hp, y, more, z⟩
      · exact ⟨o, z⟩
      · exact ⟨_, z⟩
/-- the law's call from what is known at the head's heap; cs: code objects and their tables -/
theorem lawT_at {P q : Program} {loose : List Str} {mean : ExcName → Option Value} {w : World} {K : PySem.W.Frag} {mg mb : Str → Option Value} {CX : CXT} {k n : Nat} {fa a : Addr} {cs : List (Addr × Addr)} {fd : FuncData} {x : Str} {sp : Sp} {s1 : Shared} {vs : List Value} {ns : List Int}
    (T : PyProof.Rows.Top q loose mean mg mb s1.heap) (KX : K.In s1.heap) (hgen : s1.gens = #[]) (hn2 : n ≤ sizeLine) (hr : Room k callerA) (hobj : s1.heap.get? a = some { cls := .type "list", data := .seq vs.toArray }) (hints : IntsAre vs ns) (hlen : ns.length ≤ n)
    (hcs : ∀ p ∈ cs, ∃ y : Str, ((recsOf q).any fun e => e.name == y) = true ∧ PySem.W.tabIn K y = some p) (nT : ∀ p ∈ cs, K.lookup p.2 = none) (hb : ∀ (s : Shared) (u : Value), BindsTo s fd ⟨[u], []⟩ [(x, u)])
    (hF : ∀ base : Heap, K.In base → base.Ns mainGlobals mg → (∀ p ∈ cs, TabB base mg p.1 p.2) → FnG P w K mg base CX k fa fd [x] sp)
    (hsp : ∀ (H : Hp), SqL K H a (ns.map V.int) → (∀ p ∈ cs, H p.2 = some (.tbl #[])) → sp [.ref a] H (fun v _ => v = .bl true) fun _ _ _ => False)
    (hCX : ∀ (G : Hp) (e : Value) (s' : Shared), CX [] G s1 (fun _ _ _ => False) e s' → False) :
    codeAny (model P w) callerA (.call (.ref fa) ⟨[.ref a], []⟩) (fun r s' => r = .ok (.ret (.bool true)) ∧ OldK s1.heap s'.heap ∧ s'.os = s1.os ∧ AllBare s'.gens) s1 := by
  have rv := ints_vals hints; have lv := hints.length
  have hT : ∀ p ∈ cs, PySem.W.CodeHd s1.heap p.1 p.2 ∧ s1.heap.get? p.2 = some (PySem.W.tabObj #[]) := fun p hp => by
    obtain ⟨y, h1, h2⟩ := hcs p hp
    obtain ⟨e, he1, he2⟩ := List.any_eq_true.mp h1
    cases hf : (recsOf q).find? (fun e => e.name == y) with
    | none => exact absurd he2 (List.find?_eq_none.mp hf e he1)
    | some dd => exact PySem.W.tab_of T KX hf h2
  have aT : ∀ p ∈ cs, p.2 ≠ a := fun p hp z => by
    have e := (hT p hp).2
    rw [z, hobj] at e
    have e2 : Data.seq vs.toArray _ = Data.fields #[] := congrArg Obj.data (Option.some.inj e)
    cases e2
  have fz : HO.frz { cls := .type "list", data := .seq vs.toArray } (.lst (ns.map V.int)) = HO.frz { cls := .type "list", data := .seq vs.toArray } (.lst (ns.map V.int)) := rfl
  cases hk : K.lookup a with
  | some o' =>
    have e := KX a o' hk
    rw [hobj] at e
    cases e
    let H0 : Hp := fun b => if b ∈ cs.map (·.2) then some (.tbl #[]) else none
    have at_ : ∀ b u, H0 b = some u → ∃ p ∈ cs, b = p.2 ∧ u = .tbl #[] := fun b u z => by
      by_cases hm : b ∈ cs.map (·.2)
      · obtain ⟨p, hp, e⟩ := List.mem_map.mp hm
        exact ⟨p, hp, e.symm, (Option.some.inj ((if_pos hm).symm.trans z)).symm⟩
      · cases (if_neg hm).symm.trans z
    have hH : ∀ p ∈ cs, H0 p.2 = some (.tbl #[]) := fun p hp => if_pos (List.mem_map.mpr ⟨p, hp, rfl⟩)
    refine lawT_core (H := H0) KX T.g T.b T.builtins T.nolimit hgen hT nT T.bmain hobj hr hF hb (hsp _ (.inr ⟨_, vs.toArray, _, hk, rfl, rfl, rfl, by rw [List.size_toArray, lv]; exact Nat.le_trans hlen hn2, by simpa using rv⟩) hH) (fun e s' => hCX _ e s') hH (fun b u z => .inr (at_ b u z)) (fun b u z => ?_) (fun u z => ?_)
    · obtain ⟨p, hp, e1, e2⟩ := at_ b u z
      subst e2; rw [e1]; exact (hT p hp).2
    · obtain ⟨p, hp, e1, _⟩ := at_ a u z
      exact absurd e1.symm (aT p hp)
  | none =>
    let H0 : Hp := fun b => if b = a then some (.frz { cls := .type "list", data := .seq vs.toArray } (.lst (ns.map V.int))) else if b ∈ cs.map (·.2) then some (.tbl #[]) else none
    have at_ : ∀ b u, H0 b = some u → (b = a ∧ u = .frz { cls := .type "list", data := .seq vs.toArray } (.lst (ns.map V.int))) ∨ ∃ p ∈ cs, b = p.2 ∧ u = .tbl #[] := fun b u z => by
      by_cases hba : b = a
      · exact .inl ⟨hba, (Option.some.inj ((if_pos hba).symm.trans z)).symm⟩
      · have z := (if_neg hba).symm.trans z
        by_cases hm : b ∈ cs.map (·.2)
        · obtain ⟨p, hp, e⟩ := List.mem_map.mp hm
          exact .inr ⟨p, hp, e.symm, (Option.some.inj ((if_pos hm).symm.trans z)).symm⟩
        · cases (if_neg hm).symm.trans z
    have hH : ∀ p ∈ cs, H0 p.2 = some (.tbl #[]) := fun p hp => (if_neg (aT p hp)).trans (if_pos (List.mem_map.mpr ⟨p, hp, rfl⟩))
    refine lawT_core (H := H0) KX T.g T.b T.builtins T.nolimit hgen hT nT T.bmain hobj hr hF hb (hsp _ (.inl (.inr ⟨_, if_pos rfl⟩)) hH) (fun e s' => hCX _ e s') hH (fun b u z => ?_) (fun b u z => ?_) (fun _ _ => hk)
    · rcases at_ b u z with ⟨e1, e2⟩ | q
      · exact .inl ⟨e1, _, _, e2⟩
      · exact .inr q
    · rcases at_ b u z with ⟨e1, e2⟩ | ⟨p, hp, e1, e2⟩
      · subst e1; subst e2
        exact ⟨hobj, by rw [List.length_map]; exact Nat.le_trans hlen hn2, vs, _, rv, hobj⟩
      · subst e2; rw [e1]; exact (hT p hp).2
theorem walk_GX {l : PySem.W.OpenLaw} {n k : Nat} {q : Program} {loose : List Str} {XP : (Str → Option Value) → Heap → Prop} {YP : World → Heap → Prop} {d : DefRec} {CX : World → CXT} {x : Str}
    (hn : l.most = some n) (hn2 : n ≤ sizeLine) (hdf : d.params.defaults = []) (hr : Room k callerA)
    (F : ∀ (w : World) (m : Str → Option Value) (fa : Addr) (h : Heap), YP w h → h.Ns mainGlobals m → m d.name = some (.ref fa) →
      ∃ (K : PySem.W.Frag) (fd : FuncData) (cs : List (Addr × Addr)) (sp : Sp), K.In h ∧ (∀ p ∈ cs, ∃ y : Str, ((recsOf q).any fun e => e.name == y) = true ∧ PySem.W.tabIn K y = some p) ∧ (∀ p ∈ cs, K.lookup p.2 = none) ∧ (∀ (s : Shared) (u : Value), BindsTo s fd ⟨[u], []⟩ [(x, u)]) ∧
        (∀ (H : Hp) (a : Addr) (ns : List Int), ns.length ≤ n → SqL K H a (ns.map V.int) → (∀ p ∈ cs, H p.2 = some (.tbl #[])) → sp [.ref a] H (fun v _ => v = .bl true) fun _ _ _ => False) ∧
        ∀ base : Heap, K.In base → base.Ns mainGlobals m → (∀ p ∈ cs, TabB base m p.1 p.2) → FnG l.prog w K m base (CX w) k fa fd [x] sp)
    (hCX : ∀ (w : World) (G : Hp) (s : Shared) (e : Value) (s' : Shared), CX w [] G s (fun _ _ _ => False) e s' → False) : PySem.W.WalkO q loose XP YP l.row.toRowW d [] (fun f vs => PySem.call f vs) := by
  refine Att.attach_call hn hdf fun w s0 s1 mg mb fa o pm cd doc a vs ns G Y ho hd hcd hmg hobj hints hlen hgen => ?_
  obtain ⟨K, fd, cs, sp, KX, hcs, nT, hb, hsp, hF⟩ := F w mg fa _ Y G.T.g hmg
  exact lawT_at G.T KX hgen hn2 hr hobj hints hlen hcs nT hb hF (fun H h1 h2 => hsp H a ns hlen h1 h2) fun G e s' => hCX w G s1 e s'
end HX
set_option Elab.async false
set_option linter.all false
set_option maxRecDepth 100000
set_option maxHeartbeats 4400000
namespace HX
open L2 PyProof.Rows PySem.Spec PySem LamX
section
variable {X : Cx}
/-- xs.count(y), flat items -/
def rCntF (K : PySem.W.Frag) : V → List V → Hp → VK → Prop := fun x xs H Q => ∃ (p : Addr) (ys : List V) (y : V), x = .ref p ∧ xs = [y] ∧ SqL K H p ys ∧ flatV y = true ∧ ys.all flatV = true ∧ Q (.int (ys.countP (fun z => eqV z y) : Nat)) H
theorem count_flat {uy : Value} {y : V} : ∀ {ys : List V} {us : List Value}, Vals ys us → ys.all flatV = true → us.countP (eqU y) = ys.countP (fun z => eqV z y)
  | _, _, .nil, _ => rfl
  | _, _, .cons r t, f => by
    rw [List.all_cons, Bool.and_eq_true] at f
    rw [List.countP_cons, List.countP_cons, count_flat (uy := uy) t f.2, eqU_of r f.1]
theorem mt_countF : MtR X "list.count" (rCntF X.K) := by
  intro pp t τ G x xs v us Q J rx rxs h
  obtain ⟨p, ys, y, rfl, rfl, hs, fy, fys, q⟩ := h
  cases rx
  cases rxs with
  | cons ry rt =>
    rename_i uy ut
    cases rt
    obtain ⟨its, rv, ⟨⟨cls, dd, data, sl⟩, n, ho, hc, hdn, hd⟩, hlen⟩ := J.list hs
    simp only at hc hd
    subst hc hd
    refine call_meets PySem.F.slot_list_count ⟨_, ho, rfl⟩ PySem.F.entry_list_count (PySem.F.args_list_count_2 _ _) (SeqAt.list_countAt p its.toArray n dd sl uy (eqU y)) ⟨ho, fun u' hu' => mem_eqAt ry fy rv fys u' (by simpa using hu'), ?_⟩
    have ec : its.toArray.toList.countP (eqU y) = ys.countP (fun z => eqV z y) := count_flat (uy := uy) rv fys
    refine ⟨.int (ys.countP (fun z => eqV z y) : Nat), G, J.tok _, ⟨t.toks, ?_⟩, q⟩
    rw [← ec]
end
/-- a lambda handed in is called where what it lets out is wished for at the slots of the call -/
def GivesS (X : Cx) (k : Nat) (Ng : List Str) (x : Str) (sg : Scope) (g : Addr) (cdg : Value) (bg : List Stmt) (a : Str) (q : Str) (TT : (XK → Hp → VK → Prop) → Hp → VK → Prop) : Prop :=
  ∀ (f c' : Addr) (s : Shared) (H : Hp) (Q : VK) (tl : XK → Hp → VK → Prop),
    (∀ (W : WX) (pn : List (Addr × Obj)) (xe : Value → Shared → Prop) (p1 p2 : Pos), Takes ((cxOf C8.CX0 X.prog X.w X.K X.mg X.base Ng x sg g cdg X.A X.stack s H C8.E0).tr pn xe) W →
      PE ((cxOf C8.CX0 X.prog X.w X.K X.mg X.base Ng x sg g cdg X.A X.stack s H C8.E0).tr pn xe) (.Call (.Name a p1) [] [] p2) (fun σZ HZ Q => σZ[0]? = some (some (.ref f)) ∧ HZ c' = some (CodeO c' q) ∧ tl (fun cls d H' => W cls d σZ H') HZ Q)) →
    Room k (X.A.deeper (envOfC x sg s.heap.objs.size g cdg)) → H c' = some (CodeO c' q) → TT tl H Q →
    ∃ t, PSs (cxOf C8.CX0 X.prog X.w X.K X.mg X.base Ng x sg g cdg X.A X.stack s H C8.E0).nox bg t ∧ t { nx := fun _ H' => Q .non H', rt := Q } (L2.start Ng [.ref f]) H
section
variable {X : Cx} {pins : List (Addr × Obj)} {σ : L2.St} {H HZ : Hp} {s s1 : Shared}
theorem pe_actS {CXg : CXT} {Eg : XK} {Ng : List Str} {qg : Str} {sg : Scope} {g f c' : Addr} {cdg pm ctv : Value} {params : Arguments} {body : Expr} {scope : Scope} {k i : Nat} {a : Str} {pn : List (Addr × Obj)} {xe : Value → Shared → Prop} {W : WX} {tb : XK → TE} {p1 p2 : Pos}
    (I : Inv X pins σ H s) (L : LamS X.env.scope scope) (hf : s.heap.get? f = some (PySem.W.kla_obj "<lambda>" (X.env.qual ++ "<lambda>") params body scope (cloFrom X.env.cells scope.names []) pm c' ctv)) (hfn : H f = none) (hfr : f ∉ frs X.stack)
    (hbind : bindArgs (PySem.W.kla_fn "<lambda>" (X.env.qual ++ "<lambda>") params body scope (cloFrom X.env.cells scope.names []) pm (.ref c') ctv) ⟨[], []⟩ = pure [])
    (tk : Takes ((cxOf CXg X.prog X.w X.K X.mg X.base Ng qg sg g cdg X.A X.stack s H Eg).tr pn xe) W) (hr : Room (k + 1) (X.A.deeper (envOfC qg sg s.heap.objs.size g cdg)))
    (hbody : ∀ (A : Around) (outer : List Env) (s : Shared) (H : Hp) (E : XK), Room k (A.deeper (lamEnv X scope s.heap.objs.size f c')) → PE (lamCx X A outer s H E scope f c') body (tb E))
    (hN : Ng[i]? = some a) (hv : Vis sg a) (hd : (a == ("__debug__" : Str)) = false := by decide) (hcd : (a == ("__classdict__" : Str)) = false := by decide) :
    PE ((cxOf CXg X.prog X.w X.K X.mg X.base Ng qg sg g cdg X.A X.stack s H Eg).tr pn xe) (.Call (.Name a p1) [] [] p2)
      (fun σZ HZ Q => σZ[i]? = some (some (.ref f)) ∧ HZ c' = some (CodeO c' (X.env.qual ++ "<lambda>")) ∧ tb (fun cls d H' => W cls d σZ H') σ HZ Q) := by
  refine ⟨fun pz sz σz Hz Q Iz ⟨hs, hc, ht⟩ => wpAny_Call_Name_kw (thn ((pe_var (pos := p1) (i := i) hN hv hd hcd).run pz sz σz Hz (fun v H1 => v = .ref f ∧ H1 = Hz) Iz ⟨.ref f, hs, rfl, rfl⟩) fun u s2 ⟨v, H1, I1, r1, ev, eH⟩ => ?_)⟩
  subst ev; subst eH
  obtain rfl : u = Value.ref f := r1
  have at1 : s2.heap.get? f = some (PySem.W.kla_obj "<lambda>" (X.env.qual ++ "<lambda>") params body scope (cloFrom X.env.cells scope.names []) pm c' ctv) := I1.base.keep f _ hf hfn hfr (fun z => nomatch (show f ∈ ([] : List Addr) from z))
  refine PySem.W.callWith_F0 ⟨_, _, _, _, at1⟩ ?_
  have un : Un (frs X.stack) [] H H1 s.heap s2.heap := I1.base
  obtain ⟨⟨oc, vs, t, hoc, hdc, hvc⟩, _, _⟩ := I1.hok c' _ hc
  have run : codeAny (model X.prog X.w) (X.A.deeper (envOfC qg sg s.heap.objs.size g cdg)) (.call (.ref f) ⟨[], []⟩) (CR (L2.CX X.prog X.w) (envOfC qg sg s.heap.objs.size g cdg :: X.stack) X.prog X.w H1 s2 Q (fun cls d H' => W cls d σz H')) s2 := by
    refine PySem.W.kla_callFunE hr.depth at1 rfl L.co L.gen rfl ⟨c', oc, vs, t, rfl, hoc, hdc, hvc⟩ ?_
    rw [hbind]
    refine wpAny_pure (wpAny_newFunctionEnv (fun y hy => (L.own y hy).2) (fun y hy => absurd hy (by simp)) (fun h₁ hns hsb => ⟨I1.nolimit.fresh _ hsb, ?_⟩) L.kind)
    (show codeAny _ _ (.expr body (lamEnv X scope s2.heap.objs.size f c')) _ _)
    have kp : ∀ b o, s2.heap.get? b = some o → h₁.get? b = some o := fun b o e => hsb.extBut b o (Nat.ne_of_lt (Heap.lt_size e)) (Heap.get?_push_of_some _ e)
    have J : Inv (lamCx X (X.A.deeper (envOfC qg sg s.heap.objs.size g cdg)) (envOfC qg sg s.heap.objs.size g cdg :: X.stack) s2 H1 (fun cls d H' => W cls d σz H') scope f c') [] σ H1 { s2 with heap := h₁, toks := s2.toks + ([] : List (Str × Value)).length } := lam_start2 I L I1.env0 hr.hd un hns kp
    exact PySem.W.kla_codeExpr (wpAny_mono ((hbody _ _ s2 H1 _ (hr.deeper _)).run [] _ _ H1 Q J ht) (fun v s' ⟨w', H', J', rv, q⟩ => ⟨w', H', J'.os, J'.bare, J'.base, J'.hok, rv, q⟩) fun e s' hq => hq)
  refine wpAny_call (codeAny_mono run fun r s' hq => ?_)
  match r, hq with
  | .error e, hq => exact passAt tk σz pz H1 s2 e s' I1 hq
  | .ok (.ret u), hq => exact I1.after hq
  | .ok .next, hq | .ok .brk, hq | .ok .cont, hq => exact False.elim hq
theorem pe_lamS {K : PySem.W.Frag} {T : List (Addr × Str)} {TT : (XK → Hp → VK → Prop) → Hp → VK → Prop} {x a : Str} {g c P : Addr} {k : Nat} {st : Stmt} {fd : FuncData} {Ng : List Str} {params : Arguments} {body : Expr} {scope : Scope} {t : XK → TE} {p lpos pos : Pos}
    (hK : X.K = K) (F : Fun K x x st g fd) (b : Binds K fd [a] []) (hg : Gl X x) (hm : X.mg x = some (.ref g)) (Sg : FnScope Ng [a] (defScope st)) (hNg : Ng[0]? = some a) (hva : Vis (defScope st) a)
    (hG : ∀ cdv, GivesS X (k + 1) Ng x (defScope st) g cdv (defBody st) a (X.env.qual ++ "<lambda>") TT) (TB : TabB X.base X.mg c P) (hcode : X.env.code = .ref c) (hmT : (P, X.env.qual ++ "<lambda>") ∈ T) (hu : ∀ p ∈ T, p.1 = P → p.2 = X.env.qual ++ "<lambda>") (hr : Room (k + 2) X.A)
    (L : LamS X.env.scope scope) (hdef : defaultsOf params X.env = ([], [])) (hbind : ∀ (q : Str) (cl : List (Str × Addr)) (pm cv ctv : Value), bindArgs (PySem.W.kla_fn "<lambda>" q params body scope cl pm cv ctv) ⟨[], []⟩ = pure [])
    (hbody : ∀ (A : Around) (outer : List Env) (s : Shared) (H : Hp) (E : XK) (f c' : Addr), Room k (A.deeper (lamEnv X scope s.heap.objs.size f c')) → PE (lamCx X A outer s H E scope f c') body (t E))
    (hdb : (x == ("__debug__" : Str)) = false := by decide) (hd : (a == ("__debug__" : Str)) = false := by decide) (hcd : (a == ("__classdict__" : Str)) = false := by decide) : PE X (.Call (.Name x p) [.Lambda params body scope lpos] [] pos) (tLam T TT t) := by
  subst hK
  obtain ⟨oc, od, kV, doc, pm, an, cdv, ct, osl, rfl, lk, hc⟩ := F.ex
  refine ⟨fun pp t0 τ G R J ⟨hT, h⟩ => wpAny_Call_Name_kw (ld_glob J hg hm (PySem.W.callWith_K (h₀ := X.base) J.ok.mod.kin F.kp ?_ (by rfl) (by rfl)) hdb)⟩
  (show wpAny _ _ (spliced ((false, eval (.Lambda params body scope lpos) X.env) :: backTo pos (starEach [] X.env))) _ _ t0)
  refine Calls.spliced_cons (lam_make2 J TB hcode hmT hu hT hdef (L.has J.ok) fun f c' pm' ctv H1 s' I1 eN T1 hf hfn hfr hco => Calls.spliced_nil ⟨I1.kIn, ?_⟩)
  refine wpAny_call (codeAny_mono (LamX.run_ofS (N := Ng) (ps := [a]) (us := [.ref f]) (vs := [.ref f]) (CX := C8.CX0) (E := C8.E0) (Q := R) lk hc Sg hr I1.env0 (b s' [.ref f] I1.kIn rfl) (.cons rfl .nil) rfl fun hr' => ?_) fun r s2 hq => ?_)
  · obtain ⟨t', ht', hq'⟩ := hG cdv f c' s' H1 R (fun E H' Q' => t E τ H' Q') (fun W pn xe p1 p2 tk => pe_actS (i := 0) I1 L hf hfn hfr (hbind _ _ _ _ _) tk hr' (fun A outer s H E hr2 => hbody A outer s H E f c' hr2) hNg hva hd hcd) hr' hco (h H1 eN T1)
    exact ⟨t', ht'.nox, hq'⟩
  · match r, hq with
    | .error e, hq => exact (show False from hq).elim
    | .ok (.ret u), hq => exact I1.after hq
    | .ok .next, hq | .ok .brk, hq | .ok .cont, hq => exact False.elim hq
end
/-- what is no table stays -/
theorem _root_.LamX.ExtN.ex {H H' : Hp} (e : ExtN H H') : ∀ {a : Addr} {o : HO}, H a = some o → (∀ ps, o ≠ .tbl ps) → H' a = some o := fun h n => e _ _ h n
theorem Dz.en {p : Addr} {H H' : Hp} {v : V} {d : PyData} (h : Dz p H v d) (e : ExtN H H') : Dz p H' v d := by
  induction h with
  | non => exact .non
  | bl b => exact .bl b
  | int i => exact .int i
  | str x => exact .str x
  | lst h n m hl _ ih => exact .lst (e _ _ h (fun _ z => by cases z)) n m hl ih
  | tup h hl _ ih => exact .tup (e _ _ h (fun _ z => by cases z)) hl ih
  | dct h hl _ ih => exact .dct (e _ _ h (fun _ z => by cases z)) hl ih
/-- all but what stands at p, and tables -/
def XN (p : Addr) (H H' : Hp) : Prop := ∀ a o, a ≠ p → (∀ ps, o ≠ .tbl ps) → H a = some o → H' a = some o
theorem XB.xn {p : Addr} {H H' : Hp} (e : XB p H H') : XN p H H' := fun a o n _ h => e a o n h
theorem XN.tr {p : Addr} {H H1 H2 : Hp} (a : XN p H H1) (b : XN p H1 H2) : XN p H H2 := fun c o n t h => b c o n t (a c o n t h)
theorem en_xn {p : Addr} {H H' : Hp} (e : ExtN H H') : XN p H H' := fun a o _ t h => e a o h t
theorem tabs_xb {T : List (Addr × Str)} {p : Addr} {H H' : Hp} {xs : List V} (t : Tabs T H) (hp : H p = some (.lst xs)) (e : XB p H H') : Tabs T H' := fun q hq => by
  obtain ⟨ps, h1, h2, h3⟩ := t q hq
  refine ⟨ps, e _ _ (fun z => by rw [z, hp] at h1; cases h1) h1, h2, fun pos cv hc => ?_⟩
  obtain ⟨c, e1, e2⟩ := h3 pos cv hc
  exact ⟨c, e1, e _ _ (fun z => by rw [z, hp] at e2; unfold CodeO at e2; cases e2) e2⟩
/-- what isinstance says of any data -/
def isInt : V → Bool | .int _ => true | .bl _ => true | _ => false
def isBool : V → Bool | .bl _ => true | _ => false
def Kd (K : PySem.W.Frag) (H : Hp) (v : V) : Prop := ∃ t : String, TyX K H v (.type t) ∧ PySem.W.kitOne K (.type t) (.type "int") = some (isInt v) ∧ PySem.W.kitOne K (.type t) (.type "bool") = some (isBool v)
theorem kd_of {K : PySem.W.Frag} {p : Addr} {H : Hp} {v : V} {d : PyData} (h : Dz p H v d) : Kd K H v := by
  cases h with
  | non => exact ⟨_, .base .non, kit_ty (r := false) (by decide +kernel), kit_ty (r := false) (by decide +kernel)⟩
  | bl b => exact ⟨_, .base (.bl _), kit_ty (r := true) (by decide +kernel), kit_ty (r := true) (by decide +kernel)⟩
  | int i => exact ⟨_, .base (.int _), kit_ty (r := true) (by decide +kernel), kit_ty (r := false) (by decide +kernel)⟩
  | str x => exact ⟨_, .base (.str _), kit_ty (r := false) (by decide +kernel), kit_ty (r := false) (by decide +kernel)⟩
  | lst h => exact ⟨_, .base (.lst h), kit_ty (r := false) (by decide +kernel), kit_ty (r := false) (by decide +kernel)⟩
  | tup h => exact ⟨_, .base (.tup h), kit_ty (r := false) (by decide +kernel), kit_ty (r := false) (by decide +kernel)⟩
  | dct h => exact ⟨_, .base (.dK h), kit_ty (r := false) (by decide +kernel), kit_ty (r := false) (by decide +kernel)⟩
/-- an integer from lo on that is less than hi -/
def whole (v : V) (lo hi : Int) : Bool := match v with
  | .int i => decide (lo ≤ i) && decide (i < hi)
  | _ => false
theorem whole_int {v : V} {lo hi : Int} (h : whole v lo hi = true) : ∃ i, v = .int i ∧ lo ≤ i ∧ i < hi := by
  cases v with
  | int i => simp [whole] at h; exact ⟨i, rfl, h.1, h.2⟩
  | _ => simp [whole] at h
def spWholeA (K : PySem.W.Frag) : Sp := fun vs H Q _ => ∃ (v : V) (lo hi : Int), vs = [v, .int lo, .int hi] ∧ Kd K H v ∧ Q (.bl (whole v lo hi)) H
end HX
set_option Elab.async false
set_option linter.all false
set_option maxRecDepth 100000
set_option maxHeartbeats 4400000
namespace HX
open L2 PyProof.Rows PySem.Spec PySem
/-! ### a Hook by facts of one's own, and the defs as they stand -/
/-- what an object of the top leads to: a namespace to what it holds, a class to its namespace, a def to its code and defaults, a property to its defs -/
def nextO (o : Obj) : List Addr := match o.data with
  | .dict es _ => es.toList.flatMap fun e => He.refV e.val
  | .cls cd => [cd.ns]
  | .func fd => He.refV fd.code ++ (He.refV fd.defaults ++ He.refV fd.kwdefaults)
  | .fields vs => if o.cls == .type "code" then [] else vs.toList.flatMap He.refV
  | _ => []
def nextG (g : Addr → Option Obj) (as : List Addr) : List Addr := as.flatMap fun a => match g a with
  | some o => nextO o
  | none => []
def pathG (g : Addr → Option Obj) : Nat → List Addr → List Addr
  | 0, as => as
  | n + 1, as => as ++ pathG g n (nextG g as)

/-! ### defs by the address they stand at -/
structure DX where
  at_ : PySem.W.Frag → Addr
  name : Str
  qual : Str
  st : Stmt
/-- a def of the module -/
def glo (x : Str) (K : PySem.W.Frag) : Addr := He.ga K x
/-- a def of a class -/
def met (C m : Str) (K : PySem.W.Frag) : Addr := He.ma K (He.ga K C) m
/-- the getter of a property of a class -/
def prp (C f : Str) (K : PySem.W.Frag) : Addr := match PySem.W.recIn K (He.ma K (He.ga K C) f) "property" with
  | some (.ref g :: _) => g
  | _ => 0
def fnX (K : PySem.W.Frag) (a : Addr) : He.FnW := match K.lookup a with
  | some ⟨_, _, .func fd, _⟩ => some (fd.name, fd.qualname, fd.params, fd.body, fd.scope, fd.globals, fd.closure, fd.builtins)
  | _ => none
def DX.val (d : DX) : He.FnW := some (d.name, d.qual, defArgs d.st, .stmts (defBody d.st), defScope d.st, mainGlobals, [], builtinsNs)
def DX.ok (K : PySem.W.Frag) (d : DX) : Bool := PySem.W.keepIn K (.ref (d.at_ K)) && (match K.lookup (d.at_ K) with
  | some ⟨_, _, .func fd, _⟩ => PySem.W.codeIn K fd.code d.qual && decide (fd.defaults = .none)
  | _ => false)
theorem DX.fun_ {K : PySem.W.Frag} {d : DX} (e : fnX K (d.at_ K) = d.val) (c : d.ok K = true) : ∃ fd, Fun K d.name d.qual d.st (d.at_ K) fd := by
  obtain ⟨kp, c2⟩ := Bool.and_eq_true_iff.mp c
  unfold fnX at e
  cases q : K.lookup (d.at_ K) with
  | none => rw [q] at c2; cases c2
  | some o =>
    obtain ⟨oc, od, dt, osl⟩ := o
    rw [q] at c2 e
    cases dt with
    | func fd =>
      obtain ⟨n1, n2, n3, n4, n5, n6, n7, n8, n9, n10, n11, n12, n13, n14, n15⟩ := fd
      have e2 : (some (n1, n2, n3, n4, n5, n6, n7, n15) : He.FnW) = some (d.name, d.qual, defArgs d.st, .stmts (defBody d.st), defScope d.st, mainGlobals, [], builtinsNs) := e
      simp only [Option.some.injEq, Prod.mk.injEq] at e2
      obtain ⟨h1, h2, h3, h4, h5, h6, h7, h8⟩ := e2
      subst h1 h2 h3 h4 h5 h6 h7 h8
      obtain ⟨k1, k2⟩ := Bool.and_eq_true_iff.mp (show (PySem.W.codeIn K n13 d.qual && decide (n8 = .none)) = true from c2)
      have k3 : n8 = .none := of_decide_eq_true k2
      subst k3
      exact ⟨_, ⟨oc, od, n9, n10, n11, n12, n13, n14, osl, rfl, q, k1⟩, kp⟩
    | _ => cases c2
def obsX (n : Nat) (ex : PySem.W.Frag → Bool) (fn : List DX) (g : Addr → Option Obj) : He.AlD :=
  let K := He.frG g (pathG g n [mainGlobals])
  (ex K && fn.all fun d => d.ok K, fn.map fun d => fnX K (d.at_ K))
def valX (fn : List DX) : He.AlD := (true, fn.map DX.val)
def SaysX (ex : PySem.W.Frag → Bool) (fn : List DX) (K : PySem.W.Frag) : Prop := (ex K && fn.all fun d => d.ok K, fn.map fun d => fnX K (d.at_ K)) = valX fn
def hookX (n : Nat) (ex : PySem.W.Frag → Bool) (fn : List DX) : PySem.W.Hook where
  α := He.AlD
  obs := fun s => obsX n ex fn s.heap.get?
  val := fun _ => valX fn
  says := fun _ h => ∃ K : PySem.W.Frag, K.In h ∧ SaysX ex fn K
  of := fun _ _ e => ⟨_, He.frG_in, e⟩
  keeps := fun _ _ _ ⟨K, a, c⟩ k => ⟨K, PySem.W.Frag.In.keeps a k, c⟩
def obT (n : Nat) (ex : PySem.W.Frag → Bool) (fn : List DX) (s : PySem.W.SharedT) : He.AlD := obsX n ex fn (HandSHeadRun.getT s)
theorem obT_eq {n : Nat} {ex : PySem.W.Frag → Bool} {fn : List DX} (s : PySem.W.SharedT) : obT n ex fn s = (hookX n ex fn).obs s.abs := by
  have e : HandSHeadRun.getT s = s.abs.heap.get? := funext (HandSHeadRun.getT_eq s)
  unfold obT; rw [e]; rfl
theorem SaysX.facts {ex : PySem.W.Frag → Bool} {fn : List DX} {K : PySem.W.Frag} (c : SaysX ex fn K) : ex K = true := (Bool.and_eq_true_iff.mp (show (ex K && fn.all fun d => d.ok K) = true from congrArg (fun z : He.AlD => z.1) c)).1
theorem SaysX.def_ {ex : PySem.W.Frag → Bool} {fn : List DX} {K : PySem.W.Frag} (c : SaysX ex fn K) (i : Nat) {d : DX} (h : fn[i]? = some d) : ∃ fd, Fun K d.name d.qual d.st (d.at_ K) fd := by
  have c1 := (Bool.and_eq_true_iff.mp (show (ex K && fn.all fun d => d.ok K) = true from congrArg (fun z : He.AlD => z.1) c)).2
  have e : fn.map (fun d => fnX K (d.at_ K)) = fn.map DX.val := congrArg (fun z : He.AlD => z.2) c
  have e2 : (fn.map (fun d => fnX K (d.at_ K)))[i]? = (fn.map DX.val)[i]? := by rw [e]
  rw [List.getElem?_map, List.getElem?_map, h] at e2
  exact DX.fun_ (Option.some.inj e2) (List.all_eq_true.mp c1 d (List.mem_of_getElem? h))
/-! ### facts of own classes -/
def clsB (K : PySem.W.Frag) (C : Addr) : Bool := PySem.W.plainGet K C Str.empty && (PySem.W.hasDictIn K C && (PySem.W.plainOver K C && He.eqO (PySem.W.findIn K (.ref C) "__setattr__") (some (some (.builtin "object.__setattr__")))))
theorem clsB_ok {K : PySem.W.Frag} {C : Addr} (c : clsB K C = true) : Cls K C := by
  obtain ⟨c1, c⟩ := Bool.and_eq_true_iff.mp c
  obtain ⟨c2, c⟩ := Bool.and_eq_true_iff.mp c
  obtain ⟨c3, c4⟩ := Bool.and_eq_true_iff.mp c
  exact ⟨c1, c2, c3, He.eqO_ok c4⟩
def mkB (K : PySem.W.Frag) (C f : Addr) : Bool := PySem.W.makesIn K C && (He.eqO (PySem.W.findIn K (.ref C) "__init__") (some (some (.ref f))) && (PySem.W.isFn K (.ref f) && PySem.W.keepIn K (.ref C)))
theorem mkB_ok {K : PySem.W.Frag} {C f : Addr} (c : mkB K C f = true) : Mk K C f := by
  obtain ⟨c1, c⟩ := Bool.and_eq_true_iff.mp c
  obtain ⟨c2, c⟩ := Bool.and_eq_true_iff.mp c
  obtain ⟨c3, c4⟩ := Bool.and_eq_true_iff.mp c
  exact ⟨c1, He.eqO_ok c2, c3, c4⟩
def noatB (K : PySem.W.Frag) (C : Addr) (f : Str) : Bool := He.eqO (PySem.W.findIn K (.ref C) f) (some none)
theorem noatB_ok {K : PySem.W.Frag} {C : Addr} {f : Str} (c : noatB K C f = true) : NoAttr K C f := He.eqO_ok c
def propB (K : PySem.W.Frag) (C : Addr) (f : Str) (p g : Addr) : Bool := He.eqO (PySem.W.findIn K (.ref C) f) (some (some (.ref p))) && (He.eqO (PySem.W.specialIn K (.ref p) "__get__") (some (some (.builtin "property.__get__"))) &&
  (decide (PySem.W.takesIn K (.ref p) = some true) && (match PySem.W.recIn K p "property" with
    | some (.ref b :: _) => decide (b = g)
    | _ => false)))
theorem propB_ok {K : PySem.W.Frag} {C : Addr} {f : Str} {p g : Addr} (c : propB K C f p g = true) : PropOf K C f p g := by
  obtain ⟨c1, c⟩ := Bool.and_eq_true_iff.mp c
  obtain ⟨c2, c⟩ := Bool.and_eq_true_iff.mp c
  obtain ⟨c3, c4⟩ := Bool.and_eq_true_iff.mp c
  refine ⟨He.eqO_ok c1, He.eqO_ok c2, of_decide_eq_true c3, ?_⟩
  split at c4
  · rename_i b r e
    obtain rfl : b = g := of_decide_eq_true c4
    exact ⟨r, e⟩
  · cases c4
def methB (K : PySem.W.Frag) (C : Addr) (m : Str) (f : Addr) : Bool := He.eqO (PySem.W.findIn K (.ref C) m) (some (some (.ref f))) && (PySem.W.isFn K (.ref f) && PySem.W.keepIn K (.ref f))
theorem methB_ok {K : PySem.W.Frag} {C : Addr} {m : Str} {f : Addr} (c : methB K C m f = true) : Meth K C m f := by
  obtain ⟨c1, c⟩ := Bool.and_eq_true_iff.mp c
  obtain ⟨c2, c3⟩ := Bool.and_eq_true_iff.mp c
  exact ⟨He.eqO_ok c1, c2, c3⟩
/-- what isinstance and the class of an object ask -/
def isiB (K : PySem.W.Frag) (C : Addr) : Bool := He.eqO (PySem.W.findIn K (.ref C) "__class__") (some (some (.builtin "object.__class__"))) && decide (PySem.W.mroIn K C (.type "object") = some true)
theorem isiB_ok {K : PySem.W.Frag} {C : Addr} (c : isiB K C = true) : PySem.W.findIn K (.ref C) "__class__" = some (some (.builtin "object.__class__")) ∧ PySem.W.mroIn K C (.type "object") = some true := by
  obtain ⟨c1, c2⟩ := Bool.and_eq_true_iff.mp c
  exact ⟨He.eqO_ok c1, of_decide_eq_true c2⟩
/-! ### code objects and their tables -/
def cod (y : Str) (K : PySem.W.Frag) : Addr := match PySem.W.tabIn K y with
  | some p => p.1
  | none => 0
def tbl (y : Str) (K : PySem.W.Frag) : Addr := match PySem.W.tabIn K y with
  | some p => p.2
  | none => 0
def tabB (K : PySem.W.Frag) (y : Str) : Bool := decide (PySem.W.tabIn K y = some (cod y K, tbl y K)) && (K.lookup (tbl y K)).isNone
theorem tabB_ok {K : PySem.W.Frag} {y : Str} (c : tabB K y = true) : PySem.W.tabIn K y = some (cod y K, tbl y K) ∧ K.lookup (tbl y K) = none := by
  obtain ⟨c1, c2⟩ := Bool.and_eq_true_iff.mp c
  exact ⟨of_decide_eq_true c1, Option.isNone_iff_eq_none.mp c2⟩
theorem code_of {K : PySem.W.Frag} {x q y : Str} {st : Stmt} {fd : FuncData} {c P : Addr} (F : Fun K x q st (He.ga K y) fd) (h : PySem.W.tabIn K y = some (c, P)) : fd.code = .ref c := by
  obtain ⟨oc, od, kV, doc, pm, an, cdv, ct, osl, rfl, lk, hcd⟩ := F.ex
  unfold PySem.W.tabIn at h
  unfold He.ga at lk
  split at h
  · rename_i f hf
    rw [hf] at lk
    dsimp only at lk
    rw [lk] at h
    dsimp only at h
    split at h
    · split at h
      · split at h
        · cases h; first | rfl | assumption
        · cases h
      · cases h
    · cases h
  · cases h
end HX
set_option Elab.async false
set_option linter.all false
set_option maxRecDepth 100000
set_option maxHeartbeats 4400000
namespace HX
open L2 PyProof.Rows PySem.Spec PySem
open PySem.W (Frag)
/-! ### facts of own errors -/
def ExcObj (K : Frag) (C : Addr) : Prop := ∃ nm q N bs bm sn sub ab col dd k0 k1 k2 k3 k5, K.lookup C = some (excClassObj nm q C N bs bm true sn sub ab col dd k0 k1 k2 k3 k5 "ValueError.__new__") ∧ PySem.HandSPX.refsVE bm = true
theorem exc_mk {K : Frag} {C : Addr} {nm q : Str} {N : Addr} {bs bm : List Value} {sn : List Str} {sub : List Value} {ab : Bool} {col : Option Bool} {dd : Option Addr} {k0 k1 k2 k3 k5 : Option Value}
    (h : K.lookup C = some (excClassObj nm q C N bs bm true sn sub ab col dd k0 k1 k2 k3 k5 "ValueError.__new__")) (r : PySem.HandSPX.refsVE bm = true) : ExcObj K C := ⟨_, _, _, _, _, _, _, _, _, _, _, _, _, _, _, h, r⟩
/-- what an own error's class says, but for its __init__ -/
def errB0 (K : Frag) (C : Addr) : Bool :=
  (PySem.W.clsIn K C).isSome && PySem.W.findIn K (.ref C) "__getattribute__" == some (some (.builtin "BaseException.__getattribute__")) && PySem.W.findIn K (.ref C) "__getattr__" == some none
  && PySem.W.subIn K (.ref C) (.type "BaseException") == some true && PySem.W.findIn K (.ref C) "__class__" == some (some (.builtin "object.__class__"))
  && PySem.W.specialIn K (.builtin "object.__class__") "__get__" == some (some (.builtin "getset_descriptor.__get__")) && PySem.W.takesIn K (.builtin "object.__class__") == some true && PySem.W.mroIn K C (.type "object") == some true
  && PySem.W.keepIn K (.ref C)
theorem errB0_er {K : Frag} {C : Addr} (h : errB0 K C = true) : ErrC K C := by
  unfold errB0 at h
  simp only [Bool.and_eq_true, beq_iff_eq] at h
  obtain ⟨⟨⟨⟨⟨⟨⟨⟨h1, h2⟩, h3⟩, h4⟩, h5⟩, h6⟩, h7⟩, h8⟩, _⟩ := h
  exact ⟨h1, h2, h3, h4, h5, h6, h7, h8⟩
theorem errB0_keep {K : Frag} {C : Addr} (h : errB0 K C = true) : PySem.W.keepIn K (.ref C) = true := by
  unfold errB0 at h
  simp only [Bool.and_eq_true, beq_iff_eq] at h
  exact h.2
def errB (K : Frag) (C f : Addr) (n : Str) : Bool :=
  errB0 K C && PySem.W.hasDictIn K C && PySem.W.findIn K (.ref C) "__setattr__" == some (some (.builtin "object.__setattr__")) && PySem.W.typeIn K (.ref C) == some (.type "type") && PySem.W.findIn K (.ref C) n == some none
  && PySem.W.findIn K (.ref C) "__init__" == some (some (.ref f)) && PySem.W.typeIn K (.ref f) == some (.type "function")
theorem errT_mk_er {K : Frag} {C f : Addr} {n : Str} (h : errB K C f n = true) : ErrC K C := by
  unfold errB at h
  simp only [Bool.and_eq_true, beq_iff_eq] at h
  exact errB0_er h.1.1.1.1.1.1
theorem errT_mk {K : Frag} {mg : Str → Option Value} {x n : Str} {C f : Addr} {d : FuncData} (o : ExcObj K C) (h : errB K C f n = true) (b : Binds K d ["self", n] []) (kb : ∀ (s : Shared) (a u : Value), K.In s.heap → BindsTo s d ⟨[a], [(n, u)]⟩ [("self", a), (n, u)]) (m : mg x = some (.ref C)) : ErrT K mg x n C f d := by
  unfold errB at h
  simp only [Bool.and_eq_true, beq_iff_eq] at h
  obtain ⟨⟨⟨⟨⟨⟨h0, h1⟩, h2⟩, h3⟩, h4⟩, h5⟩, h6⟩ := h
  have e := errB0_er h0
  exact ⟨⟨o, h2, e.be, h3, errB0_keep h0⟩, ⟨e.ga, e.gt, e.be, h1⟩, e, h4, h5, h6, b, kb, m⟩
def mroOne (K : Frag) (T C : Addr) : Bool := (PySem.W.clsIn K C).any (fun cd => decide (cd.mro = [.ref C, .ref T, .type "ValueError", .type "Exception", .type "BaseException", .type "object"])) && decide (PySem.W.typeIn K (.ref C) = some (.type "type"))
/-- errors right below the class at T, all different -/
def mroB (K : Frag) (T : Addr) (l : List Addr) : Bool := (PySem.W.clsIn K T).isSome && (decide (PySem.W.typeIn K (.ref T) = some (.type "type")) && (l.all (mroOne K T) && (decide (l.Nodup) && l.all fun C => !(C == T))))
theorem mroOne_sub {K : Frag} {T C : Addr} {v : Value} (h : mroOne K T C = true) : PySem.W.subIn K (.ref C) v = some (([.ref C, .ref T, .type "ValueError", .type "Exception", .type "BaseException", .type "object"] : List Value).contains v) := by
  unfold mroOne at h
  rw [Bool.and_eq_true] at h
  cases e : PySem.W.clsIn K C with
  | none => rw [e] at h; cases h.1
  | some cd =>
    rw [e] at h
    have m : cd.mro = _ := of_decide_eq_true h.1
    show PySem.W.mroIn K C v = _
    unfold PySem.W.mroIn
    rw [e]
    show (if cd.mro.isEmpty = true then none else some (cd.mro.contains v)) = _
    rw [m]; rfl
theorem mroOne_cls {K : Frag} {T C : Addr} (h : mroOne K T C = true) : (PySem.W.clsIn K C).isSome = true ∧ PySem.W.typeIn K (.ref C) = some (.type "type") := by
  unfold mroOne at h
  rw [Bool.and_eq_true] at h
  refine ⟨?_, of_decide_eq_true h.2⟩
  cases e : PySem.W.clsIn K C with
  | none => rw [e] at h; cases h.1
  | some cd => rfl
theorem mroB_kit {K : Frag} {T : Addr} {l : List Addr} (h : mroB K T l = true) : ∀ C ∈ l, ∀ D ∈ l, PySem.W.kitOne K (.ref C) (.ref D) = some (C == D) := fun C hC D hD => by
  unfold mroB at h
  simp only [Bool.and_eq_true, List.all_eq_true, Bool.not_eq_true', beq_eq_false_iff_ne] at h
  obtain ⟨_, _, h1, _, h3⟩ := h
  obtain ⟨c1, c2⟩ := mroOne_cls (h1 D hD)
  have sb := mroOne_sub (v := .ref D) (h1 C hC)
  by_cases e : C = D
  · subst e; simp [PySem.W.kitOne]
  · have n1 : (C == D) = false := beq_eq_false_iff_ne.mpr e
    have n2 : ((Value.ref C) == (.ref D)) = false := by simp [e]
    rw [n1]
    have ct : ([.ref C, .ref T, .type "ValueError", .type "Exception", .type "BaseException", .type "object"] : List Value).contains (.ref D) = false := by
      have e2 : ¬ D = C := fun z => e z.symm
      have e3 : ¬ D = T := h3 D hD
      simp [e2, e3]
    rw [ct] at sb
    simp [PySem.W.kitOne, PySem.W.kitCls, n2, c1, c2, sb]
theorem mroB_te {K : Frag} {T : Addr} {l : List Addr} (h : mroB K T l = true) : ∀ C ∈ l, PySem.W.kitOne K (.ref C) (.ref T) = some true := fun C hC => by
  unfold mroB at h
  simp only [Bool.and_eq_true, List.all_eq_true, Bool.not_eq_true', beq_eq_false_iff_ne, decide_eq_true_eq] at h
  obtain ⟨t1, t2, h1, _, h3⟩ := h
  have sb := mroOne_sub (v := .ref T) (h1 C hC)
  have n2 : ((Value.ref C) == (.ref T)) = false := by simp [h3 C hC]
  have ct : ([.ref C, .ref T, .type "ValueError", .type "Exception", .type "BaseException", .type "object"] : List Value).contains (.ref T) = true := by simp
  rw [ct] at sb
  simp [PySem.W.kitOne, PySem.W.kitCls, n2, t1, t2, sb]
theorem mroB_ve {K : Frag} {T : Addr} {l : List Addr} (h : mroB K T l = true) : ∀ C ∈ l, PySem.W.kitOne K (.ref C) (.type "ValueError") = some true := fun C hC => by
  unfold mroB at h
  simp only [Bool.and_eq_true, List.all_eq_true, Bool.not_eq_true', beq_eq_false_iff_ne] at h
  obtain ⟨_, _, h1, _, _⟩ := h
  have sb := mroOne_sub (v := .type "ValueError") (h1 C hC)
  have ct : ([.ref C, .ref T, .type "ValueError", .type "Exception", .type "BaseException", .type "object"] : List Value).contains (.type "ValueError") = true := by simp
  rw [ct] at sb
  have km : PySem.W.kitMeta "ValueError" = true := by decide +kernel
  have n2 : ((Value.ref C) == (.type "ValueError")) = false := rfl
  simp [PySem.W.kitOne, PySem.W.kitCls, n2, km, sb]
theorem mroB_nd {K : Frag} {T : Addr} {l : List Addr} (h : mroB K T l = true) : l.Nodup := by
  unfold mroB at h
  simp only [Bool.and_eq_true, decide_eq_true_eq] at h
  exact h.2.2.2.1
def excB (K : Frag) (C : Addr) : Bool := match K.lookup C with
  | some ⟨.type "type", _, .cls cd, sl⟩ => (match cd.mro, sl.toList with
    | .ref D :: bm, [_, _, _, _, some (.builtin n), _] => D == C && (n == "ValueError.__new__" && (!cd.hasDel && (cd.hasDict && PySem.HandSPX.refsVE bm)))
    | _, _ => false)
  | _ => false
theorem excB_ok {K : Frag} {C : Addr} (q : excB K C = true) : ExcObj K C := by
  unfold excB at q
  split at q
  · rename_i dd cd sl ho
    split at q
    · rename_i D bm k0 k1 k2 k3 n k5 hm hs
      simp only [Bool.and_eq_true, beq_iff_eq, Bool.not_eq_true'] at q
      obtain ⟨rfl, rfl, hdel, hdi, hr⟩ := q
      obtain ⟨nm, bs, mro, ns, qn, hd, sn, sub, ab, col, del⟩ := cd
      dsimp only at hm hdel hdi
      subst hm hdel hdi
      obtain ⟨l⟩ := sl
      simp only at hs
      subst hs
      exact ⟨_, _, _, _, _, _, _, _, _, _, _, _, _, _, _, ho, hr⟩
    · cases q
  · cases q
theorem kb_of {K : Frag} {x q n : Str} {st : Stmt} {f : Addr} {fd : FuncData} (F : Fun K x q st f fd) (h : ∀ (kV doc pm : Value) (an : Option Addr) (cdv ct : Value) (a u : Value), bindArgs (PySem.W.fnOf x q (defArgs st) (defBody st) (defScope st) .none kV doc pm an cdv ct) ⟨[a], [(n, u)]⟩ = pure [(("self" : Str), a), (n, u)]) :
    ∀ (s : Shared) (a u : Value), K.In s.heap → BindsTo s fd ⟨[a], [(n, u)]⟩ [("self", a), (n, u)] := by
  obtain ⟨oc, od, kV, doc, pm, an, cdv, ct, osl, rfl, lk, hcd⟩ := F.ex
  exact fun s a u _ => .of_eq (h _ _ _ _ _ _ _ _)
theorem mroB_xte {K : Frag} {T : Addr} {l : List Addr} (h : mroB K T l = true) (hb : PySem.W.subIn K (.ref T) (.type "BaseException") = some true) : ∀ C ∈ l, PySem.W.exmOne K (.ref C) (.ref T) = some true := fun C hC => by
  have k := mroB_te h C hC
  have h2 := h
  unfold mroB at h2
  simp only [Bool.and_eq_true, List.all_eq_true, Bool.not_eq_true', beq_eq_false_iff_ne, decide_eq_true_eq] at h2
  have n2 : ((Value.ref C) == (.ref T)) = false := by simp [h2.2.2.2.2 C hC]
  unfold PySem.W.kitOne at k
  rw [n2] at k
  unfold PySem.W.exmOne
  rw [hb]
  exact k
end HX
set_option Elab.async false
set_option linter.all false
set_option maxRecDepth 100000
set_option maxHeartbeats 4400000
namespace HX
open L2 PyProof.Rows PySem.Spec PySem
open PySem.W (Frag)
/-! ### list(..) of a list or a tuple: the new list stands apart from the table of modules -/
def rListN (K : Frag) : List V → Hp → VK → Prop := fun xs H Q => ∃ p ys, xs = [.ref p] ∧ (SqL K H p ys ∨ SqT K H p ys) ∧ ∀ l, H l = none → l ≠ sysModules → Q (.ref l) (upd H l (.lst ys))
theorem call_listN {X : Cx} : CallR X (.type "list") (rListN X.K) := fun pp t τ G xs us R J r h => by
  obtain ⟨p, ys, e0, hs, q⟩ := h
  subst e0
  match us, r with
  | [_], .cons rx .nil =>
    cases rx
    have new : ∀ (vs : List Value) (g : Heap) (n : Nat), Vals ys vs → ys.length ≤ sizeLine → (∀ b o, t.heap.get? b = some o → g.get? b = some o) → g.get? t.heap.objs.size = some ⟨.type "list", none, .seq vs.toArray n, #[]⟩ → EP X pp τ R (.ref t.heap.objs.size) ⟨g, t.gens, t.drawn, t.toks, t.os⟩ :=
      fun vs g n rv z kp e => ⟨.ref t.heap.objs.size, _, J.laid (t' := t.toks) (o := .lst ys) kp (Nat.le_refl _) ⟨z, vs, n, rv, e⟩, rfl, q _ (J.hok.fresh (Nat.le_refl _)) (Nat.ne_of_gt J.big)⟩
    rcases hs with hs | hs
    · obtain ⟨vs, rv, pl, z⟩ := J.list hs
      have n63 := line63; have ln := rv.length
      obtain ⟨o, h1, h2, n, h3⟩ := pl.isList
      exact call_list_seq p (.inl rfl) h1 h2 h3 (fun g n' kp e => new vs g n' rv z kp e) (by rw [List.size_toArray]; omega)
    · obtain ⟨vs, rv, ⟨o, h1, h2, n, h3⟩, z⟩ := J.tuple hs
      have n63 := line63; have ln := rv.length
      exact call_list_seq p (.inr rfl) h1 h2 h3 (fun g n' kp e => new vs g n' rv z kp e) (by rw [List.size_toArray]; omega)
/-! ### short sequences of small ints -/
def bdB (d : PyData) : Bool := d.showable && decide (d.depth ≤ 4) && d.leavesShort 24 && decide (d.weight ≤ 400) && PyData.strOk d.shown
theorem bdB_ok {d : PyData} (h : bdB d = true) : Bd 0 d := .of h
def intsTo (m : Nat) : Nat → List (List Int)
  | 0 => [[]]
  | k + 1 => [] :: (intsTo m k).flatMap fun l => (List.range m).map (fun i : Nat => ((i : Int) :: l))
theorem mem_ints {m : Nat} : ∀ {k : Nat} {l : List Int}, l.length ≤ k → (∀ i ∈ l, 0 ≤ i ∧ i < (m : Int)) → l ∈ intsTo m k
  | 0, [], _, _ => .head _
  | 0, _ :: _, h, _ => by simp at h
  | k + 1, [], _, _ => .head _
  | k + 1, i :: l, h, b => by
    refine List.mem_cons.mpr (.inr (List.mem_flatMap.mpr ⟨l, mem_ints (by simpa using h) fun j hj => b j (.tail _ hj), List.mem_map.mpr ⟨i.toNat, List.mem_range.mpr ?_, ?_⟩⟩))
    · have := b i (.head _); omega
    · have := b i (.head _); rw [Int.toNat_of_nonneg this.1]
end HX
set_option Elab.async false
set_option linter.all false
set_option maxRecDepth 100000
set_option maxHeartbeats 4400000
namespace PySem.HXe
open PySem
/-- the two new objects of enumerate(v) -/
abbrev enH (h : Heap) (o : Obj) : Heap := (h.push o).push ⟨.type "enumerate", none, .fields #[.none, .bool false, .ref h.objs.size, rawInt 0, .none, .none], #[]⟩
theorem new_enum {v : Value} {o : Obj} {F : Heap → Prop} (B : Begins v o F) : Meets (Builtin.«enumerate.__new__» ⟨[.type "enumerate", v], []⟩) (fun _ R s => F s.heap ∧ R (.ok (.ret (.ref (s.heap.push o).objs.size))) ⟨enH s.heap o, s.gens, s.drawn, s.toks, s.os⟩) :=
  .of_wp fun prog w A R s h => by
    obtain ⟨hp, g, d, tk, os⟩ := s; obtain ⟨hF, h2⟩ := h
    have h1 : F hp := hF
    have hsub := sub_enumerate
    have it1 : ∀ {A' : Around} {E : Value → Shared → Prop} {Q : Value → Shared → Prop}, Q (.ref hp.objs.size) ⟨hp.push o, g, d, tk, os⟩ → wpAny (model prog w) A' (pyIter v) Q E ⟨hp, g, d, tk, os⟩ := fun q => B.iter prog w _ _ ⟨hp, g, d, tk, os⟩ _ h1 q
    wp_walk using it1
    refine wpAny_stack_any fun st => wpAny_pure ?_
    split
    · rename_i c _ _ _ _ _; cases (c == Value.type "enumerate") <;> (wp_walk using it1; exact ⟨_, rfl, h2⟩)
    · wp_walk using it1; exact ⟨_, rfl, h2⟩
theorem enumerates {prog : Program} {w : World} {A : Around} {E : Value → Shared → Prop} {s : Shared} {v : Value} {o : Obj} {Z : Heap → Prop} {Q : Value → Shared → Prop} (B : Begins v o Z) (hF : Z s.heap)
    (h : ∀ h', IsEnum h' (s.heap.objs.size + 1) s.heap.objs.size 0 .none → h'.get? s.heap.objs.size = some o → (∀ b ob, s.heap.get? b = some ob → h'.get? b = some ob) → Q (.ref (s.heap.objs.size + 1)) ⟨h', s.gens, s.drawn, s.toks, s.os⟩) :
    wpAny (model prog w) A (call (.type "enumerate") [v]) Q E s := by
  refine callType_new F.called_enumerate (by decide) (F.typeCall_enumerate_1 _) (F.newCall_enumerate_1 _) (fun obj => F.args_object_init_2 obj _) F.entry_enumerate_new (new_enum B) ⟨hF, ?_⟩
  have z1 : (s.heap.push o).objs.size = s.heap.objs.size + 1 := Heap.size_push ..
  have ge : (enH s.heap o).get? (s.heap.push o).objs.size = _ := Heap.get?_push_size _ rfl
  have gi : (enH s.heap o).get? s.heap.objs.size = some o := Heap.get?_push_of_some _ (Heap.get?_push_size _ B.free)
  rw [z1] at ge
  show _ ∧ _
  rw [z1]
  have q := h (enH s.heap o) ge gi fun b ob e => Heap.get?_push_of_some _ (Heap.get?_push_of_some _ e)
  exact ⟨⟨_, ge, rfl⟩, q⟩
end PySem.HXe
namespace HX
open L2 PyProof.Rows PySem.Spec PySem
open PySem.W (Frag)
/-! ### enumerate of a tuple -/
def ItE (K : Frag) (a : Addr) : It :=
  ⟨fun i H => ∃ (xs : List V) (x : V), SqT K H a xs ∧ xs[i]? = some x, fun i H v H' => ∃ T x, v = .ref T ∧ H T = none ∧ H' = upd H T (.tup [.int (i : Nat), x]) ∧ ∀ xs, SqT K H a xs → xs[i]? = some x, fun i H => ∃ xs : List V, SqT K H a xs ∧ xs.length ≤ i⟩
theorem turn_enT {P : Program} {w : World} {K : Frag} {elts : List Expr} {kk : Nat} {tpos : Pos} (a e it : Addr) :
    Turn P w K (.Tuple elts kk tpos) (ItE K a) [e, it] e (fun i h => (∃ old, IsEnum h e it ((i : Nat) : Int) old) ∧ h.IsTupleIter it a i ∧ e ≠ it ∧ a ≠ it ∧ a ≠ e) := by
  refine ⟨List.mem_cons_self, ?_, ?_, ?_, ?_, fun A i s Q E st h => let ⟨⟨_, he⟩, _⟩ := st; wpAny_pyIter_enum he h⟩
  · rintro i h ⟨⟨old, he⟩, ⟨o, ho, hc, hd⟩, _⟩ b hb
    rcases List.mem_cons.mp hb with z | z
    · rw [z]; exact ⟨_, he, fun v q => by cases q⟩
    · rw [List.mem_singleton.mp z]; exact ⟨o, ho, fun v q => by rw [hd] at q; cases q⟩
  · rintro i h h' ⟨⟨old, he⟩, hi, hne⟩ k
    exact ⟨⟨old, k e (.head _) _ he⟩, hi.at fun o q => k it (.tail _ (.head _)) o q, hne⟩
  · intro X hP hw hK hc i pins s σ H E I hf st hg
    subst hP hw hK
    obtain ⟨⟨old, he⟩, hit, hne, na, nae⟩ := st
    obtain ⟨xs, x, hq, hx⟩ := hg
    obtain ⟨its, rv, pl, _⟩ := I.tuple hq
    have li : i < xs.length := (List.getElem?_eq_some_iff.mp hx).1
    have ln := rv.length
    have el : e < s.heap.objs.size := Heap.lt_size he
    have il : it < s.heap.objs.size := let ⟨_, q, _⟩ := hit; Heap.lt_size q
    have D := Draws.tuple (prog := X.prog) (w := X.w) (A := X.A.in1) (show X.A.in1.handled = none from I.ok.hd hc) it a na its.toArray
    refine wpAny_pyNext_enum_itemD D he ⟨hit, pl⟩ (by simp; omega) hne (by simp; exact ⟨hne, fun z => nae z.symm⟩) fun u h' tk hu ho st' hT hsz hk => ?_
    obtain ⟨u2, hu2, ru⟩ := rv.get hx
    have eu : u2 = u := by
      have q : its[i]? = some u := by simpa using hu
      rw [hu2] at q; exact Option.some.inj q
    subst eu
    refine ⟨_, rfl, wpAny_letOwnedTupleGo_enum (s := ⟨h', s.gens, s.drawn, tk + 1, s.os⟩) ho fun h2 he2 sb => ?_⟩
    have hT2 : h2.get? s.heap.objs.size = some ⟨.type "tuple", none, .seq #[.int i tk, u2] 0, #[]⟩ := (sb.2 _ (Nat.ne_of_gt el)).trans hT
    have J : Inv X pins σ (upd H s.heap.objs.size (.tup [.int (i : Nat), x])) ⟨h2, s.gens, s.drawn, tk + 1, s.os⟩ :=
      I.turnedNew (ch := [e, it]) (fun b ob hb q => (sb.2 b (fun z => hb (by simp [z]))).trans (hk b ob (fun z => hb (by simp [z])) (fun z => hb (by simp [z])) q)) hf (Nat.le_refl _) ⟨by show 2 ≤ sizeLine; decide, [.int i tk, u2], .cons ⟨_, rfl⟩ (.cons ru .nil), ⟨_, hT2, rfl, _, rfl⟩⟩
    refine ⟨.ref s.heap.objs.size, _, J, rfl, ⟨_, x, rfl, I.hok.fresh (Nat.le_refl _), rfl, fun ys hy => by rw [I.tuple_inj hy hq]; exact hx⟩, ⟨⟨u2, ?_⟩, st'.1.at fun o q => (sb.2 it (Ne.symm hne)).trans q, hne, na, nae⟩, fun b hb => ?_⟩
    · have e1 : ((i + 1 : Nat) : Int) = (i : Int) + 1 := Int.natCast_succ i
      rw [e1]; exact he2
    · have lt : b < s.heap.objs.size := by
        rcases List.mem_cons.mp hb with z | z
        · rw [z]; exact el
        · rw [List.mem_singleton.mp z]; exact il
      rw [upd_ne (Nat.ne_of_lt lt)]; exact (hf b hb).1
  · intro X hP hw hK hc i pins s σ H E I hf st hg
    subst hP hw hK
    obtain ⟨⟨old, he⟩, hit, hne, na, nae⟩ := st
    obtain ⟨xs, hq, hx⟩ := hg
    obtain ⟨its, rv, pl, _⟩ := I.tuple hq
    obtain ⟨f0, f1, f2, f3, f4, f5⟩ := hf it (.tail _ (.head _))
    have ln := rv.length
    have D : Draws X.prog X.w X.A.in1 it [it, a] i (fun _ _ => True) (fun j h => j = i ∧ h.IsTupleIter it a i ∧ h.IsTuple a its.toArray) :=
      ⟨fun j h st => let ⟨o, ho, _⟩ := st.2.1; ⟨o, ho⟩, fun j h h' st k => ⟨st.1, st.2.1.at fun o q => k it (.head _) o q, st.2.2.at fun o q => k a (.tail _ (.head _)) o q⟩, fun j s Q E lt st _ => absurd st.1 (Nat.ne_of_lt lt),
        fun s Q E st hE => wpAny_nextOf_tuple_end (show X.A.in1.handled = none from I.ok.hd hc) st.2.1 st.2.2 (by simp; omega) hE⟩
    exact wpAny_pyNext_enum_endD D he ⟨rfl, hit, pl⟩ fun h' eb => ⟨rfl, I.turned (t' := s.toks) (fun b o hb q => eb b o hb q) f0 f1 f3 f4 f5⟩
def iEnT (K : Frag) (ta : TA) : TI := fun σ H R => ta σ H fun vs H1 => ∃ a xs, vs = [.ref a] ∧ SqT K H1 a xs ∧ R (ItE K a) H1
theorem pi_enumT {X : Cx} {e : Expr} {ta : TA} {p pos tpos : Pos} {elts : List Expr} {kk : Nat} (hg : Gl X "enumerate") (hm : X.mg "enumerate" = none) (ha : PA X [e] ta) (hs : starEach [e] X.env = [(false, eval e X.env)] := by rfl) : PI X (.Tuple elts kk tpos) (.Call (.Name "enumerate" p) [e] [] pos) (iEnT X.K ta) := by
  refine ⟨fun pp t0 τ G R I w => ?_⟩
  refine Call_ (ld_blt I hg hm boot_enumerate (PyProof.Rows.callWith_type1 (thn (ha.run pos pp t0 τ G _ I w) fun us t ⟨vs, H1, J, r1, q1⟩ => ?_) hs rfl))
  obtain ⟨a, xs, ex, hq, q⟩ := q1
  subst ex
  cases r1 with
  | cons r z0 =>
  cases z0; cases r
  obtain ⟨its, rv, pl, _⟩ := J.tuple hq
  have la : a < t.heap.objs.size := let ⟨_, z, _⟩ := pl; Heap.lt_size z
  refine PySem.HXe.enumerates (begins_tuple a its.toArray) pl fun h' he hi hk => wpAny_pyIter_enum he ?_
  have J2 : Inv X pp τ H1 ⟨h', t.gens, t.drawn, t.toks, t.os⟩ := J.kept (t' := t.toks) hk
  refine ⟨t.heap.objs.size + 1, [t.heap.objs.size + 1, t.heap.objs.size], _, _, H1, rfl, J2, turn_enT a _ t.heap.objs.size, ⟨⟨.none, he⟩, ⟨_, hi, rfl, rfl⟩, Nat.succ_ne_self _, Nat.ne_of_lt la, Nat.ne_of_lt (Nat.lt_succ_of_lt la)⟩, fun b hb => ?_, q⟩
  have le : t.heap.objs.size ≤ b := by
    rcases List.mem_cons.mp hb with z | z
    · rw [z]; exact Nat.le_succ _
    · rw [List.mem_singleton.mp z]; exact Nat.le_refl _
  exact J.fpOk le (J.hok.fresh le)
end HX
set_option Elab.async false
set_option linter.all false
set_option maxRecDepth 100000
set_option maxHeartbeats 4400000
namespace PySem.HXm
open PySem PyProof.Rows AutoSeq1
/-- a tuple once: itself -/
theorem tup_once (l : Addr) (items : Array Value) (n : Nat) (dd : Option Addr) (sl : Array (Option Value)) (u : Tok) :
    Meets (Builtin.«tuple.__mul__» ⟨[.ref l, .int 1 u], []⟩) (fun _ R s => s.heap.get? l = some ⟨.type "tuple", dd, .seq items n, sl⟩ ∧ R (.ok (.ret (.ref l))) s) :=
  Meets.of_wp fun prog w A R s ⟨hl, h⟩ => by
    obtain ⟨hp, g, d, tk, os⟩ := s
    have f1 := AutoSeq1.idx_int
    wp_walk using wpAny_loadPart' hl
    exact ⟨_, rfl, h⟩
/-- a tuple no time: a new one without items -/
theorem tup_never (l : Addr) (items : Array Value) (n : Nat) (dd : Option Addr) (sl : Array (Option Value)) (u : Tok) (hi : items.isEmpty = false) :
    Meets (Builtin.«tuple.__mul__» ⟨[.ref l, .int 0 u], []⟩) (fun _ R s => s.heap.get? l = some ⟨.type "tuple", dd, .seq items n, sl⟩ ∧ R (.ok (.ret (.ref s.heap.objs.size))) ⟨s.heap.push ⟨.type "tuple", none, .seq #[] 0, #[]⟩, s.gens, s.drawn, s.toks, s.os⟩) :=
  Meets.of_wp fun prog w A R s ⟨hl, h⟩ => by
    obtain ⟨hp, g, d, tk, os⟩ := s
    have f1 := AutoSeq1.idx_int
    wp_walk using wpAny_loadPart' hl
    exact ⟨_, rfl, h⟩
theorem tup_bool (l : Addr) (items : Array Value) (hf : (items.size : Int) < 2 ^ 63) : Meets (Builtin.«bool.__new__» ⟨[.type "bool", .ref l], []⟩) (fun _ R s => IsTup s.heap l items ∧ R (.ok (.ret (.bool (!items.isEmpty)))) { s with toks := s.toks + 1 + 1 }) :=
  Meets.of_wp fun prog w A R s ⟨hl, hs⟩ => by
    obtain ⟨hp, g, d, tk, os⟩ := s
    have f1 := F.conv_sub_bool
    repeat (any_goals (first | assumption | (with_reducible refine PyProof.Rows.truthy_tuple hl hf ?_) | wp_step))
    all_goals first | exact ⟨_, rfl, hs⟩ | exact hs | skip
end PySem.HXm
namespace HX
open L2 PyProof.Rows PySem.Spec PySem
open PySem.W (Frag)
/-- t * 1 is t itself, t * 0 a tuple of nothing -/
def rRep01 (K : Frag) : R2 := fun x y H Q => ∃ (l : Addr) (b : Bool) (xs : List V), x = .ref l ∧ y = .int (if b = true then 1 else 0) ∧ SqT K H l xs ∧ xs ≠ [] ∧ (b = true → Q (.ref l) H) ∧ (b = false → ∀ p, H p = none → Q (.ref p) (upd H p (.tup [])))
theorem op_rep01 {X : Cx} : OpR X (binaryOp .Mult) (rRep01 X.K) := fun pp t τ G x y u v R J rx ry h => by
  obtain ⟨l, b, xs, e1, e2, hT, hne, q1, q0⟩ := h
  subst e1; subst e2
  cases rx
  obtain ⟨tk, e3⟩ := ry
  subst e3
  obtain ⟨its, r, ⟨⟨cls, dd, dt, sl⟩, ho, hc, n, hd⟩, hs⟩ := J.tuple hT
  have e4 : cls = .type "tuple" := hc
  have e5 : dt = .seq its.toArray n := hd
  subst e4; subst e5
  have ne : its.toArray.isEmpty = false := by
    cases its with
    | nil => cases r; exact absurd rfl hne
    | cons a c => rfl
  cases b with
  | true =>
    exact wpAny_binaryOp_repeat_ref (T := "tuple") (U := "int") (by decide) ⟨_, ho, rfl⟩ (fun s' => typeIs_int s' 1 tk) noFill_tuple_mul F.fills_int_mul F.slot_int_rmul repeat_tuple F.slot_int_index.lookup
      (call_meets F.slot_int_rmul (typeIs_int t 1 tk) F.entry_int_rmul (F.args_int_rmul_2 _ _) (int_rmul_tuple 1 tk l its.toArray n dd sl)
        ⟨ho, rfl, ⟨_, ho, rfl⟩, call_meets F.slot_tuple_mul ⟨_, ho, rfl⟩ F.entry_tuple_mul (F.args_tuple_mul_2 _ _) (PySem.HXm.tup_once l its.toArray n dd sl tk) ⟨ho, .ref l, G, J, rfl, q1 rfl⟩⟩)
  | false =>
    have na : G t.heap.objs.size = none := J.hok.fresh (Nat.le_refl _)
    have J2 := J.laid (t' := t.toks) (a := t.heap.objs.size) (o := .tup []) (h' := t.heap.push ⟨.type "tuple", none, .seq #[] 0, #[]⟩) (fun c o y => Heap.get?_push_of_some _ y) (Nat.le_refl _) ⟨Nat.zero_le _, [], .nil, ⟨_, Heap.get?_push_size _ rfl, rfl, 0, rfl⟩⟩
    exact wpAny_binaryOp_repeat_ref (T := "tuple") (U := "int") (by decide) ⟨_, ho, rfl⟩ (fun s' => typeIs_int s' 0 tk) noFill_tuple_mul F.fills_int_mul F.slot_int_rmul repeat_tuple F.slot_int_index.lookup
      (call_meets F.slot_int_rmul (typeIs_int t 0 tk) F.entry_int_rmul (F.args_int_rmul_2 _ _) (int_rmul_tuple 0 tk l its.toArray n dd sl)
        ⟨ho, rfl, ⟨_, ho, rfl⟩, call_meets F.slot_tuple_mul ⟨_, ho, rfl⟩ F.entry_tuple_mul (F.args_tuple_mul_2 _ _) (PySem.HXm.tup_never l its.toArray n dd sl tk ne) ⟨ho, .ref t.heap.objs.size, _, J2, rfl, q0 rfl _ na⟩⟩)
/-- bool(a tuple) -/
theorem call_boolT {X : Cx} : CallR X (.type "bool") (fun xs H Q => ∃ (a : Addr) (zs : List V), xs = [.ref a] ∧ SqT X.K H a zs ∧ Q (.bl (!zs.isEmpty)) H) := fun pp t τ G xs us R J r h => by
  obtain ⟨a, zs, e0, hs, q⟩ := h
  subst e0
  obtain rfl := Vals.ref1 r
  obtain ⟨its, rv, pl, hz⟩ := J.tuple hs
  have ln := rv.length; have l63 := line63
  refine call_bool_1 (PySem.HXm.tup_bool a its.toArray (by rw [List.size_toArray]; omega)) ⟨pl, rfl, ⟨.bl (!zs.isEmpty), G, J.tok _, ?_, q⟩⟩
  rw [isEmpty_of rv]; rfl
end HX
set_option Elab.async false
set_option linter.all false
set_option maxRecDepth 100000
set_option maxHeartbeats 4400000
namespace HX
open L2 PyProof.Rows PySem.Spec PySem
open PySem.W (Frag)
/-! ### data of tuples, texts and ints: nothing of it is ever changed -/
inductive Tz (H : Hp) : V → PyData → Prop
  | non : Tz H .non .none
  | int (i : Int) : Tz H (.int i) (.int i)
  | str (x : Str) : Tz H (.str x) (.str x)
  | tup {a : Addr} {xs : List V} {ds : List PyData} : H a = some (.tup xs) → xs.length = ds.length → (∀ (i : Nat) (v : V) (d : PyData), xs[i]? = some v → ds[i]? = some d → Tz H v d) → Tz H (.ref a) (.tuple ds)
/-- tuples stay -/
def TupK (H H' : Hp) : Prop := ∀ a xs, H a = some (.tup xs) → H' a = some (.tup xs)
theorem Tz.te {H H' : Hp} {v : V} {d : PyData} (h : Tz H v d) (e : TupK H H') : Tz H' v d := by
  induction h with
  | non => exact .non
  | int i => exact .int i
  | str x => exact .str x
  | tup h hl _ ih => exact .tup (e _ _ h) hl ih
theorem Ex.te {H H' : Hp} (e : Ex H H') : TupK H H' := fun a xs h => e _ _ h
theorem XB.te {p : Addr} {H H' : Hp} {zs : List V} (e : XB p H H') (hp : H p = some (.lst zs)) : TupK H H' := fun a xs h => e _ _ (ne_of h hp (by intro y; cases y)) h
theorem te_lst {H : Hp} {p : Addr} {zs : List V} {o : HO} (hp : H p = some (.lst zs)) : TupK H (upd H p o) := fun a xs h => by
  rw [upd_ne (ne_of h hp (by intro y; cases y))]; exact h
theorem te_dK {H : Hp} {p : Addr} {zs : List (Key × V)} {o : HO} (hp : H p = some (.dK zs)) : TupK H (upd H p o) := fun a xs h => by
  rw [upd_ne (ne_of h hp (by intro y; cases y))]; exact h
theorem te_ins {H : Hp} {p C dx : Addr} {fs : List (Str × V)} {o : HO} (hp : H p = some (.ins C dx fs)) : TupK H (upd H p o) := fun a xs h => by
  rw [upd_ne (ne_of h hp (by intro y; cases y))]; exact h
theorem TupK.tr {H H1 H2 : Hp} (a : TupK H H1) (b : TupK H1 H2) : TupK H H2 := fun c o h => b _ _ (a _ _ h)
theorem Tz.ex {H H' : Hp} {v : V} {d : PyData} (h : Tz H v d) (e : Ex H H') : Tz H' v d := h.te (Ex.te e)
theorem Tz.dz {p : Addr} {H : Hp} {v : V} {d : PyData} (h : Tz H v d) : Dz p H v d := by
  induction h with
  | non => exact .non
  | int i => exact .int i
  | str x => exact .str x
  | tup h hl _ ih => exact .tup h hl ih
theorem Tz.intI {H : Hp} {v : V} {i : Int} (h : Tz H v (.int i)) : v = .int i := by cases h; rfl
theorem Tz.strI {H : Hp} {v : V} {x : Str} (h : Tz H v (.str x)) : v = .str x := by cases h; rfl
/-- items one by one -/
def TzL (H : Hp) (xs : List V) (ds : List PyData) : Prop := xs.length = ds.length ∧ ∀ (i : Nat) (v : V) (d : PyData), xs[i]? = some v → ds[i]? = some d → Tz H v d
theorem Tz.tupI {H : Hp} {v : V} {ds : List PyData} (h : Tz H v (.tuple ds)) : ∃ a xs, v = .ref a ∧ H a = some (.tup xs) ∧ TzL H xs ds := by
  cases h with
  | tup h hl hi => exact ⟨_, _, rfl, h, hl, hi⟩
theorem TzL.tup {H : Hp} {a : Addr} {xs : List V} {ds : List PyData} (h : TzL H xs ds) (ha : H a = some (.tup xs)) : Tz H (.ref a) (.tuple ds) := .tup ha h.1 h.2
theorem TzL.te {H H' : Hp} {xs : List V} {ds : List PyData} (h : TzL H xs ds) (e : TupK H H') : TzL H' xs ds := ⟨h.1, fun i v d a b => (h.2 i v d a b).te e⟩
theorem TzL.ex {H H' : Hp} {xs : List V} {ds : List PyData} (h : TzL H xs ds) (e : Ex H H') : TzL H' xs ds := h.te (Ex.te e)
theorem TzL.nil {H : Hp} : TzL H [] [] := ⟨rfl, fun i v d a => by simp at a⟩
theorem TzL.app {H : Hp} {xs ys : List V} {ds es : List PyData} (h : TzL H xs ds) (k : TzL H ys es) : TzL H (xs ++ ys) (ds ++ es) := by
  refine ⟨by rw [List.length_append, List.length_append, h.1, k.1], fun i v d a b => ?_⟩
  by_cases hi : i < xs.length
  · rw [List.getElem?_append_left hi] at a
    rw [List.getElem?_append_left (by rw [← h.1]; exact hi)] at b
    exact h.2 i v d a b
  · rw [List.getElem?_append_right (by omega)] at a
    rw [List.getElem?_append_right (by rw [← h.1]; omega), ← h.1] at b
    exact k.2 _ v d a b
theorem TzL.one {H : Hp} {v : V} {d : PyData} (h : Tz H v d) : TzL H [v] [d] := ⟨rfl, fun i v' d' a b => by
  match i, a, b with
  | 0, a, b => cases a; cases b; exact h
  | i + 1, a, b => simp at a⟩
theorem TzL.cons {H : Hp} {v : V} {d : PyData} {xs : List V} {ds : List PyData} (h : Tz H v d) (k : TzL H xs ds) : TzL H (v :: xs) (d :: ds) := (TzL.one h).app k
theorem TzL.snoc {H : Hp} {v : V} {d : PyData} {xs : List V} {ds : List PyData} (k : TzL H xs ds) (h : Tz H v d) : TzL H (xs ++ [v]) (ds ++ [d]) := k.app (TzL.one h)
theorem TzL.get {H : Hp} {xs : List V} {ds : List PyData} (h : TzL H xs ds) {i : Nat} {d : PyData} (e : ds[i]? = some d) : ∃ v, xs[i]? = some v ∧ Tz H v d := by
  have lt := (List.getElem?_eq_some_iff.mp e).1
  have lx : i < xs.length := by rw [h.1]; exact lt
  have e2 : xs[i]? = some xs[i] := List.getElem?_eq_getElem lx
  exact ⟨_, e2, h.2 i _ d e2 e⟩
theorem TzL.gotV {H : Hp} {xs : List V} {ds : List PyData} (h : TzL H xs ds) {i : Nat} {v : V} (e : xs[i]? = some v) : ∃ d, ds[i]? = some d ∧ Tz H v d := by
  have lt := (List.getElem?_eq_some_iff.mp e).1
  have lx : i < ds.length := by rw [← h.1]; exact lt
  have e2 : ds[i]? = some ds[i] := List.getElem?_eq_getElem lx
  exact ⟨_, e2, h.2 i v _ e e2⟩
theorem TzL.consI {H : Hp} {d : PyData} {xs : List V} {ds : List PyData} (h : TzL H xs (d :: ds)) : ∃ v ys, xs = v :: ys ∧ Tz H v d ∧ TzL H ys ds := by
  match xs, h with
  | [], h => have := h.1; simp at this
  | v :: ys, h => exact ⟨v, ys, rfl, h.2 0 v d rfl rfl, by have := h.1; simpa using this, fun i v' d' a b => h.2 (i + 1) v' d' (by simpa using a) (by simpa using b)⟩
theorem TzL.nilI {H : Hp} {xs : List V} (h : TzL H xs []) : xs = [] := by
  have := h.1
  exact List.eq_nil_of_length_eq_zero (by simpa using this)
theorem TzL.strs {H : Hp} {ss : List Str} : ∀ {xs : List V}, TzL H xs (ss.map PyData.str) → xs = ss.map V.str := by
  induction ss with
  | nil => intro xs h; exact h.nilI
  | cons s r ih =>
    intro xs h
    obtain ⟨v, ys, rfl, hv, hy⟩ := TzL.consI (ds := r.map PyData.str) h
    rw [hv.strI, ih hy]; rfl
theorem TzL.ints {H : Hp} {ns : List Int} : ∀ {xs : List V}, TzL H xs (ns.map PyData.int) → xs = ns.map V.int := by
  induction ns with
  | nil => intro xs h; exact h.nilI
  | cons s r ih =>
    intro xs h
    obtain ⟨v, ys, rfl, hv, hy⟩ := TzL.consI (ds := r.map PyData.int) h
    rw [hv.intI, ih hy]; rfl
theorem tzL_strs {H : Hp} (ss : List Str) : TzL H (ss.map V.str) (ss.map PyData.str) := by
  induction ss with
  | nil => exact TzL.nil
  | cons s r ih => exact TzL.cons (.str s) ih
theorem tzL_ints {H : Hp} (ns : List Int) : TzL H (ns.map V.int) (ns.map PyData.int) := by
  induction ns with
  | nil => exact TzL.nil
  | cons s r ih => exact TzL.cons (.int s) ih
theorem Tz.tup2 {H : Hp} {v : V} {d e : PyData} (h : Tz H v (.tuple [d, e])) : ∃ a x y, v = .ref a ∧ H a = some (.tup [x, y]) ∧ Tz H x d ∧ Tz H y e := by
  obtain ⟨a, xs, rfl, ha, hl⟩ := h.tupI
  obtain ⟨x, r, rfl, hx, hr⟩ := TzL.consI hl
  obtain ⟨y, r2, rfl, hy, hr2⟩ := TzL.consI hr
  rw [hr2.nilI] at ha
  exact ⟨a, x, y, rfl, ha, hx, hy⟩
theorem Tz.tup3 {H : Hp} {v : V} {d e f : PyData} (h : Tz H v (.tuple [d, e, f])) : ∃ a x y z, v = .ref a ∧ H a = some (.tup [x, y, z]) ∧ Tz H x d ∧ Tz H y e ∧ Tz H z f := by
  obtain ⟨a, xs, rfl, ha, hl⟩ := h.tupI
  obtain ⟨x, r, rfl, hx, hr⟩ := TzL.consI hl
  obtain ⟨y, r2, rfl, hy, hr2⟩ := TzL.consI hr
  obtain ⟨z, r3, rfl, hz, hr3⟩ := TzL.consI hr2
  rw [hr3.nilI] at ha
  exact ⟨a, x, y, z, rfl, ha, hx, hy, hz⟩
/-! ### comprehensions without conditions -/
theorem ex_mu {H H' : Hp} {p : Addr} {o : HO} (e : Ex H H') (h : H p = none) : Ex H (upd H' p o) := fun a u ha => by rw [upd_ne (ne_of_none ha h)]; exact e a u ha
/-- what a comprehension over J is to be shown to do -/
def LcGoal (J : It) (g : TG) (te : L2.TE) (vs : List Nat) (σ : L2.St) (H1 : Hp) (D : Addr) (Qd : Hp → Prop) : Prop :=
  ∃ W : Nat → Nat → Hp → Prop, (∃ m, W 0 m (upd H1 D (.lst []))) ∧ ∀ i m H, W i m H →
      (J.stop i H ∧ Qd H) ∨ (J.go i H ∧ ∃ Nx : Hp → Prop, (∀ H', Nx H' → ∃ m', m' < m ∧ W (i + 1) m' H') ∧ ∀ x H', J.yld i H x H' → g x (wipe σ vs) H' fun σ2 H2 => wipe σ2 vs = wipe σ vs ∧ tYes σ2 H2 fun b H3 =>
        if b = true then te σ2 H3 fun y H4 => ∃ acc, H4 D = some (.lst acc) ∧ acc.length < sizeLine ∧ Nx (upd H4 D (.lst (acc ++ [y]))) else Nx H3)
section
variable {J : It} {n : Nat} {G : Hp → Prop} {Y : Nat → Hp → V → Hp → Prop} {g : TG} {te : L2.TE} {vs : List Nat} {σ : L2.St} {H1 : Hp} {D : Addr} {Qd : Hp → Prop}
/-- each turn makes data that f tells, and new things beside -/
theorem lc_tz (w : Walk J n G Y) (f : Nat → PyData) (hn : n < 1000) (nD : H1 D = none) (hG : ∀ H, Ex H1 H → G H)
    (hs : ∀ (i : Nat) (x : V) (H H' : Hp) (Kq : V → Hp → Prop), i < n → Ex H1 H → Y i H x H' → (∀ y H4, Ex H H4 → Tz H4 y (f i) → Kq y H4) → g x (wipe σ vs) H' fun σ2 H2 => wipe σ2 vs = wipe σ vs ∧ te σ2 H2 Kq)
    (hd : ∀ H xs, Ex H1 H → H D = some (.lst xs) → TzL H xs ((List.range n).map f) → Qd H) : LcGoal J g te vs σ H1 D Qd := by
  refine lc_it (tt := tYes) w (fun i H => Ex H1 H ∧ ∃ xs, H D = some (.lst xs) ∧ TzL H xs ((List.range i).map f)) ⟨Ex.nw nD, [], upd_same, TzL.nil⟩ (fun i H _ p => hG H p.1) (fun i x H H' hi p y => ?_) (fun H ⟨e, xs, hD, hx⟩ => hd H xs e hD hx)
  obtain ⟨e, xs, hD, hx⟩ := p
  refine hs i x H H' _ hi e y fun y H4 e4 hy => ?_
  have hD4 := e4 _ _ hD
  refine ⟨xs, hD4, ?_, ex_mu (e.tr e4) nD, xs ++ [y], upd_same, ?_⟩
  · have l := hx.1
    rw [l, List.length_map, List.length_range]
    exact Nat.lt_of_lt_of_le hi (Nat.le_trans (Nat.le_of_lt hn) (by decide))
  · rw [List.range_succ, List.map_append]
    exact ((hx.ex e4).snoc hy).te (te_lst hD4)
/-- each turn says yes -/
theorem lc_yes (w : Walk J n G Y) (hn : n < 1000) (nD : H1 D = none) (hG : ∀ H, Ex H1 H → G H)
    (hs : ∀ (i : Nat) (x : V) (H H' : Hp) (Kq : V → Hp → Prop), i < n → Ex H1 H → Y i H x H' → (∀ H4, Ex H H4 → Kq (.bl true) H4) → g x (wipe σ vs) H' fun σ2 H2 => wipe σ2 vs = wipe σ vs ∧ te σ2 H2 Kq)
    (hd : ∀ H, Ex H1 H → H D = some (.lst ((List.replicate n true).map V.bl)) → Qd H) : LcGoal J g te vs σ H1 D Qd := by
  refine lc_it (tt := tYes) w (fun i H => Ex H1 H ∧ H D = some (.lst (List.replicate i (.bl true)))) ⟨Ex.nw nD, upd_same⟩ (fun i H _ p => hG H p.1) (fun i x H H' hi p y => ?_) (fun H ⟨e, hD⟩ => hd H e (by rw [hD, rep_bl]))
  obtain ⟨e, hD⟩ := p
  refine hs i x H H' _ hi e y fun H4 e4 => ⟨_, e4 _ _ hD, ?_, ex_mu (e.tr e4) nD, ?_⟩
  · rw [List.length_replicate]
    exact Nat.lt_of_lt_of_le hi (Nat.le_trans (Nat.le_of_lt hn) (by decide))
  · rw [rep_snoc]; exact upd_same
/-- each turn draws: what is at p is changed, and Z stands at each turn -/
theorem lc_dr (w : Walk J n G Y) {p : Addr} (Z : Nat → Hp → Prop) (Gd : Nat → PyData → Prop) (hn : n < 1000) (nD : H1 D = none) (np : D ≠ p) (hp : ∀ i H, Z i H → ∃ zs, H p = some (.lst zs)) (h0 : Z 0 H1) (hZ : ∀ i H H', Z i H → Ex H H' → Z i H') (hZ2 : ∀ i H xs ys, Z i H → H D = some (.lst xs) → Z i (upd H D (.lst ys))) (hG : ∀ H, XB p H1 H → G H)
    (hs : ∀ (i : Nat) (x : V) (H H' : Hp) (Kq : V → Hp → Prop), i < n → XB p H1 H → Z i H → Y i H x H' → (∀ y H4 d, XB p H H4 → Z (i + 1) H4 → Tz H4 y d → Gd i d → Kq y H4) → g x (wipe σ vs) H' fun σ2 H2 => wipe σ2 vs = wipe σ vs ∧ te σ2 H2 Kq)
    (hd : ∀ H xs ds, XB p H1 H → Z n H → H D = some (.lst xs) → TzL H xs ds → ds.length = n → (∀ i d, ds[i]? = some d → Gd i d) → Qd H) : LcGoal J g te vs σ H1 D Qd := by
  refine lc_it (tt := tYes) w (fun i H => XB p H1 H ∧ Z i H ∧ ∃ xs ds, H D = some (.lst xs) ∧ TzL H xs ds ∧ ds.length = i ∧ ∀ j d, ds[j]? = some d → Gd j d) ⟨Ex.xb (Ex.nw nD), hZ _ _ _ h0 (Ex.nw nD), [], [], upd_same, TzL.nil, rfl, fun j d h => by simp at h⟩ (fun i H _ q => hG H q.1) (fun i x H H' hi q y => ?_) (fun H ⟨e, z, xs, ds, hD, hx, hl, hg⟩ => hd H xs ds e z hD hx hl hg)
  obtain ⟨e, z, xs, ds, hD, hx, hl, hg⟩ := q
  refine hs i x H H' _ hi e z y fun y H4 d e4 z4 hy gd => ?_
  have hD4 := e4 _ _ np hD
  obtain ⟨zs, hz⟩ := hp _ _ z
  refine ⟨xs, hD4, ?_, fun a o na ha => ?_, hZ2 _ _ _ _ z4 hD4, xs ++ [y], ds ++ [d], upd_same, ?_, ?_, fun j d' hj => ?_⟩
  · rw [hx.1, hl]
    exact Nat.lt_of_lt_of_le hi (Nat.le_trans (Nat.le_of_lt hn) (by decide))
  · rw [upd_ne (fun z => by rw [z, nD] at ha; cases ha)]
    exact e4 _ _ na (e _ _ na ha)
  · exact ((hx.te (e4.te hz)).snoc hy).te (te_lst hD4)
  · rw [List.length_append, hl]; rfl
  · by_cases h : j < ds.length
    · rw [List.getElem?_append_left h] at hj; exact hg j d' hj
    · rw [List.getElem?_append_right (by omega)] at hj
      match hk : j - ds.length, hj with
      | 0, hj =>
        cases hj
        have : j = i := by omega
        rw [this]; exact gd
      | k + 1, hj => simp at hj
end
/-! ### slices and pairs of lists and tuples alike -/
theorem sl_seq {X : Cx} : SlR X (fun x lo hi H Q => rSlL X.K x lo hi H Q ∨ rSlA X.K x lo hi H Q) := by
  intro pp t τ G x v vl vu lo hi sl Q J rx hs pl pu h
  rcases h with h | h
  · exact sl_list pp t τ G x v vl vu lo hi sl Q J rx hs pl pu h
  · exact sl_tupA pp t τ G x v vl vu lo hi sl Q J rx hs pl pu h
theorem cut_tail (xs : List V) : cutV xs (some 1) none = xs.tail := by
  cases xs with
  | nil => rfl
  | cons a r =>
    unfold cutV
    rw [show HT.sIx (a :: r).length 0 (some 1) = 1 by show min 1 (r.length + 1) = 1; omega, show HT.sIx (a :: r).length (a :: r).length none = r.length + 1 from rfl]
    show (r.take (r.length + 1 - 1)) = r
    rw [Nat.add_sub_cancel, List.take_length]
theorem walk_zipT {K : Frag} {a b : Addr} {xs ys : List V} {n : Nat} (hn : n = min xs.length ys.length) : Walk (RZ.ItzT K a b) n (fun H => SqT K H a xs ∧ SqT K H b ys) (YPair (fun i => xs[i]?) (fun i => ys[i]?)) :=
  ⟨fun i H hi q => ⟨xs, ys, xs[i]'(by omega), ys[i]'(by omega), q.1, q.2, List.getElem?_eq_getElem _, List.getElem?_eq_getElem _⟩, fun H q => ⟨xs, ys, q.1, q.2, by omega⟩,
   fun i H v H' _ q ⟨T, x, z, h1, h2, h3, h4, h5⟩ => ⟨T, x, z, h1, h2, h3, h4 xs q.1, h5 ys q.2⟩⟩
theorem walk_enT {K : Frag} {a : Addr} {xs : List V} : Walk (ItE K a) xs.length (fun H => SqT K H a xs) (YPair (fun i => some (.int (i : Nat))) (fun i => xs[i]?)) :=
  ⟨fun i H hi q => ⟨xs, xs[i], q, List.getElem?_eq_getElem _⟩, fun H q => ⟨xs, q, Nat.le_refl _⟩, fun i H v H' _ q ⟨T, x, h1, h2, h3, h4⟩ => ⟨T, .int (i : Nat), x, h1, h2, h3, rfl, h4 xs q⟩⟩
/-! ### rules with their K named, for what stands within comprehensions -/
section
variable {X : Cx} {K : Frag}
theorem call_lenK (hK : X.K = K) : CallR X (.builtin "len") (fun xs H Q => ∃ p ys, xs = [.ref p] ∧ (SqL K H p ys ∨ SqT K H p ys) ∧ Q (.int ys.length) H) := hK ▸ call_len_seq
theorem call_isiK0 (hK : X.K = K) : CallR X (.builtin "isinstance") (rIsi K) := hK ▸ call_isi
theorem op_inK (hK : X.K = K) : OpR X (compareOp .In) (rIn K false) := hK ▸ op_in_seq
theorem op_notInK (hK : X.K = K) : OpR X (compareOp .NotIn) (rIn K true) := hK ▸ op_notIn_seq
theorem op_catAK (hK : X.K = K) : OpR X (binaryOp .Add) (rCatA K) := hK ▸ op_catA
theorem call_tupleK (hK : X.K = K) : CallR X (.type "tuple") (fun xs H Q => ∃ p ys, xs = [.ref p] ∧ ((SqL K H p ys ∧ ∀ l, H l = none → Q (.ref l) (upd H l (.tup ys))) ∨ (SqT K H p ys ∧ Q (.ref p) H))) := hK ▸ call_tuple_of
end
/-! ### {name: number for number, .. in enumerate(..)} -/
section
variable {J : It} {n : Nat} {G : Hp → Prop} {Y : Nat → Hp → V → Hp → Prop} {g : TG} {tk tv : L2.TE} {vs : List Nat} {σ : L2.St} {H1 : Hp} {D : Addr} {Qd : Hp → Prop}
def DcGoal (J : It) (g : TG) (tk tv : L2.TE) (vs : List Nat) (σ : L2.St) (H1 : Hp) (D : Addr) (Qd : Hp → Prop) : Prop :=
  ∃ W : Nat → Nat → Hp → Prop, (∃ m, W 0 m (upd H1 D (.dK []))) ∧ ∀ i m H, W i m H → (J.stop i H ∧ Qd H) ∨ (J.go i H ∧ ∃ Nx : Hp → Prop, (∀ H', Nx H' → ∃ m', m' < m ∧ W (i + 1) m' H') ∧ ∀ x H', J.yld i H x H' → g x (wipe σ vs) H' fun σ2 H2 => wipe σ2 vs = wipe σ vs ∧ tYes σ2 H2 fun b H3 =>
    if b = true then tk σ2 H3 fun y H4 => tv σ2 H4 fun z H5 => ∃ kvs k, y = kV k ∧ H5 D = some (.dK kvs) ∧ kvs.length < sizeLine ∧ Nx (upd H5 D (.dK (putK kvs k z))) else Nx H3)
theorem dc_names (w : Walk J n G Y) (ss : List Str) (hn : n = ss.length) (hl : n < 1000) (nD : H1 D = none) (hG : ∀ H, Ex H1 H → G H)
    (hs : ∀ (i : Nat) (x : V) (H H' : Hp) (Kq : V → V → Hp → Prop), i < n → Ex H1 H → Y i H x H' → (∀ H4 (s : Str) z, Ex H H4 → ss[i]? = some s → z ≠ .non → Kq (.str s) z H4) → g x (wipe σ vs) H' fun σ2 H2 => wipe σ2 vs = wipe σ vs ∧ tk σ2 H2 fun y H4 => tv σ2 H4 fun z H5 => Kq y z H5)
    (hd : ∀ H kvs, Ex H1 H → H D = some (.dK kvs) → (∀ k : Str, decide ((valV kvs (Sum.inr k : Key)).getD .non = .non) = decide (k ∉ ss)) → Qd H) : DcGoal J g tk tv vs σ H1 D Qd := by
  refine ⟨fun i m H => m = n - i ∧ i ≤ n ∧ Ex H1 H ∧ ∃ kvs, H D = some (.dK kvs) ∧ kvs.length ≤ i ∧ ∀ k : Str, ((valV kvs (Sum.inr k : Key)).getD .non = .non) ↔ k ∉ ss.take i, ⟨n, rfl, Nat.zero_le _, Ex.nw nD, [], upd_same, Nat.zero_le _, fun k => by simp [valV]⟩, ?_⟩
  rintro i m H ⟨rfl, hi, e, kvs, hD, hk, hv⟩
  by_cases lt : i < n
  · refine .inr ⟨w.goes i H lt (hG H e), fun H' => Ex H1 H' ∧ ∃ kvs, H' D = some (.dK kvs) ∧ kvs.length ≤ i + 1 ∧ ∀ k : Str, ((valV kvs (Sum.inr k : Key)).getD .non = .non) ↔ k ∉ ss.take (i + 1), fun H' q => ⟨n - (i + 1), by omega, rfl, lt, q⟩, fun x H' y => ?_⟩
    refine hs i x H H' _ lt e (w.yields i H x H' lt (hG H e) y) fun H4 s z e4 hss hz => ?_
    have hD4 := e4 _ _ hD
    refine ⟨kvs, Sum.inr s, rfl, hD4, Nat.lt_of_le_of_lt hk (Nat.lt_of_lt_of_le lt (Nat.le_trans (Nat.le_of_lt hl) (by decide))), ex_mu (e.tr e4) nD, _, upd_same, Nat.le_trans (length_putK _ _ _) (Nat.succ_le_succ hk), fun k => ?_⟩
    rw [valV_put, List.take_add_one, hss]
    by_cases h : k = s
    · subst h; simp [hz]
    · have h2 : ¬ (Sum.inr k : Key) = Sum.inr s := fun z => h (Sum.inr.inj z)
      rw [if_neg h2, hv k]
      simp [h]
  · have en : i = n := by omega
    refine .inl ⟨?_, hd H kvs e hD fun k => ?_⟩
    · rw [en]; exact w.stops H (hG H e)
    · have q := hv k
      rw [en, hn, List.take_length] at q
      exact decide_eq_decide.mpr q
end
/-! ### two-fold comprehensions -/
def Lc2Goal (J : It) (g : TG) (wi1 : TI) (g1 : TG) (te : L2.TE) (vs vs1 : List Nat) (σ : L2.St) (H1 : Hp) (D : Addr) (Qd : Hp → Prop) : Prop :=
  ∃ W : Nat → Nat → Hp → Prop, (∃ m, W 0 m (upd H1 D (.lst []))) ∧ ∀ i m H, W i m H →
    (J.stop i H ∧ Qd H) ∨ (J.go i H ∧ ∃ Nx : Hp → Prop, (∀ H', Nx H' → ∃ m', m' < m ∧ W (i + 1) m' H') ∧ ∀ x H', J.yld i H x H' → g x (wipe σ vs) H' fun σ2 H2 => wipe σ2 vs = wipe σ vs ∧ tYes σ2 H2 fun b H3 =>
      if b = true then wi1 σ2 H3 fun J1 H4 => ∃ W1 : Nat → Nat → Hp → Prop, (∃ m, W1 0 m H4) ∧ ∀ j k H, W1 j k H →
        (J1.stop j H ∧ Nx H) ∨ (J1.go j H ∧ ∃ Nx1 : Hp → Prop, (∀ H', Nx1 H' → ∃ k', k' < k ∧ W1 (j + 1) k' H') ∧ ∀ x H', J1.yld j H x H' → g1 x (wipe σ2 vs1) H' fun σ3 H5 => wipe σ3 vs1 = wipe σ2 vs1 ∧ tYes σ3 H5 fun b H6 =>
          if b = true then te σ3 H6 fun y H7 => ∃ acc, H7 D = some (.lst acc) ∧ acc.length < sizeLine ∧ Nx1 (upd H7 D (.lst (acc ++ [y]))) else Nx1 H6)
      else Nx H3)
theorem lc2_tz {K : Frag} {J : It} {n : Nat} {G : Hp → Prop} {xs : List V} {a b : Nat} {wi1 : TI} {te : L2.TE} {vs vs1 : List Nat} {σ : L2.St} {H1 : Hp} {D : Addr} {Qd : Hp → Prop} (w : Walk J n G (YAt xs)) (gs : Nat → List PyData) (f : Nat → PyData → PyData) (M : Nat) (hM : ∀ i, i < n → (gs i).length ≤ M) (hn : n * M < 1000) (nD : H1 D = none) (hG : ∀ H, Ex H1 H → G H)
    (hwa : ∀ x : V, wipe ((wipe σ vs).set a (some x)) vs = wipe σ vs) (hwb : ∀ x y : V, wipe ((wipe ((wipe σ vs).set a (some x)) vs1).set b (some y)) vs1 = wipe ((wipe σ vs).set a (some x)) vs1)
    (hw : ∀ (i : Nat) (x : V) (H : Hp) (R : It → Hp → Prop), i < n → xs[i]? = some x → Ex H1 H → (∃ o, H D = some o) → (∀ (lb : Addr) (ys : List V) (H4 : Hp), Ex H H4 → H4 lb = some (.lst ys) → lb ≠ D → TzL H4 ys (gs i) → R (Itl K lb) H4) → wi1 ((wipe σ vs).set a (some x)) H R)
    (hs : ∀ (i : Nat) (x y : V) (d : PyData) (H : Hp) (Kq : V → Hp → Prop), i < n → xs[i]? = some x → Ex H1 H → d ∈ gs i → Tz H y d → (∀ v H4, Ex H H4 → Tz H4 v (f i d) → Kq v H4) → te ((wipe ((wipe σ vs).set a (some x)) vs1).set b (some y)) H Kq)
    (hd : ∀ H ys, Ex H1 H → H D = some (.lst ys) → TzL H ys ((List.range n).flatMap fun i => (gs i).map (f i)) → Qd H) : Lc2Goal J (gName a) wi1 (gName b) te vs vs1 σ H1 D Qd := by
  refine ⟨fun i m H => m = n - i ∧ i ≤ n ∧ Ex H1 H ∧ ∃ acc, H D = some (.lst acc) ∧ acc.length ≤ i * M ∧ TzL H acc ((List.range i).flatMap fun i => (gs i).map (f i)), ⟨n, rfl, Nat.zero_le _, Ex.nw nD, [], upd_same, Nat.zero_le _, TzL.nil⟩, ?_⟩
  rintro i m H ⟨rfl, hi, e, acc, hD, hl, hx⟩
  by_cases lt : i < n
  · refine .inr ⟨w.goes i H lt (hG H e), fun H' => Ex H1 H' ∧ ∃ acc, H' D = some (.lst acc) ∧ acc.length ≤ (i + 1) * M ∧ TzL H' acc ((List.range (i + 1)).flatMap fun i => (gs i).map (f i)), fun H' q => ⟨n - (i + 1), by omega, rfl, lt, q⟩, fun x H' y => ?_⟩
    obtain ⟨rfl, hxi⟩ := w.yields i H x H' lt (hG H e) y
    refine ⟨hwa x, hw i x _ _ lt hxi e ⟨_, hD⟩ fun lb ys H4 e4 hlb nlb hys => ?_⟩
    have bM : i * M + M < 1000 := by
      have h1 : (i + 1) * M ≤ n * M := Nat.mul_le_mul_right M lt
      rw [Nat.succ_mul] at h1
      omega
    have hy : ys.length = (gs i).length := hys.1
    have hMi := hM i lt
    refine ⟨fun j k H5 => k = ys.length - j ∧ j ≤ ys.length ∧ Ex H1 H5 ∧ H5 lb = some (.lst ys) ∧ TzL H5 ys (gs i) ∧ ∃ ac2, H5 D = some (.lst ac2) ∧ ac2.length ≤ i * M + j ∧ TzL H5 ac2 (((List.range i).flatMap fun i => (gs i).map (f i)) ++ ((gs i).take j).map (f i)), ⟨ys.length, rfl, Nat.zero_le _, e.tr e4, hlb, hys, acc, e4 _ _ hD, by omega, by rw [List.take_zero, List.map_nil, List.append_nil]; exact hx.ex e4⟩, ?_⟩
    rintro j k H5 ⟨rfl, hj, e5, hlb5, hys5, ac2, hD5, hl2, hx2⟩
    by_cases lt2 : j < ys.length
    · refine .inr ⟨⟨ys, ys[j], SqL.of hlb5, List.getElem?_eq_getElem lt2⟩, fun H6 => Ex H1 H6 ∧ H6 lb = some (.lst ys) ∧ TzL H6 ys (gs i) ∧ ∃ ac2, H6 D = some (.lst ac2) ∧ ac2.length ≤ i * M + (j + 1) ∧ TzL H6 ac2 (((List.range i).flatMap fun i => (gs i).map (f i)) ++ ((gs i).take (j + 1)).map (f i)), fun H6 q => ⟨ys.length - (j + 1), by omega, rfl, lt2, q⟩, fun v H6 yv => ?_⟩
      obtain ⟨rfl, yv⟩ := yv
      have hv := yv ys (SqL.of hlb5)
      obtain ⟨d, hd2, tz⟩ := hys5.gotV hv
      refine ⟨hwb x v, hs i x v d _ _ lt hxi e5 (List.mem_of_getElem? hd2) tz fun y H7 e7 ty => ?_⟩
      have hD7 := e7 _ _ hD5
      refine ⟨ac2, hD7, Nat.lt_of_le_of_lt hl2 (Nat.lt_of_lt_of_le (show i * M + j < 1000 by omega) (by decide)), ex_mu (e5.tr e7) nD, by rw [upd_ne nlb]; exact e7 _ _ hlb5, (hys5.ex e7).te (te_lst hD7), ac2 ++ [y], upd_same, by rw [List.length_append]; show ac2.length + 1 ≤ _; omega, ?_⟩
      rw [List.take_add_one, hd2]
      show TzL _ _ (_ ++ List.map (f i) ((gs i).take j ++ [d]))
      rw [List.map_append, ← List.append_assoc]
      exact ((hx2.ex e7).snoc ty).te (te_lst hD7)
    · have ej : j = ys.length := by omega
      refine .inl ⟨⟨ys, SqL.of hlb5, by omega⟩, e5, ac2, hD5, by rw [Nat.succ_mul]; omega, ?_⟩
      rw [ej, hy, List.take_length] at hx2
      rw [List.range_succ, List.flatMap_append]
      simpa using hx2
  · have en : i = n := by omega
    subst en
    exact .inl ⟨w.stops H (hG H e), hd H acc e hD hx⟩
section
variable {X : Cx} {K : Frag}
theorem pi_listK {tg l : Expr} {tl : L2.TE} (hK : X.K = K) (hl : PE X l tl) : PI X tg l (iList K tl) := hK ▸ pi_list hl
theorem pi_tupK {tg l : Expr} {tl : L2.TE} (hK : X.K = K) (hl : PE X l tl) : PI X tg l (iTup K tl) := hK ▸ pi_tup hl
theorem pa_starK {e : Expr} {es : List Expr} {p : Pos} {te : L2.TE} {t : TA} (hK : X.K = K) (he : PE X e te) (hr : PA X es t) (hs : starEach (.Starred e p :: es) X.env = (true, eval e X.env) :: starEach es X.env := by rfl) : PA X (.Starred e p :: es) (StX.tStar K te t) := hK ▸ StX.pa_star he hr hs
end
end HX
set_option Elab.async false
set_option linter.all false
set_option maxRecDepth 100000
set_option maxHeartbeats 4400000
namespace HX
open L2 PyProof.Rows PySem.Spec PySem
open PySem.W (Frag)
/-! ### defs of which the last parameter has a default, in the head of facts -/
def DX.ok2 (K : Frag) (d : DX) : Bool := PySem.W.keepIn K (.ref (d.at_ K)) && (match K.lookup (d.at_ K) with
  | some ⟨_, _, .func fd, _⟩ => PySem.W.codeIn K fd.code d.qual && (match fd.defaults with
    | .ref T => (match K.lookup T with
      | some ⟨_, _, .seq its _, _⟩ => (match its.toList with
        | [.ref _] => true
        | _ => false)
      | _ => false)
    | _ => false)
  | _ => false)
theorem seq_one {K : Frag} {T : Addr} (c : (match K.lookup T with
      | some ⟨_, _, .seq its _, _⟩ => (match its.toList with
        | [.ref _] => true
        | _ => false)
      | _ => false) = true) : ∃ (o : Obj) (a : Addr) (n : Nat), K.lookup T = some o ∧ o.data = .seq [Value.ref a].toArray n := by
  cases q : K.lookup T with
  | none => rw [q] at c; cases c
  | some o =>
    obtain ⟨oc, od, dt, osl⟩ := o
    rw [q] at c
    cases dt with
    | seq its n =>
      obtain ⟨l⟩ := its
      match l, c with
      | [.ref a], _ => exact ⟨_, a, n, rfl, rfl⟩
    | _ => cases c
theorem DX.fun2 {K : Frag} {d : DX} (e : fnX K (d.at_ K) = d.val) (c : d.ok2 K = true) : ∃ fd v, FunD K d.name d.qual (defArgs d.st) (defBody d.st) (defScope d.st) [v] [] (d.at_ K) fd := by
  obtain ⟨kp, c2⟩ := Bool.and_eq_true_iff.mp c
  unfold fnX at e
  cases q : K.lookup (d.at_ K) with
  | none => rw [q] at c2; cases c2
  | some o =>
    obtain ⟨oc, od, dt, osl⟩ := o
    rw [q] at c2 e
    cases dt with
    | func fd =>
      obtain ⟨n1, n2, n3, n4, n5, n6, n7, n8, n9, n10, n11, n12, n13, n14, n15⟩ := fd
      have e2 : (some (n1, n2, n3, n4, n5, n6, n7, n15) : He.FnW) = some (d.name, d.qual, defArgs d.st, .stmts (defBody d.st), defScope d.st, mainGlobals, [], builtinsNs) := e
      simp only [Option.some.injEq, Prod.mk.injEq] at e2
      obtain ⟨h1, h2, h3, h4, h5, h6, h7, h8⟩ := e2
      subst h1 h2 h3 h4 h5 h6 h7 h8
      obtain ⟨k1, k2⟩ := Bool.and_eq_true_iff.mp c2
      dsimp only at k2
      cases n8 with
      | ref T =>
        obtain ⟨o, a, n, hT, ho⟩ := seq_one k2
        exact ⟨_, .ref a, ⟨⟨oc, od, .ref T, n9, n10, n11, n12, n13, n14, osl, rfl, q, k1, .inr ⟨by simp, T, o, [Value.ref a], n, rfl, hT, ho, .cons rfl .nil⟩, .inl rfl⟩, kp⟩⟩
      | _ => cases k2
    | _ => cases c2
section
variable {P : Program} {w : World} {K : Frag} {mg : Str → Option Value} {base : Heap} {x qual : Str} {params : Arguments} {body : List Stmt} {scope : Scope} {v : V} {f : Addr} {fd : FuncData}
theorem FunD.ok0 {N ps : List Str} {k : Nat} {sp : Sp} {kws : List (Str × V)} {dvs : List V} (F : FunD K x qual params body scope dvs kws f fd) (S : FnScope N ps scope) (len : ∀ vs H Q E, sp vs H Q E → vs.length = ps.length)
    (hbody : ∀ (cdv : Value) (A : Around) (outer : List Env) (s : Shared) (H : Hp) (vs : List V) (Q : VK) (E : XK), Room k (A.deeper (envOfC qual scope s.heap.objs.size f cdv)) → sp vs H Q E →
      ∃ t, PSs (cxOf CX0 P w K mg base N qual scope f cdv A outer s H E).nox body t ∧ t { nx := fun _ H' => Q .non H', rt := Q } (start N vs) H) : FnOk P w K mg base CX0 (k + 1) f fd ps sp := by
  obtain ⟨oc, od, dV, kV, doc, pm, an, cdv, ct, osl, rfl, lk, hcd, _, _⟩ := F.ex
  refine fn_of lk hcd S len fun A outer s H vs Q E hr hsp => ?_
  obtain ⟨t, h, q⟩ := hbody cdv A outer s H vs Q E hr hsp
  exact ⟨t, h.nox, q⟩
/-- all parameters are given by position -/
theorem FunD.bindsAll {ps : List Str} (F : FunD K x qual params body scope [v] [] f fd) (h : ∀ (T : Addr) (kV doc pm : Value) (an : Option Addr) (cdv ct : Value) (us its : List Value), us.length = ps.length → its.length = 1 →
      ∃ k, bindArgs (PySem.W.fnOf x qual params body scope (.ref T) kV doc pm an cdv ct) ⟨us, []⟩ = seqItems? (.ref T) >>= k ∧ k (some its.toArray) = pure (ps.zip (us ++ its.drop 1))) : Binds K fd ps [] := by
  obtain ⟨ds, hv, hb⟩ := F.binds1 (ps := ps) ps.length 1 (by simp) (by simp) h
  cases hv
  exact hb
end
def obsY (n : Nat) (ex : Frag → Bool) (fn fd : List DX) (g : Addr → Option Obj) : He.AlD :=
  let K := He.frG g (pathG g n [mainGlobals])
  (ex K && (fn.all (fun d => d.ok K) && fd.all fun d => d.ok2 K), (fn ++ fd).map fun d => fnX K (d.at_ K))
def valY (fn fd : List DX) : He.AlD := (true, (fn ++ fd).map DX.val)
def SaysY (ex : Frag → Bool) (fn fd : List DX) (K : Frag) : Prop := (ex K && (fn.all (fun d => d.ok K) && fd.all fun d => d.ok2 K), (fn ++ fd).map fun d => fnX K (d.at_ K)) = valY fn fd
def hookY (n : Nat) (ex : Frag → Bool) (fn fd : List DX) : PySem.W.Hook where
  α := He.AlD
  obs := fun s => obsY n ex fn fd s.heap.get?
  val := fun _ => valY fn fd
  says := fun _ h => ∃ K : Frag, K.In h ∧ SaysY ex fn fd K
  of := fun _ _ e => ⟨_, He.frG_in, e⟩
  keeps := fun _ _ _ ⟨K, a, c⟩ k => ⟨K, PySem.W.Frag.In.keeps a k, c⟩
def obTY (n : Nat) (ex : Frag → Bool) (fn fd : List DX) (s : PySem.W.SharedT) : He.AlD := obsY n ex fn fd (HandSHeadRun.getT s)
theorem obTY_eq {n : Nat} {ex : Frag → Bool} {fn fd : List DX} (s : PySem.W.SharedT) : obTY n ex fn fd s = (hookY n ex fn fd).obs s.abs := by
  have e : HandSHeadRun.getT s = s.abs.heap.get? := funext (HandSHeadRun.getT_eq s)
  unfold obTY; rw [e]; rfl
section
variable {ex : Frag → Bool} {fn fd : List DX} {K : Frag}
theorem SaysY.all (c : SaysY ex fn fd K) : ex K = true ∧ (fn.all (fun d => d.ok K) = true ∧ fd.all (fun d => d.ok2 K) = true) := by
  have h := show (ex K && (fn.all (fun d => d.ok K) && fd.all fun d => d.ok2 K)) = true from congrArg (fun z : He.AlD => z.1) c
  obtain ⟨a, b⟩ := Bool.and_eq_true_iff.mp h
  exact ⟨a, Bool.and_eq_true_iff.mp b⟩
theorem SaysY.facts (c : SaysY ex fn fd K) : ex K = true := c.all.1
theorem SaysY.at (c : SaysY ex fn fd K) {d : DX} (i : Nat) (h : (fn ++ fd)[i]? = some d) : fnX K (d.at_ K) = d.val := by
  have e : (fn ++ fd).map (fun d => fnX K (d.at_ K)) = (fn ++ fd).map DX.val := congrArg (fun z : He.AlD => z.2) c
  have e2 : ((fn ++ fd).map (fun d => fnX K (d.at_ K)))[i]? = ((fn ++ fd).map DX.val)[i]? := by rw [e]
  rw [List.getElem?_map, List.getElem?_map, h] at e2
  exact Option.some.inj e2
theorem SaysY.def_ (c : SaysY ex fn fd K) (i : Nat) {d : DX} (h : fn[i]? = some d) : ∃ fd, Fun K d.name d.qual d.st (d.at_ K) fd :=
  DX.fun_ (c.at i (by rw [List.getElem?_append_left (List.getElem?_eq_some_iff.mp h).1]; exact h)) (List.all_eq_true.mp c.all.2.1 d (List.mem_of_getElem? h))
theorem SaysY.def2 (c : SaysY ex fn fd K) (i : Nat) {d : DX} (h : fd[i]? = some d) : ∃ f v, FunD K d.name d.qual (defArgs d.st) (defBody d.st) (defScope d.st) [v] [] (d.at_ K) f :=
  DX.fun2 (c.at (fn.length + i) (by rw [List.getElem?_append_right (Nat.le_add_right _ _), Nat.add_sub_cancel_left]; exact h)) (List.all_eq_true.mp c.all.2.2 d (List.mem_of_getElem? h))
end
end HX
set_option Elab.async false
set_option linter.all false
set_option maxRecDepth 100000
set_option maxHeartbeats 4400000
namespace HX
open L2 PyProof.Rows PySem.Spec PySem
open PySem.W (Frag)
section
variable {J : It} {n : Nat} {G : Hp → Prop} {Y : Nat → Hp → V → Hp → Prop} {g : TG} {te : L2.TE} {vs : List Nat} {σ : L2.St} {H1 : Hp} {D : Addr} {Qd : Hp → Prop}
theorem rng_snoc {α : Type} (f : Nat → α) (i : Nat) : (List.range i).map f ++ [f i] = (List.range (i + 1)).map f := by rw [List.range_succ, List.map_append]; rfl
/-- each turn tells a truth -/
theorem lc_bl (w : Walk J n G Y) (f : Nat → Bool) (hn : n < 1000) (nD : H1 D = none) (hG : ∀ H, Ex H1 H → G H)
    (hs : ∀ (i : Nat) (x : V) (H H' : Hp) (Kq : V → Hp → Prop), i < n → Ex H1 H → Y i H x H' → (∀ H4, Ex H H4 → Kq (.bl (f i)) H4) → g x (wipe σ vs) H' fun σ2 H2 => wipe σ2 vs = wipe σ vs ∧ te σ2 H2 Kq)
    (hd : ∀ H, Ex H1 H → H D = some (.lst (((List.range n).map f).map V.bl)) → Qd H) : LcGoal J g te vs σ H1 D Qd := by
  refine lc_it (tt := tYes) w (fun i H => Ex H1 H ∧ H D = some (.lst (((List.range i).map f).map V.bl))) ⟨Ex.nw nD, upd_same⟩ (fun i H _ p => hG H p.1) (fun i x H H' hi p y => ?_) (fun H ⟨e, hD⟩ => hd H e hD)
  obtain ⟨e, hD⟩ := p
  refine hs i x H H' _ hi e y fun H4 e4 => ⟨_, e4 _ _ hD, ?_, ex_mu (e.tr e4) nD, ?_⟩
  · rw [List.length_map, List.length_map, List.length_range]
    exact Nat.lt_of_lt_of_le hi (Nat.le_trans (Nat.le_of_lt hn) (by decide))
  · rw [← rng_snoc, List.map_append]; exact upd_same
end
/-- all of what is told of each, told of the list -/
theorem all_rng {α : Type} (P : α → Bool) (f : Nat → Bool) (l : List α) (h : ∀ (i : Nat) (a : α), l[i]? = some a → f i = P a) : ((List.range l.length).map f).all id = l.all P := by
  have e : (List.range l.length).map f = l.map P := by
    refine List.ext_getElem? fun i => ?_
    by_cases hi : i < l.length
    · have q : l[i]? = some l[i] := List.getElem?_eq_getElem hi
      rw [List.getElem?_map, List.getElem?_map, List.getElem?_range hi, q]
      exact congrArg some (h i _ q)
    · rw [List.getElem?_eq_none (by simpa using Nat.le_of_not_lt hi), List.getElem?_eq_none (by simpa using Nat.le_of_not_lt hi)]
  rw [e, List.all_map]; rfl
/-- what isinstance says of any data: tuple, str -/
def isTupD : PyData → Bool | .tuple _ => true | _ => false
def isStrD : PyData → Bool | .str _ => true | _ => false
theorem kt_tup {K : Frag} {p : Addr} {H : Hp} {v : V} {d : PyData} (h : Dz p H v d) : ∃ t : String, TyX K H v (.type t) ∧ PySem.W.kitOne K (.type t) (.type "tuple") = some (isTupD d) := by
  cases h with
  | non => exact ⟨_, .base .non, kit_ty (r := false) (by decide +kernel)⟩
  | bl b => exact ⟨_, .base (.bl _), kit_ty (r := false) (by decide +kernel)⟩
  | int i => exact ⟨_, .base (.int _), kit_ty (r := false) (by decide +kernel)⟩
  | str x => exact ⟨_, .base (.str _), kit_ty (r := false) (by decide +kernel)⟩
  | lst h => exact ⟨_, .base (.lst h), kit_ty (r := false) (by decide +kernel)⟩
  | tup h => exact ⟨_, .base (.tup h), kit_ty (r := true) (by decide +kernel)⟩
  | dct h => exact ⟨_, .base (.dK h), kit_ty (r := false) (by decide +kernel)⟩
theorem kt_strD {K : Frag} {p : Addr} {H : Hp} {v : V} {d : PyData} (h : Dz p H v d) : ∃ t : String, TyX K H v (.type t) ∧ PySem.W.kitOne K (.type t) (.type "str") = some (isStrD d) := by
  cases h with
  | non => exact ⟨_, .base .non, kit_ty (r := false) (by decide +kernel)⟩
  | bl b => exact ⟨_, .base (.bl _), kit_ty (r := false) (by decide +kernel)⟩
  | int i => exact ⟨_, .base (.int _), kit_ty (r := false) (by decide +kernel)⟩
  | str x => exact ⟨_, .base (.str _), kit_ty (r := true) (by decide +kernel)⟩
  | lst h => exact ⟨_, .base (.lst h), kit_ty (r := false) (by decide +kernel)⟩
  | tup h => exact ⟨_, .base (.tup h), kit_ty (r := false) (by decide +kernel)⟩
  | dct h => exact ⟨_, .base (.dK h), kit_ty (r := false) (by decide +kernel)⟩
/-- the parts of a tuple of data -/
theorem Dz.tupI {p : Addr} {H : Hp} {v : V} {ds : List PyData} (h : Dz p H v (.tuple ds)) : ∃ a xs, v = .ref a ∧ H a = some (.tup xs) ∧ xs.length = ds.length ∧ ∀ (i : Nat) (x : V) (d : PyData), xs[i]? = some x → ds[i]? = some d → Dz p H x d := by
  cases h with
  | tup ht hl hi => exact ⟨_, _, rfl, ht, hl, hi⟩
theorem Dz.strI {p : Addr} {H : Hp} {v : V} {z : Str} (h : Dz p H v (.str z)) : v = .str z := by cases h; rfl
theorem Dz.intI {p : Addr} {H : Hp} {v : V} {z : Int} (h : Dz p H v (.int z)) : v = .int z := by cases h; rfl
/-- any data of a bounded weight -/
def Wt (n : Nat) (d : PyData) : Prop := d.weight ≤ n
theorem Wt.str {n : Nat} {z : Str} (h : Wt n (.str z)) : z.length ≤ n := by unfold Wt at h; simp only [PyData.weight] at h; exact h
theorem wt_all {ds : List PyData} : ds.length ≤ PyData.weightAll ds := by
  induction ds with
  | nil => exact Nat.zero_le _
  | cons d r ih => simp only [PyData.weightAll, List.length_cons]; omega
theorem wt_mem {d : PyData} : ∀ {ds : List PyData}, d ∈ ds → d.weight ≤ PyData.weightAll ds
  | x :: r, h => by
    simp only [PyData.weightAll]
    rcases List.mem_cons.mp h with rfl | h
    · omega
    · have := wt_mem h; omega
theorem Wt.len {n : Nat} {ds : List PyData} (h : Wt n (.tuple ds)) : ds.length ≤ n := by unfold Wt at h; simp only [PyData.weight] at h; exact Nat.le_trans wt_all h
theorem Wt.mem {n : Nat} {ds : List PyData} {d : PyData} (h : Wt n (.tuple ds)) (m : d ∈ ds) : Wt n d := by unfold Wt at h ⊢; simp only [PyData.weight] at h; exact Nat.le_trans (wt_mem m) h
end HX
set_option Elab.async false
set_option linter.all false
set_option maxRecDepth 100000
set_option maxHeartbeats 4400000
namespace HX
open L2 PyProof.Rows PySem.Spec PySem
open PySem.W (Frag)
/-! ### == and != of an own class that has an __eq__ and no __ne__ -/
section
variable {M : Model} {prog : Program} {w : World} {A : Around} {E : Value → Shared → Prop} {s : Shared} {K : Frag} {x C f L : Addr} {ox : Obj} {od : Option Obj} {h₀ : Heap} {m : Str → Option Value} {b tb : Value}
/-- the class's != is looked up, bound, and called: it is object's -/
theorem ifBound_objNe {args : List Value} {Q : Option Value → Shared → Prop} (X : K.In s.heap) (I : PySem.W.InstAt s.heap x ox C od) (hs : PySem.W.findIn K (.ref C) "__ne__" = some (some (.builtin "object.__ne__")))
    (h : wpAny M A (call (.builtin "object.__ne__") (.ref x :: args)) (fun v => Q (some v)) E s) : wpAny M A (callSpecialIfBound? (.ref x) "__ne__" args) Q E s := by
  have told : wpAny M A (call (.builtin "object.__ne__") ([.ref x] ++ args) >>= fun v => pure (some v)) Q E s :=
    wpAny_bind (wpAny_mono h (fun _ _ z => wpAny_pure z) fun _ _ z => z)
  unfold callSpecialIfBound? bindSpecialIfBound?
  apply wpAny_holding
  iterate 3 apply wpAny_bind
  apply I.type.here
  apply (PySem.W.looks_findIn X hs).here
  apply wpAny_bind
  apply wpAny_askSetting
  apply wpAny_ite
  split <;> first
    | exact wpAny_bind (wpAny_of_eq (F.cmp_object.ne.bind _) (wpAny_pure (by exact told)))
    | exact wpAny_tryCatch (wpAny_bind (wpAny_of_eq (F.cmp_object.ne.bind _) (wpAny_pure (by exact told))))
theorem entry_objNe {Q : Fin → Shared → Prop} (X : K.In s.heap) (I : PySem.W.InstAt s.heap x ox C od) (hs : PySem.W.findIn K (.ref C) "__eq__" = some (some (.ref f))) (hf : PySem.W.isFn K (.ref f) = true) (hu : A.units < cLine)
    (h : wpAny (model prog w) A (call (.ref f) [.ref x, b]) (fun v s' => ∃ c, v = .bool c ∧ Q (.done (.ret (.bool (!c)))) s') E s) : wpAny (model prog w) A (Builtin.«object.__ne__» ⟨[.ref x, b], []⟩) Q E s := by
  unfold Builtin.«object.__ne__»
  repeat (first
    | with_reducible refine wpAny_cRoomFor hu ?_
    | (refine wpAny_bind (m := callSpecialIfBound? (.ref x) (Str.ofString "__eq__") [b])
        (PySem.W.ifBound_K X I hs hf (wpAny_mono h (fun r s' hr => by
          obtain ⟨c, rfl, hq⟩ := hr
          repeat (first | exact hq | exact wpAny_pure hq | exact wpAny_truthy_bool hq | (refine wpAny_bind (m := truthy (.bool _)) (wpAny_truthy_bool ?_)) | wp_step)) fun _ _ e => e)))
    | wp_step)
theorem cmpNe_K {Q : Value → Shared → Prop} (hu : A.units + 1 < cLine) (X : K.In s.heap) (I : PySem.W.InstAt s.heap x ox C od) (hb : PySem.W.Looks (model prog w) s.heap (typeOf b) tb) (hn : PySem.W.notFirst K C tb = true)
    (hm : PySem.W.mroIn K C (.type "object") = some true) (hne : PySem.W.findIn K (.ref C) "__ne__" = some (some (.builtin "object.__ne__"))) (hs : PySem.W.findIn K (.ref C) "__eq__" = some (some (.ref f))) (hf : PySem.W.isFn K (.ref f) = true)
    (h : wpAny (model prog w) A.in1 (call (.ref f) [.ref x, b]) (fun v s' => ∃ c, v = .bool c ∧ Q (.bool (!c)) s') E s) : wpAny (model prog w) A (richCompare .NotEq (.ref x) b) Q E s := by
  have one : wpAny (model prog w) A (tryCompare (.ref x) "__ne__" b) (fun r s' => ∃ v, r = some v ∧ Q v s') E s := by
    unfold tryCompare
    refine wpAny_bind (ifBound_objNe X I hne (wpAny_call (codeAny_call_builtin F.cmp_object.ne.plain F.cmpEntry_ne (PySem.W.check_slot F.cmpKind_ne F.cmpSplit_ne (I.type.andThen (PySem.W.looks_mroIn X hm)) (F.cmpArgs_ne _ _) (entry_objNe X I hs hf hu (wpAny_mono h (fun v s' hv => ?_) fun _ _ e => e))))))
    obtain ⟨c, rfl, hq⟩ := hv
    first | exact ⟨c, rfl, wpAny_pure ⟨_, rfl, hq⟩⟩ | exact ⟨c, rfl, wpAny_pure (wpAny_pure ⟨_, rfl, hq⟩)⟩ | exact ⟨c, rfl, ⟨_, rfl, hq⟩⟩
  have sub : tb = .ref C ∨ PySem.W.subIn K tb (.ref C) = some false := (Bool.or_eq_true_iff.mp hn).imp beq_iff_eq.mp beq_iff_eq.mp
  have fin : ∀ {k : Option Value → Sem Value}, (∀ v, k (some v) = pure v) → wpAny (model prog w) A (tryCompare (.ref x) "__ne__" b >>= k) Q E s := fun hk =>
    wpAny_bind (wpAny_mono one (fun r s' ⟨v, e, hq⟩ => by subst e; rw [hk]; exact wpAny_pure hq) fun _ _ z => z)
  simp only [richCompare, cmpInfo_NotEq, oneThing_ref]
  apply wpAny_holding
  apply wpAny_bind
  apply wpAny_cRoomFor (Nat.lt_of_succ_lt hu)
  apply wpAny_bind
  apply I.type.here
  apply wpAny_bind
  apply hb.here
  split
  · next q =>
    have e := sub.resolve_left fun z => by subst z; simp at q
    apply wpAny_bind
    apply (PySem.W.looks_subIn X e).here
    rw [if_neg Bool.false_ne_true]
    exact fin fun _ => rfl
  · apply wpAny_bind
    apply wpAny_pure
    rw [if_neg Bool.false_ne_true]
    exact fin fun _ => rfl
end
section
variable {X : Cx}
/-- what an instance may be compared with: of the same class, an int, a tuple -/
def eqSide (K : Frag) (C : Addr) (H : Hp) (y : V) : Prop := isI C H y ∨ (∃ i, y = .int i) ∨ ∃ a xs, y = .ref a ∧ H a = some (.tup xs)
/-- the class's own ==, and no != -/
structure EqC (K : Frag) (C f : Addr) : Prop where
  hs : PySem.W.findIn K (.ref C) "__eq__" = some (some (.ref f))
  hf : PySem.W.isFn K (.ref f) = true
  hne : PySem.W.findIn K (.ref C) "__ne__" = some (some (.builtin "object.__ne__"))
  hm : PySem.W.mroIn K C (.type "object") = some true
  nc : PySem.W.notFirst K C (.ref C) = true
  n1 : PySem.W.notFirst K C (.type "int") = true
  n2 : PySem.W.notFirst K C (.type "tuple") = true
def rEqO (K : Frag) (C : Addr) (sp : Sp) (E : XK) : R2 := fun x y H Q => isI C H x ∧ eqSide K C H y ∧ sp [x, y] H Q E
def rNeO (K : Frag) (C : Addr) (sp : Sp) (E : XK) : R2 := fun x y H Q => isI C H x ∧ eqSide K C H y ∧ sp [x, y] H (fun v H' => ∃ b, v = .bl b ∧ Q (.bl (!b)) H') E
theorem side_looks {pins : List (Addr × Obj)} {σ : L2.St} {H : Hp} {s : Shared} {C f : Addr} {y : V} {u : Value} (I : Inv X pins σ H s) (T : EqC X.K C f) (h : eqSide X.K C H y) (ry : RelV y u) : ∃ tb, PySem.W.Looks (model X.prog X.w) s.heap (typeOf u) tb ∧ PySem.W.notFirst X.K C tb = true := by
  rcases h with ⟨b, dy, gs, rfl, eb⟩ | ⟨i, rfl⟩ | ⟨a, xs, rfl, ha⟩
  · obtain ⟨od', J'⟩ := isI_inst I eb
    cases (id ry : u = Value.ref b)
    exact ⟨_, J'.type, T.nc⟩
  · obtain ⟨t, e⟩ := (show ∃ t, u = Value.int i t from ry)
    subst e
    exact ⟨_, fun A Q E s k q => wpAny_typeOf (typeIs_int s i t) q, T.n1⟩
  · cases (id ry : u = Value.ref a)
    obtain ⟨its, rv, ⟨o, ho, hc, n, hd⟩, _⟩ := I.tuple (SqT.of ha)
    exact ⟨_, fun A Q E s k q => wpAny_typeOf_ref (k _ _ ho) (by rw [hc]; exact q), T.n2⟩
theorem op_eqO {CX : CXT} {C f : Addr} {k : Nat} {fd : FuncData} {ps : List Str} {sp : Sp} {E : XK} (T : EqC X.K C f) (F1 : FnOk X.prog X.w X.K X.mg X.base CX k f fd ps sp) (b1 : Binds X.K fd ps []) (hr : Room k X.A) (hx : Passes CX X E) : OpR X (compareOp .Eq) (rEqO X.K C sp E) := by
  intro pins s σ H x y v u; intro Q I rx ry h
  obtain ⟨m, hF⟩ := I.fr
  have hu := hr.units0
  obtain ⟨⟨a, dx, fs, rfl, ea⟩, hy, q⟩ := h
  obtain ⟨od, J⟩ := isI_inst I ea
  cases (id rx : v = Value.ref a)
  obtain ⟨tb, hb, hn⟩ := side_looks I T hy ry
  unfold compareOp
  exact PySem.W.cmp_K (op := .Eq) hu hF I.ok.mod.kin J hb hn T.hs T.hf (thn (run_fn (us := [.ref a, u]) (vs := [.ref a, y]) F1 hr b1 .nil hx I (.cons rfl (.cons ry .nil)) q) fun u s' z => ep_back z)
/-- a call one deeper -/
theorem run_fn1 {CX : CXT} {f : Addr} {k : Nat} {fd : FuncData} {ps : List Str} {sp : Sp} {E : XK} {pins : List (Addr × Obj)} {σ : L2.St} {H : Hp} {s : Shared} {Q : VK} {us : List Value} {vs : List V} (F : FnOk X.prog X.w X.K X.mg X.base CX k f fd ps sp) (hr : Room (k + 1) X.A) (hb : Binds X.K fd ps []) (hx : Passes CX X E)
    (I : Inv X pins σ H s) (r : Vals vs us) (h : sp vs H Q E) : wpAny (model X.prog X.w) X.A.in1 (call (.ref f) us) (EP X pins σ Q) X.xe s := by
  have hl : (us ++ []).length = ps.length := by rw [List.append_nil, ← r.length]; exact F.len _ _ _ _ h
  have hb2 := hb s us I.kIn hl
  rw [List.append_nil] at hb2
  refine wpAny_call (codeAny_mono (F.run X.A.in1 X.stack s H ⟨us, []⟩ us vs Q E hr.in1 I.env0.in1 hb2 r h) fun r s' hq => ?_)
  cases r with
  | error e => exact hx pins σ H s e s' I hq
  | ok fl =>
    cases fl with
    | ret u => exact I.after hq
    | next => exact False.elim hq
    | brk => exact False.elim hq
    | cont => exact False.elim hq
theorem op_neO {CX : CXT} {C f : Addr} {k : Nat} {fd : FuncData} {ps : List Str} {sp : Sp} {E : XK} (T : EqC X.K C f) (F1 : FnOk X.prog X.w X.K X.mg X.base CX k f fd ps sp) (b1 : Binds X.K fd ps []) (hr : Room (k + 1) X.A) (hx : Passes CX X E) : OpR X (compareOp .NotEq) (rNeO X.K C sp E) := by
  intro pins s σ H x y v u; intro Q I rx ry h
  have hu : X.A.units + 1 < cLine := hu_of hr
  obtain ⟨⟨a, dx, fs, rfl, ea⟩, hy, q⟩ := h
  obtain ⟨od, J⟩ := isI_inst I ea
  cases (id rx : v = Value.ref a)
  obtain ⟨tb, hb, hn⟩ := side_looks I T hy ry
  unfold compareOp
  refine cmpNe_K hu I.kIn J hb hn T.hm T.hne T.hs T.hf (thn (run_fn1 (us := [.ref a, u]) (vs := [.ref a, y]) F1 hr b1 hx I (.cons rfl (.cons ry .nil)) q) fun u s' z => ?_)
  obtain ⟨v, H', I', r, c, rfl, hq⟩ := z
  cases r
  exact ⟨c, rfl, .bl (!c), H', I', rfl, hq⟩
end
end HX
set_option Elab.async false
set_option linter.all false
set_option maxRecDepth 100000
set_option maxHeartbeats 4400000
namespace HX
open L2 PyProof.Rows PySem.Spec PySem LamX
/-- one parameter p, no other name of its own: captured ones and globals -/
structure LamP (sc scope : Scope) (p : Str) : Prop where
  kind : scope.kind = .function
  co : scope.isCoroutine = false
  gen : scope.isGenerator = false
  par : scope.names.lookup p = some .local
  own : ∀ y ∈ scope.names, (y.2 = .local → y.1 = p) ∧ y.2 ≠ .cell
  free : ∀ y ∈ scope.names, y.2 = .free → sc.names.lookup y.1 = some .cell ∨ sc.names.lookup y.1 = some .free
def lamPB (sc scope : Scope) (p : Str) : Bool :=
  decide (scope.kind = .function) && !scope.isCoroutine && !scope.isGenerator && decide (scope.names.lookup p = some .local) && scope.names.all fun y => (!decide (y.2 = .local) || decide (y.1 = p)) && !decide (y.2 = .cell) && (!decide (y.2 = .free) || decide (sc.names.lookup y.1 = some .cell) || decide (sc.names.lookup y.1 = some .free))
theorem lamP_by {sc scope : Scope} {p : Str} (h : lamPB sc scope p = true) : LamP sc scope p := by
  unfold lamPB at h
  simp only [Bool.and_eq_true, Bool.or_eq_true, Bool.not_eq_true', decide_eq_true_eq, decide_eq_false_iff_not, List.all_eq_true] at h
  obtain ⟨⟨⟨⟨h1, h2⟩, h3⟩, h4⟩, h5⟩ := h
  refine ⟨h1, h2, h3, h4, fun y hy => ⟨fun e => ?_, (h5 y hy).1.2⟩, fun y hy e => ?_⟩
  · rcases (h5 y hy).1.1 with z | z
    · exact absurd e z
    · exact z
  · rcases (h5 y hy).2 with (z | z) | z
    · exact absurd e z
    · exact .inl z
    · exact .inr z
theorem LamP.has {X : Cx} {scope : Scope} {p : Str} (L : LamP X.env.scope scope p) (ok : X.Ok) : ∀ y ∈ scope.names, y.2 = .free → ∃ c, X.env.cells.lookup y.1 = some c := fun y hy e =>
  (L.free y hy e).elim (fun k => ok.has _ (.inl k)) fun k => ok.has _ (.inr k)
abbrev lamCxP (X : Cx) (A : Around) (outer : List Env) (s : Shared) (H : Hp) (E : XK) (scope : Scope) (f c' : Addr) (p : Str) : Cx := { lamCx X A outer s H E scope f c' with N := X.N ++ [p] }
section
variable {X : Cx} {pins : List (Addr × Obj)} {σ : L2.St} {H HZ : Hp} {s s1 : Shared}
theorem lam_startP {A : Around} {outer : List Env} {E : XK} {scope : Scope} {f c' : Addr} {h₁ : Heap} {tk : Nat} {p : Str} {u : Value} {w : V} (I : Inv X pins σ H s) (L : LamP X.env.scope scope p) (hp : p ∉ X.N) (e0 : Env0 X.prog X.w X.K X.mg X.base A outer s1 HZ) (hd : A.handled = none)
    (un : Un (frs X.stack) [] H HZ s.heap s1.heap) (hns : h₁.Ns s1.heap.objs.size fun y => ([(p, u)] : List (Str × Value)).reverse.lookup y) (kp : ∀ b o, s1.heap.get? b = some o → h₁.get? b = some o) (rv : L2.RelV w u) :
    Inv (lamCxP X A outer s1 HZ E scope f c' p) [] (σ ++ [some w]) HZ { s1 with heap := h₁, toks := tk } := by
  have hfree := L.has I.ok
  have cm : ∀ {y c}, (cloFrom X.env.cells scope.names []).lookup y = some c → X.env.cells.lookup y = some c := fun {y c} e => by
    rcases cloFrom_mem (PySem.mem_of_lookup e) with hm | ⟨h1, h2⟩
    · cases hm
    · obtain ⟨c1, hc⟩ := hfree _ h1 rfl
      have hc : X.env.cells.lookup y = some c1 := hc
      have e2 : c = c1 := by rw [h2, hc] <;> rfl
      rw [e2]; exact hc
  have look : ∀ {y}, scope.names.lookup y = some .free → ∃ c, (cloFrom X.env.cells scope.names []).lookup y = some c := fun {y} hl =>
    mem_lookup (cloFrom_has (cells := X.env.cells) (acc := []) (PySem.mem_of_lookup hl : (y, NameKind.free) ∈ scope.names))
  have cellK : ∀ {c : Addr} {v : Option Value}, H c = none → s.heap.IsCell c v → h₁.IsCell c v := fun {c v} n ⟨o, ho, hd⟩ => by
    obtain ⟨sl, q⟩ := un.any ho n (by simp)
    exact ⟨_, kp _ _ q, hd⟩
  have noA : ∀ b : Addr, b ∉ (lamCxP X A outer s1 HZ E scope f c' p).ex := fun b z => absurd (show b ∈ ([] : List Addr) from z) (by simp)
  refine ⟨⟨e0.mod, L.kind, rfl, rfl, Nat.le_refl _, fun y z c e1 e2 => I.ok.inj y z c (cm e1) (cm e2), fun y hy => ?_, fun y c z _ => ?_, fun _ => hd, Around.frames_deeper e0.frames, .inr ⟨rfl, rfl⟩, fun b z => absurd z (noA b), e0.bs, e0.bsz, fun b _ _ => noA b,
      fun b z => absurd z (noA b), e0.funs, e0.frf⟩,
    rfl, e0.bare, Un.kept kp, ⟨_, hns, fun i y v e1 e2 e3 => ?_⟩, fun y c e => ?_, e0.hok.fresh (Nat.le_refl _), fun y c e => ?_, fun q hq => absurd (show q ∈ ([] : List (Addr × Obj)) ++ [] from hq) (by simp), e0.hok.kept kp, ?_⟩
  · have hy : scope.names.lookup y = some .cell ∨ scope.names.lookup y = some .free := hy
    rcases hy with hy | hy
    · exact absurd rfl (L.own _ (PySem.mem_of_lookup hy)).2
    · exact look hy
  · cases (show false = true from z)
  · have e1 : (X.N ++ [p])[i]? = some y := e1
    have hl := I.len
    by_cases hi : i < X.N.length
    · rw [List.getElem?_append_left hi] at e1
      rw [List.getElem?_append_left (by rw [hl]; exact hi)] at e2
      have yp : y ≠ p := fun z => hp (z ▸ List.mem_of_getElem? e1)
      have e3 : Vis scope y := e3
      rcases e3 with k | k | k
      · exact absurd ((L.own _ (PySem.mem_of_lookup k)).1 rfl) yp
      · exact absurd rfl (L.own _ (PySem.mem_of_lookup k)).2
      · obtain ⟨m, hn, hl⟩ := I.loc
        have hvis : Vis X.env.scope y := (L.free _ (PySem.mem_of_lookup k) rfl).elim (fun k => .inr (.inl k)) (fun k => .inr (.inr k))
        obtain ⟨w', r, q⟩ := hl i y v e1 e2 hvis
        obtain ⟨c2, h2⟩ := look k
        refine ⟨w', r, .inr ⟨.inr k, c2, h2, ?_⟩⟩
        have c1 := cm h2
        rcases q with ⟨k', _⟩ | ⟨_, c3, e', z⟩
        · have k' : X.env.scope.names.lookup y = some .local := k'
          rcases L.free _ (PySem.mem_of_lookup k) rfl with k2 | k2 <;> rw [show X.env.scope.names.lookup y = _ from k2] at k' <;> cases k'
        · rw [c1] at e'
          cases e'
          exact cellK (I.freeC y _ c1) z
    · rw [List.getElem?_append_right (Nat.le_of_not_lt hi)] at e1
      rw [List.getElem?_append_right (by rw [hl]; exact Nat.le_of_not_lt hi), hl] at e2
      cases hk : i - X.N.length with
      | zero =>
        rw [hk] at e1 e2
        cases e1; cases e2
        exact ⟨u, rv, .inl ⟨L.par, by simp⟩⟩
      | succ n => rw [hk] at e1; cases e1
  · obtain ⟨w', z⟩ := I.cell y c (cm e)
    exact ⟨w', cellK (I.freeC y c (cm e)) z⟩
  · obtain ⟨v, o, ho, hd⟩ := I.cell y c (cm e)
    exact un.free c o ho (I.freeC y c (cm e)) (by simp)
  · show (σ ++ [some w]).length = (X.N ++ [p]).length
    rw [List.length_append, List.length_append, I.len]; rfl
/-- a(e), in the def that got the lambda -/
theorem pe_actP {CXg : CXT} {Eg : XK} {Ng : List Str} {qg : Str} {sg : Scope} {g f c' : Addr} {cdg pm ctv : Value} {params : Arguments} {body e : Expr} {scope : Scope} {k i : Nat} {a p : Str} {te tb : TE} {p1 p2 : Pos}
    (I : Inv X pins σ H s) (L : LamP X.env.scope scope p) (hpN : p ∉ X.N) (hf : s.heap.get? f = some (PySem.W.kla_obj "<lambda>" (X.env.qual ++ "<lambda>") params body scope (cloFrom X.env.cells scope.names []) pm c' ctv)) (hfn : H f = none) (hfr : f ∉ frs X.stack)
    (hbind : ∀ u : Value, bindArgs (PySem.W.kla_fn "<lambda>" (X.env.qual ++ "<lambda>") params body scope (cloFrom X.env.cells scope.names []) pm (.ref c') ctv) ⟨[u], []⟩ = pure [(p, u)])
    (hr : Room (k + 1) (X.A.deeper (envOfC qg sg s.heap.objs.size g cdg)))
    (hbody : ∀ (A : Around) (outer : List Env) (s : Shared) (H : Hp), Room k (A.deeper (lamEnv X scope s.heap.objs.size f c')) → PE (lamCxP X A outer s H (fun _ _ _ => False) scope f c' p) body tb)
    (hN : Ng[i]? = some a) (hv : Vis sg a) (he : PE (cxOf CXg X.prog X.w X.K X.mg X.base Ng qg sg g cdg X.A X.stack s H Eg).nox e te)
    (hs : ∀ env : Env, starEach [e] env = [(false, eval e env)] := by intro _; rfl) (hd : (a == ("__debug__" : Str)) = false := by decide) (hcd : (a == ("__classdict__" : Str)) = false := by decide) :
    PE (cxOf CXg X.prog X.w X.K X.mg X.base Ng qg sg g cdg X.A X.stack s H Eg).nox (.Call (.Name a p1) [e] [] p2)
      (fun σZ HZ Q => σZ[i]? = some (some (.ref f)) ∧ te σZ HZ fun v H1 => H1 c' = some (CodeO c' (X.env.qual ++ "<lambda>")) ∧ tb (σ ++ [some v]) H1 Q) := by
  refine ⟨fun pz sz σz Hz Q Iz ⟨hs0, ht⟩ => wpAny_Call_Name_kw (thn ((pe_var (pos := p1) (i := i) hN hv hd hcd).run pz sz σz Hz (fun v H1 => v = .ref f ∧ H1 = Hz) Iz ⟨.ref f, hs0, rfl, rfl⟩) fun u s2 ⟨v, H1, I1, r1, ev, eH⟩ => ?_)⟩
  subst ev; subst eH
  obtain rfl : u = Value.ref f := r1
  have at1 : s2.heap.get? f = some (PySem.W.kla_obj "<lambda>" (X.env.qual ++ "<lambda>") params body scope (cloFrom X.env.cells scope.names []) pm c' ctv) := I1.base.keep f _ hf hfn hfr (fun z => nomatch (show f ∈ ([] : List Addr) from z))
  refine PySem.W.callWith_F ⟨_, _, _, _, at1⟩ ?_ (hs _)
  rw [hs]
  show wpAny _ _ (spliced ((false, eval e _) :: backTo p2 [])) _ _ s2
  refine Calls.spliced_cons (thn (he.run pz s2 σz H1 _ I1 ht) fun u s3 ⟨v, H2, I2, r2, hc, hb⟩ => Calls.spliced_nil ?_)
  · have at2 : s3.heap.get? f = some (PySem.W.kla_obj "<lambda>" (X.env.qual ++ "<lambda>") params body scope (cloFrom X.env.cells scope.names []) pm c' ctv) := I2.base.keep f _ hf hfn hfr (fun z => nomatch (show f ∈ ([] : List Addr) from z))
    refine ⟨⟨_, _, _, _, at2⟩, ?_⟩
    have un : Un (frs X.stack) [] H H2 s.heap s3.heap := I2.base
    obtain ⟨⟨oc, vs, t, hoc, hdc, hvc⟩, _, _⟩ := I2.hok c' _ hc
    have run : codeAny (model X.prog X.w) (X.A.deeper (envOfC qg sg s.heap.objs.size g cdg)) (.call (.ref f) ⟨[u], []⟩) (CR (L2.CX X.prog X.w) (envOfC qg sg s.heap.objs.size g cdg :: X.stack) X.prog X.w H2 s3 Q (fun _ _ _ => False)) s3 := by
      refine PySem.W.kla_callFunE hr.depth at2 rfl L.co L.gen rfl ⟨c', oc, vs, t, rfl, hoc, hdc, hvc⟩ ?_
      rw [hbind]
      refine wpAny_pure (wpAny_newFunctionEnv (fun y hy => (L.own y hy).2) (fun y hy => ?_) (fun h₁ hns hsb => ⟨I2.nolimit.fresh _ hsb, ?_⟩) L.kind)
      · rw [List.mem_singleton.mp hy]; exact L.par
      (show codeAny _ _ (.expr body (lamEnv X scope s3.heap.objs.size f c')) _ _)
      have kp : ∀ b o, s3.heap.get? b = some o → h₁.get? b = some o := fun b o e => hsb.extBut b o (Nat.ne_of_lt (Heap.lt_size e)) (Heap.get?_push_of_some _ e)
      have J : Inv (lamCxP X (X.A.deeper (envOfC qg sg s.heap.objs.size g cdg)) (envOfC qg sg s.heap.objs.size g cdg :: X.stack) s3 H2 (fun _ _ _ => False) scope f c' p) [] (σ ++ [some v]) H2 { s3 with heap := h₁, toks := s3.toks + ([(p, u)] : List (Str × Value)).length } := lam_startP I L hpN I2.env0 hr.hd un hns kp r2
      exact PySem.W.kla_codeExpr (wpAny_mono ((hbody _ _ s3 H2 (hr.deeper _)).run [] _ _ H2 Q J hb) (fun v s' ⟨w', H', J', rv, q⟩ => ⟨w', H', J'.os, J'.bare, J'.base, J'.hok, rv, q⟩) fun e s' hq => hq)
    refine wpAny_call (codeAny_mono run fun r s' hq => ?_)
    match r, hq with
    | .error e, hq =>
      obtain ⟨_, _, _, _, _, _, _, _, _, _, _, _, _, _, _, _, z⟩ := hq
    | .ok (.ret u), hq => exact I2.after hq
    | .ok .next, hq | .ok .brk, hq | .ok .cont, hq => exact False.elim hq
end
/-- what a def makes of a value and a lambda of one parameter -/
def GivesP (X : Cx) (k : Nat) (Ng : List Str) (x : Str) (sg : Scope) (g : Addr) (cdg : Value) (bg : List Stmt) (a : Str) (q : Str) (TT : (V → Hp → VK → Prop) → V → Hp → VK → Prop) : Prop :=
  ∀ (f c' : Addr) (s : Shared) (H : Hp) (Q : VK) (v : V) (tl : V → Hp → VK → Prop),
    (∀ (e : Expr) (te : TE) (p1 p2 : Pos), (∀ env : Env, starEach [e] env = [(false, eval e env)]) → PE (cxOf C8.CX0 X.prog X.w X.K X.mg X.base Ng x sg g cdg X.A X.stack s H C8.E0).nox e te →
      PE (cxOf C8.CX0 X.prog X.w X.K X.mg X.base Ng x sg g cdg X.A X.stack s H C8.E0).nox (.Call (.Name a p1) [e] [] p2) (fun σZ HZ Q => σZ[1]? = some (some (.ref f)) ∧ te σZ HZ fun v H1 => H1 c' = some (CodeO c' q) ∧ tl v H1 Q)) →
    Room k (X.A.deeper (envOfC x sg s.heap.objs.size g cdg)) → H c' = some (CodeO c' q) → TT tl v H Q →
    ∃ t, PSs (cxOf C8.CX0 X.prog X.w X.K X.mg X.base Ng x sg g cdg X.A X.stack s H C8.E0).nox bg t ∧ t { nx := fun _ H' => Q .non H', rt := Q } (L2.start Ng [v, .ref f]) H
def tLamP (T : List (Addr × Str)) (TT : (V → Hp → VK → Prop) → V → Hp → VK → Prop) (te t : TE) : TE := fun σ H Q => te σ H fun v H0 => Tabs T H0 ∧ ∀ H1, ExtN H0 H1 → Tabs T H1 → TT (fun w H' Q' => t (σ ++ [some w]) H' Q') v H1 Q
/-- x(e, lambda p: body), x a def of the text -/
theorem pe_lamP {X : Cx} {K : PySem.W.Frag} {T : List (Addr × Str)} {TT : (V → Hp → VK → Prop) → V → Hp → VK → Prop} {x b0 a pl : Str} {g c P : Addr} {k : Nat} {st : Stmt} {fd : FuncData} {Ng : List Str} {params : Arguments} {body e : Expr} {scope : Scope} {te t : TE} {p lpos pos : Pos}
    (hK : X.K = K) (F : Fun K x x st g fd) (b : Binds K fd [b0, a] []) (hg : Gl X x) (hm : X.mg x = some (.ref g)) (Sg : FnScope Ng [b0, a] (defScope st)) (hNg : Ng[1]? = some a) (hva : Vis (defScope st) a)
    (hG : ∀ cdv, GivesP X (k + 1) Ng x (defScope st) g cdv (defBody st) a (X.env.qual ++ "<lambda>") TT) (TB : TabB X.base X.mg c P) (hcode : X.env.code = .ref c) (hmT : (P, X.env.qual ++ "<lambda>") ∈ T) (hu : ∀ p ∈ T, p.1 = P → p.2 = X.env.qual ++ "<lambda>") (hr : Room (k + 2) X.A)
    (L : LamP X.env.scope scope pl) (hpN : pl ∉ X.N) (hdef : defaultsOf params X.env = ([], [])) (hbind : ∀ (q : Str) (cl : List (Str × Addr)) (pm cv ctv u : Value), bindArgs (PySem.W.kla_fn "<lambda>" q params body scope cl pm cv ctv) ⟨[u], []⟩ = pure [(pl, u)])
    (hbody : ∀ (A : Around) (outer : List Env) (s : Shared) (H : Hp) (f c' : Addr), Room k (A.deeper (lamEnv X scope s.heap.objs.size f c')) → PE (lamCxP X A outer s H (fun _ _ _ => False) scope f c' pl) body t) (he : PE X e te)
    (hs : starEach [e, .Lambda params body scope lpos] X.env = (false, eval e X.env) :: starEach [.Lambda params body scope lpos] X.env := by rfl)
    (hdb : (x == ("__debug__" : Str)) = false := by decide) (hd : (a == ("__debug__" : Str)) = false := by decide) (hcd : (a == ("__classdict__" : Str)) = false := by decide) : PE X (.Call (.Name x p) [e, .Lambda params body scope lpos] [] pos) (tLamP T TT te t) := by
  subst hK
  obtain ⟨oc, od, kV, doc, pm, an, cdv, ct, osl, rfl, lk, hc⟩ := F.ex
  refine ⟨fun pp t0 τ G R J h => wpAny_Call_Name_kw (ld_glob J hg hm (PySem.W.callWith_K (h₀ := X.base) J.ok.mod.kin F.kp ?_ hs (by rfl)) hdb)⟩
  rw [hs]
  (show wpAny _ _ (spliced ((false, eval e X.env) :: backTo pos (starEach [.Lambda params body scope lpos] X.env))) _ _ t0)
  refine Calls.spliced_cons (thn (he.run pp t0 τ G _ J h) fun u0 t1 ⟨v0, H0, J0, r0, hT, h⟩ => ?_)
  (show wpAny _ _ (spliced ((false, eval (.Lambda params body scope lpos) X.env) :: backTo pos (starEach [] X.env))) _ _ t1)
  refine Calls.spliced_cons (lam_make2 J0 TB hcode hmT hu hT hdef (L.has J0.ok) fun f c' pm' ctv H1 s' I1 eN T1 hf hfn hfr hco => Calls.spliced_nil ⟨I1.kIn, ?_⟩)
  refine wpAny_call (codeAny_mono (LamX.run_ofS (N := Ng) (ps := [b0, a]) (us := [u0, .ref f]) (vs := [v0, .ref f]) (CX := C8.CX0) (E := C8.E0) (Q := R) lk hc Sg hr I1.env0 (b s' [u0, .ref f] I1.kIn rfl) (.cons r0 (.cons rfl .nil)) rfl fun hr' => ?_) fun r s2 hq => ?_)
  · obtain ⟨t', ht', hq'⟩ := hG cdv f c' s' H1 R v0 (fun w H' Q' => t (τ ++ [some w]) H' Q') (fun e2 te2 p1 p2 hs2 he2 => pe_actP (i := 1) I1 L hpN hf hfn hfr (hbind _ _ _ _ _) hr' (fun A outer s H hr2 => hbody A outer s H f c' hr2) hNg hva he2 hs2 hd hcd) hr' hco (h H1 eN T1)
    exact ⟨t', ht'.nox, hq'⟩
  · match r, hq with
    | .error e, hq => exact (show False from hq).elim
    | .ok (.ret u), hq => exact I1.after hq
    | .ok .next, hq | .ok .brk, hq | .ok .cont, hq => exact False.elim hq
end HX
set_option Elab.async false
set_option linter.all false
set_option maxRecDepth 100000
set_option maxHeartbeats 4400000
namespace HX
open L2 PyProof.Rows PySem.Spec PySem HT
section
variable {prog : Program} {w : PySem.World} {A : Around} {E : Value → Shared → Prop} {s : Shared}
theorem adjust_rev (n : Nat) : Builtin.Slice.sliceAdjust none none (-1) (n : Int) = ((n : Int) - 1, -1) := by
  unfold Builtin.Slice.sliceAdjust
  first | rfl | simp
theorem places_rev (n : Nat) : Builtin.Slice.slicePlaces ((n : Int) - 1) (-1) (-1) = n := by
  have e : Builtin.Slice.slicePlaces ((n : Int) - 1) (-1) (-1) = (if (n : Int) - 1 > -1 then ((n : Int) - 1 - (-1) - 1) / (1 : Int) + 1 else 0).toNat := rfl
  rw [e, Int.ediv_one]
  by_cases h : (n : Int) - 1 > -1
  · rw [if_pos h]; omega
  · rw [if_neg h]
    have : n = 0 := by omega
    rw [this]; rfl
theorem applied_rev {sl : Addr} {vk : Value} {n : Nat} {Q : Int × Int × Nat → Shared → Prop} (hs : s.heap.IsSliceOf sl .none .none vk) (pk : IsPart vk (some (-1)))
    (h : Q ((n : Int) - 1, -1, n) s) : wpAny (model prog w) A (Builtin.Slice.sliceApplied (.ref sl) (pure (n : Int))) Q E s := by
  obtain ⟨os, hos, hcs, hds⟩ := id hs
  unfold Builtin.Slice.sliceApplied Builtin.Slice.sliceFields
  refine wpAny_bind (wpAny_bind (wpAny_field hos hds (x := .none) rfl (wpAny_bind (wpAny_field hos hds (x := .none) rfl (wpAny_bind (wpAny_field hos hds (x := vk) rfl (wpAny_pure ?_)))))))
  refine wpAny_bind (slicePart_ pk ?_)
  show wpAny _ _ (if ((-1 : Int) == 0) = true then _ else _) _ _ s
  rw [if_neg (by decide)]
  refine wpAny_bind (slicePart_none (wpAny_bind (slicePart_none (wpAny_bind (wpAny_pure ?_)))))
  show wpAny _ _ (match Builtin.Slice.sliceAdjust none none (-1) (n : Int) with | (lo, hi) => pure (lo, (-1 : Int), Builtin.Slice.slicePlaces lo hi (-1))) _ _ s
  rw [adjust_rev]
  show wpAny _ _ (pure ((n : Int) - 1, (-1 : Int), Builtin.Slice.slicePlaces ((n : Int) - 1) (-1) (-1))) _ _ s
  rw [places_rev]
  exact wpAny_pure h
theorem pick_rev (xs : Array Value) : ((List.range xs.size).filterMap fun (m : Nat) => xs[(((xs.size : Int) - 1) + (m : Int) * (-1)).toNat]?).toArray = xs.toList.reverse.toArray := by
  have e : (fun (m : Nat) => xs[(((xs.size : Int) - 1) + (m : Int) * (-1)).toNat]?) = (fun k => xs[k]?) ∘ fun m => xs.size - 1 - m := by
    funext m
    have : (((xs.size : Int) - 1) + (m : Int) * (-1)).toNat = xs.size - 1 - m := by omega
    rw [this]; rfl
  rw [e, ← List.filterMap_map, PySem.W.krv_range, List.filterMap_reverse, PySem.W.krv_all]
theorem getItem_tuple_rev {t sl : Addr} {items : Array Value} {vk : Value} {Q : Value → Shared → Prop} (ht : IsTup s.heap t items) (hs : s.heap.IsSliceOf sl .none .none vk) (pk : IsPart vk (some (-1)))
    (h : Q (.ref s.heap.objs.size) { s with heap := s.heap.push { cls := .type "tuple", data := .seq items.toList.reverse.toArray } })
    (hsz : items.size ≤ sizeLine) : wpAny (model prog w) A (getItem (.ref t) (.ref sl)) Q E s := by
  have htake : sizeOk (.seq items.toList.reverse.toArray) := by
    show items.toList.reverse.toArray.size ≤ sizeLine
    rw [List.size_toArray, List.length_reverse, Array.length_toList]
    exact hsz
  obtain ⟨os, hos, hcs, hds⟩ := id hs
  have hTs : s.TypeIs (.ref sl) "slice" := ⟨os, hos, hcs⟩
  unfold getItem
  try with_reducible refine wpAny_holding ?_
  first | refine wpAny_bind (wpAny_pure ?_) | skip
  refine wpAny_bind (wpAny_sequenceKey ht.typeIs (by decide) ?_)
  refine wpAny_bind (wpAny_callSpecial?_slot (name := Str.ofString "__getitem__") ht.typeIs PyProof.Rows.slot_tuple_getitem
    (wpAny_call_entry PyProof.Rows.slot_tuple_getitem ht.typeIs entry_tuple_getitem ?_ (args_tuple_getitem _ _)))
  show wpAny _ _ (Builtin.Tuple.tupleItemsOf (.ref t) >>= _) _ _ s
  refine wpAny_bind (tupleItemsOf_ ht ?_)
  refine wpAny_bind (wpAny_typeOf hTs ?_)
  rw [if_pos (by decide)]
  refine wpAny_bind (applied_rev hs pk ?_)
  have hno : ¬ ((((items.size : Int) - 1 == 0 && (-1 : Int) == 1) && items.size == items.size) = true) := by
    intro q
    rw [Bool.and_eq_true, Bool.and_eq_true] at q
    have := q.1.2
    revert this; decide
  show wpAny _ _ (if (((items.size : Int) - 1 == 0 && (-1 : Int) == 1) && items.size == items.size) = true then _ else _) _ _ s
  rw [if_neg hno, pick_rev]
  first
    | exact wpAny_bind (m := Builtin.Tuple.tupleExact _) (wpAny_newObj_type (wpAny_pure ⟨_, rfl, wpAny_pure h⟩) htake)
    | exact wpAny_bind (m := Builtin.Tuple.tupleExact _) (wpAny_newObj_type (wpAny_bind (wpAny_pure (wpAny_pure ⟨_, rfl, wpAny_pure h⟩))) htake)
    | exact wpAny_bind (wpAny_bind (m := Builtin.Tuple.tupleExact _) (wpAny_newObj_type (wpAny_pure (wpAny_pure ⟨_, rfl, wpAny_pure h⟩)) htake))
    | exact wpAny_bind (wpAny_bind (m := Builtin.Tuple.tupleExact _) (wpAny_newObj_type (wpAny_pure ⟨_, rfl, wpAny_pure h⟩) htake))
end
section
variable {X : Cx} {e st : Expr} {te ts : TE} {p2 pos : Pos}
/-- t[::-1] -/
theorem pe_rev (he : PE X e te) (hk : PE X st ts) : PE X (.Subscript e (.Slice none none (some st) p2) pos) (fun σ H Q => te σ H fun x H1 => ts σ H1 fun k H2 => k = .int (-1) ∧ ∃ a xs, x = .ref a ∧ SqT X.K H2 a xs ∧ ∀ p, H2 p = none → Q (.ref p) (upd H2 p (.tup xs.reverse))) := by
  refine ⟨fun pins s σ H Q I h => ?_⟩
  refine Subscript_ (thn (he.run pins s σ H _ I h) fun v s1 ⟨x, H1, I1, r1, q1⟩ => ?_)
  refine wpAny_Slice ?_
  rw [evalPart_none]
  refine wpAny_pure (wpAny_pure ?_)
  rw [evalPart_some]
  refine thn (hk.run pins s1 σ H1 _ I1 q1) fun vk s3 ⟨k, H3, I3, pk, hk3, a, xs, ea, hx, q3⟩ => ?_
  subst hk3; subst ea
  obtain ⟨tk, rfl⟩ := pk
  obtain rfl : v = Value.ref a := r1
  have I4 : Inv X pins σ H3 { s3 with heap := s3.heap.push { cls := .type "slice", data := .fields #[.none, .none, .int (-1) tk] } } := I3.kept (t' := s3.toks) fun b ob q => Heap.get?_push_of_some _ q
  show wpAny (model X.prog X.w) X.A (subscriptTail e (.Slice none none (some st) p2) (.ref a) (.ref s3.heap.objs.size)) (EP X pins σ Q) X.xe { s3 with heap := s3.heap.push { cls := .type "slice", data := .fields #[.none, .none, .int (-1) tk] } }
  obtain ⟨its, r, ht, hz⟩ := I4.tuple hx
  refine tail_any (ops := [.ref a, .ref s3.heap.objs.size]) ht.typeIs PyProof.Rows.slot_tuple_getitem.lookup (getItem_tuple_rev ht (Heap.IsSliceOf.new ..) (.int _ _) ?_ (by rw [List.size_toArray]; rw [← r.length]; exact hz)) (by with_unfolding_all rfl)
  refine ⟨.ref _, _, I4.laid (t' := s3.toks) (o := .tup xs.reverse) (fun b ob q => Heap.get?_push_of_some _ q) (Nat.le_refl _) ?_, rfl, q3 _ (I4.hok.fresh (Nat.le_refl _))⟩
  exact ⟨by rw [List.length_reverse]; exact hz, _, r.reverse, IsTup.new _ _⟩
end
end HX
set_option Elab.async false
set_option linter.all false
set_option maxRecDepth 100000
set_option maxHeartbeats 4400000
namespace HX
open PySem
/-! what repr tells of small whole numbers, names and tuples of such tells them apart -/
abbrev ch (s : Str) : List Nat := s.cps.toList
theorem ch_app (a b : Str) : ch (a ++ b) = ch a ++ ch b := by
  show (a.cps ++ b.cps).toList = _
  rw [Array.toList_append]
def letters (z : Str) : Bool := (ch z).all fun c => decide (97 ≤ c) && decide (c ≤ 122)
mutual
def plainD : PyData → Bool
  | .int i => decide (0 ≤ i) && decide (i ≤ 9)
  | .str z => letters z
  | .tuple ds => plainAll ds
  | _ => false
def plainAll : List PyData → Bool
  | [] => true
  | d :: r => plainD d && plainAll r
end
theorem plainAll_mem : ∀ {ds : List PyData}, plainAll ds = true → ∀ d ∈ ds, plainD d = true
  | d :: r, h, x, hx => by
    obtain ⟨h1, h2⟩ := Bool.and_eq_true_iff.mp (show (plainD d && plainAll r) = true from h)
    rcases List.mem_cons.mp hx with e | e
    · rw [e]; exact h1
    · exact plainAll_mem h2 x e
theorem repr_letter : ∀ c : Nat, 97 ≤ c → c ≤ 122 → Builtin.Str.reprChar 39 c = [c] := by
  intro c h1 h2
  have : (List.range 123).all (fun c => !decide (97 ≤ c) || decide (Builtin.Str.reprChar 39 c = [c])) = true := by decide +kernel
  have q := List.all_eq_true.mp this c (List.mem_range.mpr (by omega))
  rw [Bool.or_eq_true] at q
  rcases q with q | q
  · simp at q; omega
  · exact of_decide_eq_true q
theorem ch_repr {z : Str} (h : letters z = true) : ch (reprText z) = 39 :: (ch z ++ [39]) := by
  have hq : reprQuote z = 39 := by
    unfold reprQuote
    have : z.cps.contains 39 = false := by
      rw [Bool.eq_false_iff]; intro q
      have q := Array.contains_iff_mem.mp q
      have := List.all_eq_true.mp h 39 (by simpa using q)
      revert this; decide
    rw [this]; rfl
  unfold reprText
  rw [hq]
  show ((z.cps.foldl (fun out c => out ++ (Builtin.Str.reprChar 39 c).toArray) #[39]).push 39).toList = _
  rw [Array.toList_push, ← Array.foldl_toList]
  have : ∀ (l : List Nat) (acc : Array Nat), (l.all fun c => decide (97 ≤ c) && decide (c ≤ 122)) = true → (l.foldl (fun out c => out ++ (Builtin.Str.reprChar 39 c).toArray) acc).toList = acc.toList ++ l := by
    intro l
    induction l with
    | nil => intro acc _; simp
    | cons c r ih =>
      intro acc hl
      rw [List.all_cons, Bool.and_eq_true, Bool.and_eq_true] at hl
      rw [List.foldl_cons, ih _ hl.2, repr_letter c (of_decide_eq_true hl.1.1) (of_decide_eq_true hl.1.2)]
      simp
  rw [this _ _ h]
  rfl
theorem ch_digit {i : Int} (h0 : 0 ≤ i) (h9 : i ≤ 9) : ch (PyData.int i).shown = [48 + i.toNat] := by
  have : (List.range 10).all (fun n => decide (ch (PyData.int (n : Int)).shown = [48 + n])) = true := by decide +kernel
  obtain ⟨n, rfl⟩ := Int.eq_ofNat_of_zero_le h0
  exact of_decide_eq_true (List.all_eq_true.mp this n (List.mem_range.mpr (by omega)))
/-- what stands behind the parts of a tuple -/
def bt : List PyData → List Nat
  | [] => [41]
  | [x] => ch x.shown ++ [41]
  | x :: y :: r => ch x.shown ++ 44 :: 32 :: bt (y :: r)
theorem ch_join : ∀ (x : PyData) (r : List PyData), ch (Str.join ", " (PyData.shownAll (x :: r))) ++ [41] = bt (x :: r)
  | x, [] => rfl
  | x, y :: r => by
    have ih := ch_join y r
    show ch (PyData.shown x ++ ", " ++ Str.join ", " (PyData.shownAll (y :: r))) ++ [41] = ch x.shown ++ 44 :: 32 :: bt (y :: r)
    rw [← ih, ch_app, ch_app]
    have : ch (((", " : String) : Str)) = [44, 32] := by decide +kernel
    rw [this]; simp
theorem ch_tuple0 : ch (PyData.tuple []).shown = [40, 41] := by decide +kernel
theorem ch_tuple1 (x : PyData) : ch (PyData.tuple [x]).shown = 40 :: (ch x.shown ++ [44, 41]) := by
  show ch (tupleText [x.shown]) = _
  unfold tupleText
  rw [ch_app, ch_app]
  rfl
theorem ch_tuple2 (x y : PyData) (r : List PyData) : ch (PyData.tuple (x :: y :: r)).shown = 40 :: bt (x :: y :: r) := by
  show ch (tupleText (PyData.shownAll (x :: y :: r))) = _
  unfold tupleText
  rw [ch_app, ch_app, ← ch_join]
  have : ((PyData.shownAll (x :: y :: r)).length == 1) = false := by
    show ((PyData.shown x :: PyData.shown y :: PyData.shownAll r).length == 1) = false
    simp
  rw [this]
  rfl
def PF (x : PyData) : Prop := ∀ y, plainD y = true → ∀ r1 r2 : List Nat, ch x.shown ++ r1 = ch y.shown ++ r2 → x = y ∧ r1 = r2
theorem str_split : ∀ {a b : List Nat} {r1 r2 : List Nat}, (a.all fun c => decide (97 ≤ c) && decide (c ≤ 122)) = true → (b.all fun c => decide (97 ≤ c) && decide (c ≤ 122)) = true → a ++ 39 :: r1 = b ++ 39 :: r2 → a = b ∧ r1 = r2
  | [], [], r1, r2, _, _, h => by simp at h; exact ⟨rfl, h⟩
  | [], c :: b, r1, r2, _, hb, h => by
    simp at h hb
    have := hb.1; omega
  | c :: a, [], r1, r2, ha, _, h => by
    simp at h ha
    have := ha.1; omega
  | c :: a, d :: b, r1, r2, ha, hb, h => by
    rw [List.all_cons, Bool.and_eq_true] at ha hb
    simp only [List.cons_append, List.cons.injEq] at h
    obtain ⟨e1, e2⟩ := str_split ha.2 hb.2 h.2
    exact ⟨by rw [h.1, e1], e2⟩
theorem bt_pf : ∀ {l1 l2 : List PyData} {r1 r2 : List Nat}, l1 ≠ [] → l2 ≠ [] → (∀ x ∈ l1, PF x) → plainAll l2 = true → bt l1 ++ r1 = bt l2 ++ r2 → l1 = l2 ∧ r1 = r2
  | [x], [y], r1, r2, _, _, hp, hl, h => by
    have hy : plainD y = true := plainAll_mem hl y (.head _)
    have h : (ch x.shown ++ [41]) ++ r1 = (ch y.shown ++ [41]) ++ r2 := h
    rw [List.append_assoc, List.append_assoc] at h
    obtain ⟨e, q⟩ := hp x (.head _) y hy _ _ h
    simp at q
    exact ⟨by rw [e], q⟩
  | [x], y :: z :: s, r1, r2, _, _, hp, hl, h => by
    have hy : plainD y = true := plainAll_mem hl y (.head _)
    have h : (ch x.shown ++ [41]) ++ r1 = (ch y.shown ++ 44 :: 32 :: bt (z :: s)) ++ r2 := h
    rw [List.append_assoc, List.append_assoc] at h
    obtain ⟨e, q⟩ := hp x (.head _) y hy _ _ h
    simp at q
  | x :: w :: t, [y], r1, r2, _, _, hp, hl, h => by
    have hy : plainD y = true := plainAll_mem hl y (.head _)
    have h : (ch x.shown ++ 44 :: 32 :: bt (w :: t)) ++ r1 = (ch y.shown ++ [41]) ++ r2 := h
    rw [List.append_assoc, List.append_assoc] at h
    obtain ⟨e, q⟩ := hp x (.head _) y hy _ _ h
    simp at q
  | x :: w :: t, y :: z :: s, r1, r2, _, _, hp, hl, h => by
    have hy : plainD y = true := plainAll_mem hl y (.head _)
    have h : (ch x.shown ++ 44 :: 32 :: bt (w :: t)) ++ r1 = (ch y.shown ++ 44 :: 32 :: bt (z :: s)) ++ r2 := h
    rw [List.append_assoc, List.append_assoc] at h
    obtain ⟨e, q⟩ := hp x (.head _) y hy _ _ h
    simp only [List.cons_append, List.cons.injEq, true_and] at q
    obtain ⟨e1, e2⟩ := bt_pf (l1 := w :: t) (l2 := z :: s) (by simp) (by simp) (fun u hu => hp u (.tail _ hu)) (Bool.and_eq_true_iff.mp (show (plainD y && plainAll (z :: s)) = true from hl)).2 q
    exact ⟨by rw [e, e1], e2⟩
/-- the first sign -/
theorem first_sign {y : PyData} (h : plainD y = true) : (∃ i : Int, y = .int i ∧ 0 ≤ i ∧ i ≤ 9 ∧ ch y.shown = [48 + i.toNat]) ∨ (∃ z : Str, y = .str z ∧ letters z = true ∧ ch y.shown = 39 :: (ch z ++ [39])) ∨ (∃ ds, y = .tuple ds ∧ plainAll ds = true) := by
  cases y with
  | int i =>
    obtain ⟨h1, h2⟩ := Bool.and_eq_true_iff.mp (show (decide (0 ≤ i) && decide (i ≤ 9)) = true from h)
    exact .inl ⟨i, rfl, of_decide_eq_true h1, of_decide_eq_true h2, ch_digit (of_decide_eq_true h1) (of_decide_eq_true h2)⟩
  | str z => exact .inr (.inl ⟨z, rfl, h, ch_repr h⟩)
  | tuple ds => exact .inr (.inr ⟨ds, rfl, h⟩)
  | none => cases h
  | bool b => cases h
  | list xs => cases h
  | dict kvs => cases h
theorem ch_tuple_head (ds : List PyData) : ∃ t, ch (PyData.tuple ds).shown = 40 :: t := by
  match ds with
  | [] => exact ⟨_, ch_tuple0⟩
  | [x] => exact ⟨_, ch_tuple1 x⟩
  | x :: y :: r => exact ⟨_, ch_tuple2 x y r⟩
theorem item_head {y : PyData} (h : plainD y = true) : ∃ c t, ch y.shown = c :: t ∧ c ≠ 41 := by
  rcases first_sign h with ⟨i, rfl, h0, h9, e⟩ | ⟨z, rfl, hz, e⟩ | ⟨ds, rfl, hd⟩
  · exact ⟨_, _, e, by omega⟩
  · exact ⟨_, _, e, by decide⟩
  · obtain ⟨t, e⟩ := ch_tuple_head ds
    exact ⟨_, _, e, by decide⟩
theorem wt_memL {d : PyData} : ∀ {ds : List PyData}, d ∈ ds → d.weight + 1 ≤ PyData.weightAll ds
  | x :: r, h => by
    simp only [PyData.weightAll]
    rcases List.mem_cons.mp h with e | e
    · subst e; omega
    · have := wt_memL e; omega
theorem tup_pf {ds : List PyData} (hds : plainAll ds = true) (hp : ∀ x ∈ ds, PF x) : PF (.tuple ds) := by
  intro y hy r1 r2 h
  rcases first_sign hy with ⟨i, rfl, h0, h9, e⟩ | ⟨z, rfl, hz, e⟩ | ⟨es, rfl, he⟩
  · obtain ⟨t, et⟩ := ch_tuple_head ds
    rw [et, e] at h
    simp only [List.cons_append, List.cons.injEq] at h
    omega
  · obtain ⟨t, et⟩ := ch_tuple_head ds
    rw [et, e] at h
    simp only [List.cons_append, List.cons.injEq] at h
    omega
  · match ds, es, hds, hp, he, h with
    | [], [], _, _, _, h =>
      simp only [ch_tuple0, List.cons_append, List.cons.injEq, List.nil_append, true_and] at h
      exact ⟨rfl, h⟩
    | [], [y], _, _, he, h =>
      obtain ⟨c, t, e1, e2⟩ := item_head (plainAll_mem he y (.head _))
      rw [ch_tuple0, ch_tuple1, e1] at h
      simp only [List.cons_append, List.cons.injEq, true_and] at h
      exact absurd h.1.symm e2
    | [], y :: y2 :: s, _, _, he, h =>
      obtain ⟨c, t, e1, e2⟩ := item_head (plainAll_mem he y (.head _))
      rw [ch_tuple0, ch_tuple2] at h
      have : bt (y :: y2 :: s) = ch y.shown ++ 44 :: 32 :: bt (y2 :: s) := rfl
      rw [this, e1] at h
      simp only [List.cons_append, List.cons.injEq, true_and] at h
      exact absurd h.1.symm e2
    | [x], [], hds, hp, _, h =>
      obtain ⟨c, t, e1, e2⟩ := item_head (plainAll_mem hds x (.head _))
      rw [ch_tuple0, ch_tuple1, e1] at h
      simp only [List.cons_append, List.cons.injEq, true_and] at h
      exact absurd h.1 e2
    | [x], [y], _, hp, he, h =>
      rw [ch_tuple1, ch_tuple1] at h
      simp only [List.cons_append, List.cons.injEq, true_and, List.append_assoc, List.nil_append] at h
      obtain ⟨e, q⟩ := hp x (.head _) y (plainAll_mem he y (.head _)) _ _ h
      simp only [List.cons.injEq, true_and] at q
      exact ⟨by rw [e], q⟩
    | [x], y :: y2 :: s, _, hp, he, h =>
      rw [ch_tuple1, ch_tuple2] at h
      have e3 : bt (y :: y2 :: s) = ch y.shown ++ 44 :: 32 :: bt (y2 :: s) := rfl
      rw [e3] at h
      simp only [List.cons_append, List.cons.injEq, true_and, List.append_assoc, List.nil_append] at h
      obtain ⟨e, q⟩ := hp x (.head _) y (plainAll_mem he y (.head _)) _ _ h
      simp at q
    | x :: x2 :: t, [], hds, hp, he, h =>
      obtain ⟨c, t2, e1, e2⟩ := item_head (plainAll_mem hds x (.head _))
      rw [ch_tuple0, ch_tuple2] at h
      have : bt (x :: x2 :: t) = ch x.shown ++ 44 :: 32 :: bt (x2 :: t) := rfl
      rw [this, e1] at h
      simp only [List.cons_append, List.cons.injEq, true_and] at h
      exact absurd h.1 e2
    | x :: x2 :: t, [y], _, hp, he, h =>
      rw [ch_tuple1, ch_tuple2] at h
      have e3 : bt (x :: x2 :: t) = ch x.shown ++ 44 :: 32 :: bt (x2 :: t) := rfl
      rw [e3] at h
      simp only [List.cons_append, List.cons.injEq, true_and, List.append_assoc, List.nil_append] at h
      obtain ⟨e, q⟩ := hp x (.head _) y (plainAll_mem he y (.head _)) _ _ h
      simp at q
    | x :: x2 :: t, y :: y2 :: s, _, hp, he, h =>
      rw [ch_tuple2, ch_tuple2] at h
      simp only [List.cons_append, List.cons.injEq, true_and] at h
      obtain ⟨e1, e2⟩ := bt_pf (by simp) (by simp) hp he h
      exact ⟨by rw [e1], e2⟩
theorem shown_pf : ∀ (n : Nat) (x : PyData), x.weight < n → plainD x = true → PF x := by
  intro n
  induction n with
  | zero => intro x hw; exact absurd hw (Nat.not_lt_zero _)
  | succ n ih =>
    intro x hw hx
    rcases first_sign hx with ⟨i, rfl, h0, h9, e⟩ | ⟨z, rfl, hz, e⟩ | ⟨ds, rfl, hd⟩
    · intro y hy r1 r2 h
      rcases first_sign hy with ⟨j, rfl, k0, k9, f⟩ | ⟨z2, rfl, hz2, f⟩ | ⟨es, rfl, he⟩
      · rw [e, f] at h
        simp only [List.cons_append, List.cons.injEq, List.nil_append] at h
        have : i = j := by omega
        exact ⟨by rw [this], h.2⟩
      · rw [e, f] at h
        simp only [List.cons_append, List.cons.injEq] at h
        omega
      · obtain ⟨t, et⟩ := ch_tuple_head es
        rw [e, et] at h
        simp only [List.cons_append, List.cons.injEq] at h
        omega
    · intro y hy r1 r2 h
      rcases first_sign hy with ⟨j, rfl, k0, k9, f⟩ | ⟨z2, rfl, hz2, f⟩ | ⟨es, rfl, he⟩
      · rw [e, f] at h
        simp only [List.cons_append, List.cons.injEq] at h
        omega
      · rw [e, f] at h
        simp only [List.cons_append, List.cons.injEq, List.append_assoc, List.nil_append, true_and] at h
        obtain ⟨e1, e2⟩ := str_split hz hz2 h
        have : z = z2 := by
          have e3 : z.cps = z2.cps := Array.ext' e1
          cases z; cases z2; simp_all
        exact ⟨by rw [this], e2⟩
      · obtain ⟨t, et⟩ := ch_tuple_head es
        rw [e, et] at h
        simp only [List.cons_append, List.cons.injEq] at h
        omega
    · refine tup_pf hd fun y hy => ih y ?_ (plainAll_mem hd y hy)
      have := wt_memL hy
      have e : (PyData.tuple ds).weight = PyData.weightAll ds := by simp only [PyData.weight]
      omega
/-- repr tells such data apart -/
theorem shown_one {x y : PyData} (hx : plainD x = true) (hy : plainD y = true) (h : x.shown = y.shown) : x = y :=
  (shown_pf _ x (Nat.lt_succ_self _) hx y hy [] [] (by rw [h])).1
end HX
set_option Elab.async false
set_option linter.all false
set_option maxRecDepth 100000
set_option maxHeartbeats 4400000
namespace HX
open L2 PyProof.Rows PySem.Spec PySem
/-! written data, and what is made of it: with its very data; p and l stand in none of it -/
def D2 (p l : Addr) (H : Hp) (v : V) (d : PyData) : Prop := Dz p H v d ∧ Dz l H v d
theorem D2.ex {p l : Addr} {H H' : Hp} {v : V} {d : PyData} (h : D2 p l H v d) (e : Ex H H') : D2 p l H' v d := ⟨h.1.ex e, h.2.ex e⟩
def Gd (p l : Addr) (H0 : Hp) (σ : L2.St) (te : TE) (d : PyData) : Prop := ∀ (H : Hp) (Q : VK), Ex H0 H → (∀ v H', Ex H H' → D2 p l H' v d → Q v H') → te σ H Q
/-- values with their data, one by one -/
def Vd (p l : Addr) (H : Hp) (xs : List V) (ds : List PyData) : Prop := xs.length = ds.length ∧ ∀ (i : Nat) (v : V) (d : PyData), xs[i]? = some v → ds[i]? = some d → D2 p l H v d
def GdA (p l : Addr) (H0 : Hp) (σ : L2.St) (t : TA) (ds : List PyData) : Prop := ∀ (H : Hp) (Q : List V → Hp → Prop), Ex H0 H → (∀ xs H', Ex H H' → Vd p l H' xs ds → Q xs H') → t σ H Q
/-- a list of such stands at v, apart from p -/
def LsAt (p l : Addr) (H : Hp) (v : V) (ds : List PyData) : Prop := ∃ a xs, v = .ref a ∧ a ≠ p ∧ a ≠ l ∧ H a = some (.lst xs) ∧ Vd p l H xs ds
def GdL (p l : Addr) (H0 : Hp) (σ : L2.St) (te : TE) (ds : List PyData) : Prop := ∀ (H : Hp) (Q : VK), Ex H0 H → (∀ v H', Ex H H' → LsAt p l H' v ds → Q v H') → te σ H Q
theorem Vd.ex {p l : Addr} {H H' : Hp} {xs : List V} {ds : List PyData} (h : Vd p l H xs ds) (e : Ex H H') : Vd p l H' xs ds := ⟨h.1, fun i v d a b => (h.2 i v d a b).ex e⟩
theorem LsAt.ex {p l : Addr} {H H' : Hp} {v : V} {ds : List PyData} (h : LsAt p l H v ds) (e : Ex H H') : LsAt p l H' v ds := let ⟨a, xs, h1, h2, h2', h3, h4⟩ := h; ⟨a, xs, h1, h2, h2', e _ _ h3, h4.ex e⟩
theorem Vd.app {p l : Addr} {H : Hp} {xs ys : List V} {ds es : List PyData} (h : Vd p l H xs ds) (k : Vd p l H ys es) : Vd p l H (xs ++ ys) (ds ++ es) := by
  refine ⟨by rw [List.length_append, List.length_append, h.1, k.1], fun i v d a b => ?_⟩
  by_cases hi : i < xs.length
  · rw [List.getElem?_append_left hi] at a
    rw [List.getElem?_append_left (by rw [← h.1]; exact hi)] at b
    exact h.2 i v d a b
  · rw [List.getElem?_append_right (Nat.le_of_not_lt hi)] at a
    rw [List.getElem?_append_right (by rw [← h.1]; exact Nat.le_of_not_lt hi), ← h.1] at b
    exact k.2 _ v d a b
theorem Vd.mem {p l : Addr} {H : Hp} {xs : List V} {ds : List PyData} (h : Vd p l H xs ds) {i : Nat} {v : V} (hv : xs[i]? = some v) : ∃ d ∈ ds, D2 p l H v d := by
  have hj := (List.getElem?_eq_some_iff.mp hv).1
  have hd : ds[i]? = some (ds[i]'(by rw [← h.1]; exact hj)) := List.getElem?_eq_getElem _
  exact ⟨_, List.getElem_mem _, h.2 i v _ hv hd⟩
theorem Vd.rev {p l : Addr} {H : Hp} {xs : List V} {ds : List PyData} (h : Vd p l H xs ds) : Vd p l H xs.reverse ds.reverse := by
  refine ⟨by rw [List.length_reverse, List.length_reverse, h.1], fun i v d a b => ?_⟩
  have hi : i < xs.length := by have := (List.getElem?_eq_some_iff.mp a).1; rw [List.length_reverse] at this; exact this
  rw [List.getElem?_reverse hi] at a
  rw [List.getElem?_reverse (by rw [← h.1]; exact hi), ← h.1] at b
  exact h.2 _ v d a b
theorem Vd.drop {p l : Addr} {H : Hp} {xs : List V} {ds : List PyData} (h : Vd p l H xs ds) (k : Nat) : Vd p l H (xs.drop k) (ds.drop k) :=
  ⟨by rw [List.length_drop, List.length_drop, h.1], fun i v d a b => by rw [List.getElem?_drop] at a b; exact h.2 _ v d a b⟩
theorem Vd.take {p l : Addr} {H : Hp} {xs : List V} {ds : List PyData} (h : Vd p l H xs ds) (k : Nat) : Vd p l H (xs.take k) (ds.take k) :=
  ⟨by rw [List.length_take, List.length_take, h.1], fun i v d a b => by
    rw [List.getElem?_take] at a b
    by_cases q : i < k
    · rw [if_pos q] at a b; exact h.2 _ v d a b
    · rw [if_neg q] at a; cases a⟩
theorem D2.vd {p l : Addr} {H : Hp} {v : V} {ds : List PyData} (h : D2 p l H v (.tuple ds)) : ∃ a xs, v = .ref a ∧ H a = some (.tup xs) ∧ Vd p l H xs ds := by
  obtain ⟨h1, h2⟩ := h
  cases h1 with
  | tup e1 hl hi =>
    cases h2 with
    | tup e2 hl2 hi2 =>
      rw [e1] at e2
      cases e2
      exact ⟨_, _, rfl, e1, hl, fun i v d a b => ⟨hi i v d a b, hi2 i v d a b⟩⟩
theorem Vd.tup {p l a : Addr} {H : Hp} {xs : List V} {ds : List PyData} (h : Vd p l H xs ds) (ha : H a = some (.tup xs)) : D2 p l H (.ref a) (.tuple ds) := ⟨.tup ha h.1 fun i v d a b => (h.2 i v d a b).1, .tup ha h.1 fun i v d a b => (h.2 i v d a b).2⟩
section
variable {p l : Addr} {H0 : Hp} {σ : L2.St} {K : PySem.W.Frag}
theorem gd_non : Gd p l H0 σ (tC .non) .none := fun H Q _ k => k _ _ (Ex.rf _) ⟨.non, .non⟩
theorem gd_bl (b : Bool) : Gd p l H0 σ (tC (.bl b)) (.bool b) := fun H Q _ k => k _ _ (Ex.rf _) ⟨.bl b, .bl b⟩
theorem gd_int (i : Int) : Gd p l H0 σ (tC (.int i)) (.int i) := fun H Q _ k => k _ _ (Ex.rf _) ⟨.int i, .int i⟩
theorem gd_str (z : Str) : Gd p l H0 σ (tC (.str z)) (.str z) := fun H Q _ k => k _ _ (Ex.rf _) ⟨.str z, .str z⟩
theorem gd_var {i : Nat} {v : V} {d : PyData} (hv : σ[i]? = some (some v)) (hz : D2 p l H0 v d) : Gd p l H0 σ (tVar i) d := fun H Q e k => ⟨v, hv, k v H (Ex.rf _) (hz.ex e)⟩
theorem gda_nil : GdA p l H0 σ tNil [] := fun H Q _ k => k [] H (Ex.rf _) ⟨rfl, fun i v d a _ => by cases a⟩
theorem gda_cons {te : TE} {t : TA} {d : PyData} {ds : List PyData} (h : Gd p l H0 σ te d) (k : GdA p l H0 σ t ds) : GdA p l H0 σ (tCons te t) (d :: ds) := fun H Q e q =>
  h H _ e fun v H1 e1 z => k H1 _ (e.tr e1) fun xs H2 e2 y => q _ _ (e1.tr e2) ⟨by rw [List.length_cons, List.length_cons, y.1], fun i v' d' a b => by
    cases i with
    | zero => cases a; cases b; exact z.ex e2
    | succ n => exact y.2 n v' d' a b⟩
theorem lt_line {n : Nat} (h : n < 1000) : n ≤ sizeLine := Nat.le_of_lt (Nat.lt_of_lt_of_le h (by decide))
theorem gd_tup {t : TA} {ds : List PyData} (h : GdA p l H0 σ t ds) (hn : ds.length < 1000 := by first | decide | (simp; done) | omega) : Gd p l H0 σ (tTup t) (.tuple ds) := fun H Q e k =>
  h H _ e fun xs H1 e1 y => ⟨by rw [y.1]; exact lt_line hn, fun q nq => k _ _ (e1.tr (Ex.nw nq)) ((y.ex (Ex.nw nq)).tup upd_same)⟩
theorem gd_dict : Gd p l H0 σ tDNewK (.dict []) := fun H Q e k q nq => k _ _ (Ex.nw nq) ⟨.dct (ks := []) (ds := []) upd_same rfl (fun i v d a _ => by cases a), .dct (ks := []) (ds := []) upd_same rfl (fun i v d a _ => by cases a)⟩
variable (hp : (∃ o, H0 p = some o) ∧ ∃ o, H0 l = some o)
include hp
theorem ne_p {H : Hp} {q : Addr} (e : Ex H0 H) (nq : H q = none) : q ≠ p ∧ q ≠ l := by
  obtain ⟨⟨o, h⟩, o', h'⟩ := hp
  exact ⟨fun z => (by rw [z, e _ _ h] at nq; cases nq), fun z => (by rw [z, e _ _ h'] at nq; cases nq)⟩
theorem d2_lst {H : Hp} {q : Addr} {xs : List V} {ds : List PyData} (e : Ex H0 H) (nq : H q = none) (ns : q ≠ sysModules) (y : Vd p l H xs ds) : D2 p l (upd H q (.lst xs)) (.ref q) (.list ds) :=
  let ⟨n1, n2⟩ := ne_p hp e nq
  ⟨.lst upd_same ns n1 y.1 fun i v d a b => (y.2 i v d a b).1.ex (Ex.nw nq), .lst upd_same ns n2 y.1 fun i v d a b => (y.2 i v d a b).2.ex (Ex.nw nq)⟩
theorem gd_lst {t : TA} {ds : List PyData} (h : GdA p l H0 σ t ds) (hn : ds.length < 1000 := by first | decide | (simp; done) | omega) : Gd p l H0 σ (tLstN t) (.list ds) := fun H Q e k =>
  h H _ e fun xs H1 e1 y => ⟨by rw [y.1]; exact lt_line hn, fun q nq ns => k _ _ (e1.tr (Ex.nw nq)) (d2_lst hp (e.tr e1) nq ns y)⟩
theorem gdl_lst {t : TA} {ds : List PyData} (h : GdA p l H0 σ t ds) (hn : ds.length < 1000 := by first | decide | (simp; done) | omega) : GdL p l H0 σ (tLstN t) ds := fun H Q e k =>
  h H _ e fun xs H1 e1 y => ⟨by rw [y.1]; exact lt_line hn, fun q nq ns => k _ _ (e1.tr (Ex.nw nq)) ⟨q, xs, rfl, (ne_p hp (e.tr e1) nq).1, (ne_p hp (e.tr e1) nq).2, upd_same, y.ex (Ex.nw nq)⟩⟩
omit hp in
theorem gdl_var {i : Nat} {v : V} {ds : List PyData} (hv : σ[i]? = some (some v)) (hz : LsAt p l H0 v ds) : GdL p l H0 σ (tVar i) ds := fun H Q e k => ⟨v, hv, k v H (Ex.rf _) (hz.ex e)⟩
theorem gdl_cat {te tf : TE} {ds es : List PyData} (h : GdL p l H0 σ te ds) (k : GdL p l H0 σ tf es) (hn : ds.length + es.length < 1000) : GdL p l H0 σ (tOp rCat te tf) (ds ++ es) := fun H Q e q =>
  h H _ e fun v H1 e1 z => k H1 _ (e.tr e1) fun u H2 e2 y => by
    obtain ⟨a, xs, rfl, na, na', ha, va⟩ := z.ex e2
    obtain ⟨b, ys, rfl, nb, nb', hb, vb⟩ := y
    refine ⟨a, b, xs, ys, rfl, rfl, ha, hb, by rw [va.1, vb.1]; exact lt_line hn, fun c nc => q _ _ ((e1.tr e2).tr (Ex.nw nc)) ⟨c, _, rfl, (ne_p hp ((e.tr e1).tr e2) nc).1, (ne_p hp ((e.tr e1).tr e2) nc).2, upd_same, (va.app vb).ex (Ex.nw nc)⟩⟩
theorem gdl_twice {te : TE} {ds : List PyData} (h : GdL p l H0 σ te ds) (hn : ds.length < 400) : GdL p l H0 σ (tOp rRepN te (tC (.int 2))) (ds ++ ds) := fun H Q e q =>
  h H _ e fun v H1 e1 z => by
    obtain ⟨a, xs, rfl, na, na', ha, va⟩ := z
    refine ⟨a, 2, xs, rfl, rfl, ha, by decide, by decide, ?_, fun c nc _ => ?_⟩
    · show xs.length * 2 ≤ sizeLine
      rw [va.1]; exact lt_line (by omega)
    have er : (List.replicate (2 : Int).toNat xs).flatten = xs ++ xs := by
      show (List.replicate 2 xs).flatten = xs ++ xs
      simp [List.replicate]
    rw [er]
    exact q _ _ (e1.tr (Ex.nw nc)) ⟨c, _, rfl, (ne_p hp (e.tr e1) nc).1, (ne_p hp (e.tr e1) nc).2, upd_same, (va.app va).ex (Ex.nw nc)⟩
theorem gd_listof {te : TE} {ds : List PyData} (h : Gd p l H0 σ te (.tuple ds)) : Gd p l H0 σ (tCB (rListN K) (tCons te tNil)) (.list ds) := fun H Q e q =>
  h H _ e fun v H1 e1 z => by
    obtain ⟨a, xs, rfl, ha, va⟩ := z.vd
    exact ⟨a, xs, rfl, .inr (SqT.of ha), fun c nc ns => q _ _ (e1.tr (Ex.nw nc)) (d2_lst hp (e.tr e1) nc ns va)⟩
omit hp
theorem gd_catT {te tf : TE} {ds es : List PyData} (h : Gd p l H0 σ te (.tuple ds)) (k : Gd p l H0 σ tf (.tuple es)) (hn : ds.length + es.length < 1000) : Gd p l H0 σ (tOp (rCatA K) te tf) (.tuple (ds ++ es)) := fun H Q e q =>
  h H _ e fun v H1 e1 z => k H1 _ (e.tr e1) fun u H2 e2 y => by
    obtain ⟨a, xs, rfl, ha, va⟩ := (z.ex e2).vd
    obtain ⟨b, ys, rfl, hb, vb⟩ := y.vd
    refine ⟨a, b, xs, ys, rfl, rfl, SqT.of ha, SqT.of hb, by rw [va.1, vb.1]; exact lt_line hn, fun h0 => q _ _ (e1.tr e2) ?_, fun h0 h1 => q _ _ (e1.tr e2) ?_, fun h0 h1 l nl => q _ _ ((e1.tr e2).tr (Ex.nw nl)) (((va.app vb).ex (Ex.nw nl)).tup upd_same)⟩
    · have : ds = [] := List.eq_nil_of_length_eq_zero (by rw [← va.1, h0]; rfl)
      rw [this]; exact vb.tup hb
    · have : es = [] := List.eq_nil_of_length_eq_zero (by rw [← vb.1, h1]; rfl)
      rw [this, List.append_nil]; exact va.tup ha
/-- the items of a slice -/
def cutD (ds : List PyData) (lo hi : Option Int) : List PyData := (ds.drop (HT.sIx ds.length 0 lo)).take (HT.sIx ds.length ds.length hi - HT.sIx ds.length 0 lo)
theorem cut_sl {H : Hp} {v : V} {ds : List PyData} {lo hi : Option Int} {Q : VK} (z : D2 p l H v (.tuple ds)) (q : ∀ v H', Ex H H' → D2 p l H' v (.tuple (cutD ds lo hi)) → Q v H') : rSlA K v lo hi H Q := by
  obtain ⟨a, xs, rfl, ha, va⟩ := z.vd
  refine ⟨a, xs, rfl, SqT.of ha, fun h => q _ _ (Ex.rf _) ?_, fun h c nc => q _ _ (Ex.nw nc) ?_⟩
  · have : cutD ds lo hi = ds := by
      unfold cutD
      rw [← va.1, h.1, h.2, List.drop_zero, Nat.sub_zero, va.1, List.take_length]
    rw [this]; exact va.tup ha
  · have : Vd p l H (cutV xs lo hi) (cutD ds lo hi) := by
      unfold cutV cutD
      rw [va.1]
      exact (va.drop _).take _
    exact (this.ex (Ex.nw nc)).tup upd_same
theorem gd_upto {te : TE} {ds : List PyData} {k : Int} (h : Gd p l H0 σ te (.tuple ds)) : Gd p l H0 σ (tSl (rSlA K) te tNoPart (tPart (tC (.int k)))) (.tuple (cutD ds none (some k))) := fun H Q e q =>
  h H _ e fun v H1 e1 z => ⟨k, rfl, cut_sl z fun v H' e' z' => q _ _ (e1.tr e') z'⟩
theorem gd_from {te : TE} {ds : List PyData} {k : Int} (h : Gd p l H0 σ te (.tuple ds)) : Gd p l H0 σ (tSl (rSlA K) te (tPart (tC (.int k))) tNoPart) (.tuple (cutD ds (some k) none)) := fun H Q e q =>
  h H _ e fun v H1 e1 z => ⟨k, rfl, cut_sl z fun v H' e' z' => q _ _ (e1.tr e') z'⟩
end
/-! data of a bounded weight -/
structure Pz (n : Nat) (d : PyData) : Prop where
  sh : d.showable = true
  dp : d.depth ≤ 8
  lv : d.leavesShort 24 = true
  wt : d.weight ≤ n
structure PzL (n : Nat) (ds : List PyData) : Prop where
  sh : PyData.showableAll ds = true
  dp : PyData.depthAll ds ≤ 7
  lv : PyData.leavesShortAll 24 ds = true
  wt : PyData.weightAll ds ≤ n
def pzB (n : Nat) (d : PyData) : Bool := d.showable && (decide (d.depth ≤ 8) && (d.leavesShort 24 && decide (d.weight ≤ n)))
theorem pz_by {n : Nat} {d : PyData} (h : pzB n d = true) : Pz n d := by
  unfold pzB at h
  simp only [Bool.and_eq_true, decide_eq_true_eq] at h
  exact ⟨h.1, h.2.1, h.2.2.1, h.2.2.2⟩
theorem Pz.up {n m : Nat} {d : PyData} (h : Pz n d) (e : n ≤ m) : Pz m d := ⟨h.sh, h.dp, h.lv, Nat.le_trans h.wt e⟩
theorem Pz.tup {n : Nat} {ds : List PyData} (h : Pz n (.tuple ds)) : PzL n ds :=
  ⟨by have := h.sh; simpa only [PyData.showable] using this, by have := h.dp; simp only [PyData.depth] at this; omega, by have := h.lv; simpa only [PyData.leavesShort] using this, by have := h.wt; simpa only [PyData.weight] using this⟩
theorem PzL.tup {n : Nat} {ds : List PyData} (h : PzL n ds) : Pz n (.tuple ds) :=
  ⟨by simp only [PyData.showable]; exact h.sh, by simp only [PyData.depth]; have := h.dp; omega, by simp only [PyData.leavesShort]; exact h.lv, by simp only [PyData.weight]; exact h.wt⟩
theorem PzL.lst {n : Nat} {ds : List PyData} (h : PzL n ds) : Pz n (.list ds) :=
  ⟨by simp only [PyData.showable]; exact h.sh, by simp only [PyData.depth]; have := h.dp; omega, by simp only [PyData.leavesShort]; exact h.lv, by simp only [PyData.weight]; exact h.wt⟩
theorem PzL.up {n m : Nat} {ds : List PyData} (h : PzL n ds) (e : n ≤ m) : PzL m ds := ⟨h.sh, h.dp, h.lv, Nat.le_trans h.wt e⟩
theorem pzl_nil (n : Nat) : PzL n [] := ⟨rfl, Nat.zero_le _, rfl, Nat.zero_le _⟩
theorem pzl_cons {n : Nat} {d : PyData} {ds : List PyData} : PzL n (d :: ds) ↔ (d.showable = true ∧ d.depth ≤ 7 ∧ d.leavesShort 24 = true) ∧ ∃ m, PzL m ds ∧ d.weight + 1 + m ≤ n := by
  constructor
  · rintro ⟨h1, h2, h3, h4⟩
    simp only [PyData.showableAll, PyData.depthAll, PyData.leavesShortAll, PyData.weightAll, Bool.and_eq_true] at h1 h2 h3 h4
    exact ⟨⟨h1.1, by omega, h3.1⟩, PyData.weightAll ds, ⟨h1.2, by omega, h3.2, Nat.le_refl _⟩, h4⟩
  · rintro ⟨⟨h1, h2, h3⟩, m, ⟨k1, k2, k3, k4⟩, h4⟩
    refine ⟨?_, ?_, ?_, ?_⟩
    · simp only [PyData.showableAll, h1, k1, Bool.and_self]
    · simp only [PyData.depthAll]; omega
    · simp only [PyData.leavesShortAll, h3, k3, Bool.and_self]
    · simp only [PyData.weightAll]; omega
theorem PzL.app : ∀ {n m : Nat} {ds es : List PyData}, PzL n ds → PzL m es → PzL (n + m) (ds ++ es)
  | n, m, [], es, _, k => k.up (Nat.le_add_left _ _)
  | n, m, d :: ds, es, h, k => by
    obtain ⟨h1, j, h2, h3⟩ := pzl_cons.mp h
    exact pzl_cons.mpr ⟨h1, j + m, h2.app k, by omega⟩
theorem PzL.drop : ∀ {n : Nat} {ds : List PyData} (k : Nat), PzL n ds → PzL n (ds.drop k)
  | n, ds, 0, h => h
  | n, [], k + 1, h => h
  | n, d :: ds, k + 1, h => by
    obtain ⟨h1, j, h2, h3⟩ := pzl_cons.mp h
    exact (h2.drop k).up (by omega)
theorem PzL.take : ∀ {n : Nat} {ds : List PyData} (k : Nat), PzL n ds → PzL n (ds.take k)
  | n, ds, 0, h => pzl_nil _
  | n, [], k + 1, h => h
  | n, d :: ds, k + 1, h => by
    obtain ⟨h1, j, h2, h3⟩ := pzl_cons.mp h
    exact pzl_cons.mpr ⟨h1, j, h2.take k, h3⟩
theorem PzL.rev : ∀ {n : Nat} {ds : List PyData}, PzL n ds → PzL n ds.reverse
  | n, [], h => h
  | n, d :: ds, h => by
    obtain ⟨h1, j, h2, h3⟩ := pzl_cons.mp h
    rw [List.reverse_cons]
    exact (h2.rev.app (pzl_cons.mpr ⟨h1, 0, pzl_nil 0, Nat.le_refl _⟩)).up (by omega)
theorem PzL.cut {n : Nat} {ds : List PyData} (h : PzL n ds) (lo hi : Option Int) : PzL n (cutD ds lo hi) := (h.drop _).take _
theorem PzL.len : ∀ {n : Nat} {ds : List PyData}, PzL n ds → ds.length ≤ n
  | n, [], _ => Nat.zero_le _
  | n, d :: ds, h => by
    obtain ⟨h1, j, h2, h3⟩ := pzl_cons.mp h
    have := h2.len
    rw [List.length_cons]; omega
theorem Pz.wt2 {n m : Nat} {d : PyData} (h : Pz n d) (e : n ≤ m) : Wt m d := Nat.le_trans h.wt e
theorem Pz.fz {n : Nat} {d : PyData} (h : Pz n d) (hn : n ≤ 5000) : d.showable = true ∧ d.depth ≤ 60 ∧ d.shown.length ≤ sizeLine := by
  refine ⟨h.sh, Nat.le_trans h.dp (by decide), ?_⟩
  have a := PyData.shown_le 24 (by decide) d h.lv
  have b := h.wt
  have : (24 + 2) * d.weight + 24 ≤ 26 * 5000 + 24 := by omega
  exact Nat.le_trans a (Nat.le_trans this (by decide))
end HX
set_option Elab.async false
set_option linter.all false
set_option maxRecDepth 100000
set_option maxHeartbeats 4400000
namespace HX
open L2 PyProof.Rows PySem.Spec PySem
section
variable {X : Cx} {CXX : CXT} {kk : Nat} {ff CC : Addr} {fdd : FuncData} {pps : List Str} {spp : Sp} {dws : List V} {dds : List Value} {EE : L2.St → XK} {xx : Str} {q1 q2 : Pos} {ee : Expr} {ees : List Expr} {tt : TA}
/-- C(..), what leaves told with the names' values at the call -/
def tMakeS (C : Addr) (spp : Sp) (dws : List V) (EE : L2.St → XK) (tt : TA) : TE := fun τ G R => tt τ G fun ws G1 => ∀ (x dx : Addr), G1 x = none → G1 dx = none → dx ≠ x →
  spp (.ref x :: (ws ++ dws)) (upd (upd G1 dx (.own x)) x (.ins C dx [])) (fun v G2 => v = .non ∧ R (.ref x) G2) (EE τ)
theorem pe_makeS (M : Mk X.K CC ff) (F : FnOk X.prog X.w X.K X.mg X.base CXX kk ff fdd pps spp) (room : Room (kk + 1) X.A) (gx : Gl X xx) (mx : X.mg xx = some (.ref CC)) (bx : Binds X.K fdd pps dds) (dv : Vals dws dds) (away : ∀ τ, PassesAt CXX X τ (EE τ))
    (args : PA X (ee :: ees) tt) (nd : (xx == ("__debug__" : Str)) = false := by decide) (st : starEach (ee :: ees) X.env = (false, eval ee X.env) :: starEach ees X.env := by rfl) (pl : (backTo q2 (starEach ees X.env)).any (·.1) = false := by rfl) :
    PE X (.Call (.Name xx q1) (ee :: ees) [] q2) (tMakeS CC spp dws EE tt) := ⟨fun pp t0 τ G R J hh => wpAny_Call_Name_kw (ld_glob J gx mx (PySem.W.callWith_K (h₀ := X.base) J.ok.mod.kin M.kp (thn (args.run q2 pp t0 τ G _ J hh) fun us t1 ⟨ws, G1, J1, ru, qu⟩ => ⟨J1.kIn, by
      have new := qu (t1.heap.objs.size + 1) t1.heap.objs.size (J1.hok.fresh (Nat.le_succ _)) (J1.hok.fresh (Nat.le_refl _)) (Nat.ne_of_lt (Nat.lt_succ_self _))
      have J2 := L2.Inv.made (C := CC) J1
      have both : Vals (V.ref (t1.heap.objs.size + 1) :: (ws ++ dws)) (Value.ref (t1.heap.objs.size + 1) :: (us ++ dds)) := .cons rfl (ru.append dv)
      have many := both.length.symm.trans (F.len _ _ _ _ new)
      refine wpAny_call (make_map (f := ff) J1.kIn M.makes M.init (beq_iff_eq.mp M.fn) (codeAny_mono (F.run _ X.stack _ _ ⟨_ :: us, []⟩ _ _ _ (EE τ) (room.make CC us []) (J2.env0.make CC us []) (bx _ (_ :: us) J2.kIn many) both new) fun r t2 got => ?_))
      match r, got with
      | .error e, got => exact away τ pp _ _ e t2 J2 got
      | .ok (.ret u), got =>
        obtain ⟨_, G3, J3, rv, rfl, q3⟩ := J2.after got
        exact ⟨rv, ⟨V.ref (t1.heap.objs.size + 1), G3, J3, rfl, q3⟩⟩
      | .ok .next, got | .ok .brk, got | .ok .cont, got => exact False.elim got⟩) st pl) nd)⟩
end
end HX
set_option Elab.async false
set_option linter.all false
set_option maxRecDepth 100000
set_option maxHeartbeats 4400000
namespace HX
open L2 PyProof.Rows PySem.Spec PySem
/-! lists of plain data: told apart by repr; == says whether they are the same -/
theorem from_ch : ∀ (ts : List Str) (k : Nat) (acc : Str), 0 < k → ts ≠ [] → ch (textFrom k acc ts) = ch acc ++ ([44, 32] ++ ch (Str.join ", " ts))
  | [t], k, acc, hk, _ => by
    show ch (acc ++ (if k > 0 then ", " else "" : String) ++ t) = ch acc ++ ([44, 32] ++ ch t)
    rw [if_pos hk, ch_app, ch_app]
    have : ch (((", " : String) : Str)) = [44, 32] := by decide +kernel
    rw [this, List.append_assoc]
  | t :: u :: r, k, acc, hk, _ => by
    show ch (textFrom (k + 1) (acc ++ (if k > 0 then ", " else "" : String) ++ t) (u :: r)) = ch acc ++ ([44, 32] ++ ch (t ++ ", " ++ Str.join ", " (u :: r)))
    rw [from_ch (u :: r) (k + 1) _ (Nat.succ_pos _) (by simp), if_pos hk]
    have : ch (((", " : String) : Str)) = [44, 32] := by decide +kernel
    rw [ch_app, ch_app, ch_app, ch_app, this]
    simp only [List.append_assoc]
theorem ch_list (x y : PyData) (r : List PyData) : ch (PyData.list (x :: y :: r)).shown = 91 :: (ch (Str.join ", " (PyData.shownAll (x :: y :: r))) ++ [93]) := by
  show ch (textFrom 1 (("[" : Str) ++ (("" : String) : Str) ++ x.shown) (PyData.shownAll (y :: r)) ++ "]") = _
  rw [ch_app, from_ch _ 1 _ (by decide) (by show PyData.shown y :: PyData.shownAll r ≠ []; simp), ch_app, ch_app]
  show _ = 91 :: (ch (x.shown ++ ", " ++ Str.join ", " (PyData.shownAll (y :: r))) ++ [93])
  rw [ch_app, ch_app]
  have e1 : ch (((", " : String) : Str)) = [44, 32] := by decide +kernel
  have e2 : ch (("[" : Str)) = [91] := by decide +kernel
  have e3 : ch ((("" : String) : Str)) = [] := by decide +kernel
  have e4 : ch (("]" : Str)) = [93] := by decide +kernel
  rw [e1, e2, e3, e4]
  simp
theorem list_one {x y x2 y2 : PyData} {r s : List PyData} (h1 : plainAll (x :: y :: r) = true) (h2 : plainAll (x2 :: y2 :: s) = true) (h : (PyData.list (x :: y :: r)).shown = (PyData.list (x2 :: y2 :: s)).shown) : x :: y :: r = x2 :: y2 :: s := by
  have q : ch (PyData.list (x :: y :: r)).shown = ch (PyData.list (x2 :: y2 :: s)).shown := by rw [h]
  rw [ch_list, ch_list] at q
  simp only [List.cons.injEq, true_and] at q
  have q2 := List.append_cancel_right q
  refine (bt_pf (r1 := []) (r2 := []) (by simp) (by simp) (fun z hz => shown_pf _ z (Nat.lt_succ_self _) (plainAll_mem h1 z hz)) h2 ?_).1
  rw [← ch_join, ← ch_join, q2]
theorem plainAll_of : ∀ {ds : List PyData}, (∀ d ∈ ds, plainD d = true) → plainAll ds = true
  | [], _ => rfl
  | d :: r, h => Bool.and_eq_true_iff.mpr ⟨h d (.head _), plainAll_of fun x hx => h x (.tail _ hx)⟩
mutual
theorem eqv_plain : ∀ (d e : PyData), plainD d = true → plainD e = true → (PyData.eqv d e = true ↔ d = e)
  | .int i, .int j, _, _ => by simp [PyData.eqv]
  | .int i, .str z, _, _ => by simp [PyData.eqv]
  | .int i, .tuple es, _, _ => by simp [PyData.eqv]
  | .str z, .int j, _, _ => by simp [PyData.eqv]
  | .str z, .str y, _, _ => by simp [PyData.eqv]
  | .str z, .tuple es, _, _ => by simp [PyData.eqv]
  | .tuple ds, .int j, _, _ => by simp [PyData.eqv]
  | .tuple ds, .str y, _, _ => by simp [PyData.eqv]
  | .tuple ds, .tuple es, h1, h2 => by
    have := eqvAll_plain ds es h1 h2
    simp only [PyData.eqv, PyData.tuple.injEq]
    exact this
theorem eqvAll_plain : ∀ (ds es : List PyData), plainAll ds = true → plainAll es = true → (PyData.eqvAll ds es = true ↔ ds = es)
  | [], [], _, _ => by simp [PyData.eqvAll]
  | [], e :: es, _, _ => by simp [PyData.eqvAll]
  | d :: ds, [], _, _ => by simp [PyData.eqvAll]
  | d :: ds, e :: es, h1, h2 => by
    obtain ⟨a1, a2⟩ := Bool.and_eq_true_iff.mp (show (plainD d && plainAll ds) = true from h1)
    obtain ⟨b1, b2⟩ := Bool.and_eq_true_iff.mp (show (plainD e && plainAll es) = true from h2)
    have q1 := eqv_plain d e a1 b1
    have q2 := eqvAll_plain ds es a2 b2
    simp only [PyData.eqvAll, Bool.and_eq_true, List.cons.injEq, q1, q2]
end
theorem letters_ok {z : Str} (h : letters z = true) : PyData.strOk z = true := by
  unfold PyData.strOk
  rw [Array.all_eq_true_iff_forall_mem]
  intro c hc
  have q := List.all_eq_true.mp h c (by simpa using hc)
  simp only [Bool.and_eq_true, decide_eq_true_eq] at q
  simp
  omega
mutual
theorem canLay_plain : ∀ (d : PyData), plainD d = true → d.canLay0 = true
  | .int i, _ => rfl
  | .str z, h => by simp only [PyData.canLay0]; exact letters_ok h
  | .tuple ds, h => by simp only [PyData.canLay0]; exact canLayAll_plain ds h
theorem canLayAll_plain : ∀ (ds : List PyData), plainAll ds = true → PyData.canLayAll0 ds = true
  | [], _ => rfl
  | d :: ds, h => by
    obtain ⟨a1, a2⟩ := Bool.and_eq_true_iff.mp (show (plainD d && plainAll ds) = true from h)
    simp only [PyData.canLayAll0, canLay_plain d a1, canLayAll_plain ds a2, Bool.and_self]
end
theorem shaped_plain {n : Nat} {d : PyData} (h : plainD d = true) (k : Pz n d) : SeqAt.shaped d = true := by
  unfold SeqAt.shaped
  rw [canLay_plain d h, Bool.true_and]
  exact decide_eq_true (Nat.le_trans k.dp (by decide))
end HX
set_option Elab.async false
set_option linter.all false
set_option maxRecDepth 100000
set_option maxHeartbeats 4400000
namespace HX
open L2 PyProof.Rows PySem.Spec PySem
open PySem.W (Frag)
/-! ### any data beside texts: in, not in; tuples of the very same things -/
section
open PySem.SeqAt
open AutoSeq1 (wpAny_loadPart')
open MeetsSeq
section
variable {A : Around} {E : Value → Shared → Prop} {s : Shared} {prog : Program} {w : World}
theorem dict_decl {l : Addr} {o : Obj} {b : Str} {u : Tok} {Q : Value → Shared → Prop} (hl : s.heap.get? l = some o) (hc : o.cls = .type "dict") (h : Q .notImplemented s) : wpAny (model prog w) A (call (.builtin "dict.__eq__") [.ref l, .str b u]) Q E s := by
  have ti : s.TypeIs (.ref l) "dict" := ⟨_, hl, hc⟩
  refine wpAny_call_entry PySem.F.slot_dict_eq ti PySem.F.entry_dict_eq ?_ (PySem.F.args_dict_eq_2 _ _)
  show wpAny _ _ (Builtin.Dict.dictSlotArgs "__eq__" ⟨[.ref l, .str b u], []⟩ >>= _) _ _ s
  refine wpAny_bind ?_
  unfold Builtin.Dict.dictSlotArgs
  refine wpAny_bind (wpAny_notOrdered_dict ti ?_)
  show wpAny _ _ (pure (Value.ref l, Value.str b u)) _ _ s
  refine wpAny_pure ?_
  refine wpAny_bind (wpAny_isInstance (T := "str") (typeIs_str s b u) PySem.F.sub_str_dict ?_)
  simp only [Bool.not_false, if_true]
  refine wpAny_bind (wpAny_rule ?_)
  refine wpAny_bind (wpAny_pure ?_)
  exact wpAny_pure ⟨_, rfl, h⟩
theorem str_eq_declines_dict (b : Str) (u : Tok) (l : Addr) (es : Array DictEntry) (n : Nat) (dd : Option Addr) (sl : Array (Option Value)) :
    Meets (Builtin.«str.__eq__» ⟨[.str b u, .ref l], []⟩) (fun _ R s => s.heap.get? l = some { cls := .type "dict", dict := dd, data := .dict es n, slots := sl } ∧ R (.ok (.ret .notImplemented)) s) :=
  .of_wp fun prog w A R s h => by obtain ⟨hp, g, d, tk, os⟩ := s; obtain ⟨hl, h⟩ := h; wp_walk using wpAny_loadPart' hl, wpAny_load hl; exact ⟨_, rfl, h⟩
theorem RcAt.str_dict {l : Addr} {o : Obj} {es : Array DictEntry} {n : Nat} (b : Str) (u : Tok) (hl : s.heap.get? l = some o) (hc : o.cls = .type "dict") (hd : o.data = .dict es n) (hu : A.units < cLine) : RcAt A s (.str b u) (.ref l) false := fun prog w E Q h => by
  obtain ⟨cls, dd, data, sl⟩ := o
  simp only at hc hd
  subst hc hd
  exact rc_eq_decline_or (k := false) (typeIs_str s b u) ⟨_, hl, rfl⟩ (by decide) F.sub_dict_str F.slot_str_eq F.slot_dict_eq_refl
    (fun _ hq => call_meets F.slot_str_eq (typeIs_str s b u) F.entry_str_eq (F.args_str_eq_2 _ _) (str_eq_declines_dict b u l es n dd sl) ⟨hl, hq⟩)
    (fun _ hq => dict_decl hl rfl hq)
    (fun _ hq => wpAny_of_eq (rfl : isSame (.str b u) (.ref l) = pure false) hq) (.inr hu) h
theorem EqAt.str_dict {l : Addr} {o : Obj} {es : Array DictEntry} {n : Nat} (b : Str) (u : Tok) (hl : s.heap.get? l = some o) (hc : o.cls = .type "dict") (hd : o.data = .dict es n) (hu : A.units < cLine) : EqAt A s (.str b u) (.ref l) false := fun prog w E Q h => by
  unfold eqBool
  refine wpAny_holding ?_
  refine wpAny_ite_split (fun hab => absurd (eq_of_beq hab) nofun) (fun _ => ?_)
  exact wpAny_bind (RcAt.str_dict b u hl hc hd hu prog w E _ (wpAny_truthy_bool h))
end
section
variable {X : Cx} {pins : List (Addr × Obj)} {σ : L2.St} {H : Hp} {s : Shared}
def hasD (d : PyData) (ss : List Str) : Bool := match d with | .str z => decide (z ∈ ss) | _ => false
def eqZ (d : PyData) (y : Value) : Bool := match d, y with | .str z, .str b _ => b == z | _, _ => false
theorem eqAt_z {A : Around} {p : Addr} {x : V} {v : Value} {d : PyData} {b : Str} {t : Tok} (I : Inv X pins σ H s) (h : Dz p H x d) (r : RelV x v) (hu : A.units < cLine) : EqAt A s (.str b t) v (eqZ d (.str b t)) := by
  cases h with
  | non => cases (show v = .none from r); exact EqAt.str_none b t
  | bl c => cases (show v = .bool c from r); exact EqAt.str_bool b t c
  | int i => obtain ⟨u, rfl⟩ := (show ∃ u, v = .int i u from r); exact EqAt.str_int b t i u
  | str z => obtain ⟨u, rfl⟩ := (show ∃ u, v = .str z u from r); exact EqAt.str_str b t z u
  | lst hs _ _ _ _ =>
    cases (show v = .ref _ from r)
    obtain ⟨its, rv, pl, _⟩ := I.list (SqL.of hs)
    exact EqAt.str_list b t pl.isList hu
  | tup hs _ _ =>
    cases (show v = .ref _ from r)
    obtain ⟨its, rv, pl, _⟩ := I.tuple (SqT.of hs)
    exact EqAt.str_tuple b t pl hu
  | dct hs _ _ =>
    cases (show v = .ref _ from r)
    obtain ⟨_, na, vs, kv, o, es, ep, ho, hc, hd, _, hp, _⟩ := dk_of I.hok hs
    exact EqAt.str_dict b t ho hc.1 hd hu
theorem any_z {d : PyData} : ∀ {ss : List Str} {us : List Value}, Vals (ss.map V.str) us → us.any (eqZ d) = hasD d ss
  | [], us, h => by cases h; cases d <;> rfl
  | z :: ss, us, h => by
    cases h with
    | cons r1 r2 =>
      obtain ⟨t, rfl⟩ := (show ∃ t, _ = Value.str z t from r1)
      rw [List.any_cons, any_z r2]
      cases d with
      | str y =>
        show ((z == y) || decide (y ∈ ss)) = decide (y ∈ z :: ss)
        by_cases e : z = y
        · subst e; simp
        · have e2 : ¬ y = z := fun q => e q.symm
          simp [e, e2]
      | _ => rfl
/-- any data not in a tuple of texts -/
def rNiZ (K : Frag) : R2 := fun x y H Q => ∃ (p : Addr) (d : PyData) (a : Addr) (ss : List Str), Dz p H x d ∧ y = .ref a ∧ SqT K H a (ss.map V.str) ∧ Q (.bl (!(hasD d ss))) H
theorem op_notInZ (hu : X.A.units + 64 < cLine) : OpR X (compareOp .NotIn) (rNiZ X.K) := by
  intro pins s σ H x y v u; intro Q I rx ry h
  obtain ⟨p, d, a, ss, hz, rfl, hq, q⟩ := h
  cases (show u = .ref a from ry)
  obtain ⟨its, r, pl, _⟩ := I.tuple hq
  refine SeqAt.notIn_tupleAt (eqZ d) pl (fun w hw => ?_) ⟨.bl _, H, I, rfl, ?_⟩
  · obtain ⟨i, hi⟩ := List.getElem?_of_mem (show w ∈ its by simpa using hw)
    obtain ⟨x2, hx2⟩ : ∃ x2, (ss.map V.str)[i]? = some x2 := ⟨_, List.getElem?_eq_getElem (by have := (List.getElem?_eq_some_iff.mp hi).1; rw [r.length]; exact this)⟩
    obtain ⟨u', hu', ru⟩ := r.get hx2
    rw [hi] at hu'
    cases hu'
    rw [List.getElem?_map] at hx2
    cases e : ss[i]? with
    | none => rw [e] at hx2; cases hx2
    | some z =>
      rw [e] at hx2
      cases hx2
      obtain ⟨t, rfl⟩ := (show ∃ t, w = Value.str z t from ru)
      exact eqAt_z I hz rx (by show X.A.in1.units < cLine; have : X.A.in1.units ≤ X.A.units + 1 := Nat.le_refl _; omega)
  · rw [show its.toArray.any (eqZ d) = its.any (eqZ d) by simp, any_z r]
    exact q
/-- values that are one and the same in two tuples -/
theorem eqAt_sameV {A : Around} {x : V} {v u : Value} (hx : flatV x = true ∨ ∃ a, x = .ref a) (r : RelV x v) (r2 : RelV x u) : EqAt A s v u true := by
  rcases hx with hx | ⟨a, rfl⟩
  · cases x with
    | non => cases (show v = .none from r); cases (show u = .none from r2); exact EqAt.same _
    | bl c => cases (show v = .bool c from r); cases (show u = .bool c from r2); exact EqAt.same _
    | int i => obtain ⟨t, rfl⟩ := (show ∃ t, v = .int i t from r); obtain ⟨t2, rfl⟩ := (show ∃ t, u = .int i t from r2); exact cast (by rw [beq_self_eq_true]) (EqAt.int_int (A := A) (s := s) i t i t2)
    | str i => obtain ⟨t, rfl⟩ := (show ∃ t, v = .str i t from r); obtain ⟨t2, rfl⟩ := (show ∃ t, u = .str i t from r2); exact cast (by rw [beq_self_eq_true]) (EqAt.str_str (A := A) (s := s) i t i t2)
    | _ => cases hx
  · cases (show v = .ref a from r); cases (show u = .ref a from r2); exact EqAt.same _
def sameOk (x : V) : Prop := flatV x = true ∨ ∃ a, x = .ref a
/-- (t,) != (u,), t and u tuples of the very same things -/
def rNeSame : R2 := fun x y H Q => ∃ (a b c d : Addr) (xs : List V), x = .ref a ∧ y = .ref b ∧ H a = some (.tup [.ref c]) ∧ H b = some (.tup [.ref d]) ∧ H c = some (.tup xs) ∧ H d = some (.tup xs) ∧ (∀ v ∈ xs, sameOk v) ∧ Q (.bl false) H
theorem all_true {n : Nat} {e : Nat → Bool} (h : ∀ i, i < n → e i = true) : (List.range n).all e = true := List.all_eq_true.mpr fun i hi => h i (List.mem_range.mp hi)
theorem op_neSame (hu : X.A.units + 64 < cLine) : OpR X (compareOp .NotEq) rNeSame := by
  intro pins s σ H x y v u; intro Q I rx ry h
  obtain ⟨a, b, c, d, xs, rfl, rfl, ha, hb, hc, hd, hx, q⟩ := h
  cases (show v = .ref a from rx)
  cases (show u = .ref b from ry)
  obtain ⟨i1, r1, p1, _⟩ := I.tuple (SqT.of (K := X.K) ha)
  obtain ⟨i2, r2, p2, _⟩ := I.tuple (SqT.of (K := X.K) hb)
  obtain ⟨i3, r3, p3, _⟩ := I.tuple (SqT.of (K := X.K) hc)
  obtain ⟨i4, r4, p4, _⟩ := I.tuple (SqT.of (K := X.K) hd)
  have inner : EqAt X.A.in1 s (.ref c) (.ref d) true := by
    by_cases e : c = d
    · subst e; exact EqAt.same _
    · have u1 : X.A.in1.units < cLine := by have : X.A.in1.units ≤ X.A.units + 1 := Nat.le_refl _; omega
      have k := RcAt.tuples (e := fun _ => true) p3 p4 u1 (fun j h1 h2 => by
        have j1 : j < i3.length := by simpa using h1
        have j2 : j < i4.length := by simpa using h2
        have jx : j < xs.length := by rw [r3.length]; exact j1
        have ex : xs[j]? = some xs[j] := List.getElem?_eq_getElem jx
        obtain ⟨w1, hw1, q1⟩ := r3.get ex
        obtain ⟨w2, hw2, q2⟩ := r4.get ex
        rw [List.getElem?_eq_getElem j1] at hw1
        rw [List.getElem?_eq_getElem j2] at hw2
        have e1 : i3.toArray[j] = w1 := by simpa using hw1
        have e2 : i4.toArray[j] = w2 := by simpa using hw2
        rw [e1, e2]
        exact eqAt_sameV (hx _ (List.getElem_mem jx)) q1 q2)
      have sz : i3.toArray.size = i4.toArray.size := by rw [List.size_toArray, List.size_toArray, ← r3.length, ← r4.length]
      have kk : ((List.range (min i3.toArray.size i4.toArray.size)).all (fun _ => true) && i3.toArray.size == i4.toArray.size) = true := by
        rw [all_true fun _ _ => rfl, sz, beq_self_eq_true]; rfl
      rw [kk] at k
      exact EqAt.of_refs e k
  match r1, r2 with
  | .cons q1 .nil, .cons q2 .nil =>
    rename_i w1 w2
    cases (show w1 = .ref c from q1)
    cases (show w2 = .ref d from q2)
    refine RcNeAt.tuples (e := fun _ => true) p1 p2 (by omega) (fun j h1 h2 => ?_) X.prog X.w _ _ ?_
    · have j0 : j = 0 := by
        have : j < 1 := by simpa using h1
        omega
      subst j0
      exact inner
    · exact ⟨.bl false, H, I, rfl, q⟩
end
end
end HX
set_option Elab.async false
set_option linter.all false
set_option maxRecDepth 100000
set_option maxHeartbeats 4400000
namespace HX
open L2 PyProof.Rows PySem.Spec PySem
open PySem.W (Frag)
/-! ### own == and != beside None and texts too -/
section
variable {X : Cx}
def eqSideW (K : Frag) (C : Addr) (H : Hp) (y : V) : Prop := eqSide K C H y ∨ (y = .non ∧ PySem.W.notFirst K C (.type "NoneType") = true) ∨ ((∃ z, y = .str z) ∧ PySem.W.notFirst K C (.type "str") = true)
def rEqW (K : Frag) (C : Addr) (sp : Sp) (E : XK) : R2 := fun x y H Q => isI C H x ∧ eqSideW K C H y ∧ sp [x, y] H Q E
def rNeW (K : Frag) (C : Addr) (sp : Sp) (E : XK) : R2 := fun x y H Q => isI C H x ∧ eqSideW K C H y ∧ sp [x, y] H (fun v H' => ∃ b, v = .bl b ∧ Q (.bl (!b)) H') E
theorem side_looksW {pins : List (Addr × Obj)} {σ : L2.St} {H : Hp} {s : Shared} {C f : Addr} {y : V} {u : Value} (I : Inv X pins σ H s) (T : EqC X.K C f) (h : eqSideW X.K C H y) (ry : RelV y u) : ∃ tb, PySem.W.Looks (model X.prog X.w) s.heap (typeOf u) tb ∧ PySem.W.notFirst X.K C tb = true := by
  rcases h with h | ⟨rfl, h⟩ | ⟨⟨z, rfl⟩, h⟩
  · exact side_looks I T h ry
  · cases (show u = .none from ry)
    exact ⟨_, fun A Q E s k q => wpAny_typeOf (show s.TypeIs .none "NoneType" from rfl) q, h⟩
  · obtain ⟨t, rfl⟩ := (show ∃ t, u = Value.str z t from ry)
    exact ⟨_, fun A Q E s k q => wpAny_typeOf (typeIs_str s z t) q, h⟩
theorem op_eqW {CX : CXT} {C f : Addr} {k : Nat} {fd : FuncData} {ps : List Str} {sp : Sp} {E : XK} (T : EqC X.K C f) (F1 : FnOk X.prog X.w X.K X.mg X.base CX k f fd ps sp) (b1 : Binds X.K fd ps []) (hr : Room k X.A) (hx : Passes CX X E) : OpR X (compareOp .Eq) (rEqW X.K C sp E) := by
  intro pins s σ H x y v u; intro Q I rx ry h
  obtain ⟨m, hF⟩ := I.fr
  have hu := hr.units0
  obtain ⟨⟨a, dx, fs, rfl, ea⟩, hy, q⟩ := h
  obtain ⟨od, J⟩ := isI_inst I ea
  cases (id rx : v = Value.ref a)
  obtain ⟨tb, hb, hn⟩ := side_looksW I T hy ry
  unfold compareOp
  exact PySem.W.cmp_K (op := .Eq) hu hF I.ok.mod.kin J hb hn T.hs T.hf (thn (run_fn (us := [.ref a, u]) (vs := [.ref a, y]) F1 hr b1 .nil hx I (.cons rfl (.cons ry .nil)) q) fun u s' z => ep_back z)
theorem op_neW {CX : CXT} {C f : Addr} {k : Nat} {fd : FuncData} {ps : List Str} {sp : Sp} {E : XK} (T : EqC X.K C f) (F1 : FnOk X.prog X.w X.K X.mg X.base CX k f fd ps sp) (b1 : Binds X.K fd ps []) (hr : Room (k + 1) X.A) (hx : Passes CX X E) : OpR X (compareOp .NotEq) (rNeW X.K C sp E) := by
  intro pins s σ H x y v u; intro Q I rx ry h
  have hu : X.A.units + 1 < cLine := hu_of hr
  obtain ⟨⟨a, dx, fs, rfl, ea⟩, hy, q⟩ := h
  obtain ⟨od, J⟩ := isI_inst I ea
  cases (id rx : v = Value.ref a)
  obtain ⟨tb, hb, hn⟩ := side_looksW I T hy ry
  unfold compareOp
  refine cmpNe_K hu I.kIn J hb hn T.hm T.hne T.hs T.hf (thn (run_fn1 (us := [.ref a, u]) (vs := [.ref a, y]) F1 hr b1 hx I (.cons rfl (.cons ry .nil)) q) fun u s' z => ?_)
  obtain ⟨v, H', I', r, c, rfl, hq⟩ := z
  cases r
  exact ⟨c, rfl, .bl (!c), H', I', rfl, hq⟩
end
end HX
set_option Elab.async false
set_option linter.all false
set_option maxRecDepth 100000
set_option maxHeartbeats 4400000
namespace HX
open L2 PyProof.Rows PySem.Spec PySem
open PySem.W (Frag)
/-! ### tuple(text) -/
section
variable {X : Cx}
def signsV (z : Str) : List V := z.cps.toList.map fun c => V.str ⟨#[c]⟩
theorem signs_vals {z : Str} {acc : Array Value} (h : ItemsOf (SignAt z) acc z.cps.size) : Vals (signsV z) acc.toList := by
  have gen : ∀ (cs : List Nat) (us : List Value), cs.length = us.length → (∀ (i : Nat) (c : Nat) (u : Value), cs[i]? = some c → us[i]? = some u → ∃ t, u = .str ⟨#[c]⟩ t) → Vals (cs.map fun c => V.str ⟨#[c]⟩) us := by
    intro cs
    induction cs with
    | nil => intro us hl _; cases us with
      | nil => exact .nil
      | cons u us => simp at hl
    | cons c cs ih => intro us hl hi; cases us with
      | nil => simp at hl
      | cons u us => exact .cons (hi 0 c u rfl rfl) (ih us (by simpa using hl) fun i c u a b => hi (i + 1) c u (by simpa using a) (by simpa using b))
  refine gen _ _ (by rw [Array.length_toList, Array.length_toList]; exact h.1.symm) fun i c u h1 h2 => ?_
  obtain ⟨c2, t, e1, e2⟩ := h.2 i u (by rw [← Array.getElem?_toList]; exact h2)
  rw [Array.getElem?_toList] at h1
  rw [h1] at e1
  cases e1
  exact ⟨t, e2⟩
def rTupS : List V → Hp → VK → Prop := fun xs H Q => ∃ z : Str, xs = [.str z] ∧ z.cps.size ≤ sizeLine ∧ ∀ l, H l = none → Q (.ref l) (upd H l (.tup (signsV z)))
theorem call_tupS (hc : X.calm = true) : CallR X (.type "tuple") rTupS := by
  intro pins s σ H xs us; intro Q I r h
  obtain ⟨z, rfl, hz, q⟩ := h
  obtain ⟨u, rfl, t, rfl⟩ := vals1 r
  refine call_tuple_str (hsz := hz) (I.ok.hd hc) z t fun h' tk acc kp ha => ?_
  have I1 : Inv X pins σ H { s with heap := h', toks := tk } := I.kept (t' := tk) kp
  have I2 : Inv X pins σ (upd H h'.objs.size (.tup (signsV z))) { s with heap := h'.push { cls := .type "tuple", data := .seq acc }, toks := tk } :=
    I1.laid (t' := tk) (fun b o e => Heap.get?_push_of_some _ e) (Nat.le_refl _) (show ObjOk X.prog X.w _ _ _ (.tup (signsV z)) from ⟨by unfold signsV; rw [List.length_map, Array.length_toList]; exact hz, acc.toList, signs_vals ha, IsTup.new _ _⟩)
  exact ⟨.ref h'.objs.size, _, I2, rfl, q _ (I1.hok.fresh (Nat.le_refl _))⟩
end
end HX
set_option Elab.async false
set_option linter.all false
set_option maxRecDepth 100000
set_option maxHeartbeats 4400000
namespace HX
open L2 PyProof.Rows PySem.Spec PySem
open PySem.W (Frag)
/-! ### a def with a default () and keyword-only ones known = False, held = True, own = (), in the head of facts -/
def knilB (K : Frag) (a : Addr) : Bool := match K.lookup a with
  | some ⟨c, _, .seq its _, _⟩ => decide (c = .type "tuple") && its.isEmpty
  | _ => false
def dfB (K : Frag) (v : Value) : Bool := match v with
  | .ref T => (match K.lookup T with
    | some ⟨_, _, .seq its _, _⟩ => (match its.toList with
      | [.ref a] => knilB K a
      | _ => false)
    | _ => false)
  | _ => false
def kdB (K : Frag) (v : Value) : Bool := match v with
  | .ref D => He.eqO (PySem.W.nsIn K D "known") (some (some (.bool false))) && (He.eqO (PySem.W.nsIn K D "held") (some (some (.bool true))) && (match PySem.W.nsIn K D "own" with
    | some (some (.ref b)) => knilB K b
    | _ => false))
  | _ => false
def kwB (K : Frag) (f : Addr) : Bool := match K.lookup f with
  | some ⟨_, _, .func fd, _⟩ => dfB K fd.defaults && kdB K fd.kwdefaults
  | _ => false
theorem knil_ok {K : Frag} {a : Addr} (c : knilB K a = true) : ∃ (o : Obj) (n : Nat), K.lookup a = some o ∧ o.cls = .type "tuple" ∧ o.data = .seq #[] n := by
  unfold knilB at c
  cases q : K.lookup a with
  | none => rw [q] at c; cases c
  | some o =>
    obtain ⟨oc, od, dt, osl⟩ := o
    rw [q] at c
    cases dt with
    | seq its n =>
      obtain ⟨c1, c2⟩ := Bool.and_eq_true_iff.mp c
      have e : its = #[] := Array.isEmpty_iff.mp c2
      subst e
      exact ⟨_, n, rfl, of_decide_eq_true c1, rfl⟩
    | _ => cases c
theorem df_ok {K : Frag} {v : Value} (c : dfB K v = true) : ∃ a, DflV K v [.ref a] ∧ knilB K a = true := by
  unfold dfB at c
  cases v with
  | ref T =>
    dsimp only at c
    cases q : K.lookup T with
    | none => rw [q] at c; cases c
    | some o =>
      obtain ⟨oc, od, dt, osl⟩ := o
      rw [q] at c
      cases dt with
      | seq its n =>
        obtain ⟨l⟩ := its
        match l, c with
        | [.ref a], c => exact ⟨a, .inr ⟨by simp, T, _, [.ref a], n, rfl, q, rfl, .cons rfl .nil⟩, c⟩
      | _ => cases c
  | _ => cases c
theorem kd_ok {K : Frag} {v : Value} (c : kdB K v = true) : ∃ b, KwdV K v [("known", .bl false), ("held", .bl true), ("own", .ref b)] ∧ knilB K b = true := by
  unfold kdB at c
  cases v with
  | ref D =>
    dsimp only at c
    obtain ⟨c1, c2⟩ := Bool.and_eq_true_iff.mp c
    obtain ⟨c2, c3⟩ := Bool.and_eq_true_iff.mp c2
    cases q : PySem.W.nsIn K D "own" with
    | none => rw [q] at c3; cases c3
    | some o =>
      rw [q] at c3
      cases o with
      | none => cases c3
      | some u =>
        cases u with
        | ref b =>
          refine ⟨b, .inr ⟨D, rfl, fun p hp => ?_⟩, c3⟩
          simp only [List.mem_cons, List.not_mem_nil, or_false] at hp
          rcases hp with rfl | rfl | rfl
          · exact ⟨_, He.eqO_ok c1, rfl⟩
          · exact ⟨_, He.eqO_ok c2, rfl⟩
          · exact ⟨_, q, rfl⟩
        | _ => cases c3
  | _ => cases c
theorem kw_fun {K : Frag} {x qual : Str} {params : Arguments} {body : List Stmt} {scope : Scope} {v : V} {f : Addr} {fd : FuncData} (F : FunD K x qual params body scope [v] [] f fd) (c : kwB K f = true) :
    ∃ a b, FunD K x qual params body scope [.ref a] [("known", .bl false), ("held", .bl true), ("own", .ref b)] f fd ∧ (∃ (o : Obj) (n : Nat), K.lookup a = some o ∧ o.cls = .type "tuple" ∧ o.data = .seq #[] n) ∧ ∃ (o : Obj) (n : Nat), K.lookup b = some o ∧ o.cls = .type "tuple" ∧ o.data = .seq #[] n := by
  obtain ⟨oc, od, dV, kV, doc, pm, an, cdv, ct, osl, rfl, lk, hcd, hD, hK⟩ := F.ex
  unfold kwB at c
  rw [lk] at c
  obtain ⟨c1, c2⟩ := Bool.and_eq_true_iff.mp c
  obtain ⟨a, h1, n1⟩ := df_ok (v := dV) c1
  obtain ⟨b, h2, n2⟩ := kd_ok (v := kV) c2
  exact ⟨a, b, ⟨⟨oc, od, dV, kV, doc, pm, an, cdv, ct, osl, rfl, lk, hcd, h1, h2⟩, F.kp⟩, knil_ok n1, knil_ok n2⟩
/-! the same hook (HX25's hookY), which also knows what the tuples hold that the path leads to -/
def itemsG (g : Addr → Option Obj) (as : List Addr) : List Addr := as.flatMap fun a => match g a with
  | some o => (match o.data with
    | .seq its _ => its.toList.flatMap He.refV
    | _ => [])
  | none => []
def obsZ (n : Nat) (ex : Frag → Bool) (fn fd : List DX) (g : Addr → Option Obj) : He.AlD :=
  let as := pathG g n [mainGlobals]
  let K := He.frG g (as ++ itemsG g as)
  (ex K && (fn.all (fun d => d.ok K) && fd.all fun d => d.ok2 K), (fn ++ fd).map fun d => fnX K (d.at_ K))
def hookZ (n : Nat) (ex : Frag → Bool) (fn fd : List DX) : PySem.W.Hook where
  α := He.AlD
  obs := fun s => obsZ n ex fn fd s.heap.get?
  val := fun _ => valY fn fd
  says := fun _ h => ∃ K : Frag, K.In h ∧ SaysY ex fn fd K
  of := fun _ _ e => ⟨_, He.frG_in, e⟩
  keeps := fun _ _ _ ⟨K, a, c⟩ k => ⟨K, PySem.W.Frag.In.keeps a k, c⟩
def obTZ (n : Nat) (ex : Frag → Bool) (fn fd : List DX) (s : PySem.W.SharedT) : He.AlD := obsZ n ex fn fd (HandSHeadRun.getT s)
theorem obTZ_eq {n : Nat} {ex : Frag → Bool} {fn fd : List DX} (s : PySem.W.SharedT) : obTZ n ex fn fd s = (hookZ n ex fn fd).obs s.abs := by
  have e : HandSHeadRun.getT s = s.abs.heap.get? := funext (HandSHeadRun.getT_eq s)
  unfold obTZ; rw [e]; rfl
end HX
set_option Elab.async false
set_option linter.all false
set_option maxRecDepth 100000
set_option maxHeartbeats 4400000
namespace HX
open L2 LamX PyProof.Rows PySem.Spec PySem
open PySem.W (Frag)
/-! ### a lambda as a value that nobody calls -/
def FnO (a : Addr) : HO := .ext fun h => ∃ o, h.get? a = some o
theorem fnO_ok {P : Program} {w : World} {H : Hp} {h : Heap} {a : Addr} {o : Obj} (e : h.get? a = some o) : ObjOk P w H h a (FnO a) := ⟨⟨o, e⟩, ⟨o, e⟩, fun _ _ ⟨o, x⟩ k => ⟨o, k o x⟩⟩
section
variable {X : Cx} {pins : List (Addr × Obj)} {σ : L2.St} {H : Hp} {s : Shared}
theorem lam_val {T : List (Addr × Str)} {c P : Addr} {params : Arguments} {body : Expr} {scope : Scope} {pos : Pos} {E : Value → Shared → Prop} {Q : Value → Shared → Prop} (I : Inv X pins σ H s) (TB : TabB X.base X.mg c P) (hcode : X.env.code = .ref c)
    (hm : (P, X.env.qual ++ "<lambda>") ∈ T) (hu : ∀ p ∈ T, p.1 = P → p.2 = X.env.qual ++ "<lambda>") (hT : Tabs T H) (hdef : defaultsOf params X.env = ([], [])) (hfree : ∀ y ∈ scope.names, y.2 = .free → ∃ c, X.env.cells.lookup y.1 = some c)
    (h : ∀ (f : Addr) (H1 : Hp) (s' : Shared), Inv X pins σ (upd H1 f (FnO f)) s' → ExtN H H1 → Tabs T H1 → H1 f = none → Q (.ref f) s') :
    wpAny (model X.prog X.w) X.A (eval (.Lambda params body scope pos) X.env) Q E s := by
  obtain ⟨ps, hP, ht, ha⟩ := hT _ hm
  refine PySem.W.kla_eval hdef ?_
  have bP : s.heap.BuiltinsAt X.mg P := TB.bm.keeps I.bk
  have hP' : s.heap.get? P = some { cls := .none, data := .fields ps } := I.hok P _ hP
  cases hc : codeAmong pos ps.toList with
  | none =>
    refine PySem.W.kla_makeFunction (mg := X.mg) (c := c) (P := P) (ps := ps) (closure_ok hfree) I.ok.glob (I.mod.glob.keeps I.bk) hcode (TB.code.keeps I.bk) hP' ht hc TB.gP bP fun c' ctv h' tk hx hge hlt hrec htb => ?_
    obtain ⟨c2, oc, vs, t, e2, hoc, hd, hv⟩ := hrec
    cases e2
    have hsz : s.heap.objs.size ≤ h'.objs.size := Nat.le_trans hge (Nat.le_of_lt hlt)
    have nC : H c' = none := I.hok.fresh hge
    have I1 := inv_table (t' := tk) (more := #[rawInt pos.line, rawInt pos.col, .ref c']) (h' := h') I hP hx htb hge ⟨oc, vs, t, hoc, hd, hv⟩
    have hE : ExtN H (upd (upd H P (.tbl (ps ++ #[rawInt pos.line, rawInt pos.col, .ref c']))) c' (CodeO c' (X.env.qual ++ "<lambda>"))) := fun b o e n => by
      rw [upd_ne (ne_of_none e nC), upd_ne (fun z => n ps (Option.some.inj (e.symm.trans (by rw [z]; exact hP))))]
      exact e
    have eL : (ps ++ #[rawInt pos.line, rawInt pos.col, .ref c']).toList = ps.toList ++ [rawInt pos.line, rawInt pos.col, .ref c'] := by simp
    have I2 := I1.laid (a := h'.objs.size) (o := FnO h'.objs.size) (t' := tk) (h' := h'.push (PySem.W.kla_obj "<lambda>" (X.env.qual ++ "<lambda>") params body scope (cloFrom X.env.cells scope.names []) ((X.mg "__name__").getD .none) c' ctv)) (fun b o e => Heap.get?_push_of_some _ e) (Nat.le_refl _) (fnO_ok (Heap.get?_push_size _ rfl))
    refine h h'.objs.size _ _ I2 hE (fun p hp => ?_) (I1.hok.fresh (Nat.le_refl _))
    by_cases hb : p.1 = P
    · rw [hu p hp hb, hb]
      refine ⟨_, by rw [upd_ne (ne_of_none hP nC), upd_same], by rw [eL]; exact PySem.TriplesOk_snoc _ _ _ _ ht, fun p' cv hcv => ?_⟩
      rw [eL] at hcv
      rcases among_app _ ht hcv with z | z
      · obtain ⟨c0, e1, e2⟩ := ha p' cv z
        exact ⟨c0, e1, hE _ _ e2 codeO_ne⟩
      · exact ⟨c', z, upd_same⟩
    · obtain ⟨ps', a1, a2, a3⟩ := hT p hp
      refine ⟨ps', by rw [upd_ne (ne_of_none a1 nC), upd_ne hb]; exact a1, a2, fun p' cv hcv => ?_⟩
      obtain ⟨c0, e1, e2⟩ := a3 p' cv hcv
      exact ⟨c0, e1, hE _ _ e2 codeO_ne⟩
  | some cv =>
    obtain ⟨c', e, hco⟩ := ha pos cv hc
    subst e
    refine PySem.W.kla_makeFunctionHit (mg := X.mg) (c := c) (P := P) (ps := ps) (closure_ok hfree) I.ok.glob (I.mod.glob.keeps I.bk) hcode (TB.code.keeps I.bk) hP' ht hc bP fun ctv h' tk hx hsz => ?_
    have I1 : Inv X pins σ H { s with heap := h', toks := tk } := I.kept fun b o e => hx b o e
    have I2 := I1.laid (a := h'.objs.size) (o := FnO h'.objs.size) (t' := tk) (h' := h'.push (PySem.W.kla_obj "<lambda>" (X.env.qual ++ "<lambda>") params body scope (cloFrom X.env.cells scope.names []) ((X.mg "__name__").getD .none) c' ctv)) (fun b o e => Heap.get?_push_of_some _ e) (Nat.le_refl _) (fnO_ok (Heap.get?_push_size _ rfl))
    exact h h'.objs.size H _ I2 (ExtN.refl H) hT (I1.hok.fresh (Nat.le_refl _))
def tLamV (T : List (Addr × Str)) : TE := fun σ H Q => Tabs T H ∧ ∀ (H1 : Hp) (f : Addr), ExtN H H1 → Tabs T H1 → H1 f = none → Q (.ref f) (upd H1 f (FnO f))
theorem pe_lamV {T : List (Addr × Str)} {c P : Addr} {params : Arguments} {body : Expr} {scope : Scope} {pos : Pos} (TB : TabB X.base X.mg c P) (hcode : X.env.code = .ref c)
    (hm : (P, X.env.qual ++ "<lambda>") ∈ T) (hu : ∀ p ∈ T, p.1 = P → p.2 = X.env.qual ++ "<lambda>") (hdef : defaultsOf params X.env = ([], []) := by rfl) (hfree : (scope.names.all fun y => !decide (y.2 = .free)) = true := by decide +kernel) : PE X (.Lambda params body scope pos) (tLamV T) :=
  ⟨fun pp t0 τ G R J ⟨hT, h⟩ => lam_val J TB hcode hm hu hT hdef (fun y hy e => absurd (List.all_eq_true.mp hfree y hy) (by rw [decide_eq_true e]; decide)) fun f H1 s' I1 en t1 hf => ⟨.ref f, _, I1, rfl, h H1 f en t1 hf⟩⟩
/-! ### list(text) -/
def rLstS : List V → Hp → VK → Prop := fun xs H Q => ∃ z : Str, xs = [.str z] ∧ z.cps.size ≤ sizeLine ∧ ∀ l, H l = none → l ≠ sysModules → Q (.ref l) (upd H l (.lst (signsV z)))
theorem call_lstS (hc : X.calm = true) : CallR X (.type "list") rLstS := by
  intro pins s σ H xs us; intro Q I r h
  obtain ⟨z, rfl, hz, q⟩ := h
  obtain ⟨u, rfl, t, rfl⟩ := vals1 r
  refine call_list_str (hn := hz) (I.ok.hd hc) z t fun h' tk acc c' kp hS ha => ?_
  have I2 : Inv X pins σ (upd H s.heap.objs.size (.lst (signsV z))) { s with heap := h', toks := tk } :=
    I.laid (t' := tk) kp (Nat.le_refl _) (show ObjOk X.prog X.w _ _ _ (.lst (signsV z)) from ⟨by unfold signsV; rw [List.length_map, Array.length_toList]; exact hz, acc.toList, c', signs_vals ha, by simpa using hS⟩)
  exact ⟨.ref s.heap.objs.size, _, I2, rfl, q _ (I.hok.fresh (Nat.le_refl _)) (Nat.ne_of_gt I.big)⟩
/-! ### a thing equals itself -/
theorem all_yes {n : Nat} : (List.range n).all (fun _ => true) = true := List.all_eq_true.mpr fun _ _ => rfl
def rEqS : R2 := fun x y H Q => y = x ∧ (x = .non ∨ (∃ a xs, x = .ref a ∧ H a = some (.tup xs)) ∨ ∃ a xs, x = .ref a ∧ H a = some (.lst xs)) ∧ Q (.bl true) H
theorem op_eqS (hu : X.A.units + 64 < cLine) : OpR X (compareOp .Eq) rEqS := by
  intro pins s σ H x y v u; intro Q I rx ry h
  obtain ⟨rfl, h, q⟩ := h
  have fin : EP X pins σ Q (.bool true) s := ⟨.bl true, H, I, rfl, q⟩
  rcases h with rfl | ⟨a, xs, rfl, ha⟩ | ⟨a, xs, rfl, ha⟩
  · cases (show v = .none from rx); cases (show u = .none from ry)
    exact SeqAt.RcAt.none_none X.prog X.w _ _ fin
  · cases (show v = .ref a from rx); cases (show u = .ref a from ry)
    obtain ⟨its, r, p, _⟩ := I.tuple (SqT.of (K := X.K) ha)
    have k := SeqAt.RcAt.tuples (A := X.A) (e := fun _ => true) p p (by omega) (fun j h1 h2 => SeqAt.EqAt.same _)
    rw [all_yes, beq_self_eq_true] at k
    exact k X.prog X.w _ _ fin
  · cases (show v = .ref a from rx); cases (show u = .ref a from ry)
    obtain ⟨its, r, p, _⟩ := I.list (SqL.of (K := X.K) ha)
    have k := SeqAt.RcAt.lists (A := X.A) (e := fun _ => true) p.isList p.isList rfl (by omega) (fun j h1 h2 => SeqAt.EqAt.same _)
    rw [all_yes] at k
    exact k X.prog X.w _ _ fin
def rNeS : R2 := fun x y H Q => y = x ∧ (∃ a xs, x = .ref a ∧ H a = some (.tup xs)) ∧ Q (.bl false) H
theorem op_neS (hu : X.A.units + 64 < cLine) : OpR X (compareOp .NotEq) rNeS := by
  intro pins s σ H x y v u; intro Q I rx ry h
  obtain ⟨rfl, ⟨a, xs, rfl, ha⟩, q⟩ := h
  have fin : EP X pins σ Q (.bool false) s := ⟨.bl false, H, I, rfl, q⟩
  cases (show v = .ref a from rx); cases (show u = .ref a from ry)
  obtain ⟨its, r, p, _⟩ := I.tuple (SqT.of (K := X.K) ha)
  have k := SeqAt.RcNeAt.tuples (A := X.A) (e := fun _ => true) p p (by omega) (fun j h1 h2 => SeqAt.EqAt.same _)
  rw [all_yes, beq_self_eq_true] at k
  exact k X.prog X.w _ _ fin
end
end HX
set_option Elab.async false
set_option linter.all false
set_option maxRecDepth 100000
set_option maxHeartbeats 4400000
namespace K50
open PySem PySem.Spec PyProof.Rows L2 HX
open PySem.W (Frag)

def topS (i : Nat) : Stmt := PySem.Challenge.pw_tapedonce_k50_prices_of_plans.main.body.getD i (.Pass ⟨0, 0, 0, 0⟩)
abbrev s_wall : Stmt := topS 0
abbrev N_wall : List Str := ["k"]
theorem sc_wall : FnScope N_wall ["k"] (defScope s_wall) := ⟨rfl, rfl, rfl, by decide +kernel, rfl, by decide +kernel, by decide +kernel⟩
abbrev s_BadWorld_init : Stmt := inClass (topS 3) 0
abbrev N_BadWorld_init : List Str := ["self", "value"]
theorem sc_BadWorld_init : FnScope N_BadWorld_init ["self", "value"] (defScope s_BadWorld_init) := ⟨rfl, rfl, rfl, by decide +kernel, rfl, by decide +kernel, by decide +kernel⟩
abbrev s_BadSetup_init : Stmt := inClass (topS 4) 0
abbrev N_BadSetup_init : List Str := ["self", "value"]
theorem sc_BadSetup_init : FnScope N_BadSetup_init ["self", "value"] (defScope s_BadSetup_init) := ⟨rfl, rfl, rfl, by decide +kernel, rfl, by decide +kernel, by decide +kernel⟩
abbrev s_BadPlan_init : Stmt := inClass (topS 5) 0
abbrev N_BadPlan_init : List Str := ["self", "value"]
theorem sc_BadPlan_init : FnScope N_BadPlan_init ["self", "value"] (defScope s_BadPlan_init) := ⟨rfl, rfl, rfl, by decide +kernel, rfl, by decide +kernel, by decide +kernel⟩
abbrev s_BadPrices_init : Stmt := inClass (topS 6) 0
abbrev N_BadPrices_init : List Str := ["self", "value"]
theorem sc_BadPrices_init : FnScope N_BadPrices_init ["self", "value"] (defScope s_BadPrices_init) := ⟨rfl, rfl, rfl, by decide +kernel, rfl, by decide +kernel, by decide +kernel⟩
abbrev s_is_whole : Stmt := topS 10
abbrev N_is_whole : List Str := ["value", "low", "below"]
theorem sc_is_whole : FnScope N_is_whole ["value", "low", "below"] (defScope s_is_whole) := ⟨rfl, rfl, rfl, by decide +kernel, rfl, by decide +kernel, by decide +kernel⟩
abbrev s_is_size : Stmt := topS 11
abbrev N_is_size : List Str := ["value"]
theorem sc_is_size : FnScope N_is_size ["value"] (defScope s_is_size) := ⟨rfl, rfl, rfl, by decide +kernel, rfl, by decide +kernel, by decide +kernel⟩
abbrev s_is_most : Stmt := topS 12
abbrev N_is_most : List Str := ["value"]
theorem sc_is_most : FnScope N_is_most ["value"] (defScope s_is_most) := ⟨rfl, rfl, rfl, by decide +kernel, rfl, by decide +kernel, by decide +kernel⟩
abbrev s_are_items : Stmt := topS 13
abbrev N_are_items : List Str := ["value", "size", "most", "worth"]
theorem sc_are_items : FnScope N_are_items ["value", "size", "most"] (defScope s_are_items) := ⟨rfl, rfl, rfl, by decide +kernel, rfl, by decide +kernel, by decide +kernel⟩
abbrev s_is_name : Stmt := topS 14
abbrev N_is_name : List Str := ["value", "letter"]
theorem sc_is_name : FnScope N_is_name ["value"] (defScope s_is_name) := ⟨rfl, rfl, rfl, by decide +kernel, rfl, by decide +kernel, by decide +kernel⟩
abbrev s_are_rising : Stmt := topS 15
abbrev N_are_rising : List Str := ["names", "one", "other"]
theorem sc_are_rising : FnScope N_are_rising ["names"] (defScope s_are_rising) := ⟨rfl, rfl, rfl, by decide +kernel, rfl, by decide +kernel, by decide +kernel⟩
abbrev s_are_names : Stmt := topS 16
abbrev N_are_names : List Str := ["value", "most", "name"]
theorem sc_are_names : FnScope N_are_names ["value", "most"] (defScope s_are_names) := ⟨rfl, rfl, rfl, by decide +kernel, rfl, by decide +kernel, by decide +kernel⟩
abbrev s_are_pairs : Stmt := topS 17
abbrev N_are_pairs : List Str := ["value", "most", "pair"]
theorem sc_are_pairs : FnScope N_are_pairs ["value", "most"] (defScope s_are_pairs) := ⟨rfl, rfl, rfl, by decide +kernel, rfl, by decide +kernel, by decide +kernel⟩
abbrev s_are_kinds : Stmt := topS 18
abbrev N_are_kinds : List Str := ["value", "most", "with_rows", "kinds", "kind"]
theorem sc_are_kinds : FnScope N_are_kinds ["value", "most", "with_rows"] (defScope s_are_kinds) := ⟨rfl, rfl, rfl, by decide +kernel, rfl, by decide +kernel, by decide +kernel⟩
abbrev s_World_init : Stmt := inClass (topS 24) 0
abbrev N_World_init : List Str := ["self", "size", "most", "cells", "rows", "loose", "at", "cell", "row"]
theorem sc_World_init : FnScope N_World_init ["self", "size", "most", "cells", "rows", "loose"] (defScope s_World_init) := ⟨rfl, rfl, rfl, by decide +kernel, rfl, by decide +kernel, by decide +kernel⟩
abbrev s_World_size : Stmt := inClass (topS 24) 1
abbrev N_World_size : List Str := ["self"]
theorem sc_World_size : FnScope N_World_size ["self"] (defScope s_World_size) := ⟨rfl, rfl, rfl, by decide +kernel, rfl, by decide +kernel, by decide +kernel⟩
abbrev s_World_most : Stmt := inClass (topS 24) 2
abbrev N_World_most : List Str := ["self"]
theorem sc_World_most : FnScope N_World_most ["self"] (defScope s_World_most) := ⟨rfl, rfl, rfl, by decide +kernel, rfl, by decide +kernel, by decide +kernel⟩
abbrev s_World_cells : Stmt := inClass (topS 24) 3
abbrev N_World_cells : List Str := ["self"]
theorem sc_World_cells : FnScope N_World_cells ["self"] (defScope s_World_cells) := ⟨rfl, rfl, rfl, by decide +kernel, rfl, by decide +kernel, by decide +kernel⟩
abbrev s_World_rows : Stmt := inClass (topS 24) 4
abbrev N_World_rows : List Str := ["self"]
theorem sc_World_rows : FnScope N_World_rows ["self"] (defScope s_World_rows) := ⟨rfl, rfl, rfl, by decide +kernel, rfl, by decide +kernel, by decide +kernel⟩
abbrev s_World_loose : Stmt := inClass (topS 24) 5
abbrev N_World_loose : List Str := ["self"]
theorem sc_World_loose : FnScope N_World_loose ["self"] (defScope s_World_loose) := ⟨rfl, rfl, rfl, by decide +kernel, rfl, by decide +kernel, by decide +kernel⟩
abbrev s_World_first : Stmt := inClass (topS 24) 6
abbrev N_World_first : List Str := ["self", "cell", "row"]
theorem sc_World_first : FnScope N_World_first ["self"] (defScope s_World_first) := ⟨rfl, rfl, rfl, by decide +kernel, rfl, by decide +kernel, by decide +kernel⟩
abbrev s_World_eq : Stmt := inClass (topS 24) 7
abbrev N_World_eq : List Str := ["self", "other"]
theorem sc_World_eq : FnScope N_World_eq ["self", "other"] (defScope s_World_eq) := ⟨rfl, rfl, rfl, by decide +kernel, rfl, by decide +kernel, by decide +kernel⟩
abbrev s_World_cell_number : Stmt := inClass (topS 24) 8
abbrev N_World_cell_number : List Str := ["self", "name"]
theorem sc_World_cell_number : FnScope N_World_cell_number ["self", "name"] (defScope s_World_cell_number) := ⟨rfl, rfl, rfl, by decide +kernel, rfl, by decide +kernel, by decide +kernel⟩
abbrev s_World_row_number : Stmt := inClass (topS 24) 9
abbrev N_World_row_number : List Str := ["self", "name"]
theorem sc_World_row_number : FnScope N_World_row_number ["self", "name"] (defScope s_World_row_number) := ⟨rfl, rfl, rfl, by decide +kernel, rfl, by decide +kernel, by decide +kernel⟩
abbrev s_Setup_init : Stmt := inClass (topS 25) 0
abbrev N_Setup_init : List Str := ["self", "world", "works", "room", "at", "work"]
theorem sc_Setup_init : FnScope N_Setup_init ["self", "world", "works", "room"] (defScope s_Setup_init) := ⟨rfl, rfl, rfl, by decide +kernel, rfl, by decide +kernel, by decide +kernel⟩
abbrev s_Setup_world : Stmt := inClass (topS 25) 1
abbrev N_Setup_world : List Str := ["self"]
theorem sc_Setup_world : FnScope N_Setup_world ["self"] (defScope s_Setup_world) := ⟨rfl, rfl, rfl, by decide +kernel, rfl, by decide +kernel, by decide +kernel⟩
abbrev s_Setup_works : Stmt := inClass (topS 25) 2
abbrev N_Setup_works : List Str := ["self"]
theorem sc_Setup_works : FnScope N_Setup_works ["self"] (defScope s_Setup_works) := ⟨rfl, rfl, rfl, by decide +kernel, rfl, by decide +kernel, by decide +kernel⟩
abbrev s_Setup_places : Stmt := inClass (topS 25) 3
abbrev N_Setup_places : List Str := ["self"]
theorem sc_Setup_places : FnScope N_Setup_places ["self"] (defScope s_Setup_places) := ⟨rfl, rfl, rfl, by decide +kernel, rfl, by decide +kernel, by decide +kernel⟩
abbrev s_Setup_deeds : Stmt := inClass (topS 25) 4
abbrev N_Setup_deeds : List Str := ["self"]
theorem sc_Setup_deeds : FnScope N_Setup_deeds ["self"] (defScope s_Setup_deeds) := ⟨rfl, rfl, rfl, by decide +kernel, rfl, by decide +kernel, by decide +kernel⟩
abbrev s_Setup_work_number : Stmt := inClass (topS 25) 5
abbrev N_Setup_work_number : List Str := ["self", "value"]
theorem sc_Setup_work_number : FnScope N_Setup_work_number ["self", "value"] (defScope s_Setup_work_number) := ⟨rfl, rfl, rfl, by decide +kernel, rfl, by decide +kernel, by decide +kernel⟩
abbrev s_are_cells : Stmt := topS 26
abbrev N_are_cells : List Str := ["value", "size", "cell"]
theorem sc_are_cells : FnScope N_are_cells ["value", "size"] (defScope s_are_cells) := ⟨rfl, rfl, rfl, by decide +kernel, rfl, by decide +kernel, by decide +kernel⟩
abbrev s_are_rows : Stmt := topS 27
abbrev N_are_rows : List Str := ["value", "size", "most", "cells", "taken", "cell", "row"]
theorem sc_are_rows : FnScope N_are_rows ["value", "size", "most", "cells"] (defScope s_are_rows) := ⟨rfl, rfl, rfl, by decide +kernel, rfl, by decide +kernel, by decide +kernel⟩
abbrev s_are_loose : Stmt := topS 28
abbrev N_are_loose : List Str := ["value", "cells", "rows", "taken", "cell", "row", "name"]
theorem sc_are_loose : FnScope N_are_loose ["value", "cells", "rows"] (defScope s_are_loose) := ⟨rfl, rfl, rfl, by decide +kernel, rfl, by decide +kernel, by decide +kernel⟩
abbrev s_are_works : Stmt := topS 29
abbrev N_are_works : List Str := ["value", "world", "work", "part"]
theorem sc_are_works : FnScope N_are_works ["value", "world"] (defScope s_are_works) := ⟨rfl, rfl, rfl, by decide +kernel, rfl, by decide +kernel, by decide +kernel⟩
abbrev s_is_work : Stmt := topS 30
abbrev N_is_work : List Str := ["value", "world"]
theorem sc_is_work : FnScope N_is_work ["value", "world"] (defScope s_is_work) := ⟨rfl, rfl, rfl, by decide +kernel, rfl, by decide +kernel, by decide +kernel⟩
abbrev s_all_calls : Stmt := topS 31
abbrev N_all_calls : List Str := ["world", "works", "work", "values"]
theorem sc_all_calls : FnScope N_all_calls ["world", "works"] (defScope s_all_calls) := ⟨rfl, rfl, rfl, by decide +kernel, rfl, by decide +kernel, by decide +kernel⟩
abbrev s_all_values : Stmt := topS 32
abbrev N_all_values : List Str := ["world", "kinds", "names", "found", "kind", "choices", "row", "values", "choice"]
theorem sc_all_values : FnScope N_all_values ["world", "kinds"] (defScope s_all_values) := ⟨rfl, rfl, rfl, by decide +kernel, rfl, by decide +kernel, by decide +kernel⟩
abbrev s_all_changes : Stmt := topS 33
abbrev N_all_changes : List Str := ["world", "found", "name", "things", "thing"]
theorem sc_all_changes : FnScope N_all_changes ["world"] (defScope s_all_changes) := ⟨rfl, rfl, rfl, by decide +kernel, rfl, by decide +kernel, by decide +kernel⟩
abbrev s_all_items : Stmt := topS 34
abbrev N_all_items : List Str := ["world", "found", "one", "other"]
theorem sc_all_items : FnScope N_all_items ["world"] (defScope s_all_items) := ⟨rfl, rfl, rfl, by decide +kernel, rfl, by decide +kernel, by decide +kernel⟩
abbrev s_Plan_init : Stmt := inClass (topS 38) 0
abbrev N_Plan_init : List Str := ["self", "guards", "known", "held", "own", "right"]
theorem sc_Plan_init : FnScope N_Plan_init ["self", "guards", "known", "held", "own"] (defScope s_Plan_init) := ⟨rfl, rfl, rfl, by decide +kernel, rfl, by decide +kernel, by decide +kernel⟩
abbrev s_Plan_guards : Stmt := inClass (topS 38) 1
abbrev N_Plan_guards : List Str := ["self"]
theorem sc_Plan_guards : FnScope N_Plan_guards ["self"] (defScope s_Plan_guards) := ⟨rfl, rfl, rfl, by decide +kernel, rfl, by decide +kernel, by decide +kernel⟩
abbrev s_Plan_known : Stmt := inClass (topS 38) 2
abbrev N_Plan_known : List Str := ["self"]
theorem sc_Plan_known : FnScope N_Plan_known ["self"] (defScope s_Plan_known) := ⟨rfl, rfl, rfl, by decide +kernel, rfl, by decide +kernel, by decide +kernel⟩
abbrev s_Plan_held : Stmt := inClass (topS 38) 3
abbrev N_Plan_held : List Str := ["self"]
theorem sc_Plan_held : FnScope N_Plan_held ["self"] (defScope s_Plan_held) := ⟨rfl, rfl, rfl, by decide +kernel, rfl, by decide +kernel, by decide +kernel⟩
abbrev s_Plan_own : Stmt := inClass (topS 38) 4
abbrev N_Plan_own : List Str := ["self"]
theorem sc_Plan_own : FnScope N_Plan_own ["self"] (defScope s_Plan_own) := ⟨rfl, rfl, rfl, by decide +kernel, rfl, by decide +kernel, by decide +kernel⟩
abbrev s_Plan_eq : Stmt := inClass (topS 38) 5
abbrev N_Plan_eq : List Str := ["self", "other"]
theorem sc_Plan_eq : FnScope N_Plan_eq ["self", "other"] (defScope s_Plan_eq) := ⟨rfl, rfl, rfl, by decide +kernel, rfl, by decide +kernel, by decide +kernel⟩
abbrev s_Plan_with_guard : Stmt := inClass (topS 38) 6
abbrev N_Plan_with_guard : List Str := ["self", "name"]
theorem sc_Plan_with_guard : FnScope N_Plan_with_guard ["self", "name"] (defScope s_Plan_with_guard) := ⟨rfl, rfl, rfl, by decide +kernel, rfl, by decide +kernel, by decide +kernel⟩
abbrev s_Plan_without : Stmt := inClass (topS 38) 7
abbrev N_Plan_without : List Str := ["self", "name"]
theorem sc_Plan_without : FnScope N_Plan_without ["self", "name"] (defScope s_Plan_without) := ⟨rfl, rfl, rfl, by decide +kernel, rfl, by decide +kernel, by decide +kernel⟩
abbrev s_Plan_with_guards : Stmt := inClass (topS 38) 8
abbrev N_Plan_with_guards : List Str := ["self", "guards"]
theorem sc_Plan_with_guards : FnScope N_Plan_with_guards ["self", "guards"] (defScope s_Plan_with_guards) := ⟨rfl, rfl, rfl, by decide +kernel, rfl, by decide +kernel, by decide +kernel⟩
abbrev s_price_of : Stmt := topS 43
abbrev N_price_of : List Str := ["setup", "prices", "plan", "named", "_", "owned"]
theorem sc_price_of : FnScope N_price_of ["setup", "prices", "plan"] (defScope s_price_of) := ⟨rfl, rfl, rfl, by decide +kernel, rfl, by decide +kernel, by decide +kernel⟩
abbrev s_check_prices : Stmt := topS 44
abbrev N_check_prices : List Str := ["setup", "value"]
theorem sc_check_prices : FnScope N_check_prices ["setup", "value"] (defScope s_check_prices) := ⟨rfl, rfl, rfl, by decide +kernel, rfl, by decide +kernel, by decide +kernel⟩
abbrev s_are_prices : Stmt := topS 45
abbrev N_are_prices : List Str := ["setup", "value", "named", "back", "hold", "owned", "pair"]
theorem sc_are_prices : FnScope N_are_prices ["setup", "value"] (defScope s_are_prices) := ⟨rfl, rfl, rfl, by decide +kernel, rfl, by decide +kernel, by decide +kernel⟩
abbrev s_are_priced : Stmt := topS 46
abbrev N_are_priced : List Str := ["value", "most", "pair"]
theorem sc_are_priced : FnScope N_are_priced ["value", "most"] (defScope s_are_priced) := ⟨rfl, rfl, rfl, by decide +kernel, rfl, by decide +kernel, by decide +kernel⟩
abbrev s_is_price : Stmt := topS 47
abbrev N_is_price : List Str := ["value"]
theorem sc_is_price : FnScope N_is_price ["value"] (defScope s_is_price) := ⟨rfl, rfl, rfl, by decide +kernel, rfl, by decide +kernel, by decide +kernel⟩
abbrev s_are_among : Stmt := topS 48
abbrev N_are_among : List Str := ["names", "priced", "name", "pair"]
theorem sc_are_among : FnScope N_are_among ["names", "priced"] (defScope s_are_among) := ⟨rfl, rfl, rfl, by decide +kernel, rfl, by decide +kernel, by decide +kernel⟩
abbrev s_cost : Stmt := topS 49
abbrev N_cost : List Str := ["prices", "plan", "named", "back", "hold", "owned", "cost", "pair"]
theorem sc_cost : FnScope N_cost ["prices", "plan"] (defScope s_cost) := ⟨rfl, rfl, rfl, by decide +kernel, rfl, by decide +kernel, by decide +kernel⟩
abbrev s_pot_of : Stmt := topS 51
abbrev N_pot_of : List Str := ["_law_script", "_law_k", "_law_cell", "_law_figures"]
theorem sc_pot_of : FnScope N_pot_of ["_law_script", "_law_k"] (defScope s_pot_of) := ⟨rfl, rfl, rfl, by decide +kernel, rfl, by decide +kernel, by decide +kernel⟩
abbrev s_take : Stmt := topS 52
abbrev N_take : List Str := ["_law_pot", "_law_many", "_law_digit", "_law_prime", "_law_mixed"]
theorem sc_take : FnScope N_take ["_law_pot", "_law_many"] (defScope s_take) := ⟨rfl, rfl, rfl, by decide +kernel, rfl, by decide +kernel, by decide +kernel⟩
abbrev s_of : Stmt := topS 53
abbrev N_of : List Str := ["_law_pot", "_law_some"]
theorem sc_of : FnScope N_of ["_law_pot", "_law_some"] (defScope s_of) := ⟨rfl, rfl, rfl, by decide +kernel, rfl, by decide +kernel, by decide +kernel⟩
abbrev s_names : Stmt := topS 54
abbrev N_names : List Str := ["_law_pot", "_law_some", "_law_most", "_law_found", "_law_name"]
theorem sc_names : FnScope N_names ["_law_pot", "_law_some", "_law_most"] (defScope s_names) := ⟨rfl, rfl, rfl, by decide +kernel, rfl, by decide +kernel, by decide +kernel⟩
abbrev s_told : Stmt := topS 55
abbrev N_told : List Str := ["_law_setup", "_law_prices", "_law_plan", "_law_caught", "_law_got", "error"]
theorem sc_told : FnScope N_told ["_law_setup", "_law_prices", "_law_plan"] (defScope s_told) := ⟨rfl, rfl, rfl, by decide +kernel, rfl, by decide +kernel, by decide +kernel⟩
abbrev s_odd_prices : Stmt := topS 56
abbrev N_odd_prices : List Str := ["_law_prices", "_law_names_here", "_law_back", "_law_hold", "_law_works", "_law_five", "_law_found", "_law_name"]
theorem sc_odd_prices : FnScope N_odd_prices ["_law_prices"] (defScope s_odd_prices) := ⟨rfl, rfl, rfl, by decide +kernel, rfl, by decide +kernel, by decide +kernel⟩
abbrev s_priced : Stmt := topS 57
abbrev N_priced : List Str := ["_law_pot", "_law_names_here", "_law_name"]
theorem sc_priced : FnScope N_priced ["_law_pot", "_law_names_here"] (defScope s_priced) := ⟨rfl, rfl, rfl, by decide +kernel, rfl, by decide +kernel, by decide +kernel⟩
abbrev s_due : Stmt := topS 58
abbrev N_due : List Str := ["_law_prices", "_law_parts", "_law_names_here", "_law_back", "_law_hold", "_law_works", "_law_total", "_law_some", "_law_priced_here", "_law_name", "_law_found", "_law_other", "_law_price"]
theorem sc_due : FnScope N_due ["_law_prices", "_law_parts"] (defScope s_due) := ⟨rfl, rfl, rfl, by decide +kernel, rfl, by decide +kernel, by decide +kernel⟩
abbrev s_right : Stmt := topS 59
abbrev N_right : List Str := ["_law_pot", "_law_pair", "_law_setup", "_law_some", "_law_prices", "_law_turn", "_law_parts", "_law_some_let", "_law_plan", "_law_due_here", "_law_got", "_law_odd", "_law_name", "_law_price"]
theorem sc_right : FnScope N_right ["_law_pot"] (defScope s_right) := ⟨rfl, rfl, rfl, by decide +kernel, rfl, by decide +kernel, by decide +kernel⟩
abbrev s_law : Stmt := topS 60
abbrev N_law : List Str := ["_law_script", "_law_k", "_law_pot", "_law_turn"]
theorem sc_law : FnScope N_law ["_law_script"] (defScope s_law) := ⟨rfl, rfl, rfl, by decide +kernel, rfl, by decide +kernel, by decide +kernel⟩
structure Ad where
  C_TapeError : Addr
  C_BadPlan : Addr
  C_BadPrices : Addr
  C_World : Addr
  C_Setup : Addr
  C_Plan : Addr
  f_BadPlan_init : Addr
  d_BadPlan_init : FuncData
  f_BadPrices_init : Addr
  d_BadPrices_init : FuncData
  f_is_whole : Addr
  d_is_whole : FuncData
  f_is_size : Addr
  d_is_size : FuncData
  f_is_most : Addr
  d_is_most : FuncData
  f_are_items : Addr
  d_are_items : FuncData
  f_is_name : Addr
  d_is_name : FuncData
  f_are_rising : Addr
  d_are_rising : FuncData
  f_are_names : Addr
  d_are_names : FuncData
  f_are_pairs : Addr
  d_are_pairs : FuncData
  f_are_kinds : Addr
  d_are_kinds : FuncData
  f_are_cells : Addr
  d_are_cells : FuncData
  f_are_rows : Addr
  d_are_rows : FuncData
  f_are_loose : Addr
  d_are_loose : FuncData
  f_World_init : Addr
  d_World_init : FuncData
  f_World_size : Addr
  d_World_size : FuncData
  f_World_most : Addr
  d_World_most : FuncData
  f_World_rows : Addr
  d_World_rows : FuncData
  f_World_loose : Addr
  d_World_loose : FuncData
  f_World_cell_number : Addr
  d_World_cell_number : FuncData
  f_is_work : Addr
  d_is_work : FuncData
  f_are_works : Addr
  d_are_works : FuncData
  f_all_values : Addr
  d_all_values : FuncData
  f_all_calls : Addr
  d_all_calls : FuncData
  f_all_items : Addr
  d_all_items : FuncData
  f_all_changes : Addr
  d_all_changes : FuncData
  f_Setup_init : Addr
  d_Setup_init : FuncData
  f_Setup_work_number : Addr
  d_Setup_work_number : FuncData
  f_Plan_init : Addr
  d_Plan_init : FuncData
  f_Plan_guards : Addr
  d_Plan_guards : FuncData
  f_Plan_known : Addr
  d_Plan_known : FuncData
  f_Plan_held : Addr
  d_Plan_held : FuncData
  f_Plan_own : Addr
  d_Plan_own : FuncData
  f_Plan_eq : Addr
  d_Plan_eq : FuncData
  f_is_price : Addr
  d_is_price : FuncData
  f_are_priced : Addr
  d_are_priced : FuncData
  f_are_prices : Addr
  d_are_prices : FuncData
  f_check_prices : Addr
  d_check_prices : FuncData
  f_are_among : Addr
  d_are_among : FuncData
  f_cost : Addr
  d_cost : FuncData
  f_price_of : Addr
  d_price_of : FuncData
  f_pot_of : Addr
  d_pot_of : FuncData
  f_take : Addr
  d_take : FuncData
  f_of : Addr
  d_of : FuncData
  f_names : Addr
  d_names : FuncData
  f_told : Addr
  d_told : FuncData
  f_odd_prices : Addr
  d_odd_prices : FuncData
  f_priced : Addr
  d_priced : FuncData
  f_due : Addr
  d_due : FuncData
  f_right : Addr
  d_right : FuncData
  f_law : Addr
  d_law : FuncData
  p_size : Addr
  p_most : Addr
  p_rows : Addr
  p_loose : Addr
  p_guards : Addr
  p_known : Addr
  p_held : Addr
  p_own : Addr
  c_right : Addr
  P_right : Addr
/-- an empty tuple of the program itself -/
def KNil (K : Frag) (a : Addr) : Prop := ∃ (o : Obj) (n : Nat), K.lookup a = some o ∧ o.cls = .type "tuple" ∧ o.data = .seq #[] n
structure Txt (K : Frag) (mg : Str → Option Value) (A : Ad) : Prop where
  F_BadPlan_init : Fun K "__init__" "BadPlan.__init__" s_BadPlan_init A.f_BadPlan_init A.d_BadPlan_init
  F_BadPrices_init : Fun K "__init__" "BadPrices.__init__" s_BadPrices_init A.f_BadPrices_init A.d_BadPrices_init
  F_is_whole : Fun K "is_whole" "is_whole" s_is_whole A.f_is_whole A.d_is_whole
  b_is_whole : Binds K A.d_is_whole ["value", "low", "below"] []
  m_is_whole : mg "is_whole" = some (.ref A.f_is_whole)
  F_is_size : Fun K "is_size" "is_size" s_is_size A.f_is_size A.d_is_size
  b_is_size : Binds K A.d_is_size ["value"] []
  m_is_size : mg "is_size" = some (.ref A.f_is_size)
  F_is_most : Fun K "is_most" "is_most" s_is_most A.f_is_most A.d_is_most
  b_is_most : Binds K A.d_is_most ["value"] []
  m_is_most : mg "is_most" = some (.ref A.f_is_most)
  F_are_items : Fun K "are_items" "are_items" s_are_items A.f_are_items A.d_are_items
  b_are_items : Binds K A.d_are_items ["value", "size", "most"] []
  m_are_items : mg "are_items" = some (.ref A.f_are_items)
  F_is_name : Fun K "is_name" "is_name" s_is_name A.f_is_name A.d_is_name
  b_is_name : Binds K A.d_is_name ["value"] []
  m_is_name : mg "is_name" = some (.ref A.f_is_name)
  F_are_rising : Fun K "are_rising" "are_rising" s_are_rising A.f_are_rising A.d_are_rising
  b_are_rising : Binds K A.d_are_rising ["names"] []
  m_are_rising : mg "are_rising" = some (.ref A.f_are_rising)
  F_are_names : Fun K "are_names" "are_names" s_are_names A.f_are_names A.d_are_names
  b_are_names : Binds K A.d_are_names ["value", "most"] []
  m_are_names : mg "are_names" = some (.ref A.f_are_names)
  F_are_pairs : Fun K "are_pairs" "are_pairs" s_are_pairs A.f_are_pairs A.d_are_pairs
  b_are_pairs : Binds K A.d_are_pairs ["value", "most"] []
  m_are_pairs : mg "are_pairs" = some (.ref A.f_are_pairs)
  F_are_kinds : Fun K "are_kinds" "are_kinds" s_are_kinds A.f_are_kinds A.d_are_kinds
  b_are_kinds : Binds K A.d_are_kinds ["value", "most", "with_rows"] []
  m_are_kinds : mg "are_kinds" = some (.ref A.f_are_kinds)
  F_are_cells : Fun K "_are_cells" "_are_cells" s_are_cells A.f_are_cells A.d_are_cells
  b_are_cells : Binds K A.d_are_cells ["value", "size"] []
  m_are_cells : mg "_are_cells" = some (.ref A.f_are_cells)
  F_are_rows : Fun K "_are_rows" "_are_rows" s_are_rows A.f_are_rows A.d_are_rows
  b_are_rows : Binds K A.d_are_rows ["value", "size", "most", "cells"] []
  m_are_rows : mg "_are_rows" = some (.ref A.f_are_rows)
  F_are_loose : Fun K "_are_loose" "_are_loose" s_are_loose A.f_are_loose A.d_are_loose
  b_are_loose : Binds K A.d_are_loose ["value", "cells", "rows"] []
  m_are_loose : mg "_are_loose" = some (.ref A.f_are_loose)
  F_World_init : ∃ a, FunD K "__init__" "World.__init__" (defArgs s_World_init) (defBody s_World_init) (defScope s_World_init) [.ref a] [] A.f_World_init A.d_World_init ∧ KNil K a
  F_World_size : Fun K "size" "World.size" s_World_size A.f_World_size A.d_World_size
  b_World_size : Binds K A.d_World_size ["self"] []
  F_World_most : Fun K "most" "World.most" s_World_most A.f_World_most A.d_World_most
  b_World_most : Binds K A.d_World_most ["self"] []
  F_World_rows : Fun K "rows" "World.rows" s_World_rows A.f_World_rows A.d_World_rows
  b_World_rows : Binds K A.d_World_rows ["self"] []
  F_World_loose : Fun K "loose" "World.loose" s_World_loose A.f_World_loose A.d_World_loose
  b_World_loose : Binds K A.d_World_loose ["self"] []
  F_World_cell_number : Fun K "cell_number" "World.cell_number" s_World_cell_number A.f_World_cell_number A.d_World_cell_number
  b_World_cell_number : Binds K A.d_World_cell_number ["self", "name"] []
  F_is_work : Fun K "_is_work" "_is_work" s_is_work A.f_is_work A.d_is_work
  b_is_work : Binds K A.d_is_work ["value", "world"] []
  m_is_work : mg "_is_work" = some (.ref A.f_is_work)
  F_are_works : Fun K "_are_works" "_are_works" s_are_works A.f_are_works A.d_are_works
  b_are_works : Binds K A.d_are_works ["value", "world"] []
  m_are_works : mg "_are_works" = some (.ref A.f_are_works)
  F_all_values : Fun K "all_values" "all_values" s_all_values A.f_all_values A.d_all_values
  b_all_values : Binds K A.d_all_values ["world", "kinds"] []
  m_all_values : mg "all_values" = some (.ref A.f_all_values)
  F_all_calls : Fun K "_all_calls" "_all_calls" s_all_calls A.f_all_calls A.d_all_calls
  b_all_calls : Binds K A.d_all_calls ["world", "works"] []
  m_all_calls : mg "_all_calls" = some (.ref A.f_all_calls)
  F_all_items : Fun K "all_items" "all_items" s_all_items A.f_all_items A.d_all_items
  b_all_items : Binds K A.d_all_items ["world"] []
  m_all_items : mg "all_items" = some (.ref A.f_all_items)
  F_all_changes : Fun K "_all_changes" "_all_changes" s_all_changes A.f_all_changes A.d_all_changes
  b_all_changes : Binds K A.d_all_changes ["world"] []
  m_all_changes : mg "_all_changes" = some (.ref A.f_all_changes)
  F_Setup_init : Fun K "__init__" "Setup.__init__" s_Setup_init A.f_Setup_init A.d_Setup_init
  b_Setup_init : Binds K A.d_Setup_init ["self", "world", "works", "room"] []
  F_Setup_work_number : Fun K "work_number" "Setup.work_number" s_Setup_work_number A.f_Setup_work_number A.d_Setup_work_number
  b_Setup_work_number : Binds K A.d_Setup_work_number ["self", "value"] []
  F_Plan_init : ∃ a b, FunD K "__init__" "Plan.__init__" (defArgs s_Plan_init) (defBody s_Plan_init) (defScope s_Plan_init) [.ref a] [("known", .bl false), ("held", .bl true), ("own", .ref b)] A.f_Plan_init A.d_Plan_init ∧ KNil K a ∧ KNil K b
  F_Plan_guards : Fun K "guards" "Plan.guards" s_Plan_guards A.f_Plan_guards A.d_Plan_guards
  b_Plan_guards : Binds K A.d_Plan_guards ["self"] []
  F_Plan_known : Fun K "known" "Plan.known" s_Plan_known A.f_Plan_known A.d_Plan_known
  b_Plan_known : Binds K A.d_Plan_known ["self"] []
  F_Plan_held : Fun K "held" "Plan.held" s_Plan_held A.f_Plan_held A.d_Plan_held
  b_Plan_held : Binds K A.d_Plan_held ["self"] []
  F_Plan_own : Fun K "own" "Plan.own" s_Plan_own A.f_Plan_own A.d_Plan_own
  b_Plan_own : Binds K A.d_Plan_own ["self"] []
  F_Plan_eq : Fun K "__eq__" "Plan.__eq__" s_Plan_eq A.f_Plan_eq A.d_Plan_eq
  b_Plan_eq : Binds K A.d_Plan_eq ["self", "other"] []
  F_is_price : Fun K "_is_price" "_is_price" s_is_price A.f_is_price A.d_is_price
  b_is_price : Binds K A.d_is_price ["value"] []
  m_is_price : mg "_is_price" = some (.ref A.f_is_price)
  F_are_priced : Fun K "_are_priced" "_are_priced" s_are_priced A.f_are_priced A.d_are_priced
  b_are_priced : Binds K A.d_are_priced ["value", "most"] []
  m_are_priced : mg "_are_priced" = some (.ref A.f_are_priced)
  F_are_prices : Fun K "_are_prices" "_are_prices" s_are_prices A.f_are_prices A.d_are_prices
  b_are_prices : Binds K A.d_are_prices ["setup", "value"] []
  m_are_prices : mg "_are_prices" = some (.ref A.f_are_prices)
  F_check_prices : Fun K "_check_prices" "_check_prices" s_check_prices A.f_check_prices A.d_check_prices
  b_check_prices : Binds K A.d_check_prices ["setup", "value"] []
  m_check_prices : mg "_check_prices" = some (.ref A.f_check_prices)
  F_are_among : Fun K "_are_among" "_are_among" s_are_among A.f_are_among A.d_are_among
  b_are_among : Binds K A.d_are_among ["names", "priced"] []
  m_are_among : mg "_are_among" = some (.ref A.f_are_among)
  F_cost : Fun K "_cost" "_cost" s_cost A.f_cost A.d_cost
  b_cost : Binds K A.d_cost ["prices", "plan"] []
  m_cost : mg "_cost" = some (.ref A.f_cost)
  F_price_of : Fun K "price_of" "price_of" s_price_of A.f_price_of A.d_price_of
  b_price_of : Binds K A.d_price_of ["setup", "prices", "plan"] []
  m_price_of : mg "price_of" = some (.ref A.f_price_of)
  F_pot_of : Fun K "_law_pot_of" "_law_pot_of" s_pot_of A.f_pot_of A.d_pot_of
  b_pot_of : Binds K A.d_pot_of ["_law_script", "_law_k"] []
  m_pot_of : mg "_law_pot_of" = some (.ref A.f_pot_of)
  F_take : Fun K "_law_take" "_law_take" s_take A.f_take A.d_take
  b_take : Binds K A.d_take ["_law_pot", "_law_many"] []
  m_take : mg "_law_take" = some (.ref A.f_take)
  F_of : Fun K "_law_of" "_law_of" s_of A.f_of A.d_of
  b_of : Binds K A.d_of ["_law_pot", "_law_some"] []
  m_of : mg "_law_of" = some (.ref A.f_of)
  F_names : Fun K "_law_names" "_law_names" s_names A.f_names A.d_names
  b_names : Binds K A.d_names ["_law_pot", "_law_some", "_law_most"] []
  m_names : mg "_law_names" = some (.ref A.f_names)
  F_told : Fun K "_law_told" "_law_told" s_told A.f_told A.d_told
  b_told : Binds K A.d_told ["_law_setup", "_law_prices", "_law_plan"] []
  m_told : mg "_law_told" = some (.ref A.f_told)
  F_odd_prices : Fun K "_law_odd_prices" "_law_odd_prices" s_odd_prices A.f_odd_prices A.d_odd_prices
  b_odd_prices : Binds K A.d_odd_prices ["_law_prices"] []
  m_odd_prices : mg "_law_odd_prices" = some (.ref A.f_odd_prices)
  F_priced : Fun K "_law_priced" "_law_priced" s_priced A.f_priced A.d_priced
  b_priced : Binds K A.d_priced ["_law_pot", "_law_names_here"] []
  m_priced : mg "_law_priced" = some (.ref A.f_priced)
  F_due : Fun K "_law_due" "_law_due" s_due A.f_due A.d_due
  b_due : Binds K A.d_due ["_law_prices", "_law_parts"] []
  m_due : mg "_law_due" = some (.ref A.f_due)
  F_right : Fun K "_law_right" "_law_right" s_right A.f_right A.d_right
  b_right : Binds K A.d_right ["_law_pot"] []
  m_right : mg "_law_right" = some (.ref A.f_right)
  F_law : Fun K "law" "law" s_law A.f_law A.d_law
  b_law : Binds K A.d_law ["_law_script"] []
  m_law : mg "law" = some (.ref A.f_law)
  E_BadPlan : ErrT K mg "BadPlan" "value" A.C_BadPlan A.f_BadPlan_init A.d_BadPlan_init
  E_BadPrices : ErrT K mg "BadPrices" "value" A.C_BadPrices A.f_BadPrices_init A.d_BadPrices_init
  m_TapeError : mg "TapeError" = some (.ref A.C_TapeError)
  m_BadPlan : mg "BadPlan" = some (.ref A.C_BadPlan)
  m_BadPrices : mg "BadPrices" = some (.ref A.C_BadPrices)
  m_World : mg "World" = some (.ref A.C_World)
  m_Setup : mg "Setup" = some (.ref A.C_Setup)
  m_Plan : mg "Plan" = some (.ref A.C_Plan)
  g_isinstance : mg "isinstance" = none
  g_int : mg "int" = none
  g_bool : mg "bool" = none
  g_str : mg "str" = none
  g_len : mg "len" = none
  g_abs : mg "abs" = none
  g_repr : mg "repr" = none
  g_all : mg "all" = none
  g_range : mg "range" = none
  g_tuple : mg "tuple" = none
  g_list : mg "list" = none
  g_zip : mg "zip" = none
  g_enumerate : mg "enumerate" = none
  g_max : mg "max" = none
  g_min : mg "min" = none
  g_sum : mg "sum" = none
  g_ValueError : mg "ValueError" = none
  c_MOST_LETTERS : ∃ t, mg "MOST_LETTERS" = some (.int 8 t)
  c_LETTERS : ∃ t, mg "LETTERS" = some (.str "abcdefghijklmnopqrstuvwxyz" t)
  c_MOST_CELLS : ∃ t, mg "MOST_CELLS" = some (.int 2 t)
  c_MOST_ROWS : ∃ t, mg "MOST_ROWS" = some (.int 2 t)
  c_MOST_WORKS : ∃ t, mg "MOST_WORKS" = some (.int 3 t)
  c_MOST_VALUES : ∃ t, mg "MOST_VALUES" = some (.int 3 t)
  c_MOST_GUARDS : ∃ t, mg "MOST_GUARDS" = some (.int 6 t)
  c_MOST_OWN : ∃ t, mg "MOST_OWN" = some (.int 3 t)
  c_MOST_PRICED : ∃ t, mg "MOST_PRICED" = some (.int 4 t)
  c_MOST_OWN_PRICED : ∃ t, mg "MOST_OWN_PRICED" = some (.int 2 t)
  c_PRICES : ∃ t, mg "PRICES" = some (.int 10 t)
  cls_World : Cls K A.C_World
  mk_World : Mk K A.C_World A.f_World_init
  cls_Setup : Cls K A.C_Setup
  mk_Setup : Mk K A.C_Setup A.f_Setup_init
  cls_Plan : Cls K A.C_Plan
  mk_Plan : Mk K A.C_Plan A.f_Plan_init
  n_size : NoAttr K A.C_World "_size"
  n_most : NoAttr K A.C_World "_most"
  n_cells : NoAttr K A.C_World "_cells"
  n_rows : NoAttr K A.C_World "_rows"
  n_loose : NoAttr K A.C_World "_loose"
  n_cell_numbers : NoAttr K A.C_World "_cell_numbers"
  n_row_numbers : NoAttr K A.C_World "_row_numbers"
  n_world : NoAttr K A.C_Setup "_world"
  n_works : NoAttr K A.C_Setup "_works"
  n_places : NoAttr K A.C_Setup "_places"
  n_numbers : NoAttr K A.C_Setup "_numbers"
  n_deeds : NoAttr K A.C_Setup "_deeds"
  n_guards : NoAttr K A.C_Plan "_guards"
  n_known : NoAttr K A.C_Plan "_known"
  n_held : NoAttr K A.C_Plan "_held"
  n_own : NoAttr K A.C_Plan "_own"
  P_size : PropOf K A.C_World "size" A.p_size A.f_World_size
  P_most : PropOf K A.C_World "most" A.p_most A.f_World_most
  P_rows : PropOf K A.C_World "rows" A.p_rows A.f_World_rows
  P_loose : PropOf K A.C_World "loose" A.p_loose A.f_World_loose
  P_guards : PropOf K A.C_Plan "guards" A.p_guards A.f_Plan_guards
  P_known : PropOf K A.C_Plan "known" A.p_known A.f_Plan_known
  P_held : PropOf K A.C_Plan "held" A.p_held A.f_Plan_held
  P_own : PropOf K A.C_Plan "own" A.p_own A.f_Plan_own
  M_cell_number : Meth K A.C_World "cell_number" A.f_World_cell_number
  M_work_number : Meth K A.C_Setup "work_number" A.f_Setup_work_number
  kit : ∀ C ∈ [A.C_BadPlan, A.C_BadPrices], ∀ D ∈ [A.C_BadPlan, A.C_BadPrices], PySem.W.kitOne K (.ref C) (.ref D) = some (C == D)
  kte : ∀ C ∈ [A.C_BadPlan, A.C_BadPrices], PySem.W.kitOne K (.ref C) (.ref A.C_TapeError) = some true
  kve : ∀ C ∈ [A.C_BadPlan, A.C_BadPrices], PySem.W.kitOne K (.ref C) (.type "ValueError") = some true
  xte : ∀ C ∈ [A.C_BadPlan, A.C_BadPrices], PySem.W.exmOne K (.ref C) (.ref A.C_TapeError) = some true
  kcl : PySem.W.findIn K (.ref A.C_Plan) "__class__" = some (some (.builtin "object.__class__"))
  kgs : PySem.W.specialIn K (.builtin "object.__class__") "__get__" = some (some (.builtin "getset_descriptor.__get__"))
  ktk : PySem.W.takesIn K (.builtin "object.__class__") = some true
  kob : PySem.W.mroIn K A.C_Plan (.type "object") = some true
  eqc : EqC K A.C_Plan A.f_Plan_eq
  ene : A.C_BadPlan ≠ A.C_BadPrices
  dc_right : A.d_right.code = .ref A.c_right
theorem small {n : Nat} (h : n < 1000) : n < sizeLine := Nat.lt_of_lt_of_le h (by decide)
def abc : Str := "abcdefghijklmnopqrstuvwxyz"
def nameOk (z : Str) : Bool := decide (1 ≤ z.length) && (decide (z.length ≤ 8) && z.cps.toList.all (fun c => decide (c ∈ abc.cps.toList)))
def rises : List Str → Bool
  | a :: b :: r => decide (a.cps.toList < b.cps.toList) && rises (b :: r)
  | _ => true
def wholeD (d : PyData) (lo hi : Int) : Bool := match d with
  | .int i => decide (lo ≤ i) && decide (i < hi)
  | _ => false
theorem whole_d {p : Addr} {H : Hp} {v : V} {d : PyData} (h : Dz p H v d) (lo hi : Int) : whole v lo hi = wholeD d lo hi := by cases h <;> rfl
def nameD : PyData → Bool | .str z => nameOk z | _ => false
def strD : PyData → Str | .str z => z | _ => ""
def itemsOk (d : PyData) (s m : Int) : Bool := match d with
  | .tuple ds => decide ((ds.length : Int) ≤ m) && ds.all (fun x => wholeD x 0 s)
  | _ => false
def namesD (d : PyData) (m : Int) : Bool := match d with
  | .tuple ds => decide ((ds.length : Int) ≤ m) && (ds.all nameD && rises (ds.map strD))
  | _ => false
def pairD : PyData → Bool | .tuple [a, _] => nameD a | _ => false
def fstD : PyData → PyData | .tuple (a :: _) => a | _ => .none
def sndD : PyData → PyData | .tuple (_ :: b :: _) => b | _ => .none
def pairsD (d : PyData) (m : Int) : Bool := match d with
  | .tuple ds => decide ((ds.length : Int) ≤ m) && (ds.all pairD && rises (ds.map fun x => strD (fstD x)))
  | _ => false
def Says (H : Hp) (Q : VK) (b : Bool) : Prop := ∀ H', Ex H H' → Q (.bl b) H'
def spName : Sp := fun vs H Q _ => ∃ (p : Addr) (v : V) (d : PyData), vs = [v] ∧ Dz p H v d ∧ Wt 900 d ∧ Says H Q (nameD d)
theorem sqt_ex {K : Frag} {H H' : Hp} {a : Addr} {xs : List V} (h : SqT K H a xs) (e : Ex H H') : SqT K H' a xs :=
  h.elim (fun z => z.elim (fun y => .inl (.inl (e _ _ y))) fun ⟨o, y⟩ => .inl (.inr ⟨o, e _ _ y⟩)) .inr
def spRise (K : Frag) : Sp := fun vs H Q _ => ∃ (a : Addr) (ss : List Str), vs = [.ref a] ∧ (H a = some (.lst (ss.map V.str)) ∨ SqT K H a (ss.map V.str)) ∧ ss.length ≤ 900 ∧ Says H Q (rises ss)
theorem Says.no {H : Hp} {Q : VK} {b : Bool} (k : Says H Q b) (h : b = false) : Q (.bl false) H := h ▸ k H (Ex.rf _)
theorem rises_rng : ∀ (ss : List Str) (f : Nat → Bool), (∀ (i : Nat) (a b : Str), ss[i]? = some a → ss[i + 1]? = some b → f i = decide (a.cps.toList < b.cps.toList)) → ((List.range (ss.length - 1)).map f).all id = rises ss
  | [], f, _ => rfl
  | [_], f, _ => rfl
  | a :: b :: r, f, h => by
    have ih := rises_rng (b :: r) (fun i => f (i + 1)) fun i x y hx hy => h (i + 1) x y (by simpa using hx) (by simpa using hy)
    have e : (List.range ((a :: b :: r).length - 1)).map f = f 0 :: (List.range ((b :: r).length - 1)).map fun i => f (i + 1) := by
      show (List.range ((b :: r).length - 1 + 1)).map f = _
      rw [List.range_succ_eq_map, List.map_cons, List.map_map]; rfl
    rw [e, List.all_cons, ih, h 0 a b rfl rfl]; rfl


theorem nameD_str {d : PyData} (h : nameD d = true) : d = .str (strD d) := by
  cases d with
  | str z => rfl
  | _ => cases h
theorem names_strs {p : Addr} {H : Hp} {xs : List V} {ds : List PyData} (hl : xs.length = ds.length) (hi : ∀ (i : Nat) (x : V) (d : PyData), xs[i]? = some x → ds[i]? = some d → Dz p H x d) (h : ds.all nameD = true) : xs = (ds.map strD).map V.str := by
  refine List.ext_getElem? fun i => ?_
  by_cases hj : i < xs.length
  · have hj2 : i < ds.length := by omega
    have e1 : xs[i]? = some xs[i] := List.getElem?_eq_getElem hj
    have e2 : ds[i]? = some ds[i] := List.getElem?_eq_getElem hj2
    have e3 := nameD_str (List.all_eq_true.mp h _ (List.getElem_mem hj2))
    have dz := hi i _ _ e1 e2
    rw [e3] at dz
    rw [e1, List.getElem?_map, List.getElem?_map, e2, dz.strI]; rfl
  · rw [List.getElem?_eq_none (by omega), List.getElem?_eq_none (by rw [List.length_map, List.length_map]; omega)]
theorem tupD_is {d : PyData} (h : isTupD d = true) : ∃ ds, d = .tuple ds := by
  cases d with
  | tuple ds => exact ⟨ds, rfl⟩
  | _ => cases h
def Dy (K : Frag) (p : Addr) (H : Hp) (v : V) (d : PyData) : Prop := Dz p H v d ∨ (d = .tuple [] ∧ ∃ a, v = .ref a ∧ KNil K a)
theorem KNil.sq {K : Frag} {a : Addr} {H : Hp} (h : KNil K a) : SqT K H a [] := let ⟨o, n, h1, h2, h3⟩ := h; .inr ⟨o, #[], n, h1, h2, h3, Nat.zero_le _, .nil⟩
theorem Dy.ex {K : Frag} {p : Addr} {H H' : Hp} {v : V} {d : PyData} (h : Dy K p H v d) (e : Ex H H') : Dy K p H' v d := h.imp (fun z => z.ex e) id
theorem Dy.tup {K : Frag} {p : Addr} {H : Hp} {v : V} {ds : List PyData} (h : Dy K p H v (.tuple ds)) : ∃ a xs, v = .ref a ∧ SqT K H a xs ∧ xs.length = ds.length ∧ ∀ (i : Nat) (x : V) (d : PyData), xs[i]? = some x → ds[i]? = some d → Dz p H x d := by
  rcases h with h | ⟨h1, a, rfl, h2⟩
  · cases h with
    | tup h hl hi => exact ⟨_, _, rfl, SqT.of h, hl, hi⟩
  · injection h1 with h1
    subst h1
    exact ⟨a, [], rfl, h2.sq, rfl, fun i x d e => by cases e⟩
theorem kt_dy {K : Frag} {p : Addr} {H : Hp} {v : V} {d : PyData} (h : Dy K p H v d) : ∃ t : String, TyX K H v (.type t) ∧ PySem.W.kitOne K (.type t) (.type "tuple") = some (isTupD d) := by
  rcases h with h | ⟨rfl, a, rfl, o, n, h1, h2, h3⟩
  · exact kt_tup h
  · exact ⟨_, .kTuple h1 h2, kit_ty (r := true) (by decide +kernel)⟩
def spNames (K : Frag) : Sp := fun vs H Q _ => ∃ (p : Addr) (v : V) (d : PyData) (m : Int), vs = [v, .int m] ∧ Dy K p H v d ∧ 0 ≤ m ∧ Wt 900 d ∧ Says H Q (namesD d m)

def spNo : Sp := fun _ _ _ _ => False
def spSizeA (K : Frag) (lo hi : Int) : Sp := fun vs H Q _ => ∃ v : V, vs = [v] ∧ Kd K H v ∧ Q (.bl (whole v lo hi)) H
def spPairs : Sp := fun vs H Q _ => ∃ (p : Addr) (v : V) (d : PyData) (m : Int), vs = [v, .int m] ∧ Dz p H v d ∧ Wt 900 d ∧ Says H Q (pairsD d m)
def pD (p : Str × PyData) : PyData := .tuple [.str p.1, p.2]
theorem pairD_pair {d : PyData} (h : pairD d = true) : ∃ q : Str × PyData, d = pD q ∧ strD (fstD d) = q.1 ∧ nameOk q.1 = true := by
  unfold pairD at h
  split at h
  · rename_i a b
    have e := nameD_str h
    rw [e] at h
    exact ⟨(strD a, b), by unfold pD; rw [← e], rfl, h⟩
  · cases h
theorem pairs_ps : ∀ {ds : List PyData}, ds.all pairD = true → ∃ ps : List (Str × PyData), ds = ps.map pD ∧ ds.map (fun x => strD (fstD x)) = ps.map (·.1) ∧ ∀ q ∈ ps, nameOk q.1 = true
  | [], _ => ⟨[], rfl, rfl, fun q h => by cases h⟩
  | d :: r, h => by
    rw [List.all_cons, Bool.and_eq_true] at h
    obtain ⟨q, rfl, hq, hn⟩ := pairD_pair h.1
    obtain ⟨ps, rfl, hp, hm⟩ := pairs_ps (ds := r) h.2
    exact ⟨q :: ps, rfl, by rw [List.map_cons, List.map_cons, hq, hp], fun x hx => (List.mem_cons.mp hx).elim (fun e => e ▸ hn) (hm x)⟩
theorem pairs_at {p : Addr} {H : Hp} {xs : List V} {ps : List (Str × PyData)} (hl : xs.length = (ps.map pD).length) (hi : ∀ (i : Nat) (x : V) (d : PyData), xs[i]? = some x → (ps.map pD)[i]? = some d → Dz p H x d) {i : Nat} {x : V} (hx : xs[i]? = some x) : ∃ q b u, ps[i]? = some q ∧ x = .ref b ∧ H b = some (.tup [.str q.1, u]) ∧ Dz p H u q.2 := by
  rw [List.length_map] at hl
  have hj := (List.getElem?_eq_some_iff.mp hx).1
  have e2 : ps[i]? = some ps[i] := List.getElem?_eq_getElem (by omega)
  have dz := hi i x _ hx (by rw [List.getElem?_map, e2]; rfl)
  obtain ⟨b, ys, rfl, hb, ly, hy⟩ := Dz.tupI (ds := [.str ps[i].1, ps[i].2]) dz
  match ys, ly with
  | [y0, y1], _ =>
    have d0 := hy 0 y0 _ rfl rfl
    obtain rfl := d0.strI
    exact ⟨ps[i], b, y1, e2, rfl, hb, hy 1 y1 _ rfl rfl⟩
theorem names_of {n : Nat} {ss : List Str} (h : n = ss.length) : (List.range n).map (fun i => PyData.str (ss[i]?.getD "")) = ss.map PyData.str := by
  subst h
  refine List.ext_getElem? fun i => ?_
  by_cases hi : i < ss.length
  · simp [List.getElem?_range, hi]
  · rw [List.getElem?_eq_none (by simpa using hi), List.getElem?_eq_none (by simp; omega)]

def psOf : PyData → List (Str × PyData)
  | .tuple ds => ds.map fun x => (strD (fstD x), sndD x)
  | _ => []
def strsOf : PyData → List Str
  | .tuple ds => ds.map strD
  | _ => []
theorem ps_pd (ps : List (Str × PyData)) : psOf (.tuple (ps.map pD)) = ps := by
  show (ps.map pD).map _ = ps
  rw [List.map_map]
  exact (List.map_congr_left fun q _ => rfl).trans (List.map_id ps)
def PairsAt (p : Addr) (H : Hp) (v : V) (ps : List (Str × PyData)) : Prop := ∃ a xs, v = .ref a ∧ H a = some (.tup xs) ∧ xs.length = ps.length ∧ ∀ (i : Nat) (x : V), xs[i]? = some x → ∃ q b u, ps[i]? = some q ∧ x = .ref b ∧ H b = some (.tup [.str q.1, u]) ∧ Dz p H u q.2
theorem PairsAt.ex {p : Addr} {H H' : Hp} {v : V} {ps : List (Str × PyData)} (h : PairsAt p H v ps) (e : Ex H H') : PairsAt p H' v ps := by
  obtain ⟨a, xs, h1, h2, h3, h4⟩ := h
  refine ⟨a, xs, h1, e _ _ h2, h3, fun i x hx => ?_⟩
  obtain ⟨q, b, u, g1, g2, g3, g4⟩ := h4 i x hx
  exact ⟨q, b, u, g1, g2, e _ _ g3, g4.ex e⟩
theorem pairs_of {p : Addr} {H : Hp} {v : V} {d : PyData} {m : Int} (hz : Dz p H v d) (h : pairsD d m = true) : PairsAt p H v (psOf d) ∧ ((psOf d).length : Int) ≤ m ∧ (∀ q ∈ psOf d, nameOk q.1 = true) ∧ rises ((psOf d).map (·.1)) = true ∧ d = .tuple ((psOf d).map pD) := by
  cases d with
  | tuple ds =>
    obtain ⟨h1, h2⟩ := Bool.and_eq_true_iff.mp (show (decide ((ds.length : Int) ≤ m) && (ds.all pairD && rises (ds.map fun x => strD (fstD x)))) = true from h)
    obtain ⟨h3, h4⟩ := Bool.and_eq_true_iff.mp h2
    obtain ⟨ps, rfl, eps, hps⟩ := pairs_ps h3
    rw [ps_pd]
    rw [eps] at h4
    obtain ⟨a, xs, rfl, ha, hl, hi⟩ := hz.tupI
    refine ⟨⟨a, xs, rfl, ha, by rw [hl, List.length_map], fun i x hx => pairs_at hl hi hx⟩, by have := of_decide_eq_true h1; rw [List.length_map] at this; exact this, hps, h4, rfl⟩
  | _ => cases h
theorem eqV_str (a b : Str) : eqV (.str a) (.str b) = decide (a = b) := by
  by_cases h : a = b <;> simp [eqV, h]
theorem inV_strs (x : Str) (ss : List Str) : inV (.str x) (ss.map V.str) = decide (x ∈ ss) := by
  unfold inV
  rw [List.any_map]
  induction ss with
  | nil => simp
  | cons s r ih =>
    simp only [List.any_cons, Function.comp, eqV_str] at ih ⊢
    rw [ih]
    by_cases h : s = x
    · simp [h]
    · have h2 : ¬ x = s := fun z => h z.symm
      simp [h, h2]
theorem flat_strs (ss : List Str) : (ss.map V.str).all flatV = true := by simp [flatV]

def pricedD (d : PyData) (m : Int) : Bool := pairsD d m && (psOf d).all fun q => wholeD q.2 0 10
def spPriced : Sp := fun vs H Q _ => ∃ (p : Addr) (v : V) (d : PyData) (m : Int), vs = [v, .int m] ∧ Dz p H v d ∧ Wt 900 d ∧ Says H Q (pricedD d m)
theorem kd_int {K : Frag} {H : Hp} (i : Int) : Kd K H (.int i) := kd_of (p := 0) (.int i)
theorem whole_yes {i lo hi : Int} (h : lo ≤ i) (k : i < hi) : whole (.int i) lo hi = true := by simp [whole, h, k]
section
variable {P : Program} {w : World} {K : Frag} {mg : Str → Option Value} {base : Heap} {A : Ad}

theorem ok_is_whole (T : Txt K mg A) : FnOk P w K mg base CX0 1 A.f_is_whole A.d_is_whole ["value", "low", "below"] (spWholeA K) := by
  refine T.F_is_whole.ok sc_is_whole (fun vs H Q E h => ?_) (fun cdv A0 outer s H vs Q E hr h => ?_)
  · obtain ⟨_, _, _, rfl, _⟩ := h
    rfl
  · have hu := hu_of hr
    obtain ⟨v, lo, hi, rfl, hk, k⟩ := h
    refine ⟨_, (pss_one (ps_ret (pe_and (pe_callB call_isi (by rfl) T.g_isinstance (by decide +kernel) (pa_cons (pv 0) (pa_cons (pe_bltn (v := .ty "int") (by rfl) T.g_int (by decide +kernel) rfl) pa_nil))) (pe_and (pe_not (pe_callB call_isi (by rfl) T.g_isinstance (by decide +kernel) (pa_cons (pv 0) (pa_cons (pe_bltn (v := .ty "bool") (by rfl) T.g_bool (by decide +kernel) rfl) pa_nil)))) (pe_one (pe_chain op_le op_lt (pv 1) (pv 0) (pv 2))))))), ?_⟩
    obtain ⟨t, ty, ki, kb⟩ := hk
    cases v with
    | int i =>
      refine ⟨_, rfl, _, _, _, _, _, rfl, .ty _, ty, ki, true, rfl, iteT ?_⟩
      refine ⟨_, rfl, _, _, _, _, _, rfl, .ty _, ty, kb, false, rfl, true, rfl, iteT ?_⟩
      refine ⟨_, rfl, _, rfl, _, _, rfl, rfl, _, rfl, if_dec (fun h1 => ?_) (fun h1 => ?_)⟩
      · refine ⟨_, rfl, _, _, rfl, rfl, ?_⟩
        simp only [whole, decide_eq_true h1, Bool.true_and] at k
        exact k
      · simp only [whole, decide_eq_false h1, Bool.false_and] at k
        exact k
    | bl b =>
      refine ⟨_, rfl, _, _, _, _, _, rfl, .ty _, ty, ki, true, rfl, iteT ?_⟩
      exact ⟨_, rfl, _, _, _, _, _, rfl, .ty _, ty, kb, true, rfl, false, rfl, iteF k⟩
    | _ => exact ⟨_, rfl, _, _, _, _, _, rfl, .ty _, ty, ki, false, rfl, iteF k⟩
theorem ok_is_size (T : Txt K mg A) : FnOk P w K mg base CX0 2 A.f_is_size A.d_is_size ["value"] (spSizeA K 2 5) := by
  refine T.F_is_size.ok sc_is_size (fun vs H Q E h => ?_) (fun cdv A0 outer s H vs Q E hr h => ?_)
  · obtain ⟨_, rfl, _⟩ := h
    rfl
  · have hu := hu_of hr
    obtain ⟨v, rfl, hk, k⟩ := h
    refine ⟨_, (pss_one (ps_ret (pe_call (ok_is_whole T) (hr.mono (by decide)) (by rfl) T.m_is_whole T.F_is_whole.kp T.b_is_whole .nil pass0 (pa_cons (pv 0) (pa_cons pe_int (pa_cons pe_int pa_nil)))))), ?_⟩
    exact ⟨_, rfl, _, _, _, rfl, hk, k⟩
theorem ok_is_most (T : Txt K mg A) : FnOk P w K mg base CX0 2 A.f_is_most A.d_is_most ["value"] (spSizeA K 1 3) := by
  refine T.F_is_most.ok sc_is_most (fun vs H Q E h => ?_) (fun cdv A0 outer s H vs Q E hr h => ?_)
  · obtain ⟨_, rfl, _⟩ := h
    rfl
  · have hu := hu_of hr
    obtain ⟨v, rfl, hk, k⟩ := h
    refine ⟨_, (pss_one (ps_ret (pe_call (ok_is_whole T) (hr.mono (by decide)) (by rfl) T.m_is_whole T.F_is_whole.kp T.b_is_whole .nil pass0 (pa_cons (pv 0) (pa_cons pe_int (pa_cons pe_int pa_nil)))))), ?_⟩
    exact ⟨_, rfl, _, _, _, rfl, hk, k⟩
theorem ok_is_name (T : Txt K mg A) : FnOk P w K mg base CX0 1 A.f_is_name A.d_is_name ["value"] (spName) := by
  refine T.F_is_name.ok sc_is_name (fun vs H Q E h => ?_) (fun cdv A0 outer s H vs Q E hr h => ?_)
  · obtain ⟨_, _, _, rfl, _⟩ := h
    rfl
  · have hu := hu_of hr
    obtain ⟨p, v, d, rfl, hz, hw, k⟩ := h
    refine ⟨_, (pss_cons (ps_if (PW.pt (pw_or (pt_not (pt_val (pe_callB call_isi (by rfl) T.g_isinstance (by decide +kernel) (pa_cons (pv 0) (pa_cons (pe_bltn (v := .ty "str") (by rfl) T.g_str (by decide +kernel) rfl) pa_nil))))) (pw_or1 (pt_not (pt_chain op_le op_le pe_int (pe_callB call_len_str (by rfl) T.g_len (by decide +kernel) (pa_cons (pv 0) pa_nil)) (pe_glob (v := .int 8) (by rfl) T.c_MOST_LETTERS.choose_spec ⟨_, rfl⟩)))))) (pss_one (ps_ret pe_bl)) pss_nil)
      (pss_one (ps_ret (pe_callB (cr_all rfl) (by rfl) T.g_all (by decide +kernel) (pa_cons (pe_lc (own := [("letter", 1)]) (g := (gName 1)) (tt := tYes) rfl sc_is_name.nd (pi_str (pv 0)) (blkOk_by (N := N_is_name) (sc := defScope s_is_name) (by decide +kernel)) (fun _ _ _ _ _ => pg_name (i := 1) sc_is_name.nd rfl (Or.inl rfl)) (fun _ _ _ _ _ => pts_nil) (fun _ _ _ _ _ => (pe_cmpR op_in_sign (pv 1) (pe_glob (v := .str "abcdefghijklmnopqrstuvwxyz") (by rfl) T.c_LETTERS.choose_spec ⟨_, rfl⟩) (by rfl)))) pa_nil))))), ?_⟩
    obtain ⟨ty, tx, kt⟩ := kt_strD (K := K) hz
    refine ⟨_, rfl, _, _, _, _, _, rfl, .ty _, tx, kt, _, rfl, ?_⟩
    cases hz with
    | non => exact HX.if_true rfl (k.no rfl)
    | bl b => exact HX.if_true rfl (k.no rfl)
    | int i => exact HX.if_true rfl (k.no rfl)
    | lst => exact HX.if_true rfl (k.no rfl)
    | tup => exact HX.if_true rfl (k.no rfl)
    | dct => exact HX.if_true rfl (k.no rfl)
    | str z =>
      have hl := hw.str
      have hs : z.length ≤ sizeLine := Nat.le_of_lt (small (by omega))
      refine HX.if_false rfl ?_
      have kd : nameD (.str z) = (decide (1 ≤ z.length) && (decide (z.length ≤ 8) && z.cps.toList.all (fun c => decide (c ∈ abc.cps.toList)))) := rfl
      rw [kd] at k
      refine ⟨_, rfl, z, rfl, hs, _, _, rfl, rfl, _, rfl, if_dec (fun h1 => ?_) (fun h1 => ?_)⟩
      · have h1' : 1 ≤ z.length := by omega
        rw [decide_eq_true h1', Bool.true_and] at k
        refine ⟨_, _, rfl, rfl, _, rfl, ?_⟩
        by_cases h8 : z.length ≤ 8
        · rw [decide_eq_true h8, Bool.true_and] at k
          refine HX.if_false (by rw [decide_eq_true (by omega)]; rfl) ?_
          refine ⟨_, rfl, z, rfl, fun D nD => lc_bl walk_str (fun i => decide (z.cps.toList[i]?.getD 0 ∈ abc.cps.toList)) (by show z.length < 1000; omega) nD (fun _ _ => trivial) (fun i x H2 H3 Kq hi e y kq => ?_) (fun H2 e hD => ?_)⟩
          · obtain ⟨rfl, c, hc, rfl⟩ := y
            refine ⟨rfl, _, rfl, c, _, rfl, rfl, ?_⟩
            have hc2 : z.cps.toList[i]? = some c := by simpa using hc
            have kq2 := kq _ (Ex.rf _)
            rw [hc2] at kq2
            exact kq2
          · refine ⟨D, _, rfl, SqL.of hD, ?_⟩
            rw [show z.cps.size = z.cps.toList.length from Array.length_toList.symm, all_rng (fun c => decide (c ∈ abc.cps.toList)) _ z.cps.toList (fun i a h => by rw [h]; rfl)]
            exact k _ e
        · rw [decide_eq_false h8, Bool.false_and] at k
          exact HX.if_true (by rw [decide_eq_false (by omega)]; rfl) (k.no rfl)
      · rw [decide_eq_false (by omega), Bool.false_and] at k
        exact ⟨_, rfl, HX.if_true rfl (k.no rfl)⟩
theorem ok_are_rising (T : Txt K mg A) : FnOk P w K mg base CX0 1 A.f_are_rising A.d_are_rising ["names"] (spRise K) := by
  refine T.F_are_rising.ok sc_are_rising (fun vs H Q E h => ?_) (fun cdv A0 outer s H vs Q E hr h => ?_)
  · obtain ⟨_, _, rfl, _⟩ := h
    rfl
  · have hu := hu_of hr
    obtain ⟨a, ss, rfl, ha, hl, k⟩ := h
    refine ⟨_, (pss_one (ps_ret (pe_callB (cr_all rfl) (by rfl) T.g_all (by decide +kernel) (pa_cons (pe_lc (own := [("one", 1), ("other", 2)]) (g := (gTup K 2 (gCons (gName 1) (gCons (gName 2) gNil)))) (tt := tYes) rfl sc_are_rising.nd (RZ.pi_zipA (by rfl) T.g_zip (pa_cons (pv 0) (pa_cons (pe_slice sl_seq (pv 0) (po_some pe_int) po_none) pa_nil))) (blkOk_by (N := N_are_rising) (sc := defScope s_are_rising) (by decide +kernel)) (fun _ _ _ _ _ => pg_tup rfl (pgs_cons (pg_name (i := 1) sc_are_rising.nd rfl (Or.inl rfl)) (pgs_cons (pg_name (i := 2) sc_are_rising.nd rfl (Or.inl rfl)) pgs_nil))) (fun _ _ _ _ _ => pts_nil) (fun _ _ _ _ _ => (pe_cmpR op_lt_str (pv 1) (pv 2) (nomark _)))) pa_nil)))), ?_⟩
    have rr := rises_rng ss (fun i => decide ((ss[i]?.getD "").cps.toList < (ss[i + 1]?.getD "").cps.toList)) (fun i a b h1 h2 => by rw [h1, h2]; rfl)
    have turn : ∀ (i : Nat) (x : V) (H2 H3 : Hp), YPair (fun i => (ss.map V.str)[i]?) (fun i => (ss.map V.str).tail[i]?) i H2 x H3 → ∃ T u z, x = .ref T ∧ H2 T = none ∧ H3 = upd H2 T (.tup [.str u, .str z]) ∧ ss[i]? = some u ∧ ss[i + 1]? = some z := fun i x H2 H3 y => by
      obtain ⟨T, v, v', h1, h2, h3, h4, h5⟩ := y
      replace h4 : (ss.map V.str)[i]? = some v := h4
      replace h5 : (ss.map V.str).tail[i]? = some v' := h5
      rw [List.getElem?_map] at h4
      obtain ⟨u, hu, rfl⟩ := Option.map_eq_some_iff.mp h4
      rw [List.getElem?_tail, List.getElem?_map] at h5
      obtain ⟨z, hz, rfl⟩ := Option.map_eq_some_iff.mp h5
      exact ⟨T, u, z, h1, h2, h3, hu, hz⟩
    have ln : (ss.map V.str).length = ss.length := List.length_map ..
    have lt : (ss.map V.str).tail.length = ss.length - 1 := by rw [List.length_tail, ln]
    rcases ha with ha | ha
    · refine ⟨_, rfl, _, rfl, _, rfl, .inl ⟨a, _, rfl, SqL.of ha, fun q nq => ?_⟩⟩
      rw [cut_tail]
      have e0 : Ex H (upd H q (.lst (ss.map V.str).tail)) := Ex.nw nq
      refine ⟨a, q, _, _, rfl, .inl ⟨SqL.of (e0 _ _ ha), SqL.of upd_same, fun D nD => lc_bl (walk_zip (xs := ss.map V.str) (ys := (ss.map V.str).tail) (n := ss.length - 1) (by omega)) (fun i => decide ((ss[i]?.getD "").cps.toList < (ss[i + 1]?.getD "").cps.toList)) (by omega) nD (fun H' e => ⟨SqL.of (e _ _ (e0 _ _ ha)), SqL.of (e _ _ upd_same)⟩) (fun i x H2 H3 Kq hi e y kq => ?_) (fun H2 e hD => ?_)⟩⟩
      · obtain ⟨T, u, z, rfl, nT, rfl, h1, h2⟩ := turn i x H2 H3 y
        rw [h1, h2] at kq
        refine ⟨T, _, rfl, SqT.of upd_same, rfl, _, _, rfl, _, _, rfl, rfl, rfl, _, rfl, _, rfl, u, z, rfl, rfl, ?_⟩
        exact kq _ (Ex.nw nT)
      · refine ⟨D, _, rfl, SqL.of hD, ?_⟩
        rw [rr]
        exact k _ (e0.tr e)
    · refine ⟨_, rfl, _, rfl, _, rfl, .inr ⟨a, _, rfl, ha, fun hw => ?_, fun hw q nq => ?_⟩⟩
      · have h0 : ss = [] := by
          have := hw.1
          rw [ln] at this
          have h1 : min 1 ss.length = 0 := this
          exact List.eq_nil_of_length_eq_zero (by omega)
        have e0 : Ex H H := Ex.rf _
        have hq : SqT K H a (ss.map V.str).tail := by rw [h0] at ha ⊢; exact ha
        refine ⟨a, a, _, _, rfl, .inr ⟨sqt_ex ha e0, hq, fun D nD => lc_bl (walk_zipT (xs := ss.map V.str) (ys := (ss.map V.str).tail) (n := ss.length - 1) (by omega)) (fun i => decide ((ss[i]?.getD "").cps.toList < (ss[i + 1]?.getD "").cps.toList)) (by omega) nD (fun H' e => ⟨sqt_ex (sqt_ex ha e0) e, sqt_ex hq e⟩) (fun i x H2 H3 Kq hi e y kq => ?_) (fun H2 e hD => ?_)⟩⟩
        · obtain ⟨T, u, z, rfl, nT, rfl, h1, h2⟩ := turn i x H2 H3 y
          rw [h1, h2] at kq
          refine ⟨T, _, rfl, SqT.of upd_same, rfl, _, _, rfl, _, _, rfl, rfl, rfl, _, rfl, _, rfl, u, z, rfl, rfl, ?_⟩
          exact kq _ (Ex.nw nT)
        · refine ⟨D, _, rfl, SqL.of hD, ?_⟩
          rw [rr]
          exact k _ (e0.tr e)
      · rw [cut_tail]
        have e0 : Ex H (upd H q (.tup (ss.map V.str).tail)) := Ex.nw nq
        have hq : SqT K (upd H q (.tup (ss.map V.str).tail)) q (ss.map V.str).tail := SqT.of upd_same
        refine ⟨a, q, _, _, rfl, .inr ⟨sqt_ex ha e0, hq, fun D nD => lc_bl (walk_zipT (xs := ss.map V.str) (ys := (ss.map V.str).tail) (n := ss.length - 1) (by omega)) (fun i => decide ((ss[i]?.getD "").cps.toList < (ss[i + 1]?.getD "").cps.toList)) (by omega) nD (fun H' e => ⟨sqt_ex (sqt_ex ha e0) e, sqt_ex hq e⟩) (fun i x H2 H3 Kq hi e y kq => ?_) (fun H2 e hD => ?_)⟩⟩
        · obtain ⟨T, u, z, rfl, nT, rfl, h1, h2⟩ := turn i x H2 H3 y
          rw [h1, h2] at kq
          refine ⟨T, _, rfl, SqT.of upd_same, rfl, _, _, rfl, _, _, rfl, rfl, rfl, _, rfl, _, rfl, u, z, rfl, rfl, ?_⟩
          exact kq _ (Ex.nw nT)
        · refine ⟨D, _, rfl, SqL.of hD, ?_⟩
          rw [rr]
          exact k _ (e0.tr e)
theorem ok_are_names (T : Txt K mg A) : FnOk P w K mg base CX0 2 A.f_are_names A.d_are_names ["value", "most"] (spNames K) := by
  refine T.F_are_names.ok sc_are_names (fun vs H Q E h => ?_) (fun cdv A0 outer s H vs Q E hr h => ?_)
  · obtain ⟨_, _, _, _, rfl, _⟩ := h
    rfl
  · have hu := hu_of hr
    obtain ⟨p, v, d, m, rfl, hz, hm0, hw, k⟩ := h
    refine ⟨_, (pss_cons (ps_if (PW.pt (pw_or (pt_not (pt_val (pe_callB call_isi (by rfl) T.g_isinstance (by decide +kernel) (pa_cons (pv 0) (pa_cons (pe_bltn (v := .ty "tuple") (by rfl) T.g_tuple (by decide +kernel) rfl) pa_nil))))) (pw_or1 (pt_cmpR op_gt (pe_callB call_len_seq (by rfl) T.g_len (by decide +kernel) (pa_cons (pv 0) pa_nil)) (pv 1) (nomark _))))) (pss_one (ps_ret pe_bl)) pss_nil)
      (pss_one (ps_ret (pe_and (pe_callB (cr_all rfl) (by rfl) T.g_all (by decide +kernel) (pa_cons (pe_lc (own := [("name", 2)]) (g := (gName 2)) (tt := tYes) rfl sc_are_names.nd (pi_tup (pv 0)) (blkOk_by (N := N_are_names) (sc := defScope s_are_names) (by decide +kernel)) (fun _ _ _ _ _ => pg_name (i := 2) sc_are_names.nd rfl (Or.inl rfl)) (fun _ _ _ _ _ => pts_nil) (fun _ _ _ _ _ => (pe_call (ok_is_name T) (hr.mono (by decide)) (by rfl) T.m_is_name T.F_is_name.kp T.b_is_name .nil pass0 (pa_cons (pv 2) pa_nil)))) pa_nil)) (pe_one (pe_call (ok_are_rising T) (hr.mono (by decide)) (by rfl) T.m_are_rising T.F_are_rising.kp T.b_are_rising .nil pass0 (pa_cons (pv 0) pa_nil))))))), ?_⟩
    obtain ⟨ty, tx, kt⟩ := kt_dy hz
    refine ⟨_, rfl, _, _, _, _, _, rfl, .ty _, tx, kt, _, rfl, ?_⟩
    by_cases htd : isTupD d = true
    rotate_left
    · refine HX.if_true (by rw [Bool.eq_false_iff.mpr htd]; rfl) (k.no ?_)
      cases d <;> first | rfl | exact absurd rfl htd
    obtain ⟨ds, rfl⟩ := tupD_is htd
    obtain ⟨a, xs, rfl, ht, hl, hi⟩ := hz.tup
    have hn := hw.len
    refine HX.if_false rfl ?_
    refine ⟨_, rfl, a, _, rfl, .inr ht, _, rfl, _, _, rfl, rfl, _, rfl, if_dec (fun h1 => ?_) (fun h1 => ?_)⟩
    · exact k.no (by show (decide ((ds.length : Int) ≤ m) && _) = false; rw [decide_eq_false (by omega), Bool.false_and])
    have hm : decide ((ds.length : Int) ≤ m) = true := decide_eq_true (by omega)
    have kd : namesD (.tuple ds) m = (ds.all nameD && rises (ds.map strD)) := by
      show (decide ((ds.length : Int) ≤ m) && _) = _
      rw [hm, Bool.true_and]
    rw [kd] at k
    refine ⟨_, rfl, a, rfl, ⟨_, ht⟩, fun D nD => lc_bl (walk_tup (xs := xs)) (fun i => nameD (ds[i]?.getD .none)) (by omega) nD (fun H' e => sqt_ex ht e) (fun i x H2 H3 Kq hj e y kq => ?_) (fun H2 e hD => ?_)⟩
    · obtain ⟨rfl, hx⟩ := y
      have hj2 : i < ds.length := by omega
      have hd : ds[i]? = some ds[i] := List.getElem?_eq_getElem hj2
      have dz := hi i x _ hx hd
      rw [hd] at kq
      exact ⟨rfl, _, rfl, p, x, _, rfl, dz.ex e, hw.mem (List.getElem_mem hj2), fun H4 e4 => kq H4 e4⟩
    · refine ⟨D, _, rfl, SqL.of hD, ?_⟩
      rw [hl, all_rng nameD _ ds (fun i a h => by rw [h]; rfl)]
      refine ⟨_, rfl, ?_⟩
      by_cases hall : ds.all nameD = true
      · refine HX.if_true hall ?_
        rw [hall, Bool.true_and] at k
        refine ⟨_, rfl, a, ds.map strD, rfl, .inr ?_, by rw [List.length_map]; omega, fun H4 e4 => k _ (e.tr e4)⟩
        rw [← names_strs hl hi hall]
        exact sqt_ex ht e
      · refine HX.if_false (Bool.eq_false_iff.mpr hall) ?_
        rw [Bool.eq_false_iff.mpr hall, Bool.false_and] at k
        exact k _ e
theorem ok_are_pairs (T : Txt K mg A) : FnOk P w K mg base CX0 2 A.f_are_pairs A.d_are_pairs ["value", "most"] (spPairs) := by
  refine T.F_are_pairs.ok sc_are_pairs (fun vs H Q E h => ?_) (fun cdv A0 outer s H vs Q E hr h => ?_)
  · obtain ⟨_, _, _, _, rfl, _⟩ := h
    rfl
  · have hu := hu_of hr
    obtain ⟨p, v, d, m, rfl, hz, hw, k⟩ := h
    refine ⟨_, (pss_cons (ps_if (PW.pt (pw_or (pt_not (pt_val (pe_callB call_isi (by rfl) T.g_isinstance (by decide +kernel) (pa_cons (pv 0) (pa_cons (pe_bltn (v := .ty "tuple") (by rfl) T.g_tuple (by decide +kernel) rfl) pa_nil))))) (pw_or1 (pt_cmpR op_gt (pe_callB call_len_seq (by rfl) T.g_len (by decide +kernel) (pa_cons (pv 0) pa_nil)) (pv 1) (nomark _))))) (pss_one (ps_ret pe_bl)) pss_nil)
      (pss_cons (ps_if (pt_not (pt_val (pe_callB (cr_all rfl) (by rfl) T.g_all (by decide +kernel) (pa_cons (pe_lc (own := [("pair", 2)]) (g := (gName 2)) (tt := tYes) rfl sc_are_pairs.nd (pi_tup (pv 0)) (blkOk_by (N := N_are_pairs) (sc := defScope s_are_pairs) (by decide +kernel)) (fun _ _ _ _ _ => pg_name (i := 2) sc_are_pairs.nd rfl (Or.inl rfl)) (fun _ _ _ _ _ => pts_nil) (fun _ _ _ _ _ => (pe_and (pe_callB (call_isiK0 (K := K) rfl) (by rfl) T.g_isinstance (by decide +kernel) (pa_cons (pv 2) (pa_cons (pe_bltn (v := .ty "tuple") (by rfl) T.g_tuple (by decide +kernel) rfl) pa_nil))) (pe_and (pe_cmpR op_eq (pe_callB (call_lenK (K := K) rfl) (by rfl) T.g_len (by decide +kernel) (pa_cons (pv 2) pa_nil)) pe_int (nomark _)) (pe_one (pe_call (ok_is_name T) (hr.mono (by decide)) (by rfl) T.m_is_name T.F_is_name.kp T.b_is_name .nil pass0 (pa_cons (pe_ix (ix_tupK (K := K) rfl) (pv 2) pe_int (fun _ _ => rfl)) pa_nil))))))) pa_nil)))) (pss_one (ps_ret pe_bl)) pss_nil)
      (pss_one (ps_ret (pe_call (ok_are_rising T) (hr.mono (by decide)) (by rfl) T.m_are_rising T.F_are_rising.kp T.b_are_rising .nil pass0 (pa_cons (pe_lc (own := [("pair", 2)]) (g := (gName 2)) (tt := tYes) rfl sc_are_pairs.nd (pi_tup (pv 0)) (blkOk_by (N := N_are_pairs) (sc := defScope s_are_pairs) (by decide +kernel)) (fun _ _ _ _ _ => pg_name (i := 2) sc_are_pairs.nd rfl (Or.inl rfl)) (fun _ _ _ _ _ => pts_nil) (fun _ _ _ _ _ => (pe_ix (ix_tupK (K := K) rfl) (pv 2) pe_int (fun _ _ => rfl)))) pa_nil)))))), ?_⟩
    obtain ⟨ty, tx, kt⟩ := kt_tup (K := K) hz
    refine ⟨_, rfl, _, _, _, _, _, rfl, .ty _, tx, kt, _, rfl, ?_⟩
    cases hz with
    | non => exact HX.if_true rfl (k.no rfl)
    | bl b => exact HX.if_true rfl (k.no rfl)
    | int i => exact HX.if_true rfl (k.no rfl)
    | str x => exact HX.if_true rfl (k.no rfl)
    | lst => exact HX.if_true rfl (k.no rfl)
    | dct => exact HX.if_true rfl (k.no rfl)
    | tup ht hl hi =>
      rename_i a xs ds
      have hn := hw.len
      refine HX.if_false rfl ?_
      refine ⟨_, rfl, a, _, rfl, .inr (SqT.of ht), _, rfl, _, _, rfl, rfl, _, rfl, if_dec (fun h1 => ?_) (fun h1 => ?_)⟩
      · exact k.no (by show (decide ((ds.length : Int) ≤ m) && _) = false; rw [decide_eq_false (by omega), Bool.false_and])
      have hm : decide ((ds.length : Int) ≤ m) = true := decide_eq_true (by omega)
      have kd : pairsD (.tuple ds) m = (ds.all pairD && rises (ds.map fun x => strD (fstD x))) := by
        show (decide ((ds.length : Int) ≤ m) && _) = _
        rw [hm, Bool.true_and]
      rw [kd] at k
      refine ⟨_, rfl, a, rfl, ⟨_, SqT.of ht⟩, fun D nD => lc_bl (walk_tup (xs := xs)) (fun i => pairD (ds[i]?.getD .none)) (by omega) nD (fun H' e => SqT.of (e _ _ ht)) (fun i x H2 H3 Kq hj e y kq => ?_) (fun H2 e hD => ?_)⟩
      · obtain ⟨rfl, hx⟩ := y
        have hj2 : i < ds.length := by omega
        have hd : ds[i]? = some ds[i] := List.getElem?_eq_getElem hj2
        have dz := (hi i x _ hx hd).ex e
        have wd := hw.mem (List.getElem_mem hj2)
        rw [hd] at kq
        replace kq : ∀ H4, Ex H3 H4 → Kq (.bl (pairD ds[i])) H4 := kq
        obtain ⟨dd, edd⟩ : ∃ z, z = ds[i] := ⟨_, rfl⟩
        rw [← edd] at kq dz wd
        obtain ⟨ty2, tx2, kt2⟩ := kt_tup (K := K) dz
        refine ⟨rfl, _, rfl, _, _, _, _, _, rfl, .ty _, tx2, kt2, _, rfl, ?_⟩
        cases dz with
        | non => exact HX.if_false rfl (kq _ (Ex.rf _))
        | bl b => exact HX.if_false rfl (kq _ (Ex.rf _))
        | int i => exact HX.if_false rfl (kq _ (Ex.rf _))
        | str x => exact HX.if_false rfl (kq _ (Ex.rf _))
        | lst => exact HX.if_false rfl (kq _ (Ex.rf _))
        | dct => exact HX.if_false rfl (kq _ (Ex.rf _))
        | tup hb lb ib =>
          rename_i b ys es
          have hes := wd.len
          refine HX.if_true rfl ?_
          refine ⟨_, rfl, b, _, rfl, .inr (SqT.of hb), rfl, _, rfl, ?_⟩
          by_cases h2 : ys.length = 2
          · refine HX.if_true (by rw [h2]; rfl) ?_
            match ys, es, lb, h2, ib, hb, wd, kq with
            | [y0, y1], [e0, e1], _, _, ib, hb, wd, kq =>
              exact ⟨_, rfl, b, _, _, _, rfl, rfl, SqT.of hb, rfl, p, y0, e0, rfl, ib 0 y0 e0 rfl rfl, wd.mem (.head _), fun H4 e4 => kq H4 e4⟩
          · have hne : decide (V.int (ys.length : Int) = V.int 2) = false := decide_eq_false (by intro z; injection z with z; omega)
            refine HX.if_false hne ?_
            have hp : pairD (.tuple es) = false := by
              unfold pairD
              split
              · rename_i h; cases h; exact absurd lb h2
              · rfl
            rw [hp] at kq
            exact kq _ (Ex.rf _)
      · refine ⟨D, _, rfl, SqL.of hD, ?_⟩
        rw [hl, all_rng pairD _ ds (fun i a h => by rw [h]; rfl)]
        refine ⟨_, rfl, ?_⟩
        by_cases hall : ds.all pairD = true
        · refine HX.if_false (by rw [hall]; rfl) ?_
          rw [hall, Bool.true_and] at k
          obtain ⟨ps, rfl, eps, hps⟩ := pairs_ps hall
          rw [eps] at k
          have lps : xs.length = ps.length := by rw [hl, List.length_map]
          have ht2 := e _ _ ht
          refine ⟨_, rfl, a, rfl, ⟨_, SqT.of ht2⟩, fun D2 nD2 => lc_tz (walk_tup (xs := xs)) (fun i => .str ((ps.map (·.1))[i]?.getD "")) (by omega) nD2 (fun H' e' => SqT.of (e' _ _ ht2)) (fun i x H3 H4 Kq hj e' y kq => ?_) (fun H3 zs e' hD2 hzs => ?_)⟩
          · obtain ⟨rfl, hx⟩ := y
            obtain ⟨q, b, u, hq, rfl, hb, hu2⟩ := pairs_at hl hi hx
            refine ⟨rfl, _, rfl, b, _, _, _, rfl, rfl, SqT.of (e' _ _ (e _ _ hb)), rfl, kq _ _ (Ex.rf _) ?_⟩
            rw [List.getElem?_map, hq]
            exact .str _
          · rw [names_of (ss := ps.map (·.1)) (by rw [List.length_map]; exact lps)] at hzs
            obtain rfl := hzs.strs
            exact ⟨D2, ps.map (·.1), rfl, .inl hD2, by rw [List.length_map]; omega, fun H4 e4 => k _ (e.tr (e'.tr e4))⟩
        · refine HX.if_true (by rw [Bool.eq_false_iff.mpr hall]; rfl) ?_
          rw [Bool.eq_false_iff.mpr hall, Bool.false_and] at k
          exact k _ e
theorem ok_is_price (T : Txt K mg A) : FnOk P w K mg base CX0 2 A.f_is_price A.d_is_price ["value"] (spSizeA K 0 10) := by
  refine T.F_is_price.ok sc_is_price (fun vs H Q E h => ?_) (fun cdv A0 outer s H vs Q E hr h => ?_)
  · obtain ⟨_, rfl, _⟩ := h
    rfl
  · have hu := hu_of hr
    obtain ⟨v, rfl, hk, k⟩ := h
    refine ⟨_, (pss_one (ps_ret (pe_call (ok_is_whole T) (hr.mono (by decide)) (by rfl) T.m_is_whole T.F_is_whole.kp T.b_is_whole .nil pass0 (pa_cons (pv 0) (pa_cons pe_int (pa_cons (pe_glob (v := .int 10) (by rfl) T.c_PRICES.choose_spec ⟨_, rfl⟩) pa_nil)))))), ?_⟩
    exact ⟨_, rfl, _, _, _, rfl, hk, k⟩
theorem ok_are_priced (T : Txt K mg A) : FnOk P w K mg base CX0 3 A.f_are_priced A.d_are_priced ["value", "most"] (spPriced) := by
  refine T.F_are_priced.ok sc_are_priced (fun vs H Q E h => ?_) (fun cdv A0 outer s H vs Q E hr h => ?_)
  · obtain ⟨_, _, _, _, rfl, _⟩ := h
    rfl
  · have hu := hu_of hr
    obtain ⟨p, v, d, m, rfl, hz, hw, k⟩ := h
    refine ⟨_, (pss_one (ps_ret (pe_and (pe_call (ok_are_pairs T) (hr.mono (by decide)) (by rfl) T.m_are_pairs T.F_are_pairs.kp T.b_are_pairs .nil pass0 (pa_cons (pv 0) (pa_cons (pv 1) pa_nil))) (pe_one (pe_callB (cr_all rfl) (by rfl) T.g_all (by decide +kernel) (pa_cons (pe_lc (own := [("pair", 2)]) (g := (gName 2)) (tt := tYes) rfl sc_are_priced.nd (pi_tup (pv 0)) (blkOk_by (N := N_are_priced) (sc := defScope s_are_priced) (by decide +kernel)) (fun _ _ _ _ _ => pg_name (i := 2) sc_are_priced.nd rfl (Or.inl rfl)) (fun _ _ _ _ _ => pts_nil) (fun _ _ _ _ _ => (pe_call (ok_is_price T) (hr.mono (by decide)) (by rfl) T.m_is_price T.F_is_price.kp T.b_is_price .nil pass0 (pa_cons (pe_ix (ix_tupK (K := K) rfl) (pv 2) pe_int (fun _ _ => rfl)) pa_nil)))) pa_nil)))))), ?_⟩
    refine ⟨_, rfl, _, rfl, p, v, d, m, rfl, hz, hw, fun H1 e1 => ⟨_, rfl, ?_⟩⟩
    by_cases hp : pairsD d m = true
    · refine HX.if_true hp ?_
      obtain ⟨⟨a, xs, rfl, ha, lx, hx⟩, l2, -, -, -⟩ := pairs_of hz hp
      have hle : (psOf d).length ≤ 900 := by
        have h2 := hw
        cases d with
        | tuple ds => show (ds.map _).length ≤ 900; rw [List.length_map]; exact hw.len
        | _ => exact Nat.zero_le _
      have ha1 := e1 _ _ ha
      refine ⟨_, rfl, a, rfl, ⟨_, SqT.of ha1⟩, fun D nD => lc_bl (walk_tup (xs := xs)) (fun i => wholeD ((psOf d)[i]?.getD ("", .none)).2 0 10) (by omega) nD (fun H' e => SqT.of (e _ _ ha1)) (fun i x H2 H3 Kq hi e y kq => ?_) (fun H2 e hD => ?_)⟩
      · obtain ⟨rfl, hx2⟩ := y
        obtain ⟨c, b, u, hc, rfl, hb, hu2⟩ := hx i x hx2
        have hb2 := e _ _ (e1 _ _ hb)
        have dz := (hu2.ex e1).ex e
        rw [hc] at kq
        refine ⟨rfl, _, rfl, b, _, _, _, rfl, rfl, SqT.of hb2, rfl, u, rfl, kd_of dz, ?_⟩
        rw [whole_d dz]
        exact kq _ (Ex.rf _)
      · refine ⟨D, _, rfl, SqL.of hD, ?_⟩
        rw [lx, all_rng (fun q : Str × PyData => wholeD q.2 0 10) _ (psOf d) (fun i a h => by rw [h]; rfl)]
        have kk := k _ (e1.tr e)
        unfold pricedD at kk
        rw [hp, Bool.true_and] at kk
        exact kk
    · refine HX.if_false (Bool.eq_false_iff.mpr hp) ?_
      have kk := k _ e1
      unfold pricedD at kk
      rw [Bool.eq_false_iff.mpr hp, Bool.false_and] at kk
      exact kk
theorem ok_are_items (T : Txt K mg A) : FnOk P w K mg base CX0 2 A.f_are_items A.d_are_items ["value", "size", "most"] spNo := T.F_are_items.ok sc_are_items (fun _ _ _ _ h => h.elim) (fun _ _ _ _ _ _ _ _ _ h => h.elim)
end
end K50
set_option Elab.async false
set_option linter.all false
set_option maxRecDepth 100000
set_option maxHeartbeats 4400000
namespace K50
open PySem PySem.Spec PyProof.Rows L2 HX
open PySem.W (Frag)




def pf (vg vk vh vo : V) : List (Str × V) := putF "_own" vo (putF "_held" vh (putF "_known" vk (putF "_guards" vg [])))
def boolD : PyData → Bool | .bool _ => true | _ => false
def okP (dg dk dh dw : PyData) : Bool := (namesD dg 6 && namesD dw 3) && (boolD dk && boolD dh)
theorem bool_d {p : Addr} {H : Hp} {v : V} {d : PyData} (h : Dz p H v d) : isBool v = boolD d := by cases h <;> rfl
theorem abc_small : (abc.cps.toList.all fun c => decide (97 ≤ c) && decide (c ≤ 122)) = true := by decide +kernel
theorem name_letters {z : Str} (h : nameOk z = true) : letters z = true ∧ z.cps.size ≤ 8 := by
  unfold nameOk at h
  simp only [Bool.and_eq_true, decide_eq_true_eq] at h
  exact ⟨List.all_eq_true.mpr fun c hc => List.all_eq_true.mp abc_small c (of_decide_eq_true (List.all_eq_true.mp h.2.2 c hc)), h.2.1⟩
/-- so many names, in sequence -/
def gOk (m : Nat) (ss : List Str) : Bool := decide (ss.length ≤ m) && (ss.all nameOk && rises ss)
def nmD (ss : List Str) : PyData := .tuple (ss.map .str)
theorem gOk_names (ss : List Str) (m : Nat) : namesD (nmD ss) (m : Int) = gOk m ss := by
  show (decide (((ss.map PyData.str).length : Int) ≤ (m : Int)) && ((ss.map PyData.str).all nameD && rises ((ss.map PyData.str).map strD))) = _
  have e1 : (ss.map PyData.str).map strD = ss := by rw [List.map_map]; exact List.map_id ss
  have e2 : (ss.map PyData.str).all nameD = ss.all nameOk := by rw [List.all_map]; rfl
  have e3 : decide (((ss.map PyData.str).length : Int) ≤ (m : Int)) = decide (ss.length ≤ m) := by rw [List.length_map]; exact decide_eq_decide.mpr Int.ofNat_le
  rw [e1, e2, e3]; rfl
theorem gOk_all {m : Nat} {ss : List Str} (h : gOk m ss = true) : ss.length ≤ m ∧ (∀ z ∈ ss, nameOk z = true) ∧ rises ss = true := by
  unfold gOk at h
  simp only [Bool.and_eq_true, decide_eq_true_eq] at h
  exact ⟨h.1, fun z hz => List.all_eq_true.mp h.2.1 z hz, h.2.2⟩
theorem dz_strs {p : Addr} {H : Hp} (ss : List Str) : ∀ (i : Nat) (v : V) (d : PyData), (ss.map V.str)[i]? = some v → (ss.map PyData.str)[i]? = some d → Dz p H v d := fun i v d hv hd => by
  rw [List.getElem?_map] at hv hd
  cases e : ss[i]? with
  | none => rw [e] at hv; cases hv
  | some z =>
    rw [e] at hv hd
    cases hv; cases hd
    exact .str z
/-- a tuple of names -/
def NmT (K : Frag) (H : Hp) (v : V) (ss : List Str) : Prop := ∃ a, v = .ref a ∧ (H a = some (.tup (ss.map V.str)) ∨ (ss = [] ∧ KNil K a))
theorem NmT.ex {K : Frag} {H H' : Hp} {v : V} {ss : List Str} (h : NmT K H v ss) (e : Ex H H') : NmT K H' v ss := let ⟨a, h1, h2⟩ := h; ⟨a, h1, h2.imp (e _ _) id⟩
theorem NmT.sq {K : Frag} {H : Hp} {v : V} {ss : List Str} (h : NmT K H v ss) : ∃ a, v = .ref a ∧ SqT K H a (ss.map V.str) := by
  obtain ⟨a, h1, h2⟩ := h
  refine ⟨a, h1, ?_⟩
  rcases h2 with h2 | ⟨rfl, h2⟩
  · exact SqT.of h2
  · exact h2.sq
theorem NmT.dy {K : Frag} {H : Hp} {v : V} {ss : List Str} (p : Addr) (h : NmT K H v ss) : Dy K p H v (nmD ss) := by
  obtain ⟨a, rfl, h2⟩ := h
  rcases h2 with h2 | ⟨rfl, h2⟩
  · exact .inl (.tup h2 (by rw [List.length_map, List.length_map]) (dz_strs ss))
  · exact .inr ⟨rfl, a, rfl, h2⟩
theorem NmT.of {K : Frag} {H : Hp} {a : Addr} {ss : List Str} (h : H a = some (.tup (ss.map V.str))) : NmT K H (.ref a) ss := ⟨a, rfl, .inl h⟩
/-- a plan stands at x -/
def PlanAt (K : Frag) (C : Addr) (H : Hp) (x : Addr) (gs : List Str) (kn he : Bool) (ws : List Str) : Prop := (∃ (dx : Addr) (vg vo : V), H x = some (.ins C dx (pf vg (.bl kn) (.bl he) vo)) ∧ NmT K H vg gs ∧ NmT K H vo ws) ∧ gOk 6 gs = true ∧ gOk 3 ws = true
theorem PlanAt.ex {K : Frag} {C x : Addr} {H H' : Hp} {gs ws : List Str} {kn he : Bool} (h : PlanAt K C H x gs kn he ws) (e : Ex H H') : PlanAt K C H' x gs kn he ws := let ⟨⟨dx, vg, vo, h1, h2, h3⟩, g⟩ := h; ⟨⟨dx, vg, vo, e _ _ h1, h2.ex e, h3.ex e⟩, g⟩
def spPinit (K : Frag) (A : Ad) : Sp := fun vs H Q E => ∃ (x dx p : Addr) (vg vk vh vo : V) (dg dk dh dw : PyData), vs = [.ref x, vg, vk, vh, vo] ∧ H x = some (.ins A.C_Plan dx []) ∧ Dy K p H vg dg ∧ Dz p H vk dk ∧ Dz p H vh dh ∧ Dy K p H vo dw ∧ Wt 900 dg ∧ Wt 900 dw ∧
  (okP dg dk dh dw = false → ∀ (t d : Addr) (H' : Hp), Ex H H' → H' t = some (.tup [vg, vk, vh, vo]) → H' d = some (.xd [("value", .ref t)]) → E (.ref A.C_BadPlan) (some d) H') ∧
  (okP dg dk dh dw = true → ∀ H', (∀ c o, c ≠ x → H c = some o → H' c = some o) → H' x = some (.ins A.C_Plan dx (pf vg vk vh vo)) → Q .non H')
def spProp (K : Frag) (C : Addr) (R : V → V → V → V → V) : Sp := fun vs H Q _ => ∃ (x dx : Addr) (vg vk vh vo : V), vs = [.ref x] ∧ H x = some (.ins C dx (pf vg vk vh vo)) ∧ Q (R vg vk vh vo) H

theorem pf_guards (vg vk vh vo : V) : (pf vg vk vh vo).lookup ("_guards" : Str) = some (vg) := by
  unfold pf
  rw [lookup_putF, if_neg (by decide +kernel)]
  rw [lookup_putF, if_neg (by decide +kernel)]
  rw [lookup_putF, if_neg (by decide +kernel)]
  rw [lookup_putF, if_pos rfl]
theorem pf_known (vg vk vh vo : V) : (pf vg vk vh vo).lookup ("_known" : Str) = some (vk) := by
  unfold pf
  rw [lookup_putF, if_neg (by decide +kernel)]
  rw [lookup_putF, if_neg (by decide +kernel)]
  rw [lookup_putF, if_pos rfl]
theorem pf_held (vg vk vh vo : V) : (pf vg vk vh vo).lookup ("_held" : Str) = some (vh) := by
  unfold pf
  rw [lookup_putF, if_neg (by decide +kernel)]
  rw [lookup_putF, if_pos rfl]
theorem pf_own (vg vk vh vo : V) : (pf vg vk vh vo).lookup ("_own" : Str) = some (vo) := by
  unfold pf
  rw [lookup_putF, if_pos rfl]

theorem dpAll_of {K : Frag} {H : Hp} : ∀ {xs : List V} {ds : List PyData}, xs.length = ds.length → (∀ (i : Nat) (v : V) (d : PyData), xs[i]? = some v → ds[i]? = some d → Dp K H v d) → DpAll K H xs ds
  | [], [], _, _ => .nil
  | [], _ :: _, h, _ => by simp at h
  | _ :: _, [], h, _ => by simp at h
  | v :: xs, d :: ds, h, g => .cons (g 0 v d rfl rfl) (dpAll_of (by simpa using h) fun i v d a b => g (i + 1) v d (by simpa using a) (by simpa using b))
structure Pq (w k : Nat) (d : PyData) : Prop where
  sh : d.showable = true
  dp : d.depth ≤ k
  lv : d.leavesShort 24 = true
  wt : d.weight ≤ w
theorem pq_int {i : Int} (h0 : 0 ≤ i) (h1 : i < 5) : Pq 3 0 (.int i) := by
  have : (List.range 5).all (fun n => (PyData.int (n : Int)).showable && (decide ((PyData.int (n : Int)).depth ≤ 0) && ((PyData.int (n : Int)).leavesShort 24 && decide ((PyData.int (n : Int)).weight ≤ 3)))) = true := by decide +kernel
  obtain ⟨n, rfl⟩ := Int.eq_ofNat_of_zero_le h0
  have q := List.all_eq_true.mp this n (List.mem_range.mpr (by omega))
  simp only [Bool.and_eq_true, decide_eq_true_eq] at q
  exact ⟨q.1, q.2.1, q.2.2.1, q.2.2.2⟩
theorem pq_name {z : Str} (h : nameOk z = true) : Pq 8 0 (.str z) := by
  obtain ⟨h1, h2⟩ := name_letters h
  refine ⟨rfl, Nat.le_refl _, ?_, by simp only [PyData.weight]; exact h2⟩
  simp only [PyData.leavesShort]
  refine List.all_eq_true.mpr fun c hc => ?_
  have q := List.all_eq_true.mp h1 c hc
  simp only [Bool.and_eq_true, decide_eq_true_eq] at q ⊢
  have : (122 : Nat) < 16 ^ 8 := by decide
  omega
theorem pq_pack {w k : Nat} : ∀ {ds : List PyData}, (∀ d ∈ ds, Pq w k d) → PyData.showableAll ds = true ∧ PyData.depthAll ds ≤ k ∧ PyData.leavesShortAll 24 ds = true ∧ PyData.weightAll ds ≤ ds.length * (w + 1)
  | [], _ => ⟨rfl, Nat.zero_le _, rfl, Nat.zero_le _⟩
  | d :: r, h => by
    obtain ⟨a, b, c, e⟩ := pq_pack (ds := r) fun x hx => h x (.tail _ hx)
    obtain ⟨a1, b1, c1, e1⟩ := h d (.head _)
    refine ⟨?_, ?_, ?_, ?_⟩
    · simp only [PyData.showableAll, a1, a, Bool.and_self]
    · simp only [PyData.depthAll]; omega
    · simp only [PyData.leavesShortAll, c1, c, Bool.and_self]
    · simp only [PyData.weightAll, List.length_cons]
      have : (r.length + 1) * (w + 1) = r.length * (w + 1) + (w + 1) := by rw [Nat.add_mul, Nat.one_mul]
      omega
theorem pq_tup {w k m n : Nat} {ds : List PyData} (h : ∀ d ∈ ds, Pq w k d) (hl : ds.length ≤ m) (hn : m * (w + 1) ≤ n) : Pq n (k + 1) (.tuple ds) := by
  obtain ⟨a, b, c, e⟩ := pq_pack h
  refine ⟨by simp only [PyData.showable]; exact a, by simp only [PyData.depth]; omega, by simp only [PyData.leavesShort]; exact c, ?_⟩
  simp only [PyData.weight]
  exact Nat.le_trans e (Nat.le_trans (Nat.mul_le_mul_right _ hl) hn)
theorem Pq.pz {w k n : Nat} {d : PyData} (h : Pq w k d) (h1 : k ≤ 8) (h2 : w ≤ n) : Pz n d := ⟨h.sh, Nat.le_trans h.dp h1, h.lv, Nat.le_trans h.wt h2⟩
theorem Pq.up {w k w' k' : Nat} {d : PyData} (h : Pq w k d) (h1 : w ≤ w') (h2 : k ≤ k') : Pq w' k' d := ⟨h.sh, Nat.le_trans h.dp h2, h.lv, Nat.le_trans h.wt h1⟩

theorem NmT.dp {K : Frag} {H : Hp} {v : V} {ss : List Str} (h : NmT K H v ss) : Dp K H v (nmD ss) := by
  obtain ⟨a, rfl, h2⟩ := h.sq
  refine .tup h2 (dpAll_of (by rw [List.length_map, List.length_map]) fun i v d hv hd => ?_)
  rw [List.getElem?_map] at hv hd
  cases e : ss[i]? with
  | none => rw [e] at hv; cases hv
  | some z =>
    rw [e] at hv hd
    cases hv; cases hd
    exact .str z
theorem nm_pq {m : Nat} {gs : List Str} (h : gOk m gs = true) (hm : m ≤ 6) : Pq 54 1 (nmD gs) := pq_tup (w := 8) (k := 0) (m := 6) (n := 54) (fun d hd => by
  obtain ⟨z, hz, rfl⟩ := List.mem_map.mp hd
  exact pq_name ((gOk_all h).2.1 z hz)) (by rw [List.length_map]; exact Nat.le_trans (gOk_all h).1 hm) (by decide)
theorem nm_plain {m : Nat} {gs : List Str} (h : gOk m gs = true) : plainD (nmD gs) = true := by
  show plainAll (gs.map PyData.str) = true
  refine plainAll_of fun d hd => ?_
  obtain ⟨z, hz, rfl⟩ := List.mem_map.mp hd
  exact (name_letters ((gOk_all h).2.1 z hz)).1
theorem nm_inj {a b : List Str} (h : nmD a = nmD b) : a = b := by
  unfold nmD at h
  injection h with h
  have e : ∀ l : List Str, (l.map PyData.str).map strD = l := fun l => by rw [List.map_map]; exact List.map_id l
  rw [← e a, h, e b]
theorem nm_eqv {m n : Nat} {a b : List Str} (ha : gOk m a = true) (hb : gOk n b = true) : PyData.eqv (nmD a) (nmD b) = decide (a = b) := by
  by_cases h : a = b
  · rw [decide_eq_true h]; exact (eqv_plain _ _ (nm_plain ha) (nm_plain hb)).mpr (by rw [h])
  · rw [decide_eq_false h]
    exact Bool.eq_false_iff.mpr fun q => h (nm_inj ((eqv_plain _ _ (nm_plain ha) (nm_plain hb)).mp q))
theorem nm_shaped {m : Nat} {gs : List Str} (h : gOk m gs = true) (hm : m ≤ 6) : SeqAt.shaped (nmD gs) = true := shaped_plain (nm_plain h) ((nm_pq h hm).pz (by decide) (Nat.le_refl _))
def samePl (gs : List Str) (kn he : Bool) (ws gs2 : List Str) (kn2 he2 : Bool) (ws2 : List Str) : Bool := (decide (gs = gs2) && decide (ws = ws2)) && (decide (kn = kn2) && decide (he = he2))
def spPeq (K : Frag) (C : Addr) : Sp := fun vs H Q _ => ∃ (x : Addr) (y : V) (gs : List Str) (kn he : Bool) (ws : List Str), vs = [.ref x, y] ∧ PlanAt K C H x gs kn he ws ∧
  ((∃ t : Value, TyX K H y t ∧ PySem.W.kitOne K t (.ref C) = some false ∧ Q (.bl false) H) ∨ ∃ (x2 : Addr) (gs2 : List Str) (kn2 he2 : Bool) (ws2 : List Str), y = .ref x2 ∧ PlanAt K C H x2 gs2 kn2 he2 ws2 ∧ Q (.bl (samePl gs kn he ws gs2 kn2 he2 ws2)) H)
theorem bl_dec (a b : Bool) : decide (V.bl a = V.bl b) = decide (a = b) := by cases a <;> cases b <;> decide
theorem kbn_all {K : Frag} {f ka kb : Addr} {fd : FuncData} (F : FunD K "__init__" "Plan.__init__" (defArgs s_Plan_init) (defBody s_Plan_init) (defScope s_Plan_init) [.ref ka] [("known", .bl false), ("held", .bl true), ("own", .ref kb)] f fd) :
    ∃ g, KBn K fd ["self", "guards", "known", "held", "own"] 2 ["known", "held", "own"] g (fun us ws => us ++ ws) := by
  obtain ⟨its, mv, h⟩ := F.kbinds (ps := ["self", "guards", "known", "held", "own"]) 2 ["known", "held", "own"] [] (fun us _ _ ws => us ++ ws) (by simp) (by simp) (fun q hq => by cases hq) (fun r1 _ _ r4 => r1.append r4)
    (fun T D doc pm an cdv ct us its mv ws l1 l2 l3 l4 => by
      match us, its, mv, ws, l1, l2, l3, l4 with
      | [_, _], [_], [], [_, _, _], _, _, _, _ => exact ⟨_, rfl, rfl⟩)
  exact ⟨_, h⟩
theorem kit_selfW {K : PySem.W.Frag} {t : Value} : PySem.W.kitOne K t t = some true := if_pos (beq_iff_eq.mpr rfl)
theorem pass_no {X : Cx} : Passes (L2.CX X.prog X.w) X (fun _ _ _ => False) := fun _ _ _ _ _ _ _ x => by
  obtain ⟨_, _, _, _, _, _, _, _, _, _, _, _, _, _, _, _, z⟩ := x

section
variable {P : Program} {w : World} {K : Frag} {mg : Str → Option Value} {base : Heap} {A : Ad}

theorem ok_BadPlan_init (T : Txt K mg A) : FnOk P w K mg base CX0 1 A.f_BadPlan_init A.d_BadPlan_init ["self", "value"] (spEI A.C_BadPlan "value") := by
  refine T.F_BadPlan_init.ok sc_BadPlan_init (fun vs H Q E h => ?_) (fun cdv A0 outer s H vs Q E hr h => ?_)
  · obtain ⟨_, _, rfl, _⟩ := h
    rfl
  · obtain ⟨a, v, rfl, ha, k⟩ := h
    refine ⟨_, pss_one (ps_ost (pv 0) (pv 1)), ?_⟩
    exact ⟨_, rfl, _, rfl, a, A.C_BadPlan, rfl, T.E_BadPlan.oex, T.E_BadPlan.no, .inl ⟨ha, k⟩⟩
theorem ok_Plan_guards (T : Txt K mg A) : FnOk P w K mg base CX0 1 A.f_Plan_guards A.d_Plan_guards ["self"] (spProp K A.C_Plan (fun vg vk vh vo => vg)) := by
  refine T.F_Plan_guards.ok sc_Plan_guards (fun vs H Q E h => ?_) (fun cdv A0 outer s H vs Q E hr h => ?_)
  · obtain ⟨_, _, _, _, _, _, rfl, _⟩ := h
    rfl
  · have hu := hu_of hr
    obtain ⟨x, dx, vg, vk, vh, vo, rfl, h0, k⟩ := h
    refine ⟨_, (pss_one (ps_ret (pe_fld (pv 0) rfl))), ?_⟩
    exact ⟨_, rfl, x, A.C_Plan, dx, _, _, rfl, h0, T.cls_Plan, T.n_guards, pf_guards _ _ _ _, k⟩
theorem ok_Plan_known (T : Txt K mg A) : FnOk P w K mg base CX0 1 A.f_Plan_known A.d_Plan_known ["self"] (spProp K A.C_Plan (fun vg vk vh vo => vk)) := by
  refine T.F_Plan_known.ok sc_Plan_known (fun vs H Q E h => ?_) (fun cdv A0 outer s H vs Q E hr h => ?_)
  · obtain ⟨_, _, _, _, _, _, rfl, _⟩ := h
    rfl
  · have hu := hu_of hr
    obtain ⟨x, dx, vg, vk, vh, vo, rfl, h0, k⟩ := h
    refine ⟨_, (pss_one (ps_ret (pe_fld (pv 0) rfl))), ?_⟩
    exact ⟨_, rfl, x, A.C_Plan, dx, _, _, rfl, h0, T.cls_Plan, T.n_known, pf_known _ _ _ _, k⟩
theorem ok_Plan_held (T : Txt K mg A) : FnOk P w K mg base CX0 1 A.f_Plan_held A.d_Plan_held ["self"] (spProp K A.C_Plan (fun vg vk vh vo => vh)) := by
  refine T.F_Plan_held.ok sc_Plan_held (fun vs H Q E h => ?_) (fun cdv A0 outer s H vs Q E hr h => ?_)
  · obtain ⟨_, _, _, _, _, _, rfl, _⟩ := h
    rfl
  · have hu := hu_of hr
    obtain ⟨x, dx, vg, vk, vh, vo, rfl, h0, k⟩ := h
    refine ⟨_, (pss_one (ps_ret (pe_fld (pv 0) rfl))), ?_⟩
    exact ⟨_, rfl, x, A.C_Plan, dx, _, _, rfl, h0, T.cls_Plan, T.n_held, pf_held _ _ _ _, k⟩
theorem ok_Plan_own (T : Txt K mg A) : FnOk P w K mg base CX0 1 A.f_Plan_own A.d_Plan_own ["self"] (spProp K A.C_Plan (fun vg vk vh vo => vo)) := by
  refine T.F_Plan_own.ok sc_Plan_own (fun vs H Q E h => ?_) (fun cdv A0 outer s H vs Q E hr h => ?_)
  · obtain ⟨_, _, _, _, _, _, rfl, _⟩ := h
    rfl
  · have hu := hu_of hr
    obtain ⟨x, dx, vg, vk, vh, vo, rfl, h0, k⟩ := h
    refine ⟨_, (pss_one (ps_ret (pe_fld (pv 0) rfl))), ?_⟩
    exact ⟨_, rfl, x, A.C_Plan, dx, _, _, rfl, h0, T.cls_Plan, T.n_own, pf_own _ _ _ _, k⟩
theorem ok_Plan_init (T : Txt K mg A) : FnOk P w K mg base (L2.CX P w) 4 A.f_Plan_init A.d_Plan_init ["self", "guards", "known", "held", "own"] (spPinit K A) := by
  obtain ⟨ka, kb, FD, na, nb⟩ := T.F_Plan_init
  refine FD.ok sc_Plan_init (fun vs H Q E h => ?_) (fun cdv A0 outer s H vs Q E hr h => ?_)
  · obtain ⟨_, _, _, _, _, _, _, _, _, _, _, rfl, _⟩ := h
    rfl
  · have hu := hu_of hr
    obtain ⟨x, dx, p, vg, vk, vh, vo, dg, dk, dh, dw, rfl, hx, zg, zk, zh, zo, wg, wo, kE, kQ⟩ := h
    refine ⟨_, (pss_cons (ps_set (i := 5) sc_Plan_init.nd rfl (Or.inl rfl) (pe_and (pe_call (ok_are_names T) (hr.mono (by decide)) (by rfl) T.m_are_names T.F_are_names.kp T.b_are_names .nil pass0 (pa_cons (pv 1) (pa_cons (pe_glob (v := .int 6) (by rfl) T.c_MOST_GUARDS.choose_spec ⟨_, rfl⟩) pa_nil))) (pe_one (pe_call (ok_are_names T) (hr.mono (by decide)) (by rfl) T.m_are_names T.F_are_names.kp T.b_are_names .nil pass0 (pa_cons (pv 4) (pa_cons (pe_glob (v := .int 3) (by rfl) T.c_MOST_OWN.choose_spec ⟨_, rfl⟩) pa_nil))))))
      (pss_cons (ps_if (PW.pt (pw_or (pt_not (pt_val (pv 5))) (pw_or (pt_not (pt_val (pe_callB call_isi (by rfl) T.g_isinstance (by decide +kernel) (pa_cons (pv 2) (pa_cons (pe_bltn (v := .ty "bool") (by rfl) T.g_bool (by decide +kernel) rfl) pa_nil))))) (pw_or1 (pt_not (pt_val (pe_callB call_isi (by rfl) T.g_isinstance (by decide +kernel) (pa_cons (pv 3) (pa_cons (pe_bltn (v := .ty "bool") (by rfl) T.g_bool (by decide +kernel) rfl) pa_nil))))))))) (pss_one (ps_raise rfl (takes_of rfl rfl rfl rfl) (pmk_oex T.E_BadPlan.oex T.E_BadPlan.ini T.E_BadPlan.fn (ok_BadPlan_init T) (hr.mono (by decide)) T.E_BadPlan.b .nil pass0 (by rfl) T.m_BadPlan (pa_cons (pe_tup (pa_cons (pv 1) (pa_cons (pv 2) (pa_cons (pv 3) (pa_cons (pv 4) pa_nil))))) pa_nil)))) pss_nil)
      (pss_cons (ps_fld (pv 0) (pv 1) rfl)
      (pss_cons (ps_fld (pv 0) (pv 2) rfl)
      (pss_cons (ps_fld (pv 0) (pv 3) rfl)
      (pss_one (ps_fld (pv 0) (pv 4) rfl))))))), ?_⟩
    refine ⟨_, rfl, p, vg, dg, 6, rfl, zg, by decide, wg, fun H1 e1 => ⟨_, rfl, ?_⟩⟩
    by_cases h1 : namesD dg 6 = true
    rotate_left
    · refine HX.if_false (Bool.eq_false_iff.mpr h1) ?_
      refine ⟨_, rfl, _, rfl, HX.if_true rfl ?_⟩
      refine ⟨_, rfl, _, rfl, _, rfl, _, rfl, (by show 4 ≤ sizeLine; decide), fun t nt => ?_⟩
      have eT := (e1).tr (Ex.nw (o := .tup [vg, vk, vh, vo]) nt)
      obtain ⟨HT, ET⟩ : ∃ z, z = upd H1 t (.tup [vg, vk, vh, vo]) := ⟨_, rfl⟩
      have hT := (show HT t = some (.tup [vg, vk, vh, vo]) by rw [ET]; exact upd_same)
      rw [← ET] at eT ⊢
      refine ⟨(by show 1 ≤ 1000; decide), fun x2 nx2 => ⟨x2, _, rfl, upd_same, fun dx2 ndx ne => ⟨rfl, dx2, _, upd_same, (by rw [upd_ne ne, upd_same]), ?_, ?_⟩⟩⟩
      · rw [upd_ne ne] at ndx
        exact ndx
      · rw [upd_ne ne] at ndx
        refine (fun eX => kE (by unfold okP; rw [Bool.eq_false_iff.mpr h1]; rfl) t dx2 _ (eT.tr eX) (eX _ _ hT) upd_same) (fun c o e => ?_)
        have cx := ne_of_none e nx2
        have cd := ne_of_none e ndx
        rw [upd_ne cd, del_ne cx, upd_ne cx, upd_ne cd, upd_ne cx]
        exact e
    refine HX.if_true h1 ?_
    refine ⟨_, rfl, p, vo, dw, 3, rfl, zo.ex e1, by decide, wo, fun H2 e2 => ?_⟩
    have e12 := e1.tr e2
    refine ⟨_, rfl, _, rfl, ?_⟩
    by_cases h2 : namesD dw 3 = true
    rotate_left
    · refine HX.if_true (by rw [Bool.eq_false_iff.mpr h2]; rfl) ?_
      refine ⟨_, rfl, _, rfl, _, rfl, _, rfl, (by show 4 ≤ sizeLine; decide), fun t nt => ?_⟩
      have eT := (e12).tr (Ex.nw (o := .tup [vg, vk, vh, vo]) nt)
      obtain ⟨HT, ET⟩ : ∃ z, z = upd H2 t (.tup [vg, vk, vh, vo]) := ⟨_, rfl⟩
      have hT := (show HT t = some (.tup [vg, vk, vh, vo]) by rw [ET]; exact upd_same)
      rw [← ET] at eT ⊢
      refine ⟨(by show 1 ≤ 1000; decide), fun x2 nx2 => ⟨x2, _, rfl, upd_same, fun dx2 ndx ne => ⟨rfl, dx2, _, upd_same, (by rw [upd_ne ne, upd_same]), ?_, ?_⟩⟩⟩
      · rw [upd_ne ne] at ndx
        exact ndx
      · rw [upd_ne ne] at ndx
        refine (fun eX => kE (by unfold okP; rw [h1, Bool.eq_false_iff.mpr h2]; rfl) t dx2 _ (eT.tr eX) (eX _ _ hT) upd_same) (fun c o e => ?_)
        have cx := ne_of_none e nx2
        have cd := ne_of_none e ndx
        rw [upd_ne cd, del_ne cx, upd_ne cx, upd_ne cd, upd_ne cx]
        exact e
    refine HX.if_false (by rw [h2]; rfl) ?_
    obtain ⟨ty3, tx3, -, kt3⟩ := kd_of (K := K) (zk.ex e12)
    rw [bool_d zk] at kt3
    refine ⟨_, rfl, _, _, _, _, _, rfl, .ty _, tx3, kt3, _, rfl, ?_⟩
    by_cases h3 : boolD dk = true
    rotate_left
    · refine HX.if_true (by rw [Bool.eq_false_iff.mpr h3]; rfl) ?_
      refine ⟨_, rfl, _, rfl, _, rfl, _, rfl, (by show 4 ≤ sizeLine; decide), fun t nt => ?_⟩
      have eT := (e12).tr (Ex.nw (o := .tup [vg, vk, vh, vo]) nt)
      obtain ⟨HT, ET⟩ : ∃ z, z = upd H2 t (.tup [vg, vk, vh, vo]) := ⟨_, rfl⟩
      have hT := (show HT t = some (.tup [vg, vk, vh, vo]) by rw [ET]; exact upd_same)
      rw [← ET] at eT ⊢
      refine ⟨(by show 1 ≤ 1000; decide), fun x2 nx2 => ⟨x2, _, rfl, upd_same, fun dx2 ndx ne => ⟨rfl, dx2, _, upd_same, (by rw [upd_ne ne, upd_same]), ?_, ?_⟩⟩⟩
      · rw [upd_ne ne] at ndx
        exact ndx
      · rw [upd_ne ne] at ndx
        refine (fun eX => kE (by unfold okP; rw [h1, h2, Bool.eq_false_iff.mpr h3]; rfl) t dx2 _ (eT.tr eX) (eX _ _ hT) upd_same) (fun c o e => ?_)
        have cx := ne_of_none e nx2
        have cd := ne_of_none e ndx
        rw [upd_ne cd, del_ne cx, upd_ne cx, upd_ne cd, upd_ne cx]
        exact e
    refine HX.if_false (by rw [h3]; rfl) ?_
    obtain ⟨ty4, tx4, -, kt4⟩ := kd_of (K := K) (zh.ex e12)
    rw [bool_d zh] at kt4
    refine ⟨_, rfl, _, _, _, _, _, rfl, .ty _, tx4, kt4, _, rfl, ?_⟩
    by_cases h4 : boolD dh = true
    rotate_left
    · refine HX.if_true (by rw [Bool.eq_false_iff.mpr h4]; rfl) ?_
      refine ⟨_, rfl, _, rfl, _, rfl, _, rfl, (by show 4 ≤ sizeLine; decide), fun t nt => ?_⟩
      have eT := (e12).tr (Ex.nw (o := .tup [vg, vk, vh, vo]) nt)
      obtain ⟨HT, ET⟩ : ∃ z, z = upd H2 t (.tup [vg, vk, vh, vo]) := ⟨_, rfl⟩
      have hT := (show HT t = some (.tup [vg, vk, vh, vo]) by rw [ET]; exact upd_same)
      rw [← ET] at eT ⊢
      refine ⟨(by show 1 ≤ 1000; decide), fun x2 nx2 => ⟨x2, _, rfl, upd_same, fun dx2 ndx ne => ⟨rfl, dx2, _, upd_same, (by rw [upd_ne ne, upd_same]), ?_, ?_⟩⟩⟩
      · rw [upd_ne ne] at ndx
        exact ndx
      · rw [upd_ne ne] at ndx
        refine (fun eX => kE (by unfold okP; rw [h1, h2, h3, Bool.eq_false_iff.mpr h4]; rfl) t dx2 _ (eT.tr eX) (eX _ _ hT) upd_same) (fun c o e => ?_)
        have cx := ne_of_none e nx2
        have cd := ne_of_none e ndx
        rw [upd_ne cd, del_ne cx, upd_ne cx, upd_ne cd, upd_ne cx]
        exact e
    refine HX.if_false (by rw [h4]; rfl) ?_
    have k := kQ (by unfold okP; rw [h1, h2, h3, h4]; rfl)
    have hx2 := e12 _ _ hx
    refine ⟨_, rfl, _, rfl, x, A.C_Plan, dx, _, rfl, hx2, T.cls_Plan, T.n_guards, (by show 0 < 1000; decide), _, rfl, _, rfl, x, A.C_Plan, dx, _, rfl, upd_same, T.cls_Plan, T.n_known, (by show 1 < 1000; decide), _, rfl, _, rfl, x, A.C_Plan, dx, _, rfl, upd_same, T.cls_Plan, T.n_held, (by show 2 < 1000; decide), _, rfl, _, rfl, x, A.C_Plan, dx, _, rfl, upd_same, T.cls_Plan, T.n_own, (by show 3 < 1000; decide), ?_⟩
    simp only [upd_upd]
    refine k _ (fun c o n e => ?_) upd_same
    rw [upd_ne n]
    exact e12 _ _ e

theorem ok_BadPrices_init (T : Txt K mg A) : FnOk P w K mg base CX0 1 A.f_BadPrices_init A.d_BadPrices_init ["self", "value"] (spEI A.C_BadPrices "value") := by
  refine T.F_BadPrices_init.ok sc_BadPrices_init (fun vs H Q E h => ?_) (fun cdv A0 outer s H vs Q E hr h => ?_)
  · obtain ⟨_, _, rfl, _⟩ := h
    rfl
  · obtain ⟨a, v, rfl, ha, k⟩ := h
    refine ⟨_, pss_one (ps_ost (pv 0) (pv 1)), ?_⟩
    exact ⟨_, rfl, _, rfl, a, A.C_BadPrices, rfl, T.E_BadPrices.oex, T.E_BadPrices.no, .inl ⟨ha, k⟩⟩
theorem ty_plan (T : Txt K mg A) {H : Hp} {x dx : Addr} {fs : List (Str × V)} (e : H x = some (.ins A.C_Plan dx fs)) : TyX K H (.ref x) (.ref A.C_Plan) := .base (.ins e T.cls_Plan T.kcl T.kgs T.ktk T.kob)
theorem ok_Plan_eq (T : Txt K mg A) : FnOk P w K mg base CX0 3 A.f_Plan_eq A.d_Plan_eq ["self", "other"] (spPeq K A.C_Plan) := by
  refine T.F_Plan_eq.ok sc_Plan_eq (fun vs H Q E h => ?_) (fun cdv A0 outer s H vs Q E hr h => ?_)
  · obtain ⟨_, _, _, _, _, _, rfl, _⟩ := h
    rfl
  · have hu := hu_of hr
    obtain ⟨x, y, gs, kn, he, ws, rfl, ⟨⟨dx, vg, vo, hx, ng, nw⟩, g6, g3⟩, k⟩ := h
    refine ⟨_, (pss_cons (ps_if (pt_not (pt_val (pe_callB call_isi (by rfl) T.g_isinstance (by decide +kernel) (pa_cons (pv 1) (pa_cons (pe_glob (v := .ref A.C_Plan) (by rfl) T.m_Plan rfl) pa_nil))))) (pss_one (ps_ret pe_bl)) pss_nil)
      (pss_cons (ps_if (PW.pt (pw_or (pt_cmpR (op_neD hr.units) (pe_fld (pv 0) rfl) (pe_prop (pv 1) T.cls_Plan T.P_guards (ok_Plan_guards T) (hr.mono (by decide)) T.b_Plan_guards .nil pass0 rfl) (nomark _)) (pw_or1 (pt_cmpR (op_neD hr.units) (pe_fld (pv 0) rfl) (pe_prop (pv 1) T.cls_Plan T.P_own (ok_Plan_own T) (hr.mono (by decide)) T.b_Plan_own .nil pass0 rfl) (nomark _))))) (pss_one (ps_ret pe_bl)) pss_nil)
      (pss_one (ps_ret (pe_and (pe_cmpR op_eq (pe_fld (pv 0) rfl) (pe_prop (pv 1) T.cls_Plan T.P_known (ok_Plan_known T) (hr.mono (by decide)) T.b_Plan_known .nil pass0 rfl) (nomark _)) (pe_one (pe_cmpR op_eq (pe_fld (pv 0) rfl) (pe_prop (pv 1) T.cls_Plan T.P_held (ok_Plan_held T) (hr.mono (by decide)) T.b_Plan_held .nil pass0 rfl) (nomark _)))))))), ?_⟩
    rcases k with ⟨t, ty, kt, k⟩ | ⟨x2, gs2, kn2, he2, ws2, rfl, ⟨⟨dy, ug, uo, hy, mg, mw⟩, q6, q3⟩, k⟩
    · exact ⟨_, rfl, _, _, _, _, _, rfl, .own _, ty, kt, _, rfl, HX.if_true rfl k⟩
    refine ⟨_, rfl, _, _, _, _, _, rfl, .own _, ty_plan T hy, kit_selfW, _, rfl, HX.if_false rfl ?_⟩
    unfold samePl at k
    refine ⟨_, rfl, x, A.C_Plan, dx, _, _, rfl, hx, T.cls_Plan, T.n_guards, pf_guards _ _ _ _, _, rfl, x2, dy, _, rfl, hy, x2, dy, _, _, _, _, rfl, hy, nmD gs, nmD gs2, ng.dp, mg.dp, nm_shaped g6 (by decide), nm_shaped q6 (by decide), _, rfl, ?_⟩
    rw [nm_eqv g6 q6]
    by_cases c1 : gs = gs2
    rotate_left
    · rw [decide_eq_false c1, Bool.false_and, Bool.false_and] at k
      exact HX.if_true (by rw [decide_eq_false c1]; rfl) k
    rw [decide_eq_true c1, Bool.true_and] at k
    refine HX.if_false (by rw [decide_eq_true c1]; rfl) ?_
    refine ⟨_, rfl, x, A.C_Plan, dx, _, _, rfl, hx, T.cls_Plan, T.n_own, pf_own _ _ _ _, _, rfl, x2, dy, _, rfl, hy, x2, dy, _, _, _, _, rfl, hy, nmD ws, nmD ws2, nw.dp, mw.dp, nm_shaped g3 (by decide), nm_shaped q3 (by decide), _, rfl, ?_⟩
    rw [nm_eqv g3 q3]
    by_cases c2 : ws = ws2
    rotate_left
    · rw [decide_eq_false c2, Bool.false_and] at k
      exact HX.if_true (by rw [decide_eq_false c2]; rfl) k
    rw [decide_eq_true c2, Bool.true_and] at k
    refine HX.if_false (by rw [decide_eq_true c2]; rfl) ?_
    refine ⟨_, rfl, x, A.C_Plan, dx, _, _, rfl, hx, T.cls_Plan, T.n_known, pf_known _ _ _ _, _, rfl, x2, dy, _, rfl, hy, x2, dy, _, _, _, _, rfl, hy, rfl, _, rfl, ?_⟩
    rw [bl_dec]
    by_cases c3 : kn = kn2
    rotate_left
    · rw [decide_eq_false c3, Bool.false_and] at k
      exact HX.if_false (by rw [decide_eq_false c3]) k
    rw [decide_eq_true c3, Bool.true_and] at k
    refine HX.if_true (by rw [decide_eq_true c3]) ?_
    refine ⟨_, rfl, x, A.C_Plan, dx, _, _, rfl, hx, T.cls_Plan, T.n_held, pf_held _ _ _ _, _, rfl, x2, dy, _, rfl, hy, x2, dy, _, _, _, _, rfl, hy, rfl, ?_⟩
    rw [bl_dec]
    exact k
theorem PlanAt.isI {K : Frag} {C x : Addr} {H : Hp} {gs ws : List Str} {kn he : Bool} (h : PlanAt K C H x gs kn he ws) : isI C H (.ref x) := let ⟨⟨dx, vg, vo, h1, _⟩, _⟩ := h; ⟨x, dx, _, rfl, h1⟩
theorem samePl_refl (gs : List Str) (kn he : Bool) (ws : List Str) : samePl gs kn he ws gs kn he ws = true := by unfold samePl; simp
theorem make_plan {K : Frag} {A : Ad} {H : Hp} {y dy : Addr} {v vo : V} {gs ws : List Str} {kn he : Bool} {R : Hp → Prop} {E : XK} (ny : H y = none) (ndy : H dy = none) (n1 : NmT K H v gs) (n2 : NmT K H vo ws) (g6 : gOk 6 gs = true) (g3 : gOk 3 ws = true)
    (k : ∀ H', Ex H H' → PlanAt K A.C_Plan H' y gs kn he ws → R H') : spPinit K A [.ref y, v, .bl kn, .bl he, vo] (upd (upd H dy (.own y)) y (.ins A.C_Plan dy [])) (fun v H3 => v = .non ∧ R H3) E := by
  obtain ⟨HM, EM⟩ : ∃ z, z = upd (upd H dy (.own y)) y (.ins A.C_Plan dy []) := ⟨_, rfl⟩
  have eM : Ex H HM := by rw [EM]; exact fun c o e => by rw [upd_ne (ne_of_none e ny), upd_ne (ne_of_none e ndy)]; exact e
  have xM : HM y = some (.ins A.C_Plan dy []) := by rw [EM]; exact upd_same
  rw [← EM]
  have w2 : Wt 900 (nmD gs) := Nat.le_trans (nm_pq g6 (by decide)).wt (by decide)
  have w3 : Wt 900 (nmD ws) := Nat.le_trans (nm_pq g3 (by decide)).wt (by decide)
  have hk : okP (nmD gs) (.bool kn) (.bool he) (nmD ws) = true := by
    unfold okP
    rw [show namesD (nmD gs) 6 = gOk 6 gs from gOk_names gs 6, show namesD (nmD ws) 3 = gOk 3 ws from gOk_names ws 3, g6, g3]
    rfl
  refine ⟨y, dy, y, v, .bl kn, .bl he, vo, nmD gs, .bool kn, .bool he, nmD ws, rfl, xM, (n1.ex eM).dy y, .bl kn, .bl he, (n2.ex eM).dy y, w2, w3, (fun h => by rw [hk] at h; cases h), fun _ H' o2 hP => ⟨rfl, ?_⟩⟩
  have e2 : Ex H H' := fun c o e => o2 c o (ne_of_none e ny) (eM _ _ e)
  exact k H' e2 ⟨⟨dy, v, vo, hP, n1.ex e2, n2.ex e2⟩, g6, g3⟩
theorem NmT.xb {K : Frag} {H H' : Hp} {l : Addr} {ys : List V} {v : V} {ss : List Str} (h : NmT K H v ss) (hl : H l = some (.lst ys)) (e : XB l H H') : NmT K H' v ss := let ⟨a, h1, h2⟩ := h; ⟨a, h1, h2.imp (fun z => e _ _ (ne_of z hl (by intro y; cases y)) z) id⟩
theorem PlanAt.xb {K : Frag} {C x l : Addr} {H H' : Hp} {ys : List V} {gs ws : List Str} {kn he : Bool} (h : PlanAt K C H x gs kn he ws) (hl : H l = some (.lst ys)) (e : XB l H H') : PlanAt K C H' x gs kn he ws := let ⟨⟨dx, vg, vo, h1, h2, h3⟩, g⟩ := h; ⟨⟨dx, vg, vo, e _ _ (ne_of h1 hl (by intro y; cases y)) h1, h2.xb hl e, h3.xb hl e⟩, g⟩
end
end K50
set_option Elab.async false
set_option linter.all false
set_option maxRecDepth 100000
set_option maxHeartbeats 4400000
namespace K50
open PySem PySem.Spec PyProof.Rows L2 HX
open PySem.W (Frag)

def wf (v1 v2 v3 v4 v5 vd ve : V) : List (Str × V) := putF "_row_numbers" ve (putF "_cell_numbers" vd (putF "_loose" v5 (putF "_rows" v4 (putF "_cells" v3 (putF "_most" v2 (putF "_size" v1 []))))))
theorem wf_size (v1 v2 v3 v4 v5 vd ve : V) : (wf v1 v2 v3 v4 v5 vd ve).lookup ("_size" : Str) = some (v1) := by
  unfold wf
  rw [lookup_putF, if_neg (by decide +kernel)]
  rw [lookup_putF, if_neg (by decide +kernel)]
  rw [lookup_putF, if_neg (by decide +kernel)]
  rw [lookup_putF, if_neg (by decide +kernel)]
  rw [lookup_putF, if_neg (by decide +kernel)]
  rw [lookup_putF, if_neg (by decide +kernel)]
  rw [lookup_putF, if_pos rfl]
theorem wf_most (v1 v2 v3 v4 v5 vd ve : V) : (wf v1 v2 v3 v4 v5 vd ve).lookup ("_most" : Str) = some (v2) := by
  unfold wf
  rw [lookup_putF, if_neg (by decide +kernel)]
  rw [lookup_putF, if_neg (by decide +kernel)]
  rw [lookup_putF, if_neg (by decide +kernel)]
  rw [lookup_putF, if_neg (by decide +kernel)]
  rw [lookup_putF, if_neg (by decide +kernel)]
  rw [lookup_putF, if_pos rfl]
theorem wf_cells (v1 v2 v3 v4 v5 vd ve : V) : (wf v1 v2 v3 v4 v5 vd ve).lookup ("_cells" : Str) = some (v3) := by
  unfold wf
  rw [lookup_putF, if_neg (by decide +kernel)]
  rw [lookup_putF, if_neg (by decide +kernel)]
  rw [lookup_putF, if_neg (by decide +kernel)]
  rw [lookup_putF, if_neg (by decide +kernel)]
  rw [lookup_putF, if_pos rfl]
theorem wf_rows (v1 v2 v3 v4 v5 vd ve : V) : (wf v1 v2 v3 v4 v5 vd ve).lookup ("_rows" : Str) = some (v4) := by
  unfold wf
  rw [lookup_putF, if_neg (by decide +kernel)]
  rw [lookup_putF, if_neg (by decide +kernel)]
  rw [lookup_putF, if_neg (by decide +kernel)]
  rw [lookup_putF, if_pos rfl]
theorem wf_loose (v1 v2 v3 v4 v5 vd ve : V) : (wf v1 v2 v3 v4 v5 vd ve).lookup ("_loose" : Str) = some (v5) := by
  unfold wf
  rw [lookup_putF, if_neg (by decide +kernel)]
  rw [lookup_putF, if_neg (by decide +kernel)]
  rw [lookup_putF, if_pos rfl]
theorem wf_cell_numbers (v1 v2 v3 v4 v5 vd ve : V) : (wf v1 v2 v3 v4 v5 vd ve).lookup ("_cell_numbers" : Str) = some (vd) := by
  unfold wf
  rw [lookup_putF, if_neg (by decide +kernel)]
  rw [lookup_putF, if_pos rfl]
theorem wf_row_numbers (v1 v2 v3 v4 v5 vd ve : V) : (wf v1 v2 v3 v4 v5 vd ve).lookup ("_row_numbers" : Str) = some (ve) := by
  unfold wf
  rw [lookup_putF, if_pos rfl]
def kindsOk (b : Bool) (z : Str) : Bool := z.cps.toList.all fun c => c == 110 || (b && c == 114)
def Yes (H : Hp) (Q : VK) : Prop := ∀ H', Ex H H' → Q (.bl true) H'
def spKinds : Sp := fun vs H Q _ => ∃ (z : Str) (m : Int) (b : Bool), vs = [.str z, .int m, .bl b] ∧ (z.length : Int) ≤ m ∧ m < 900 ∧ kindsOk b z = true ∧ Yes H Q
theorem getD_map {n : Nat} {ds : List PyData} (h : n = ds.length) : (List.range n).map (fun i => ds[i]?.getD .none) = ds := by
  subst h
  refine List.ext_getElem? fun i => ?_
  by_cases hi : i < ds.length
  · simp [List.getElem?_range, hi]
  · rw [List.getElem?_eq_none (by simpa using hi), List.getElem?_eq_none (by omega)]
theorem none_of_ex {H H' : Hp} {a : Addr} (e : Ex H H') (h : H' a = none) : H a = none := by
  cases q : H a with
  | none => rfl
  | some o => exact absurd (e a o q) (by rw [h]; simp)
theorem flat_range {α β : Type} (l : List α) (a : α) (g : α → List β) : (List.range l.length).flatMap (fun i => g (l[i]?.getD a)) = l.flatMap g := by
  have e : (List.range l.length).map (fun i => l[i]?.getD a) = l := by
    refine List.ext_getElem? fun i => ?_
    by_cases hi : i < l.length
    · simp [List.getElem?_range, hi]
    · rw [List.getElem?_eq_none (by simpa using hi), List.getElem?_eq_none (by omega)]
  conv => rhs; rw [← e]
  rw [List.flatMap_map]

/-- the world of the law: no cells, no rows, nothing loose -/
def WAt (K : Frag) (C : Addr) (H : Hp) (x : Addr) : Prop := ∃ (dx t1 t2 kn : Addr) (vd ve : V), H x = some (.ins C dx (wf (.int 2) (.int 1) (.ref t1) (.ref t2) (.ref kn) vd ve)) ∧ H t1 = some (.tup []) ∧ H t2 = some (.tup []) ∧ KNil K kn
theorem WAt.ex {K : Frag} {C x : Addr} {H H' : Hp} (h : WAt K C H x) (e : Ex H H') : WAt K C H' x := let ⟨dx, t1, t2, kn, vd, ve, h1, h2, h3, h4⟩ := h; ⟨dx, t1, t2, kn, vd, ve, e _ _ h1, e _ _ h2, e _ _ h3, h4⟩
theorem WAt.but {K : Frag} {C x y CX dx : Addr} {fs : List (Str × V)} {H H' : Hp} (h : WAt K C H y) (hx : H x = some (.ins CX dx fs)) (n : x ≠ y) (o : ∀ c u, c ≠ x → H c = some u → H' c = some u) : WAt K C H' y := by
  obtain ⟨dx, t1, t2, kn, vd, ve, h1, h2, h3, h4⟩ := h
  exact ⟨dx, t1, t2, kn, vd, ve, o _ _ (Ne.symm n) h1, o _ _ (ne_of h2 hx (by intro y; cases y)) h2, o _ _ (ne_of h3 hx (by intro y; cases y)) h3, h4⟩
def spCells : Sp := fun vs H Q _ => ∃ (t : Addr) (s : Int), vs = [.ref t, .int s] ∧ H t = some (.tup []) ∧ Yes H Q
def spRows : Sp := fun vs H Q _ => ∃ (t c : Addr) (s m : Int), vs = [.ref t, .int s, .int m, .ref c] ∧ H t = some (.tup []) ∧ H c = some (.tup []) ∧ Yes H Q
def spLoose (K : Frag) : Sp := fun vs H Q _ => ∃ (kn c r : Addr), vs = [.ref kn, .ref c, .ref r] ∧ KNil K kn ∧ H c = some (.tup []) ∧ H r = some (.tup []) ∧ Yes H Q
def spWinit (K : Frag) (C : Addr) : Sp := fun vs H Q _ => ∃ (x dx t1 t2 kn : Addr), vs = [.ref x, .int 2, .int 1, .ref t1, .ref t2, .ref kn] ∧ H x = some (.ins C dx []) ∧ H t1 = some (.tup []) ∧ H t2 = some (.tup []) ∧ KNil K kn ∧ ∀ H', (∀ c o, c ≠ x → H c = some o → H' c = some o) → WAt K C H' x → Q .non H'
def spWrows (K : Frag) (C : Addr) : Sp := fun vs H Q _ => ∃ (x : Addr), vs = [.ref x] ∧ WAt K C H x ∧ ∀ t, H t = some (.tup []) → Q (.ref t) H
def spWloose (K : Frag) (C : Addr) : Sp := fun vs H Q _ => ∃ (x : Addr), vs = [.ref x] ∧ WAt K C H x ∧ ∀ kn, KNil K kn → Q (.ref kn) H
/-- works: triples of a name, any thing, no kinds -/
def WkAt (H : Hp) (v : V) (ws : List Str) : Prop := ∃ a xs, v = .ref a ∧ H a = some (.tup xs) ∧ xs.length = ws.length ∧ ∀ (i : Nat) (x : V), xs[i]? = some x → ∃ s b t, ws[i]? = some s ∧ x = .ref b ∧ H b = some (.tup [.str s, t, .str ""])
theorem WkAt.te {H H' : Hp} {v : V} {ws : List Str} (h : WkAt H v ws) (e : TupK H H') : WkAt H' v ws := let ⟨a, xs, h1, h2, h3, h4⟩ := h; ⟨a, xs, h1, e _ _ h2, h3, fun i x q => let ⟨w, b, t, r1, r2, r3⟩ := h4 i x q; ⟨w, b, t, r1, r2, e _ _ r3⟩⟩
theorem WkAt.ex {H H' : Hp} {v : V} {ws : List Str} (h : WkAt H v ws) (e : Ex H H') : WkAt H' v ws := h.te (Ex.te e)
structure WsOk (ws : List Str) : Prop where
  l1 : 1 ≤ ws.length
  l3 : ws.length ≤ 3
  n : ws.all nameOk = true
  r : rises ws = true
def spIsWork (K : Frag) (C : Addr) : Sp := fun vs H Q _ => ∃ (b xw : Addr) (s : Str) (t : V), vs = [.ref b, .ref xw] ∧ H b = some (.tup [.str s, t, .str ""]) ∧ nameOk s = true ∧ WAt K C H xw ∧ Yes H Q
def spAreWorks (K : Frag) (C : Addr) : Sp := fun vs H Q _ => ∃ (v : V) (xw : Addr) (ws : List Str), vs = [v, .ref xw] ∧ WkAt H v ws ∧ WsOk ws ∧ WAt K C H xw ∧ Yes H Q
def spAllV (K : Frag) (C : Addr) : Sp := fun vs H Q _ => ∃ (xw : Addr), vs = [.ref xw, .str ""] ∧ WAt K C H xw ∧ ∀ l t H', Ex H H' → H l = none → H' l = some (.lst [.ref t]) → H' t = some (.tup []) → Q (.ref l) H'
def spAllC (K : Frag) (C : Addr) : Sp := fun vs H Q _ => ∃ (v : V) (xw : Addr) (ws : List Str), vs = [.ref xw, v] ∧ WkAt H v ws ∧ WsOk ws ∧ WAt K C H xw ∧ ∀ l ys H', Ex H H' → H l = none → H' l = some (.lst ys) → ys.length ≤ 3 → Q (.ref l) H'
def spAllCh (K : Frag) (C : Addr) : Sp := fun vs H Q _ => ∃ (xw : Addr), vs = [.ref xw] ∧ WAt K C H xw ∧ ∀ l H', Ex H H' → H l = none → H' l = some (.lst []) → Q (.ref l) H'
theorem wbn {K : Frag} {f ka : Addr} {fd : FuncData} (F : FunD K "__init__" "World.__init__" (defArgs s_World_init) (defBody s_World_init) (defScope s_World_init) [.ref ka] [] f fd) :
    ∃ ds, Vals [.ref ka] ds ∧ Binds K fd ["self", "size", "most", "cells", "rows", "loose"] ds := by
  refine F.binds1 (ps := ["self", "size", "most", "cells", "rows", "loose"]) 5 0 (by simp) (by rfl) (fun T kV doc pm an cdv ct us its l1 l2 => ?_)
  match us, its, l1, l2 with
  | [_, _, _, _, _], [_], _, _ => exact ⟨_, rfl, rfl⟩

section
variable {P : Program} {w : World} {K : Frag} {mg : Str → Option Value} {base : Heap} {A : Ad}

theorem ok_are_kinds (T : Txt K mg A) : FnOk P w K mg base CX0 1 A.f_are_kinds A.d_are_kinds ["value", "most", "with_rows"] (spKinds) := by
  refine T.F_are_kinds.ok sc_are_kinds (fun vs H Q E h => ?_) (fun cdv A0 outer s H vs Q E hr h => ?_)
  · obtain ⟨_, _, _, rfl, _⟩ := h
    rfl
  · have hu := hu_of hr
    obtain ⟨z, m, b, rfl, hl, hm, hk, k⟩ := h
    refine ⟨_, (pss_cons (ps_if (PW.pt (pw_or (pt_not (pt_val (pe_callB call_isi (by rfl) T.g_isinstance (by decide +kernel) (pa_cons (pv 0) (pa_cons (pe_bltn (v := .ty "str") (by rfl) T.g_str (by decide +kernel) rfl) pa_nil))))) (pw_or1 (pt_cmpR op_gt (pe_callB call_len_str (by rfl) T.g_len (by decide +kernel) (pa_cons (pv 0) pa_nil)) (pv 1) (nomark _))))) (pss_one (ps_ret pe_bl)) pss_nil)
      (pss_cons (ps_set (i := 3) sc_are_kinds.nd rfl (Or.inr rfl) (pe_ifExp (pt_val (pv 2)) pe_str pe_str))
      (pss_one (ps_ret (pe_callB (cr_all rfl) (by rfl) T.g_all (by decide +kernel) (pa_cons (pe_lc (own := [("kind", 4)]) (g := (gName 4)) (tt := tYes) rfl sc_are_kinds.nd (pi_str (pv 0)) (blkOk_by (N := N_are_kinds) (sc := defScope s_are_kinds) (by decide +kernel)) (fun _ _ _ _ _ => pg_name (i := 4) sc_are_kinds.nd rfl (Or.inl rfl)) (fun _ _ _ _ _ => pts_nil) (fun _ _ _ _ _ => (pe_cmpR op_in_sign (pv 4) (pv 3) (by rfl)))) pa_nil)))))), ?_⟩
    have hs : z.length ≤ sizeLine := Nat.le_of_lt (small (by omega))
    refine ⟨_, rfl, _, _, _, _, _, rfl, .ty _, .base (.str z), kit_ty (r := true) (by decide +kernel), _, rfl, HX.if_false rfl ?_⟩
    refine ⟨_, rfl, z, rfl, hs, _, rfl, _, _, rfl, rfl, _, rfl, HX.if_false (decide_eq_false (by omega)) ?_⟩
    have fin : ∀ (y : Str), (∀ c ∈ z.cps.toList, decide (c ∈ y.cps.toList) = true) → True := fun _ _ => trivial
    clear fin
    cases b with
    | true =>
      refine ⟨_, rfl, _, rfl, HX.if_true rfl ?_⟩
      refine ⟨_, rfl, z, rfl, fun D nD => lc_yes walk_str (by show z.length < 1000; omega) nD (fun _ _ => trivial) (fun i x H2 H3 Kq hi e y kq => ?_) (fun H2 e hD => ?_)⟩
      · obtain ⟨rfl, c, hc, rfl⟩ := y
        refine ⟨rfl, _, rfl, _, rfl, c, _, rfl, rfl, ?_⟩
        have hm : c ∈ z.cps.toList := by
          have := Array.mem_of_getElem? hc
          simpa using this
        have q := List.all_eq_true.mp hk c hm
        rw [decide_eq_true (by simp at q; first | (rcases q with q | q <;> (subst q; decide)) | (subst q; decide))]
        exact kq _ (Ex.rf _)
      · refine ⟨D, _, rfl, SqL.of hD, ?_⟩
        rw [rep_all]
        exact k _ e
    | false =>
      refine ⟨_, rfl, _, rfl, HX.if_false rfl ?_⟩
      refine ⟨_, rfl, z, rfl, fun D nD => lc_yes walk_str (by show z.length < 1000; omega) nD (fun _ _ => trivial) (fun i x H2 H3 Kq hi e y kq => ?_) (fun H2 e hD => ?_)⟩
      · obtain ⟨rfl, c, hc, rfl⟩ := y
        refine ⟨rfl, _, rfl, _, rfl, c, _, rfl, rfl, ?_⟩
        have hm : c ∈ z.cps.toList := by
          have := Array.mem_of_getElem? hc
          simpa using this
        have q := List.all_eq_true.mp hk c hm
        rw [decide_eq_true (by simp at q; first | (rcases q with q | q <;> (subst q; decide)) | (subst q; decide))]
        exact kq _ (Ex.rf _)
      · refine ⟨D, _, rfl, SqL.of hD, ?_⟩
        rw [rep_all]
        exact k _ e
theorem ok_are_cells (T : Txt K mg A) : FnOk P w K mg base CX0 3 A.f_are_cells A.d_are_cells ["value", "size"] (spCells) := by
  refine T.F_are_cells.ok sc_are_cells (fun vs H Q E h => ?_) (fun cdv A0 outer s H vs Q E hr h => ?_)
  · obtain ⟨_, _, rfl, _⟩ := h
    rfl
  · have hu := hu_of hr
    obtain ⟨t, s', rfl, ht, k⟩ := h
    refine ⟨_, (pss_one (ps_ret (pe_and (pe_call (ok_are_pairs T) (hr.mono (by decide)) (by rfl) T.m_are_pairs T.F_are_pairs.kp T.b_are_pairs .nil pass0 (pa_cons (pv 0) (pa_cons (pe_glob (v := .int 2) (by rfl) T.c_MOST_CELLS.choose_spec ⟨_, rfl⟩) pa_nil))) (pe_one (pe_callB (cr_all rfl) (by rfl) T.g_all (by decide +kernel) (pa_cons (pe_lc (own := [("cell", 2)]) (g := (gName 2)) (tt := tYes) rfl sc_are_cells.nd (pi_tup (pv 0)) (blkOk_by (N := N_are_cells) (sc := defScope s_are_cells) (by decide +kernel)) (fun _ _ _ _ _ => pg_name (i := 2) sc_are_cells.nd rfl (Or.inl rfl)) (fun _ _ _ _ _ => pts_nil) (fun _ _ _ _ _ => (pe_call (ok_is_whole T) (hr.mono (by decide)) (by rfl) T.m_is_whole T.F_is_whole.kp T.b_is_whole .nil pass0 (pa_cons (pe_ix (ix_tupK (K := K) rfl) (pv 2) pe_int (fun _ _ => rfl)) (pa_cons pe_int (pa_cons (pv 1) pa_nil)))))) pa_nil)))))), ?_⟩
    refine ⟨_, rfl, 0, .ref t, .tuple [], 2, rfl, .tup ht rfl (fun i v d a => by cases a), (by unfold Wt; decide +kernel), fun H1 e1 => ⟨_, rfl, HX.if_true rfl ?_⟩⟩
    have ht1 := e1 _ _ ht
    refine ⟨_, rfl, t, rfl, ⟨_, SqT.of ht1⟩, fun D nD => lc_yes (walk_tup (xs := [])) (by decide) nD (fun H' e => SqT.of (e _ _ ht1)) (fun i x H2 H3 Kq hi e y kq => absurd hi (Nat.not_lt_zero _)) (fun H2 e hD => ?_)⟩
    refine ⟨D, _, rfl, SqL.of hD, ?_⟩
    rw [rep_all]
    exact k _ (e1.tr e)
theorem ok_are_rows (T : Txt K mg A) : FnOk P w K mg base CX0 3 A.f_are_rows A.d_are_rows ["value", "size", "most", "cells"] (spRows) := by
  refine T.F_are_rows.ok sc_are_rows (fun vs H Q E h => ?_) (fun cdv A0 outer s H vs Q E hr h => ?_)
  · obtain ⟨_, _, _, _, rfl, _⟩ := h
    rfl
  · have hu := hu_of hr
    obtain ⟨t, c, s', m', rfl, ht, hc, k⟩ := h
    refine ⟨_, (pss_cons (ps_if (PW.pt (pw_or (pt_not (pt_val (pe_call (ok_are_pairs T) (hr.mono (by decide)) (by rfl) T.m_are_pairs T.F_are_pairs.kp T.b_are_pairs .nil pass0 (pa_cons (pv 0) (pa_cons (pe_glob (v := .int 2) (by rfl) T.c_MOST_ROWS.choose_spec ⟨_, rfl⟩) pa_nil))))) (pw_or1 (pt_not (pt_val (pe_callB (cr_all rfl) (by rfl) T.g_all (by decide +kernel) (pa_cons (pe_lc (own := [("row", 6)]) (g := (gName 6)) (tt := tYes) rfl sc_are_rows.nd (pi_tup (pv 0)) (blkOk_by (N := N_are_rows) (sc := defScope s_are_rows) (by decide +kernel)) (fun _ _ _ _ _ => pg_name (i := 6) sc_are_rows.nd rfl (Or.inl rfl)) (fun _ _ _ _ _ => pts_nil) (fun _ _ _ _ _ => (pe_call (ok_are_items T) (hr.mono (by decide)) (by rfl) T.m_are_items T.F_are_items.kp T.b_are_items .nil pass0 (pa_cons (pe_ix (ix_tupK (K := K) rfl) (pv 6) pe_int (fun _ _ => rfl)) (pa_cons (pv 1) (pa_cons (pv 2) pa_nil)))))) pa_nil))))))) (pss_one (ps_ret pe_bl)) pss_nil)
      (pss_cons (ps_set (i := 4) sc_are_rows.nd rfl (Or.inr rfl) (pe_lc (own := [("cell", 5)]) (g := (gName 5)) (tt := tYes) rfl sc_are_rows.nd (pi_tup (pv 3)) (blkOk_by (N := N_are_rows) (sc := defScope s_are_rows) (by decide +kernel)) (fun _ _ _ _ _ => pg_name (i := 5) sc_are_rows.nd rfl (Or.inl rfl)) (fun _ _ _ _ _ => pts_nil) (fun _ _ _ _ _ => (pe_ix (ix_tupK (K := K) rfl) (pv 5) pe_int (fun _ _ => rfl)))))
      (pss_one (ps_ret (pe_callB (cr_all rfl) (by rfl) T.g_all (by decide +kernel) (pa_cons (pe_lc (own := [("row", 6)]) (g := (gName 6)) (tt := tYes) rfl sc_are_rows.nd (pi_tup (pv 0)) (blkOk_by (N := N_are_rows) (sc := defScope s_are_rows) (by decide +kernel)) (fun _ _ _ _ _ => pg_name (i := 6) sc_are_rows.nd rfl (Or.inl rfl)) (fun _ _ _ _ _ => pts_nil) (fun _ _ _ _ _ => (pe_cmpR (op_notInK (K := K) rfl) (pe_ix (ix_tupK (K := K) rfl) (pv 6) pe_int (fun _ _ => rfl)) (pv 4) (by rfl)))) pa_nil)))))), ?_⟩
    refine ⟨_, rfl, 0, .ref t, .tuple [], 2, rfl, .tup ht rfl (fun i v d a => by cases a), (by unfold Wt; decide +kernel), fun H1 e1 => ⟨_, rfl, HX.if_false rfl ?_⟩⟩
    have ht1 := e1 _ _ ht
    refine ⟨_, rfl, t, rfl, ⟨_, SqT.of ht1⟩, fun D nD => lc_yes (walk_tup (xs := [])) (by decide) nD (fun H' e => SqT.of (e _ _ ht1)) (fun i x H2 H3 Kq hi e y kq => absurd hi (Nat.not_lt_zero _)) (fun H2 e hD => ?_)⟩
    refine ⟨D, _, rfl, SqL.of hD, ?_⟩
    rw [rep_all]
    refine ⟨_, rfl, HX.if_false rfl ?_⟩
    have e2 := e1.tr e
    have hc2 := e2 _ _ hc
    refine ⟨_, rfl, c, rfl, ⟨_, SqT.of hc2⟩, fun D2 nD2 => lc_tz (walk_tup (xs := [])) (fun i => .none) (by decide) nD2 (fun H' e' => SqT.of (e' _ _ hc2)) (fun i x H2 H3 Kq hi e y kq => absurd hi (Nat.not_lt_zero _)) (fun H3 zs e' hD2 hzs => ?_)⟩
    obtain rfl := hzs.nilI
    have e3 := e2.tr e'
    have ht3 := e3 _ _ ht
    refine ⟨_, rfl, t, rfl, ⟨_, SqT.of ht3⟩, fun D3 nD3 => lc_yes (walk_tup (xs := [])) (by decide) nD3 (fun H' e4 => SqT.of (e4 _ _ ht3)) (fun i x H2 H3 Kq hi e y kq => absurd hi (Nat.not_lt_zero _)) (fun H5 e4 hD3 => ?_)⟩
    refine ⟨D3, _, rfl, SqL.of hD3, ?_⟩
    rw [rep_all]
    exact k _ (e3.tr e4)
theorem ok_are_loose (T : Txt K mg A) : FnOk P w K mg base CX0 3 A.f_are_loose A.d_are_loose ["value", "cells", "rows"] (spLoose K) := by
  refine T.F_are_loose.ok sc_are_loose (fun vs H Q E h => ?_) (fun cdv A0 outer s H vs Q E hr h => ?_)
  · obtain ⟨_, _, _, rfl, _⟩ := h
    rfl
  · have hu := hu_of hr
    obtain ⟨kn, c, r, rfl, hk, hc, hr2, k⟩ := h
    refine ⟨_, (pss_cons (ps_set (i := 3) sc_are_loose.nd rfl (Or.inr rfl) (pe_op op_cat (pe_lc (own := [("cell", 4)]) (g := (gName 4)) (tt := tYes) rfl sc_are_loose.nd (pi_tup (pv 1)) (blkOk_by (N := N_are_loose) (sc := defScope s_are_loose) (by decide +kernel)) (fun _ _ _ _ _ => pg_name (i := 4) sc_are_loose.nd rfl (Or.inl rfl)) (fun _ _ _ _ _ => pts_nil) (fun _ _ _ _ _ => (pe_ix (ix_tupK (K := K) rfl) (pv 4) pe_int (fun _ _ => rfl)))) (pe_lc (own := [("row", 5)]) (g := (gName 5)) (tt := tYes) rfl sc_are_loose.nd (pi_tup (pv 2)) (blkOk_by (N := N_are_loose) (sc := defScope s_are_loose) (by decide +kernel)) (fun _ _ _ _ _ => pg_name (i := 5) sc_are_loose.nd rfl (Or.inl rfl)) (fun _ _ _ _ _ => pts_nil) (fun _ _ _ _ _ => (pe_ix (ix_tupK (K := K) rfl) (pv 5) pe_int (fun _ _ => rfl))))))
      (pss_one (ps_ret (pe_and (pe_call (ok_are_names T) (hr.mono (by decide)) (by rfl) T.m_are_names T.F_are_names.kp T.b_are_names .nil pass0 (pa_cons (pv 0) (pa_cons (pe_callB call_len_seq (by rfl) T.g_len (by decide +kernel) (pa_cons (pv 3) pa_nil)) pa_nil))) (pe_one (pe_callB (cr_all rfl) (by rfl) T.g_all (by decide +kernel) (pa_cons (pe_lc (own := [("name", 6)]) (g := (gName 6)) (tt := tYes) rfl sc_are_loose.nd (pi_tup (pv 0)) (blkOk_by (N := N_are_loose) (sc := defScope s_are_loose) (by decide +kernel)) (fun _ _ _ _ _ => pg_name (i := 6) sc_are_loose.nd rfl (Or.inl rfl)) (fun _ _ _ _ _ => pts_nil) (fun _ _ _ _ _ => (pe_cmpR (op_inK (K := K) rfl) (pv 6) (pv 3) (by rfl)))) pa_nil))))))), ?_⟩
    refine ⟨_, rfl, c, rfl, ⟨_, SqT.of hc⟩, fun D nD => lc_tz (walk_tup (xs := [])) (fun i => .none) (by decide) nD (fun H' e' => SqT.of (e' _ _ hc)) (fun i x H2 H3 Kq hi e y kq => absurd hi (Nat.not_lt_zero _)) (fun H1 zs e1 hD hzs => ?_)⟩
    obtain rfl := hzs.nilI
    have har1 := e1 _ _ hr2
    refine ⟨_, rfl, r, rfl, ⟨_, SqT.of har1⟩, fun D2 nD2 => lc_tz (walk_tup (xs := [])) (fun i => .none) (by decide) nD2 (fun H' e' => SqT.of (e' _ _ har1)) (fun i x H2 H3 Kq hi e y kq => absurd hi (Nat.not_lt_zero _)) (fun H2 zs e2 hD2 hzs => ?_)⟩
    obtain rfl := hzs.nilI
    refine ⟨D, D2, [], [], rfl, rfl, e2 _ _ hD, hD2, (by show 0 ≤ sizeLine; decide), fun l nl => ?_⟩
    obtain ⟨H3, E3⟩ : ∃ z, z = upd H2 l (.lst ([] ++ [])) := ⟨_, rfl⟩
    have hl : H3 l = some (.lst []) := by rw [E3]; exact upd_same
    have e3 : Ex H H3 := by rw [E3]; exact (e1.tr e2).tr (Ex.nw nl)
    rw [← E3]
    refine ⟨_, rfl, _, rfl, l, _, rfl, .inl (SqL.of hl), 0, _, .tuple [], 0, rfl, .inr ⟨rfl, kn, rfl, hk⟩, Int.le_refl _, (by unfold Wt; decide +kernel), fun H4 e4 => ⟨_, rfl, HX.if_true rfl ?_⟩⟩
    have hl4 := e4 _ _ hl
    refine ⟨_, rfl, kn, rfl, ⟨_, hk.sq⟩, fun D3 nD3 => lc_yes (walk_tup (xs := [])) (by decide) nD3 (fun H' e6 => hk.sq) (fun i x H2 H3 Kq hi e y kq => absurd hi (Nat.not_lt_zero _)) (fun H5 e6 hD3 => ?_)⟩
    refine ⟨D3, _, rfl, SqL.of hD3, ?_⟩
    rw [rep_all]
    exact k _ (e3.tr (e4.tr e6))
theorem ok_World_init (T : Txt K mg A) : FnOk P w K mg base CX0 4 A.f_World_init A.d_World_init ["self", "size", "most", "cells", "rows", "loose"] (spWinit K A.C_World) := by
  obtain ⟨ka, FD, na⟩ := T.F_World_init
  refine FD.ok sc_World_init (fun vs H Q E h => ?_) (fun cdv A0 outer s H vs Q E hr h => ?_)
  · obtain ⟨_, _, _, _, _, rfl, _⟩ := h
    rfl
  · have hu := hu_of hr
    obtain ⟨x, dx, t1, t2, kn, rfl, hx, h1, h2, hk, k⟩ := h
    refine ⟨_, (pss_cons (ps_if (pt_not (pt_val (pe_call (ok_is_size T) (hr.mono (by decide)) (by rfl) T.m_is_size T.F_is_size.kp T.b_is_size .nil pass0 (pa_cons (pv 1) pa_nil)))) (pss_one ps_never) pss_nil)
      (pss_cons (ps_if (pt_not (pt_val (pe_call (ok_is_most T) (hr.mono (by decide)) (by rfl) T.m_is_most T.F_is_most.kp T.b_is_most .nil pass0 (pa_cons (pv 2) pa_nil)))) (pss_one ps_never) pss_nil)
      (pss_cons (ps_if (pt_not (pt_val (pe_call (ok_are_cells T) (hr.mono (by decide)) (by rfl) T.m_are_cells T.F_are_cells.kp T.b_are_cells .nil pass0 (pa_cons (pv 3) (pa_cons (pv 1) pa_nil))))) (pss_one ps_never) pss_nil)
      (pss_cons (ps_if (pt_not (pt_val (pe_call (ok_are_rows T) (hr.mono (by decide)) (by rfl) T.m_are_rows T.F_are_rows.kp T.b_are_rows .nil pass0 (pa_cons (pv 4) (pa_cons (pv 1) (pa_cons (pv 2) (pa_cons (pv 3) pa_nil))))))) (pss_one ps_never) pss_nil)
      (pss_cons (ps_if (pt_not (pt_val (pe_call (ok_are_loose T) (hr.mono (by decide)) (by rfl) T.m_are_loose T.F_are_loose.kp T.b_are_loose .nil pass0 (pa_cons (pv 5) (pa_cons (pv 3) (pa_cons (pv 4) pa_nil)))))) (pss_one ps_never) pss_nil)
      (pss_cons (ps_fld (pv 0) (pv 1) rfl)
      (pss_cons (ps_fld (pv 0) (pv 2) rfl)
      (pss_cons (ps_fld (pv 0) (pv 3) rfl)
      (pss_cons (ps_fld (pv 0) (pv 4) rfl)
      (pss_cons (ps_fld (pv 0) (pv 5) rfl)
      (pss_cons (ps_fld (pv 0) (pe_dc (own := [("at", 6), ("cell", 7)]) (g := (gTup K 2 (gCons (gName 6) (gCons (gName 7) gNil)))) (tt := tYes) rfl sc_World_init.nd (pi_enumT (by rfl) T.g_enumerate (pa_cons (pv 3) pa_nil)) (blkOk_by (N := N_World_init) (sc := defScope s_World_init) (by decide +kernel)) (fun _ _ _ _ _ => pg_tup rfl (pgs_cons (pg_name (i := 6) sc_World_init.nd rfl (Or.inl rfl)) (pgs_cons (pg_name (i := 7) sc_World_init.nd rfl (Or.inl rfl)) pgs_nil))) (fun _ _ _ _ _ => pts_nil) (fun _ _ _ _ _ => (pe_ix (ix_tupK (K := K) rfl) (pv 7) pe_int (fun _ _ => rfl))) (fun _ _ _ _ _ => (pv 6))) rfl)
      (pss_one (ps_fld (pv 0) (pe_dc (own := [("at", 6), ("row", 8)]) (g := (gTup K 2 (gCons (gName 6) (gCons (gName 8) gNil)))) (tt := tYes) rfl sc_World_init.nd (pi_enumT (by rfl) T.g_enumerate (pa_cons (pv 4) pa_nil)) (blkOk_by (N := N_World_init) (sc := defScope s_World_init) (by decide +kernel)) (fun _ _ _ _ _ => pg_tup rfl (pgs_cons (pg_name (i := 6) sc_World_init.nd rfl (Or.inl rfl)) (pgs_cons (pg_name (i := 8) sc_World_init.nd rfl (Or.inl rfl)) pgs_nil))) (fun _ _ _ _ _ => pts_nil) (fun _ _ _ _ _ => (pe_ix (ix_tupK (K := K) rfl) (pv 8) pe_int (fun _ _ => rfl))) (fun _ _ _ _ _ => (pv 6))) rfl))))))))))))), ?_⟩
    refine ⟨_, rfl, _, rfl, kd_int _, _, rfl, HX.if_false (by rw [whole_yes (i := 2) (by decide) (by decide)]; rfl) ?_⟩
    refine ⟨_, rfl, _, rfl, kd_int _, _, rfl, HX.if_false (by rw [whole_yes (i := 1) (by decide) (by decide)]; rfl) ?_⟩
    refine ⟨_, rfl, _, rfl, t1, 2, rfl, h1, fun H1 e1 => ⟨_, rfl, HX.if_false rfl ?_⟩⟩
    refine ⟨_, rfl, _, rfl, _, rfl, _, rfl, t2, t1, 2, 1, rfl, e1 _ _ h2, e1 _ _ h1, fun H2 e2 => ⟨_, rfl, HX.if_false rfl ?_⟩⟩
    have e12 := e1.tr e2
    refine ⟨_, rfl, _, rfl, _, rfl, kn, t1, t2, rfl, hk, e12 _ _ h1, e12 _ _ h2, fun H3 e3 => ⟨_, rfl, HX.if_false rfl ?_⟩⟩
    have e13 := e12.tr e3
    have hx3 := e13 _ _ hx
    refine ⟨_, rfl, _, rfl, x, A.C_World, dx, _, rfl, hx3, T.cls_World, T.n_size, (by show 0 < 1000; decide), _, rfl, _, rfl, x, A.C_World, dx, _, rfl, upd_same, T.cls_World, T.n_most, (by show 1 < 1000; decide), _, rfl, _, rfl, x, A.C_World, dx, _, rfl, upd_same, T.cls_World, T.n_cells, (by show 2 < 1000; decide), _, rfl, _, rfl, x, A.C_World, dx, _, rfl, upd_same, T.cls_World, T.n_rows, (by show 3 < 1000; decide), _, rfl, _, rfl, x, A.C_World, dx, _, rfl, upd_same, T.cls_World, T.n_loose, (by show 4 < 1000; decide), ?_⟩
    simp only [upd_upd]
    obtain ⟨G, EG⟩ : ∃ z, z = upd H3 x (.ins A.C_World dx (putF "_loose" (.ref kn) (putF "_rows" (.ref t2) (putF "_cells" (.ref t1) (putF "_most" (.int 1) (putF "_size" (.int 2) [])))))) := ⟨_, rfl⟩
    rw [← EG]
    have hxG : G x = some (.ins A.C_World dx (putF "_loose" (.ref kn) (putF "_rows" (.ref t2) (putF "_cells" (.ref t1) (putF "_most" (.int 1) (putF "_size" (.int 2) [])))))) := by rw [EG]; exact upd_same
    have oG : ∀ c o, c ≠ x → H c = some o → G c = some o := fun c o n e => by rw [EG, upd_ne n]; exact e13 _ _ e
    have n1 := ne_of h1 hx (by intro y; cases y)
    have n2 := ne_of h2 hx (by intro y; cases y)
    have g1 := oG _ _ n1 h1
    refine ⟨_, rfl, t1, [], rfl, SqT.of g1, fun D nD => dc_names walk_enT [] rfl (by decide) nD (fun H' e => SqT.of (e _ _ g1)) (fun i x2 H4 H5 Kq hi e y kq => absurd hi (Nat.not_lt_zero _)) (fun H4 kvs e4 hD hv => ?_)⟩
    refine ⟨_, rfl, x, A.C_World, dx, _, rfl, e4 _ _ hxG, T.cls_World, T.n_cell_numbers, (by show 5 < 1000; decide), ?_⟩
    obtain ⟨G2, EG2⟩ : ∃ z, z = upd H4 x (.ins A.C_World dx (putF "_cell_numbers" (.ref D) (putF "_loose" (.ref kn) (putF "_rows" (.ref t2) (putF "_cells" (.ref t1) (putF "_most" (.int 1) (putF "_size" (.int 2) []))))))) := ⟨_, rfl⟩
    rw [← EG2]
    have hx2 : G2 x = some (.ins A.C_World dx (putF "_cell_numbers" (.ref D) (putF "_loose" (.ref kn) (putF "_rows" (.ref t2) (putF "_cells" (.ref t1) (putF "_most" (.int 1) (putF "_size" (.int 2) []))))))) := by rw [EG2]; exact upd_same
    have o2 : ∀ c o, c ≠ x → H c = some o → G2 c = some o := fun c o n e => by rw [EG2, upd_ne n]; exact e4 _ _ (oG _ _ n e)
    have g2 := o2 _ _ n2 h2
    refine ⟨_, rfl, t2, [], rfl, SqT.of g2, fun D2 nD2 => dc_names walk_enT [] rfl (by decide) nD2 (fun H' e => SqT.of (e _ _ g2)) (fun i x2 H5 H6 Kq hi e y kq => absurd hi (Nat.not_lt_zero _)) (fun H5 kvs2 e5 hD3 hv2 => ?_)⟩
    refine ⟨_, rfl, x, A.C_World, dx, _, rfl, e5 _ _ hx2, T.cls_World, T.n_row_numbers, (by show 6 < 1000; decide), ?_⟩
    have oA : ∀ c o, c ≠ x → H c = some o → (upd H5 x (.ins A.C_World dx (wf (.int 2) (.int 1) (.ref t1) (.ref t2) (.ref kn) (.ref D) (.ref D2)))) c = some o := fun c o n e => by rw [upd_ne n]; exact e5 _ _ (o2 _ _ n e)
    exact k _ oA ⟨dx, t1, t2, kn, .ref D, .ref D2, upd_same, oA _ _ n1 h1, oA _ _ n2 h2, hk⟩
theorem ok_World_rows (T : Txt K mg A) : FnOk P w K mg base CX0 1 A.f_World_rows A.d_World_rows ["self"] (spWrows K A.C_World) := by
  refine T.F_World_rows.ok sc_World_rows (fun vs H Q E h => ?_) (fun cdv A0 outer s H vs Q E hr h => ?_)
  · obtain ⟨_, rfl, _⟩ := h
    rfl
  · have hu := hu_of hr
    obtain ⟨x, rfl, ⟨dx, t1, t2, kn, vd, ve, h1, h2, h3, h4⟩, k⟩ := h
    refine ⟨_, (pss_one (ps_ret (pe_fld (pv 0) rfl))), ?_⟩
    exact ⟨_, rfl, x, A.C_World, dx, _, _, rfl, h1, T.cls_World, T.n_rows, wf_rows _ _ _ _ _ _ _, k _ h3⟩
theorem ok_World_loose (T : Txt K mg A) : FnOk P w K mg base CX0 1 A.f_World_loose A.d_World_loose ["self"] (spWloose K A.C_World) := by
  refine T.F_World_loose.ok sc_World_loose (fun vs H Q E h => ?_) (fun cdv A0 outer s H vs Q E hr h => ?_)
  · obtain ⟨_, rfl, _⟩ := h
    rfl
  · have hu := hu_of hr
    obtain ⟨x, rfl, ⟨dx, t1, t2, kn, vd, ve, h1, h2, h3, h4⟩, k⟩ := h
    refine ⟨_, (pss_one (ps_ret (pe_fld (pv 0) rfl))), ?_⟩
    exact ⟨_, rfl, x, A.C_World, dx, _, _, rfl, h1, T.cls_World, T.n_loose, wf_loose _ _ _ _ _ _ _, k _ h4⟩
theorem ok_World_size (T : Txt K mg A) : FnOk P w K mg base CX0 1 A.f_World_size A.d_World_size ["self"] spNo := T.F_World_size.ok sc_World_size (fun _ _ _ _ h => h.elim) (fun _ _ _ _ _ _ _ _ _ h => h.elim)
theorem ok_World_most (T : Txt K mg A) : FnOk P w K mg base CX0 1 A.f_World_most A.d_World_most ["self"] spNo := T.F_World_most.ok sc_World_most (fun _ _ _ _ h => h.elim) (fun _ _ _ _ _ _ _ _ _ h => h.elim)
theorem ok_World_cell_number (T : Txt K mg A) : FnOk P w K mg base CX0 1 A.f_World_cell_number A.d_World_cell_number ["self", "name"] spNo := T.F_World_cell_number.ok sc_World_cell_number (fun _ _ _ _ h => h.elim) (fun _ _ _ _ _ _ _ _ _ h => h.elim)
theorem ok_all_items (T : Txt K mg A) : FnOk P w K mg base CX0 2 A.f_all_items A.d_all_items ["world"] spNo := T.F_all_items.ok sc_all_items (fun _ _ _ _ h => h.elim) (fun _ _ _ _ _ _ _ _ _ h => h.elim)
theorem ok_is_work (T : Txt K mg A) : FnOk P w K mg base CX0 3 A.f_is_work A.d_is_work ["value", "world"] (spIsWork K A.C_World) := by
  refine T.F_is_work.ok sc_is_work (fun vs H Q E h => ?_) (fun cdv A0 outer s H vs Q E hr h => ?_)
  · obtain ⟨_, _, _, _, rfl, _⟩ := h
    rfl
  · have hu := hu_of hr
    obtain ⟨b, xw, s', t, rfl, hb, hn, hW, k⟩ := h
    refine ⟨_, (pss_cons (ps_if (PW.pt (pw_or (pt_not (pt_val (pe_callB call_isi (by rfl) T.g_isinstance (by decide +kernel) (pa_cons (pv 0) (pa_cons (pe_bltn (v := .ty "tuple") (by rfl) T.g_tuple (by decide +kernel) rfl) pa_nil))))) (pw_or1 (pt_cmpR op_ne (pe_callB call_len_seq (by rfl) T.g_len (by decide +kernel) (pa_cons (pv 0) pa_nil)) pe_int (nomark _))))) (pss_one (ps_ret pe_bl)) pss_nil)
      (pss_one (ps_ret (pe_and (pe_call (ok_is_name T) (hr.mono (by decide)) (by rfl) T.m_is_name T.F_is_name.kp T.b_is_name .nil pass0 (pa_cons (pe_ix ix_tup (pv 0) pe_int (fun _ _ => rfl)) pa_nil)) (pe_one (pe_call (ok_are_kinds T) (hr.mono (by decide)) (by rfl) T.m_are_kinds T.F_are_kinds.kp T.b_are_kinds .nil pass0 (pa_cons (pe_ix ix_tup (pv 0) pe_int (fun _ _ => rfl)) (pa_cons (pe_glob (v := .int 3) (by rfl) T.c_MOST_VALUES.choose_spec ⟨_, rfl⟩) (pa_cons (pe_callTy call_boolT (by rfl) T.g_bool (by decide +kernel) (pa_cons (pe_prop (pv 1) T.cls_World T.P_rows (ok_World_rows T) (hr.mono (by decide)) T.b_World_rows .nil pass0 rfl) pa_nil)) pa_nil))))))))), ?_⟩
    refine ⟨_, rfl, _, _, _, _, _, rfl, .ty _, .base (.tup hb), kit_ty (r := true) (by decide +kernel), _, rfl, HX.if_false rfl ⟨_, rfl, b, _, rfl, .inr (SqT.of hb), rfl, _, rfl, HX.if_false rfl ?_⟩⟩
    have ln : s'.length ≤ 8 := by
      unfold nameOk at hn
      simp only [Bool.and_eq_true, decide_eq_true_eq] at hn
      exact hn.2.1
    refine ⟨_, rfl, b, _, _, _, rfl, rfl, SqT.of hb, rfl, 0, .str s', .str s', rfl, .str _, (by unfold Wt; simp only [PyData.weight]; exact Nat.le_trans ln (by decide)), fun H1 e1 => ⟨_, rfl, HX.if_true hn ?_⟩⟩
    have hW1 := hW.ex e1
    obtain ⟨dx, t1, t2, kn, vd, ve, g1, g2, g3, g4⟩ := id hW1
    refine ⟨_, rfl, b, _, _, _, rfl, rfl, SqT.of (e1 _ _ hb), rfl, _, rfl, xw, dx, _, rfl, g1, xw, rfl, hW1, fun t3 ht3 => ?_⟩
    exact ⟨t3, [], rfl, SqT.of ht3, "", 3, false, rfl, (by decide +kernel), (by decide), (by decide +kernel), fun H2 e2 => k _ (e1.tr e2)⟩
theorem ok_are_works (T : Txt K mg A) : FnOk P w K mg base CX0 4 A.f_are_works A.d_are_works ["value", "world"] (spAreWorks K A.C_World) := by
  refine T.F_are_works.ok sc_are_works (fun vs H Q E h => ?_) (fun cdv A0 outer s H vs Q E hr h => ?_)
  · obtain ⟨_, _, _, rfl, _⟩ := h
    rfl
  · have hu := hu_of hr
    obtain ⟨v, xw, ws, rfl, ⟨a, xs, rfl, ha, lx, hx⟩, ok, hW, k⟩ := h
    refine ⟨_, (pss_cons (ps_if (PW.pt (pw_or (pt_not (pt_val (pe_callB call_isi (by rfl) T.g_isinstance (by decide +kernel) (pa_cons (pv 0) (pa_cons (pe_bltn (v := .ty "tuple") (by rfl) T.g_tuple (by decide +kernel) rfl) pa_nil))))) (pw_or1 (pt_not (pt_chain op_le op_le pe_int (pe_callB call_len_seq (by rfl) T.g_len (by decide +kernel) (pa_cons (pv 0) pa_nil)) (pe_glob (v := .int 3) (by rfl) T.c_MOST_WORKS.choose_spec ⟨_, rfl⟩)))))) (pss_one (ps_ret pe_bl)) pss_nil)
      (pss_cons (ps_if (pt_not (pt_val (pe_callB (cr_all rfl) (by rfl) T.g_all (by decide +kernel) (pa_cons (pe_lc (own := [("part", 3)]) (g := (gName 3)) (tt := tYes) rfl sc_are_works.nd (pi_tup (pv 0)) (blkOk_by (N := N_are_works) (sc := defScope s_are_works) (by decide +kernel)) (fun _ _ _ _ _ => pg_name (i := 3) sc_are_works.nd rfl (Or.inl rfl)) (fun _ _ _ _ _ => pts_nil) (fun _ _ _ _ _ => (pe_call (ok_is_work T) (hr.mono (by decide)) (by rfl) T.m_is_work T.F_is_work.kp T.b_is_work .nil pass0 (pa_cons (pv 3) (pa_cons (pv 1) pa_nil))))) pa_nil)))) (pss_one (ps_ret pe_bl)) pss_nil)
      (pss_one (ps_ret (pe_call (ok_are_rising T) (hr.mono (by decide)) (by rfl) T.m_are_rising T.F_are_rising.kp T.b_are_rising .nil pass0 (pa_cons (pe_lc (own := [("work", 2)]) (g := (gName 2)) (tt := tYes) rfl sc_are_works.nd (pi_tup (pv 0)) (blkOk_by (N := N_are_works) (sc := defScope s_are_works) (by decide +kernel)) (fun _ _ _ _ _ => pg_name (i := 2) sc_are_works.nd rfl (Or.inl rfl)) (fun _ _ _ _ _ => pts_nil) (fun _ _ _ _ _ => (pe_ix (ix_tupK (K := K) rfl) (pv 2) pe_int (fun _ _ => rfl)))) pa_nil)))))), ?_⟩
    have l1 := ok.l1; have l3 := ok.l3
    refine ⟨_, rfl, _, _, _, _, _, rfl, .ty _, .base (.tup ha), kit_ty (r := true) (by decide +kernel), _, rfl, HX.if_false rfl ?_⟩
    refine ⟨_, rfl, a, _, rfl, .inr (SqT.of ha), _, _, rfl, rfl, _, rfl, HX.if_true (decide_eq_true (by omega)) ?_⟩
    refine ⟨_, _, rfl, rfl, _, rfl, HX.if_false (by rw [decide_eq_true (by omega)]; rfl) ?_⟩
    refine ⟨_, rfl, a, rfl, ⟨_, SqT.of ha⟩, fun D nD => lc_yes (walk_tup (xs := xs)) (by omega) nD (fun H' e => SqT.of (e _ _ ha)) (fun i x2 H2 H3 Kq hi e y kq => ?_) (fun H2 e hD => ?_)⟩
    · obtain ⟨rfl, hx2⟩ := y
      obtain ⟨s', b, t, hs, rfl, hb⟩ := hx i x2 hx2
      exact ⟨rfl, _, rfl, _, rfl, b, xw, s', t, rfl, e _ _ hb, List.all_eq_true.mp ok.n _ (List.mem_of_getElem? hs), hW.ex e, fun H4 e4 => kq H4 e4⟩
    refine ⟨D, _, rfl, SqL.of hD, ?_⟩
    rw [rep_all]
    refine ⟨_, rfl, HX.if_false rfl ?_⟩
    have ha2 := e _ _ ha
    refine ⟨_, rfl, a, rfl, ⟨_, SqT.of ha2⟩, fun D2 nD2 => lc_tz (walk_tup (xs := xs)) (fun i => .str (ws[i]?.getD "")) (by omega) nD2 (fun H' e' => SqT.of (e' _ _ ha2)) (fun i x2 H3 H4 Kq hi e' y kq => ?_) (fun H3 ys e' hD2 hy => ?_)⟩
    · obtain ⟨rfl, hx2⟩ := y
      obtain ⟨s', b, t, hs, rfl, hb⟩ := hx i x2 hx2
      refine ⟨rfl, _, rfl, b, _, _, _, rfl, rfl, SqT.of (e' _ _ (e _ _ hb)), rfl, kq _ _ (Ex.rf _) ?_⟩
      rw [hs]
      exact .str _
    · rw [names_of lx] at hy
      obtain rfl := hy.strs
      refine ⟨D2, ws, rfl, .inl hD2, by omega, fun H4 e4 => ?_⟩
      rw [ok.r]
      exact k _ (e.tr (e'.tr e4))
theorem ok_all_values (T : Txt K mg A) : FnOk P w K mg base CX0 3 A.f_all_values A.d_all_values ["world", "kinds"] (spAllV K A.C_World) := by
  refine T.F_all_values.ok sc_all_values (fun vs H Q E h => ?_) (fun cdv A0 outer s H vs Q E hr h => ?_)
  · obtain ⟨_, rfl, _⟩ := h
    rfl
  · have hu := hu_of hr
    obtain ⟨xw, rfl, hW, k⟩ := h
    refine ⟨_, (pss_cons (ps_setLc (i := 2) (own := [("row", 6)]) (g := (gName 6)) (tt := tYes) (by rfl) sc_all_values.nd rfl rfl (sw_true rfl rfl rfl (by decide +kernel)) (pi_tup (pe_prop (pv 0) T.cls_World T.P_rows (ok_World_rows T) (hr.mono (by decide)) T.b_World_rows .nil pass0 rfl)) (blkOk_by (N := N_all_values) (sc := defScope s_all_values) (by decide +kernel)) (fun _ _ _ _ _ => pg_name (i := 6) sc_all_values.nd rfl (Or.inl rfl)) (fun _ _ _ _ _ => pts_nil) (fun _ _ _ _ _ => (pe_ix (ix_tupK (K := K) rfl) (pv 6) pe_int (fun _ _ => rfl))))
      (pss_cons (ps_set (i := 3) sc_all_values.nd rfl (Or.inl rfl) (pe_lst (pa_cons (pe_tup pa_nil) pa_nil)))
      (pss_cons (ps_for PassesOwn.never rfl (pi_str (pv 1)) (pg_name (i := 4) sc_all_values.nd rfl (Or.inl rfl)) (pss_cons (ps_set (i := 5) sc_all_values.nd rfl (Or.inr rfl) (pe_ifExp (pt_cmpR op_eq (pv 4) pe_str (nomark _)) (pv 2) (pe_listRg rfl (by rfl) T.g_list (prg_1 (by rfl) T.g_range (pe_prop (pv 0) T.cls_World T.P_size (ok_World_size T) (hr.mono (by decide)) T.b_World_size .nil pass0 rfl)))))
      (pss_one (ps_setLc2 (i := 3) (own := [("values", 7), ("choice", 8)]) (vs1 := [8]) (g := (gName 7)) (g1 := (gName 8)) (tt := tYes) (tt1 := tYes) (by rfl) sc_all_values.nd rfl rfl (sw_true rfl rfl rfl (by decide +kernel)) (pi_list (pv 3)) (blkOk_by (N := N_all_values) (sc := defScope s_all_values) (by decide +kernel)) (by decide) (fun _ _ _ _ _ => pg_name (i := 7) sc_all_values.nd rfl (Or.inl rfl)) (fun _ _ _ _ _ => pts_nil) (fun _ _ _ _ _ => (pi_listK (K := K) rfl (pv 5))) (fun _ _ _ _ _ => pg_name (i := 8) sc_all_values.nd rfl (Or.inl rfl)) (fun _ _ _ _ _ => pts_nil) (fun _ _ _ _ _ => (pe_tup (pa_starK (K := K) rfl (pv 7) (pa_cons (pv 8) pa_nil))))))))
      (pss_one (ps_ret (pv 3)))))), ?_⟩
    obtain ⟨dx, t1, t2, kn, vd, ve, g1, g2, g3, g4⟩ := id hW
    refine ⟨_, rfl, xw, dx, _, rfl, g1, xw, rfl, hW, fun t3 ht3 => ?_⟩
    refine ⟨t3, rfl, ⟨_, SqT.of ht3⟩, fun D nD => lc_tz (walk_tup (xs := [])) (fun i => .none) (by decide) nD (fun H' e' => SqT.of (e' _ _ ht3)) (fun i x H2 H3 Kq hi e y kq => absurd hi (Nat.not_lt_zero _)) (fun H1 zs e1 hD hzs => ?_)⟩
    refine ⟨(by show 0 ≤ sizeLine; decide), fun t nt => ⟨(by show 1 ≤ sizeLine; decide), fun l nl => ?_⟩⟩
    have et : Ex H1 (upd H1 t (.tup [])) := Ex.nw nt
    have el : Ex (upd H1 t (.tup [])) (upd (upd H1 t (.tup [])) l (.lst [.ref t])) := Ex.nw nl
    obtain ⟨G, EG⟩ : ∃ z, z = upd (upd H1 t (.tup [])) l (.lst [.ref t]) := ⟨_, rfl⟩
    have hl : G l = some (.lst [.ref t]) := by rw [EG]; exact upd_same
    rw [← EG] at el ⊢
    have eG : Ex H1 G := et.tr el
    have nHl : H l = none := none_of_ex e1 (none_of_ex et nl)
    have htG : G t = some (.tup []) := el _ _ upd_same
    refine ⟨_, rfl, "", rfl, for_it walk_str (fun i σ H' => (∃ u4 u5 u6 u7 u8, σ = [some (.ref xw), some (.str ""), some (.ref D), some (.ref l), u4, u5, u6, u7, u8]) ∧ Ex G H') ⟨⟨_, _, _, _, _, rfl⟩, Ex.rf _⟩ (fun _ _ _ _ _ => trivial) ?_ ?_⟩
    · rintro i xv σ H9 H2 hi - -
      exact absurd hi (Nat.not_lt_zero _)
    · rintro σ H2 ⟨⟨u4, u5, u6, u7, u8, rfl⟩, e2⟩
      exact ⟨_, rfl, k l t H2 (e1.tr (eG.tr e2)) nHl (e2 _ _ hl) (e2 _ _ htG)⟩
theorem ok_all_calls (T : Txt K mg A) : FnOk P w K mg base CX0 4 A.f_all_calls A.d_all_calls ["world", "works"] (spAllC K A.C_World) := by
  refine T.F_all_calls.ok sc_all_calls (fun vs H Q E h => ?_) (fun cdv A0 outer s H vs Q E hr h => ?_)
  · obtain ⟨_, _, _, rfl, _⟩ := h
    rfl
  · have hu := hu_of hr
    obtain ⟨v, xw, ws, rfl, ⟨a, xs, rfl, ha, lx, hx⟩, ok, hW, k⟩ := h
    refine ⟨_, (pss_one (ps_ret (pe_lc2 (own := [("work", 2), ("values", 3)]) (vs1 := [3]) (g := (gName 2)) (g1 := (gName 3)) (tt := tYes) (tt1 := tYes) rfl sc_all_calls.nd (pi_tup (pv 1)) (blkOk_by (N := N_all_calls) (sc := defScope s_all_calls) (by decide +kernel)) (by decide) (fun _ _ _ _ _ => pg_name (i := 2) sc_all_calls.nd rfl (Or.inl rfl)) (fun _ _ _ _ _ => pts_nil) (fun _ _ _ _ _ => (pi_listK (K := K) rfl (pe_call (ok_all_values T) (hr.mono (by decide)) (by rfl) T.m_all_values T.F_all_values.kp T.b_all_values .nil pass0 (pa_cons (pv 0) (pa_cons (pe_ix (ix_tupK (K := K) rfl) (pv 2) pe_int (fun _ _ => rfl)) pa_nil))))) (fun _ _ _ _ _ => pg_name (i := 3) sc_all_calls.nd rfl (Or.inl rfl)) (fun _ _ _ _ _ => pts_nil) (fun _ _ _ _ _ => (pe_tup (pa_cons pe_str (pa_cons (pe_ix (ix_tupK (K := K) rfl) (pv 2) pe_int (fun _ _ => rfl)) (pa_cons (pv 3) pa_nil)))))))), ?_⟩
    have l3 := ok.l3
    refine ⟨_, rfl, a, rfl, ⟨_, SqT.of ha⟩, fun D nD => lc2_tz (K := K) (walk_tup (xs := xs)) (fun i => [PyData.tuple []]) (fun i d => .tuple [.str "call", .str (ws[i]?.getD ""), d]) 1 (fun i hi => Nat.le_refl _) (by omega) nD (fun H' e => SqT.of (e _ _ ha)) (fun _ => rfl) (fun _ _ => rfl) (fun i xv H4 R hi hxi e4 hD kR => ?_) (fun i xv yv dd H4 Kq hi hxi e4 hdd tz kq => ?_) (fun H4 us e4 hD4 hus => ?_)⟩
    · obtain ⟨s', b, t, hs, rfl, hb⟩ := hx i xv hxi
      obtain ⟨oD, hD⟩ := hD
      refine ⟨_, rfl, _, rfl, b, _, _, _, rfl, rfl, SqT.of (e4 _ _ hb), rfl, xw, rfl, hW.ex e4, fun l t2 H5 e5 nl hl ht => ⟨l, rfl, ⟨_, SqL.of hl⟩, kR l [.ref t2] H5 e5 hl (fun z => by rw [z, hD] at nl; cases nl) ?_⟩⟩
      exact TzL.one (TzL.tup TzL.nil ht)
    · obtain ⟨s', b, t, hs, rfl, hb⟩ := hx i xv hxi
      refine ⟨_, rfl, b, _, _, _, rfl, rfl, SqT.of (e4 _ _ hb), rfl, _, rfl, (by show 3 ≤ sizeLine; decide), fun q nq => kq _ _ (Ex.nw nq) ?_⟩
      rw [hs]
      exact TzL.tup (TzL.cons (.str _) (TzL.cons (.str _) (TzL.one (tz.ex (Ex.nw nq))))) upd_same
    · refine k D us H4 e4 nD hD4 ?_
      rw [hus.1]
      have : ∀ (f : Nat → List PyData) (n : Nat), (∀ i, (f i).length = 1) → ((List.range n).flatMap f).length = n := by
        intro f n hf
        induction n with
        | zero => rfl
        | succ n ih => rw [List.range_succ, List.flatMap_append, List.length_append, ih]; simp [hf]
      rw [this _ _ (fun i => rfl)]
      omega
theorem ok_all_changes (T : Txt K mg A) : FnOk P w K mg base CX0 4 A.f_all_changes A.d_all_changes ["world"] (spAllCh K A.C_World) := by
  refine T.F_all_changes.ok sc_all_changes (fun vs H Q E h => ?_) (fun cdv A0 outer s H vs Q E hr h => ?_)
  · obtain ⟨_, rfl, _⟩ := h
    rfl
  · have hu := hu_of hr
    obtain ⟨xw, rfl, hW, k⟩ := h
    refine ⟨_, (pss_cons (ps_set (i := 1) sc_all_changes.nd rfl (Or.inl rfl) (pe_lst pa_nil))
      (pss_cons (ps_for PassesOwn.never rfl (pi_tup (pe_prop (pv 0) T.cls_World T.P_loose (ok_World_loose T) (hr.mono (by decide)) T.b_World_loose .nil pass0 rfl)) (pg_name (i := 2) sc_all_changes.nd rfl (Or.inr rfl)) (pss_cons (ps_if (pt_cmpR op_isN (pe_meth (pv 0) T.cls_World T.M_cell_number (ok_World_cell_number T) (hr.mono (by decide)) T.b_World_cell_number .nil pass0 (pa_cons (pv 2) pa_nil)) pe_non (nomark _)) (pss_one (ps_set (i := 3) sc_all_changes.nd rfl (Or.inl rfl) (pe_call (ok_all_items T) (hr.mono (by decide)) (by rfl) T.m_all_items T.F_all_items.kp T.b_all_items .nil pass0 (pa_cons (pv 0) pa_nil)))) (pss_one (ps_set (i := 3) sc_all_changes.nd rfl (Or.inl rfl) (pe_listRg rfl (by rfl) T.g_list (prg_1 (by rfl) T.g_range (pe_prop (pv 0) T.cls_World T.P_size (ok_World_size T) (hr.mono (by decide)) T.b_World_size .nil pass0 rfl))))))
      (pss_one (ps_expr (pe_bm PySem.F.plainAttrs_list PySem.F.slot_list_extend PySem.F.type_list_extend mt_extend (pv 1) (pa_cons (pe_lc (own := [("thing", 4)]) (g := (gName 4)) (tt := tYes) rfl sc_all_changes.nd (pi_list (pv 3)) (blkOk_by (N := N_all_changes) (sc := defScope s_all_changes) (by decide +kernel)) (fun _ _ _ _ _ => pg_name (i := 4) sc_all_changes.nd rfl (Or.inl rfl)) (fun _ _ _ _ _ => pts_nil) (fun _ _ _ _ _ => (pe_tup (pa_cons pe_str (pa_cons (pv 2) (pa_cons (pv 4) pa_nil)))))) pa_nil))))))
      (pss_one (ps_ret (pv 1))))), ?_⟩
    refine ⟨(by show 0 ≤ sizeLine; decide), fun f nf => ?_⟩
    have eG : Ex H (upd H f (.lst [])) := Ex.nw nf
    obtain ⟨G, EG⟩ : ∃ z, z = upd H f (.lst []) := ⟨_, rfl⟩
    have hf : G f = some (.lst []) := by rw [EG]; exact upd_same
    rw [← EG] at eG ⊢
    have hWG := hW.ex eG
    obtain ⟨dx, t1, t2, kn, vd, ve, g1, g2, g3, g4⟩ := id hWG
    refine ⟨_, rfl, xw, dx, _, rfl, g1, xw, rfl, hWG, fun kn2 hk => ?_⟩
    refine ⟨kn2, rfl, ⟨_, hk.sq⟩, for_it (walk_tup (xs := [])) (fun i σ H' => (∃ u2 u3 u4, σ = [some (.ref xw), some (.ref f), u2, u3, u4]) ∧ Ex G H') ⟨⟨_, _, _, rfl⟩, Ex.rf _⟩ (fun i σ H' _ q => hk.sq) ?_ ?_⟩
    · rintro i xv σ H9 H2 hi - -
      exact absurd hi (Nat.not_lt_zero _)
    · rintro σ H2 ⟨⟨u2, u3, u4, rfl⟩, e2⟩
      exact ⟨_, rfl, k f H2 (eG.tr e2) nf (e2 _ _ hf)⟩
end
end K50
set_option Elab.async false
set_option linter.all false
set_option maxRecDepth 100000
set_option maxHeartbeats 4400000
namespace K50
open PySem PySem.Spec PyProof.Rows L2 HX
open PySem.W (Frag)

def sf (vw vk vp vn vd : V) : List (Str × V) := putF "_deeds" vd (putF "_numbers" vn (putF "_places" vp (putF "_works" vk (putF "_world" vw []))))
theorem sf_world (vw vk vp vn vd : V) : (sf vw vk vp vn vd).lookup ("_world" : Str) = some vw := by
  unfold sf
  rw [lookup_putF, if_neg (by decide +kernel)]
  rw [lookup_putF, if_neg (by decide +kernel)]
  rw [lookup_putF, if_neg (by decide +kernel)]
  rw [lookup_putF, if_neg (by decide +kernel)]
  rw [lookup_putF, if_pos rfl]
theorem sf_works (vw vk vp vn vd : V) : (sf vw vk vp vn vd).lookup ("_works" : Str) = some vk := by
  unfold sf
  rw [lookup_putF, if_neg (by decide +kernel)]
  rw [lookup_putF, if_neg (by decide +kernel)]
  rw [lookup_putF, if_neg (by decide +kernel)]
  rw [lookup_putF, if_pos rfl]
theorem sf_places (vw vk vp vn vd : V) : (sf vw vk vp vn vd).lookup ("_places" : Str) = some vp := by
  unfold sf
  rw [lookup_putF, if_neg (by decide +kernel)]
  rw [lookup_putF, if_neg (by decide +kernel)]
  rw [lookup_putF, if_pos rfl]
theorem sf_numbers (vw vk vp vn vd : V) : (sf vw vk vp vn vd).lookup ("_numbers" : Str) = some vn := by
  unfold sf
  rw [lookup_putF, if_neg (by decide +kernel)]
  rw [lookup_putF, if_pos rfl]
theorem sf_deeds (vw vk vp vn vd : V) : (sf vw vk vp vn vd).lookup ("_deeds" : Str) = some vd := by
  unfold sf
  rw [lookup_putF, if_pos rfl]

/-- a setup with works of these names stands at x -/
def SAt (C : Addr) (H : Hp) (x : Addr) (ws : List Str) : Prop := ∃ (dx D : Addr) (vw vk vr vd : V) (kvs : List (Key × V)), H x = some (.ins C dx (sf vw vk vr (.ref D) vd)) ∧ H D = some (.dK kvs) ∧ ∀ k : Str, decide ((valV kvs (Sum.inr k : Key)).getD .non = .non) = decide (k ∉ ws)
theorem SAt.ex {C x : Addr} {H H' : Hp} {ws : List Str} (h : SAt C H x ws) (e : Ex H H') : SAt C H' x ws := let ⟨dx, D, vw, vk, vr, vd, kvs, h1, h2, h3⟩ := h; ⟨dx, D, vw, vk, vr, vd, kvs, e _ _ h1, e _ _ h2, h3⟩
theorem SAt.xb {C x p : Addr} {H H' : Hp} {ws : List Str} {zs : List V} (h : SAt C H x ws) (hp : H p = some (.lst zs)) (e : XB p H H') : SAt C H' x ws := let ⟨dx, D, vw, vk, vr, vd, kvs, h1, h2, h3⟩ := h; ⟨dx, D, vw, vk, vr, vd, kvs, e _ _ (ne_of h1 hp (by intro y; cases y)) h1, e _ _ (ne_of h2 hp (by intro y; cases y)) h2, h3⟩
def spSinit (K : Frag) (A : Ad) : Sp := fun vs H Q E => ∃ (x dx xw : Addr) (vk : V) (r : Int) (ws : List Str), vs = [.ref x, .ref xw, vk, .int r] ∧ H x = some (.ins A.C_Setup dx []) ∧ x ≠ xw ∧ WAt K A.C_World H xw ∧ WkAt H vk ws ∧ WsOk ws ∧ 1 ≤ r ∧ r < 3 ∧
  ∀ H', (∀ c o, c ≠ x → H c = some o → H' c = some o) → SAt A.C_Setup H' x ws → Q .non H'
def spWno (C : Addr) : Sp := fun vs H Q _ => ∃ (x : Addr) (s : Str) (ws : List Str), vs = [.ref x, .str s] ∧ SAt C H x ws ∧ ∀ v, decide (v = .non) = decide (s ∉ ws) → Q v H

section
variable {P : Program} {w : World} {K : Frag} {mg : Str → Option Value} {base : Heap} {A : Ad}

theorem ok_Setup_init (T : Txt K mg A) : FnOk P w K mg base CX0 5 A.f_Setup_init A.d_Setup_init ["self", "world", "works", "room"] (spSinit K A) := by
  refine T.F_Setup_init.ok sc_Setup_init (fun vs H Q E h => ?_) (fun cdv A0 outer s H vs Q E hr h => ?_)
  · obtain ⟨_, _, _, _, _, _, rfl, _⟩ := h
    rfl
  · have hu := hu_of hr
    obtain ⟨x, dx, xw, vk, r, ws, rfl, hx, nxw, hW, hz, wok, r1, r3, k⟩ := h
    refine ⟨_, (pss_cons (ps_if (pt_not (pt_val (pe_call (ok_are_works T) (hr.mono (by decide)) (by rfl) T.m_are_works T.F_are_works.kp T.b_are_works .nil pass0 (pa_cons (pv 2) (pa_cons (pv 1) pa_nil))))) (pss_one ps_never) pss_nil)
      (pss_cons (ps_if (pt_not (pt_val (pe_call (ok_is_whole T) (hr.mono (by decide)) (by rfl) T.m_is_whole T.F_is_whole.kp T.b_is_whole .nil pass0 (pa_cons (pv 3) (pa_cons pe_int (pa_cons pe_int pa_nil)))))) (pss_one ps_never) pss_nil)
      (pss_cons (ps_fld (pv 0) (pv 1) rfl)
      (pss_cons (ps_fld (pv 0) (pv 2) rfl)
      (pss_cons (ps_fld (pv 0) (pv 3) rfl)
      (pss_cons (ps_fld (pv 0) (pe_dc (own := [("at", 4), ("work", 5)]) (g := (gTup K 2 (gCons (gName 4) (gCons (gName 5) gNil)))) (tt := tYes) rfl sc_Setup_init.nd (pi_enumT (by rfl) T.g_enumerate (pa_cons (pv 2) pa_nil)) (blkOk_by (N := N_Setup_init) (sc := defScope s_Setup_init) (by decide +kernel)) (fun _ _ _ _ _ => pg_tup rfl (pgs_cons (pg_name (i := 4) sc_Setup_init.nd rfl (Or.inl rfl)) (pgs_cons (pg_name (i := 5) sc_Setup_init.nd rfl (Or.inl rfl)) pgs_nil))) (fun _ _ _ _ _ => pts_nil) (fun _ _ _ _ _ => (pe_ix (ix_tupK (K := K) rfl) (pv 5) pe_int (fun _ _ => rfl))) (fun _ _ _ _ _ => (pv 4))) rfl)
      (pss_one (ps_fld (pv 0) (pe_callTy call_tuple_of (by rfl) T.g_tuple (by decide +kernel) (pa_cons (pe_op op_cat (pe_call (ok_all_calls T) (hr.mono (by decide)) (by rfl) T.m_all_calls T.F_all_calls.kp T.b_all_calls .nil pass0 (pa_cons (pv 1) (pa_cons (pv 2) pa_nil))) (pe_call (ok_all_changes T) (hr.mono (by decide)) (by rfl) T.m_all_changes T.F_all_changes.kp T.b_all_changes .nil pass0 (pa_cons (pv 1) pa_nil))) pa_nil)) rfl)))))))), ?_⟩
    obtain ⟨a, xs0, rfl, ha0, -, -⟩ := id hz
    refine ⟨_, rfl, _, rfl, _, xw, ws, rfl, hz, wok, hW, fun H1 e1 => ⟨_, rfl, HX.if_false rfl ?_⟩⟩
    have l3 := wok.l3
    refine ⟨_, rfl, _, 1, 3, rfl, kd_int _, _, rfl, HX.if_false (by rw [whole_yes r1 r3]; rfl) ?_⟩
    have hx1 := e1 _ _ hx
    refine ⟨_, rfl, _, rfl, x, A.C_Setup, dx, _, rfl, hx1, T.cls_Setup, T.n_world, (by show 0 < 1000; decide), _, rfl, _, rfl, x, A.C_Setup, dx, _, rfl, upd_same, T.cls_Setup, T.n_works, (by show 1 < 1000; decide), _, rfl, _, rfl, x, A.C_Setup, dx, _, rfl, upd_same, T.cls_Setup, T.n_places, (by show 2 < 1000; decide), ?_⟩
    simp only [upd_upd]
    obtain ⟨G, EG⟩ : ∃ z, z = upd H1 x (.ins A.C_Setup dx (putF "_places" (.int r) (putF "_works" (.ref a) (putF "_world" (.ref xw) [])))) := ⟨_, rfl⟩
    rw [← EG]
    have hxG : G x = some (.ins A.C_Setup dx (putF "_places" (.int r) (putF "_works" (.ref a) (putF "_world" (.ref xw) [])))) := by rw [EG]; exact upd_same
    have oG : ∀ c o, c ≠ x → H c = some o → G c = some o := fun c o n e => by rw [EG, upd_ne n]; exact e1 _ _ e
    have tG : TupK H G := fun a xs ha => oG _ _ (ne_of ha hx (by intro y; cases y)) ha
    obtain ⟨a2, xs, ea2, ha, lx, hxs⟩ := hz.te tG
    cases ea2
    refine ⟨_, rfl, a, xs, rfl, SqT.of ha, fun D nD => dc_names walk_enT ws lx (by omega) nD (fun H' e => SqT.of (e _ _ ha)) (fun i x2 H4 H5 Kq hi e y kq => ?_) (fun H4 kvs e4 hD hv => ?_)⟩
    · obtain ⟨T, u, u2, rfl, nT, rfl, h4, h5⟩ := y
      obtain ⟨s', b, u3, hs, rfl, hb⟩ := hxs i u2 h5
      have eT : Ex H4 (upd H4 T (.tup [u, .ref b])) := Ex.nw nT
      exact ⟨T, _, rfl, SqT.of upd_same, rfl, _, _, rfl, _, _, rfl, rfl, rfl, _, rfl, b, _, _, _, rfl, rfl, SqT.of (eT _ _ (e _ _ hb)), rfl, _, rfl, kq _ s' _ eT hs (by cases h4; intro z; cases z)⟩
    have hx4 := e4 _ _ hxG
    refine ⟨_, rfl, x, A.C_Setup, dx, _, rfl, hx4, T.cls_Setup, T.n_numbers, (by show 3 < 1000; decide), ?_⟩
    obtain ⟨G2, EG2⟩ : ∃ z, z = upd H4 x (.ins A.C_Setup dx (putF "_numbers" (.ref D) (putF "_places" (.int r) (putF "_works" (.ref a) (putF "_world" (.ref xw) []))))) := ⟨_, rfl⟩
    rw [← EG2]
    have hx2 : G2 x = some (.ins A.C_Setup dx (putF "_numbers" (.ref D) (putF "_places" (.int r) (putF "_works" (.ref a) (putF "_world" (.ref xw) []))))) := by rw [EG2]; exact upd_same
    have oG2 : ∀ c o, c ≠ x → G c = some o → G2 c = some o := fun c o n e => by rw [EG2, upd_ne n]; exact e4 _ _ e
    have hD2 : G2 D = some (.dK kvs) := by
      have n : D ≠ x := fun z => by rw [z, e4 _ _ hxG] at hD; cases hD
      rw [EG2, upd_ne n]; exact hD
    have oA : ∀ c o, c ≠ x → H c = some o → G2 c = some o := fun c o n e => oG2 _ _ n (oG _ _ n e)
    have tA : TupK H G2 := fun a xs ha => oA _ _ (ne_of ha hx (by intro y; cases y)) ha
    have hW2 : WAt K A.C_World G2 xw := hW.but hx nxw oA
    have hz2 := hz.te tA
    refine ⟨_, rfl, _, rfl, _, xw, ws, rfl, hz2, wok, hW2, fun l ys H5 e5 nl hl hys => ?_⟩
    refine ⟨_, rfl, xw, rfl, hW2.ex e5, fun l2 H6 e6 nl2 hl2 => ?_⟩
    refine ⟨l, l2, _, _, rfl, rfl, e6 _ _ hl, hl2, Nat.le_of_lt (small (by rw [List.length_nil]; omega)), fun l3 nl3 => ?_⟩
    refine ⟨l3, _, rfl, .inl ⟨SqL.of upd_same, fun t nt => ?_⟩⟩
    have e7 : Ex H6 (upd H6 l3 (.lst (ys ++ []))) := Ex.nw nl3
    have e8 : Ex (upd H6 l3 (.lst (ys ++ []))) (upd (upd H6 l3 (.lst (ys ++ []))) t (.tup (ys ++ []))) := Ex.nw nt
    have e58 := e5.tr (e6.tr (e7.tr e8))
    have hx8 := e58 _ _ hx2
    refine ⟨_, rfl, x, A.C_Setup, dx, _, rfl, hx8, T.cls_Setup, T.n_deeds, (by show 4 < 1000; decide), ?_⟩
    have oF : ∀ c o, c ≠ x → G2 c = some o → (upd (upd (upd H6 l3 (.lst (ys ++ []))) t (.tup (ys ++ []))) x (.ins A.C_Setup dx (sf (.ref xw) (.ref a) (.int r) (.ref D) (.ref t)))) c = some o := fun c o n e => by rw [upd_ne n]; exact e58 _ _ e
    exact k _ (fun c o n e => oF _ _ n (oA _ _ n e)) ⟨dx, D, _, _, _, _, kvs, upd_same, oF _ _ (ne_of hD2 hx2 (by intro y; cases y)) hD2, hv⟩
theorem ok_Setup_work_number (T : Txt K mg A) : FnOk P w K mg base CX0 1 A.f_Setup_work_number A.d_Setup_work_number ["self", "value"] (spWno A.C_Setup) := by
  refine T.F_Setup_work_number.ok sc_Setup_work_number (fun vs H Q E h => ?_) (fun cdv A0 outer s H vs Q E hr h => ?_)
  · obtain ⟨_, _, _, rfl, _⟩ := h
    rfl
  · have hu := hu_of hr
    obtain ⟨x, sn, ws, rfl, ⟨dx, D, vw, vk, vr, vd, kvs, h1, h2, h3⟩, k⟩ := h
    refine ⟨_, (pss_cons (ps_if (pt_not (pt_val (pe_callB call_isi (by rfl) T.g_isinstance (by decide +kernel) (pa_cons (pv 1) (pa_cons (pe_bltn (v := .ty "str") (by rfl) T.g_str (by decide +kernel) rfl) pa_nil))))) (pss_one (ps_ret pe_non)) pss_nil)
      (pss_one (ps_ret (pe_dget1 hu (pe_fld (pv 0) rfl) (pv 1) (by constructor <;> rfl))))), ?_⟩
    refine ⟨_, rfl, _, _, _, _, _, rfl, .ty _, .base (.str sn), kit_ty (r := true) (by decide +kernel), _, rfl, HX.if_false rfl ?_⟩
    refine ⟨_, rfl, x, A.C_Setup, dx, _, _, rfl, h1, T.cls_Setup, T.n_numbers, sf_numbers _ _ _ _ _, D, rfl, .inl ⟨kvs, .inl h2⟩, _, rfl, _, DGet.k (k := Sum.inr sn) h2, k _ (h3 sn)⟩
end
end K50
set_option Elab.async false
set_option linter.all false
set_option maxRecDepth 100000
set_option maxHeartbeats 4400000
namespace K50
open PySem PySem.Spec PyProof.Rows L2 HX
open PySem.W (Frag)

def LfGoal (J : It) (g : TG) (tt : TT) (te : L2.TE) (vs : List Nat) (σ : L2.St) (H1 : Hp) (D : Addr) (Qd : Hp → Prop) : Prop :=
  ∃ W : Nat → Nat → Hp → Prop, (∃ m, W 0 m (upd H1 D (.lst []))) ∧ ∀ i m H, W i m H →
      (J.stop i H ∧ Qd H) ∨ (J.go i H ∧ ∃ Nx : Hp → Prop, (∀ H', Nx H' → ∃ m', m' < m ∧ W (i + 1) m' H') ∧ ∀ x H', J.yld i H x H' → g x (wipe σ vs) H' fun σ2 H2 => wipe σ2 vs = wipe σ vs ∧ tt σ2 H2 fun b H3 =>
        if b = true then te σ2 H3 fun y H4 => ∃ acc, H4 D = some (.lst acc) ∧ acc.length < sizeLine ∧ Nx (upd H4 D (.lst (acc ++ [y]))) else Nx H3)

theorem lc_fy {J : It} {n : Nat} {G : Hp → Prop} {g : TG} {tt : TT} {te : L2.TE} {vs : List Nat} {σ : L2.St} {H1 : Hp} {D : Addr} {Qd : Hp → Prop} {xs : List V} (w : Walk J n G (YAt xs)) (f : Nat → Bool) (y : Nat → V) (hn : n < 1000) (nD : H1 D = none) (hG : ∀ H, Ex H1 H → G H)
    (hs : ∀ (i : Nat) (x : V) (H : Hp) (Kq : V → Hp → Prop) (Kn : Hp → Prop), i < n → xs[i]? = some x → Ex H1 H → (f i = true → Kq (y i) H) → (f i = false → Kn H) → g x (wipe σ vs) H fun σ2 H2 => wipe σ2 vs = wipe σ vs ∧ tt σ2 H2 fun b H3 => if b = true then te σ2 H3 Kq else Kn H3)
    (hd : ∀ H, Ex H1 H → H D = some (.lst (((List.range n).filter f).map y)) → Qd H) : LfGoal J g tt te vs σ H1 D Qd := by
  refine lc_it (tt := tt) w (fun i H => Ex H1 H ∧ H D = some (.lst (((List.range i).filter f).map y))) ⟨Ex.nw nD, upd_same⟩ (fun i H _ p => hG H p.1) (fun i x H H' hi p yy => ?_) (fun H ⟨e, hD⟩ => hd H e hD)
  obtain ⟨e, hD⟩ := p
  obtain ⟨rfl, hx⟩ := yy
  refine hs i x H' _ _ hi hx e (fun hf => ⟨_, hD, ?_, ex_mu e nD, ?_⟩) (fun hf => ⟨e, ?_⟩)
  · rw [List.length_map]
    refine Nat.lt_of_le_of_lt (List.length_filter_le _ _) ?_
    rw [List.length_range]
    exact Nat.lt_of_lt_of_le (Nat.lt_trans hi hn) (by decide)
  · rw [upd_same, List.range_succ, List.filter_append, List.map_append]
    have e1 : [i].filter f = [i] := by rw [List.filter_cons, if_pos hf]; rfl
    rw [e1]; rfl
  · rw [hD, List.range_succ, List.filter_append]
    have e1 : [i].filter f = [] := by rw [List.filter_cons, if_neg (by rw [hf]; decide)]; rfl
    rw [e1, List.append_nil]
/-- what is kept of a list, told by places or by items -/
theorem flt_rng {α β : Type} (P : α → Bool) (g : α → β) : ∀ (l : List α) (f : Nat → Bool) (y : Nat → β), (∀ (i : Nat) (a : α), l[i]? = some a → f i = P a ∧ y i = g a) → ((List.range l.length).filter f).map y = (l.filter P).map g
  | [], f, y, _ => rfl
  | a :: l, f, y, h => by
    have ih := flt_rng P g l (fun i => f (i + 1)) (fun i => y (i + 1)) fun i b hb => h (i + 1) b (by simpa using hb)
    obtain ⟨h1, h2⟩ := h 0 a rfl
    rw [List.length_cons, List.range_succ_eq_map, List.filter_cons, List.filter_cons, h1]
    have e : ((List.range l.length).map Nat.succ).filter f = ((List.range l.length).filter fun i => f (i + 1)).map Nat.succ := by
      rw [List.filter_map]; rfl
    by_cases hp : P a = true
    · rw [if_pos hp, if_pos hp, List.map_cons, List.map_cons, e, List.map_map, h2]
      exact congrArg _ ih
    · rw [if_neg hp, if_neg hp, e, List.map_map]
      exact ih
def iP (q : Str × Int) : Str × PyData := (q.1, .int q.2)
def iD (q : Str × Int) : PyData := pD (iP q)
def prD (ps : List (Str × Int)) (b h : Int) (os : List (Str × Int)) : PyData := .tuple [.tuple (ps.map iD), .int b, .int h, .tuple (os.map iD)]
def pricesD (ws : List Str) : PyData → Bool
  | .tuple [n, b, h, o] => (pricedD n 4 && pricedD o 2) && ((wholeD b 0 10 && wholeD h 0 10) && (psOf o).all fun q => decide (q.1 ∈ ws))
  | _ => false
structure PsOk (m : Nat) (ps : List (Str × Int)) : Prop where
  l : ps.length ≤ m
  n : ∀ q ∈ ps, nameOk q.1 = true
  r : rises (ps.map (·.1)) = true
  w : ∀ q ∈ ps, 0 ≤ q.2 ∧ q.2 < 10
theorem wholeD_int {d : PyData} {lo hi : Int} (h : wholeD d lo hi = true) : ∃ i, d = .int i ∧ lo ≤ i ∧ i < hi := by
  cases d with
  | int i => simp [wholeD] at h; exact ⟨i, rfl, h.1, h.2⟩
  | _ => simp [wholeD] at h
theorem ints_all : ∀ {ps : List (Str × PyData)}, (ps.all fun q => wholeD q.2 0 10) = true → ∃ qs : List (Str × Int), ps = qs.map iP ∧ ∀ q ∈ qs, 0 ≤ q.2 ∧ q.2 < 10
  | [], _ => ⟨[], rfl, fun q h => by cases h⟩
  | (z, d) :: r, h => by
    rw [List.all_cons, Bool.and_eq_true] at h
    obtain ⟨i, e, i0, i1⟩ := wholeD_int (d := d) h.1
    subst e
    obtain ⟨qs, e, hq⟩ := ints_all h.2
    refine ⟨(z, i) :: qs, by rw [List.map_cons, e]; rfl, fun q hm => ?_⟩
    rcases List.mem_cons.mp hm with rfl | hm
    · exact ⟨i0, i1⟩
    · exact hq q hm
theorem iD_pairs (ps : List (Str × Int)) : ps.map iD = (ps.map iP).map pD := by rw [List.map_map]; rfl
theorem fst_iP (ps : List (Str × Int)) : (ps.map iP).map (·.1) = ps.map (·.1) := by rw [List.map_map]; rfl
theorem dz_any {d : PyData} {m : Int} (h : pairsD d m = true) : d = .tuple ((psOf d).map pD) ∧ ((psOf d).length : Int) ≤ m ∧ (∀ q ∈ psOf d, nameOk q.1 = true) ∧ rises ((psOf d).map (·.1)) = true := by
  cases d with
  | tuple ds =>
    obtain ⟨h1, h2⟩ := Bool.and_eq_true_iff.mp (show (decide ((ds.length : Int) ≤ m) && (ds.all pairD && rises (ds.map fun x => strD (fstD x)))) = true from h)
    obtain ⟨h3, h4⟩ := Bool.and_eq_true_iff.mp h2
    obtain ⟨ps, rfl, eps, hps⟩ := pairs_ps h3
    rw [ps_pd]
    rw [eps] at h4
    exact ⟨rfl, by have := of_decide_eq_true h1; rw [List.length_map] at this; exact this, hps, h4⟩
  | _ => cases h
theorem priced_is {d : PyData} {m : Nat} (h : pricedD d m = true) : ∃ ps : List (Str × Int), d = .tuple (ps.map iD) ∧ PsOk m ps := by
  obtain ⟨h1, h2⟩ := Bool.and_eq_true_iff.mp h
  obtain ⟨e, l, n, r⟩ := dz_any h1
  obtain ⟨qs, eq, hq⟩ := ints_all h2
  rw [eq] at e l n r
  refine ⟨qs, by rw [iD_pairs]; exact e, by rw [List.length_map] at l; omega, fun q hm => n _ (List.mem_map.mpr ⟨q, hm, rfl⟩), by rw [fst_iP] at r; exact r, hq⟩
theorem prices_is {ws : List Str} {d : PyData} (h : pricesD ws d = true) : ∃ ps b h os, d = prD ps b h os ∧ PsOk 4 ps ∧ PsOk 2 os ∧ (0 ≤ b ∧ b < 10) ∧ (0 ≤ h ∧ h < 10) ∧ ∀ q ∈ os, q.1 ∈ ws := by
  unfold pricesD at h
  split at h
  · rename_i n b h' o'
    obtain ⟨h1, h2⟩ := Bool.and_eq_true_iff.mp h
    obtain ⟨p1, p2⟩ := Bool.and_eq_true_iff.mp h1
    obtain ⟨h3, h4⟩ := Bool.and_eq_true_iff.mp h2
    obtain ⟨w1, w2⟩ := Bool.and_eq_true_iff.mp h3
    obtain ⟨ps, rfl, k1⟩ := priced_is (m := 4) p1
    obtain ⟨os, rfl, k2⟩ := priced_is (m := 2) p2
    obtain ⟨b, rfl, b1⟩ := wholeD_int w1
    obtain ⟨hh, rfl, b2⟩ := wholeD_int w2
    refine ⟨ps, b, hh, os, rfl, k1, k2, b1, b2, fun q hq => ?_⟩
    have := List.all_eq_true.mp h4 (iP q) (by rw [iD_pairs, ps_pd]; exact List.mem_map.mpr ⟨q, hq, rfl⟩)
    exact of_decide_eq_true this
  · cases h
theorem pairs_at2 {p : Addr} {H : Hp} {v : V} {ps : List (Str × Int)} (h : Dz p H v (.tuple (ps.map iD))) : PairsAt p H v (ps.map iP) := by
  rw [iD_pairs] at h
  obtain ⟨a, xs, rfl, ha, hl, hi⟩ := h.tupI
  exact ⟨a, xs, rfl, ha, by rw [hl, List.length_map], fun i x hx => pairs_at hl hi hx⟩
theorem sf_wn (vw vk vp vn vd : V) : (sf vw vk vp vn vd).lookup ("work_number" : Str) = none := by
  unfold sf
  rw [lookup_putF, if_neg (by decide +kernel), lookup_putF, if_neg (by decide +kernel), lookup_putF, if_neg (by decide +kernel), lookup_putF, if_neg (by decide +kernel), lookup_putF, if_neg (by decide +kernel)]
  rfl
/-- an error of this class leaves, which keeps v -/
def Raise (C : Addr) (H : Hp) (E : XK) (v : V) : Prop := ∀ (d : Addr) (H' : Hp), Ex H H' → H' d = some (.xd [("value", v)]) → E (.ref C) (some d) H'
def spPrices (C : Addr) : Sp := fun vs H Q _ => ∃ (p x : Addr) (v : V) (d : PyData) (ws : List Str), vs = [.ref x, v] ∧ SAt C H x ws ∧ Dz p H v d ∧ Wt 900 d ∧ Says H Q (pricesD ws d)
def spCheck (A : Ad) : Sp := fun vs H Q E => ∃ (p x : Addr) (v : V) (d : PyData) (ws : List Str), vs = [.ref x, v] ∧ SAt A.C_Setup H x ws ∧ Dz p H v d ∧ Wt 900 d ∧ (pricesD ws d = false → Raise A.C_BadPrices H E v) ∧ (pricesD ws d = true → ∀ H', Ex H H' → Q .non H')
def spAmong (K : Frag) : Sp := fun vs H Q _ => ∃ (p a : Addr) (v : V) (gs : List Str) (ps : List (Str × PyData)), vs = [.ref a, v] ∧ SqT K H a (gs.map V.str) ∧ PairsAt p H v ps ∧ gs.length ≤ 900 ∧ ps.length ≤ 900 ∧ Says H Q (gs.all fun z => decide (z ∈ ps.map (·.1)))
def costL (ps : List (Str × Int)) (gs : List Str) : Int := ((ps.filter fun q => decide (q.1 ∈ gs)).map (·.2)).sum
def costI (ps : List (Str × Int)) (b h : Int) (os : List (Str × Int)) (gs : List Str) (kn he : Bool) (ws : List Str) : Int := ((costL ps gs + costL os ws) + (if kn = true then 0 else b)) + (if he = true then h else 0)
def spCost (K : Frag) (C : Addr) : Sp := fun vs H Q _ => ∃ (p xp : Addr) (v : V) (ps os : List (Str × Int)) (b h : Int) (gs : List Str) (kn he : Bool) (ws : List Str), vs = [v, .ref xp] ∧ Dz p H v (prD ps b h os) ∧ PlanAt K C H xp gs kn he ws ∧ ps.length ≤ 900 ∧ os.length ≤ 900 ∧ ∀ H', Ex H H' → Q (.int (costI ps b h os gs kn he ws)) H'
def amongB (ps os : List (Str × Int)) (gs ws : List Str) : Bool := (gs.all fun z => decide (z ∈ ps.map (·.1))) && ws.all fun z => decide (z ∈ os.map (·.1))
def spPrice (K : Frag) (A : Ad) : Sp := fun vs H Q E => ∃ (p x xp : Addr) (v : V) (d : PyData) (ns gs : List Str) (kn he : Bool) (ws : List Str), vs = [.ref x, v, .ref xp] ∧ SAt A.C_Setup H x ns ∧ Dz p H v d ∧ Wt 900 d ∧ PlanAt K A.C_Plan H xp gs kn he ws ∧ (pricesD ns d = false → Raise A.C_BadPrices H E v) ∧
  (pricesD ns d = true → ∀ ps b h os, d = prD ps b h os → (amongB ps os gs ws = false → Raise A.C_BadPlan H E (.ref xp)) ∧ (amongB ps os gs ws = true → ∀ H', Ex H H' → Q (.int (costI ps b h os gs kn he ws)) H'))

section
variable {P : Program} {w : World} {K : Frag} {mg : Str → Option Value} {base : Heap} {A : Ad}

theorem ok_are_prices (T : Txt K mg A) : FnOk P w K mg base CX0 4 A.f_are_prices A.d_are_prices ["setup", "value"] (spPrices A.C_Setup) := by
  refine T.F_are_prices.ok sc_are_prices (fun vs H Q E h => ?_) (fun cdv A0 outer s H vs Q E hr h => ?_)
  · obtain ⟨_, _, _, _, _, rfl, _⟩ := h
    rfl
  · have hu := hu_of hr
    obtain ⟨p, x, v, d, ns, rfl, hS, hz, hw, k⟩ := h
    refine ⟨_, (pss_cons (ps_if (PW.pt (pw_or (pt_not (pt_val (pe_callB call_isi (by rfl) T.g_isinstance (by decide +kernel) (pa_cons (pv 1) (pa_cons (pe_bltn (v := .ty "tuple") (by rfl) T.g_tuple (by decide +kernel) rfl) pa_nil))))) (pw_or1 (pt_cmpR op_ne (pe_callB call_len_seq (by rfl) T.g_len (by decide +kernel) (pa_cons (pv 1) pa_nil)) pe_int (nomark _))))) (pss_one (ps_ret pe_bl)) pss_nil)
      (pss_cons (ps_asg (pv 1) (pg_tup rfl (pgs_cons (pg_name (i := 2) sc_are_prices.nd rfl (Or.inl rfl)) (pgs_cons (pg_name (i := 3) sc_are_prices.nd rfl (Or.inl rfl)) (pgs_cons (pg_name (i := 4) sc_are_prices.nd rfl (Or.inl rfl)) (pgs_cons (pg_name (i := 5) sc_are_prices.nd rfl (Or.inl rfl)) pgs_nil))))))
      (pss_cons (ps_if (PW.pt (pw_or (pt_not (pt_val (pe_call (ok_are_priced T) (hr.mono (by decide)) (by rfl) T.m_are_priced T.F_are_priced.kp T.b_are_priced .nil pass0 (pa_cons (pv 2) (pa_cons (pe_glob (v := .int 4) (by rfl) T.c_MOST_PRICED.choose_spec ⟨_, rfl⟩) pa_nil))))) (pw_or1 (pt_not (pt_val (pe_call (ok_are_priced T) (hr.mono (by decide)) (by rfl) T.m_are_priced T.F_are_priced.kp T.b_are_priced .nil pass0 (pa_cons (pv 5) (pa_cons (pe_glob (v := .int 2) (by rfl) T.c_MOST_OWN_PRICED.choose_spec ⟨_, rfl⟩) pa_nil)))))))) (pss_one (ps_ret pe_bl)) pss_nil)
      (pss_one (ps_ret (pe_and (pe_call (ok_is_price T) (hr.mono (by decide)) (by rfl) T.m_is_price T.F_is_price.kp T.b_is_price .nil pass0 (pa_cons (pv 3) pa_nil)) (pe_and (pe_call (ok_is_price T) (hr.mono (by decide)) (by rfl) T.m_is_price T.F_is_price.kp T.b_is_price .nil pass0 (pa_cons (pv 4) pa_nil)) (pe_one (pe_callB (cr_all rfl) (by rfl) T.g_all (by decide +kernel) (pa_cons (pe_lc (own := [("pair", 6)]) (g := (gName 6)) (tt := tYes) rfl sc_are_prices.nd (pi_tup (pv 5)) (blkOk_by (N := N_are_prices) (sc := defScope s_are_prices) (by decide +kernel)) (fun _ _ _ _ _ => pg_name (i := 6) sc_are_prices.nd rfl (Or.inl rfl)) (fun _ _ _ _ _ => pts_nil) (fun _ _ _ _ _ => (pe_cmpR op_notN (pe_meth (pv 0) T.cls_Setup T.M_work_number (ok_Setup_work_number T) (hr.mono (by decide)) T.b_Setup_work_number .nil pass0 (pa_cons (pe_ix (ix_tupK (K := K) rfl) (pv 6) pe_int (fun _ _ => rfl)) pa_nil)) pe_non (nomark _)))) pa_nil)))))))))), ?_⟩
    obtain ⟨ty, tx, kt⟩ := kt_tup (K := K) hz
    refine ⟨_, rfl, _, _, _, _, _, rfl, .ty _, tx, kt, _, rfl, ?_⟩
    by_cases htd : isTupD d = true
    rotate_left
    · refine HX.if_true (by rw [Bool.eq_false_iff.mpr htd]; rfl) (k.no ?_)
      cases d <;> first | rfl | exact absurd rfl htd
    obtain ⟨ds, rfl⟩ := tupD_is htd
    obtain ⟨a, xs, rfl, ht, hl, hi⟩ := hz.tupI
    refine HX.if_false rfl ?_
    refine ⟨_, rfl, a, _, rfl, .inr (SqT.of ht), rfl, _, rfl, ?_⟩
    by_cases h4 : xs.length = 4
    rotate_left
    · refine HX.if_true (by rw [decide_eq_false (fun q => h4 (by injection q with q; omega))]; rfl) (k.no ?_)
      unfold pricesD
      split
      · rename_i h; cases h; exact absurd hl h4
      · rfl
    match xs, ds, hl, h4, hi, ht, hw, k with
    | [y0, y1, y2, y3], [d0, d1, d2, d3], _, _, hi, ht, hw, k =>
      have z0 := hi 0 y0 d0 rfl rfl
      have z1 := hi 1 y1 d1 rfl rfl
      have z2 := hi 2 y2 d2 rfl rfl
      have z3 := hi 3 y3 d3 rfl rfl
      have w0 : Wt 900 d0 := hw.mem (.head _)
      have w3 : Wt 900 d3 := hw.mem (.tail _ (.tail _ (.tail _ (.head _))))
      have kd : pricesD ns (.tuple [d0, d1, d2, d3]) = ((pricedD d0 4 && pricedD d3 2) && ((wholeD d1 0 10 && wholeD d2 0 10) && (psOf d3).all fun q => decide (q.1 ∈ ns))) := rfl
      rw [kd] at k
      refine HX.if_false rfl ?_
      refine ⟨_, rfl, a, _, rfl, SqT.of ht, rfl, _, _, rfl, _, _, rfl, _, _, rfl, _, _, rfl, rfl, ?_⟩
      refine ⟨_, rfl, p, y0, d0, 4, rfl, z0, w0, fun H1 e1 => ⟨_, rfl, ?_⟩⟩
      by_cases h1 : pricedD d0 4 = true
      rotate_left
      · have h1 := Bool.eq_false_iff.mpr h1
        rw [h1, Bool.false_and, Bool.false_and] at k
        exact HX.if_true (by rw [h1]; rfl) (k _ e1)
      rw [h1, Bool.true_and] at k
      refine HX.if_false (by rw [h1]; rfl) ?_
      refine ⟨_, rfl, p, y3, d3, 2, rfl, z3.ex e1, w3, fun H2 e2 => ⟨_, rfl, ?_⟩⟩
      have e12 := e1.tr e2
      by_cases h2 : pricedD d3 2 = true
      rotate_left
      · have h2 := Bool.eq_false_iff.mpr h2
        rw [h2, Bool.false_and] at k
        exact HX.if_true (by rw [h2]; rfl) (k _ e12)
      rw [h2, Bool.true_and] at k
      refine HX.if_false (by rw [h2]; rfl) ?_
      refine ⟨_, rfl, y1, rfl, kd_of (z1.ex e12), _, rfl, ?_⟩
      rw [whole_d z1]
      by_cases h3 : wholeD d1 0 10 = true
      rotate_left
      · have h3 := Bool.eq_false_iff.mpr h3
        rw [h3, Bool.false_and, Bool.false_and] at k
        exact HX.if_false h3 (k _ e12)
      rw [h3, Bool.true_and] at k
      refine HX.if_true h3 ?_
      refine ⟨_, rfl, y2, rfl, kd_of (z2.ex e12), _, rfl, ?_⟩
      rw [whole_d z2]
      by_cases h5 : wholeD d2 0 10 = true
      rotate_left
      · have h5 := Bool.eq_false_iff.mpr h5
        rw [h5, Bool.false_and] at k
        exact HX.if_false h5 (k _ e12)
      rw [h5, Bool.true_and] at k
      refine HX.if_true h5 ?_
      obtain ⟨⟨b, ys, rfl, hb, ly, hy⟩, l2, -, -, -⟩ := pairs_of (z3.ex e12) (Bool.and_eq_true_iff.mp h2).1
      refine ⟨_, rfl, b, rfl, ⟨_, SqT.of hb⟩, fun D nD => lc_bl (walk_tup (xs := ys)) (fun i => decide (((psOf d3)[i]?.getD ("", .none)).1 ∈ ns)) (by omega) nD (fun H' e => SqT.of (e _ _ hb)) (fun i x2 H3 H4 Kq hj e y kq => ?_) (fun H3 e hD => ?_)⟩
      · obtain ⟨rfl, hx2⟩ := y
        obtain ⟨q, c, u, hq, rfl, hc, -⟩ := hy i x2 hx2
        have hS4 := hS.ex (e12.tr e)
        obtain ⟨dx, D2, vw, vk, vr, vd, kvs, g1, -, -⟩ := id hS4
        rw [hq] at kq
        refine ⟨rfl, _, rfl, x, dx, _, rfl, g1, sf_wn _ _ _ _ _, _, rfl, c, _, _, _, rfl, rfl, SqT.of (e _ _ hc), rfl, x, q.1, ns, rfl, hS4, fun v hv => ⟨rfl, ?_⟩⟩
        have e3 : (!decide (v = .non)) = decide (q.1 ∈ ns) := by rw [hv]; by_cases m : q.1 ∈ ns <;> simp [m]
        rw [e3]
        exact kq _ (Ex.rf _)
      · refine ⟨D, _, rfl, SqL.of hD, ?_⟩
        rw [ly, all_rng (fun q : Str × PyData => decide (q.1 ∈ ns)) _ (psOf d3) (fun i a h => by rw [h]; rfl)]
        exact k _ (e12.tr e)
theorem ok_check_prices (T : Txt K mg A) : FnOk P w K mg base (L2.CX P w) 5 A.f_check_prices A.d_check_prices ["setup", "value"] (spCheck A) := by
  refine T.F_check_prices.okX sc_check_prices (fun vs H Q E h => ?_) (fun cdv A0 outer s H vs Q E hr h => ?_)
  · obtain ⟨_, _, _, _, _, rfl, _⟩ := h
    rfl
  · have hu := hu_of hr
    obtain ⟨p, x, v, d, ns, rfl, hS, hz, hw, kE, kQ⟩ := h
    refine ⟨_, (pss_one (ps_if (pt_not (pt_val (pe_call (ok_are_prices T) (hr.mono (by decide)) (by rfl) T.m_are_prices T.F_are_prices.kp T.b_are_prices .nil pass0 (pa_cons (pv 0) (pa_cons (pv 1) pa_nil))))) (pss_one (ps_raise rfl (takes_of rfl rfl rfl rfl) (pmk_oex T.E_BadPrices.oex T.E_BadPrices.ini T.E_BadPrices.fn (ok_BadPrices_init T) (hr.mono (by decide)) T.E_BadPrices.b .nil pass0 (by rfl) T.m_BadPrices (pa_cons (pv 1) pa_nil)))) pss_nil)), ?_⟩
    refine ⟨_, rfl, _, rfl, p, x, v, d, ns, rfl, hS, hz, hw, fun H1 e1 => ⟨_, rfl, ?_⟩⟩
    by_cases h1 : pricesD ns d = true
    · exact HX.if_false (by rw [h1]; rfl) (kQ h1 _ e1)
    · have h1 := Bool.eq_false_iff.mpr h1
      refine HX.if_true (by rw [h1]; rfl) ?_
      refine ⟨_, rfl, (by show 1 ≤ 1000; decide), fun x2 nx2 => ⟨x2, _, rfl, upd_same, fun dx2 ndx ne => ⟨rfl, dx2, _, upd_same, (by rw [upd_ne ne, upd_same]), ?_, ?_⟩⟩⟩
      · rw [upd_ne ne] at ndx
        exact ndx
      · rw [upd_ne ne] at ndx
        refine (fun eX => kE h1 dx2 _ (e1.tr eX) upd_same) (fun c o e => ?_)
        have cx := ne_of_none e nx2
        have cd := ne_of_none e ndx
        rw [upd_ne cd, del_ne cx, upd_ne cx, upd_ne cd, upd_ne cx]
        exact e
theorem ok_are_among (T : Txt K mg A) : FnOk P w K mg base CX0 1 A.f_are_among A.d_are_among ["names", "priced"] (spAmong K) := by
  refine T.F_are_among.ok sc_are_among (fun vs H Q E h => ?_) (fun cdv A0 outer s H vs Q E hr h => ?_)
  · obtain ⟨_, _, _, _, _, rfl, _⟩ := h
    rfl
  · have hu := hu_of hr
    obtain ⟨p, a, v, gs, ps, rfl, ha, ⟨b, ys, rfl, hb, ly, hy⟩, lg, lp, k⟩ := h
    refine ⟨_, (pss_one (ps_ret (pe_callB (cr_all rfl) (by rfl) T.g_all (by decide +kernel) (pa_cons (pe_lc (own := [("name", 2)]) (g := (gName 2)) (tt := tYes) rfl sc_are_among.nd (pi_tup (pv 0)) (blkOk_by (N := N_are_among) (sc := defScope s_are_among) (by decide +kernel)) (fun _ _ _ _ _ => pg_name (i := 2) sc_are_among.nd rfl (Or.inl rfl)) (fun _ _ _ _ _ => pts_nil) (fun _ _ _ _ _ => (pe_cmpR (op_inK (K := K) rfl) (pv 2) (pe_lc (own := [("pair", 3)]) (g := gName 3) (tt := tYes) rfl sc_are_among.nd (pi_tupK (K := K) rfl (pv 1)) (blkOk_by (N := N_are_among) (sc := { kind := .function, names := [(".0", .local), ("name", .local), ("priced", .cell)], isGenerator := false, isCoroutine := false }) (by decide +kernel)) (fun _ _ _ _ _ => pg_name (i := 3) sc_are_among.nd rfl (Or.inl rfl)) (fun _ _ _ _ _ => pts_nil) (fun _ _ _ _ _ => (pe_ix (ix_tupK (K := K) rfl) (pv 3) pe_int (fun _ _ => rfl)))) (by rfl)))) pa_nil)))), ?_⟩
    have lgm : (gs.map V.str).length = gs.length := List.length_map ..
    refine ⟨_, rfl, a, rfl, ⟨_, ha⟩, fun D nD => lc_bl (walk_tup (xs := gs.map V.str)) (fun i => decide ((gs[i]?.getD "") ∈ ps.map (·.1))) (by omega) nD (fun H' e => sqt_ex ha e) (fun i x H2 H3 Kq hi e y kq => ?_) (fun H2 e hD => ?_)⟩
    · obtain ⟨rfl, hx⟩ := y
      rw [List.getElem?_map] at hx
      obtain ⟨z, hz, rfl⟩ := Option.map_eq_some_iff.mp hx
      rw [hz] at kq
      have hb3 := e _ _ hb
      refine ⟨rfl, _, rfl, _, rfl, b, rfl, ⟨_, SqT.of hb3⟩, fun D2 nD2 => lc_tz (walk_tup (xs := ys)) (fun i => .str ((ps.map (·.1))[i]?.getD "")) (by omega) nD2 (fun H' e' => SqT.of (e' _ _ hb3)) (fun j x2 H4 H5 Kq2 hj e' y kq2 => ?_) (fun H4 zs e' hD2 hzs => ?_)⟩
      · obtain ⟨rfl, hx2⟩ := y
        obtain ⟨q, c, u, hq, rfl, hc, -⟩ := hy j x2 hx2
        refine ⟨rfl, _, rfl, c, _, _, _, rfl, rfl, SqT.of (e' _ _ (e _ _ hc)), rfl, kq2 _ _ (Ex.rf _) ?_⟩
        rw [List.getElem?_map, hq]
        exact .str _
      · rw [names_of (ss := ps.map (·.1)) (by rw [List.length_map]; exact ly)] at hzs
        obtain rfl := hzs.strs
        refine ⟨D2, _, rfl, .inl (SqL.of hD2), rfl, flat_strs _, ?_⟩
        rw [inV_strs]
        exact kq _ e'
    · refine ⟨D, _, rfl, SqL.of hD, ?_⟩
      rw [lgm, all_rng (fun z => decide (z ∈ ps.map (·.1))) _ gs (fun i a h => by rw [h]; rfl)]
      exact k _ e
end
end K50
set_option Elab.async false
set_option linter.all false
set_option maxRecDepth 100000
set_option maxHeartbeats 4400000
namespace K50
open PySem PySem.Spec PyProof.Rows L2 HX
open PySem.W (Frag)

section
variable {P : Program} {w : World} {K : Frag} {mg : Str → Option Value} {base : Heap} {A : Ad}

theorem pr_at {p : Addr} {H : Hp} {v : V} {ps os : List (Str × Int)} {b h : Int} (z : Dz p H v (prD ps b h os)) : ∃ a x y, v = .ref a ∧ H a = some (.tup [x, .int b, .int h, y]) ∧ Dz p H x (.tuple (ps.map iD)) ∧ Dz p H y (.tuple (os.map iD)) := by
  obtain ⟨a, xs, rfl, ha, hl, hi⟩ := Dz.tupI (ds := [.tuple (ps.map iD), .int b, .int h, .tuple (os.map iD)]) z
  match xs, hl, ha, hi with
  | [x0, x1, x2, x3], _, ha, hi =>
    obtain rfl := (hi 1 x1 _ rfl rfl : Dz p H x1 (.int b)).intI
    obtain rfl := (hi 2 x2 _ rfl rfl : Dz p H x2 (.int h)).intI
    exact ⟨a, x0, x3, rfl, ha, hi 0 x0 _ rfl rfl, hi 3 x3 _ rfl rfl⟩
theorem PlanAt.got {K : Frag} {C xp : Addr} {H : Hp} {gs ws : List Str} {kn he : Bool} (h : PlanAt K C H xp gs kn he ws) : ∃ dx ag aw, H xp = some (.ins C dx (pf (.ref ag) (.bl kn) (.bl he) (.ref aw))) ∧ SqT K H ag (gs.map V.str) ∧ SqT K H aw (ws.map V.str) ∧ gs.length ≤ 6 ∧ ws.length ≤ 3 := by
  obtain ⟨⟨dx, vg, vo, h1, h2, h3⟩, g6, g3⟩ := h
  obtain ⟨ag, rfl, sg⟩ := h2.sq
  obtain ⟨aw, rfl, sw⟩ := h3.sq
  exact ⟨dx, ag, aw, h1, sg, sw, (gOk_all g6).1, (gOk_all g3).1⟩
theorem ok_cost (T : Txt K mg A) : FnOk P w K mg base CX0 3 A.f_cost A.d_cost ["prices", "plan"] (spCost K A.C_Plan) := by
  refine T.F_cost.ok sc_cost (fun vs H Q E h => ?_) (fun cdv A0 outer s H vs Q E hr h => ?_)
  · obtain ⟨_, _, _, _, _, _, _, _, _, _, _, rfl, _⟩ := h
    rfl
  · have hu := hu_of hr
    obtain ⟨p, xp, v, ps, os, b, h, gs, kn, he, ws, rfl, hz, hP, lp, lo, k⟩ := h
    refine ⟨_, (pss_cons (ps_asg (pv 0) (pg_tup rfl (pgs_cons (pg_name (i := 2) sc_cost.nd rfl (Or.inl rfl)) (pgs_cons (pg_name (i := 3) sc_cost.nd rfl (Or.inl rfl)) (pgs_cons (pg_name (i := 4) sc_cost.nd rfl (Or.inl rfl)) (pgs_cons (pg_name (i := 5) sc_cost.nd rfl (Or.inl rfl)) pgs_nil))))))
      (pss_cons (ps_set (i := 6) sc_cost.nd rfl (Or.inl rfl) (pe_callB (cr_sum rfl) (by rfl) T.g_sum (by decide +kernel) (pa_cons (pe_lc (own := [("pair", 7)]) (g := (gName 7)) rfl sc_cost.nd (pi_tup (pv 2)) (blkOk_by (N := N_cost) (sc := defScope s_cost) (by decide +kernel)) (fun _ _ _ _ _ => pg_name (i := 7) sc_cost.nd rfl (Or.inl rfl)) (fun _ _ _ _ _ => pts_one (pt_cmpR (op_inK (K := K) rfl) (pe_ix (ix_tupK (K := K) rfl) (pv 7) pe_int (fun _ _ => rfl)) (pe_prop (pv 1) T.cls_Plan T.P_guards (ok_Plan_guards T) (hr.mono (by decide)) T.b_Plan_guards .nil pass0 rfl) (by rfl))) (fun _ _ _ _ _ => (pe_ix (ix_tupK (K := K) rfl) (pv 7) pe_int (fun _ _ => rfl)))) pa_nil)))
      (pss_cons (ps_set (i := 6) sc_cost.nd rfl (Or.inl rfl) (pe_op op_add (pv 6) (pe_callB (cr_sum rfl) (by rfl) T.g_sum (by decide +kernel) (pa_cons (pe_lc (own := [("pair", 7)]) (g := (gName 7)) rfl sc_cost.nd (pi_tup (pv 5)) (blkOk_by (N := N_cost) (sc := defScope s_cost) (by decide +kernel)) (fun _ _ _ _ _ => pg_name (i := 7) sc_cost.nd rfl (Or.inl rfl)) (fun _ _ _ _ _ => pts_one (pt_cmpR (op_inK (K := K) rfl) (pe_ix (ix_tupK (K := K) rfl) (pv 7) pe_int (fun _ _ => rfl)) (pe_prop (pv 1) T.cls_Plan T.P_own (ok_Plan_own T) (hr.mono (by decide)) T.b_Plan_own .nil pass0 rfl) (by rfl))) (fun _ _ _ _ _ => (pe_ix (ix_tupK (K := K) rfl) (pv 7) pe_int (fun _ _ => rfl)))) pa_nil))))
      (pss_cons (ps_if (pt_not (pt_val (pe_prop (pv 1) T.cls_Plan T.P_known (ok_Plan_known T) (hr.mono (by decide)) T.b_Plan_known .nil pass0 rfl))) (pss_one (ps_set (i := 6) sc_cost.nd rfl (Or.inl rfl) (pe_op op_add (pv 6) (pv 3)))) pss_nil)
      (pss_one (ps_ret (pe_ifExp (pt_val (pe_prop (pv 1) T.cls_Plan T.P_held (ok_Plan_held T) (hr.mono (by decide)) T.b_Plan_held .nil pass0 rfl)) (pe_op op_add (pv 6) (pv 4)) (pv 6)))))))), ?_⟩
    obtain ⟨a, x, y, rfl, ha, zx, zy⟩ := pr_at hz
    obtain ⟨an, yn, rfl, han, ln, hn⟩ := pairs_at2 zx
    obtain ⟨ao, yo, rfl, hao, lo2, ho⟩ := pairs_at2 zy
    rw [List.length_map] at ln lo2
    refine ⟨_, rfl, a, _, rfl, SqT.of ha, rfl, _, _, rfl, _, _, rfl, _, _, rfl, _, _, rfl, rfl, ?_⟩
    have step : ∀ (H2 H3 : Hp) (qs : List (Str × Int)) (ys : List V) (ss : List Str) (ag : Addr) (i : Nat) (x2 : V), Ex H H2 → (∀ (i : Nat) (x : V), ys[i]? = some x → ∃ q b u, (qs.map iP)[i]? = some q ∧ x = .ref b ∧ H b = some (.tup [.str q.1, u]) ∧ Dz p H u q.2) → ys[i]? = some x2 → ∃ (c : Addr) (z : Str) (j : Int), qs[i]? = some (z, j) ∧ x2 = .ref c ∧ H2 c = some (.tup [.str z, .int j]) := fun H2 H3 qs ys ss ag i x2 e hy hx => by
      obtain ⟨q, c, u, hq, rfl, hc, hu2⟩ := hy i x2 hx
      rw [List.getElem?_map] at hq
      obtain ⟨w', hw, rfl⟩ := Option.map_eq_some_iff.mp hq
      obtain ⟨z, j⟩ := w'
      obtain rfl := (hu2 : Dz p H u (.int j)).intI
      exact ⟨c, z, j, hw, rfl, e _ _ hc⟩
    refine ⟨_, rfl, an, rfl, ⟨_, SqT.of han⟩, fun D nD => lc_fy (walk_tup (xs := yn)) (fun i => decide ((ps[i]?.getD ("", 0)).1 ∈ gs)) (fun i => .int (ps[i]?.getD ("", 0)).2) (by omega) nD (fun H' e => SqT.of (e _ _ han)) (fun i x2 H3 Kq Kn hj hx2 e kq kn2 => ?_) (fun H1 e1 hD => ?_)⟩
    · obtain ⟨c, z, j, hq, rfl, hc⟩ := step H3 H3 ps yn gs 0 i x2 e hn hx2
      rw [hq] at kq kn2
      have hP3 := hP.ex e
      obtain ⟨dx, ag, aw, h1, sg, sw, -, -⟩ := hP3.got
      refine ⟨rfl, _, rfl, c, _, _, _, rfl, rfl, SqT.of hc, rfl, _, rfl, xp, dx, _, rfl, h1, xp, dx, _, _, _, _, rfl, h1, ag, _, rfl, .inr sg, rfl, flat_strs _, ?_⟩
      rw [inV_strs]
      by_cases m : z ∈ gs
      · exact ⟨_, rfl, HX.if_true (decide_eq_true m) ⟨_, rfl, c, _, _, _, rfl, rfl, SqT.of hc, rfl, kq (decide_eq_true m)⟩⟩
      · exact ⟨_, rfl, HX.if_false (decide_eq_false m) (kn2 (decide_eq_false m))⟩
    have c1 := flt_rng (fun q : Str × Int => decide (q.1 ∈ gs)) (fun q => V.int q.2) ps (fun i => decide ((ps[i]?.getD ("", 0)).1 ∈ gs)) (fun i => .int (ps[i]?.getD ("", 0)).2) (fun i a h => ⟨by rw [h]; rfl, by rw [h]; rfl⟩)
    rw [ln, c1] at hD
    have m1 : (ps.filter fun q => decide (q.1 ∈ gs)).map (fun q => V.int q.2) = ((ps.filter fun q => decide (q.1 ∈ gs)).map (·.2)).map V.int := by rw [List.map_map]; rfl
    rw [m1] at hD
    refine ⟨D, _, rfl, SqL.of hD, _, rfl, ?_⟩
    have hao1 := e1 _ _ hao
    refine ⟨_, rfl, ao, rfl, ⟨_, SqT.of hao1⟩, fun D2 nD2 => lc_fy (walk_tup (xs := yo)) (fun i => decide ((os[i]?.getD ("", 0)).1 ∈ ws)) (fun i => .int (os[i]?.getD ("", 0)).2) (by omega) nD2 (fun H' e => SqT.of (e _ _ hao1)) (fun i x2 H3 Kq Kn hj hx2 e kq kn2 => ?_) (fun H2 e2 hD2 => ?_)⟩
    · obtain ⟨c, z, j, hq, rfl, hc⟩ := step H3 H3 os yo ws 0 i x2 (e1.tr e) ho hx2
      rw [hq] at kq kn2
      have hP3 := hP.ex (e1.tr e)
      obtain ⟨dx, ag, aw, h1, sg, sw, -, -⟩ := hP3.got
      refine ⟨rfl, _, rfl, c, _, _, _, rfl, rfl, SqT.of hc, rfl, _, rfl, xp, dx, _, rfl, h1, xp, dx, _, _, _, _, rfl, h1, aw, _, rfl, .inr sw, rfl, flat_strs _, ?_⟩
      rw [inV_strs]
      by_cases m : z ∈ ws
      · exact ⟨_, rfl, HX.if_true (decide_eq_true m) ⟨_, rfl, c, _, _, _, rfl, rfl, SqT.of hc, rfl, kq (decide_eq_true m)⟩⟩
      · exact ⟨_, rfl, HX.if_false (decide_eq_false m) (kn2 (decide_eq_false m))⟩
    have c2 := flt_rng (fun q : Str × Int => decide (q.1 ∈ ws)) (fun q => V.int q.2) os (fun i => decide ((os[i]?.getD ("", 0)).1 ∈ ws)) (fun i => .int (os[i]?.getD ("", 0)).2) (fun i a h => ⟨by rw [h]; rfl, by rw [h]; rfl⟩)
    rw [lo2, c2] at hD2
    have m2 : (os.filter fun q => decide (q.1 ∈ ws)).map (fun q => V.int q.2) = ((os.filter fun q => decide (q.1 ∈ ws)).map (·.2)).map V.int := by rw [List.map_map]; rfl
    rw [m2] at hD2
    refine ⟨D2, _, rfl, SqL.of hD2, _, _, rfl, rfl, ?_⟩
    have e12 := e1.tr e2
    have k := k _ e12
    obtain ⟨dx, ag, aw, h1, sg, sw, -, -⟩ := (hP.ex e12).got
    unfold costI costL at k
    refine ⟨_, rfl, xp, dx, _, rfl, h1, xp, dx, _, _, _, _, rfl, h1, _, rfl, ?_⟩
    cases kn with
    | true =>
      refine HX.if_false rfl ?_
      refine ⟨_, rfl, xp, dx, _, rfl, h1, xp, dx, _, _, _, _, rfl, h1, _, rfl, ?_⟩
      cases he with
      | true => exact HX.if_true rfl ⟨_, rfl, _, rfl, _, _, rfl, rfl, by rw [if_pos rfl, if_pos rfl, Int.add_zero] at k; exact k⟩
      | false => exact HX.if_false rfl ⟨_, rfl, by rw [if_pos rfl, if_neg (by decide), Int.add_zero, Int.add_zero] at k; exact k⟩
    | false =>
      refine HX.if_true rfl ?_
      refine ⟨_, rfl, _, rfl, _, _, rfl, rfl, ?_⟩
      refine ⟨_, rfl, xp, dx, _, rfl, h1, xp, dx, _, _, _, _, rfl, h1, _, rfl, ?_⟩
      cases he with
      | true => exact HX.if_true rfl ⟨_, rfl, _, rfl, _, _, rfl, rfl, by rw [if_neg (by decide), if_pos rfl] at k; exact k⟩
      | false => exact HX.if_false rfl ⟨_, rfl, by rw [if_neg (by decide), if_neg (by decide), Int.add_zero] at k; exact k⟩
theorem ok_price_of (T : Txt K mg A) : FnOk P w K mg base (L2.CX P w) 6 A.f_price_of A.d_price_of ["setup", "prices", "plan"] (spPrice K A) := by
  refine T.F_price_of.okX sc_price_of (fun vs H Q E h => ?_) (fun cdv A0 outer s H vs Q E hr h => ?_)
  · obtain ⟨_, _, _, _, _, _, _, _, _, _, rfl, _⟩ := h
    rfl
  · have hu := hu_of hr
    obtain ⟨p, x, xp, v, d, ns, gs, kn, he, ws, rfl, hS, hz, hw, hP, kE, kQ⟩ := h
    refine ⟨_, (pss_cons (ps_expr (pe_call (ok_check_prices T) (hr.mono (by decide)) (by rfl) T.m_check_prices T.F_check_prices.kp T.b_check_prices .nil (passes_call (takes_of rfl rfl rfl rfl) (fun _ _ _ _ h => h)) (pa_cons (pv 0) (pa_cons (pv 1) pa_nil))))
      (pss_cons (ps_asg (pv 1) (pg_tup rfl (pgs_cons (pg_name (i := 3) sc_price_of.nd rfl (Or.inl rfl)) (pgs_cons (pg_name (i := 4) sc_price_of.nd rfl (Or.inl rfl)) (pgs_cons (pg_name (i := 4) sc_price_of.nd rfl (Or.inl rfl)) (pgs_cons (pg_name (i := 5) sc_price_of.nd rfl (Or.inl rfl)) pgs_nil))))))
      (pss_cons (ps_if (PW.pt (pw_or (pt_not (pt_val (pe_call (ok_are_among T) (hr.mono (by decide)) (by rfl) T.m_are_among T.F_are_among.kp T.b_are_among .nil pass0 (pa_cons (pe_prop (pv 2) T.cls_Plan T.P_guards (ok_Plan_guards T) (hr.mono (by decide)) T.b_Plan_guards .nil pass0 rfl) (pa_cons (pv 3) pa_nil))))) (pw_or1 (pt_not (pt_val (pe_call (ok_are_among T) (hr.mono (by decide)) (by rfl) T.m_are_among T.F_are_among.kp T.b_are_among .nil pass0 (pa_cons (pe_prop (pv 2) T.cls_Plan T.P_own (ok_Plan_own T) (hr.mono (by decide)) T.b_Plan_own .nil pass0 rfl) (pa_cons (pv 5) pa_nil)))))))) (pss_one (ps_raise rfl (takes_of rfl rfl rfl rfl) (pmk_oex T.E_BadPlan.oex T.E_BadPlan.ini T.E_BadPlan.fn (ok_BadPlan_init T) (hr.mono (by decide)) T.E_BadPlan.b .nil pass0 (by rfl) T.m_BadPlan (pa_cons (pv 2) pa_nil)))) pss_nil)
      (pss_one (ps_ret (pe_call (ok_cost T) (hr.mono (by decide)) (by rfl) T.m_cost T.F_cost.kp T.b_cost .nil pass0 (pa_cons (pv 1) (pa_cons (pv 2) pa_nil)))))))), ?_⟩
    refine ⟨_, rfl, _, rfl, p, x, v, d, ns, rfl, hS, hz, hw, kE, fun h1 H1 e1 => ?_⟩
    obtain ⟨ps, b, h, os, rfl, pk, ok, -, -, -⟩ := prices_is h1
    obtain ⟨k1, k2⟩ := kQ h1 ps b h os rfl
    obtain ⟨a, x0, y0, rfl, ha, zx, zy⟩ := pr_at (hz.ex e1)
    have lp := pk.l; have lo := ok.l
    refine ⟨_, rfl, a, _, rfl, SqT.of ha, rfl, _, _, rfl, _, _, rfl, _, _, rfl, _, _, rfl, rfl, ?_⟩
    have hP1 := hP.ex e1
    obtain ⟨dx, ag, aw, g1, sg, sw, l6, l3⟩ := hP1.got
    refine ⟨_, rfl, xp, dx, _, rfl, g1, xp, dx, _, _, _, _, rfl, g1, _, rfl, p, ag, x0, gs, ps.map iP, rfl, sg, pairs_at2 zx, by omega, by rw [List.length_map]; omega, fun H2 e2 => ⟨_, rfl, ?_⟩⟩
    rw [fst_iP]
    have e12 := e1.tr e2
    unfold amongB at k1 k2
    by_cases c1 : (gs.all fun z => decide (z ∈ ps.map (·.1))) = true
    rotate_left
    · have c1 := Bool.eq_false_iff.mpr c1
      rw [c1, Bool.false_and] at k1
      refine HX.if_true (by rw [c1]; rfl) ?_
      refine ⟨_, rfl, (by show 1 ≤ 1000; decide), fun x2 nx2 => ⟨x2, _, rfl, upd_same, fun dx2 ndx ne => ⟨rfl, dx2, _, upd_same, (by rw [upd_ne ne, upd_same]), ?_, ?_⟩⟩⟩
      · rw [upd_ne ne] at ndx
        exact ndx
      · rw [upd_ne ne] at ndx
        refine (fun eX => k1 rfl dx2 _ (e12.tr eX) upd_same) (fun c o e => ?_)
        have cx := ne_of_none e nx2
        have cd := ne_of_none e ndx
        rw [upd_ne cd, del_ne cx, upd_ne cx, upd_ne cd, upd_ne cx]
        exact e
    rw [c1, Bool.true_and] at k1 k2
    refine HX.if_false (by rw [c1]; rfl) ?_
    have hP2 := hP1.ex e2
    obtain ⟨dx, ag, aw, g1, sg, sw, l6, l3⟩ := hP2.got
    refine ⟨_, rfl, xp, dx, _, rfl, g1, xp, dx, _, _, _, _, rfl, g1, _, rfl, p, aw, y0, ws, os.map iP, rfl, sw, pairs_at2 (zy.ex e2), by omega, by rw [List.length_map]; omega, fun H3 e3 => ⟨_, rfl, ?_⟩⟩
    rw [fst_iP]
    have e13 := e12.tr e3
    by_cases c2 : (ws.all fun z => decide (z ∈ os.map (·.1))) = true
    rotate_left
    · have c2 := Bool.eq_false_iff.mpr c2
      refine HX.if_true (by rw [c2]; rfl) ?_
      refine ⟨_, rfl, (by show 1 ≤ 1000; decide), fun x2 nx2 => ⟨x2, _, rfl, upd_same, fun dx2 ndx ne => ⟨rfl, dx2, _, upd_same, (by rw [upd_ne ne, upd_same]), ?_, ?_⟩⟩⟩
      · rw [upd_ne ne] at ndx
        exact ndx
      · rw [upd_ne ne] at ndx
        refine (fun eX => k1 c2 dx2 _ (e13.tr eX) upd_same) (fun c o e => ?_)
        have cx := ne_of_none e nx2
        have cd := ne_of_none e ndx
        rw [upd_ne cd, del_ne cx, upd_ne cx, upd_ne cd, upd_ne cx]
        exact e
    refine HX.if_false (by rw [c2]; rfl) ?_
    exact ⟨_, rfl, _, rfl, p, xp, _, ps, os, b, h, gs, kn, he, ws, rfl, hz.ex e13, hP.ex e13, by omega, by omega, fun H4 e4 => k2 c2 _ (e13.tr e4)⟩
end
end K50
set_option Elab.async false
set_option linter.all false
set_option maxRecDepth 100000
set_option maxHeartbeats 4400000
namespace K50
open PySem PySem.Spec PyProof.Rows L2 HX
open PySem.W (Frag)




theorem at_ints {ns : List Int} {i : Int} (h0 : 0 ≤ i) (h1 : i < (ns.length : Int)) : ∃ z : Int, atI (ns.map V.int) i = some (.int z) := by
  obtain ⟨jj, rfl⟩ := Int.eq_ofNat_of_zero_le h0
  have hj : jj < ns.length := by omega
  exact ⟨ns[jj], atI_nat (by rw [List.getElem?_map, List.getElem?_eq_getElem hj]; rfl)⟩
/-- a pot of draws stands at p; at most n were mixed -/
def PotAt (H : Hp) (p : Addr) (n : Int) : Prop := ∃ a b c : Int, H p = some (.lst [.int a, .int b, .int c]) ∧ 0 ≤ a ∧ 0 ≤ b ∧ b < 2305843009213693921 ∧ 0 ≤ c ∧ c ≤ n
theorem PotAt.mono {H : Hp} {p : Addr} {n m : Int} (h : PotAt H p n) (e : n ≤ m) : PotAt H p m := let ⟨a, b, c, h0, h1, h2, h3, h4, h5⟩ := h; ⟨a, b, c, h0, h1, h2, h3, h4, Int.le_trans h5 e⟩
theorem PotAt.ex {H H' : Hp} {p : Addr} {n : Int} (h : PotAt H p n) (e : Ex H H') : PotAt H' p n := let ⟨a, b, c, h0, hr⟩ := h; ⟨a, b, c, e _ _ h0, hr⟩
theorem PotAt.up {H : Hp} {p q : Addr} {o : HO} {N : Int} (h : PotAt H p N) (ne : p ≠ q) : PotAt (upd H q o) p N := let ⟨a, b, c, h0, hr⟩ := h; ⟨a, b, c, by rw [upd_ne ne]; exact h0, hr⟩
theorem pot_none {p l : Addr} {H : Hp} {N : Int} (q : PotAt H p N) (h : H l = none) : l ≠ p := by
  obtain ⟨a, b, c, z2, _⟩ := q
  exact Ne.symm (ne_of_none z2 h)
def spPot (K : Frag) : Sp := fun vs H Q _ => ∃ (a : Addr) (ns : List Int) (i : Int), vs = [.ref a, .int i] ∧ SqL K H a (ns.map V.int) ∧ 0 ≤ i ∧ i ≤ 3 ∧ ∀ (p : Addr) (H' : Hp), H p = none → Ex H H' → PotAt H' p 0 → Q (.ref p) H'
def spTake : Sp := fun vs H Q _ => ∃ (p : Addr) (n N : Int), vs = [.ref p, .int n] ∧ PotAt H p N ∧ 0 < n ∧ n < 1000 ∧ N ≤ 100000 ∧ ∀ (d : Int) (H' : Hp), 0 ≤ d → d < n → XB p H H' → PotAt H' p (N + 1) → Q (.int d) H'
/-- an item of a list is drawn -/
def spOf (K : Frag) : Sp := fun vs H Q _ => ∃ (p l : Addr) (xs : List V) (N : Int), vs = [.ref p, .ref l] ∧ PotAt H p N ∧ SqL K H l xs ∧ l ≠ p ∧ 0 < xs.length ∧ xs.length < 1000 ∧ N ≤ 100000 ∧
  ∀ (i : Nat) (v : V) (H' : Hp), xs[i]? = some v → XB p H H' → PotAt H' p (N + 1) → Q v H'
theorem sql_xb {K : Frag} {H H' : Hp} {a p : Addr} {xs : List V} (h : SqL K H a xs) (n : a ≠ p) (e : XB p H H') : SqL K H' a xs :=
  h.elim (fun z => z.elim (fun y => .inl (.inl (e _ _ n y))) fun ⟨o, y⟩ => .inl (.inr ⟨o, e _ _ n y⟩)) .inr
theorem sql_ex {K : Frag} {H H' : Hp} {a : Addr} {xs : List V} (h : SqL K H a xs) (e : Ex H H') : SqL K H' a xs :=
  h.elim (fun z => z.elim (fun y => .inl (.inl (e _ _ y))) fun ⟨o, y⟩ => .inl (.inr ⟨o, e _ _ y⟩)) .inr
theorem ite_b (b : Bool) : -(2 ^ 64) < (if b = true then (1 : Int) else 0) ∧ (if b = true then (1 : Int) else 0) < 2 ^ 64 := by cases b <;> decide
theorem ite_n (b : Bool) : 0 ≤ (if b = true then (1 : Int) else 0) := by cases b <;> decide
theorem at_prime (i : Int) : ∃ q : Int, atI [V.int 2147483647, .int 2147483629, .int 2147483587, .int 2147483579, .int 2147483563] (i % 5) = some (.int q) ∧ 0 < q ∧ q ≤ 2147483647 := by
  have h : i % 5 = 0 ∨ i % 5 = 1 ∨ i % 5 = 2 ∨ i % 5 = 3 ∨ i % 5 = 4 := by omega
  rcases h with h | h | h | h | h <;> rw [h]
  · exact ⟨2147483647, rfl, by decide, by decide⟩
  · exact ⟨2147483629, rfl, by decide, by decide⟩
  · exact ⟨2147483587, rfl, by decide, by decide⟩
  · exact ⟨2147483579, rfl, by decide, by decide⟩
  · exact ⟨2147483563, rfl, by decide, by decide⟩
theorem sq_le {c : Int} {m : Int} (h0 : 0 ≤ c) (h1 : c ≤ 1000000) (hm : 0 ≤ m) : 0 ≤ m * c * c ∧ m * c * c ≤ m * 1000000 * 1000000 := by
  have h2 : 0 ≤ m * c := Int.mul_nonneg hm h0
  have h3 : m * c ≤ m * 1000000 := Int.mul_le_mul_of_nonneg_left h1 hm
  exact ⟨Int.mul_nonneg h2 h0, Int.mul_le_mul h3 h1 h0 (by omega)⟩
theorem Ex.mu {H H' : Hp} {p : Addr} {o : HO} (e : Ex H H') (h : H p = none) : Ex H (upd H' p o) := fun a u ha => by
  rw [upd_ne (ne_of_none ha h)]
  exact e a u ha
theorem XB.mu {H H' : Hp} {p q : Addr} {o : HO} (e : XB p H H') (h : H q = none) : XB p H (upd H' q o) := fun a u n ha => by
  rw [upd_ne (ne_of_none ha h)]
  exact e a u n ha
theorem ex_xb {H H1 H2 : Hp} {p : Addr} (e : Ex H H1) (x : XB p H1 H2) (h : H p = none) : Ex H H2 := fun c o z => x c o (ne_of_none z h) (e c o z)
theorem rep_next {i : Nat} : List.replicate i (V.bl true) ++ [V.bl true] = List.replicate (i + 1) (V.bl true) := by rw [List.replicate_succ']
theorem two_b (b c : Bool) : 0 ≤ 1 + (if b = true then (1 : Int) else 0) + (if c = true then 1 else 0) ∧ 1 + (if b = true then (1 : Int) else 0) + (if c = true then 1 else 0) ≤ 3 := by cases b <;> cases c <;> decide


theorem none_of_xb {p q : Addr} {H H' : Hp} (e : XB p H H') (n : q ≠ p) (h : H' q = none) : H q = none := by
  cases z : H q with
  | none => rfl
  | some u => exact absurd (e _ _ n z) (by rw [h]; simp)
def spNamesL : Sp := fun vs H Q _ => ∃ (p l : Addr) (ss : List Str) (m : Nat) (N : Int), vs = [.ref p, .ref l, .int m] ∧ PotAt H p N ∧ N ≤ 90000 ∧ H l = some (.lst (ss.map V.str)) ∧ l ≠ p ∧ ss.length ≤ 20 ∧ m ≤ 20 ∧
  ∀ (q : Addr) (gs : List Str) (H' : Hp), XB p H H' → PotAt H' p (N + 20) → H' q = some (.tup (gs.map V.str)) → gs.Sublist ss → gs.length ≤ m → Q (.ref q) H'
theorem sub_next {ss gs : List Str} {i : Nat} {z : Str} (h : gs.Sublist (ss.take i)) (hz : ss[i]? = some z) : (gs ++ [z]).Sublist (ss.take (i + 1)) := by
  rw [List.take_add_one, hz]
  exact h.append (List.Sublist.refl _)
theorem sub_stay {ss gs : List Str} {i : Nat} (h : gs.Sublist (ss.take i)) : gs.Sublist (ss.take (i + 1)) := h.trans (by rw [List.take_add_one]; exact List.sublist_append_left _ _)
theorem pairs_ofL {α : Type} {P : α → Prop} {f : Str → α → PyData} : ∀ {ss : List Str} {ds : List PyData}, ds.length = ss.length → (∀ (i : Nat) (d : PyData), ds[i]? = some d → ∃ s z, ss[i]? = some s ∧ d = f s z ∧ P z) → ∃ l : List (Str × α), ds = l.map (fun q => f q.1 q.2) ∧ l.map (·.1) = ss ∧ ∀ q ∈ l, P q.2
  | [], [], _, _ => ⟨[], rfl, rfl, fun q h => by cases h⟩
  | _ :: _, [], h, _ => by simp at h
  | [], _ :: _, h, _ => by simp at h
  | s :: ss, d :: ds, h, g => by
    obtain ⟨s', z, hs, rfl, hz⟩ := g 0 d rfl
    cases hs
    obtain ⟨l, rfl, rfl, hl⟩ := pairs_ofL (ss := ss) (ds := ds) (by simpa using h) fun i d e => g (i + 1) d (by simpa using e)
    exact ⟨(s, z) :: l, rfl, rfl, fun q hq => (List.mem_cons.mp hq).elim (fun e => e ▸ hz) (hl q)⟩

def spPr : Sp := fun vs H Q _ => ∃ (p a : Addr) (gs : List Str) (N : Int), vs = [.ref p, .ref a] ∧ PotAt H p N ∧ N ≤ 90000 ∧ H a = some (.tup (gs.map V.str)) ∧ gs.length ≤ 6 ∧
  ∀ (v : V) (ps : List (Str × Int)) (H' : Hp), XB p H H' → PotAt H' p (N + 6) → Tz H' v (.tuple (ps.map iD)) → ps.map (·.1) = gs → (∀ q ∈ ps, 0 ≤ q.2 ∧ q.2 < 10) → Q v H'
theorem five_at {i : Nat} {v : V} (h : ([V.int 0, .int 1, .int 2, .int 5, .int 9] : List V)[i]? = some v) : ∃ z : Int, v = .int z ∧ 0 ≤ z ∧ z < 10 := by
  match i, h with
  | 0, h => cases h; exact ⟨0, rfl, by decide, by decide⟩
  | 1, h => cases h; exact ⟨1, rfl, by decide, by decide⟩
  | 2, h => cases h; exact ⟨2, rfl, by decide, by decide⟩
  | 3, h => cases h; exact ⟨5, rfl, by decide, by decide⟩
  | 4, h => cases h; exact ⟨9, rfl, by decide, by decide⟩
  | i + 5, h => simp at h

section
variable {P : Program} {w : World} {K : Frag} {mg : Str → Option Value} {base : Heap} {A : Ad}

theorem ok_pot_of (T : Txt K mg A) : FnOk P w K mg base CX0 1 A.f_pot_of A.d_pot_of ["_law_script", "_law_k"] (spPot K) := by
  refine T.F_pot_of.ok sc_pot_of (fun vs H Q E h => ?_) (fun cdv A0 outer s H vs Q E hr h => ?_)
  · obtain ⟨_, _, _, rfl, _⟩ := h
    rfl
  · have hu := hu_of hr
    obtain ⟨a, ns, i, rfl, hS, h0, h3, k⟩ := h
    refine ⟨_, (pss_cons (ps_set (i := 2) sc_pot_of.nd rfl (Or.inl rfl) (pe_ifExp (pt_cmpR op_lt (pv 1) (pe_callB call_len_seq (by rfl) T.g_len (by decide +kernel) (pa_cons (pv 0) pa_nil)) (nomark _)) (pe_ix ix_list (pv 0) (pv 1) (fun _ _ => rfl)) (pe_op op_add (pe_op op_mul pe_int (pv 1)) pe_int)))
      (pss_cons (ps_set (i := 3) sc_pot_of.nd rfl (Or.inl rfl) (pe_op op_mul (pe_op op_mod (pe_callTy call_int1 (by rfl) T.g_int (by decide +kernel) (pa_cons (pe_callB call_abs (by rfl) T.g_abs (by decide +kernel) (pa_cons (pv 2) pa_nil)) pa_nil)) (pe_op op_powW (pe_op op_pow pe_int pe_int) pe_int)) (pe_callTy call_int1 (by rfl) T.g_int (by decide +kernel) (pa_cons (pe_cmpR op_ge (pe_callB call_abs (by rfl) T.g_abs (by decide +kernel) (pa_cons (pv 2) pa_nil)) (pe_op op_pow pe_int pe_int) (nomark _)) pa_nil))))
      (pss_one (ps_ret (pe_lst (pa_cons (pv 3) (pa_cons (pe_op op_mod (pe_callTy call_int1 (by rfl) T.g_int (by decide +kernel) (pa_cons (pe_op op_add (pe_op op_add (pe_op op_mul (pe_op op_mod (pe_callTy call_int1 (by rfl) T.g_int (by decide +kernel) (pa_cons (pv 2) pa_nil)) pe_int) pe_int) (pe_op op_mul (pe_op op_mul pe_int (pv 1)) (pv 1))) pe_int) pa_nil)) pe_int) (pa_cons pe_int pa_nil)))))))), ?_⟩
    refine ⟨_, rfl, _, rfl, a, _, rfl, .inl hS, _, _, rfl, rfl, _, rfl, if_dec (fun h1 => ?_) (fun h1 => ?_)⟩
    · rw [List.length_map] at h1
      obtain ⟨z, hz⟩ := at_ints (ns := ns) h0 h1
      refine ⟨_, rfl, _, rfl, a, _, _, _, rfl, rfl, hS, hz, ?_⟩
      refine ⟨_, rfl, _, rfl, .inl ⟨_, rfl, ?_⟩⟩
      refine ⟨_, _, rfl, rfl, (by show CPow _ _; exact ⟨by decide, by decide, by decide⟩), _, _, rfl, rfl, (by show CPowW _ _; exact ⟨by decide +kernel, by decide, by decide +kernel⟩), _, _, rfl, rfl, (by show (0 : Int) < _; decide +kernel), _, rfl, _, rfl, _, _, rfl, rfl, (by show CPow _ _; exact ⟨by decide, by decide, by decide⟩), _, _, rfl, rfl, .inr ⟨_, rfl, ?_⟩⟩
      refine ⟨_, _, rfl, rfl, (.inr (ite_b _)), ?_⟩
      refine ⟨_, rfl, ?_⟩
      refine ⟨_, rfl, .inl ⟨_, rfl, ?_⟩⟩
      refine ⟨_, _, rfl, rfl, (by show (0 : Int) < _; decide), _, _, rfl, rfl, (.inl ⟨by omega, by omega⟩), _, rfl, _, _, rfl, rfl, (.inl ⟨by decide, by decide⟩), _, rfl, _, _, rfl, rfl, (.inl ⟨by omega, by omega⟩), _, _, rfl, rfl, _, _, rfl, rfl, .inl ⟨_, rfl, ?_⟩⟩
      refine ⟨_, _, rfl, rfl, (by show (0 : Int) < _; decide), ?_⟩
      refine ⟨(by show 3 ≤ sizeLine; decide), fun p hp => k p _ hp (Ex.nw hp) ⟨_, _, _, upd_same, Int.mul_nonneg (Int.emod_nonneg _ (by decide +kernel)) (ite_n _), Int.emod_nonneg _ (by decide), Int.emod_lt_of_pos _ (by decide), by decide, by decide⟩⟩
    · refine ⟨_, rfl, _, _, rfl, rfl, .inl ⟨by decide, by decide⟩, _, _, rfl, rfl, ?_⟩
      refine ⟨_, rfl, _, rfl, .inl ⟨_, rfl, ?_⟩⟩
      refine ⟨_, _, rfl, rfl, (by show CPow _ _; exact ⟨by decide, by decide, by decide⟩), _, _, rfl, rfl, (by show CPowW _ _; exact ⟨by decide +kernel, by decide, by decide +kernel⟩), _, _, rfl, rfl, (by show (0 : Int) < _; decide +kernel), _, rfl, _, rfl, _, _, rfl, rfl, (by show CPow _ _; exact ⟨by decide, by decide, by decide⟩), _, _, rfl, rfl, .inr ⟨_, rfl, ?_⟩⟩
      refine ⟨_, _, rfl, rfl, (.inr (ite_b _)), ?_⟩
      refine ⟨_, rfl, ?_⟩
      refine ⟨_, rfl, .inl ⟨_, rfl, ?_⟩⟩
      refine ⟨_, _, rfl, rfl, (by show (0 : Int) < _; decide), _, _, rfl, rfl, (.inl ⟨by omega, by omega⟩), _, rfl, _, _, rfl, rfl, (.inl ⟨by decide, by decide⟩), _, rfl, _, _, rfl, rfl, (.inl ⟨by omega, by omega⟩), _, _, rfl, rfl, _, _, rfl, rfl, .inl ⟨_, rfl, ?_⟩⟩
      refine ⟨_, _, rfl, rfl, (by show (0 : Int) < _; decide), ?_⟩
      refine ⟨(by show 3 ≤ sizeLine; decide), fun p hp => k p _ hp (Ex.nw hp) ⟨_, _, _, upd_same, Int.mul_nonneg (Int.emod_nonneg _ (by decide +kernel)) (ite_n _), Int.emod_nonneg _ (by decide), Int.emod_lt_of_pos _ (by decide), by decide, by decide⟩⟩
theorem ok_take (T : Txt K mg A) : FnOk P w K mg base CX0 1 A.f_take A.d_take ["_law_pot", "_law_many"] (spTake) := by
  refine T.F_take.ok sc_take (fun vs H Q E h => ?_) (fun cdv A0 outer s H vs Q E hr h => ?_)
  · obtain ⟨_, _, _, rfl, _⟩ := h
    rfl
  · have hu := hu_of hr
    obtain ⟨p, n, N, rfl, ⟨a, b, c, hp, ha, hb, hb2, hc, hc2⟩, hn, hn2, hN, k⟩ := h
    refine ⟨_, (pss_cons (ps_if (pt_cmpR op_gt (pe_ix ix_list (pv 0) pe_int (fun _ _ => rfl)) pe_int (nomark _)) (pss_cons (ps_set (i := 2) sc_take.nd rfl (Or.inl rfl) (pe_op op_mod (pe_callTy call_int1 (by rfl) T.g_int (by decide +kernel) (pa_cons (pe_ix ix_list (pv 0) pe_int (fun _ _ => rfl)) pa_nil)) (pv 1)))
      (pss_cons (ps_asg (pe_op op_fdiv (pe_ix ix_list (pv 0) pe_int (fun _ _ => rfl)) (pv 1)) (pg_sub (pv 0) pe_int set_list))
      (pss_one (ps_ret (pv 2))))) pss_nil)
      (pss_cons (ps_asg (pe_op op_add (pe_ix ix_list (pv 0) pe_int (fun _ _ => rfl)) pe_int) (pg_sub (pv 0) pe_int set_list))
      (pss_cons (ps_set (i := 3) sc_take.nd rfl (Or.inl rfl) (pe_ix ix_list (pe_lst (pa_cons pe_int (pa_cons pe_int (pa_cons pe_int (pa_cons pe_int (pa_cons pe_int pa_nil)))))) (pe_op op_mod (pe_callTy call_int1 (by rfl) T.g_int (by decide +kernel) (pa_cons (pe_ix ix_list (pv 0) pe_int (fun _ _ => rfl)) pa_nil)) pe_int) (fun _ _ => rfl)))
      (pss_cons (ps_set (i := 4) sc_take.nd rfl (Or.inl rfl) (pe_op op_mod (pe_callTy call_int1 (by rfl) T.g_int (by decide +kernel) (pa_cons (pe_op op_pow (pe_callTy call_int1 (by rfl) T.g_int (by decide +kernel) (pa_cons (pe_op op_add (pe_op op_add (pe_ix ix_list (pv 0) pe_int (fun _ _ => rfl)) (pe_op op_mul (pe_op op_mul pe_int (pe_ix ix_list (pv 0) pe_int (fun _ _ => rfl))) (pe_ix ix_list (pv 0) pe_int (fun _ _ => rfl)))) pe_int) pa_nil)) pe_int) pa_nil)) (pv 3)))
      (pss_cons (ps_set (i := 4) sc_take.nd rfl (Or.inl rfl) (pe_op op_mod (pe_callTy call_int1 (by rfl) T.g_int (by decide +kernel) (pa_cons (pe_op op_mul (pv 4) (pe_op op_add (pe_op op_mod (pe_callTy call_int1 (by rfl) T.g_int (by decide +kernel) (pa_cons (pv 4) pa_nil)) pe_int) (pe_op op_mul pe_int (pe_ix ix_list (pv 0) pe_int (fun _ _ => rfl))))) pa_nil)) pe_int))
      (pss_one (ps_ret (pe_op op_mod (pe_callTy call_int1 (by rfl) T.g_int (by decide +kernel) (pa_cons (pe_op op_fdiv (pe_callTy call_int1 (by rfl) T.g_int (by decide +kernel) (pa_cons (pv 4) pa_nil)) pe_int) pa_nil)) (pv 1))))))))), ?_⟩
    refine ⟨_, rfl, p, _, _, _, rfl, rfl, SqL.of hp, rfl, _, _, rfl, rfl, _, rfl, if_dec (fun h1 => ?_) (fun h1 => ?_)⟩
    · refine ⟨_, rfl, p, _, _, _, rfl, rfl, SqL.of hp, rfl, .inl ⟨_, rfl, _, rfl, _, _, rfl, rfl, (by show (0 : Int) < n; omega), ?_⟩⟩
      refine ⟨_, rfl, p, _, _, _, rfl, rfl, SqL.of hp, rfl, _, rfl, _, _, rfl, rfl, ⟨hn, by omega⟩, _, rfl, p, _, _, _, rfl, rfl, hp, rfl, ?_⟩
      refine ⟨_, rfl, k _ _ (Int.emod_nonneg _ (by omega)) (Int.emod_lt_of_pos _ hn) XB.wr ⟨_, _, _, upd_same, Int.ediv_nonneg ha (by omega), hb, hb2, hc, by omega⟩⟩
    · refine ⟨_, rfl, p, _, _, _, rfl, rfl, SqL.of hp, rfl, _, _, rfl, rfl, _, rfl, p, _, _, _, rfl, rfl, hp, rfl, ?_⟩
      refine ⟨(by show 5 ≤ sizeLine; decide), fun l hl => ?_⟩
      have hp1 : (upd H p (.lst [.int a, .int b, .int (c + 1)])) p = some (.lst [.int a, .int b, .int (c + 1)]) := upd_same
      have npl : p ≠ l := ne_of_none hp1 hl
      obtain ⟨q, hq, hq0, hq1⟩ := at_prime (c + 1)
      have hp2 : (upd (upd H p (.lst [.int a, .int b, .int (c + 1)])) l (.lst [V.int 2147483647, .int 2147483629, .int 2147483587, .int 2147483579, .int 2147483563])) p = some (.lst [.int a, .int b, .int (c + 1)]) := by rw [upd_ne npl]; exact hp1
      have hl2 : (upd (upd H p (.lst [.int a, .int b, .int (c + 1)])) l (.lst [V.int 2147483647, .int 2147483629, .int 2147483587, .int 2147483579, .int 2147483563])) l = some (.lst [V.int 2147483647, .int 2147483629, .int 2147483587, .int 2147483579, .int 2147483563]) := upd_same
      have hx2 : XB p H (upd (upd H p (.lst [.int a, .int b, .int (c + 1)])) l (.lst [V.int 2147483647, .int 2147483629, .int 2147483587, .int 2147483579, .int 2147483563])) := XB.tr XB.wr (Ex.xb (Ex.nw hl))
      refine ⟨_, rfl, p, _, _, _, rfl, rfl, SqL.of hp2, rfl, .inl ⟨_, rfl, _, _, rfl, rfl, (by show (0 : Int) < _; decide), l, _, _, _, rfl, rfl, SqL.of hl2, hq, ?_⟩⟩
      obtain ⟨s0, s1⟩ := sq_le (c := c + 1) (m := 65557) (by omega) (by omega) (by decide)
      refine ⟨_, rfl, p, _, _, _, rfl, rfl, SqL.of hp2, rfl, _, rfl, p, _, _, _, rfl, rfl, SqL.of hp2, rfl, _, _, rfl, rfl, (.inl ⟨by decide, by decide⟩), _, rfl, p, _, _, _, rfl, rfl, SqL.of hp2, rfl, _, _, rfl, rfl, (.inl ⟨by omega, by omega⟩), _, _, rfl, rfl, _, _, rfl, rfl, .inl ⟨_, rfl, ?_⟩⟩
      refine ⟨_, _, rfl, rfl, (by show CPow _ _; exact ⟨by decide, by decide, by omega⟩), .inl ⟨_, rfl, ?_⟩⟩
      refine ⟨_, rfl, _, _, rfl, rfl, (by show (0 : Int) < q; exact hq0), ?_⟩
      have m0 : ∀ z : Int, -(2 ^ 64) < z % q ∧ z % q < 2 ^ 64 := fun z => ⟨Int.lt_of_lt_of_le (by decide) (Int.emod_nonneg z (by omega)), Int.lt_of_lt_of_le (Int.lt_of_lt_of_le (Int.emod_lt_of_pos z hq0) hq1) (by decide)⟩
      refine ⟨_, rfl, _, rfl, .inl ⟨_, rfl, ?_⟩⟩
      refine ⟨_, _, rfl, rfl, (by show (0 : Int) < _; decide), _, rfl, p, _, _, _, rfl, rfl, SqL.of hp2, rfl, _, _, rfl, rfl, (.inl ⟨by decide, by decide⟩), _, _, rfl, rfl, _, _, rfl, rfl, (.inl (m0 _)), .inl ⟨_, rfl, ?_⟩⟩
      refine ⟨_, _, rfl, rfl, (by show (0 : Int) < _; decide), ?_⟩
      refine ⟨_, rfl, .inl ⟨_, rfl, ?_⟩⟩
      refine ⟨_, _, rfl, rfl, ⟨by decide, by decide⟩, .inl ⟨_, rfl, ?_⟩⟩
      refine ⟨_, rfl, _, _, rfl, rfl, (by show (0 : Int) < n; exact hn), ?_⟩
      exact k _ _ (Int.emod_nonneg _ (by omega)) (Int.emod_lt_of_pos _ hn) hx2 ⟨_, _, _, hp2, ha, hb, hb2, by omega, by omega⟩
theorem ok_of (T : Txt K mg A) : FnOk P w K mg base CX0 2 A.f_of A.d_of ["_law_pot", "_law_some"] (spOf K) := by
  refine T.F_of.ok sc_of (fun vs H Q E h => ?_) (fun cdv A0 outer s H vs Q E hr h => ?_)
  · obtain ⟨_, _, _, _, rfl, _⟩ := h
    rfl
  · have hu := hu_of hr
    obtain ⟨p, l, xs, N, rfl, hp, hl, nlp, h0, h1, hN, k⟩ := h
    refine ⟨_, (pss_one (ps_ret (pe_ix ix_list (pv 1) (pe_call (ok_take T) (hr.mono (by decide)) (by rfl) T.m_take T.F_take.kp T.b_take .nil pass0 (pa_cons (pv 0) (pa_cons (pe_callB call_len_seq (by rfl) T.g_len (by decide +kernel) (pa_cons (pv 1) pa_nil)) pa_nil))) (fun _ _ => rfl)))), ?_⟩
    refine ⟨_, rfl, _, rfl, _, rfl, l, _, rfl, .inl hl, p, _, N, rfl, hp, by omega, by omega, hN, fun d H1 d0 d1 e1 hp1 => ?_⟩
    obtain ⟨jj, rfl⟩ := Int.eq_ofNat_of_zero_le d0
    have hj : jj < xs.length := by omega
    have hgt : xs[jj]? = some xs[jj] := List.getElem?_eq_getElem hj
    exact ⟨l, _, _, _, rfl, rfl, sql_xb hl nlp e1, atI_nat hgt, k jj _ H1 hgt e1 hp1⟩

theorem ok_names (T : Txt K mg A) : FnOk P w K mg base CX0 2 A.f_names A.d_names ["_law_pot", "_law_some", "_law_most"] (spNamesL) := by
  refine T.F_names.ok sc_names (fun vs H Q E h => ?_) (fun cdv A0 outer s H vs Q E hr h => ?_)
  · obtain ⟨_, _, _, _, _, rfl, _⟩ := h
    rfl
  · have hu := hu_of hr
    obtain ⟨p, l, ss, m, N, rfl, hp, hN, hl, nlp, l20, m20, k⟩ := h
    refine ⟨_, (pss_cons (ps_set (i := 3) sc_names.nd rfl (Or.inl rfl) (pe_tup pa_nil))
      (pss_cons (ps_for PassesOwn.never rfl (pi_list (pv 1)) (pg_name (i := 4) sc_names.nd rfl (Or.inl rfl)) (pss_one (ps_set (i := 3) sc_names.nd rfl (Or.inl rfl) (pe_op op_catA (pv 3) (pe_op op_rep01 (pe_tup (pa_cons (pv 4) pa_nil)) (pe_callTy call_int1 (by rfl) T.g_int (by decide +kernel) (pa_cons (pe_and (pe_cmpR op_lt (pe_callB call_len_seq (by rfl) T.g_len (by decide +kernel) (pa_cons (pv 3) pa_nil)) (pv 2) (nomark _)) (pe_one (pe_cmpR op_eq (pe_call (ok_take T) (hr.mono (by decide)) (by rfl) T.m_take T.F_take.kp T.b_take .nil pass0 (pa_cons (pv 0) (pa_cons pe_int pa_nil))) pe_int (nomark _)))) pa_nil)))))))
      (pss_one (ps_ret (pv 3))))), ?_⟩
    refine ⟨(by show 0 ≤ sizeLine; decide), fun t0 nt0 => ?_⟩
    have e0 : Ex H (upd H t0 (.tup [])) := Ex.nw nt0
    have hp0 := hp.ex e0
    refine ⟨_, rfl, l, rfl, ⟨_, SqL.of (e0 _ _ hl)⟩, for_list (xs := ss.map V.str) (fun i σ H' => (∃ u4 q gs, σ = [some (.ref p), some (.ref l), some (.int m), some (.ref q), u4] ∧ H' q = some (.tup (gs.map V.str)) ∧ gs.Sublist (ss.take i) ∧ gs.length ≤ m) ∧ XB p H H' ∧ PotAt H' p (N + i)) ⟨⟨_, _, [], rfl, upd_same, by simp, Nat.zero_le _⟩, Ex.xb e0, hp0.mono (by omega)⟩ (fun i σ H' _ h' => SqL.of (h'.2.1 _ _ nlp hl)) ?_ ?_⟩
    · rintro i xv σ H2 hxi ⟨⟨u4, q0, gs, rfl, hq, hsub, hlen⟩, x2, hp2⟩
      rw [List.getElem?_map] at hxi
      obtain ⟨sn, hsn, rfl⟩ := Option.map_eq_some_iff.mp hxi
      have i4 : i < ss.length := (List.getElem?_eq_some_iff.mp hsn).1
      refine ⟨_, rfl, _, rfl, (by show 1 ≤ sizeLine; decide), fun t nt => ?_⟩
      have e3 : Ex H2 (upd H2 t (.tup [.str sn])) := Ex.nw nt
      refine ⟨_, rfl, q0, _, rfl, .inr (SqT.of (e3 _ _ hq)), _, rfl, _, _, rfl, rfl, _, rfl, ?_⟩
      rw [List.length_map]
      by_cases hlt : decide ((gs.length : Int) < (m : Int)) = true
      · have hlt2 : gs.length < m := by have := of_decide_eq_true hlt; omega
        refine HX.if_true hlt ?_
        refine ⟨_, rfl, p, 2, _, rfl, hp2.ex e3, by decide, by decide, by omega, fun d H4 d0 d1 x4 hp4 => ⟨rfl, .inr ⟨_, rfl, ?_⟩⟩⟩
        obtain ⟨zs, hz⟩ : ∃ zs, (upd H2 t (.tup [.str sn])) p = some (.lst zs) := let ⟨_, _, _, z, _⟩ := hp2.ex e3; ⟨_, z⟩
        have tK : TupK H2 H4 := (Ex.te e3).tr (x4.te hz)
        have ht4 : H4 t = some (.tup [.str sn]) := (x4.te hz) _ _ upd_same
        have x24 : XB p H2 H4 := (Ex.xb e3).tr x4
        have hq4 := tK _ _ hq
        have hp4 : PotAt H4 p (N + ((i + 1 : Nat) : Int)) := hp4.mono (by push_cast; omega)
        refine ⟨t, decide (V.int d = V.int 0), _, rfl, rfl, SqT.of ht4, by simp, fun hb1 => ?_, fun hb0 t2 nt2 => ?_⟩
        · refine ⟨q0, t, gs.map V.str, _, rfl, rfl, SqT.of hq4, SqT.of ht4, Nat.le_of_lt (small (by rw [List.length_map]; show gs.length + 1 < 1000; omega)), fun h0 => ?_, fun h0 h1 => by simp at h1, fun h0 h1 q nq => ?_⟩
          · refine ⟨⟨_, _, gs ++ [sn], rfl, ?_, sub_next hsub hsn, by rw [List.length_append]; simp only [List.length_cons, List.length_nil]; omega⟩, x2.tr x24, hp4⟩
            have g0 : gs = [] := List.map_eq_nil_iff.mp h0
            rw [g0]; exact ht4
          · refine ⟨⟨_, _, gs ++ [sn], rfl, ?_, sub_next hsub hsn, by rw [List.length_append]; simp only [List.length_cons, List.length_nil]; omega⟩, XB.mu (x2.tr x24) (none_of_xb (x2.tr x24) (pot_none hp4 nq) nq), hp4.ex (Ex.nw nq)⟩
            rw [List.map_append]; exact upd_same
        · have e5 : Ex H4 (upd H4 t2 (.tup [])) := Ex.nw nt2
          have x5 : XB p H (upd H4 t2 (.tup [])) := XB.mu (x2.tr x24) (none_of_xb (x2.tr x24) (pot_none hp4 nt2) nt2)
          refine ⟨q0, t2, gs.map V.str, [], rfl, rfl, SqT.of (e5 _ _ hq4), SqT.of upd_same, Nat.le_of_lt (small (by rw [List.length_map]; show gs.length + 0 < 1000; omega)), fun h0 => ?_, fun h0 h1 => ?_, fun h0 h1 => absurd rfl h1⟩
          · refine ⟨⟨_, _, gs, rfl, ?_, sub_stay hsub, hlen⟩, x5, hp4.ex e5⟩
            have g0 : gs = [] := List.map_eq_nil_iff.mp h0
            rw [g0]; exact upd_same
          · exact ⟨⟨_, _, gs, rfl, e5 _ _ hq4, sub_stay hsub, hlen⟩, x5, hp4.ex e5⟩
      · have hlt := Bool.eq_false_iff.mpr hlt
        refine HX.if_false hlt ?_
        refine .inr ⟨_, rfl, ?_⟩
        obtain ⟨H4, E4⟩ : ∃ z, z = upd H2 t (.tup [.str sn]) := ⟨_, rfl⟩
        rw [← E4] at e3 ⊢
        have ht4 : H4 t = some (.tup [.str sn]) := by rw [E4]; exact upd_same
        have x24 : XB p H2 H4 := Ex.xb e3
        have hq4 := e3 _ _ hq
        have hp4 : PotAt H4 p (N + ((i + 1 : Nat) : Int)) := (hp2.ex e3).mono (by push_cast; omega)
        refine ⟨t, false, _, rfl, rfl, SqT.of ht4, by simp, fun hb1 => ?_, fun hb0 t2 nt2 => ?_⟩
        · exact absurd hb1 (by decide)
        · have e5 : Ex H4 (upd H4 t2 (.tup [])) := Ex.nw nt2
          have x5 : XB p H (upd H4 t2 (.tup [])) := XB.mu (x2.tr x24) (none_of_xb (x2.tr x24) (pot_none hp4 nt2) nt2)
          refine ⟨q0, t2, gs.map V.str, [], rfl, rfl, SqT.of (e5 _ _ hq4), SqT.of upd_same, Nat.le_of_lt (small (by rw [List.length_map]; show gs.length + 0 < 1000; omega)), fun h0 => ?_, fun h0 h1 => ?_, fun h0 h1 => absurd rfl h1⟩
          · refine ⟨⟨_, _, gs, rfl, ?_, sub_stay hsub, hlen⟩, x5, hp4.ex e5⟩
            have g0 : gs = [] := List.map_eq_nil_iff.mp h0
            rw [g0]; exact upd_same
          · exact ⟨⟨_, _, gs, rfl, e5 _ _ hq4, sub_stay hsub, hlen⟩, x5, hp4.ex e5⟩
    · rintro σ H2 ⟨⟨u4, q0, gs, rfl, hq, hsub, hlen⟩, x2, hp2⟩
      rw [List.length_map] at hp2
      rw [List.length_map, List.take_length] at hsub
      exact ⟨_, rfl, k q0 gs H2 x2 (hp2.mono (by omega)) hq hsub hlen⟩
theorem ok_priced (T : Txt K mg A) : FnOk P w K mg base CX0 3 A.f_priced A.d_priced ["_law_pot", "_law_names_here"] (spPr) := by
  refine T.F_priced.ok sc_priced (fun vs H Q E h => ?_) (fun cdv A0 outer s H vs Q E hr h => ?_)
  · obtain ⟨_, _, _, _, rfl, _⟩ := h
    rfl
  · have hu := hu_of hr
    obtain ⟨p, a, gs, N, rfl, hp, hN, ha, l6, k⟩ := h
    refine ⟨_, (pss_one (ps_ret (pe_callTy call_tuple_of (by rfl) T.g_tuple (by decide +kernel) (pa_cons (pe_lc (own := [("_law_name", 2)]) (g := (gName 2)) (tt := tYes) rfl sc_priced.nd (pi_tup (pv 1)) (blkOk_by (N := N_priced) (sc := defScope s_priced) (by decide +kernel)) (fun _ _ _ _ _ => pg_name (i := 2) sc_priced.nd rfl (Or.inl rfl)) (fun _ _ _ _ _ => pts_nil) (fun _ _ _ _ _ => (pe_tup (pa_cons (pv 2) (pa_cons (pe_call (ok_of T) (hr.mono (by decide)) (by rfl) T.m_of T.F_of.kp T.b_of .nil pass0 (pa_cons (pv 0) (pa_cons (pe_lst (pa_cons pe_int (pa_cons pe_int (pa_cons pe_int (pa_cons pe_int (pa_cons pe_int pa_nil)))))) pa_nil))) pa_nil))))) pa_nil)))), ?_⟩
    have lgm : (gs.map V.str).length = gs.length := List.length_map ..
    obtain ⟨zs0, hz0⟩ : ∃ zs, H p = some (.lst zs) := let ⟨_, _, _, z, _⟩ := hp; ⟨_, z⟩
    have nap : a ≠ p := ne_of ha hz0 (by intro y; cases y)
    refine ⟨_, rfl, a, rfl, ⟨_, SqT.of ha⟩, fun D nD => lc_dr (walk_tup (xs := gs.map V.str)) (p := p) (fun i H => PotAt H p (N + (i : Int))) (fun i d => ∃ s z, gs[i]? = some s ∧ d = iD (s, z) ∧ (0 ≤ z ∧ z < 10)) (by rw [List.length_map]; omega) nD (pot_none hp nD) (fun i H q => let ⟨_, _, _, z, _⟩ := q; ⟨_, z⟩) (hp.mono (by omega)) (fun i H H' q e => q.ex e) (fun i H xs ys q hD => q.up (Ne.symm (pot_none hp nD))) (fun H' x => SqT.of (x _ _ nap ha)) (fun i xv H2 H3 Kq hi x2 hp2 y kq => ?_) (fun H2 xs ds x2 hp2 hD hx hl hg => ?_)⟩
    · obtain ⟨rfl, hxi⟩ := y
      rw [List.getElem?_map] at hxi
      obtain ⟨sn, hsn, rfl⟩ := Option.map_eq_some_iff.mp hxi
      have hi2 : i < gs.length := (List.getElem?_eq_some_iff.mp hsn).1
      refine ⟨rfl, _, rfl, _, rfl, (by show 5 ≤ sizeLine; decide), fun l nl => ?_⟩
      have el := Ex.nw (o := .lst [V.int 0, .int 1, .int 2, .int 5, .int 9]) nl
      refine ⟨p, l, _, N + i, rfl, hp2.ex el, SqL.of upd_same, pot_none hp2 nl, (by decide), (by decide), (by omega), fun j v H4 hv x4 hp4 => ?_⟩
      obtain ⟨z, rfl, z0, z1⟩ := five_at hv
      have x34 : XB p H3 H4 := (Ex.xb el).tr x4
      exact ⟨(by show 2 ≤ sizeLine; decide), fun q nq => kq _ _ (iD (sn, z)) (XB.mu x34 (none_of_xb x34 (pot_none hp4 nq) nq)) ((hp4.ex (Ex.nw nq)).mono (by push_cast; omega)) (TzL.tup (TzL.cons (.str _) (TzL.one (.int _))) upd_same) ⟨sn, z, hsn, rfl, z0, z1⟩⟩
    rw [List.length_map] at hp2 hl
    obtain ⟨cn, rfl, hcn, hcw⟩ := pairs_ofL (f := fun s z => iD (s, z)) hl hg
    refine ⟨D, _, rfl, .inl ⟨SqL.of hD, fun tc ntc => ?_⟩⟩
    exact k _ cn _ (XB.mu x2 (none_of_xb x2 (pot_none hp2 ntc) ntc)) ((hp2.ex (Ex.nw ntc)).mono (by omega)) (TzL.tup (hx.ex (Ex.nw ntc)) upd_same) hcn hcw
end
end K50
set_option Elab.async false
set_option linter.all false
set_option maxRecDepth 100000
set_option maxHeartbeats 4400000
namespace K50
open PySem PySem.Spec PyProof.Rows L2 HX
open PySem.W (Frag)


open LamX
def spTold (K : Frag) (A : Ad) : Sp := fun vs H Q _ => ∃ (p x xp : Addr) (v : V) (d : PyData) (ns gs : List Str) (kn he : Bool) (ws : List Str), vs = [.ref x, v, .ref xp] ∧ SAt A.C_Setup H x ns ∧ Dz p H v d ∧ Wt 900 d ∧ PlanAt K A.C_Plan H xp gs kn he ws ∧
  (pricesD ns d = false → ∀ (q : Addr) (H' : Hp), Ex H H' → H' q = some (.tup [.str "prices", v]) → Q (.ref q) H') ∧
  (pricesD ns d = true → ∀ ps b h os, d = prD ps b h os → (amongB ps os gs ws = false → ∀ (q : Addr) (H' : Hp), Ex H H' → H' q = some (.tup [.str "plan", .ref xp]) → Q (.ref q) H') ∧
    (amongB ps os gs ws = true → ∀ (q : Addr) (H' : Hp), Ex H H' → H' q = some (.tup [.str "told", .int (costI ps b h os gs kn he ws)]) → Q (.ref q) H'))

section
variable {P : Program} {w : World} {K : Frag} {mg : Str → Option Value} {base : Heap} {A : Ad}

theorem ok_told (T : Txt K mg A) : FnOk P w K mg base CX0 8 A.f_told A.d_told ["_law_setup", "_law_prices", "_law_plan"] (spTold K A) := by
  refine T.F_told.ok sc_told (fun vs H Q E h => ?_) (fun cdv A0 outer s H vs Q E hr h => ?_)
  · obtain ⟨_, _, _, _, _, _, _, _, _, _, rfl, _⟩ := h
    rfl
  · have hu := hu_of hr
    obtain ⟨p, x, xp, v, d, ns, gs, kn, he, ws, rfl, hS, hz, hw, hP, k1, k2⟩ := h
    refine ⟨_, (pss_cons (ps_asg (pe_tup (pa_cons pe_non (pa_cons pe_non pa_nil))) (pg_tup rfl (pgs_cons (pg_name (i := 3) sc_told.nd rfl (Or.inl rfl)) (pgs_cons (pg_name (i := 4) sc_told.nd rfl (Or.inl rfl)) pgs_nil))))
      (pss_cons (ps_try_keep (i := 5) rfl rfl sc_told.nd rfl rfl ⟨rfl, by decide, Or.inl T.m_TapeError⟩ L2.takes0 rfl
      (fun W pn xe tk _ => pss_one (ps_set (i := 4) sc_told.nd rfl (Or.inl rfl) (by exact (pe_callS (ok_price_of T) (hr.mono (by decide)) rfl T.m_price_of T.F_price_of.kp T.b_price_of (fun τ => passAt tk τ) (pa_cons (pv 0) (pa_cons (pv 1) (pa_cons (pv 2) pa_nil)))))))
      (fun a oe cls d pn hz hf => pss_one (ps_set (i := 3) sc_told.nd rfl (Or.inl rfl) (pv 5))))
      (pss_cons (ps_if (pt_cmpR op_isN (pv 3) pe_non (nomark _)) (pss_one (ps_ret (pe_tup (pa_cons pe_str (pa_cons (pv 4) pa_nil))))) pss_nil)
      (pss_cons (ps_if (pt_val (pe_callB (call_isK (K := K) rfl) (by rfl) T.g_isinstance (by decide +kernel) (pa_cons (pv 3) (pa_cons (pe_glob (v := .ref A.C_BadPrices) (by rfl) T.m_BadPrices rfl) pa_nil)))) (pss_one (ps_ret (pe_tup (pa_cons pe_str (pa_cons (pe_errA (pv 3)) pa_nil))))) pss_nil)
      (pss_one (ps_ret (pe_ifExp (pt_val (pe_callB (call_isK (K := K) rfl) (by rfl) T.g_isinstance (by decide +kernel) (pa_cons (pv 3) (pa_cons (pe_glob (v := .ref A.C_BadPlan) (by rfl) T.m_BadPlan rfl) pa_nil)))) (pe_tup (pa_cons pe_str (pa_cons (pe_errA (pv 3)) pa_nil))) (pe_tup (pa_cons pe_str (pa_cons pe_non pa_nil)))))))))), ?_⟩
    refine ⟨(by show 2 ≤ sizeLine; decide), fun t nt => ⟨t, _, rfl, SqT.of upd_same, rfl, _, _, rfl, _, _, rfl, rfl, ?_⟩⟩
    have e1 : Ex H (upd H t (.tup [.non, .non])) := Ex.nw nt
    obtain ⟨H1, E1⟩ : ∃ z, z = upd H t (.tup [.non, .non]) := ⟨_, rfl⟩
    rw [← E1] at e1 ⊢
    have hm1 : A.C_BadPlan ∈ [A.C_BadPlan, A.C_BadPrices] := .head _
    have hm2 : A.C_BadPrices ∈ [A.C_BadPlan, A.C_BadPrices] := .tail _ (.head _)
    refine ⟨_, rfl, _, rfl, _, rfl, p, x, xp, v, d, ns, gs, kn, he, ws, rfl, hS.ex e1, hz.ex e1, hw, hP.ex e1, fun h1 => ?_, fun h1 ps b h os hd => ⟨fun h2 => ?_, fun h2 H2 e2 => ?_⟩⟩
    · have k := k1 h1
      intro dd H2 e2 hd
      refine ⟨true, T.xte _ hm2, (fun z => Bool.noConfusion z), fun _ => ⟨A.C_BadPrices, rfl, fun a na => ?_⟩⟩
      refine ⟨_, rfl, ?_⟩
      have x0 : Ex H2 (upd H2 a (ErrV A.C_BadPrices (some dd) a)) := Ex.nw na
      have ea : ErrIs (upd H2 a (ErrV A.C_BadPrices (some dd) a)) A.C_BadPrices a [("value", _)] := ⟨dd, .inl ⟨upd_same, x0 _ _ hd⟩⟩
      obtain ⟨H3, E3⟩ : ∃ z, z = upd H2 a (ErrV A.C_BadPrices (some dd) a) := ⟨_, rfl⟩
      rw [← E3] at x0 ea
      refine ⟨_, rfl, rfl, _, rfl, HX.if_false rfl ?_⟩
      rw [← E3]
      have e0 : PySem.W.kitOne K (.ref A.C_BadPrices) (.ref A.C_BadPrices) = some true := by rw [T.kit _ hm2 _ hm2]; simp
      refine ⟨_, rfl, a, A.C_BadPrices, _, _, _, rfl, .inl ⟨_, ea⟩, T.E_BadPrices.er, (fun u r => r), e0, _, rfl, HX.if_true rfl ?_⟩
      refine ⟨_, rfl, a, A.C_BadPrices, _, _, rfl, ea, T.E_BadPrices.xf, T.E_BadPrices.no, rfl, ?_⟩
      exact ⟨(by show 2 ≤ sizeLine; decide), fun q nq => k q _ (e1.tr (e2.tr (x0.tr (Ex.nw nq)))) upd_same⟩
    · have k := (k2 h1 ps b h os hd).1 h2
      intro dd H2 e2 hd
      refine ⟨true, T.xte _ hm1, (fun z => Bool.noConfusion z), fun _ => ⟨A.C_BadPlan, rfl, fun a na => ?_⟩⟩
      refine ⟨_, rfl, ?_⟩
      have x0 : Ex H2 (upd H2 a (ErrV A.C_BadPlan (some dd) a)) := Ex.nw na
      have ea : ErrIs (upd H2 a (ErrV A.C_BadPlan (some dd) a)) A.C_BadPlan a [("value", _)] := ⟨dd, .inl ⟨upd_same, x0 _ _ hd⟩⟩
      obtain ⟨H3, E3⟩ : ∃ z, z = upd H2 a (ErrV A.C_BadPlan (some dd) a) := ⟨_, rfl⟩
      rw [← E3] at x0 ea
      refine ⟨_, rfl, rfl, _, rfl, HX.if_false rfl ?_⟩
      rw [← E3]
      have e0 : PySem.W.kitOne K (.ref A.C_BadPlan) (.ref A.C_BadPrices) = some false := by rw [T.kit _ hm1 _ hm2]; simp [T.ene]
      have e9 : PySem.W.kitOne K (.ref A.C_BadPlan) (.ref A.C_BadPlan) = some true := by rw [T.kit _ hm1 _ hm1]; simp
      refine ⟨_, rfl, a, A.C_BadPlan, _, _, _, rfl, .inl ⟨_, ea⟩, T.E_BadPlan.er, (fun u r => r), e0, _, rfl, HX.if_false rfl ?_⟩
      refine ⟨_, rfl, a, A.C_BadPlan, _, _, _, rfl, .inl ⟨_, ea⟩, T.E_BadPlan.er, (fun u r => r), e9, _, rfl, HX.if_true rfl ?_⟩
      refine ⟨_, rfl, a, A.C_BadPlan, _, _, rfl, ea, T.E_BadPlan.xf, T.E_BadPlan.no, rfl, ?_⟩
      exact ⟨(by show 2 ≤ sizeLine; decide), fun q nq => k q _ (e1.tr (e2.tr (x0.tr (Ex.nw nq)))) upd_same⟩
    · have k := (k2 h1 ps b h os hd).2 h2
      refine ⟨_, rfl, rfl, _, rfl, HX.if_true rfl ?_⟩
      exact ⟨_, rfl, (by show 2 ≤ sizeLine; decide), fun q nq => k q _ (e1.tr (e2.tr (Ex.nw nq))) upd_same⟩
end
end K50
set_option Elab.async false
set_option linter.all false
set_option maxRecDepth 100000
set_option maxHeartbeats 4400000
namespace K50
open PySem PySem.Spec PyProof.Rows L2 HX
open PySem.W (Frag)


def fiveL : List PyData := [.tuple [.str "a", .int 1], .tuple [.str "b", .int 1], .tuple [.str "c", .int 1], .tuple [.str "d", .int 1], .tuple [.str "e", .int 1]]
def odds (ps : List (Str × Int)) (b h : Int) (os : List (Str × Int)) : List PyData := (((((((([.none, .tuple [], .list [.tuple (ps.map iD), .int b, .int h, .tuple (os.map iD)], .tuple [.tuple (ps.map iD), .int b, .int h, .tuple (os.map iD), .int 0], .tuple [.tuple (ps.map iD), .int b, .int h], .tuple [.list (ps.map iD), .int b, .int h, .tuple (os.map iD)]] : List PyData) ++ [.tuple [.tuple fiveL, .int b, .int h, .tuple (os.map iD)], .tuple [.tuple (ps.map iD), .int 10, .int h, .tuple (os.map iD)], .tuple [.tuple (ps.map iD), .int b, .int (-1), .tuple (os.map iD)]]) ++ [.tuple [.tuple (ps.map iD), .bool true, .int h, .tuple (os.map iD)], .tuple [.tuple (ps.map iD), .int b, .none, .tuple (os.map iD)], .tuple [.tuple (ps.map iD), .int b, .str "1", .tuple (os.map iD)]]) ++ [.tuple [.tuple [.tuple [.str "b", .int 1], .tuple [.str "a", .int 1]], .int b, .int h, .tuple (os.map iD)], .tuple [.tuple [.tuple [.str "a", .int 1], .tuple [.str "a", .int 2]], .int b, .int h, .tuple (os.map iD)]]) ++ [.tuple [.tuple [.tuple [.str "a", .int 10]], .int b, .int h, .tuple (os.map iD)], .tuple [.tuple [.tuple [.str "A", .int 1]], .int b, .int h, .tuple (os.map iD)]]) ++ [.tuple [.tuple [.tuple [.str "a", .bool true]], .int b, .int h, .tuple (os.map iD)]]) ++ [.tuple [.tuple (ps.map iD), .int b, .int h, .tuple [.tuple [.str "nowork", .int 1]]], .tuple [.tuple (ps.map iD), .int b, .int h, .tuple [.list [.str "f", .int 1]]], .tuple [.tuple (ps.map iD), .int b, .int h, .dict []]]) ++ [.tuple [.tuple (ps.map iD), .int b, .int h, .tuple [.tuple [.str "f", .int 1], .tuple [.str "f", .int 2]]], .tuple [.tuple [.tuple [.str "a"]], .int b, .int h, .tuple (os.map iD)], .tuple [.str "aa", .int b, .int h, .tuple (os.map iD)]])
theorem dz_fresh {p f : Addr} {H : Hp} {v : V} {d : PyData} (h : Dz p H v d) (nf : H f = none) : Dz f H v d := by
  induction h with
  | non => exact .non
  | bl b => exact .bl b
  | int i => exact .int i
  | str x => exact .str x
  | lst h n m hl _ ih => exact .lst h n (fun z => by rw [z, nf] at h; cases h) hl ih
  | tup h hl _ ih => exact .tup h hl ih
  | dct h hl _ ih => exact .dct h hl ih
theorem zip_inj {α β : Type} : ∀ {l : List α} {a b : List β}, l.length = a.length → l.length = b.length → l.zip a = l.zip b → a = b
  | [], [], [], _, _, _ => rfl
  | [], _ :: _, _, h, _, _ => by simp at h
  | [], [], _ :: _, _, h, _ => by simp at h
  | _ :: _, [], _, h, _, _ => by simp at h
  | _ :: _, _ :: _, [], _, h, _ => by simp at h
  | x :: l, a :: as, b :: bs, h1, h2, h => by
    simp only [List.zip_cons_cons, List.cons.injEq, Prod.mk.injEq, true_and] at h
    rw [h.1, zip_inj (by simpa using h1) (by simpa using h2) h.2]
theorem dct_in {p : Addr} {H : Hp} {u : V} {D : PyData} (k : Dz p H u D) : ∀ {a : Addr} {ks : List (Str × V)} {ds : List PyData}, u = .ref a → D = .dict ((ks.map fun p => PyData.str p.1).zip ds) → H a = some (.dK (ks.map fun p => (Sum.inr p.1, p.2))) → ks.length = ds.length → ∀ (i : Nat) (v : V) (d : PyData), (ks.map (·.2))[i]? = some v → ds[i]? = some d → Dz p H v d := by
  cases k with
  | dct h2 hl2 hi2 =>
    intro a ks ds hu hD ha hl i v d hv hd
    cases hu
    rw [h2] at ha
    injection ha with ha
    injection ha with ha
    have e := (List.map_inj_right (fun (x y : Str × V) (h : ((Sum.inr x.1 : Key), x.2) = (Sum.inr y.1, y.2)) => by
      obtain ⟨x1, x2⟩ := x; obtain ⟨y1, y2⟩ := y
      simp only [Prod.mk.injEq, Sum.inr.injEq] at h
      rw [h.1, h.2])).mp ha
    subst e
    injection hD with hD
    have e := zip_inj (by rw [List.length_map]; exact hl2) (by rw [List.length_map]; exact hl) hD
    subst e
    exact hi2 i v d hv hd
  | lst => intro a ks ds hu hD; cases hD
  | tup => intro a ks ds hu hD; cases hD
  | non => intro a ks ds hu; cases hu
  | bl => intro a ks ds hu; cases hu
  | int => intro a ks ds hu; cases hu
  | str => intro a ks ds hu; cases hu
theorem dz_upl {p l : Addr} {H : Hp} {v : V} {d : PyData} {zs ys : List V} (h : Dz p H v d) (hl : H l = some (.lst zs)) : Dz l H v d → Dz p (upd H l (.lst ys)) v d := by
  induction h with
  | non => intro _; exact .non
  | bl b => intro _; exact .bl b
  | int i => intro _; exact .int i
  | str x => intro _; exact .str x
  | lst h n m hl' _ ih =>
    intro k
    cases k with
    | lst h2 n2 m2 hl2 hi2 =>
      rw [h] at h2
      cases h2
      exact .lst (by rw [upd_ne m2]; exact h) n m hl' fun i v d a b => ih i v d a b (hi2 i v d a b)
  | tup h hl' _ ih =>
    intro k
    cases k with
    | tup h2 hl2 hi2 =>
      rw [h] at h2
      cases h2
      exact .tup (by rw [upd_ne (ne_of h hl (by intro y; cases y))]; exact h) hl' fun i v d a b => ih i v d a b (hi2 i v d a b)
  | dct h hl' hi ih =>
    intro k
    refine .dct (by rw [upd_ne (ne_of h hl (by intro y; cases y))]; exact h) hl' fun i v d a b => ih i v d a b (dct_in k rfl rfl h hl' i v d a b)
theorem d2_upl {p l : Addr} {H : Hp} {v : V} {d : PyData} {zs ys : List V} (h : D2 p l H v d) (hl : H l = some (.lst zs)) : D2 p l (upd H l (.lst ys)) v d := ⟨dz_upl h.1 hl h.2, h.2.xb hl XB.wr⟩
theorem d2_fresh {p f : Addr} {H : Hp} {v : V} {d : PyData} {o : HO} (h : D2 p p H v d) (nf : H f = none) : D2 p f (upd H f o) v d := ⟨h.1.ex (Ex.nw nf), (dz_fresh h.1 nf).ex (Ex.nw nf)⟩
theorem vd_upl {p l : Addr} {H : Hp} {xs : List V} {ds : List PyData} {zs ys : List V} (h : Vd p l H xs ds) (hl : H l = some (.lst zs)) : Vd p l (upd H l (.lst ys)) xs ds := ⟨h.1, fun i v d a b => d2_upl (h.2 i v d a b) hl⟩
theorem vd_fresh {p f : Addr} {H : Hp} {xs : List V} {ds : List PyData} {o : HO} (h : Vd p p H xs ds) (nf : H f = none) : Vd p f (upd H f o) xs ds := ⟨h.1, fun i v d a b => d2_fresh (h.2 i v d a b) nf⟩
theorem vd_one {p l : Addr} {H : Hp} {v : V} {d : PyData} (h : D2 p l H v d) : Vd p l H [v] [d] := ⟨rfl, fun i v' d' a b => by
  match i, a, b with
  | 0, a, b => cases a; cases b; exact h
  | i + 1, a, b => simp at a⟩
theorem cut3 (a b c d : PyData) : HX.cutD [a, b, c, d] none (some 3) = [a, b, c] := by
  unfold HX.cutD
  rfl
theorem gd_upto3 {p l : Addr} {H0 : Hp} {σ : L2.St} {K : PySem.W.Frag} {te : TE} {a b c d : PyData} (h : Gd p l H0 σ te (.tuple [a, b, c, d])) : Gd p l H0 σ (tSl (rSlA K) te tNoPart (tPart (tC (.int 3)))) (.tuple [a, b, c]) := by
  have := gd_upto (K := K) (k := 3) h
  rw [cut3] at this
  exact this
theorem seq_lst {p l : Addr} {H : Hp} {σ : L2.St} {t : TA} {ds : List PyData} {i : Nat} {tt : TS} {D : Ends} (h : GdA p l H σ t ds) (hn : ds.length < 1000) (k : ∀ xs H', Ex H H' → Vd p l H' xs ds → ∀ q, H' q = none → q ≠ sysModules → tt D (σ.set i (some (.ref q))) (upd H' q (.lst xs))) : tSeq (tAsg (tLstN t) (gName i)) tt D σ H := h H _ (Ex.rf _) fun xs H' e V => ⟨by rw [V.1]; exact lt_line hn, k xs H' e V⟩
theorem nx_set {i : Nat} {v : V} {σ : L2.St} {H : Hp} {k : L2.St → Hp → Prop} (h : k (σ.set i (some v)) H) : gName i v σ H k := h
theorem use_ls {p l : Addr} {H : Hp} {σ : L2.St} {te : TE} {ds : List PyData} {Q : List V → Hp → Prop} (h : GdL p l H σ te ds) (k : ∀ v H', Ex H H' → LsAt p l H' v ds → Q [v] H') : tCons te tNil σ H Q := h H _ (Ex.rf _) k
theorem use_d {p l : Addr} {H : Hp} {σ : L2.St} {te : TE} {d : PyData} {Q : List V → Hp → Prop} (h : Gd p l H σ te d) (k : ∀ v H', Ex H H' → D2 p l H' v d → Q [v] H') : tCons te tNil σ H Q := h H _ (Ex.rf _) k
def spOdd : Sp := fun vs H Q _ => ∃ (p : Addr) (v : V) (zs : List V) (ps os : List (Str × Int)) (b h : Int), vs = [v] ∧ H p = some (.lst zs) ∧ Dz p H v (prD ps b h os) ∧
  ∀ (f : Addr) (xs : List V) (H' : Hp), Ex H H' → H' f = some (.lst xs) → f ≠ p → xs.length = (odds ps b h os).length → (∀ (i : Nat) (v : V) (d : PyData), xs[i]? = some v → (odds ps b h os)[i]? = some d → Dz p H' v d) → Q (.ref f) H'

end K50
set_option Elab.async false
set_option linter.all false
set_option maxRecDepth 100000
set_option maxHeartbeats 4400000
namespace K50
open PySem PySem.Spec PyProof.Rows L2 HX
open PySem.W (Frag)

section
variable {P : Program} {w : World} {K : Frag} {mg : Str → Option Value} {base : Heap} {A : Ad}

theorem ok_odd_prices (T : Txt K mg A) : FnOk P w K mg base CX0 1 A.f_odd_prices A.d_odd_prices ["_law_prices"] spOdd := by
  refine T.F_odd_prices.ok sc_odd_prices (fun vs H Q E h => ?_) (fun cdv A0 outer s H vs Q E hr h => ?_)
  · obtain ⟨_, _, _, _, _, _, _, rfl, _⟩ := h
    rfl
  · have hu := hu_of hr
    obtain ⟨p, v, zs, ps, os, b, h, rfl, hp, hz, k⟩ := h
    refine ⟨_, (pss_cons (ps_asg (pv 0) (pg_tup rfl (pgs_cons (pg_name (i := 1) sc_odd_prices.nd rfl (Or.inl rfl)) (pgs_cons (pg_name (i := 2) sc_odd_prices.nd rfl (Or.inl rfl)) (pgs_cons (pg_name (i := 3) sc_odd_prices.nd rfl (Or.inl rfl)) (pgs_cons (pg_name (i := 4) sc_odd_prices.nd rfl (Or.inl rfl)) pgs_nil))))))
      (pss_cons (ps_set (i := 5) sc_odd_prices.nd rfl (Or.inl rfl) (pe_callTy call_tuple_of (by rfl) T.g_tuple (by decide +kernel) (pa_cons (pe_lc (own := [("_law_name", 7)]) (g := (gName 7)) (tt := tYes) rfl sc_odd_prices.nd (pi_tup (pe_tup (pa_cons pe_str (pa_cons pe_str (pa_cons pe_str (pa_cons pe_str (pa_cons pe_str pa_nil))))))) (blkOk_by (N := N_odd_prices) (sc := defScope s_odd_prices) (by decide +kernel)) (fun _ _ _ _ _ => pg_name (i := 7) sc_odd_prices.nd rfl (Or.inl rfl)) (fun _ _ _ _ _ => pts_nil) (fun _ _ _ _ _ => (pe_tup (pa_cons (pv 7) (pa_cons pe_int pa_nil))))) pa_nil)))
      (pss_cons (ps_set (i := 6) sc_odd_prices.nd rfl (Or.inl rfl) (pe_lstN (pa_cons pe_non (pa_cons (pe_tup pa_nil) (pa_cons (pe_lstN (pa_cons (pv 1) (pa_cons (pv 2) (pa_cons (pv 3) (pa_cons (pv 4) pa_nil))))) (pa_cons (pe_op op_catA (pv 0) (pe_tup (pa_cons pe_int pa_nil))) (pa_cons (pe_slice sl_tupA (pv 0) po_none (po_some pe_int)) (pa_cons (pe_tup (pa_cons (pe_callTy call_listN (by rfl) T.g_list (by decide +kernel) (pa_cons (pv 1) pa_nil)) (pa_cons (pv 2) (pa_cons (pv 3) (pa_cons (pv 4) pa_nil))))) pa_nil))))))))
      (pss_cons (ps_expr (pe_bm PySem.F.plainAttrs_list PySem.F.slot_list_extend PySem.F.type_list_extend mt_extend (pv 6) (pa_cons (pe_lstN (pa_cons (pe_tup (pa_cons (pv 5) (pa_cons (pv 2) (pa_cons (pv 3) (pa_cons (pv 4) pa_nil))))) (pa_cons (pe_tup (pa_cons (pv 1) (pa_cons pe_int (pa_cons (pv 3) (pa_cons (pv 4) pa_nil))))) (pa_cons (pe_tup (pa_cons (pv 1) (pa_cons (pv 2) (pa_cons (pe_un un_neg pe_int) (pa_cons (pv 4) pa_nil))))) pa_nil)))) pa_nil)))
      (pss_cons (ps_expr (pe_bm PySem.F.plainAttrs_list PySem.F.slot_list_extend PySem.F.type_list_extend mt_extend (pv 6) (pa_cons (pe_lstN (pa_cons (pe_tup (pa_cons (pv 1) (pa_cons pe_bl (pa_cons (pv 3) (pa_cons (pv 4) pa_nil))))) (pa_cons (pe_tup (pa_cons (pv 1) (pa_cons (pv 2) (pa_cons pe_non (pa_cons (pv 4) pa_nil))))) (pa_cons (pe_tup (pa_cons (pv 1) (pa_cons (pv 2) (pa_cons pe_str (pa_cons (pv 4) pa_nil))))) pa_nil)))) pa_nil)))
      (pss_cons (ps_expr (pe_bm PySem.F.plainAttrs_list PySem.F.slot_list_extend PySem.F.type_list_extend mt_extend (pv 6) (pa_cons (pe_lstN (pa_cons (pe_tup (pa_cons (pe_tup (pa_cons (pe_tup (pa_cons pe_str (pa_cons pe_int pa_nil))) (pa_cons (pe_tup (pa_cons pe_str (pa_cons pe_int pa_nil))) pa_nil))) (pa_cons (pv 2) (pa_cons (pv 3) (pa_cons (pv 4) pa_nil))))) (pa_cons (pe_tup (pa_cons (pe_tup (pa_cons (pe_tup (pa_cons pe_str (pa_cons pe_int pa_nil))) (pa_cons (pe_tup (pa_cons pe_str (pa_cons pe_int pa_nil))) pa_nil))) (pa_cons (pv 2) (pa_cons (pv 3) (pa_cons (pv 4) pa_nil))))) pa_nil))) pa_nil)))
      (pss_cons (ps_expr (pe_bm PySem.F.plainAttrs_list PySem.F.slot_list_extend PySem.F.type_list_extend mt_extend (pv 6) (pa_cons (pe_lstN (pa_cons (pe_tup (pa_cons (pe_tup (pa_cons (pe_tup (pa_cons pe_str (pa_cons pe_int pa_nil))) pa_nil)) (pa_cons (pv 2) (pa_cons (pv 3) (pa_cons (pv 4) pa_nil))))) (pa_cons (pe_tup (pa_cons (pe_tup (pa_cons (pe_tup (pa_cons pe_str (pa_cons pe_int pa_nil))) pa_nil)) (pa_cons (pv 2) (pa_cons (pv 3) (pa_cons (pv 4) pa_nil))))) pa_nil))) pa_nil)))
      (pss_cons (ps_expr (pe_bm PySem.F.plainAttrs_list PySem.F.slot_list_append PySem.F.type_list_append mt_append (pv 6) (pa_cons (pe_tup (pa_cons (pe_tup (pa_cons (pe_tup (pa_cons pe_str (pa_cons pe_bl pa_nil))) pa_nil)) (pa_cons (pv 2) (pa_cons (pv 3) (pa_cons (pv 4) pa_nil))))) pa_nil)))
      (pss_cons (ps_expr (pe_bm PySem.F.plainAttrs_list PySem.F.slot_list_extend PySem.F.type_list_extend mt_extend (pv 6) (pa_cons (pe_lstN (pa_cons (pe_tup (pa_cons (pv 1) (pa_cons (pv 2) (pa_cons (pv 3) (pa_cons (pe_tup (pa_cons (pe_tup (pa_cons pe_str (pa_cons pe_int pa_nil))) pa_nil)) pa_nil))))) (pa_cons (pe_tup (pa_cons (pv 1) (pa_cons (pv 2) (pa_cons (pv 3) (pa_cons (pe_tup (pa_cons (pe_lstN (pa_cons pe_str (pa_cons pe_int pa_nil))) pa_nil)) pa_nil))))) (pa_cons (pe_tup (pa_cons (pv 1) (pa_cons (pv 2) (pa_cons (pv 3) (pa_cons pe_dnewK pa_nil))))) pa_nil)))) pa_nil)))
      (pss_cons (ps_expr (pe_bm PySem.F.plainAttrs_list PySem.F.slot_list_extend PySem.F.type_list_extend mt_extend (pv 6) (pa_cons (pe_lstN (pa_cons (pe_tup (pa_cons (pv 1) (pa_cons (pv 2) (pa_cons (pv 3) (pa_cons (pe_tup (pa_cons (pe_tup (pa_cons pe_str (pa_cons pe_int pa_nil))) (pa_cons (pe_tup (pa_cons pe_str (pa_cons pe_int pa_nil))) pa_nil))) pa_nil))))) (pa_cons (pe_tup (pa_cons (pe_tup (pa_cons (pe_tup (pa_cons pe_str pa_nil)) pa_nil)) (pa_cons (pv 2) (pa_cons (pv 3) (pa_cons (pv 4) pa_nil))))) (pa_cons (pe_tup (pa_cons pe_str (pa_cons (pv 2) (pa_cons (pv 3) (pa_cons (pv 4) pa_nil))))) pa_nil)))) pa_nil)))
      (pss_one (ps_ret (pv 6))))))))))))), ?_⟩
    obtain ⟨a, x, y, rfl, ha, zx, zy⟩ := pr_at hz
    refine ⟨_, rfl, a, _, rfl, SqT.of ha, rfl, _, _, rfl, _, _, rfl, _, _, rfl, _, _, rfl, rfl, ?_⟩
    refine ⟨(by show 5 ≤ sizeLine; decide), fun t0 nt0 => ?_⟩
    obtain ⟨H1, E1⟩ : ∃ z, z = upd H t0 (.tup [V.str "a", .str "b", .str "c", .str "d", .str "e"]) := ⟨_, rfl⟩
    have e1 : Ex H H1 := by rw [E1]; exact Ex.nw nt0
    have ht0 : H1 t0 = some (.tup [V.str "a", .str "b", .str "c", .str "d", .str "e"]) := by rw [E1]; exact upd_same
    rw [← E1]
    refine ⟨t0, rfl, ⟨_, SqT.of ht0⟩, fun D nD => lc_tz (walk_tup (xs := [V.str "a", .str "b", .str "c", .str "d", .str "e"])) (fun i => fiveL[i]?.getD .none) (by decide) nD (fun H' e' => SqT.of (e' _ _ ht0)) (fun i x H3 H4 Kq hi e' y kq => ?_) (fun H2 ws e2 hD hws => ?_)⟩
    · obtain ⟨rfl, hx⟩ := y
      obtain ⟨z, rfl, ez⟩ : ∃ z, x = .str z ∧ fiveL[i]?.getD .none = .tuple [.str z, .int 1] := by
        match i, hx with
        | 0, h => cases h; exact ⟨_, rfl, rfl⟩
        | 1, h => cases h; exact ⟨_, rfl, rfl⟩
        | 2, h => cases h; exact ⟨_, rfl, rfl⟩
        | 3, h => cases h; exact ⟨_, rfl, rfl⟩
        | 4, h => cases h; exact ⟨_, rfl, rfl⟩
        | i + 5, h => simp at h
      refine ⟨rfl, _, rfl, (by show 2 ≤ sizeLine; decide), fun q nq => kq _ _ (Ex.nw nq) ?_⟩
      rw [ez]
      exact TzL.tup (TzL.cons (.str _) (TzL.one (.int _))) upd_same
    refine ⟨D, _, rfl, .inl ⟨SqL.of hD, fun tc ntc => ?_⟩⟩
    obtain ⟨H3, E3⟩ : ∃ z, z = upd H2 tc (.tup ws) := ⟨_, rfl⟩
    have e23 : Ex H2 H3 := by rw [E3]; exact Ex.nw ntc
    have tzf : Tz H3 (.ref tc) (.tuple fiveL) := by
      have q : (List.range ([V.str "a", .str "b", .str "c", .str "d", .str "e"] : List V).length).map (fun i => fiveL[i]?.getD .none) = fiveL := rfl
      rw [q] at hws
      exact TzL.tup (hws.ex e23) (by rw [E3]; exact upd_same)
    rw [← E3]
    have e3 := e1.tr (e2.tr e23)
    clear E3 E1 hws hD ht0 nt0 nD ntc
    have zv : D2 p p H3 (.ref a) (prD ps b h os) := ⟨hz.ex e3, hz.ex e3⟩
    have zx : D2 p p H3 x (.tuple (ps.map iD)) := ⟨zx.ex e3, zx.ex e3⟩
    have zy : D2 p p H3 y (.tuple (os.map iD)) := ⟨zy.ex e3, zy.ex e3⟩
    have zf : D2 p p H3 (.ref tc) (.tuple fiveL) := ⟨tzf.dz, tzf.dz⟩
    have zb : D2 p p H3 (.int b) (.int b) := ⟨.int b, .int b⟩
    have zh : D2 p p H3 (.int h) (.int h) := ⟨.int h, .int h⟩
    have hpl : (∃ o, H3 p = some o) ∧ ∃ o, H3 p = some o := ⟨⟨_, e3 _ _ hp⟩, _, e3 _ _ hp⟩
    refine nx_set ?_
    dsimp only
    refine seq_lst (p := p) (l := p) (ds := [.none, .tuple [], .list [.tuple (ps.map iD), .int b, .int h, .tuple (os.map iD)], .tuple [.tuple (ps.map iD), .int b, .int h, .tuple (os.map iD), .int 0], .tuple [.tuple (ps.map iD), .int b, .int h], .tuple [.list (ps.map iD), .int b, .int h, .tuple (os.map iD)]]) ?g1 (by show (6 : Nat) < 1000; decide) (fun xs1 H4 e4 V1 f nf sf => ?_)
    case g1 => exact (gda_cons gd_non (gda_cons (gd_tup gda_nil) (gda_cons (gd_lst hpl (gda_cons (gd_var rfl zx) (gda_cons (gd_var rfl zb) (gda_cons (gd_var rfl zh) (gda_cons (gd_var rfl zy) gda_nil))))) (gda_cons (gd_catT (ds := [.tuple (ps.map iD), .int b, .int h, .tuple (os.map iD)]) (es := [.int 0]) (gd_var rfl zv) (gd_tup (gda_cons (gd_int _) gda_nil)) (by show 4 + 1 < 1000; decide)) (gda_cons (gd_upto3 (gd_var rfl zv)) (gda_cons (gd_tup (gda_cons (gd_listof hpl (ds := ps.map iD) (gd_var rfl zx)) (gda_cons (gd_var rfl zb) (gda_cons (gd_var rfl zh) (gda_cons (gd_var rfl zy) gda_nil))))) gda_nil))))))
    have e04 := e3.tr e4
    have nfH := none_of_ex e04 nf
    have nfp : f ≠ p := fun z => by rw [z, e04 _ _ hp] at nf; cases nf
    have W1 := vd_fresh (o := .lst xs1) V1 nf
    have zx := d2_fresh (o := .lst xs1) (zx.ex e4) nf
    have zy := d2_fresh (o := .lst xs1) (zy.ex e4) nf
    have zf := d2_fresh (o := .lst xs1) (zf.ex e4) nf
    obtain ⟨G1, EG1⟩ : ∃ z, z = upd H4 f (.lst xs1) := ⟨_, rfl⟩
    have hf1 : G1 f = some (.lst xs1) := by rw [EG1]; exact upd_same
    have x1 : Ex H G1 := by rw [EG1]; exact ex_mu e04 nfH
    rw [← EG1] at W1 zx zy zf ⊢
    clear EG1 nf V1 e4 hpl zv zb zh
    have zb : D2 p f G1 (.int b) (.int b) := ⟨.int b, .int b⟩
    have zh : D2 p f G1 (.int h) (.int h) := ⟨.int h, .int h⟩
    have hpl : (∃ o, G1 p = some o) ∧ ∃ o, G1 f = some o := ⟨⟨_, x1 _ _ hp⟩, _, hf1⟩
    have l1 : xs1.length = 6 := W1.1
    refine ⟨_, rfl, .inl ⟨rfl, _, SqL.of hf1⟩, ?_⟩
    refine use_ls (p := p) (l := f) (ds := [.tuple [.tuple fiveL, .int b, .int h, .tuple (os.map iD)], .tuple [.tuple (ps.map iD), .int 10, .int h, .tuple (os.map iD)], .tuple [.tuple (ps.map iD), .int b, .int (-1), .tuple (os.map iD)]]) ?g1 (fun v5 H5 e5 hv5 => ?_)
    case g1 => exact gdl_lst hpl (gda_cons (gd_tup (gda_cons (gd_var rfl zf) (gda_cons (gd_var rfl zb) (gda_cons (gd_var rfl zh) (gda_cons (gd_var rfl zy) gda_nil))))) (gda_cons (gd_tup (gda_cons (gd_var rfl zx) (gda_cons (gd_int _) (gda_cons (gd_var rfl zh) (gda_cons (gd_var rfl zy) gda_nil))))) (gda_cons (gd_tup (gda_cons (gd_var rfl zx) (gda_cons (gd_var rfl zb) (gda_cons (fun H Q e k => ⟨_, rfl, k _ _ (Ex.rf _) ⟨.int (-1), .int (-1)⟩⟩) (gda_cons (gd_var rfl zy) gda_nil))))) gda_nil)))
    obtain ⟨a5, us, rfl, na5, nb5, ha5, hU⟩ := hv5
    refine ⟨f, a5, _, _, rfl, rfl, e5 _ _ hf1, ha5, (by rw [l1, hU.1]; exact lt_line (by show 6 + 3 < 1000; decide)), ?_⟩
    have hfe := e5 _ _ hf1
    have W2 := vd_upl (ys := xs1 ++ us) ((W1.ex e5).app hU) hfe
    have zx := d2_upl (ys := xs1 ++ us) (zx.ex e5) hfe
    have zy := d2_upl (ys := xs1 ++ us) (zy.ex e5) hfe
    have zf := d2_upl (ys := xs1 ++ us) (zf.ex e5) hfe
    obtain ⟨xs2, Ex2⟩ : ∃ z, z = xs1 ++ us := ⟨_, rfl⟩
    rw [← Ex2] at W2 zx zy zf ⊢
    obtain ⟨G2, EG2⟩ : ∃ z, z = upd H5 f (.lst xs2) := ⟨_, rfl⟩
    have hf2 : G2 f = some (.lst xs2) := by rw [EG2]; exact upd_same
    have x2 : Ex H G2 := by rw [EG2]; exact ex_mu (x1.tr e5) nfH
    rw [← EG2] at W2 zx zy zf ⊢
    clear EG2 Ex2 hfe hU hf1 W1 hpl zb zh e5
    have zb : D2 p f G2 (.int b) (.int b) := ⟨.int b, .int b⟩
    have zh : D2 p f G2 (.int h) (.int h) := ⟨.int h, .int h⟩
    have hpl : (∃ o, G2 p = some o) ∧ ∃ o, G2 f = some o := ⟨⟨_, x2 _ _ hp⟩, _, hf2⟩
    have l2 : xs2.length = 9 := W2.1
    refine ⟨_, rfl, .inl ⟨rfl, _, SqL.of hf2⟩, ?_⟩
    refine use_ls (p := p) (l := f) (ds := [.tuple [.tuple (ps.map iD), .bool true, .int h, .tuple (os.map iD)], .tuple [.tuple (ps.map iD), .int b, .none, .tuple (os.map iD)], .tuple [.tuple (ps.map iD), .int b, .str "1", .tuple (os.map iD)]]) ?g2 (fun v5 H5 e5 hv5 => ?_)
    case g2 => exact gdl_lst hpl (gda_cons (gd_tup (gda_cons (gd_var rfl zx) (gda_cons (gd_bl _) (gda_cons (gd_var rfl zh) (gda_cons (gd_var rfl zy) gda_nil))))) (gda_cons (gd_tup (gda_cons (gd_var rfl zx) (gda_cons (gd_var rfl zb) (gda_cons gd_non (gda_cons (gd_var rfl zy) gda_nil))))) (gda_cons (gd_tup (gda_cons (gd_var rfl zx) (gda_cons (gd_var rfl zb) (gda_cons (gd_str _) (gda_cons (gd_var rfl zy) gda_nil))))) gda_nil)))
    obtain ⟨a5, us, rfl, na5, nb5, ha5, hU⟩ := hv5
    refine ⟨f, a5, _, _, rfl, rfl, e5 _ _ hf2, ha5, (by rw [l2, hU.1]; exact lt_line (by show 9 + 3 < 1000; decide)), ?_⟩
    have hfe := e5 _ _ hf2
    have W3 := vd_upl (ys := xs2 ++ us) ((W2.ex e5).app hU) hfe
    have zx := d2_upl (ys := xs2 ++ us) (zx.ex e5) hfe
    have zy := d2_upl (ys := xs2 ++ us) (zy.ex e5) hfe
    have zf := d2_upl (ys := xs2 ++ us) (zf.ex e5) hfe
    obtain ⟨xs3, Ex3⟩ : ∃ z, z = xs2 ++ us := ⟨_, rfl⟩
    rw [← Ex3] at W3 zx zy zf ⊢
    obtain ⟨G3, EG3⟩ : ∃ z, z = upd H5 f (.lst xs3) := ⟨_, rfl⟩
    have hf3 : G3 f = some (.lst xs3) := by rw [EG3]; exact upd_same
    have x3 : Ex H G3 := by rw [EG3]; exact ex_mu (x2.tr e5) nfH
    rw [← EG3] at W3 zx zy zf ⊢
    clear EG3 Ex3 hfe hU hf2 W2 hpl zb zh e5
    have zb : D2 p f G3 (.int b) (.int b) := ⟨.int b, .int b⟩
    have zh : D2 p f G3 (.int h) (.int h) := ⟨.int h, .int h⟩
    have hpl : (∃ o, G3 p = some o) ∧ ∃ o, G3 f = some o := ⟨⟨_, x3 _ _ hp⟩, _, hf3⟩
    have l3 : xs3.length = 12 := W3.1
    refine ⟨_, rfl, .inl ⟨rfl, _, SqL.of hf3⟩, ?_⟩
    refine use_ls (p := p) (l := f) (ds := [.tuple [.tuple [.tuple [.str "b", .int 1], .tuple [.str "a", .int 1]], .int b, .int h, .tuple (os.map iD)], .tuple [.tuple [.tuple [.str "a", .int 1], .tuple [.str "a", .int 2]], .int b, .int h, .tuple (os.map iD)]]) ?g3 (fun v5 H5 e5 hv5 => ?_)
    case g3 => exact gdl_lst hpl (gda_cons (gd_tup (gda_cons (gd_tup (gda_cons (gd_tup (gda_cons (gd_str _) (gda_cons (gd_int _) gda_nil))) (gda_cons (gd_tup (gda_cons (gd_str _) (gda_cons (gd_int _) gda_nil))) gda_nil))) (gda_cons (gd_var rfl zb) (gda_cons (gd_var rfl zh) (gda_cons (gd_var rfl zy) gda_nil))))) (gda_cons (gd_tup (gda_cons (gd_tup (gda_cons (gd_tup (gda_cons (gd_str _) (gda_cons (gd_int _) gda_nil))) (gda_cons (gd_tup (gda_cons (gd_str _) (gda_cons (gd_int _) gda_nil))) gda_nil))) (gda_cons (gd_var rfl zb) (gda_cons (gd_var rfl zh) (gda_cons (gd_var rfl zy) gda_nil))))) gda_nil))
    obtain ⟨a5, us, rfl, na5, nb5, ha5, hU⟩ := hv5
    refine ⟨f, a5, _, _, rfl, rfl, e5 _ _ hf3, ha5, (by rw [l3, hU.1]; exact lt_line (by show 12 + 2 < 1000; decide)), ?_⟩
    have hfe := e5 _ _ hf3
    have W4 := vd_upl (ys := xs3 ++ us) ((W3.ex e5).app hU) hfe
    have zx := d2_upl (ys := xs3 ++ us) (zx.ex e5) hfe
    have zy := d2_upl (ys := xs3 ++ us) (zy.ex e5) hfe
    have zf := d2_upl (ys := xs3 ++ us) (zf.ex e5) hfe
    obtain ⟨xs4, Ex4⟩ : ∃ z, z = xs3 ++ us := ⟨_, rfl⟩
    rw [← Ex4] at W4 zx zy zf ⊢
    obtain ⟨G4, EG4⟩ : ∃ z, z = upd H5 f (.lst xs4) := ⟨_, rfl⟩
    have hf4 : G4 f = some (.lst xs4) := by rw [EG4]; exact upd_same
    have x4 : Ex H G4 := by rw [EG4]; exact ex_mu (x3.tr e5) nfH
    rw [← EG4] at W4 zx zy zf ⊢
    clear EG4 Ex4 hfe hU hf3 W3 hpl zb zh e5
    have zb : D2 p f G4 (.int b) (.int b) := ⟨.int b, .int b⟩
    have zh : D2 p f G4 (.int h) (.int h) := ⟨.int h, .int h⟩
    have hpl : (∃ o, G4 p = some o) ∧ ∃ o, G4 f = some o := ⟨⟨_, x4 _ _ hp⟩, _, hf4⟩
    have l4 : xs4.length = 14 := W4.1
    refine ⟨_, rfl, .inl ⟨rfl, _, SqL.of hf4⟩, ?_⟩
    refine use_ls (p := p) (l := f) (ds := [.tuple [.tuple [.tuple [.str "a", .int 10]], .int b, .int h, .tuple (os.map iD)], .tuple [.tuple [.tuple [.str "A", .int 1]], .int b, .int h, .tuple (os.map iD)]]) ?g4 (fun v5 H5 e5 hv5 => ?_)
    case g4 => exact gdl_lst hpl (gda_cons (gd_tup (gda_cons (gd_tup (gda_cons (gd_tup (gda_cons (gd_str _) (gda_cons (gd_int _) gda_nil))) gda_nil)) (gda_cons (gd_var rfl zb) (gda_cons (gd_var rfl zh) (gda_cons (gd_var rfl zy) gda_nil))))) (gda_cons (gd_tup (gda_cons (gd_tup (gda_cons (gd_tup (gda_cons (gd_str _) (gda_cons (gd_int _) gda_nil))) gda_nil)) (gda_cons (gd_var rfl zb) (gda_cons (gd_var rfl zh) (gda_cons (gd_var rfl zy) gda_nil))))) gda_nil))
    obtain ⟨a5, us, rfl, na5, nb5, ha5, hU⟩ := hv5
    refine ⟨f, a5, _, _, rfl, rfl, e5 _ _ hf4, ha5, (by rw [l4, hU.1]; exact lt_line (by show 14 + 2 < 1000; decide)), ?_⟩
    have hfe := e5 _ _ hf4
    have W5 := vd_upl (ys := xs4 ++ us) ((W4.ex e5).app hU) hfe
    have zx := d2_upl (ys := xs4 ++ us) (zx.ex e5) hfe
    have zy := d2_upl (ys := xs4 ++ us) (zy.ex e5) hfe
    have zf := d2_upl (ys := xs4 ++ us) (zf.ex e5) hfe
    obtain ⟨xs5, Ex5⟩ : ∃ z, z = xs4 ++ us := ⟨_, rfl⟩
    rw [← Ex5] at W5 zx zy zf ⊢
    obtain ⟨G5, EG5⟩ : ∃ z, z = upd H5 f (.lst xs5) := ⟨_, rfl⟩
    have hf5 : G5 f = some (.lst xs5) := by rw [EG5]; exact upd_same
    have x5 : Ex H G5 := by rw [EG5]; exact ex_mu (x4.tr e5) nfH
    rw [← EG5] at W5 zx zy zf ⊢
    clear EG5 Ex5 hfe hU hf4 W4 hpl zb zh e5
    have zb : D2 p f G5 (.int b) (.int b) := ⟨.int b, .int b⟩
    have zh : D2 p f G5 (.int h) (.int h) := ⟨.int h, .int h⟩
    have hpl : (∃ o, G5 p = some o) ∧ ∃ o, G5 f = some o := ⟨⟨_, x5 _ _ hp⟩, _, hf5⟩
    have l5 : xs5.length = 16 := W5.1
    refine ⟨_, rfl, .inl ⟨rfl, _, SqL.of hf5⟩, ?_⟩
    refine use_d (p := p) (l := f) (d := .tuple [.tuple [.tuple [.str "a", .bool true]], .int b, .int h, .tuple (os.map iD)]) ?g5 (fun v5 H5 e5 hv5 => ?_)
    case g5 => exact (gd_tup (gda_cons (gd_tup (gda_cons (gd_tup (gda_cons (gd_str _) (gda_cons (gd_bl _) gda_nil))) gda_nil)) (gda_cons (gd_var rfl zb) (gda_cons (gd_var rfl zh) (gda_cons (gd_var rfl zy) gda_nil)))))
    have hU := vd_one hv5
    refine ⟨f, _, _, rfl, rfl, e5 _ _ hf5, (by rw [l5]; exact Nat.lt_of_lt_of_le (show 16 < 1000 by decide) (by decide)), ?_⟩
    have hfe := e5 _ _ hf5
    have W6 := vd_upl (ys := xs5 ++ [v5]) ((W5.ex e5).app hU) hfe
    have zx := d2_upl (ys := xs5 ++ [v5]) (zx.ex e5) hfe
    have zy := d2_upl (ys := xs5 ++ [v5]) (zy.ex e5) hfe
    have zf := d2_upl (ys := xs5 ++ [v5]) (zf.ex e5) hfe
    obtain ⟨xs6, Ex6⟩ : ∃ z, z = xs5 ++ [v5] := ⟨_, rfl⟩
    rw [← Ex6] at W6 zx zy zf ⊢
    obtain ⟨G6, EG6⟩ : ∃ z, z = upd H5 f (.lst xs6) := ⟨_, rfl⟩
    have hf6 : G6 f = some (.lst xs6) := by rw [EG6]; exact upd_same
    have x6 : Ex H G6 := by rw [EG6]; exact ex_mu (x5.tr e5) nfH
    rw [← EG6] at W6 zx zy zf ⊢
    clear EG6 Ex6 hfe hU hf5 W5 hpl zb zh e5
    have zb : D2 p f G6 (.int b) (.int b) := ⟨.int b, .int b⟩
    have zh : D2 p f G6 (.int h) (.int h) := ⟨.int h, .int h⟩
    have hpl : (∃ o, G6 p = some o) ∧ ∃ o, G6 f = some o := ⟨⟨_, x6 _ _ hp⟩, _, hf6⟩
    have l6 : xs6.length = 17 := W6.1
    refine ⟨_, rfl, .inl ⟨rfl, _, SqL.of hf6⟩, ?_⟩
    refine use_ls (p := p) (l := f) (ds := [.tuple [.tuple (ps.map iD), .int b, .int h, .tuple [.tuple [.str "nowork", .int 1]]], .tuple [.tuple (ps.map iD), .int b, .int h, .tuple [.list [.str "f", .int 1]]], .tuple [.tuple (ps.map iD), .int b, .int h, .dict []]]) ?g6 (fun v5 H5 e5 hv5 => ?_)
    case g6 => exact gdl_lst hpl (gda_cons (gd_tup (gda_cons (gd_var rfl zx) (gda_cons (gd_var rfl zb) (gda_cons (gd_var rfl zh) (gda_cons (gd_tup (gda_cons (gd_tup (gda_cons (gd_str _) (gda_cons (gd_int _) gda_nil))) gda_nil)) gda_nil))))) (gda_cons (gd_tup (gda_cons (gd_var rfl zx) (gda_cons (gd_var rfl zb) (gda_cons (gd_var rfl zh) (gda_cons (gd_tup (gda_cons (gd_lst hpl (gda_cons (gd_str _) (gda_cons (gd_int _) gda_nil))) gda_nil)) gda_nil))))) (gda_cons (gd_tup (gda_cons (gd_var rfl zx) (gda_cons (gd_var rfl zb) (gda_cons (gd_var rfl zh) (gda_cons gd_dict gda_nil))))) gda_nil)))
    obtain ⟨a5, us, rfl, na5, nb5, ha5, hU⟩ := hv5
    refine ⟨f, a5, _, _, rfl, rfl, e5 _ _ hf6, ha5, (by rw [l6, hU.1]; exact lt_line (by show 17 + 3 < 1000; decide)), ?_⟩
    have hfe := e5 _ _ hf6
    have W7 := vd_upl (ys := xs6 ++ us) ((W6.ex e5).app hU) hfe
    have zx := d2_upl (ys := xs6 ++ us) (zx.ex e5) hfe
    have zy := d2_upl (ys := xs6 ++ us) (zy.ex e5) hfe
    have zf := d2_upl (ys := xs6 ++ us) (zf.ex e5) hfe
    obtain ⟨xs7, Ex7⟩ : ∃ z, z = xs6 ++ us := ⟨_, rfl⟩
    rw [← Ex7] at W7 zx zy zf ⊢
    obtain ⟨G7, EG7⟩ : ∃ z, z = upd H5 f (.lst xs7) := ⟨_, rfl⟩
    have hf7 : G7 f = some (.lst xs7) := by rw [EG7]; exact upd_same
    have x7 : Ex H G7 := by rw [EG7]; exact ex_mu (x6.tr e5) nfH
    rw [← EG7] at W7 zx zy zf ⊢
    clear EG7 Ex7 hfe hU hf6 W6 hpl zb zh e5
    have zb : D2 p f G7 (.int b) (.int b) := ⟨.int b, .int b⟩
    have zh : D2 p f G7 (.int h) (.int h) := ⟨.int h, .int h⟩
    have hpl : (∃ o, G7 p = some o) ∧ ∃ o, G7 f = some o := ⟨⟨_, x7 _ _ hp⟩, _, hf7⟩
    have l7 : xs7.length = 20 := W7.1
    refine ⟨_, rfl, .inl ⟨rfl, _, SqL.of hf7⟩, ?_⟩
    refine use_ls (p := p) (l := f) (ds := [.tuple [.tuple (ps.map iD), .int b, .int h, .tuple [.tuple [.str "f", .int 1], .tuple [.str "f", .int 2]]], .tuple [.tuple [.tuple [.str "a"]], .int b, .int h, .tuple (os.map iD)], .tuple [.str "aa", .int b, .int h, .tuple (os.map iD)]]) ?g7 (fun v5 H5 e5 hv5 => ?_)
    case g7 => exact gdl_lst hpl (gda_cons (gd_tup (gda_cons (gd_var rfl zx) (gda_cons (gd_var rfl zb) (gda_cons (gd_var rfl zh) (gda_cons (gd_tup (gda_cons (gd_tup (gda_cons (gd_str _) (gda_cons (gd_int _) gda_nil))) (gda_cons (gd_tup (gda_cons (gd_str _) (gda_cons (gd_int _) gda_nil))) gda_nil))) gda_nil))))) (gda_cons (gd_tup (gda_cons (gd_tup (gda_cons (gd_tup (gda_cons (gd_str _) gda_nil)) gda_nil)) (gda_cons (gd_var rfl zb) (gda_cons (gd_var rfl zh) (gda_cons (gd_var rfl zy) gda_nil))))) (gda_cons (gd_tup (gda_cons (gd_str _) (gda_cons (gd_var rfl zb) (gda_cons (gd_var rfl zh) (gda_cons (gd_var rfl zy) gda_nil))))) gda_nil)))
    obtain ⟨a5, us, rfl, na5, nb5, ha5, hU⟩ := hv5
    refine ⟨f, a5, _, _, rfl, rfl, e5 _ _ hf7, ha5, (by rw [l7, hU.1]; exact lt_line (by show 20 + 3 < 1000; decide)), ?_⟩
    have hfe := e5 _ _ hf7
    have W8 := vd_upl (ys := xs7 ++ us) ((W7.ex e5).app hU) hfe
    have zx := d2_upl (ys := xs7 ++ us) (zx.ex e5) hfe
    have zy := d2_upl (ys := xs7 ++ us) (zy.ex e5) hfe
    have zf := d2_upl (ys := xs7 ++ us) (zf.ex e5) hfe
    obtain ⟨xs8, Ex8⟩ : ∃ z, z = xs7 ++ us := ⟨_, rfl⟩
    rw [← Ex8] at W8 zx zy zf ⊢
    obtain ⟨G8, EG8⟩ : ∃ z, z = upd H5 f (.lst xs8) := ⟨_, rfl⟩
    have hf8 : G8 f = some (.lst xs8) := by rw [EG8]; exact upd_same
    have x8 : Ex H G8 := by rw [EG8]; exact ex_mu (x7.tr e5) nfH
    rw [← EG8] at W8 zx zy zf ⊢
    clear EG8 Ex8 hfe hU hf7 W7 hpl zb zh e5
    have zb : D2 p f G8 (.int b) (.int b) := ⟨.int b, .int b⟩
    have zh : D2 p f G8 (.int h) (.int h) := ⟨.int h, .int h⟩
    have hpl : (∃ o, G8 p = some o) ∧ ∃ o, G8 f = some o := ⟨⟨_, x8 _ _ hp⟩, _, hf8⟩
    exact ⟨_, rfl, k f xs8 G8 x8 hf8 nfp W8.1 fun i v d a b => (W8.2 i v d a b).1⟩
end
end K50
set_option Elab.async false
set_option linter.all false
set_option maxRecDepth 100000
set_option maxHeartbeats 4400000
namespace K50
open PySem PySem.Spec PyProof.Rows L2 HX
open PySem.W (Frag)


theorem four (ns : List Str) (n b h o : PyData) : pricesD ns (.tuple [n, b, h, o]) = ((pricedD n 4 && pricedD o 2) && ((wholeD b 0 10 && wholeD h 0 10) && (psOf o).all fun q => decide (q.1 ∈ ns))) := rfl
theorem bad_n {ns : List Str} {n b h o : PyData} (e : pricedD n 4 = false) : pricesD ns (.tuple [n, b, h, o]) = false := by rw [four, e]; rfl
theorem bad_o {ns : List Str} {n b h o : PyData} (e : pricedD o 2 = false) : pricesD ns (.tuple [n, b, h, o]) = false := by rw [four, e, Bool.and_false]; rfl
theorem bad_b {ns : List Str} {n b h o : PyData} (e : wholeD b 0 10 = false) : pricesD ns (.tuple [n, b, h, o]) = false := by rw [four, e, Bool.false_and, Bool.false_and, Bool.and_false]
theorem bad_h {ns : List Str} {n b h o : PyData} (e : wholeD h 0 10 = false) : pricesD ns (.tuple [n, b, h, o]) = false := by rw [four, e, Bool.and_false, Bool.false_and, Bool.and_false]
theorem bad_w {ns : List Str} {n b h o : PyData} (e : ((psOf o).all fun q => decide (q.1 ∈ ns)) = false) : pricesD ns (.tuple [n, b, h, o]) = false := by rw [four, e, Bool.and_false, Bool.and_false]
theorem pq_int10 {i : Int} (h0 : 0 ≤ i) (h1 : i < 10) : Pq 8 0 (.int i) := by
  have : (List.range 10).all (fun n => (PyData.int (n : Int)).showable && (decide ((PyData.int (n : Int)).depth ≤ 0) && ((PyData.int (n : Int)).leavesShort 24 && decide ((PyData.int (n : Int)).weight ≤ 8)))) = true := by decide +kernel
  obtain ⟨n, rfl⟩ := Int.eq_ofNat_of_zero_le h0
  have q := List.all_eq_true.mp this n (List.mem_range.mpr (by omega))
  simp only [Bool.and_eq_true, decide_eq_true_eq] at q
  exact ⟨q.1, q.2.1, q.2.2.1, q.2.2.2⟩
def pqB (w k : Nat) (d : PyData) : Bool := d.showable && (decide (d.depth ≤ k) && (d.leavesShort 24 && decide (d.weight ≤ w)))
theorem pq_by {w k : Nat} {d : PyData} (h : pqB w k d = true) : Pq w k d := by
  unfold pqB at h
  simp only [Bool.and_eq_true, decide_eq_true_eq] at h
  exact ⟨h.1, h.2.1, h.2.2.1, h.2.2.2⟩
theorem pq_lst {w k m n : Nat} {ds : List PyData} (h : ∀ d ∈ ds, Pq w k d) (hl : ds.length ≤ m) (hn : m * (w + 1) ≤ n) : Pq n (k + 1) (.list ds) := by
  obtain ⟨a, b, c, e⟩ := pq_pack h
  refine ⟨by simp only [PyData.showable]; exact a, by simp only [PyData.depth]; omega, by simp only [PyData.leavesShort]; exact c, ?_⟩
  simp only [PyData.weight]
  exact Nat.le_trans e (Nat.le_trans (Nat.mul_le_mul_right _ hl) hn)
theorem iD_pq {m : Nat} {ps : List (Str × Int)} (pk : PsOk m ps) : ∀ d ∈ ps.map iD, Pq 18 1 d := fun d hd => by
  obtain ⟨q, hq, rfl⟩ := List.mem_map.mp hd
  refine pq_tup (w := 8) (k := 0) (m := 2) (n := 18) (ds := [.str q.1, .int q.2]) (fun d hd => ?_) (Nat.le_refl _) (by decide)
  simp only [List.mem_cons, List.not_mem_nil, or_false] at hd
  rcases hd with rfl | rfl
  · exact pq_name (pk.n q hq)
  · exact (pq_int10 (pk.w q hq).1 (pk.w q hq).2).up (by decide) (Nat.le_refl _)
theorem ps_pq {ps : List (Str × Int)} (pk : PsOk 4 ps) : Pq 100 2 (.tuple (ps.map iD)) := pq_tup (w := 18) (k := 1) (m := 4) (n := 100) (iD_pq pk) (by rw [List.length_map]; exact pk.l) (by decide)
theorem ps_pql {ps : List (Str × Int)} (pk : PsOk 4 ps) : Pq 100 2 (.list (ps.map iD)) := pq_lst (w := 18) (k := 1) (m := 4) (n := 100) (iD_pq pk) (by rw [List.length_map]; exact pk.l) (by decide)
theorem PsOk.up {m n : Nat} {ps : List (Str × Int)} (h : PsOk m ps) (e : m ≤ n) : PsOk n ps := ⟨Nat.le_trans h.l e, h.n, h.r, h.w⟩
theorem pq_t {ds : List PyData} (h : ∀ d ∈ ds, Pq 100 2 d) (hl : ds.length ≤ 5) : Pq 600 4 (.tuple ds) := (pq_tup (w := 100) (k := 2) (m := 5) (n := 600) h hl (by decide)).up (Nat.le_refl _) (by decide)
theorem pq_l {ds : List PyData} (h : ∀ d ∈ ds, Pq 100 2 d) (hl : ds.length ≤ 5) : Pq 600 4 (.list ds) := (pq_lst (w := 100) (k := 2) (m := 5) (n := 600) h hl (by decide)).up (Nat.le_refl _) (by decide)
theorem all_nil {P : PyData → Prop} : ∀ d ∈ ([] : List PyData), P d := fun d h => by cases h
theorem all_cons {P : PyData → Prop} {a : PyData} {l : List PyData} (h : P a) (k : ∀ d ∈ l, P d) : ∀ d ∈ a :: l, P d := fun d hd => (List.mem_cons.mp hd).elim (fun e => e ▸ h) (k d)

theorem odds_bad {ns : List Str} (hns : ("nowork" : Str) ∉ ns) (ps os : List (Str × Int)) (b h : Int) : ∀ d ∈ odds ps b h os, pricesD ns d = false := by
  intro d hd
  unfold odds at hd
  simp only [List.mem_append, List.mem_cons, List.not_mem_nil, or_false] at hd
  rcases hd with ((((((((rfl | rfl | rfl | rfl | rfl | rfl) | (rfl | rfl | rfl)) | (rfl | rfl | rfl)) | (rfl | rfl)) | (rfl | rfl)) | rfl) | (rfl | rfl | rfl)) | (rfl | rfl | rfl))
  · exact rfl
  · exact rfl
  · exact rfl
  · exact rfl
  · exact rfl
  · exact bad_n rfl
  · exact bad_n rfl
  · exact bad_b (by decide +kernel)
  · exact bad_h (by decide +kernel)
  · exact bad_b (by decide +kernel)
  · exact bad_h (by decide +kernel)
  · exact bad_h (by decide +kernel)
  · exact bad_n (by decide +kernel)
  · exact bad_n (by decide +kernel)
  · exact bad_n (by decide +kernel)
  · exact bad_n (by decide +kernel)
  · exact bad_n (by decide +kernel)
  · exact bad_w (by show (decide (("nowork" : Str) ∈ ns) && true) = false; rw [decide_eq_false hns]; rfl)
  · exact bad_o (by decide +kernel)
  · exact bad_o (by decide +kernel)
  · exact bad_o (by decide +kernel)
  · exact bad_n (by decide +kernel)
  · exact bad_n rfl
theorem odds_pq {ps os : List (Str × Int)} {b h : Int} (pk : PsOk 4 ps) (ok : PsOk 2 os) (b0 : 0 ≤ b) (b1 : b < 10) (h0 : 0 ≤ h) (h1 : h < 10) : ∀ d ∈ odds ps b h os, Pq 600 4 d := by
  have nq := ps_pq pk
  have lq := ps_pql pk
  have wq := ps_pq (ok.up (by decide))
  have bq : Pq 100 2 (.int b) := (pq_int10 b0 b1).up (by decide) (by decide)
  have hq : Pq 100 2 (.int h) := (pq_int10 h0 h1).up (by decide) (by decide)
  have fq : Pq 100 2 (.tuple fiveL) := pq_by (by decide +kernel)
  intro d hd
  unfold odds at hd
  simp only [List.mem_append, List.mem_cons, List.not_mem_nil, or_false] at hd
  rcases hd with ((((((((rfl | rfl | rfl | rfl | rfl | rfl) | (rfl | rfl | rfl)) | (rfl | rfl | rfl)) | (rfl | rfl)) | (rfl | rfl)) | rfl) | (rfl | rfl | rfl)) | (rfl | rfl | rfl))
  · exact (pq_by (by decide +kernel))
  · exact (pq_by (by decide +kernel))
  · exact pq_l (all_cons nq (all_cons bq (all_cons hq (all_cons wq all_nil)))) (by show 4 ≤ 5; decide)
  · exact pq_t (all_cons nq (all_cons bq (all_cons hq (all_cons wq (all_cons (pq_by (by decide +kernel)) all_nil))))) (by show 5 ≤ 5; decide)
  · exact pq_t (all_cons nq (all_cons bq (all_cons hq all_nil))) (by show 3 ≤ 5; decide)
  · exact pq_t (all_cons lq (all_cons bq (all_cons hq (all_cons wq all_nil)))) (by show 4 ≤ 5; decide)
  · exact pq_t (all_cons fq (all_cons bq (all_cons hq (all_cons wq all_nil)))) (by show 4 ≤ 5; decide)
  · exact pq_t (all_cons nq (all_cons (pq_by (by decide +kernel)) (all_cons hq (all_cons wq all_nil)))) (by show 4 ≤ 5; decide)
  · exact pq_t (all_cons nq (all_cons bq (all_cons (pq_by (by decide +kernel)) (all_cons wq all_nil)))) (by show 4 ≤ 5; decide)
  · exact pq_t (all_cons nq (all_cons (pq_by (by decide +kernel)) (all_cons hq (all_cons wq all_nil)))) (by show 4 ≤ 5; decide)
  · exact pq_t (all_cons nq (all_cons bq (all_cons (pq_by (by decide +kernel)) (all_cons wq all_nil)))) (by show 4 ≤ 5; decide)
  · exact pq_t (all_cons nq (all_cons bq (all_cons (pq_by (by decide +kernel)) (all_cons wq all_nil)))) (by show 4 ≤ 5; decide)
  · exact pq_t (all_cons (pq_by (by decide +kernel)) (all_cons bq (all_cons hq (all_cons wq all_nil)))) (by show 4 ≤ 5; decide)
  · exact pq_t (all_cons (pq_by (by decide +kernel)) (all_cons bq (all_cons hq (all_cons wq all_nil)))) (by show 4 ≤ 5; decide)
  · exact pq_t (all_cons (pq_by (by decide +kernel)) (all_cons bq (all_cons hq (all_cons wq all_nil)))) (by show 4 ≤ 5; decide)
  · exact pq_t (all_cons (pq_by (by decide +kernel)) (all_cons bq (all_cons hq (all_cons wq all_nil)))) (by show 4 ≤ 5; decide)
  · exact pq_t (all_cons (pq_by (by decide +kernel)) (all_cons bq (all_cons hq (all_cons wq all_nil)))) (by show 4 ≤ 5; decide)
  · exact pq_t (all_cons nq (all_cons bq (all_cons hq (all_cons (pq_by (by decide +kernel)) all_nil)))) (by show 4 ≤ 5; decide)
  · exact pq_t (all_cons nq (all_cons bq (all_cons hq (all_cons (pq_by (by decide +kernel)) all_nil)))) (by show 4 ≤ 5; decide)
  · exact pq_t (all_cons nq (all_cons bq (all_cons hq (all_cons (pq_by (by decide +kernel)) all_nil)))) (by show 4 ≤ 5; decide)
  · exact pq_t (all_cons nq (all_cons bq (all_cons hq (all_cons (pq_by (by decide +kernel)) all_nil)))) (by show 4 ≤ 5; decide)
  · exact pq_t (all_cons (pq_by (by decide +kernel)) (all_cons bq (all_cons hq (all_cons wq all_nil)))) (by show 4 ≤ 5; decide)
  · exact pq_t (all_cons (pq_by (by decide +kernel)) (all_cons bq (all_cons hq (all_cons wq all_nil)))) (by show 4 ≤ 5; decide)
end K50
set_option Elab.async false
set_option linter.all false
set_option maxRecDepth 100000
set_option maxHeartbeats 4400000
namespace K50
open PySem PySem.Spec PyProof.Rows L2 HX
open PySem.W (Frag)


def fl (ps : List (Str × Int)) (z : Str) : List Int := (ps.filter fun q => decide (V.str q.1 = V.str z)).map (·.2)
def lk1 (ps : List (Str × Int)) (z : Str) : Int := (fl ps z).headD 0
def lkS (ps : List (Str × Int)) (l : List Str) : Int := (l.map (lk1 ps)).sum
theorem lkS_snoc (ps : List (Str × Int)) (l : List Str) (z : Str) : lkS ps (l ++ [z]) = lkS ps l + lk1 ps z := by
  unfold lkS
  rw [List.map_append, List.sum_append]
  simp
theorem fl_nil {ps : List (Str × Int)} {z : Str} (h : fl ps z = []) : z ∉ ps.map (·.1) := fun hz => by
  obtain ⟨q, hq, rfl⟩ := List.mem_map.mp hz
  have : q ∈ ps.filter fun x => decide (V.str x.1 = V.str q.1) := List.mem_filter.mpr ⟨hq, decide_eq_true rfl⟩
  unfold fl at h
  rw [List.map_eq_nil_iff.mp h] at this
  cases this
theorem fl_mem {ps : List (Str × Int)} {z : Str} (h : fl ps z ≠ []) : z ∈ ps.map (·.1) := by
  unfold fl at h
  cases q : ps.filter fun x => decide (V.str x.1 = V.str z) with
  | nil => rw [q] at h; exact absurd rfl h
  | cons a r =>
    have ha : a ∈ ps.filter fun x => decide (V.str x.1 = V.str z) := by rw [q]; exact .head _
    obtain ⟨h1, h2⟩ := List.mem_filter.mp ha
    have e := of_decide_eq_true h2
    injection e with e
    exact List.mem_map.mpr ⟨a, h1, e⟩
theorem fl_len (ps : List (Str × Int)) (z : Str) : (fl ps z).length ≤ ps.length := by
  unfold fl
  rw [List.length_map]
  exact List.length_filter_le _ _
theorem fl_in {m : Nat} {ps : List (Str × Int)} (pk : PsOk m ps) (z : Str) : ∀ i ∈ fl ps z, 0 ≤ i ∧ i < 10 := fun i hi => by
  unfold fl at hi
  obtain ⟨q, hq, rfl⟩ := List.mem_map.mp hi
  exact pk.w q (List.mem_filter.mp hq).1
theorem dp_ints {K : Frag} {H : Hp} (is : List Int) : DpAll K H (is.map V.int) (is.map PyData.int) := by
  induction is with
  | nil => exact .nil
  | cons a r ih => exact .cons (.int a) ih
theorem lay_ints : ∀ is : List Int, PyData.canLayAll0 (is.map PyData.int) = true
  | [] => rfl
  | i :: is => by
    rw [List.map_cons]
    simp only [PyData.canLayAll0, PyData.canLay0, lay_ints is, Bool.and_self]
theorem shaped_ints {is : List Int} (h : ∀ i ∈ is, 0 ≤ i ∧ i < 10) (hl : is.length ≤ 4) : SeqAt.shaped (.list (is.map PyData.int)) = true := by
  have k := pq_lst (w := 8) (k := 0) (m := 4) (n := 36) (ds := is.map PyData.int) (fun d hd => by
    obtain ⟨i, hi, rfl⟩ := List.mem_map.mp hd
    exact pq_int10 (h i hi).1 (h i hi).2) (by rw [List.length_map]; exact hl) (by decide)
  unfold SeqAt.shaped
  have e : PyData.canLay0 (.list (is.map PyData.int)) = true := by simp only [PyData.canLay0]; exact lay_ints is
  rw [e, Bool.true_and]
  exact decide_eq_true (Nat.le_trans k.dp (by decide))
theorem eqv_nil (is : List Int) : PyData.eqv (.list (is.map PyData.int)) (.list []) = is.isEmpty := by
  cases is <;> simp [PyData.eqv, PyData.eqvAll]
def sel {α : Type} (a b : α) : Nat → α | 0 => a | _ => b
def dueI (ps : List (Str × Int)) (b h : Int) (os : List (Str × Int)) (gs : List Str) (kn he : Bool) (ws : List Str) : Int := ((b * (if (!kn) = true then 1 else 0) + h * (if he = true then 1 else 0)) + lkS ps gs) + lkS os ws
def spDue : Sp := fun vs H Q _ => ∃ (p q ag aw : Addr) (v : V) (ps os : List (Str × Int)) (b h : Int) (gs : List Str) (kn he : Bool) (ws : List Str), vs = [v, .ref q] ∧ Dz p H v (prD ps b h os) ∧ PsOk 4 ps ∧ PsOk 2 os ∧ 0 ≤ b ∧ b < 10 ∧ 0 ≤ h ∧ h < 10 ∧
  H q = some (.tup [.ref ag, .bl kn, .bl he, .ref aw]) ∧ H ag = some (.tup (gs.map V.str)) ∧ H aw = some (.tup (ws.map V.str)) ∧ gs.length ≤ 6 ∧ ws.length ≤ 6 ∧
  (amongB ps os gs ws = false → ∀ H', Ex H H' → Q .non H') ∧ (amongB ps os gs ws = true → ∀ H', Ex H H' → Q (.int (dueI ps b h os gs kn he ws)) H')

section
variable {P : Program} {w : World} {K : Frag} {mg : Str → Option Value} {base : Heap} {A : Ad}

theorem ok_due (T : Txt K mg A) : FnOk P w K mg base CX0 1 A.f_due A.d_due ["_law_prices", "_law_parts"] spDue := by
  refine T.F_due.ok sc_due (fun vs H Q E h => ?_) (fun cdv A0 outer s H vs Q E hr h => ?_)
  · obtain ⟨_, _, _, _, _, _, _, _, _, _, _, _, _, rfl, _⟩ := h
    rfl
  · have hu := hu_of hr
    obtain ⟨p, q, ag, aw, v, ps, os, b, h, gs, kn, he, ws, rfl, hz, pk, ok, b0, b1, h0, h1, hq, hag, haw, lg, lw, k1, k2⟩ := h
    refine ⟨_, (pss_cons (ps_asg (pv 0) (pg_tup rfl (pgs_cons (pg_name (i := 2) sc_due.nd rfl (Or.inl rfl)) (pgs_cons (pg_name (i := 3) sc_due.nd rfl (Or.inl rfl)) (pgs_cons (pg_name (i := 4) sc_due.nd rfl (Or.inl rfl)) (pgs_cons (pg_name (i := 5) sc_due.nd rfl (Or.inl rfl)) pgs_nil))))))
      (pss_cons (ps_set (i := 6) sc_due.nd rfl (Or.inl rfl) (pe_op op_add (pe_op op_mul (pv 3) (pe_callTy call_int1 (by rfl) T.g_int (by decide +kernel) (pa_cons (pe_not (pe_ix ix_tup (pv 1) pe_int (fun _ _ => rfl))) pa_nil))) (pe_op op_mul (pv 4) (pe_callTy call_int1 (by rfl) T.g_int (by decide +kernel) (pa_cons (pe_ix ix_tup (pv 1) pe_int (fun _ _ => rfl)) pa_nil)))))
      (pss_cons (ps_for PassesOwn.never rfl (pi_tup (pe_tup (pa_cons (pe_tup (pa_cons (pe_ix ix_tup (pv 1) pe_int (fun _ _ => rfl)) (pa_cons (pv 2) pa_nil))) (pa_cons (pe_tup (pa_cons (pe_ix ix_tup (pv 1) pe_int (fun _ _ => rfl)) (pa_cons (pv 5) pa_nil))) pa_nil)))) (pg_tup rfl (pgs_cons (pg_name (i := 7) sc_due.nd rfl (Or.inl rfl)) (pgs_cons (pg_name (i := 8) sc_due.nd rfl (Or.inl rfl)) pgs_nil))) (pss_one (ps_for PassesOwn.never rfl (pi_tup (pv 7)) (pg_name (i := 9) sc_due.nd rfl (Or.inr rfl)) (pss_cons (ps_setLc (i := 10) (own := [("_law_other", 11), ("_law_price", 12)]) (g := (gTup K 2 (gCons (gName 11) (gCons (gName 12) gNil)))) (by rfl) sc_due.nd rfl rfl (sw_true rfl rfl rfl (by decide +kernel)) (pi_tup (pv 8)) (blkOk_by (N := N_due) (sc := defScope s_due) (by decide +kernel)) (fun _ _ _ _ _ => pg_tup rfl (pgs_cons (pg_name (i := 11) sc_due.nd rfl (Or.inl rfl)) (pgs_cons (pg_name (i := 12) sc_due.nd rfl (Or.inl rfl)) pgs_nil))) (fun _ _ _ _ _ => pts_one (pt_cmpR op_eq (pv 11) (pv 9) (nomark _))) (fun _ _ _ _ _ => (pv 12)))
      (pss_cons (ps_if (pt_cmpR (op_eqD hr.units) (pv 10) (pe_lst pa_nil) (nomark _)) (pss_one (ps_ret pe_non)) pss_nil)
      (pss_one (ps_set (i := 6) sc_due.nd rfl (Or.inl rfl) (pe_op op_add (pv 6) (pe_ix ix_list (pv 10) pe_int (fun _ _ => rfl))))))))))
      (pss_one (ps_ret (pv 6)))))), ?_⟩
    obtain ⟨a, x, y, rfl, ha, zx, zy⟩ := pr_at hz
    refine ⟨_, rfl, a, _, rfl, SqT.of ha, rfl, _, _, rfl, _, _, rfl, _, _, rfl, _, _, rfl, rfl, ?_⟩
    refine ⟨_, rfl, _, rfl, q, _, _, _, rfl, rfl, SqT.of hq, rfl, _, rfl, .inr ⟨_, rfl, _, _, rfl, rfl, .inl ⟨by omega, by omega⟩, ?_⟩⟩
    refine ⟨_, rfl, _, rfl, q, _, _, _, rfl, rfl, SqT.of hq, rfl, .inr ⟨_, rfl, _, _, rfl, rfl, .inl ⟨by omega, by omega⟩, _, _, rfl, rfl, ?_⟩⟩
    obtain ⟨t0, et0⟩ : ∃ z : Int, z = b * (if (!kn) = true then 1 else 0) + h * (if he = true then 1 else 0) := ⟨_, rfl⟩
    refine nx_set ?_
    dsimp only
    rw [← et0]
    refine ⟨_, rfl, q, _, _, _, rfl, rfl, SqT.of hq, rfl, _, rfl, (by show 2 ≤ sizeLine; decide), fun c1 nc1 => ?_⟩
    obtain ⟨H1, E1⟩ : ∃ z, z = upd H c1 (.tup [.ref ag, x]) := ⟨_, rfl⟩
    have e1 : Ex H H1 := by rw [E1]; exact Ex.nw nc1
    have hc1 : H1 c1 = some (.tup [.ref ag, x]) := by rw [E1]; exact upd_same
    rw [← E1]
    refine ⟨_, rfl, q, _, _, _, rfl, rfl, SqT.of (e1 _ _ hq), rfl, _, rfl, (by show 2 ≤ sizeLine; decide), fun c2 nc2 => ?_⟩
    obtain ⟨H2, E2⟩ : ∃ z, z = upd H1 c2 (.tup [.ref aw, y]) := ⟨_, rfl⟩
    have e2 : Ex H1 H2 := by rw [E2]; exact Ex.nw nc2
    have hc2 : H2 c2 = some (.tup [.ref aw, y]) := by rw [E2]; exact upd_same
    rw [← E2]
    refine ⟨(by show 2 ≤ sizeLine; decide), fun tb ntb => ?_⟩
    obtain ⟨H3, E3⟩ : ∃ z, z = upd H2 tb (.tup [.ref c1, .ref c2]) := ⟨_, rfl⟩
    have e3 : Ex H2 H3 := by rw [E3]; exact Ex.nw ntb
    have htb : H3 tb = some (.tup [.ref c1, .ref c2]) := by rw [E3]; exact upd_same
    rw [← E3]
    have e13 : Ex H H3 := e1.tr (e2.tr e3)
    have hc1 := e3 _ _ (e2 _ _ hc1)
    have hc2 := e3 _ _ hc2
    have hag := e13 _ _ hag
    have haw := e13 _ _ haw
    have px := pairs_at2 (zx.ex e13)
    have py := pairs_at2 (zy.ex e13)
    clear E1 E2 E3 nc1 nc2 ntb e1 e2 e3 zx zy hq ha hz
    have gl : ∀ i, (sel gs ws i).length ≤ 6 := fun i => by cases i <;> assumption
    have pl : ∀ i, (sel ps os i).length ≤ 4 := fun i => by cases i with | zero => exact pk.l | succ n => exact Nat.le_trans ok.l (by decide)
    have pin : ∀ i z, ∀ n ∈ fl (sel ps os i) z, 0 ≤ n ∧ n < 10 := fun i z => by cases i with | zero => exact fl_in pk z | succ n => exact fl_in ok z
    have hsel : ∀ i, H3 (sel ag aw i) = some (.tup ((sel gs ws i).map V.str)) := fun i => by cases i <;> assumption
    have psel : ∀ i, PairsAt p H3 (sel x y i) ((sel ps os i).map iP) := fun i => by cases i <;> assumption
    obtain ⟨T, eT⟩ : ∃ T : Nat → Int, T = fun i => match i with | 0 => t0 | 1 => t0 + lkS ps gs | _ => t0 + lkS ps gs + lkS os ws := ⟨_, rfl⟩
    have T0 : T 0 = t0 := by rw [eT]; rfl
    have T2 : T 2 = t0 + lkS ps gs + lkS os ws := by rw [eT]; rfl
    have TS : ∀ i, i < 2 → T (i + 1) = T i + lkS (sel ps os i) (sel gs ws i) := fun i hi => by
      rw [eT]
      match i, hi with
      | 0, _ => rfl
      | 1, _ => rfl
    have fin0 : (amongB ps os gs ws = false) → ∀ H', Ex H3 H' → Q .non H' := fun e H' e' => k1 e _ (e13.tr e')
    have fin1 : amongB ps os gs ws = true → ∀ H', Ex H3 H' → Q (.int (T 2)) H' := fun e H' e' => by
      have := k2 e _ (e13.tr e')
      unfold dueI at this
      rw [T2, et0]; exact this
    rw [← T0]
    clear k1 k2 T0 T2 et0
    refine ⟨tb, rfl, ⟨_, SqT.of htb⟩, for_tup (xs := [.ref c1, .ref c2]) (fun i σ H' => (∃ u7 u8 u9 u10 u11 u12, σ = [some (.ref a), some (.ref q), some x, some (.int b), some (.int h), some y, some (.int (T i)), u7, u8, u9, u10, u11, u12]) ∧ Ex H3 H' ∧ ∀ j, j < i → ∀ z ∈ sel gs ws j, z ∈ (sel ps os j).map (·.1)) ⟨⟨_, _, _, _, _, _, rfl⟩, Ex.rf _, fun j hj => absurd hj (Nat.not_lt_zero _)⟩ (fun i σ H' _ q => SqT.of (q.2.1 _ _ htb)) ?_ ?_⟩
    rotate_left
    · rintro σ H' ⟨⟨u7, u8, u9, u10, u11, u12, rfl⟩, e', hall⟩
      refine ⟨_, rfl, fin1 ?_ _ e'⟩
      unfold amongB
      rw [Bool.and_eq_true]
      exact ⟨List.all_eq_true.mpr fun z hz => decide_eq_true (hall 0 (by show 0 < 2; decide) z hz), List.all_eq_true.mpr fun z hz => decide_eq_true (hall 1 (by show 1 < 2; decide) z hz)⟩
    rintro i xv σ H' hxi ⟨⟨u7, u8, u9, u10, u11, u12, rfl⟩, e', hall⟩
    have hi2 : i < 2 := (List.getElem?_eq_some_iff.mp hxi).1
    obtain ⟨c, rfl, hc⟩ : ∃ c, xv = .ref c ∧ H3 c = some (.tup [.ref (sel ag aw i), sel x y i]) := by
      match i, hxi with
      | 0, h => cases h; exact ⟨_, rfl, hc1⟩
      | 1, h => cases h; exact ⟨_, rfl, hc2⟩
    refine ⟨c, _, rfl, SqT.of (e' _ _ hc), rfl, _, _, rfl, _, _, rfl, rfl, ?_⟩
    have hsi := hsel i
    obtain ⟨an, yn, exy, han, ln, hn⟩ := psel i
    have gli := gl i; have pli := pl i; have pini := pin i; have TSi := TS i hi2
    have fin00 : ∀ z ∈ sel gs ws i, z ∉ (sel ps os i).map (·.1) → ∀ H', Ex H3 H' → Q .non H' := fun z hz hno => fin0 (by
      unfold amongB
      rw [Bool.and_eq_false_iff]
      match i, hi2, hz, hno with
      | 0, _, hz, hno => exact .inl (Bool.eq_false_iff.mpr fun q => hno (of_decide_eq_true (List.all_eq_true.mp q z hz)))
      | 1, _, hz, hno => exact .inr (Bool.eq_false_iff.mpr fun q => hno (of_decide_eq_true (List.all_eq_true.mp q z hz))))
    obtain ⟨GS, eGS⟩ : ∃ z, z = sel gs ws i := ⟨_, rfl⟩
    obtain ⟨PS, ePS⟩ : ∃ z, z = sel ps os i := ⟨_, rfl⟩
    obtain ⟨AG, eAG⟩ : ∃ z, z = sel ag aw i := ⟨_, rfl⟩
    rw [← eGS] at gli hsi TSi fin00
    rw [← ePS] at pli pini ln hn TSi fin00
    rw [← eAG] at hsi ⊢
    rw [exy]
    rw [List.length_map] at ln
    have lgm : (GS.map V.str).length = GS.length := List.length_map ..
    refine ⟨_, rfl, AG, rfl, ⟨_, SqT.of (e' _ _ hsi)⟩, for_tup (xs := GS.map V.str) (fun j σ H4 => (∃ u9 u10 u11 u12, σ = [some (.ref a), some (.ref q), some x, some (.int b), some (.int h), some y, some (.int (T i + lkS PS (GS.take j))), some (.ref AG), some (.ref an), u9, u10, u11, u12]) ∧ Ex H3 H4 ∧ ∀ z ∈ GS.take j, z ∈ PS.map (·.1)) ⟨⟨_, _, _, _, by rw [show T i + lkS PS (GS.take 0) = T i from Int.add_zero _]; rfl⟩, e', fun z hz => by cases hz⟩ (fun j σ H4 _ q => SqT.of (q.2.1 _ _ hsi)) ?_ ?_⟩
    rotate_left
    · rintro σ H4 ⟨⟨u9, u10, u11', u12', rfl⟩, e4, hj⟩
      rw [lgm, List.take_length] at hj ⊢
      refine ⟨⟨_, _, _, _, _, _, by rw [TSi]⟩, e4, fun j hji z hz => ?_⟩
      by_cases hje : j = i
      · subst hje
        rw [← eGS] at hz
        rw [← ePS]
        exact hj z hz
      · exact hall j (by omega) z hz
    rintro j zv σ H4 hxj ⟨⟨u9, u10, u11', u12', rfl⟩, e4, hj⟩
    rw [List.getElem?_map] at hxj
    obtain ⟨z, hz, rfl⟩ := Option.map_eq_some_iff.mp hxj
    have han4 := e4 _ _ han
    refine ⟨_, rfl, an, rfl, ⟨_, SqT.of han4⟩, fun D nD => lc_fy (walk_tup (xs := yn)) (fun i => decide (V.str (PS[i]?.getD ("", 0)).1 = V.str z)) (fun i => .int (PS[i]?.getD ("", 0)).2) (by omega) nD (fun H' e => SqT.of (e _ _ han4)) (fun i x2 H5 Kq Kn hj hx2 e kq kn2 => ?_) (fun H5 e5 hD => ?_)⟩
    · obtain ⟨w', c5, u, hq5, rfl, hc5, hu5⟩ := hn i x2 hx2
      rw [List.getElem?_map] at hq5
      obtain ⟨⟨z5, j5⟩, hw5, rfl⟩ := Option.map_eq_some_iff.mp hq5
      obtain rfl := (hu5 : Dz p H3 u (.int j5)).intI
      rw [hw5] at kq kn2
      refine ⟨c5, _, rfl, SqT.of (e _ _ (e4 _ _ hc5)), rfl, _, _, rfl, _, _, rfl, rfl, rfl, _, rfl, _, rfl, rfl, ?_⟩
      by_cases m : V.str z5 = V.str z
      · exact ⟨_, rfl, HX.if_true (decide_eq_true m) ⟨_, rfl, kq (decide_eq_true m)⟩⟩
      · exact ⟨_, rfl, HX.if_false (decide_eq_false m) (kn2 (decide_eq_false m))⟩
    have c1' := flt_rng (fun q : Str × Int => decide (V.str q.1 = V.str z)) (fun q => V.int q.2) PS (fun i => decide (V.str (PS[i]?.getD ("", 0)).1 = V.str z)) (fun i => .int (PS[i]?.getD ("", 0)).2) (fun i a h => ⟨by rw [h]; rfl, by rw [h]; rfl⟩)
    rw [ln, c1'] at hD
    have m1 : (PS.filter fun q => decide (V.str q.1 = V.str z)).map (fun q => V.int q.2) = (fl PS z).map V.int := by unfold fl; rw [List.map_map]; rfl
    rw [m1] at hD
    have hfl := fl_len PS z
    refine ⟨_, rfl, (by show 0 ≤ sizeLine; decide), fun t5 nt5 => ?_⟩
    obtain ⟨H6, E6⟩ : ∃ z, z = upd H5 t5 (.lst []) := ⟨_, rfl⟩
    have e6 : Ex H5 H6 := by rw [E6]; exact Ex.nw nt5
    have ht5 : H6 t5 = some (.lst []) := by rw [E6]; exact upd_same
    rw [← E6]
    have hD6 := e6 _ _ hD
    have e46 := e5.tr e6
    refine ⟨_, _, .lst (SqL.of hD6) (dp_ints _), .lst (SqL.of ht5) .nil, shaped_ints (pini z) (by omega), (by decide), _, rfl, ?_⟩
    rw [eqv_nil]
    have hzG : z ∈ GS := List.mem_of_getElem? hz
    cases hf : fl PS z with
    | nil =>
      refine HX.if_true rfl ?_
      exact fin00 z hzG (fl_nil hf) _ (e4.tr e46)
    | cons n0 r =>
      refine HX.if_false rfl ?_
      rw [hf] at hD6
      refine ⟨_, rfl, _, rfl, D, _, _, _, rfl, rfl, SqL.of hD6, atI_nat (show ((n0 :: r).map V.int)[0]? = some (V.int n0) from rfl), _, _, rfl, rfl, ?_⟩
      have tk : GS.take (j + 1) = GS.take j ++ [z] := by rw [List.take_add_one, hz]; rfl
      have et : T i + lkS PS (GS.take (j + 1)) = T i + lkS PS (GS.take j) + n0 := by
        rw [tk, lkS_snoc, ← Int.add_assoc, show lk1 PS z = n0 by unfold lk1; rw [hf]; rfl]
      refine ⟨⟨some (.str z), some (.ref D), u11', u12', by rw [et]; rfl⟩, e4.tr e46, fun z' hz' => ?_⟩
      rw [tk] at hz'
      rcases List.mem_append.mp hz' with h' | h'
      · exact hj z' h'
      · rw [List.mem_singleton.mp h']
        exact fl_mem (by rw [hf]; exact List.cons_ne_nil _ _)
end
end K50
set_option Elab.async false
set_option linter.all false
set_option maxRecDepth 100000
set_option maxHeartbeats 4400000
namespace K50
open PySem PySem.Spec PyProof.Rows L2 HX
open PySem.W (Frag)

open LamX
theorem rises_pw : ∀ (ss : List Str), rises ss = true ↔ ss.Pairwise (fun a b => a.cps.toList < b.cps.toList)
  | [] => ⟨fun _ => .nil, fun _ => rfl⟩
  | [a] => ⟨fun _ => by simp, fun _ => rfl⟩
  | a :: b :: r => by
    have ih := rises_pw (b :: r)
    rw [List.pairwise_cons]
    constructor
    · intro h
      obtain ⟨h1, h2⟩ := Bool.and_eq_true_iff.mp (show (decide (a.cps.toList < b.cps.toList) && rises (b :: r)) = true from h)
      have p := ih.mp h2
      have l1 := of_decide_eq_true h1
      refine ⟨fun c hc => ?_, p⟩
      rcases List.mem_cons.mp hc with e | hc
      · rw [e]; exact l1
      · exact List.lt_trans l1 ((List.pairwise_cons.mp p).1 c hc)
    · intro h
      exact Bool.and_eq_true_iff.mpr ⟨decide_eq_true (h.1 b (.head _)), ih.mpr h.2⟩
theorem q_neb2 {z y : Str} (h : z = y) : (!decide (V.str z = V.str y)) = false := by subst h; exact q_neb
theorem xn_tup {H H' : Hp} {p b : Addr} {xs : List V} {n : Int} (h : H b = some (.tup xs)) (hp : PotAt H p n) (e : XN p H H') : H' b = some (.tup xs) := by
  obtain ⟨ys, hy⟩ : ∃ ys, H p = some (.lst ys) := let ⟨_, _, _, z, _⟩ := hp; ⟨_, z⟩
  exact e _ _ (ne_of h hy (by intro z; cases z)) (fun _ z => by cases z) h
theorem xn_te {H H' : Hp} {p : Addr} {n : Int} (hp : PotAt H p n) (e : XN p H H') : TupK H H' := fun _ _ h => xn_tup h hp e
theorem xn_mu {p D : Addr} {H H' : Hp} {o : HO} (e : XN p H H') (h : H D = none) : XN p H (upd H' D o) := fun a u n t ha => by
  rw [upd_ne (ne_of_none ha h)]
  exact e a u n t ha
theorem okT {P : Program} {w : World} {K : PySem.W.Frag} {mg : Str → Option Value} {base : Heap} {x qual : Str} {st : Stmt} {f c : Addr} {fd : FuncData} {N ps : List Str} {k : Nat} {sp : Sp} (F : Fun K x qual st f fd) (S : FnScope N ps (defScope st)) (hc : fd.code = .ref c) (len : ∀ vs H Q E, sp vs H Q E → vs.length = ps.length)
    (hbody : ∀ (A : Around) (outer : List Env) (s : Shared) (H : Hp) (vs : List V) (Q : VK) (E : XK), Room k (A.deeper (envOfC qual (defScope st) s.heap.objs.size f (.ref c))) → sp vs H Q E →
      ∃ t, PSs (cxOf CX0 P w K mg base N qual (defScope st) f (.ref c) A outer s H E).nox (defBody st) t ∧ t { nx := fun _ H' => Q .non H', rt := Q } (L2.start N vs) H) : FnOk P w K mg base CX0 (k + 1) f fd ps sp := by
  obtain ⟨oc, od, kV, doc, pm, an, cdv, ct, osl, rfl, lk, hcd⟩ := F.ex
  have e : cdv = .ref c := hc
  subst e
  exact ⟨len, fun A o s H args us vs Q E hr e0 hb r hsp => LamX.run_ofS lk hcd S hr e0 hb r (len _ _ _ _ hsp) fun hr' => let ⟨t, p, q⟩ := hbody A o s H vs Q E hr' hsp; ⟨t, p.nox, q⟩⟩
theorem tabs_pot {T : List (Addr × Str)} {p : Addr} {H H' : Hp} {n : Int} (t : Tabs T H) (hp : PotAt H p n) (e : XB p H H') : Tabs T H' := let ⟨_, _, _, z, _⟩ := hp; tabs_xb t z e
theorem PotAt.en {H H' : Hp} {p : Addr} {n : Int} (h : PotAt H p n) (e : ExtN H H') : PotAt H' p n := let ⟨a, b, c, h0, hr⟩ := h; ⟨a, b, c, e _ _ h0 (fun _ z => by cases z), hr⟩
theorem en_mu {H H' : Hp} {f : Addr} {o : HO} (e : ExtN H H') (h : H' f = none) : ExtN H (upd H' f o) := e.trans fun b u hb _ => Ex.nw h b u hb

/-! ### a price, told in two ways -/
theorem nodup_of {ss : List Str} (h : rises ss = true) : ss.Nodup := ((rises_pw ss).mp h).imp fun {a b} l e => by
  subst e
  exact List.lt_irrefl _ l
theorem costL_cons {ps : List (Str × Int)} {z : Str} {gs : List Str} (hz : z ∉ gs) : costL ps (z :: gs) = (fl ps z).sum + costL ps gs := by
  induction ps with
  | nil => rfl
  | cons q r ih =>
    unfold costL fl at ih ⊢
    simp only [List.filter_cons]
    by_cases h1 : q.1 = z
    · have h2 : q.1 ∉ gs := by rw [h1]; exact hz
      rw [if_pos (by rw [h1]; simp), if_pos (by rw [h1]; simp), if_neg (by simp [h2])]
      simp only [List.map_cons, List.sum_cons, ih]
      omega
    · have h3 : ¬ V.str q.1 = V.str z := fun e => h1 (by injection e)
      by_cases h2 : q.1 ∈ gs
      · rw [if_pos (by simp [h2]), if_neg (by simp [h3]), if_pos (by simp [h2])]
        simp only [List.map_cons, List.sum_cons, ih]
        omega
      · rw [if_neg (by simp [h1, h2]), if_neg (by simp [h3]), if_neg (by simp [h2])]
        exact ih
theorem fl_none {ps : List (Str × Int)} {z : Str} (h : z ∉ ps.map (·.1)) : fl ps z = [] := by
  by_cases q : fl ps z = []
  · exact q
  · exact absurd (fl_mem q) h
theorem fl_sum {z : Str} : ∀ {ps : List (Str × Int)}, (ps.map (·.1)).Nodup → (fl ps z).sum = lk1 ps z
  | [], _ => rfl
  | q :: r, h => by
    rw [List.map_cons, List.nodup_cons] at h
    by_cases h1 : q.1 = z
    · have e : fl (q :: r) z = q.2 :: fl r z := by
        unfold fl
        rw [List.filter_cons, if_pos (by rw [h1]; simp)]; rfl
      rw [h1] at h
      unfold lk1
      rw [e, fl_none h.1]
      simp
    · have h3 : ¬ V.str q.1 = V.str z := fun e => h1 (by injection e)
      have e : fl (q :: r) z = fl r z := by
        unfold fl
        rw [List.filter_cons, if_neg (by simp [h3])]
      have ih := fl_sum (z := z) h.2
      unfold lk1 at ih ⊢
      rw [e]; exact ih
theorem costL_lkS {ps : List (Str × Int)} (hp : (ps.map (·.1)).Nodup) : ∀ {gs : List Str}, gs.Nodup → costL ps gs = lkS ps gs
  | [], _ => by
    have e : (ps.filter fun q => decide (q.1 ∈ ([] : List Str))) = [] := by simp
    unfold costL lkS
    rw [e]; rfl
  | z :: gs, h => by
    rw [List.nodup_cons] at h
    rw [costL_cons h.1, fl_sum hp, costL_lkS hp h.2]
    unfold lkS
    simp
theorem due_cost {ps os : List (Str × Int)} {gs ws : List Str} (b h : Int) (kn he : Bool) (pk : PsOk 4 ps) (ok : PsOk 2 os) (hg : gs.Nodup) (hw : ws.Nodup) : dueI ps b h os gs kn he ws = costI ps b h os gs kn he ws := by
  unfold dueI costI
  rw [costL_lkS (nodup_of pk.r) hg, costL_lkS (nodup_of ok.r) hw]
  cases kn <;> cases he <;> simp <;> omega
theorem costL_bd {m : Nat} {ps : List (Str × Int)} (pk : PsOk m ps) (gs : List Str) : 0 ≤ costL ps gs ∧ costL ps gs ≤ 9 * (m : Int) := by
  have h : ∀ qs : List (Str × Int), (∀ q ∈ qs, 0 ≤ q.2 ∧ q.2 < 10) → 0 ≤ costL qs gs ∧ costL qs gs ≤ 9 * (qs.length : Int) := by
    intro qs
    induction qs with
    | nil => intro _; exact ⟨Int.le_refl _, Int.le_refl _⟩
    | cons q r ih =>
      intro hq
      obtain ⟨a, b⟩ := ih fun x hx => hq x (.tail _ hx)
      have c := hq q (.head _)
      unfold costL at a b ⊢
      rw [List.filter_cons, List.length_cons]
      split
      · rw [List.map_cons, List.sum_cons]; omega
      · push_cast; omega
  have := h ps pk.w
  have := pk.l
  omega
theorem costI_bd {ps os : List (Str × Int)} {b h : Int} (gs ws : List Str) (kn he : Bool) (pk : PsOk 4 ps) (ok : PsOk 2 os) (b0 : 0 ≤ b) (b1 : b < 10) (h0 : 0 ≤ h) (h1 : h < 10) : 0 ≤ costI ps b h os gs kn he ws ∧ costI ps b h os gs kn he ws < 100 := by
  have a := costL_bd pk gs
  have c := costL_bd ok ws
  unfold costI
  constructor <;> split <;> split <;> omega
theorem pq_int100 {i : Int} (h0 : 0 ≤ i) (h1 : i < 100) : Pq 8 0 (.int i) := by
  have : (List.range 100).all (fun n => (PyData.int (n : Int)).showable && (decide ((PyData.int (n : Int)).depth ≤ 0) && ((PyData.int (n : Int)).leavesShort 24 && decide ((PyData.int (n : Int)).weight ≤ 8)))) = true := by decide +kernel
  obtain ⟨n, rfl⟩ := Int.eq_ofNat_of_zero_le h0
  have q := List.all_eq_true.mp this n (List.mem_range.mpr (by omega))
  simp only [Bool.and_eq_true, decide_eq_true_eq] at q
  exact ⟨q.1, q.2.1, q.2.2.1, q.2.2.2⟩
/-! ### names that were drawn -/
theorem gok_sub {m : Nat} {ss gs : List Str} (h : gs.Sublist ss) (hn : ss.all nameOk = true) (hr : rises ss = true) (hl : gs.length ≤ m) : gOk m gs = true := by
  unfold gOk
  rw [decide_eq_true hl, Bool.true_and, Bool.and_eq_true]
  exact ⟨List.all_eq_true.mpr fun z hz => List.all_eq_true.mp hn z (h.subset hz), (rises_pw gs).mpr (((rises_pw ss).mp hr).sublist h)⟩
theorem gok_all {m : Nat} {gs : List Str} (h : gOk m gs = true) : gs.length ≤ m ∧ gs.all nameOk = true ∧ rises gs = true := by
  unfold gOk at h
  simp only [Bool.and_eq_true, decide_eq_true_eq] at h
  exact ⟨h.1, h.2.1, h.2.2⟩
theorem gok_nodup {m : Nat} {gs : List Str} (h : gOk m gs = true) : gs.Nodup := nodup_of (gok_all h).2.2
theorem psok_of {m : Nat} {ps : List (Str × Int)} (h : gOk m (ps.map (·.1)) = true) (hw : ∀ q ∈ ps, 0 ≤ q.2 ∧ q.2 < 10) : PsOk m ps := by
  obtain ⟨a, b, c⟩ := gok_all h
  exact ⟨by rw [List.length_map] at a; exact a, fun q hq => List.all_eq_true.mp b _ (List.mem_map.mpr ⟨q, hq, rfl⟩), c, hw⟩
theorem pairsD_ok {m : Nat} {ps : List (Str × Int)} (pk : PsOk m ps) : pairsD (.tuple (ps.map iD)) m = true := by
  show (decide (((ps.map iD).length : Int) ≤ m) && ((ps.map iD).all pairD && rises ((ps.map iD).map fun x => strD (fstD x)))) = true
  have l := pk.l
  rw [decide_eq_true (by rw [List.length_map]; omega), Bool.true_and, Bool.and_eq_true]
  refine ⟨List.all_eq_true.mpr fun d hd => ?_, ?_⟩
  · obtain ⟨q, hq, rfl⟩ := List.mem_map.mp hd
    exact pk.n q hq
  · rw [List.map_map]
    exact pk.r
theorem psOf_iD (ps : List (Str × Int)) : psOf (.tuple (ps.map iD)) = ps.map iP := by rw [iD_pairs, ps_pd]
theorem pricedD_ok {m : Nat} {ps : List (Str × Int)} (pk : PsOk m ps) : pricedD (.tuple (ps.map iD)) m = true := by
  unfold pricedD
  rw [pairsD_ok pk, Bool.true_and, psOf_iD]
  refine List.all_eq_true.mpr fun q hq => ?_
  obtain ⟨w, hw, rfl⟩ := List.mem_map.mp hq
  have := pk.w w hw
  show (decide (0 ≤ w.2) && decide (w.2 < 10)) = true
  rw [decide_eq_true this.1, decide_eq_true this.2]; rfl
theorem prices_ok {ns : List Str} {ps os : List (Str × Int)} {b h : Int} (pk : PsOk 4 ps) (ok : PsOk 2 os) (b0 : 0 ≤ b) (b1 : b < 10) (h0 : 0 ≤ h) (h1 : h < 10) (hn : ∀ q ∈ os, q.1 ∈ ns) : pricesD ns (prD ps b h os) = true := by
  unfold prD
  rw [four, show pricedD (.tuple (ps.map iD)) 4 = true from pricedD_ok pk, show pricedD (.tuple (os.map iD)) 2 = true from pricedD_ok ok, psOf_iD]
  have e1 : wholeD (.int b) 0 10 = true := by show (decide (0 ≤ b) && decide (b < 10)) = true; rw [decide_eq_true b0, decide_eq_true b1]; rfl
  have e2 : wholeD (.int h) 0 10 = true := by show (decide (0 ≤ h) && decide (h < 10)) = true; rw [decide_eq_true h0, decide_eq_true h1]; rfl
  rw [e1, e2]
  show ((os.map iP).all fun q => decide (q.1 ∈ ns)) = true
  refine List.all_eq_true.mpr fun q hq => ?_
  obtain ⟨w, hw, rfl⟩ := List.mem_map.mp hq
  exact decide_eq_true (hn w hw)
theorem prD_pq {ps os : List (Str × Int)} {b h : Int} (pk : PsOk 4 ps) (ok : PsOk 2 os) (b0 : 0 ≤ b) (b1 : b < 10) (h0 : 0 ≤ h) (h1 : h < 10) : Pq 600 4 (prD ps b h os) :=
  pq_t (all_cons (ps_pq pk) (all_cons ((pq_int10 b0 b1).up (by decide) (by decide)) (all_cons ((pq_int10 h0 h1).up (by decide) (by decide)) (all_cons (ps_pq (ok.up (by decide))) all_nil)))) (by show 4 ≤ 5; decide)
abbrev SS : List Str := ["a", "b", "e", "guard", "known", "own"]
theorem ss_n : SS.all nameOk = true := by decide +kernel
theorem ss_r : rises SS = true := by decide +kernel
/-- the works' names -/
inductive PairN : List Str → Prop
  | one : PairN ["f"]
  | two : PairN ["f", "g"]
  | three : PairN ["f", "g", "h"]
theorem PairN.ok {ns : List Str} (h : PairN ns) : WsOk ns := by cases h <;> exact ⟨by decide, by decide, by decide +kernel, by decide +kernel⟩
theorem PairN.no {ns : List Str} (h : PairN ns) : ("nowork" : Str) ∉ ns := by cases h <;> decide +kernel
theorem PairN.le {ns : List Str} (h : PairN ns) : ns.length ≤ 3 := h.ok.l3
def noS (b : Bool) : List Str := if b = true then ["no"] else []
theorem PairN.more {ns : List Str} (h : PairN ns) (b : Bool) : (ns ++ noS b).all nameOk = true ∧ rises (ns ++ noS b) = true ∧ (ns ++ noS b).length ≤ 4 := by
  cases h <;> cases b <;> exact ⟨by decide +kernel, by decide +kernel, by decide⟩
/-- two tuples that hold something, one behind the other -/
theorem cat_ne {K : Frag} {a b : Addr} {x y : V} {xs ys : List V} {H : Hp} {Q : VK} (ha : H a = some (.tup (x :: xs))) (hb : H b = some (.tup (y :: ys))) (hl : (x :: xs).length + (y :: ys).length < 1000) (k : ∀ c, H c = none → Q (.ref c) (upd H c (.tup ((x :: xs) ++ (y :: ys))))) : rCatA K (.ref a) (.ref b) H Q :=
  ⟨a, b, _, _, rfl, rfl, SqT.of ha, SqT.of hb, lt_line hl, fun h => by simp at h, fun _ h => by simp at h, fun _ _ c nc => k c nc⟩
/-- triples of a name, a lambda, no kinds -/
def Tr (ws : List Str) (H : Hp) (xs : List V) : Prop := ∀ (i : Nat) (x : V), xs[i]? = some x → ∃ s b t, ws[i]? = some s ∧ x = .ref b ∧ H b = some (.tup [.str s, t, .str ""])
theorem Tr.te {ws : List Str} {H H' : Hp} {xs : List V} (h : Tr ws H xs) (e : TupK H H') : Tr ws H' xs := fun i x hx => let ⟨s, b, t, h1, h2, h3⟩ := h i x hx; ⟨s, b, t, h1, h2, e _ _ h3⟩
theorem en_te {H H' : Hp} (e : ExtN H H') : TupK H H' := fun a xs h => e _ _ h fun _ z => by cases z
abbrev lamQ (A : Ad) : Str := (envOfC ("_law_right" : Str) (defScope s_right) 0 A.f_right (.ref A.c_right)).qual ++ "<lambda>"
abbrev Tb (A : Ad) : List (Addr × Str) := [(A.P_right, lamQ A)]
def spRight (A : Ad) : Sp := fun vs H Q _ => ∃ (p : Addr) (N : Int), vs = [.ref p] ∧ PotAt H p N ∧ N ≤ 60000 ∧ Tabs (Tb A) H ∧ ∀ H', XN p H H' → Tabs (Tb A) H' → PotAt H' p (N + 400) → Q (.bl true) H'

end K50
set_option Elab.async false
set_option linter.all false
set_option maxRecDepth 100000
set_option maxHeartbeats 4400000
namespace K50
open PySem PySem.Spec PyProof.Rows L2 HX
open PySem.W (Frag)


open LamX
theorem joinS {c : Bool} {R : L2.St → Hp → Prop} {t1 t2 : TS} {D : Ends} {σ : L2.St} {H : Hp} (hA : c = true → ∀ D' : Ends, (∀ σ' G, R σ' G → D'.nx σ' G) → t1 D' σ H) (hB : c = false → ∀ D' : Ends, (∀ σ' G, R σ' G → D'.nx σ' G) → t2 D' σ H) (h : ∀ σ' G, R σ' G → D.nx σ' G) : if c = true then t1 D σ H else t2 D σ H := by
  cases c with
  | true => exact HX.if_true rfl (hA rfl _ h)
  | false => exact HX.if_false rfl (hB rfl _ h)
theorem dz_two {p a : Addr} {H : Hp} {x y : V} {d e : PyData} (h : H a = some (.tup [x, y])) (hx : Dz p H x d) (hy : Dz p H y e) : Dz p H (.ref a) (.tuple [d, e]) := .tup h rfl fun i v d' a b => by
  match i, a, b with
  | 0, a, b => cases a; cases b; exact hx
  | 1, a, b => cases a; cases b; exact hy
  | n + 2, a, b => simp at a
theorem no_part {σ : L2.St} {H : Hp} {Q : Option Int → Hp → Prop} (h : Q none H) : tNoPart σ H Q := h
/-- a part of a tuple of names -/
theorem sl_names {K : Frag} {t : Addr} {H : Hp} {lo hi : Option Int} {Q : VK} {gs : List Str} (ht : H t = some (.tup (gs.map V.str))) (k : ∀ (c : Addr) (gs' : List Str) (H' : Hp), Ex H H' → H' c = some (.tup (gs'.map V.str)) → gs'.Sublist gs → Q (.ref c) H') : rSlA K (.ref t) lo hi H Q :=
  ⟨t, _, rfl, SqT.of ht, fun _ => k t gs H (Ex.rf _) ht (List.Sublist.refl _), fun _ b nb => by
    unfold cutV
    rw [← List.map_drop, ← List.map_take]
    exact k b _ _ (Ex.nw nb) upd_same ((List.take_sublist _ _).trans (List.drop_sublist _ _))⟩
theorem prD_inj {ps os ps' os' : List (Str × Int)} {b h b' h' : Int} (e : prD ps b h os = prD ps' b' h' os') : ps = ps' ∧ b = b' ∧ h = h' ∧ os = os' := by
  have inj : ∀ x y : Str × Int, iD x = iD y → x = y := fun x y e => by
    obtain ⟨x1, x2⟩ := x; obtain ⟨y1, y2⟩ := y
    unfold iD pD iP at e
    simp only [PyData.tuple.injEq, List.cons.injEq, PyData.str.injEq, PyData.int.injEq, and_true] at e
    rw [e.1, e.2]
  unfold prD at e
  simp only [PyData.tuple.injEq, List.cons.injEq, PyData.int.injEq, and_true] at e
  exact ⟨(List.map_inj_right inj).mp e.1, e.2.1, e.2.2.1, (List.map_inj_right inj).mp e.2.2.2⟩
theorem en_mu0 {H H' : Hp} {f : Addr} {o : HO} (e : ExtN H H') (h : H f = none) : ExtN H (upd H' f o) := fun b u hb n => by
  rw [upd_ne (ne_of_none hb h)]
  exact e b u hb n
theorem Tr.snoc {ws : List Str} {H : Hp} {xs : List V} {i : Nat} {b : Addr} {s : Str} {t : V} (h : Tr ws H xs) (hl : xs.length = i) (hs : ws[i]? = some s) (hb : H b = some (.tup [.str s, t, .str ""])) : Tr ws H (xs ++ [.ref b]) := fun j x hx => by
  by_cases hj : j < xs.length
  · rw [List.getElem?_append_left hj] at hx
    exact h j x hx
  · have hj2 : j = i := by
      have := (List.getElem?_eq_some_iff.mp hx).1
      rw [List.length_append] at this
      simp at this
      omega
    subst hj2
    rw [List.getElem?_append_right (by omega), hl, Nat.sub_self] at hx
    cases hx
    exact ⟨s, b, t, hs, rfl, hb⟩
theorem WAt.te6 {K : Frag} {C x : Addr} {H H' : Hp} (h : WAt K C H x) (e : ExtN H H') : WAt K C H' x := let ⟨dx, t1, t2, kn, vd, ve, h1, h2, h3, h4⟩ := h; ⟨dx, t1, t2, kn, vd, ve, e _ _ h1 (fun _ z => by cases z), en_te e _ _ h2, en_te e _ _ h3, h4⟩
theorem WAt.pot {K : Frag} {C x p : Addr} {H H' : Hp} {n : Int} (h : WAt K C H x) (hp : PotAt H p n) (e : XB p H H') : WAt K C H' x := by
  obtain ⟨dx, t1, t2, kn, vd, ve, h1, h2, h3, h4⟩ := h
  obtain ⟨ys, hy⟩ : ∃ ys, H p = some (.lst ys) := let ⟨_, _, _, z, _⟩ := hp; ⟨_, z⟩
  exact ⟨dx, t1, t2, kn, vd, ve, e _ _ (ne_of h1 hy (by intro z; cases z)) h1, e.te hy _ _ h2, e.te hy _ _ h3, h4⟩
theorem SAt.pot {C x p : Addr} {H H' : Hp} {ws : List Str} {n : Int} (h : SAt C H x ws) (hp : PotAt H p n) (e : XB p H H') : SAt C H' x ws := let ⟨_, _, _, z, _⟩ := hp; h.xb z e
theorem PlanAt.pot {K : Frag} {C x p : Addr} {H H' : Hp} {gs ws : List Str} {kn he : Bool} {n : Int} (h : PlanAt K C H x gs kn he ws) (hp : PotAt H p n) (e : XB p H H') : PlanAt K C H' x gs kn he ws := let ⟨_, _, _, z, _⟩ := hp; h.xb z e

section
variable {P : Program} {w : World} {K : Frag} {mg : Str → Option Value} {base : Heap} {A : Ad}

theorem ok_right (T : Txt K mg A) (TB : TabB base mg A.c_right A.P_right) : FnG P w K mg base CX0 9 A.f_right A.d_right ["_law_pot"] (spRight A) := by
  obtain ⟨kw, FW, nkw⟩ := T.F_World_init
  obtain ⟨kg, ko, FD, ng, no⟩ := T.F_Plan_init
  refine okGT T.F_right sc_right T.dc_right (fun vs H Q E h => ?_) (fun A0 outer s H vs Q E hgd0 hr h => ?_)
  · obtain ⟨_, _, rfl, _⟩ := h
    rfl
  · have hu := hu_of hr
    have hgd : (A0.deeper (envOfC "_law_right" (defScope s_right) s.heap.objs.size A.f_right (.ref A.c_right))).guards = some [] := hgd0
    obtain ⟨p, N, rfl, hp, hN, hT, k⟩ := h
    refine ⟨_, (pss_cons (ps_set (i := 1) sc_right.nd rfl (Or.inl rfl) (pe_call (ok_of T) (hr.mono (by decide)) (by rfl) T.m_of T.F_of.kp T.b_of .nil pass0 (pa_cons (pv 0) (pa_cons (pe_lstN (pa_cons (pe_tup (pa_cons pe_str pa_nil)) (pa_cons (pe_tup (pa_cons pe_str (pa_cons pe_str pa_nil))) (pa_cons (pe_tup (pa_cons pe_str (pa_cons pe_str (pa_cons pe_str pa_nil)))) pa_nil)))) pa_nil))))
      (pss_cons (ps_set (i := 2) sc_right.nd rfl (Or.inl rfl) (pe_make T.mk_Setup (ok_Setup_init T) (hr.mono (by decide)) (by rfl) T.m_Setup T.b_Setup_init .nil pass0 (pa_cons (pe_make T.mk_World (ok_World_init T) (hr.mono (by decide)) (by rfl) T.m_World (wbn FW).choose_spec.2 (wbn FW).choose_spec.1 pass0 (pa_cons pe_int (pa_cons pe_int (pa_cons (pe_tup pa_nil) (pa_cons (pe_tup pa_nil) pa_nil))))) (pa_cons (pe_callTy call_tuple_of (by rfl) T.g_tuple (by decide +kernel) (pa_cons (pe_lc (own := [("_law_name", 12)]) (g := (gName 12)) (tt := tYes) rfl sc_right.nd (pi_tup (pv 1)) (blkOk_by (N := N_right) (sc := defScope s_right) (by decide +kernel)) (fun _ _ _ _ _ => pg_name (i := 12) sc_right.nd rfl (Or.inl rfl)) (fun _ _ _ _ _ => pts_nil) (fun _ _ _ _ _ => (pe_tup (pa_cons (pv 12) (pa_cons (pe_lamV (T := Tb A) TB rfl (List.mem_singleton.mpr rfl) (fun p hp _ => by have e := List.mem_singleton.mp hp; subst e; rfl)) (pa_cons pe_str pa_nil)))))) pa_nil)) (pa_cons (pe_op op_add pe_int (pe_call (ok_take T) (hr.mono (by decide)) (by rfl) T.m_take T.F_take.kp T.b_take .nil pass0 (pa_cons (pv 0) (pa_cons pe_int pa_nil)))) pa_nil)))))
      (pss_cons (ps_set (i := 3) sc_right.nd rfl (Or.inl rfl) (pe_lstN (pa_cons pe_str (pa_cons pe_str (pa_cons pe_str (pa_cons pe_str (pa_cons pe_str (pa_cons pe_str pa_nil))))))))
      (pss_cons (ps_set (i := 4) sc_right.nd rfl (Or.inl rfl) (pe_tup (pa_cons (pe_call (ok_priced T) (hr.mono (by decide)) (by rfl) T.m_priced T.F_priced.kp T.b_priced .nil pass0 (pa_cons (pv 0) (pa_cons (pe_call (ok_names T) (hr.mono (by decide)) (by rfl) T.m_names T.F_names.kp T.b_names .nil pass0 (pa_cons (pv 0) (pa_cons (pv 3) (pa_cons pe_int pa_nil)))) pa_nil))) (pa_cons (pe_call (ok_take T) (hr.mono (by decide)) (by rfl) T.m_take T.F_take.kp T.b_take .nil pass0 (pa_cons (pv 0) (pa_cons pe_int pa_nil))) (pa_cons (pe_call (ok_take T) (hr.mono (by decide)) (by rfl) T.m_take T.F_take.kp T.b_take .nil pass0 (pa_cons (pv 0) (pa_cons pe_int pa_nil))) pa_nil)))))
      (pss_cons (ps_set (i := 4) sc_right.nd rfl (Or.inl rfl) (pe_op op_catA (pv 4) (pe_tup (pa_cons (pe_call (ok_priced T) (hr.mono (by decide)) (by rfl) T.m_priced T.F_priced.kp T.b_priced .nil pass0 (pa_cons (pv 0) (pa_cons (pe_call (ok_names T) (hr.mono (by decide)) (by rfl) T.m_names T.F_names.kp T.b_names .nil pass0 (pa_cons (pv 0) (pa_cons (pe_callTy call_listN (by rfl) T.g_list (by decide +kernel) (pa_cons (pv 1) pa_nil)) (pa_cons pe_int pa_nil)))) pa_nil))) pa_nil))))
      (pss_cons (ps_for PassesOwn.never rfl (pi_range1 rfl T.g_range (pa_cons pe_int pa_nil)) (pg_name (i := 5) sc_right.nd rfl (Or.inl rfl)) (pss_cons (ps_set (i := 6) sc_right.nd rfl (Or.inl rfl) (pe_tup (pa_cons (pe_call (ok_names T) (hr.mono (by decide)) (by rfl) T.m_names T.F_names.kp T.b_names .nil pass0 (pa_cons (pv 0) (pa_cons (pv 3) (pa_cons (pe_op op_sub pe_int (pe_op op_mul pe_int (pe_call (ok_take T) (hr.mono (by decide)) (by rfl) T.m_take T.F_take.kp T.b_take .nil pass0 (pa_cons (pv 0) (pa_cons pe_int pa_nil))))) pa_nil)))) (pa_cons (pe_cmpR op_eq (pe_call (ok_take T) (hr.mono (by decide)) (by rfl) T.m_take T.F_take.kp T.b_take .nil pass0 (pa_cons (pv 0) (pa_cons pe_int pa_nil))) pe_int (nomark _)) (pa_cons (pe_cmpR op_eq (pe_call (ok_take T) (hr.mono (by decide)) (by rfl) T.m_take T.F_take.kp T.b_take .nil pass0 (pa_cons (pv 0) (pa_cons pe_int pa_nil))) pe_int (nomark _)) pa_nil)))))
      (pss_cons (ps_set (i := 6) sc_right.nd rfl (Or.inl rfl) (pe_op op_catA (pv 6) (pe_tup (pa_cons (pe_call (ok_names T) (hr.mono (by decide)) (by rfl) T.m_names T.F_names.kp T.b_names .nil pass0 (pa_cons (pv 0) (pa_cons (pe_op op_cat (pe_callTy call_listN (by rfl) T.g_list (by decide +kernel) (pa_cons (pv 1) pa_nil)) (pe_op op_rep (pe_lstN (pa_cons pe_str pa_nil)) (pe_callTy call_int1 (by rfl) T.g_int (by decide +kernel) (pa_cons (pe_cmpR op_eq (pv 5) pe_int (nomark _)) pa_nil)))) (pa_cons pe_int pa_nil)))) pa_nil))))
      (pss_cons (ps_if (pt_cmpR op_eq (pe_call (ok_take T) (hr.mono (by decide)) (by rfl) T.m_take T.F_take.kp T.b_take .nil pass0 (pa_cons (pv 0) (pa_cons pe_int pa_nil))) pe_int (nomark _)) (pss_cons (ps_set (i := 7) sc_right.nd rfl (Or.inl rfl) (pe_callTy call_tuple_of (by rfl) T.g_tuple (by decide +kernel) (pa_cons (pe_lc (own := [("_law_name", 12), ("_law_price", 13)]) (g := (gTup K 2 (gCons (gName 12) (gCons (gName 13) gNil)))) (tt := tYes) rfl sc_right.nd (pi_tup (pe_ix ix_tup (pv 4) pe_int (fun _ _ => rfl))) (blkOk_by (N := N_right) (sc := defScope s_right) (by decide +kernel)) (fun _ _ _ _ _ => pg_tup rfl (pgs_cons (pg_name (i := 12) sc_right.nd rfl (Or.inl rfl)) (pgs_cons (pg_name (i := 13) sc_right.nd rfl (Or.inl rfl)) pgs_nil))) (fun _ _ _ _ _ => pts_nil) (fun _ _ _ _ _ => (pv 12))) pa_nil)))
      (pss_one (ps_set (i := 6) sc_right.nd rfl (Or.inl rfl) (pe_op op_catA (pe_op op_catA (pe_tup (pa_cons (pe_slice sl_tupA (pv 7) (po_some (pe_call (ok_take T) (hr.mono (by decide)) (by rfl) T.m_take T.F_take.kp T.b_take .nil pass0 (pa_cons (pv 0) (pa_cons pe_int pa_nil)))) po_none) pa_nil)) (pe_slice sl_tupA (pv 6) (po_some pe_int) (po_some pe_int))) (pe_tup (pa_cons (pe_tup pa_nil) pa_nil)))))) pss_nil)
      (pss_cons (ps_set (i := 8) sc_right.nd rfl (Or.inl rfl) (pe_makeK T.mk_Plan (ok_Plan_init T) (hr.mono (by decide)) (by rfl) T.m_Plan (kbn_all FD).choose_spec pass_no (pa_cons (pe_ix ix_tup (pv 6) pe_int (fun _ _ => rfl)) pa_nil) (pk_cons (pe_ix ix_tup (pv 6) pe_int (fun _ _ => rfl)) (pk_cons (pe_ix ix_tup (pv 6) pe_int (fun _ _ => rfl)) (pk_cons (pe_ix ix_tup (pv 6) pe_int (fun _ _ => rfl)) pk_nil)))))
      (pss_cons (ps_par (i := 9) (j := 10) (by rfl) sc_right.nd rfl rfl (by decide) rfl rfl (pa_cons (pe_call (ok_due T) (hr.mono (by decide)) (by rfl) T.m_due T.F_due.kp T.b_due .nil pass0 (pa_cons (pv 4) (pa_cons (pv 6) pa_nil))) (pa_cons (pe_call (ok_told T) (hr.mono (by decide)) (by rfl) T.m_told T.F_told.kp T.b_told .nil pass0 (pa_cons (pv 2) (pa_cons (pv 4) (pa_cons (pv 8) pa_nil)))) pa_nil)) (by rfl))
      (pss_cons (ps_if (PW.pt (pw_and (pt_cmpR op_isN (pv 9) pe_non (nomark _)) (pw_and1 (PW.pt (pw_or (pt_cmpR op_ne (pe_ix ix_tup (pv 10) pe_int (fun _ _ => rfl)) pe_str (nomark _)) (pw_or1 (pt_not (pt_cmpR (op_eqW T.eqc (ok_Plan_eq T) T.b_Plan_eq (hr.mono (by decide)) pass0) (pe_ix ix_tup (pv 10) pe_int (fun _ _ => rfl)) (pv 8) (nomark _))))))))) (pss_one (ps_ret pe_bl)) pss_nil)
      (pss_cons (ps_if (PW.pt (pw_and (pt_cmpR op_notN (pv 9) pe_non (nomark _)) (pw_and1 (pt_cmpR op_ne (pe_callB (call_reprZ (by exact hgd) (by exact hr.units)) (by rfl) T.g_repr (by decide +kernel) (pa_cons (pv 10) pa_nil)) (pe_callB (call_reprZ (by exact hgd) (by exact hr.units)) (by rfl) T.g_repr (by decide +kernel) (pa_cons (pe_tup (pa_cons pe_str (pa_cons (pv 9) pa_nil))) pa_nil)) (nomark _))))) (pss_one (ps_ret pe_bl)) pss_nil)
      (pss_cons (ps_set (i := 11) sc_right.nd rfl (Or.inl rfl) (pe_call (ok_of T) (hr.mono (by decide)) (by rfl) T.m_of T.F_of.kp T.b_of .nil pass0 (pa_cons (pv 0) (pa_cons (pe_call (ok_odd_prices T) (hr.mono (by decide)) (by rfl) T.m_odd_prices T.F_odd_prices.kp T.b_odd_prices .nil pass0 (pa_cons (pv 4) pa_nil)) pa_nil))))
      (pss_one (ps_if (pt_cmpR op_ne (pe_callB (call_reprZ (by exact hgd) (by exact hr.units)) (by rfl) T.g_repr (by decide +kernel) (pa_cons (pe_call (ok_told T) (hr.mono (by decide)) (by rfl) T.m_told T.F_told.kp T.b_told .nil pass0 (pa_cons (pv 2) (pa_cons (pv 11) (pa_cons (pv 8) pa_nil)))) pa_nil)) (pe_callB (call_reprZ (by exact hgd) (by exact hr.units)) (by rfl) T.g_repr (by decide +kernel) (pa_cons (pe_tup (pa_cons pe_str (pa_cons (pv 11) pa_nil))) pa_nil)) (nomark _)) (pss_one (ps_ret pe_bl)) pss_nil)))))))))))
      (pss_one (ps_ret pe_bl)))))))), ?_⟩
    refine ⟨_, rfl, (by show 1 ≤ sizeLine; decide), fun n1 m1 => ⟨(by show 2 ≤ sizeLine; decide), fun n2 m2 => ⟨(by show 3 ≤ sizeLine; decide), fun n3 m3 => ⟨(by show 3 ≤ sizeLine; decide), fun ln mln sln => ?_⟩⟩⟩⟩
    have a1 := Ex.nw (H := H) (o := .tup ((["f"] : List Str).map V.str)) m1
    have a2 := Ex.nw (o := .tup ((["f", "g"] : List Str).map V.str)) m2
    have a3 := Ex.nw (o := .tup ((["f", "g", "h"] : List Str).map V.str)) m3
    have a5 := Ex.nw (o := .lst [.ref n1, .ref n2, .ref n3]) mln
    have aA := a1.tr (a2.tr (a3.tr a5))
    have b1 := (a2.tr (a3.tr a5)) n1 _ upd_same
    have b2 := (a3.tr a5) n2 _ upd_same
    have b3 := a5 n3 _ upd_same
    refine ⟨p, ln, _, _, rfl, hp.ex aA, SqL.of upd_same, pot_none (hp.ex (a1.tr (a2.tr a3))) mln, (by show 0 < 3; decide), (by show 3 < 1000; decide), by omega, fun i v H2 hi x2 hp2 => ?_⟩
    have te2 := xn_te (hp.ex aA) x2.xn
    obtain ⟨tn, ns, rfl, htn, hPN⟩ : ∃ (tn : Addr) (ns : List Str), v = .ref tn ∧ H2 tn = some (.tup (ns.map V.str)) ∧ PairN ns := by
      match i, hi with
      | 0, h => cases h; exact ⟨n1, ["f"], rfl, te2 _ _ b1, .one⟩
      | 1, h => cases h; exact ⟨n2, ["f", "g"], rfl, te2 _ _ b2, .two⟩
      | 2, h => cases h; exact ⟨n3, ["f", "g", "h"], rfl, te2 _ _ b3, .three⟩
      | n + 3, h => simp at h
    have x02 : XB p H H2 := (Ex.xb aA).tr x2
    have t2 := tabs_pot hT hp x02
    clear a1 a2 a3 a5 b1 b2 b3 te2 m1 m2 m3 mln aA hi x2
    have wok := hPN.ok
    have w3 := hPN.le
    refine ⟨(by show 0 ≤ sizeLine; decide), fun w1 nw1 => ⟨(by show 0 ≤ sizeLine; decide), fun w2 nw2 => fun xw dw nxw ndw ndw2 => ?_⟩⟩
    obtain ⟨H3, E3⟩ : ∃ z, z = upd (upd H2 w1 (.tup [])) w2 (.tup []) := ⟨_, rfl⟩
    have e3 : Ex H2 H3 := by rw [E3]; exact (Ex.nw nw1).tr (Ex.nw nw2)
    have hw1 : H3 w1 = some (.tup []) := by rw [E3]; exact (Ex.nw nw2) _ _ upd_same
    have hw2 : H3 w2 = some (.tup []) := by rw [E3]; exact upd_same
    rw [← E3] at nxw ndw ⊢
    obtain ⟨HM, EM⟩ : ∃ z, z = upd (upd H3 dw (.own xw)) xw (.ins A.C_World dw []) := ⟨_, rfl⟩
    have eM : Ex H3 HM := by rw [EM]; exact fun c o e => by rw [upd_ne (ne_of_none e nxw), upd_ne (ne_of_none e ndw)]; exact e
    have xM : HM xw = some (.ins A.C_World dw []) := by rw [EM]; exact upd_same
    rw [← EM]
    refine ⟨xw, dw, w1, w2, kw, rfl, xM, eM _ _ hw1, eM _ _ hw2, nkw, fun H4 o4 hW => ⟨rfl, ?_⟩⟩
    have e24 : Ex H2 H4 := fun c o e => o4 c o (ne_of_none (e3 _ _ e) nxw) (eM _ _ (e3 _ _ e))
    have htn4 := e24 _ _ htn
    have t4 := t2.ext e24
    have hp4 := hp2.ex e24
    have x04 : XB p H H4 := x02.tr (Ex.xb e24)
    clear E3 EM xM eM o4 e3 nw1 nw2 hw1 hw2 nxw ndw ndw2 x02
    refine ⟨_, rfl, tn, rfl, ⟨_, SqT.of htn4⟩, fun D nD => lc_it (tt := tYes) (walk_tup (xs := ns.map V.str)) (fun i H' => ExtN H4 H' ∧ Tabs (Tb A) H' ∧ ∃ xs, H' D = some (.lst xs) ∧ xs.length = i ∧ Tr ns H' xs) ⟨ExtN.of (Ex.nw nD), t4.ext (Ex.nw nD), [], upd_same, rfl, fun i x h => by cases h⟩ (fun i H' _ q => SqT.of (en_te q.1 _ _ htn4)) (fun i x H5 H6 hi q y => ?_) (fun H5 q => ?_)⟩
    · obtain ⟨rfl, hx⟩ := y
      obtain ⟨en5, t5, xs, hD, lxs, tr⟩ := q
      rw [List.getElem?_map] at hx
      obtain ⟨nz, hnz, rfl⟩ := Option.map_eq_some_iff.mp hx
      refine ⟨rfl, _, rfl, t5, fun H7 f en7 t7 nf => ⟨(by show 3 ≤ sizeLine; decide), fun q nq => ?_⟩⟩
      have en6 := en7.trans ((ExtN.of (Ex.nw nf)).trans (ExtN.of (Ex.nw (o := .tup [.str nz, .ref f, .str ""]) nq)))
      have hD7 := en6 _ _ hD (fun _ y => by cases y)
      refine ⟨xs, hD7, small (by rw [List.length_map] at hi; omega), en_mu0 (en5.trans en6) nD, tabs_xb ((t7.ext (Ex.nw nf)).ext (Ex.nw nq)) hD7 XB.wr, xs ++ [.ref q], upd_same, by rw [List.length_append, lxs]; rfl, ?_⟩
      exact ((tr.te (en_te en6)).snoc lxs hnz upd_same).te (te_lst hD7)
    obtain ⟨en5, t5, xs, hD, lxs, tr⟩ := q
    rw [List.length_map] at lxs
    refine ⟨D, _, rfl, .inl ⟨SqL.of hD, fun tw ntw => ?_⟩⟩
    have e6 := Ex.nw (H := H5) (o := .tup xs) ntw
    obtain ⟨H6, E6⟩ : ∃ z, z = upd H5 tw (.tup xs) := ⟨_, rfl⟩
    have htw : H6 tw = some (.tup xs) := by rw [E6]; exact upd_same
    rw [← E6] at e6 ⊢
    have en6 := en5.trans (ExtN.of e6)
    have t6 := t5.ext e6
    have hp6 := hp4.en en6
    have xn6 : XN p H H6 := x04.xn.tr (en_xn en6)
    have htn6 := en_te en6 _ _ htn4
    have hWk : WkAt H6 (.ref tw) ns := ⟨tw, xs, rfl, htw, lxs, tr.te (Ex.te e6)⟩
    have hW6 : WAt K A.C_World H6 xw := hW.te6 en6
    clear E6 e6 tr hD ntw nD en5 t5 lxs htw hW t4 hp4 x04 htn4 e24
    refine ⟨_, rfl, p, 2, _, rfl, hp6, by decide, by decide, by omega, fun c H7 c0 c2 x7 hp7 => ⟨_, _, rfl, rfl, fun xs dx nx ndx nxd => ?_⟩⟩
    have te7 := xn_te hp6 x7.xn
    have t7 := tabs_pot t6 hp6 x7
    have hWk7 := hWk.te te7
    have hW7 : WAt K A.C_World H7 xw := hW6.pot hp6 x7
    obtain ⟨HM, EM⟩ : ∃ z, z = upd (upd H7 dx (.own xs)) xs (.ins A.C_Setup dx []) := ⟨_, rfl⟩
    have eM : Ex H7 HM := by rw [EM]; exact fun c o e => by rw [upd_ne (ne_of_none e nx), upd_ne (ne_of_none e ndx)]; exact e
    have xM : HM xs = some (.ins A.C_Setup dx []) := by rw [EM]; exact upd_same
    rw [← EM]
    have nxw : xs ≠ xw := by
      obtain ⟨dy, a, b, c, vd, ve, g1, -⟩ := hW7
      exact Ne.symm (ne_of_none g1 nx)
    refine ⟨xs, dx, xw, .ref tw, 1 + c, ns, rfl, xM, nxw, hW7.ex eM, hWk7.ex eM, wok, by omega, by omega, fun H8 o8 hS => ⟨rfl, ?_⟩⟩
    have e78 : Ex H7 H8 := fun c o e => o8 c o (ne_of_none e nx) (eM _ _ e)
    have hp8 := hp7.ex e78
    have t8 := t7.ext e78
    have htn8 := e78 _ _ (te7 _ _ htn6)
    have xn8 : XN p H H8 := xn6.tr (x7.xn.tr (Ex.xb e78).xn)
    clear EM xM eM o8 e78 hWk7 hWk hW7 hW6 nxw nx ndx nxd te7 t7 x7 hp7 t6 hp6 xn6 htn6 htn en6
    refine ⟨(by show 6 ≤ sizeLine; decide), fun ls nls sls => ?_⟩
    obtain ⟨H9, E9⟩ : ∃ z, z = upd H8 ls (.lst (SS.map V.str)) := ⟨_, rfl⟩
    have e9 : Ex H8 H9 := by rw [E9]; exact Ex.nw nls
    have hls : H9 ls = some (.lst (SS.map V.str)) := by rw [E9]; exact upd_same
    have nlsp := pot_none hp8 nls
    have hp9 := hp8.ex e9
    rw [show upd H8 ls (.lst [V.str "a", V.str "b", V.str "e", V.str "guard", V.str "known", V.str "own"]) = H9 from E9.symm]
    refine ⟨_, rfl, _, rfl, _, rfl, p, ls, SS, 4, _, rfl, hp9, by omega, hls, nlsp, by decide, by decide, fun q1 gs1 H10 x10 hp10 hq1 sub1 len1 => ?_⟩
    have g4 : gOk 4 gs1 = true := gok_sub sub1 ss_n ss_r len1
    refine ⟨p, q1, gs1, _, rfl, hp10, by omega, hq1, by omega, fun v1 ps H11 x11 hp11 tz1 eps w1 => ?_⟩
    subst eps
    have pk := psok_of g4 w1
    refine ⟨_, rfl, p, 10, _, rfl, hp11, by decide, by decide, by omega, fun b H12 b0 b1 x12 hp12 => ?_⟩
    refine ⟨_, rfl, p, 10, _, rfl, hp12, by decide, by decide, by omega, fun h H13 h0 h1 x13 hp13 => ?_⟩
    refine ⟨(by show 3 ≤ sizeLine; decide), fun q0 nq0 => ?_⟩
    obtain ⟨H14, E14⟩ : ∃ z, z = upd H13 q0 (.tup [v1, .int b, .int h]) := ⟨_, rfl⟩
    have e14 : Ex H13 H14 := by rw [E14]; exact Ex.nw nq0
    have hq0 : H14 q0 = some (.tup [v1, .int b, .int h]) := by rw [E14]; exact upd_same
    rw [← E14]
    have hp14 := hp13.ex e14
    have x914 : XB p H9 H14 := x10.tr (x11.tr (x12.tr (x13.tr (Ex.xb e14))))
    have tz14 := (tz1.te ((xn_te hp11 x12.xn).tr (xn_te hp12 x13.xn))).ex e14
    have te914 := xn_te hp9 x914.xn
    have htn14 := te914 _ _ (e9 _ _ htn8)
    clear E14 E9 e14 x10 x11 x12 x13 hp10 hp11 hp12 hp13 hq1 tz1 nq0 nls sub1 len1
    refine ⟨_, rfl, _, rfl, _, rfl, _, rfl, tn, _, rfl, .inr (SqT.of htn14), fun lc nlc slc => ?_⟩
    obtain ⟨H15, E15⟩ : ∃ z, z = upd H14 lc (.lst (ns.map V.str)) := ⟨_, rfl⟩
    have e15 : Ex H14 H15 := by rw [E15]; exact Ex.nw nlc
    have hlc : H15 lc = some (.lst (ns.map V.str)) := by rw [E15]; exact upd_same
    have nlcp := pot_none hp14 nlc
    rw [← E15]
    have hp15 := hp14.ex e15
    refine ⟨p, lc, ns, 2, _, rfl, hp15, by omega, hlc, nlcp, by omega, by decide, fun q2 gs2 H16 x16 hp16 hq2 sub2 len2 => ?_⟩
    have g2 : gOk 2 gs2 = true := gok_sub sub2 wok.n wok.r len2
    refine ⟨p, q2, gs2, _, rfl, hp16, by omega, hq2, by omega, fun v2 os H17 x17 hp17 tz2 eos w2 => ?_⟩
    subst eos
    have ok := psok_of g2 w2
    have hin : ∀ q ∈ os, q.1 ∈ ns := fun q hq => sub2.subset (List.mem_map.mpr ⟨q, hq, rfl⟩)
    refine ⟨(by show 1 ≤ sizeLine; decide), fun q3 nq3 => ?_⟩
    have te1517 := (xn_te hp15 x16.xn).tr (xn_te hp16 x17.xn)
    have e18 := Ex.nw (H := H17) (o := .tup [v2]) nq3
    have hq0' := (Ex.te e18) _ _ (te1517 _ _ (e15 _ _ hq0))
    refine cat_ne hq0' upd_same (by show 3 + 1 < 1000; decide) (fun pr npr => ?_)
    obtain ⟨G0, EG⟩ : ∃ z, z = upd (upd H17 q3 (.tup [v2])) pr (.tup ([v1, .int b, .int h] ++ [v2])) := ⟨_, rfl⟩
    have eG : Ex H17 G0 := by rw [EG]; exact e18.tr (Ex.nw npr)
    have hpr : G0 pr = some (.tup [v1, .int b, .int h, v2]) := by rw [EG]; exact upd_same
    rw [← EG]
    have hpG := hp17.ex eG
    have x14G : XB p H14 G0 := (Ex.xb e15).tr (x16.tr (x17.tr (Ex.xb eG)))
    have te14G := xn_te hp14 x14G.xn
    have x9G := x914.tr x14G
    have te9G := te914.tr te14G
    have hPr : Tz G0 (.ref pr) (prD ps b h os) := TzL.tup (TzL.cons (tz14.te te14G) (TzL.cons (.int b) (TzL.cons (.int h) (TzL.one (tz2.ex eG))))) hpr
    have hlsG : G0 ls = some (.lst (SS.map V.str)) := x9G _ _ nlsp hls
    have htnG := te9G _ _ (e9 _ _ htn8)
    have hSG : SAt A.C_Setup G0 xs ns := (hS.ex e9).pot hp9 x9G
    have tG := tabs_pot (t8.ext e9) hp9 x9G
    have xnG : XN p H G0 := xn8.tr ((Ex.xb e9).xn.tr x9G.xn)
    clear EG eG hpr x14G te14G x9G te9G e18 hq0' te1517 nq3 npr x16 x17 hp15 hp16 hp17 hq2 tz2 E15 e15 hlc nlcp nlc hq0 tz14 htn14 hp14 te914 x914 hls e9 hp9 hp8 t8 htn8 xn8 hS
    refine ⟨4, rfl, by decide, by decide, for_range (lo := 0) (n := 4) (fun i σ H' => (∃ u5 u6 u7 u8 u9 u10 u11 u12 u13, σ = [some (.ref p), some (.ref tn), some (.ref xs), some (.ref ls), some (.ref pr), u5, u6, u7, u8, u9, u10, u11, u12, u13]) ∧ XB p G0 H' ∧ PotAt H' p (N + 80 + 60 * i)) ⟨⟨_, _, _, _, _, _, _, _, _, rfl⟩, Ex.xb (Ex.rf _), hpG.mono (by omega)⟩ ?_ ?_⟩
    rotate_left
    · rintro σ H' ⟨-, x', hp'⟩
      exact k H' (xnG.tr x'.xn) (tabs_pot tG hpG x') (hp'.mono (by omega))
    rintro i σ I0 hi4 ⟨⟨u5, u6, u7, u8, u9, u10, u11, u12, u13, rfl⟩, xI0, pI0⟩
    have hls0 := xI0 _ _ nlsp hlsG
    have te0 := xn_te hpG xI0.xn
    have htn0 := te0 _ _ htnG
    have hS0 : SAt A.C_Setup I0 xs ns := hSG.pot hpG xI0
    have hPr0 := hPr.te te0
    refine ⟨_, rfl, _, rfl, _, rfl, p, 2, _, rfl, pI0, by decide, by decide, by omega, fun d1 I1 d10 d11 x1 p1 => ⟨_, _, rfl, rfl, .inl ⟨by decide, by decide⟩, _, _, rfl, rfl, ?_⟩⟩
    obtain ⟨m, em, hm6⟩ : ∃ m : Nat, 6 - 3 * d1 = (m : Int) ∧ m ≤ 6 := ⟨(6 - 3 * d1).toNat, by omega, by omega⟩
    refine ⟨p, ls, SS, m, _, by show [V.ref p, V.ref ls, V.int (6 - 3 * d1)] = _; rw [em], p1, by omega, x1 _ _ nlsp hls0, nlsp, by decide, by omega, fun qa gs I2 x2 p2 hqa sub len => ?_⟩
    have g6 : gOk 6 gs = true := gok_sub sub ss_n ss_r (by omega)
    refine ⟨_, rfl, p, 2, _, rfl, p2, by decide, by decide, by omega, fun d2 I3 d20 d21 x3 p3 => ⟨rfl, ?_⟩⟩
    refine ⟨_, rfl, p, 2, _, rfl, p3, by decide, by decide, by omega, fun d3 I4 d30 d31 x4 p4 => ⟨rfl, ?_⟩⟩
    obtain ⟨kn, ekn⟩ : ∃ z, z = decide (V.int d2 = V.int 0) := ⟨_, rfl⟩
    obtain ⟨he, ehe⟩ : ∃ z, z = decide (V.int d3 = V.int 0) := ⟨_, rfl⟩
    rw [← ekn, ← ehe]
    refine ⟨(by show 3 ≤ sizeLine; decide), fun qb nqb => ?_⟩
    obtain ⟨I5, E5⟩ : ∃ z, z = upd I4 qb (.tup [.ref qa, .bl kn, .bl he]) := ⟨_, rfl⟩
    have e5 : Ex I4 I5 := by rw [E5]; exact Ex.nw nqb
    have hqb : I5 qb = some (.tup [.ref qa, .bl kn, .bl he]) := by rw [E5]; exact upd_same
    rw [← E5]
    have te25 := ((xn_te p2 x3.xn).tr (xn_te p3 x4.xn)).tr (Ex.te e5)
    have hqa5 := te25 _ _ hqa
    have x05 : XB p I0 I5 := x1.tr (x2.tr (x3.tr (x4.tr (Ex.xb e5))))
    have p5 := p4.ex e5
    have te05 := xn_te pI0 x05.xn
    clear E5 e5 nqb te25 hqa x1 x2 x3 x4 p1 p2 p3 p4
    refine ⟨_, rfl, _, rfl, _, rfl, tn, _, rfl, .inr (SqT.of (te05 _ _ htn0)), fun lc nlc slc => ?_⟩
    refine ⟨(by show 1 ≤ sizeLine; decide), fun l1 nl1 sl1 => ⟨_, rfl, rfl, .inr ⟨_, rfl, ?_⟩⟩⟩
    obtain ⟨b3, eb3⟩ : ∃ z, z = decide (V.int (0 + (i : Int)) = V.int 3) := ⟨_, rfl⟩
    rw [← eb3]
    refine ⟨l1, _, _, rfl, rfl, upd_same, by cases b3 <;> decide, by cases b3 <;> decide, by cases b3 <;> (show _ ≤ sizeLine; decide), fun l2 nl2 => ?_⟩
    obtain ⟨I6, E6⟩ : ∃ z, z = upd (upd (upd I5 lc (.lst (ns.map V.str))) l1 (.lst [.str "no"])) l2 (.lst (List.replicate ((if b3 = true then (1 : Int) else 0).toNat) [V.str "no"]).flatten) := ⟨_, rfl⟩
    have e6 : Ex I5 I6 := by rw [E6]; exact (Ex.nw nlc).tr ((Ex.nw nl1).tr (Ex.nw nl2))
    have hlc : I6 lc = some (.lst (ns.map V.str)) := by rw [E6]; exact ((Ex.nw nl1).tr (Ex.nw nl2)) _ _ upd_same
    have hl2 : I6 l2 = some (.lst ((noS b3).map V.str)) := by
      rw [E6]
      have e : (List.replicate ((if b3 = true then (1 : Int) else 0).toNat) [V.str "no"]).flatten = (noS b3).map V.str := by cases b3 <;> rfl
      rw [← e]; exact upd_same
    rw [← E6]
    have hmore := hPN.more b3
    refine ⟨lc, l2, _, _, rfl, rfl, hlc, hl2, Nat.le_of_lt (small (by rw [← List.length_append, ← List.map_append, List.length_map]; omega)), fun l3 nl3 => ?_⟩
    rw [← List.map_append]
    have e7 := Ex.nw (H := I6) (o := .lst ((ns ++ noS b3).map V.str)) nl3
    have p6 := (p5.ex e6).ex e7
    refine ⟨p, l3, ns ++ noS b3, 3, _, rfl, p6, by omega, upd_same, pot_none (p5.ex e6) nl3, by omega, by decide, fun qc ws I8 x8 p8 hqc sub2 len2 => ?_⟩
    have g3 : gOk 3 ws = true := gok_sub sub2 hmore.1 hmore.2.1 len2
    have te58 := (Ex.te (e6.tr e7)).tr (xn_te p6 x8.xn)
    refine ⟨(by show 1 ≤ sizeLine; decide), fun qd nqd => ?_⟩
    have e9 := Ex.nw (H := I8) (o := .tup [.ref qc]) nqd
    refine cat_ne ((Ex.te e9) _ _ (te58 _ _ hqb)) upd_same (by show 3 + 1 < 1000; decide) (fun qe nqe => ?_)
    obtain ⟨I9, E9⟩ : ∃ z, z = upd (upd I8 qd (.tup [.ref qc])) qe (.tup ([.ref qa, .bl kn, .bl he] ++ [.ref qc])) := ⟨_, rfl⟩
    have eE : Ex I8 I9 := by rw [E9]; exact e9.tr (Ex.nw nqe)
    have hqe : I9 qe = some (.tup [.ref qa, .bl kn, .bl he, .ref qc]) := by rw [E9]; exact upd_same
    rw [← E9]
    have p9 := p8.ex eE
    have x09 : XB p I0 I9 := x05.tr ((Ex.xb (e6.tr e7)).tr (x8.tr (Ex.xb eE)))
    have hqa9 := (te58.tr (Ex.te eE)) _ _ hqa5
    have hqc9 := eE _ _ hqc
    have te09 := xn_te pI0 x09.xn
    clear E9 eE E6 e6 e7 e9 nqd nqe nl3 hlc hl2 nl1 nl2 nlc slc sl1 hqc hqb hqa5 te58 te05 x05 x8 p5 p6 p8 eb3 hmore sub2 len2 sub len em hm6
    refine ⟨_, rfl, p, 2, _, rfl, p9, by decide, by decide, by omega, fun d4 J1 d40 d41 y1 r1 => ⟨rfl, _, rfl, ?_⟩⟩
    have x0J := x09.tr y1
    have te9J := xn_te p9 y1.xn
    refine joinS (R := fun σ' G' => ∃ u7 q' ag aw gs' ws', σ' = [some (.ref p), some (.ref tn), some (.ref xs), some (.ref ls), some (.ref pr), some (.int (0 + (i : Int))), some (.ref q'), u7, u8, u9, u10, u11, u12, u13] ∧ XB p I0 G' ∧ PotAt G' p (N + 80 + 60 * i + 48) ∧ G' q' = some (.tup [.ref ag, .bl kn, .bl he, .ref aw]) ∧ G' ag = some (.tup (gs'.map V.str)) ∧ G' aw = some (.tup (ws'.map V.str)) ∧ gOk 6 gs' = true ∧ gOk 3 ws' = true) (fun _ D' k' => ?_) (fun _ D' k' => k' _ _ ⟨u7, qe, qa, qc, gs, ws, rfl, x0J, r1.mono (by omega), te9J _ _ hqe, te9J _ _ hqa9, te9J _ _ hqc9, g6, g3⟩) ?_
    · obtain ⟨v1, v2, hpr0, tzp⟩ : ∃ v1 v2, I0 pr = some (.tup [v1, .int b, .int h, v2]) ∧ Tz I0 v1 (.tuple (ps.map iD)) := by
        obtain ⟨a, xs', ea, ha, hl⟩ := Tz.tupI (ds := [.tuple (ps.map iD), .int b, .int h, .tuple (os.map iD)]) hPr0
        cases ea
        obtain ⟨v1, r1, rfl, z1, hl⟩ := TzL.consI hl
        obtain ⟨v2, r2, rfl, z2, hl⟩ := TzL.consI hl
        obtain ⟨v3, r3, rfl, z3, hl⟩ := TzL.consI hl
        obtain ⟨v4, r4, rfl, z4, hl⟩ := TzL.consI hl
        rw [hl.nilI, z2.intI, z3.intI] at ha
        exact ⟨v1, v4, ha, z1⟩
      have te0J := xn_te pI0 x0J.xn
      have hprJ := te0J _ _ hpr0
      have tzJ := tzp.te te0J
      obtain ⟨an, yn, rfl, han, ln, hn⟩ := pairs_at2 (tzJ.dz (p := p))
      rw [List.length_map] at ln
      have lps := pk.l
      refine ⟨_, rfl, pr, _, _, _, rfl, rfl, SqT.of hprJ, rfl, an, rfl, ⟨_, SqT.of han⟩, fun D nD => lc_tz (walk_tup (xs := yn)) (fun i => .str ((ps.map (·.1))[i]?.getD "")) (by omega) nD (fun H' e' => SqT.of (e' _ _ han)) (fun j x2 H4 H5 Kq2 hj e' y kq2 => ?_) (fun J2 zs e2 hD hzs => ?_)⟩
      · obtain ⟨rfl, hx2⟩ := y
        obtain ⟨w', c5, u, hq5, rfl, hc5, hu5⟩ := hn j x2 hx2
        rw [List.getElem?_map] at hq5
        obtain ⟨⟨z5, j5⟩, hw5, rfl⟩ := Option.map_eq_some_iff.mp hq5
        refine ⟨c5, _, rfl, SqT.of (e' _ _ hc5), rfl, _, _, rfl, _, _, rfl, rfl, rfl, _, rfl, kq2 _ _ (Ex.rf _) ?_⟩
        rw [List.getElem?_map, hw5]
        exact .str _
      rw [names_of (ss := ps.map (·.1)) (by rw [List.length_map]; exact ln)] at hzs
      obtain rfl := hzs.strs
      refine ⟨D, _, rfl, .inl ⟨SqL.of hD, fun tc ntc => ?_⟩⟩
      obtain ⟨J3, E3⟩ : ∃ z, z = upd J2 tc (.tup ((ps.map (·.1)).map V.str)) := ⟨_, rfl⟩
      have e13 : Ex J1 J3 := by rw [E3]; exact e2.tr (Ex.nw ntc)
      have htc : J3 tc = some (.tup ((ps.map (·.1)).map V.str)) := by rw [E3]; exact upd_same
      rw [← E3]
      have r3 := r1.ex e13
      have x0J3 := x0J.tr (Ex.xb e13)
      have hqe3 := e13 _ _ (te9J _ _ hqe)
      clear E3 ntc hD e2 nD hprJ tzJ han hn
      refine ⟨_, rfl, _, rfl, p, 2, _, rfl, r3, by decide, by decide, by omega, fun d5 J4 d50 d51 y4 r4 => ⟨d5, rfl, ?_⟩⟩
      have te34 := xn_te r3 y4.xn
      refine no_part ?_
      refine sl_names (te34 _ _ htc) (fun sc gs5 J5 e5 hsc sub5 => ⟨(by show 1 ≤ sizeLine; decide), fun qf nqf => ?_⟩)
      have g5 : gOk 6 gs5 = true := gok_sub sub5 (List.all_eq_true.mpr fun z hz => by obtain ⟨q, hq, rfl⟩ := List.mem_map.mp hz; exact pk.n q hq) pk.r (by have := sub5.length_le; rw [List.length_map] at this; omega)
      have e6 := Ex.nw (H := J5) (o := .tup [.ref sc]) nqf
      have e46 := e5.tr e6
      refine ⟨_, rfl, 1, rfl, 3, rfl, qe, _, rfl, SqT.of (e46 _ _ (te34 _ _ hqe3)), fun hw => absurd hw.1 (by show ¬ HT.sIx 4 0 (some 1) = 0; decide), fun _ qg nqg => ?_⟩
      have e7 := Ex.nw (o := .tup [.bl kn, .bl he]) nqg
      refine cat_ne (e7 _ _ upd_same) upd_same (by show 1 + 2 < 1000; decide) (fun qh nqh => ?_)
      have e8 := Ex.nw (o := .tup [.ref sc, .bl kn, .bl he]) nqh
      refine ⟨(by show 0 ≤ sizeLine; decide), fun t0 nt0 => ⟨(by show 1 ≤ sizeLine; decide), fun t1 nt1 => ?_⟩⟩
      have e9 := Ex.nw (o := .tup []) nt0
      have e10 := Ex.nw (o := .tup [.ref t0]) nt1
      refine cat_ne ((e9.tr e10) _ _ upd_same) upd_same (by show 3 + 1 < 1000; decide) (fun qk nqk => ?_)
      have e11 := Ex.nw (o := .tup [.ref sc, .bl kn, .bl he, .ref t0]) nqk
      have eAll := e46.tr (e7.tr (e8.tr (e9.tr (e10.tr e11))))
      refine k' _ _ ⟨_, qk, sc, t0, gs5, [], rfl, x0J3.tr (y4.tr (Ex.xb eAll)), (r4.ex eAll).mono (by omega), upd_same, (e6.tr (e7.tr (e8.tr (e9.tr (e10.tr e11))))) _ _ hsc, (e10.tr e11) _ _ upd_same, g5, rfl⟩
    rintro σ' J2 ⟨v7, q', ag, aw, gs', ws', rfl, x0J, rJ, hq, hag, haw, g6, g3⟩
    refine ⟨_, rfl, q', _, _, _, rfl, rfl, SqT.of hq, rfl, _, rfl, q', _, _, _, rfl, rfl, SqT.of hq, rfl, _, rfl, q', _, _, _, rfl, rfl, SqT.of hq, rfl, _, rfl, q', _, _, _, rfl, rfl, SqT.of hq, rfl, rfl, rfl, fun y dy ny ndy nyd => make_plan ny ndy (NmT.of hag) (NmT.of haw) g6 g3 fun L1 e1 hP => ?_⟩
    have x0L := x0J.tr (Ex.xb e1)
    have rL := rJ.ex e1
    have te0L := xn_te pI0 x0L.xn
    have wtP : Wt 900 (prD ps b h os) := Nat.le_trans (prD_pq pk ok b0 b1 h0 h1).wt (by decide)
    have okP := prices_ok (ns := ns) pk ok b0 b1 h0 h1 hin
    have lg := (gok_all g6).1
    have lw := (gok_all g3).1
    clear hqe hqa9 hqc9 te9J te09 y1 x09 p9 htn0 hls0
    refine ⟨_, rfl, _, rfl, p, q', ag, aw, .ref pr, ps, os, b, h, gs', kn, he, ws', rfl, (hPr0.te te0L).dz, pk, ok, b0, b1, h0, h1, e1 _ _ hq, e1 _ _ hag, e1 _ _ haw, lg, by omega, fun hA L2 e2 => ?_, fun hA L2 e2 => ?_⟩
    · have x0L2 := x0L.tr (Ex.xb e2)
      have te0L2 := xn_te pI0 x0L2.xn
      refine ⟨_, rfl, _, rfl, _, rfl, p, xs, y, .ref pr, prD ps b h os, ns, gs', kn, he, ws', rfl, hS0.pot pI0 x0L2, (hPr0.te te0L2).dz, wtP, hP.ex e2, (fun hb => by rw [okP] at hb; cases hb), fun _ ps' b' h' os' ed => ⟨fun _ qt LZ e3 hqt => ?_, fun hA' => ?_⟩⟩
      rotate_left
      · obtain ⟨rfl, rfl, rfl, rfl⟩ := prD_inj ed
        rw [hA] at hA'
        cases hA'
      have hPZ := (hP.ex e2).ex e3
      have x0Z := x0L2.tr (Ex.xb e3)
      have rZ := (rL.ex e2).ex e3
      refine ⟨_, _, rfl, _, rfl, rfl, _, rfl, HX.if_true rfl ?_⟩
      refine ⟨_, rfl, qt, _, _, _, rfl, rfl, SqT.of hqt, rfl, rfl, _, rfl, HX.if_false (q_neb2 rfl) ?_⟩
      refine ⟨_, rfl, qt, _, _, _, rfl, rfl, SqT.of hqt, rfl, _, rfl, hPZ.isI, .inl (.inl hPZ.isI), ⟨y, .ref y, gs', kn, he, ws', rfl, hPZ, .inr ⟨y, gs', kn, he, ws', rfl, hPZ, ?_⟩⟩⟩
      rw [samePl_refl]
      refine ⟨_, rfl, HX.if_false rfl ?_⟩
      refine ⟨_, rfl, rfl, _, rfl, HX.if_false rfl ?_⟩
      obtain ⟨zsp, hzp⟩ : ∃ zs, LZ p = some (.lst zs) := let ⟨_, _, _, z, _⟩ := rZ; ⟨_, z⟩
      have te0Z := xn_te pI0 x0Z.xn
      have dPrZ : Dz p LZ (.ref pr) (prD ps b h os) := (hPr0.te te0Z).dz
      refine ⟨_, rfl, _, rfl, p, .ref pr, zsp, ps, os, b, h, rfl, hzp, dPrZ, fun f xo M1 m1 hf nfp lo oo => ?_⟩
      have lo : xo.length = 23 := lo
      refine ⟨p, f, xo, _, rfl, rZ.ex m1, SqL.of hf, nfp, by omega, by omega, by omega, fun j vo M2 hj xm rm => ?_⟩
      obtain ⟨dd, hdd⟩ : ∃ dd, (odds ps b h os)[j]? = some dd := ⟨_, List.getElem?_eq_getElem (by have := (List.getElem?_eq_some_iff.mp hj).1; show j < 23; omega)⟩
      have hdm := List.mem_of_getElem? hdd
      have dzo : Dz p M2 vo dd := (oo j vo dd hj hdd).xb (m1 _ _ hzp) xm
      have bad := odds_bad hPN.no ps os b h dd hdm
      have dq := odds_pq pk ok b0 b1 h0 h1 dd hdm
      have x0M : XB p I0 M2 := x0Z.tr ((Ex.xb m1).tr xm)
      have hPM := (hPZ.ex m1).pot (rZ.ex m1) xm
      have dq2 : Pq 1202 5 (.tuple [.str "prices", dd]) := pq_tup (w := 600) (k := 4) (m := 2) (n := 1202) (all_cons (pq_by (by decide +kernel)) (all_cons dq all_nil)) (by show 2 ≤ 2; decide) (by decide)
      obtain ⟨f1, f2, f3⟩ := (dq2.pz (n := 1202) (by decide) (Nat.le_refl _)).fz (by decide)
      clear hdd hdm oo hj dq2
      refine ⟨_, rfl, _, rfl, _, rfl, p, xs, y, vo, dd, ns, gs', kn, he, ws', rfl, hS0.pot pI0 x0M, dzo, Nat.le_trans dq.wt (by decide), hPM, fun _ qt5 M3 m3 hqt5 => ?_, fun hb => by rw [bad] at hb; cases hb⟩
      have dz5 : Dz p M3 (.ref qt5) (.tuple [.str "prices", dd]) := dz_two hqt5 (.str _) (dzo.ex m3)
      refine ⟨.ref qt5, _, p, rfl, dz5, f1, f2, f3, _, rfl, (by show 2 ≤ sizeLine; decide), fun qu nqu => ?_⟩
      have eu := Ex.nw (H := M3) (o := .tup [.str "prices", vo]) nqu
      refine ⟨.ref qu, _, p, rfl, dz_two upd_same (.str _) ((dzo.ex m3).ex eu), f1, f2, f3, rfl, _, rfl, HX.if_false (q_neb2 rfl) ?_⟩
      exact ⟨⟨_, _, _, _, _, _, _, _, _, rfl⟩, xI0.tr (x0M.tr ((Ex.xb m3).tr (Ex.xb eu))), ((rm.ex m3).ex eu).mono (by push_cast; omega)⟩
    · have nd1 := gok_nodup g6
      have nd2 := gok_nodup g3
      rw [due_cost b h kn he pk ok nd1 nd2]
      have cb := costI_bd gs' ws' kn he pk ok b0 b1 h0 h1
      have x0L2 := x0L.tr (Ex.xb e2)
      have te0L2 := xn_te pI0 x0L2.xn
      refine ⟨_, rfl, _, rfl, _, rfl, p, xs, y, .ref pr, prD ps b h os, ns, gs', kn, he, ws', rfl, hS0.pot pI0 x0L2, (hPr0.te te0L2).dz, wtP, hP.ex e2, (fun hb => by rw [okP] at hb; cases hb), fun _ ps' b' h' os' ed => ⟨fun hA' => ?_, fun _ qt L3 e3 hqt => ?_⟩⟩
      · obtain ⟨rfl, rfl, rfl, rfl⟩ := prD_inj ed
        rw [hA] at hA'
        cases hA'
      obtain ⟨rfl, rfl, rfl, rfl⟩ := prD_inj ed
      obtain ⟨c, ec⟩ : ∃ z, z = costI ps b h os gs' kn he ws' := ⟨_, rfl⟩
      rw [← ec] at hqt cb ⊢
      have cq : Pq 20 1 (.tuple [.str "told", .int c]) := pq_tup (w := 8) (k := 0) (m := 2) (n := 20) (all_cons (pq_by (by decide +kernel)) (all_cons (pq_int100 cb.1 cb.2) all_nil)) (by show 2 ≤ 2; decide) (by decide)
      obtain ⟨g1, g2', g3'⟩ := (cq.pz (n := 20) (by decide) (Nat.le_refl _)).fz (by decide)
      refine ⟨_, _, rfl, _, rfl, rfl, _, rfl, HX.if_false rfl ?_⟩
      refine HX.if_false rfl ?_
      refine ⟨_, rfl, rfl, _, rfl, HX.if_true rfl ?_⟩
      refine ⟨_, rfl, .ref qt, _, p, rfl, dz_two hqt (.str _) (.int _), g1, g2', g3', _, rfl, (by show 2 ≤ sizeLine; decide), fun q8 nq8 => ?_⟩
      have e8 := Ex.nw (H := L3) (o := .tup [.str "told", .int c]) nq8
      obtain ⟨LZ, EZ⟩ : ∃ z, z = upd L3 q8 (.tup [.str "told", .int c]) := ⟨_, rfl⟩
      have hq8 : LZ q8 = some (.tup [.str "told", .int c]) := by rw [EZ]; exact upd_same
      rw [← EZ] at e8 ⊢
      refine ⟨.ref q8, _, p, rfl, dz_two hq8 (.str _) (.int _), g1, g2', g3', rfl, _, rfl, HX.if_false (q_neb2 rfl) ?_⟩
      have hPZ := ((hP.ex e2).ex e3).ex e8
      have x0Z := x0L2.tr ((Ex.xb e3).tr (Ex.xb e8))
      have rZ := ((rL.ex e2).ex e3).ex e8
      obtain ⟨zsp, hzp⟩ : ∃ zs, LZ p = some (.lst zs) := let ⟨_, _, _, z, _⟩ := rZ; ⟨_, z⟩
      have te0Z := xn_te pI0 x0Z.xn
      have dPrZ : Dz p LZ (.ref pr) (prD ps b h os) := (hPr0.te te0Z).dz
      refine ⟨_, rfl, _, rfl, p, .ref pr, zsp, ps, os, b, h, rfl, hzp, dPrZ, fun f xo M1 m1 hf nfp lo oo => ?_⟩
      have lo : xo.length = 23 := lo
      refine ⟨p, f, xo, _, rfl, rZ.ex m1, SqL.of hf, nfp, by omega, by omega, by omega, fun j vo M2 hj xm rm => ?_⟩
      obtain ⟨dd, hdd⟩ : ∃ dd, (odds ps b h os)[j]? = some dd := ⟨_, List.getElem?_eq_getElem (by have := (List.getElem?_eq_some_iff.mp hj).1; show j < 23; omega)⟩
      have hdm := List.mem_of_getElem? hdd
      have dzo : Dz p M2 vo dd := (oo j vo dd hj hdd).xb (m1 _ _ hzp) xm
      have bad := odds_bad hPN.no ps os b h dd hdm
      have dq := odds_pq pk ok b0 b1 h0 h1 dd hdm
      have x0M : XB p I0 M2 := x0Z.tr ((Ex.xb m1).tr xm)
      have hPM := (hPZ.ex m1).pot (rZ.ex m1) xm
      have dq2 : Pq 1202 5 (.tuple [.str "prices", dd]) := pq_tup (w := 600) (k := 4) (m := 2) (n := 1202) (all_cons (pq_by (by decide +kernel)) (all_cons dq all_nil)) (by show 2 ≤ 2; decide) (by decide)
      obtain ⟨f1, f2, f3⟩ := (dq2.pz (n := 1202) (by decide) (Nat.le_refl _)).fz (by decide)
      clear hdd hdm oo hj dq2
      refine ⟨_, rfl, _, rfl, _, rfl, p, xs, y, vo, dd, ns, gs', kn, he, ws', rfl, hS0.pot pI0 x0M, dzo, Nat.le_trans dq.wt (by decide), hPM, fun _ qt5 M3 m3 hqt5 => ?_, fun hb => by rw [bad] at hb; cases hb⟩
      have dz5 : Dz p M3 (.ref qt5) (.tuple [.str "prices", dd]) := dz_two hqt5 (.str _) (dzo.ex m3)
      refine ⟨.ref qt5, _, p, rfl, dz5, f1, f2, f3, _, rfl, (by show 2 ≤ sizeLine; decide), fun qu nqu => ?_⟩
      have eu := Ex.nw (H := M3) (o := .tup [.str "prices", vo]) nqu
      refine ⟨.ref qu, _, p, rfl, dz_two upd_same (.str _) ((dzo.ex m3).ex eu), f1, f2, f3, rfl, _, rfl, HX.if_false (q_neb2 rfl) ?_⟩
      exact ⟨⟨_, _, _, _, _, _, _, _, _, rfl⟩, xI0.tr (x0M.tr ((Ex.xb m3).tr (Ex.xb eu))), ((rm.ex m3).ex eu).mono (by push_cast; omega)⟩

end
end K50
set_option Elab.async false
set_option linter.all false
set_option maxRecDepth 100000
set_option maxHeartbeats 4400000
namespace K50
open PySem PySem.Spec PyProof.Rows L2 HX
open PySem.W (Frag)

open LamX
def spLaw (K : Frag) (A : Ad) : Sp := fun vs H Q _ => ∃ (a : Addr) (ns : List Int), vs = [.ref a] ∧ SqL K H a (ns.map V.int) ∧ ns.length ≤ 63 ∧ Tabs (Tb A) H ∧ ∀ H', Q (.bl true) H'
theorem sql_en {K : Frag} {H H' : Hp} {a : Addr} {xs : List V} (h : SqL K H a xs) (e : ExtN H H') : SqL K H' a xs :=
  h.elim (fun z => z.elim (fun y => .inl (.inl (e _ _ y (fun _ z => by cases z)))) fun ⟨o, y⟩ => .inl (.inr ⟨o, e _ _ y (fun _ z => by cases z)⟩)) .inr
section
variable {P : Program} {w : World} {K : Frag} {mg : Str → Option Value} {base : Heap} {A : Ad}

theorem ok_law (T : Txt K mg A) (TB : TabB base mg A.c_right A.P_right) : FnG P w K mg base CX0 10 A.f_law A.d_law ["_law_script"] (spLaw K A) := by
  refine okG0 T.F_law sc_law (fun vs H Q E h => ?_) (fun cdv A0 outer s H vs Q E hgd0 hr h => ?_)
  · obtain ⟨_, _, rfl, _⟩ := h
    rfl
  · have hgd : (A0.deeper (envOfC "law" (defScope s_law) s.heap.objs.size A.f_law cdv)).guards = some [] := hgd0
    have hu := hu_of hr
    obtain ⟨a, ns, rfl, hS, hl, hT, k⟩ := h
    refine ⟨_, (pss_cons (ps_for PassesOwn.never rfl (pi_range1 rfl T.g_range (pa_cons (pe_callB (call_max2 rfl) (by rfl) T.g_max (by decide +kernel) (pa_cons pe_int (pa_cons (pe_callB (call_min2 rfl) (by rfl) T.g_min (by decide +kernel) (pa_cons pe_int (pa_cons (pe_callB call_len_seq (by rfl) T.g_len (by decide +kernel) (pa_cons (pv 0) pa_nil)) pa_nil))) pa_nil))) pa_nil)) (pg_name (i := 1) sc_law.nd rfl (Or.inl rfl)) (pss_cons (ps_set (i := 2) sc_law.nd rfl (Or.inr rfl) (pe_call (ok_pot_of T) (hr.mono (by decide)) (by rfl) T.m_pot_of T.F_pot_of.kp T.b_pot_of .nil pass0 (pa_cons (pv 0) (pa_cons (pv 1) pa_nil))))
      (pss_one (ps_if (pt_not (pt_val (pe_callB (cr_all rfl) (by rfl) T.g_all (by decide +kernel) (pa_cons (pe_lc (own := [("_law_turn", 3)]) (g := (gName 3)) (tt := tYes) rfl sc_law.nd (pi_range1 rfl T.g_range (pa_cons pe_int pa_nil)) (blkOk_by (N := N_law) (sc := defScope s_law) (by decide +kernel)) (fun _ _ _ _ _ => pg_name (i := 3) sc_law.nd rfl (Or.inl rfl)) (fun _ _ _ _ _ => pts_nil) (fun _ _ _ _ _ => (pe_callG hgd (ok_right T TB) (hr.mono (by decide)) (by rfl) T.m_right T.F_right.kp T.b_right .nil pass0 (pa_cons (pv 2) pa_nil)))) pa_nil)))) (pss_one (ps_ret pe_bl)) pss_nil))))
      (pss_one (ps_ret pe_bl))), ?_⟩
    refine ⟨_, rfl, a, _, rfl, .inl hS, _, _, rfl, _, _, rfl, ?_⟩
    obtain ⟨n, en⟩ : ∃ z, z = (if (if ((ns.map V.int).length : Int) < 3 then ((ns.map V.int).length : Int) else 3) > 1 then (if ((ns.map V.int).length : Int) < 3 then ((ns.map V.int).length : Int) else 3) else 1) := ⟨_, rfl⟩
    have n1 : 1 ≤ n := by rw [en]; split <;> split at * <;> omega
    have n3 : n ≤ 3 := by rw [en]; split <;> split at * <;> omega
    rw [← en]
    refine ⟨n, rfl, by omega, by omega, for_range (lo := 0) (n := n.toNat) (fun i σ H' => (∃ v1 v2 v3, σ = [some (.ref a), v1, v2, v3]) ∧ ExtN H H' ∧ Tabs (Tb A) H') ⟨⟨_, _, _, rfl⟩, ExtN.refl H, hT⟩ ?_ ?_⟩
    · rintro i σ H2 hi ⟨⟨v1, v2, v3, rfl⟩, e2, t2⟩
      refine ⟨_, rfl, _, rfl, a, ns, 0 + i, rfl, sql_en hS e2, by omega, by omega, fun p H3 hp e3 pot => ?_⟩
      refine ⟨6, rfl, by decide, by decide, fun D nD => lc_range (lo := 0) (n := 6) (fun j H' => XN p H3 H' ∧ Tabs (Tb A) H' ∧ PotAt H' p (400 * j) ∧ H' D = some (.lst (List.replicate j (.bl true)))) ⟨(Ex.xb (Ex.nw nD)).xn, (t2.ext e3).ext (Ex.nw nD), (pot.mono (by omega)).up (Ne.symm (pot_none pot nD)), upd_same⟩ ?_ ?_⟩
      · rintro j H4 hj ⟨e4, t4, hp4, hD⟩
        have nDp : D ≠ p := pot_none pot nD
        refine ⟨rfl, _, rfl, p, _, rfl, hp4, by omega, t4, fun H5 x5 t5 hp5 => ?_⟩
        have hD5 := x5 _ _ nDp (fun _ z => by cases z) hD
        refine ⟨_, hD5, small (by rw [List.length_replicate]; omega), xn_mu (e4.tr x5) nD, tabs_xb t5 hD5 XB.wr, (hp5.mono (by push_cast; omega)).up (Ne.symm nDp), ?_⟩
        rw [rep_next]
        exact upd_same
      · rintro H4 ⟨e4, t4, hp4, hD⟩
        refine ⟨D, List.replicate 6 true, rfl, SqL.of (by rw [hD, rep_bl]), _, rfl, HX.if_false (by rw [rep_all]; rfl) ?_⟩
        exact ⟨⟨_, _, _, rfl⟩, e2.trans fun b o hb nt => e4 b o (ne_of_none hb hp) nt (e3 _ _ hb), t4⟩
    · rintro σ H2 _
      exact k _
end
end K50
set_option Elab.async false
set_option linter.all false
set_option maxRecDepth 100000
set_option maxHeartbeats 4400000
namespace K50
open PySem PySem.Spec PyProof.Rows L2 HX
open PySem.W (Frag)
open LamX
def dwB (K : Frag) (f : Addr) : Bool := match K.lookup f with
  | some ⟨_, _, .func fd, _⟩ => dfB K fd.defaults
  | _ => false
theorem dw_fun {K : Frag} {x qual : Str} {params : Arguments} {body : List Stmt} {scope : Scope} {v : V} {f : Addr} {fd : FuncData} (F : FunD K x qual params body scope [v] [] f fd) (c : dwB K f = true) :
    ∃ a, FunD K x qual params body scope [.ref a] [] f fd ∧ KNil K a := by
  obtain ⟨oc, od, dV, kV, doc, pm, an, cdv, ct, osl, rfl, lk, hcd, hD, hK⟩ := F.ex
  unfold dwB at c
  rw [lk] at c
  obtain ⟨a, h1, n1⟩ := df_ok (v := dV) c
  exact ⟨a, ⟨⟨oc, od, dV, kV, doc, pm, an, cdv, ct, osl, rfl, lk, hcd, h1, hK⟩, F.kp⟩, knil_ok n1⟩
def fnl : List DX := ([⟨met "BadPlan" "__init__", "__init__", "BadPlan.__init__", s_BadPlan_init⟩, ⟨met "BadPrices" "__init__", "__init__", "BadPrices.__init__", s_BadPrices_init⟩, ⟨glo "is_whole", "is_whole", "is_whole", s_is_whole⟩, ⟨glo "is_size", "is_size", "is_size", s_is_size⟩, ⟨glo "is_most", "is_most", "is_most", s_is_most⟩, ⟨glo "are_items", "are_items", "are_items", s_are_items⟩, ⟨glo "is_name", "is_name", "is_name", s_is_name⟩, ⟨glo "are_rising", "are_rising", "are_rising", s_are_rising⟩, ⟨glo "are_names", "are_names", "are_names", s_are_names⟩, ⟨glo "are_pairs", "are_pairs", "are_pairs", s_are_pairs⟩, ⟨glo "are_kinds", "are_kinds", "are_kinds", s_are_kinds⟩, ⟨glo "_are_cells", "_are_cells", "_are_cells", s_are_cells⟩, ⟨glo "_are_rows", "_are_rows", "_are_rows", s_are_rows⟩, ⟨glo "_are_loose", "_are_loose", "_are_loose", s_are_loose⟩, ⟨prp "World" "size", "size", "World.size", s_World_size⟩, ⟨prp "World" "most", "most", "World.most", s_World_most⟩, ⟨prp "World" "rows", "rows", "World.rows", s_World_rows⟩, ⟨prp "World" "loose", "loose", "World.loose", s_World_loose⟩, ⟨met "World" "cell_number", "cell_number", "World.cell_number", s_World_cell_number⟩, ⟨glo "_is_work", "_is_work", "_is_work", s_is_work⟩] : List DX) ++ ([⟨glo "_are_works", "_are_works", "_are_works", s_are_works⟩, ⟨glo "all_values", "all_values", "all_values", s_all_values⟩, ⟨glo "_all_calls", "_all_calls", "_all_calls", s_all_calls⟩, ⟨glo "all_items", "all_items", "all_items", s_all_items⟩, ⟨glo "_all_changes", "_all_changes", "_all_changes", s_all_changes⟩, ⟨met "Setup" "__init__", "__init__", "Setup.__init__", s_Setup_init⟩, ⟨met "Setup" "work_number", "work_number", "Setup.work_number", s_Setup_work_number⟩, ⟨prp "Plan" "guards", "guards", "Plan.guards", s_Plan_guards⟩, ⟨prp "Plan" "known", "known", "Plan.known", s_Plan_known⟩, ⟨prp "Plan" "held", "held", "Plan.held", s_Plan_held⟩, ⟨prp "Plan" "own", "own", "Plan.own", s_Plan_own⟩, ⟨met "Plan" "__eq__", "__eq__", "Plan.__eq__", s_Plan_eq⟩, ⟨glo "_is_price", "_is_price", "_is_price", s_is_price⟩, ⟨glo "_are_priced", "_are_priced", "_are_priced", s_are_priced⟩, ⟨glo "_are_prices", "_are_prices", "_are_prices", s_are_prices⟩, ⟨glo "_check_prices", "_check_prices", "_check_prices", s_check_prices⟩, ⟨glo "_are_among", "_are_among", "_are_among", s_are_among⟩, ⟨glo "_cost", "_cost", "_cost", s_cost⟩, ⟨glo "price_of", "price_of", "price_of", s_price_of⟩, ⟨glo "_law_pot_of", "_law_pot_of", "_law_pot_of", s_pot_of⟩] : List DX) ++ ([⟨glo "_law_take", "_law_take", "_law_take", s_take⟩, ⟨glo "_law_of", "_law_of", "_law_of", s_of⟩, ⟨glo "_law_names", "_law_names", "_law_names", s_names⟩, ⟨glo "_law_told", "_law_told", "_law_told", s_told⟩, ⟨glo "_law_odd_prices", "_law_odd_prices", "_law_odd_prices", s_odd_prices⟩, ⟨glo "_law_priced", "_law_priced", "_law_priced", s_priced⟩, ⟨glo "_law_due", "_law_due", "_law_due", s_due⟩, ⟨glo "_law_right", "_law_right", "_law_right", s_right⟩, ⟨glo "law", "law", "law", s_law⟩] : List DX)
def fnd : List DX := [⟨met "World" "__init__", "__init__", "World.__init__", s_World_init⟩, ⟨met "Plan" "__init__", "__init__", "Plan.__init__", s_Plan_init⟩]
def nmG : List Str := ((["is_whole", "is_size", "is_most", "are_items", "is_name", "are_rising", "are_names", "are_pairs", "are_kinds", "_are_cells", "_are_rows", "_are_loose", "_is_work", "_are_works", "all_values", "_all_calls"] : List Str) ++ (["all_items", "_all_changes", "_is_price", "_are_priced", "_are_prices", "_check_prices", "_are_among", "_cost", "price_of", "_law_pot_of", "_law_take", "_law_of", "_law_names", "_law_told", "_law_odd_prices", "_law_priced"] : List Str) ++ (["_law_due", "_law_right", "law", "TapeError", "BadPlan", "BadPrices", "World", "Setup", "Plan"] : List Str))
def nmF : List Str := ((["isinstance", "int", "bool", "str", "len", "abs", "repr", "all", "range", "tuple", "list", "zip", "enumerate", "max", "min", "sum"] : List Str) ++ (["ValueError"] : List Str))
def b_cls (K : Frag) : Bool := clsB K (He.ga K "World") && (mkB K (He.ga K "World") (met "World" "__init__" K) && (clsB K (He.ga K "Setup") && (mkB K (He.ga K "Setup") (met "Setup" "__init__" K) && (clsB K (He.ga K "Plan") && (mkB K (He.ga K "Plan") (met "Plan" "__init__" K))))))
def b_noa (K : Frag) : Bool := noatB K (He.ga K "World") "_size" && (noatB K (He.ga K "World") "_most" && (noatB K (He.ga K "World") "_cells" && (noatB K (He.ga K "World") "_rows" && (noatB K (He.ga K "World") "_loose" && (noatB K (He.ga K "World") "_cell_numbers" && (noatB K (He.ga K "World") "_row_numbers" && (noatB K (He.ga K "Setup") "_world" && (noatB K (He.ga K "Setup") "_works" && (noatB K (He.ga K "Setup") "_places" && (noatB K (He.ga K "Setup") "_numbers" && (noatB K (He.ga K "Setup") "_deeds" && (noatB K (He.ga K "Plan") "_guards" && (noatB K (He.ga K "Plan") "_known" && (noatB K (He.ga K "Plan") "_held" && (noatB K (He.ga K "Plan") "_own")))))))))))))))
def b_prp (K : Frag) : Bool := propB K (He.ga K "World") "size" (met "World" "size" K) (prp "World" "size" K) && (propB K (He.ga K "World") "most" (met "World" "most" K) (prp "World" "most" K) && (propB K (He.ga K "World") "rows" (met "World" "rows" K) (prp "World" "rows" K) && (propB K (He.ga K "World") "loose" (met "World" "loose" K) (prp "World" "loose" K) && (propB K (He.ga K "Plan") "guards" (met "Plan" "guards" K) (prp "Plan" "guards" K) && (propB K (He.ga K "Plan") "known" (met "Plan" "known" K) (prp "Plan" "known" K) && (propB K (He.ga K "Plan") "held" (met "Plan" "held" K) (prp "Plan" "held" K) && (propB K (He.ga K "Plan") "own" (met "Plan" "own" K) (prp "Plan" "own" K))))))))
def b_mth (K : Frag) : Bool := methB K (He.ga K "World") "cell_number" (met "World" "cell_number" K) && (methB K (He.ga K "Setup") "work_number" (met "Setup" "work_number" K))
def b_isi (K : Frag) : Bool := isiB K (He.ga K "Plan") && (He.eqO (PySem.W.specialIn K (.builtin "object.__class__") "__get__") (some (some (.builtin "getset_descriptor.__get__"))) && (decide (PySem.W.takesIn K (.builtin "object.__class__") = some true)))
def b_eqs (K : Frag) : Bool := He.eqO (PySem.W.findIn K (.ref (He.ga K "Plan")) "__eq__") (some (some (.ref (met "Plan" "__eq__" K)))) && (PySem.W.isFn K (.ref (met "Plan" "__eq__" K)) && (He.eqO (PySem.W.findIn K (.ref (He.ga K "Plan")) "__ne__") (some (some (.builtin "object.__ne__"))) && (decide (PySem.W.mroIn K (He.ga K "Plan") (.type "object") = some true) && (PySem.W.notFirst K (He.ga K "Plan") (.ref (He.ga K "Plan")) && (PySem.W.notFirst K (He.ga K "Plan") (.type "int") && (PySem.W.notFirst K (He.ga K "Plan") (.type "tuple")))))))
def b_cst (K : Frag) : Bool := (He.Fa.int "MOST_LETTERS" 8).ok K && ((He.Fa.str "LETTERS" "abcdefghijklmnopqrstuvwxyz").ok K && ((He.Fa.int "MOST_CELLS" 2).ok K && ((He.Fa.int "MOST_ROWS" 2).ok K && ((He.Fa.int "MOST_WORKS" 3).ok K && ((He.Fa.int "MOST_VALUES" 3).ok K && ((He.Fa.int "MOST_GUARDS" 6).ok K && ((He.Fa.int "MOST_OWN" 3).ok K && ((He.Fa.int "MOST_PRICED" 4).ok K && ((He.Fa.int "MOST_OWN_PRICED" 2).ok K && ((He.Fa.int "PRICES" 10).ok K))))))))))
def b_ene (K : Frag) : Bool := !decide (He.ga K "BadPlan" = He.ga K "BadPrices")
def b_tab (K : Frag) : Bool := tabB K "_law_right"
def b_kwd (K : Frag) : Bool := dwB K (met "World" "__init__" K) && (kwB K (met "Plan" "__init__" K))
def b_errs (K : Frag) : Bool := (([("BadPlan", "value"), ("BadPrices", "value")] : List (Str × Str))).all fun c => excB K (He.ga K c.1) && errB K (He.ga K c.1) (He.ma K (He.ga K c.1) "__init__") c.2
def b_mro (K : Frag) : Bool := mroB K (He.ga K "TapeError") (((["BadPlan", "BadPrices"] : List Str)).map (He.ga K)) && decide (PySem.W.subIn K (.ref (He.ga K "TapeError")) (.type "BaseException") = some true)
def ex (K : Frag) : Bool := nmG.all (fun x => He.eqO (PySem.W.nsIn K mainGlobals x) (some (some (.ref (He.ga K x))))) && (nmF.all (fun x => He.eqO (PySem.W.nsIn K mainGlobals x) (some none)) && (b_cls K && (b_noa K && (b_prp K && (b_mth K && (b_isi K && (b_eqs K && (b_cst K && (b_ene K && (b_tab K && (b_kwd K && (b_errs K && (b_mro K)))))))))))))
theorem ex_glob {K : Frag} {h : Heap} {mg : Str → Option Value} (X : K.In h) (G : h.Ns mainGlobals mg) (c : ex K = true) {x : Str} (hx : x ∈ nmG) : mg x = some (.ref (He.ga K x)) := by
  unfold ex at c
  simp only [Bool.and_eq_true] at c
  exact PySem.W.mg_of X G (He.eqO_ok (List.all_eq_true.mp c.1 x hx))
theorem ex_free {K : Frag} {h : Heap} {mg : Str → Option Value} (X : K.In h) (G : h.Ns mainGlobals mg) (c : ex K = true) {x : Str} (hx : x ∈ nmF) : mg x = none := by
  unfold ex at c
  simp only [Bool.and_eq_true] at c
  exact PySem.W.mg_none_of X G (He.eqO_ok (List.all_eq_true.mp c.2.1 x hx))
theorem ex_cls {K : Frag} (c : ex K = true) : b_cls K = true := by
  unfold ex at c
  simp only [Bool.and_eq_true] at c
  exact c.2.2.1
theorem ex_noa {K : Frag} (c : ex K = true) : b_noa K = true := by
  unfold ex at c
  simp only [Bool.and_eq_true] at c
  exact c.2.2.2.1
theorem ex_prp {K : Frag} (c : ex K = true) : b_prp K = true := by
  unfold ex at c
  simp only [Bool.and_eq_true] at c
  exact c.2.2.2.2.1
theorem ex_mth {K : Frag} (c : ex K = true) : b_mth K = true := by
  unfold ex at c
  simp only [Bool.and_eq_true] at c
  exact c.2.2.2.2.2.1
theorem ex_isi {K : Frag} (c : ex K = true) : b_isi K = true := by
  unfold ex at c
  simp only [Bool.and_eq_true] at c
  exact c.2.2.2.2.2.2.1
theorem ex_eqs {K : Frag} (c : ex K = true) : b_eqs K = true := by
  unfold ex at c
  simp only [Bool.and_eq_true] at c
  exact c.2.2.2.2.2.2.2.1
theorem ex_cst {K : Frag} (c : ex K = true) : b_cst K = true := by
  unfold ex at c
  simp only [Bool.and_eq_true] at c
  exact c.2.2.2.2.2.2.2.2.1
theorem ex_ene {K : Frag} (c : ex K = true) : b_ene K = true := by
  unfold ex at c
  simp only [Bool.and_eq_true] at c
  exact c.2.2.2.2.2.2.2.2.2.1
theorem ex_tab {K : Frag} (c : ex K = true) : b_tab K = true := by
  unfold ex at c
  simp only [Bool.and_eq_true] at c
  exact c.2.2.2.2.2.2.2.2.2.2.1
theorem ex_kwd {K : Frag} (c : ex K = true) : b_kwd K = true := by
  unfold ex at c
  simp only [Bool.and_eq_true] at c
  exact c.2.2.2.2.2.2.2.2.2.2.2.1
theorem ex_errs {K : Frag} (c : ex K = true) : b_errs K = true := by
  unfold ex at c
  simp only [Bool.and_eq_true] at c
  exact c.2.2.2.2.2.2.2.2.2.2.2.2.1
theorem ex_mro {K : Frag} (c : ex K = true) : b_mro K = true := by
  unfold ex at c
  simp only [Bool.and_eq_true] at c
  exact c.2.2.2.2.2.2.2.2.2.2.2.2.2
abbrev R : PySem.W.OpenRow := PySem.W.OpenLaw.row PySem.Challenge.rw_tapedonce_k50_prices_of_plans
def names : List Str := ((["_wall", "TapeError", "BadWorld", "BadSetup", "BadPlan", "BadPrices", "MOST_LETTERS", "LETTERS", "is_whole", "is_size", "is_most", "are_items", "is_name", "are_rising", "are_names", "are_pairs"] : List Str) ++ (["are_kinds", "MOST_CELLS", "MOST_ROWS", "MOST_WORKS", "MOST_VALUES", "World", "Setup", "_are_cells", "_are_rows", "_are_loose", "_are_works", "_is_work", "_all_calls", "all_values", "_all_changes", "all_items"] : List Str) ++ (["MOST_GUARDS", "MOST_OWN", "Plan", "MOST_PRICED", "MOST_OWN_PRICED", "PRICES", "price_of", "_check_prices", "_are_prices", "_are_priced", "_is_price", "_are_among", "_cost", "_law_pot_of", "_law_take", "_law_of"] : List Str) ++ (["_law_names", "_law_told", "_law_odd_prices", "_law_priced", "_law_due"] : List Str))
theorem run (w : World) : HandSHeadRun.RunEq R (PySem.W.view R.prog [59, 60]) (hookZ 5 ex fnl fnd) (obTZ 5 ex fnl fnd) 9400 names w := by
  intro os
  kernel_rfl
theorem er_at {K : Frag} (ce : ex K = true) {c : Str × Str} (hc : c ∈ (([("BadPlan", "value"), ("BadPrices", "value")] : List (Str × Str)))) : excB K (He.ga K c.1) = true ∧ errB K (He.ga K c.1) (He.ma K (He.ga K c.1) "__init__") c.2 = true := Bool.and_eq_true_iff.mp (List.all_eq_true.mp (ex_errs ce) c hc)
theorem facts {P : Program} {w : World} {K : Frag} {h : Heap} {mg : Str → Option Value} {f : Addr} (X : K.In h) (G : h.Ns mainGlobals mg) (hfa : mg ("law" : Str) = some (.ref f)) (c : SaysY ex fnl fnd K) :
    ∃ (fd : FuncData) (A : Ad), A.c_right = cod "_law_right" K ∧ A.P_right = tbl "_law_right" K ∧ (∀ (s : Shared) (v : Value), BindsTo s fd ⟨[v], []⟩ [("_law_script", v)]) ∧ ∀ base : Heap, K.In base → base.Ns mainGlobals mg → TabB base mg A.c_right A.P_right → FnG P w K mg base CX0 10 f fd ["_law_script"] (spLaw K A) := by
  have ce := c.facts
  have h_cls := ex_cls ce
  unfold b_cls at h_cls
  simp only [Bool.and_eq_true] at h_cls
  have h_noa := ex_noa ce
  unfold b_noa at h_noa
  simp only [Bool.and_eq_true] at h_noa
  have h_prp := ex_prp ce
  unfold b_prp at h_prp
  simp only [Bool.and_eq_true] at h_prp
  have h_mth := ex_mth ce
  unfold b_mth at h_mth
  simp only [Bool.and_eq_true] at h_mth
  have h_isi := ex_isi ce
  unfold b_isi at h_isi
  simp only [Bool.and_eq_true] at h_isi
  have h_eqs := ex_eqs ce
  unfold b_eqs at h_eqs
  simp only [Bool.and_eq_true] at h_eqs
  have h_cst := ex_cst ce
  unfold b_cst at h_cst
  simp only [Bool.and_eq_true] at h_cst
  have h_ene := ex_ene ce
  unfold b_ene at h_ene

  have h_tab := ex_tab ce
  unfold b_tab at h_tab

  have h_kwd := ex_kwd ce
  unfold b_kwd at h_kwd
  simp only [Bool.and_eq_true] at h_kwd
  have hene : He.ga K "BadPlan" ≠ He.ga K "BadPrices" := fun z => by
    rw [decide_eq_true z] at h_ene
    cases h_ene
  have mr := ex_mro ce
  unfold b_mro at mr
  simp only [Bool.and_eq_true] at mr
  obtain ⟨d0, F0⟩ := c.def_ 0 (d := (⟨met "BadPlan" "__init__", "__init__", "BadPlan.__init__", s_BadPlan_init⟩ : DX)) rfl
  obtain ⟨d1, F1⟩ := c.def_ 1 (d := (⟨met "BadPrices" "__init__", "__init__", "BadPrices.__init__", s_BadPrices_init⟩ : DX)) rfl
  obtain ⟨d2, F2⟩ := c.def_ 2 (d := (⟨glo "is_whole", "is_whole", "is_whole", s_is_whole⟩ : DX)) rfl
  obtain ⟨d3, F3⟩ := c.def_ 3 (d := (⟨glo "is_size", "is_size", "is_size", s_is_size⟩ : DX)) rfl
  obtain ⟨d4, F4⟩ := c.def_ 4 (d := (⟨glo "is_most", "is_most", "is_most", s_is_most⟩ : DX)) rfl
  obtain ⟨d5, F5⟩ := c.def_ 5 (d := (⟨glo "are_items", "are_items", "are_items", s_are_items⟩ : DX)) rfl
  obtain ⟨d6, F6⟩ := c.def_ 6 (d := (⟨glo "is_name", "is_name", "is_name", s_is_name⟩ : DX)) rfl
  obtain ⟨d7, F7⟩ := c.def_ 7 (d := (⟨glo "are_rising", "are_rising", "are_rising", s_are_rising⟩ : DX)) rfl
  obtain ⟨d8, F8⟩ := c.def_ 8 (d := (⟨glo "are_names", "are_names", "are_names", s_are_names⟩ : DX)) rfl
  obtain ⟨d9, F9⟩ := c.def_ 9 (d := (⟨glo "are_pairs", "are_pairs", "are_pairs", s_are_pairs⟩ : DX)) rfl
  obtain ⟨d10, F10⟩ := c.def_ 10 (d := (⟨glo "are_kinds", "are_kinds", "are_kinds", s_are_kinds⟩ : DX)) rfl
  obtain ⟨d11, F11⟩ := c.def_ 11 (d := (⟨glo "_are_cells", "_are_cells", "_are_cells", s_are_cells⟩ : DX)) rfl
  obtain ⟨d12, F12⟩ := c.def_ 12 (d := (⟨glo "_are_rows", "_are_rows", "_are_rows", s_are_rows⟩ : DX)) rfl
  obtain ⟨d13, F13⟩ := c.def_ 13 (d := (⟨glo "_are_loose", "_are_loose", "_are_loose", s_are_loose⟩ : DX)) rfl
  obtain ⟨d14, F14⟩ := c.def_ 14 (d := (⟨prp "World" "size", "size", "World.size", s_World_size⟩ : DX)) rfl
  obtain ⟨d15, F15⟩ := c.def_ 15 (d := (⟨prp "World" "most", "most", "World.most", s_World_most⟩ : DX)) rfl
  obtain ⟨d16, F16⟩ := c.def_ 16 (d := (⟨prp "World" "rows", "rows", "World.rows", s_World_rows⟩ : DX)) rfl
  obtain ⟨d17, F17⟩ := c.def_ 17 (d := (⟨prp "World" "loose", "loose", "World.loose", s_World_loose⟩ : DX)) rfl
  obtain ⟨d18, F18⟩ := c.def_ 18 (d := (⟨met "World" "cell_number", "cell_number", "World.cell_number", s_World_cell_number⟩ : DX)) rfl
  obtain ⟨d19, F19⟩ := c.def_ 19 (d := (⟨glo "_is_work", "_is_work", "_is_work", s_is_work⟩ : DX)) rfl
  obtain ⟨d20, F20⟩ := c.def_ 20 (d := (⟨glo "_are_works", "_are_works", "_are_works", s_are_works⟩ : DX)) rfl
  obtain ⟨d21, F21⟩ := c.def_ 21 (d := (⟨glo "all_values", "all_values", "all_values", s_all_values⟩ : DX)) rfl
  obtain ⟨d22, F22⟩ := c.def_ 22 (d := (⟨glo "_all_calls", "_all_calls", "_all_calls", s_all_calls⟩ : DX)) rfl
  obtain ⟨d23, F23⟩ := c.def_ 23 (d := (⟨glo "all_items", "all_items", "all_items", s_all_items⟩ : DX)) rfl
  obtain ⟨d24, F24⟩ := c.def_ 24 (d := (⟨glo "_all_changes", "_all_changes", "_all_changes", s_all_changes⟩ : DX)) rfl
  obtain ⟨d25, F25⟩ := c.def_ 25 (d := (⟨met "Setup" "__init__", "__init__", "Setup.__init__", s_Setup_init⟩ : DX)) rfl
  obtain ⟨d26, F26⟩ := c.def_ 26 (d := (⟨met "Setup" "work_number", "work_number", "Setup.work_number", s_Setup_work_number⟩ : DX)) rfl
  obtain ⟨d27, F27⟩ := c.def_ 27 (d := (⟨prp "Plan" "guards", "guards", "Plan.guards", s_Plan_guards⟩ : DX)) rfl
  obtain ⟨d28, F28⟩ := c.def_ 28 (d := (⟨prp "Plan" "known", "known", "Plan.known", s_Plan_known⟩ : DX)) rfl
  obtain ⟨d29, F29⟩ := c.def_ 29 (d := (⟨prp "Plan" "held", "held", "Plan.held", s_Plan_held⟩ : DX)) rfl
  obtain ⟨d30, F30⟩ := c.def_ 30 (d := (⟨prp "Plan" "own", "own", "Plan.own", s_Plan_own⟩ : DX)) rfl
  obtain ⟨d31, F31⟩ := c.def_ 31 (d := (⟨met "Plan" "__eq__", "__eq__", "Plan.__eq__", s_Plan_eq⟩ : DX)) rfl
  obtain ⟨d32, F32⟩ := c.def_ 32 (d := (⟨glo "_is_price", "_is_price", "_is_price", s_is_price⟩ : DX)) rfl
  obtain ⟨d33, F33⟩ := c.def_ 33 (d := (⟨glo "_are_priced", "_are_priced", "_are_priced", s_are_priced⟩ : DX)) rfl
  obtain ⟨d34, F34⟩ := c.def_ 34 (d := (⟨glo "_are_prices", "_are_prices", "_are_prices", s_are_prices⟩ : DX)) rfl
  obtain ⟨d35, F35⟩ := c.def_ 35 (d := (⟨glo "_check_prices", "_check_prices", "_check_prices", s_check_prices⟩ : DX)) rfl
  obtain ⟨d36, F36⟩ := c.def_ 36 (d := (⟨glo "_are_among", "_are_among", "_are_among", s_are_among⟩ : DX)) rfl
  obtain ⟨d37, F37⟩ := c.def_ 37 (d := (⟨glo "_cost", "_cost", "_cost", s_cost⟩ : DX)) rfl
  obtain ⟨d38, F38⟩ := c.def_ 38 (d := (⟨glo "price_of", "price_of", "price_of", s_price_of⟩ : DX)) rfl
  obtain ⟨d39, F39⟩ := c.def_ 39 (d := (⟨glo "_law_pot_of", "_law_pot_of", "_law_pot_of", s_pot_of⟩ : DX)) rfl
  obtain ⟨d40, F40⟩ := c.def_ 40 (d := (⟨glo "_law_take", "_law_take", "_law_take", s_take⟩ : DX)) rfl
  obtain ⟨d41, F41⟩ := c.def_ 41 (d := (⟨glo "_law_of", "_law_of", "_law_of", s_of⟩ : DX)) rfl
  obtain ⟨d42, F42⟩ := c.def_ 42 (d := (⟨glo "_law_names", "_law_names", "_law_names", s_names⟩ : DX)) rfl
  obtain ⟨d43, F43⟩ := c.def_ 43 (d := (⟨glo "_law_told", "_law_told", "_law_told", s_told⟩ : DX)) rfl
  obtain ⟨d44, F44⟩ := c.def_ 44 (d := (⟨glo "_law_odd_prices", "_law_odd_prices", "_law_odd_prices", s_odd_prices⟩ : DX)) rfl
  obtain ⟨d45, F45⟩ := c.def_ 45 (d := (⟨glo "_law_priced", "_law_priced", "_law_priced", s_priced⟩ : DX)) rfl
  obtain ⟨d46, F46⟩ := c.def_ 46 (d := (⟨glo "_law_due", "_law_due", "_law_due", s_due⟩ : DX)) rfl
  obtain ⟨d47, F47⟩ := c.def_ 47 (d := (⟨glo "_law_right", "_law_right", "_law_right", s_right⟩ : DX)) rfl
  obtain ⟨d48, F48⟩ := c.def_ 48 (d := (⟨glo "law", "law", "law", s_law⟩ : DX)) rfl
  obtain ⟨dW, vW, FW⟩ := c.def2 0 (d := (⟨met "World" "__init__", "__init__", "World.__init__", s_World_init⟩ : DX)) rfl
  obtain ⟨dP, vP, FP⟩ := c.def2 1 (d := (⟨met "Plan" "__init__", "__init__", "Plan.__init__", s_Plan_init⟩ : DX)) rfl
  obtain ⟨ka, FW2, nka⟩ := dw_fun FW h_kwd.1
  obtain ⟨kb, kc, FP2, nkb, nkc⟩ := kw_fun FP h_kwd.2
  have e := hfa.symm.trans (ex_glob X G ce (x := "law") (by decide +kernel))
  cases e
  have T : Txt K mg { C_TapeError := He.ga K "TapeError", C_BadPlan := He.ga K "BadPlan", C_BadPrices := He.ga K "BadPrices", C_World := He.ga K "World", C_Setup := He.ga K "Setup", C_Plan := He.ga K "Plan", f_BadPlan_init := (met "BadPlan" "__init__" K), f_BadPrices_init := (met "BadPrices" "__init__" K), f_is_whole := (glo "is_whole" K), f_is_size := (glo "is_size" K), f_is_most := (glo "is_most" K), f_are_items := (glo "are_items" K), f_is_name := (glo "is_name" K), f_are_rising := (glo "are_rising" K), f_are_names := (glo "are_names" K), f_are_pairs := (glo "are_pairs" K), f_are_kinds := (glo "are_kinds" K), f_are_cells := (glo "_are_cells" K), f_are_rows := (glo "_are_rows" K), f_are_loose := (glo "_are_loose" K), f_World_size := (prp "World" "size" K), f_World_most := (prp "World" "most" K), f_World_rows := (prp "World" "rows" K), f_World_loose := (prp "World" "loose" K), f_World_cell_number := (met "World" "cell_number" K), f_is_work := (glo "_is_work" K), f_are_works := (glo "_are_works" K), f_all_values := (glo "all_values" K), f_all_calls := (glo "_all_calls" K), f_all_items := (glo "all_items" K), f_all_changes := (glo "_all_changes" K), f_Setup_init := (met "Setup" "__init__" K), f_Setup_work_number := (met "Setup" "work_number" K), f_Plan_guards := (prp "Plan" "guards" K), f_Plan_known := (prp "Plan" "known" K), f_Plan_held := (prp "Plan" "held" K), f_Plan_own := (prp "Plan" "own" K), f_Plan_eq := (met "Plan" "__eq__" K), f_is_price := (glo "_is_price" K), f_are_priced := (glo "_are_priced" K), f_are_prices := (glo "_are_prices" K), f_check_prices := (glo "_check_prices" K), f_are_among := (glo "_are_among" K), f_cost := (glo "_cost" K), f_price_of := (glo "price_of" K), f_pot_of := (glo "_law_pot_of" K), f_take := (glo "_law_take" K), f_of := (glo "_law_of" K), f_names := (glo "_law_names" K), f_told := (glo "_law_told" K), f_odd_prices := (glo "_law_odd_prices" K), f_priced := (glo "_law_priced" K), f_due := (glo "_law_due" K), f_right := (glo "_law_right" K), f_law := (glo "law" K), d_BadPlan_init := d0, d_BadPrices_init := d1, d_is_whole := d2, d_is_size := d3, d_is_most := d4, d_are_items := d5, d_is_name := d6, d_are_rising := d7, d_are_names := d8, d_are_pairs := d9, d_are_kinds := d10, d_are_cells := d11, d_are_rows := d12, d_are_loose := d13, d_World_size := d14, d_World_most := d15, d_World_rows := d16, d_World_loose := d17, d_World_cell_number := d18, d_is_work := d19, d_are_works := d20, d_all_values := d21, d_all_calls := d22, d_all_items := d23, d_all_changes := d24, d_Setup_init := d25, d_Setup_work_number := d26, d_Plan_guards := d27, d_Plan_known := d28, d_Plan_held := d29, d_Plan_own := d30, d_Plan_eq := d31, d_is_price := d32, d_are_priced := d33, d_are_prices := d34, d_check_prices := d35, d_are_among := d36, d_cost := d37, d_price_of := d38, d_pot_of := d39, d_take := d40, d_of := d41, d_names := d42, d_told := d43, d_odd_prices := d44, d_priced := d45, d_due := d46, d_right := d47, d_law := d48, f_World_init := met "World" "__init__" K, d_World_init := dW, f_Plan_init := met "Plan" "__init__" K, d_Plan_init := dP, p_size := met "World" "size" K, p_most := met "World" "most" K, p_rows := met "World" "rows" K, p_loose := met "World" "loose" K, p_guards := met "Plan" "guards" K, p_known := met "Plan" "known" K, p_held := met "Plan" "held" K, p_own := met "Plan" "own" K, c_right := cod "_law_right" K, P_right := tbl "_law_right" K : Ad } := {
    F_BadPlan_init := F0
    F_BadPrices_init := F1
    F_is_whole := F2
    b_is_whole := F2.binds (ps := ["value", "low", "below"]) fun _ _ _ _ _ _ us hl => match us, hl with | [_, _, _], _ => rfl
    m_is_whole := (ex_glob X G ce (x := "is_whole") (by decide +kernel))
    F_is_size := F3
    b_is_size := F3.binds (ps := ["value"]) fun _ _ _ _ _ _ us hl => match us, hl with | [_], _ => rfl
    m_is_size := (ex_glob X G ce (x := "is_size") (by decide +kernel))
    F_is_most := F4
    b_is_most := F4.binds (ps := ["value"]) fun _ _ _ _ _ _ us hl => match us, hl with | [_], _ => rfl
    m_is_most := (ex_glob X G ce (x := "is_most") (by decide +kernel))
    F_are_items := F5
    b_are_items := F5.binds (ps := ["value", "size", "most"]) fun _ _ _ _ _ _ us hl => match us, hl with | [_, _, _], _ => rfl
    m_are_items := (ex_glob X G ce (x := "are_items") (by decide +kernel))
    F_is_name := F6
    b_is_name := F6.binds (ps := ["value"]) fun _ _ _ _ _ _ us hl => match us, hl with | [_], _ => rfl
    m_is_name := (ex_glob X G ce (x := "is_name") (by decide +kernel))
    F_are_rising := F7
    b_are_rising := F7.binds (ps := ["names"]) fun _ _ _ _ _ _ us hl => match us, hl with | [_], _ => rfl
    m_are_rising := (ex_glob X G ce (x := "are_rising") (by decide +kernel))
    F_are_names := F8
    b_are_names := F8.binds (ps := ["value", "most"]) fun _ _ _ _ _ _ us hl => match us, hl with | [_, _], _ => rfl
    m_are_names := (ex_glob X G ce (x := "are_names") (by decide +kernel))
    F_are_pairs := F9
    b_are_pairs := F9.binds (ps := ["value", "most"]) fun _ _ _ _ _ _ us hl => match us, hl with | [_, _], _ => rfl
    m_are_pairs := (ex_glob X G ce (x := "are_pairs") (by decide +kernel))
    F_are_kinds := F10
    b_are_kinds := F10.binds (ps := ["value", "most", "with_rows"]) fun _ _ _ _ _ _ us hl => match us, hl with | [_, _, _], _ => rfl
    m_are_kinds := (ex_glob X G ce (x := "are_kinds") (by decide +kernel))
    F_are_cells := F11
    b_are_cells := F11.binds (ps := ["value", "size"]) fun _ _ _ _ _ _ us hl => match us, hl with | [_, _], _ => rfl
    m_are_cells := (ex_glob X G ce (x := "_are_cells") (by decide +kernel))
    F_are_rows := F12
    b_are_rows := F12.binds (ps := ["value", "size", "most", "cells"]) fun _ _ _ _ _ _ us hl => match us, hl with | [_, _, _, _], _ => rfl
    m_are_rows := (ex_glob X G ce (x := "_are_rows") (by decide +kernel))
    F_are_loose := F13
    b_are_loose := F13.binds (ps := ["value", "cells", "rows"]) fun _ _ _ _ _ _ us hl => match us, hl with | [_, _, _], _ => rfl
    m_are_loose := (ex_glob X G ce (x := "_are_loose") (by decide +kernel))
    F_World_size := F14
    b_World_size := F14.binds (ps := ["self"]) fun _ _ _ _ _ _ us hl => match us, hl with | [_], _ => rfl
    F_World_most := F15
    b_World_most := F15.binds (ps := ["self"]) fun _ _ _ _ _ _ us hl => match us, hl with | [_], _ => rfl
    F_World_rows := F16
    b_World_rows := F16.binds (ps := ["self"]) fun _ _ _ _ _ _ us hl => match us, hl with | [_], _ => rfl
    F_World_loose := F17
    b_World_loose := F17.binds (ps := ["self"]) fun _ _ _ _ _ _ us hl => match us, hl with | [_], _ => rfl
    F_World_cell_number := F18
    b_World_cell_number := F18.binds (ps := ["self", "name"]) fun _ _ _ _ _ _ us hl => match us, hl with | [_, _], _ => rfl
    F_is_work := F19
    b_is_work := F19.binds (ps := ["value", "world"]) fun _ _ _ _ _ _ us hl => match us, hl with | [_, _], _ => rfl
    m_is_work := (ex_glob X G ce (x := "_is_work") (by decide +kernel))
    F_are_works := F20
    b_are_works := F20.binds (ps := ["value", "world"]) fun _ _ _ _ _ _ us hl => match us, hl with | [_, _], _ => rfl
    m_are_works := (ex_glob X G ce (x := "_are_works") (by decide +kernel))
    F_all_values := F21
    b_all_values := F21.binds (ps := ["world", "kinds"]) fun _ _ _ _ _ _ us hl => match us, hl with | [_, _], _ => rfl
    m_all_values := (ex_glob X G ce (x := "all_values") (by decide +kernel))
    F_all_calls := F22
    b_all_calls := F22.binds (ps := ["world", "works"]) fun _ _ _ _ _ _ us hl => match us, hl with | [_, _], _ => rfl
    m_all_calls := (ex_glob X G ce (x := "_all_calls") (by decide +kernel))
    F_all_items := F23
    b_all_items := F23.binds (ps := ["world"]) fun _ _ _ _ _ _ us hl => match us, hl with | [_], _ => rfl
    m_all_items := (ex_glob X G ce (x := "all_items") (by decide +kernel))
    F_all_changes := F24
    b_all_changes := F24.binds (ps := ["world"]) fun _ _ _ _ _ _ us hl => match us, hl with | [_], _ => rfl
    m_all_changes := (ex_glob X G ce (x := "_all_changes") (by decide +kernel))
    F_Setup_init := F25
    b_Setup_init := F25.binds (ps := ["self", "world", "works", "room"]) fun _ _ _ _ _ _ us hl => match us, hl with | [_, _, _, _], _ => rfl
    F_Setup_work_number := F26
    b_Setup_work_number := F26.binds (ps := ["self", "value"]) fun _ _ _ _ _ _ us hl => match us, hl with | [_, _], _ => rfl
    F_Plan_guards := F27
    b_Plan_guards := F27.binds (ps := ["self"]) fun _ _ _ _ _ _ us hl => match us, hl with | [_], _ => rfl
    F_Plan_known := F28
    b_Plan_known := F28.binds (ps := ["self"]) fun _ _ _ _ _ _ us hl => match us, hl with | [_], _ => rfl
    F_Plan_held := F29
    b_Plan_held := F29.binds (ps := ["self"]) fun _ _ _ _ _ _ us hl => match us, hl with | [_], _ => rfl
    F_Plan_own := F30
    b_Plan_own := F30.binds (ps := ["self"]) fun _ _ _ _ _ _ us hl => match us, hl with | [_], _ => rfl
    F_Plan_eq := F31
    b_Plan_eq := F31.binds (ps := ["self", "other"]) fun _ _ _ _ _ _ us hl => match us, hl with | [_, _], _ => rfl
    F_is_price := F32
    b_is_price := F32.binds (ps := ["value"]) fun _ _ _ _ _ _ us hl => match us, hl with | [_], _ => rfl
    m_is_price := (ex_glob X G ce (x := "_is_price") (by decide +kernel))
    F_are_priced := F33
    b_are_priced := F33.binds (ps := ["value", "most"]) fun _ _ _ _ _ _ us hl => match us, hl with | [_, _], _ => rfl
    m_are_priced := (ex_glob X G ce (x := "_are_priced") (by decide +kernel))
    F_are_prices := F34
    b_are_prices := F34.binds (ps := ["setup", "value"]) fun _ _ _ _ _ _ us hl => match us, hl with | [_, _], _ => rfl
    m_are_prices := (ex_glob X G ce (x := "_are_prices") (by decide +kernel))
    F_check_prices := F35
    b_check_prices := F35.binds (ps := ["setup", "value"]) fun _ _ _ _ _ _ us hl => match us, hl with | [_, _], _ => rfl
    m_check_prices := (ex_glob X G ce (x := "_check_prices") (by decide +kernel))
    F_are_among := F36
    b_are_among := F36.binds (ps := ["names", "priced"]) fun _ _ _ _ _ _ us hl => match us, hl with | [_, _], _ => rfl
    m_are_among := (ex_glob X G ce (x := "_are_among") (by decide +kernel))
    F_cost := F37
    b_cost := F37.binds (ps := ["prices", "plan"]) fun _ _ _ _ _ _ us hl => match us, hl with | [_, _], _ => rfl
    m_cost := (ex_glob X G ce (x := "_cost") (by decide +kernel))
    F_price_of := F38
    b_price_of := F38.binds (ps := ["setup", "prices", "plan"]) fun _ _ _ _ _ _ us hl => match us, hl with | [_, _, _], _ => rfl
    m_price_of := (ex_glob X G ce (x := "price_of") (by decide +kernel))
    F_pot_of := F39
    b_pot_of := F39.binds (ps := ["_law_script", "_law_k"]) fun _ _ _ _ _ _ us hl => match us, hl with | [_, _], _ => rfl
    m_pot_of := (ex_glob X G ce (x := "_law_pot_of") (by decide +kernel))
    F_take := F40
    b_take := F40.binds (ps := ["_law_pot", "_law_many"]) fun _ _ _ _ _ _ us hl => match us, hl with | [_, _], _ => rfl
    m_take := (ex_glob X G ce (x := "_law_take") (by decide +kernel))
    F_of := F41
    b_of := F41.binds (ps := ["_law_pot", "_law_some"]) fun _ _ _ _ _ _ us hl => match us, hl with | [_, _], _ => rfl
    m_of := (ex_glob X G ce (x := "_law_of") (by decide +kernel))
    F_names := F42
    b_names := F42.binds (ps := ["_law_pot", "_law_some", "_law_most"]) fun _ _ _ _ _ _ us hl => match us, hl with | [_, _, _], _ => rfl
    m_names := (ex_glob X G ce (x := "_law_names") (by decide +kernel))
    F_told := F43
    b_told := F43.binds (ps := ["_law_setup", "_law_prices", "_law_plan"]) fun _ _ _ _ _ _ us hl => match us, hl with | [_, _, _], _ => rfl
    m_told := (ex_glob X G ce (x := "_law_told") (by decide +kernel))
    F_odd_prices := F44
    b_odd_prices := F44.binds (ps := ["_law_prices"]) fun _ _ _ _ _ _ us hl => match us, hl with | [_], _ => rfl
    m_odd_prices := (ex_glob X G ce (x := "_law_odd_prices") (by decide +kernel))
    F_priced := F45
    b_priced := F45.binds (ps := ["_law_pot", "_law_names_here"]) fun _ _ _ _ _ _ us hl => match us, hl with | [_, _], _ => rfl
    m_priced := (ex_glob X G ce (x := "_law_priced") (by decide +kernel))
    F_due := F46
    b_due := F46.binds (ps := ["_law_prices", "_law_parts"]) fun _ _ _ _ _ _ us hl => match us, hl with | [_, _], _ => rfl
    m_due := (ex_glob X G ce (x := "_law_due") (by decide +kernel))
    F_right := F47
    b_right := F47.binds (ps := ["_law_pot"]) fun _ _ _ _ _ _ us hl => match us, hl with | [_], _ => rfl
    m_right := (ex_glob X G ce (x := "_law_right") (by decide +kernel))
    F_law := F48
    b_law := F48.binds (ps := ["_law_script"]) fun _ _ _ _ _ _ us hl => match us, hl with | [_], _ => rfl
    m_law := (ex_glob X G ce (x := "law") (by decide +kernel))
    m_TapeError := (ex_glob X G ce (x := "TapeError") (by decide +kernel))
    m_BadPlan := (ex_glob X G ce (x := "BadPlan") (by decide +kernel))
    m_BadPrices := (ex_glob X G ce (x := "BadPrices") (by decide +kernel))
    m_World := (ex_glob X G ce (x := "World") (by decide +kernel))
    m_Setup := (ex_glob X G ce (x := "Setup") (by decide +kernel))
    m_Plan := (ex_glob X G ce (x := "Plan") (by decide +kernel))
    g_isinstance := ex_free X G ce (x := "isinstance") (by decide +kernel)
    g_int := ex_free X G ce (x := "int") (by decide +kernel)
    g_bool := ex_free X G ce (x := "bool") (by decide +kernel)
    g_str := ex_free X G ce (x := "str") (by decide +kernel)
    g_len := ex_free X G ce (x := "len") (by decide +kernel)
    g_abs := ex_free X G ce (x := "abs") (by decide +kernel)
    g_repr := ex_free X G ce (x := "repr") (by decide +kernel)
    g_all := ex_free X G ce (x := "all") (by decide +kernel)
    g_range := ex_free X G ce (x := "range") (by decide +kernel)
    g_tuple := ex_free X G ce (x := "tuple") (by decide +kernel)
    g_list := ex_free X G ce (x := "list") (by decide +kernel)
    g_zip := ex_free X G ce (x := "zip") (by decide +kernel)
    g_enumerate := ex_free X G ce (x := "enumerate") (by decide +kernel)
    g_max := ex_free X G ce (x := "max") (by decide +kernel)
    g_min := ex_free X G ce (x := "min") (by decide +kernel)
    g_sum := ex_free X G ce (x := "sum") (by decide +kernel)
    g_ValueError := ex_free X G ce (x := "ValueError") (by decide +kernel)
    E_BadPlan := errT_mk (excB_ok (er_at ce (c := ("BadPlan", "value")) (by decide +kernel)).1) (er_at ce (c := ("BadPlan", "value")) (by decide +kernel)).2 (F0.binds (ps := ["self", "value"]) fun _ _ _ _ _ _ us hl => match us, hl with | [_, _], _ => rfl) (kb_of F0 (fun _ _ _ _ _ _ _ _ => rfl)) (ex_glob X G ce (x := "BadPlan") (by decide +kernel))
    E_BadPrices := errT_mk (excB_ok (er_at ce (c := ("BadPrices", "value")) (by decide +kernel)).1) (er_at ce (c := ("BadPrices", "value")) (by decide +kernel)).2 (F1.binds (ps := ["self", "value"]) fun _ _ _ _ _ _ us hl => match us, hl with | [_, _], _ => rfl) (kb_of F1 (fun _ _ _ _ _ _ _ _ => rfl)) (ex_glob X G ce (x := "BadPrices") (by decide +kernel))
    cls_World := clsB_ok h_cls.1
    mk_World := mkB_ok h_cls.2.1
    cls_Setup := clsB_ok h_cls.2.2.1
    mk_Setup := mkB_ok h_cls.2.2.2.1
    cls_Plan := clsB_ok h_cls.2.2.2.2.1
    mk_Plan := mkB_ok h_cls.2.2.2.2.2
    n_size := noatB_ok h_noa.1
    n_most := noatB_ok h_noa.2.1
    n_cells := noatB_ok h_noa.2.2.1
    n_rows := noatB_ok h_noa.2.2.2.1
    n_loose := noatB_ok h_noa.2.2.2.2.1
    n_cell_numbers := noatB_ok h_noa.2.2.2.2.2.1
    n_row_numbers := noatB_ok h_noa.2.2.2.2.2.2.1
    n_world := noatB_ok h_noa.2.2.2.2.2.2.2.1
    n_works := noatB_ok h_noa.2.2.2.2.2.2.2.2.1
    n_places := noatB_ok h_noa.2.2.2.2.2.2.2.2.2.1
    n_numbers := noatB_ok h_noa.2.2.2.2.2.2.2.2.2.2.1
    n_deeds := noatB_ok h_noa.2.2.2.2.2.2.2.2.2.2.2.1
    n_guards := noatB_ok h_noa.2.2.2.2.2.2.2.2.2.2.2.2.1
    n_known := noatB_ok h_noa.2.2.2.2.2.2.2.2.2.2.2.2.2.1
    n_held := noatB_ok h_noa.2.2.2.2.2.2.2.2.2.2.2.2.2.2.1
    n_own := noatB_ok h_noa.2.2.2.2.2.2.2.2.2.2.2.2.2.2.2
    P_size := propB_ok h_prp.1
    P_most := propB_ok h_prp.2.1
    P_rows := propB_ok h_prp.2.2.1
    P_loose := propB_ok h_prp.2.2.2.1
    P_guards := propB_ok h_prp.2.2.2.2.1
    P_known := propB_ok h_prp.2.2.2.2.2.1
    P_held := propB_ok h_prp.2.2.2.2.2.2.1
    P_own := propB_ok h_prp.2.2.2.2.2.2.2
    M_cell_number := methB_ok h_mth.1
    M_work_number := methB_ok h_mth.2
    kcl := (isiB_ok h_isi.1).1
    kgs := He.eqO_ok h_isi.2.1
    ktk := of_decide_eq_true h_isi.2.2
    c_MOST_LETTERS := He.int_ok X G h_cst.1
    c_LETTERS := He.str_ok X G h_cst.2.1
    c_MOST_CELLS := He.int_ok X G h_cst.2.2.1
    c_MOST_ROWS := He.int_ok X G h_cst.2.2.2.1
    c_MOST_WORKS := He.int_ok X G h_cst.2.2.2.2.1
    c_MOST_VALUES := He.int_ok X G h_cst.2.2.2.2.2.1
    c_MOST_GUARDS := He.int_ok X G h_cst.2.2.2.2.2.2.1
    c_MOST_OWN := He.int_ok X G h_cst.2.2.2.2.2.2.2.1
    c_MOST_PRICED := He.int_ok X G h_cst.2.2.2.2.2.2.2.2.1
    c_MOST_OWN_PRICED := He.int_ok X G h_cst.2.2.2.2.2.2.2.2.2.1
    c_PRICES := He.int_ok X G h_cst.2.2.2.2.2.2.2.2.2.2
    kob := (isiB_ok h_isi.1).2
    eqc := ⟨He.eqO_ok h_eqs.1, h_eqs.2.1, He.eqO_ok h_eqs.2.2.1, of_decide_eq_true h_eqs.2.2.2.1, h_eqs.2.2.2.2.1, h_eqs.2.2.2.2.2.1, h_eqs.2.2.2.2.2.2⟩
    ene := hene
    kit := mroB_kit mr.1
    kte := mroB_te mr.1
    kve := mroB_ve mr.1
    xte := mroB_xte mr.1 (of_decide_eq_true mr.2)
    dc_right := code_of F47 (tabB_ok h_tab).1
    F_World_init := ⟨ka, FW2, nka⟩
    F_Plan_init := ⟨kb, kc, FP2, nkb, nkc⟩ }
  refine ⟨_, _, rfl, rfl, fun s v => ?_, fun base _ _ TB => ok_law T TB⟩
  obtain ⟨oc, od, kV, doc, pm, an, cdv, ct, osl, e2, lk, hcd⟩ := F48.ex
  rw [e2]
  exact .of_eq rfl
end K50
open PySem PySem.W PyProof.Rows
set_option maxRecDepth 100000 in
set_option maxHeartbeats 0 in
theorem PySem.Challenge.cw_tapedonce_k50_prices_of_plans_holds : PySem.Challenge.rw_tapedonce_k50_prices_of_plans.Holds := by
  w_on; o_law
  refine HandSHeadRun.head_any (r := OpenLaw.row PySem.Challenge.rw_tapedonce_k50_prices_of_plans) (q := view (OpenLaw.row PySem.Challenge.rw_tapedonce_k50_prices_of_plans).prog [59, 60]) (H := HX.hookZ 5 K50.ex K50.fnl K50.fnd) (ob := HX.obTZ 5 K50.ex K50.fnl K50.fnd) (M := 9400) (loose := K50.names) (d := HandSHeadRun.topDef (OpenLaw.row PySem.Challenge.rw_tapedonce_k50_prices_of_plans).prog 60) (kwd := []) HX.obTZ_eq
    (by kernel_rfl) (fun s => by kernel_rfl) K50.run (by kernel_rfl) (by kernel_rfl) (by kernel_rfl) (by rfl) (by first | assumption | decide +kernel) (by decide +kernel) ⟨rfl, rfl, rfl, rfl, rfl, by decide +kernel⟩ ?hw ?hc
  case hw => w_witness2
  case hc =>
    refine HX.walk_GX (l := PySem.Challenge.rw_tapedonce_k50_prices_of_plans) (n := 63) (k := 10) (x := "_law_script") (CX := fun _ => L2.CX0) rfl (by decide) (by kernel_rfl) ⟨rfl, by decide, by decide⟩ ?F (fun _ _ _ _ _ z => z)
    intro w mg fa h Y G hmg0
    obtain ⟨K, KX, c⟩ := Y
    have hmg : mg ("law" : PySem.Str) = some (.ref fa) := by
      have e : (HandSHeadRun.topDef (OpenLaw.row PySem.Challenge.rw_tapedonce_k50_prices_of_plans).prog 60).name = ("law" : PySem.Str) := by kernel_rfl
      rw [← e]
      exact hmg0
    have ct := HX.tabB_ok (K50.ex_tab c.facts)
    obtain ⟨fd, A, e1, e2, hb, hF⟩ := K50.facts (P := (PySem.Challenge.rw_tapedonce_k50_prices_of_plans).prog) (w := w) KX G hmg c
    have e12 : (A.c_right, A.P_right) = (HX.cod "_law_right" K, HX.tbl "_law_right" K) := by rw [e1, e2]
    refine ⟨K, fd, [(A.c_right, A.P_right)], K50.spLaw K A, KX, List.forall_mem_singleton.mpr ⟨"_law_right", by kernel_rfl, ?_⟩, List.forall_mem_singleton.mpr ?_, hb, fun H a ns hl hS ht => ⟨a, ns, rfl, hS, hl, ?_, fun _ => rfl⟩, fun base hK hN tb => hF base hK hN (tb _ (List.mem_singleton.mpr rfl))⟩
    · rw [e12]; exact ct.1
    · rw [e2]; exact ct.2
    · exact fun p hp => by
        have e : p = _ := List.mem_singleton.mp hp
        rw [e]
        exact LamX.TabS.nil (ht _ (List.mem_singleton.mpr rfl))


