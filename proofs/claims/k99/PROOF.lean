import PyProof.Rows.All
import Wide.All
import OpenK.AllK
import Wide.FinOn
import PyProof.EqAt
import PyProof.EqKinds
import PyProof.TupleCall
import PyProof.NeKinds
import PyProof.TwoTypesSub
import HandS.Base
import HandS.Call
import HandS.List
import KE.KOpsOwn
import PyProof.ReprRoads
import PyProof.AutoIntOps
import HandS.Words
import HandS.Ends
import HandS.Comp
import HandS.Lambda
import HandS.Exc
import HandS.ExcInit
import HandS.ExcOwn
import HandS.ExcField
import HandS.IsInst
import HandS.Property
import HandS.Dict
import HandS.Iter
import HandS.WordsExc
import HandS.WordsDict
import HandS.WordsList
import HandS.MakeKw
import PyProof.ReprLen
import HandS.ExcIs
import HandS.ExcValue
import KE.KExcIs
import HandS.MakeKwOnly
import HandS.Walk
import HandS.EndTab
import HandS.SetFor
import HandS.Head0
import HandS.Head1
import HandS.Head2
import HandS.HeadHook1
import HandS.HeadHook2
import PySem.Challenge.RW_tapedonce_k99_errors_made_with_any_value
set_option Elab.async false
set_option linter.all false
set_option maxRecDepth 100000
set_option maxHeartbeats 4400000
/-! operators between instances of an own class and ints, both ways -/
namespace HX
open PySem PySem.W PySem.Spec PySem.Calls PyProof.Rows
/-- the builtin declines the plain object at x -/
def Decl (B : Builtin) : Prop := ∀ (i : Int) (t : Tok) (x : Addr) (c : Value) (dd : Option Addr) (sl : Array (Option Value)),
  Meets (B ⟨[.int i t, .ref x], []⟩) (fun _ R s => s.heap.get? x = some { cls := c, dict := dd, data := .plain, slots := sl } ∧ R (.ok (.ret .notImplemented)) s)
theorem decl_add : Decl Builtin.«int.__add__» := fun i t x c dd sl => .of_wp fun prog w A R s h => by obtain ⟨hp, g, d, tk, os⟩ := s; obtain ⟨hl, h⟩ := h; wp_walk using AutoSeq1.wpAny_loadPart' hl, wpAny_load hl; exact ⟨_, rfl, h⟩
theorem decl_sub : Decl Builtin.«int.__sub__» := fun i t x c dd sl => .of_wp fun prog w A R s h => by obtain ⟨hp, g, d, tk, os⟩ := s; obtain ⟨hl, h⟩ := h; wp_walk using AutoSeq1.wpAny_loadPart' hl, wpAny_load hl; exact ⟨_, rfl, h⟩
theorem decl_mul : Decl Builtin.«int.__mul__» := fun i t x c dd sl => .of_wp fun prog w A R s h => by obtain ⟨hp, g, d, tk, os⟩ := s; obtain ⟨hl, h⟩ := h; wp_walk using AutoSeq1.wpAny_loadPart' hl, wpAny_load hl; exact ⟨_, rfl, h⟩
theorem decl_floordiv : Decl Builtin.«int.__floordiv__» := fun i t x c dd sl => .of_wp fun prog w A R s h => by obtain ⟨hp, g, d, tk, os⟩ := s; obtain ⟨hl, h⟩ := h; wp_walk using AutoSeq1.wpAny_loadPart' hl, wpAny_load hl; exact ⟨_, rfl, h⟩
theorem decl_eq : Decl Builtin.«int.__eq__» := fun i t x c dd sl => .of_wp fun prog w A R s h => by obtain ⟨hp, g, d, tk, os⟩ := s; obtain ⟨hl, h⟩ := h; wp_walk using AutoSeq1.wpAny_loadPart' hl, wpAny_load hl; exact ⟨_, rfl, h⟩
theorem decl_ne : Decl Builtin.«int.__ne__» := fun i t x c dd sl => .of_wp fun prog w A R s h => by obtain ⟨hp, g, d, tk, os⟩ := s; obtain ⟨hl, h⟩ := h; wp_walk using AutoSeq1.wpAny_loadPart' hl, wpAny_load hl; exact ⟨_, rfl, h⟩
theorem decl_lt : Decl Builtin.«int.__lt__» := fun i t x c dd sl => .of_wp fun prog w A R s h => by obtain ⟨hp, g, d, tk, os⟩ := s; obtain ⟨hl, h⟩ := h; wp_walk using AutoSeq1.wpAny_loadPart' hl, wpAny_load hl; exact ⟨_, rfl, h⟩
theorem decl_le : Decl Builtin.«int.__le__» := fun i t x c dd sl => .of_wp fun prog w A R s h => by obtain ⟨hp, g, d, tk, os⟩ := s; obtain ⟨hl, h⟩ := h; wp_walk using AutoSeq1.wpAny_loadPart' hl, wpAny_load hl; exact ⟨_, rfl, h⟩
theorem decl_gt : Decl Builtin.«int.__gt__» := fun i t x c dd sl => .of_wp fun prog w A R s h => by obtain ⟨hp, g, d, tk, os⟩ := s; obtain ⟨hl, h⟩ := h; wp_walk using AutoSeq1.wpAny_loadPart' hl, wpAny_load hl; exact ⟨_, rfl, h⟩
theorem decl_ge : Decl Builtin.«int.__ge__» := fun i t x c dd sl => .of_wp fun prog w A R s h => by obtain ⟨hp, g, d, tk, os⟩ := s; obtain ⟨hl, h⟩ := h; wp_walk using AutoSeq1.wpAny_loadPart' hl, wpAny_load hl; exact ⟨_, rfl, h⟩
end HX
set_option Elab.async false
set_option linter.all false
set_option maxRecDepth 100000
set_option maxHeartbeats 4400000
namespace HX
open PySem PySem.W PySem.Spec PySem.Calls PyProof.Rows
section
variable {prog : Program} {w : World} {A : Around} {E : Value → Shared → Prop} {s : Shared} {K : Frag} {x C L f g : Addr} {h₀ : Heap} {m : Str → Option Value} {ox : Obj} {od : Option Obj}
theorem looks_nip {M : Model} {h : Heap} {nm : String} (X : K.In h) (hs : findIn K (.ref C) (PySem.dunder nm) = some (some (.ref f))) (hr : findIn K (.ref C) (dunderR nm) = some (some (.ref g))) : Looks M h (numberSlotInPython (.ref C) nm) true := by
  intro A Q E s k q
  unfold numberSlotInPython
  refine wpAny_bind (looks_findIn X hs A _ E s k (wpAny_bind (wpAny_pure ?_)))
  refine wpAny_bind (looks_findIn X hr A _ E s k (wpAny_bind (wpAny_pure ?_)))
  simp only [Bool.or_true, if_true]
  exact wpAny_pure q
theorem binop1_KI {nm : String} {i : Int} {t : Tok} {idr : String} {Q : Option Value → Shared → Prop} (F : Fr h₀ L s.heap m) (X₀ : K.In h₀) (I : InstAt s.heap x ox C od) (hc : selfFirst K C = true)
    (hs : findIn K (.ref C) (PySem.dunder nm) = some (some (.ref f))) (hf : isFn K (.ref f) = true) (hr : findIn K (.ref C) (dunderR nm) = some (some (.ref g)))
    (hfi : fillsNumberSlot (.type "int") nm = pure true) (hni : subIn K (.type "int") (.ref C) = some false) (hri : typeLookup (.type "int") (dunderR nm) = pure (some (.builtin idr)))
    (h : wpAny (model prog w) A (call (.ref f) [.ref x, .int i t]) (W.CmpBack fun v s' => Q (some v) s') E s) : wpAny (model prog w) A (binaryOp1 nm (.ref x) (.int i t)) Q E s := by
  have X := X₀.keeps F.keep
  obtain ⟨cd, rest, hcd, hm⟩ := ksp_first hc
  have hpy : numberSlotInPython (.type "int") nm = pure false := rfl
  have hne : (Value.ref C == Value.type "int") = false := by simp
  unfold binaryOp1
  refine wpAny_bind (I.type.here (wpAny_bind (wpAny_typeOf (typeIs_int s i t) (wpAny_bind ((fills_K X hcd hm hs).here ?_))))); simp only [hne, Bool.false_eq_true, if_false]
  refine wpAny_bind (wpAny_of_eq hfi ?_); simp only [Bool.and_self, if_true]
  refine wpAny_bind ((looks_subIn X hni).here ?_)
  simp only [Bool.false_eq_true, if_false, pure_bind, Bool.not_false, Bool.and_self, if_true]
  refine wpAny_bind ((looks_nip X hs hr).here ?_)
  simp only [hpy, pure_bind, if_true, Bool.not_false]
  refine wpAny_bind (wpAny_of_eq hri ?_)
  unfold tryMethod
  refine wpAny_bind (wpAny_bind (special_fn X I hs (beq_iff_eq.mp hf) (wpAny_mono h (fun v s' hv => ?_) fun _ _ e => e)))
  cases v <;> first | exact hv.elim | exact wpAny_pure (wpAny_pure hv)
theorem binop_KI {op : Operator} {i : Int} {t : Tok} {idr : String} {Q : Value → Shared → Prop} (F : Fr h₀ L s.heap m) (X₀ : K.In h₀) (I : InstAt s.heap x ox C od) (hc : selfFirst K C = true)
    (hs : findIn K (.ref C) (PySem.dunder op.info.2) = some (some (.ref f))) (hf : isFn K (.ref f) = true) (hr : findIn K (.ref C) (dunderR op.info.2) = some (some (.ref g)))
    (hfi : fillsNumberSlot (.type "int") op.info.2 = pure true) (hni : subIn K (.type "int") (.ref C) = some false) (hri : typeLookup (.type "int") (dunderR op.info.2) = pure (some (.builtin idr)))
    (h : wpAny (model prog w) A (call (.ref f) [.ref x, .int i t]) (W.CmpBack Q) E s) : wpAny (model prog w) A (binaryOp op (.ref x) (.int i t)) Q E s := by
  unfold binaryOp; refine wpAny_holding (wpAny_bind ?_)
  refine binop1_KI F X₀ I hc hs hf hr hfi hni hri (wpAny_mono h (fun v s' hv => ?_) fun _ _ e => e)
  cases v <;> first | exact hv.elim | exact wpAny_pure hv
/-- int op instance: the reflected method -/
theorem binop1_IK {nm : String} {i : Int} {t : Tok} {id : String} {B : Builtin} {Q : Option Value → Shared → Prop} (F : Fr h₀ L s.heap m) (X₀ : K.In h₀) (I : InstAt s.heap x ox C od) (hp : ox.data = .plain) (hc : selfFirst K C = true)
    (hs : findIn K (.ref C) (PySem.dunder nm) = some (some (.ref g))) (hr : findIn K (.ref C) (dunderR nm) = some (some (.ref f))) (hf : isFn K (.ref f) = true)
    (hfi : fillsNumberSlot (.type "int") nm = pure true) (hni : subIn K (.ref C) (.type "int") = some false) (slot : Slot "int" (PySem.dunder nm) id) (entry : entryFor table id = some B) (args : ∀ a b, argsOk id ⟨[a, b], []⟩) (D : Decl B)
    (h : wpAny (model prog w) A (call (.ref f) [.ref x, .int i t]) (W.CmpBack fun v s' => Q (some v) s') E s) : wpAny (model prog w) A (binaryOp1 nm (.int i t) (.ref x)) Q E s := by
  have X := X₀.keeps F.keep
  obtain ⟨cd, rest, hcd, hm⟩ := ksp_first hc
  have hpy : numberSlotInPython (.type "int") nm = pure false := rfl
  have hne : (Value.type "int" == Value.ref C) = false := by simp
  obtain ⟨oc, odd, odt, osl⟩ := ox
  simp only at hp
  subst hp
  have hx := I.at_
  unfold binaryOp1
  refine wpAny_bind (wpAny_typeOf (typeIs_int s i t) (wpAny_bind (I.type.here (wpAny_bind (wpAny_of_eq hfi ?_))))); simp only [hne, Bool.false_eq_true, if_false]
  refine wpAny_bind ((fills_K X hcd hm hs).here ?_); simp only [Bool.and_self, if_true]
  refine wpAny_bind ((looks_subIn X hni).here ?_); simp only [hpy, Bool.false_eq_true, if_false, pure_bind, Bool.not_false, Bool.and_self, if_true]
  refine wpAny_bind (wpAny_tryMethod_declines (typeIs_int s i t) slot (call_meets slot (typeIs_int s i t) entry (args _ _) (D i t x _ _ _) ⟨hx, ?_⟩))
  refine ⟨rfl, ?_⟩
  unfold tryMethod
  refine wpAny_bind (wpAny_bind (special_fn X I hr (beq_iff_eq.mp hf) (wpAny_mono h (fun v s' hv => ?_) fun _ _ e => e)))
  cases v <;> first | exact hv.elim | exact wpAny_pure (wpAny_bind (wpAny_rule (wpAny_pure hv)))
theorem binop_IK {op : Operator} {i : Int} {t : Tok} {id : String} {B : Builtin} {Q : Value → Shared → Prop} (F : Fr h₀ L s.heap m) (X₀ : K.In h₀) (I : InstAt s.heap x ox C od) (hp : ox.data = .plain) (hc : selfFirst K C = true)
    (hs : findIn K (.ref C) (PySem.dunder op.info.2) = some (some (.ref g))) (hr : findIn K (.ref C) (dunderR op.info.2) = some (some (.ref f))) (hf : isFn K (.ref f) = true)
    (hfi : fillsNumberSlot (.type "int") op.info.2 = pure true) (hni : subIn K (.ref C) (.type "int") = some false) (slot : Slot "int" (PySem.dunder op.info.2) id) (entry : entryFor table id = some B) (args : ∀ a b, argsOk id ⟨[a, b], []⟩) (D : Decl B)
    (h : wpAny (model prog w) A (call (.ref f) [.ref x, .int i t]) (W.CmpBack Q) E s) : wpAny (model prog w) A (binaryOp op (.int i t) (.ref x)) Q E s := by
  unfold binaryOp; refine wpAny_holding (wpAny_bind ?_)
  refine binop1_IK F X₀ I hp hc hs hr hf hfi hni slot entry args D (wpAny_mono h (fun v s' hv => ?_) fun _ _ e => e)
  cases v <;> first | exact hv.elim | exact wpAny_pure hv
/-- int < instance: the reflected comparison -/
theorem cmp_IK {op : CmpOp} {i : Int} {t : Tok} {id : String} {B : Builtin} {Q : Value → Shared → Prop} (hu : A.units < cLine) (F : Fr h₀ L s.heap m) (X₀ : K.In h₀) (I : InstAt s.heap x ox C od) (hp : ox.data = .plain)
    (hr : findIn K (.ref C) (cmpInfo op).2.2 = some (some (.ref f))) (hf : isFn K (.ref f) = true) (hni : subIn K (.ref C) (.type "int") = some false)
    (slot : Slot "int" (cmpInfo op).2.1 id) (entry : entryFor table id = some B) (args : ∀ a b, argsOk id ⟨[a, b], []⟩) (D : Decl B)
    (h : wpAny (model prog w) A (call (.ref f) [.ref x, .int i t]) (W.CmpBack Q) E s) : wpAny (model prog w) A (richCompare op (.int i t) (.ref x)) Q E s := by
  have X := X₀.keeps F.keep
  have hne : (Value.type "int" != Value.ref C) = true := by simp
  obtain ⟨oc, odd, odt, osl⟩ := ox
  simp only at hp
  subst hp
  have hx := I.at_
  have one : wpAny (model prog w) A (tryCompare (.ref x) (cmpInfo op).2.2 (.int i t)) (fun r s' => ∃ v, r = some v ∧ Q v s') E s := by
    unfold tryCompare
    refine wpAny_bind (ifBound_K X I hr hf (wpAny_mono h (fun v s' hv => ?_) fun _ _ e => e)); cases v <;> first | exact hv.elim | exact wpAny_pure ⟨_, rfl, hv⟩
  unfold richCompare
  have ho : oneThing? op (.int i t) (.ref x) = none := by cases op <;> rfl
  simp only [ho]; refine wpAny_holding (wpAny_bind (wpAny_cRoomFor hu ?_))
  refine wpAny_bind (wpAny_typeOf (typeIs_int s i t) (wpAny_bind (I.type.here ?_)))
  rw [if_pos hne]
  refine wpAny_bind ((looks_subIn X hni).here ?_); simp only [Bool.false_eq_true, if_false, Bool.not_false, if_true]
  refine wpAny_bind (wpAny_tryCompare_declines (typeIs_int s i t) slot (call_meets slot (typeIs_int s i t) entry (args _ _) (D i t x _ _ _) ⟨hx, ?_⟩))
  refine ⟨rfl, wpAny_bind (wpAny_mono one (fun r s' z => ?_) fun _ _ e => e)⟩
  obtain ⟨v, rfl, hq⟩ := z
  exact wpAny_pure hq
end
end HX
set_option Elab.async false
set_option linter.all false
set_option maxRecDepth 100000
set_option maxHeartbeats 4400000
namespace HX
open L2 PyProof.Rows PySem.Spec PySem
section
variable {X : Cx}
/-- what stands behind a method's call is never NotImplemented -/
theorem ep_back {pins : List (Addr × Obj)} {σ : L2.St} {Q : VK} {u : Value} {s' : Shared} (h : EP X pins σ Q u s') : PySem.W.CmpBack (EP X pins σ Q) u s' := by
  have h' := h
  obtain ⟨v, H', I', r, q⟩ := h
  have ne : u ≠ .notImplemented := by
    intro z
    subst z
    cases v <;> first | (obtain ⟨t, z⟩ := r; cases z; done) | cases r
  cases u <;> first | exact absurd rfl ne | exact h'
/-- the facts of an int's operator -/
structure IntOp (op : Operator) : Prop where
  fi : fillsNumberSlot (.type "int") op.info.2 = pure true
  ri : ∃ idr, typeLookup (.type "int") (dunderR op.info.2) = pure (some (.builtin idr))
  le : ∃ (id : String) (B : Builtin), Slot "int" (PySem.dunder op.info.2) id ∧ entryFor table id = some B ∧ (∀ a b, argsOk id ⟨[a, b], []⟩) ∧ Decl B
theorem io_add : IntOp .Add := ⟨F.fills_int_add, ⟨_, F.slot_int_radd.lookup⟩, _, _, F.slot_int_add, F.entry_int_add, F.args_int_add_2, decl_add⟩
theorem io_sub : IntOp .Sub := ⟨F.fills_int_sub, ⟨_, F.slot_int_rsub.lookup⟩, _, _, F.slot_int_sub, F.entry_int_sub, F.args_int_sub_2, decl_sub⟩
theorem io_mul : IntOp .Mult := ⟨F.fills_int_mul, ⟨_, F.slot_int_rmul.lookup⟩, _, _, F.slot_int_mul, F.entry_int_mul, F.args_int_mul_2, decl_mul⟩
theorem io_fdv : IntOp .FloorDiv := ⟨F.fills_int_floordiv, ⟨_, F.slot_int_rfloordiv.lookup⟩, _, _, F.slot_int_floordiv, F.entry_int_floordiv, F.args_int_floordiv_2, decl_floordiv⟩
structure IntCmp (op : CmpOp) : Prop where
  le : ∃ (id : String) (B : Builtin), Slot "int" (cmpInfo op).2.1 id ∧ entryFor table id = some B ∧ (∀ a b, argsOk id ⟨[a, b], []⟩) ∧ Decl B
theorem ic_eq : IntCmp .Eq := ⟨_, _, F.slot_int_eq, F.entry_int_eq, F.args_int_eq_2, decl_eq⟩
theorem ic_ne : IntCmp .NotEq := ⟨_, _, F.slot_int_ne, F.entry_int_ne, F.args_int_ne_2, decl_ne⟩
theorem ic_lt : IntCmp .Lt := ⟨_, _, F.slot_int_lt, F.entry_int_lt, F.args_int_lt_2, decl_lt⟩
theorem ic_le : IntCmp .LtE := ⟨_, _, F.slot_int_le, F.entry_int_le, F.args_int_le_2, decl_le⟩
theorem ic_gt : IntCmp .Gt := ⟨_, _, F.slot_int_gt, F.entry_int_gt, F.args_int_gt_2, decl_gt⟩
theorem ic_ge : IntCmp .GtE := ⟨_, _, F.slot_int_ge, F.entry_int_ge, F.args_int_ge_2, decl_ge⟩
/-- the class's own operator and its reflected one -/
structure ArC (K : PySem.W.Frag) (C : Addr) (op : Operator) (f g : Addr) : Prop where
  sf : PySem.W.selfFirst K C = true
  hs : PySem.W.findIn K (.ref C) (PySem.dunder op.info.2) = some (some (.ref f))
  hf : PySem.W.isFn K (.ref f) = true
  hr : PySem.W.findIn K (.ref C) (dunderR op.info.2) = some (some (.ref g))
  hg : PySem.W.isFn K (.ref g) = true
  n1 : PySem.W.subIn K (.type "int") (.ref C) = some false
  n2 : PySem.W.subIn K (.ref C) (.type "int") = some false
def isI (C : Addr) (H : Hp) (x : V) : Prop := ∃ a dx fs, x = .ref a ∧ H a = some (.ins C dx fs)
theorem isI_inst {pins : List (Addr × Obj)} {σ : L2.St} {H : Hp} {s : Shared} {C a dx : Addr} {fs : List (Str × V)} (I : Inv X pins σ H s) (e : H a = some (.ins C dx fs)) : ∃ od, PySem.W.InstAt s.heap a (PySem.W.instObj C dx) C od := by
  obtain ⟨mA, O, _⟩ := ins_get I.hok e
  obtain ⟨od, J, _⟩ := O.look
  exact ⟨_, J⟩
/-- x op y, one of the two at least an instance of the class at C, the other one too, or an int -/
def rOwn (C : Addr) (sp spR : Sp) (E : XK) : R2 := fun x y H Q => (isI C H x ∧ (isI C H y ∨ ∃ i, y = .int i) ∧ sp [x, y] H Q E) ∨ (isI C H y ∧ (∃ i, x = .int i) ∧ spR [y, x] H Q E)
theorem op_own {op : Operator} {CX : CXT} {C f g : Addr} {k : Nat} {fd gd : FuncData} {ps ps' : List Str} {sp spR : Sp} {E : XK} (IO : IntOp op) (T : ArC X.K C op f g) (F1 : FnOk X.prog X.w X.K X.mg X.base CX k f fd ps sp) (b1 : Binds X.K fd ps [])
    (F2 : FnOk X.prog X.w X.K X.mg X.base CX k g gd ps' spR) (b2 : Binds X.K gd ps' []) (hr : Room k X.A) (hx : Passes CX X E) : OpR X (binaryOp op) (rOwn C sp spR E) := by
  intro pins s σ H x y v u; intro Q I rx ry h
  obtain ⟨m, hF⟩ := I.fr
  rcases h with ⟨⟨a, dx, fs, rfl, ea⟩, hy, q⟩ | ⟨⟨b, dx, fs, rfl, eb⟩, ⟨i, rfl⟩, q⟩
  · obtain ⟨od, J⟩ := isI_inst I ea
    cases (id rx : v = Value.ref a)
    rcases hy with ⟨b, dy, gs, rfl, eb⟩ | ⟨i, rfl⟩
    · obtain ⟨od', J'⟩ := isI_inst I eb
      cases (id ry : u = Value.ref b)
      exact PySem.W.binop_K hF I.ok.mod.kin J J'.type T.sf T.hs T.hf (thn (run_fn (us := [.ref a, .ref b]) (vs := [.ref a, .ref b]) F1 hr b1 .nil hx I (.cons rfl (.cons rfl .nil)) q) fun u s' z => ep_back z)
    · obtain ⟨t, e⟩ := (show ∃ t, u = Value.int i t from ry)
      subst e
      obtain ⟨idr, ri⟩ := IO.ri
      exact binop_KI hF I.ok.mod.kin J T.sf T.hs T.hf T.hr IO.fi T.n1 ri (thn (run_fn (us := [.ref a, .int i t]) (vs := [.ref a, .int i]) F1 hr b1 .nil hx I (.cons rfl (.cons ⟨t, rfl⟩ .nil)) q) fun u s' z => ep_back z)
  · obtain ⟨od, J⟩ := isI_inst I eb
    cases (id ry : u = Value.ref b)
    obtain ⟨t, e⟩ := (show ∃ t, v = Value.int i t from rx)
    subst e
    obtain ⟨id, B, sl, en, ar, D⟩ := IO.le
    exact binop_IK hF I.ok.mod.kin J rfl T.sf T.hs T.hr T.hg IO.fi T.n2 sl en ar D (thn (run_fn (us := [.ref b, .int i t]) (vs := [.ref b, .int i]) F2 hr b2 .nil hx I (.cons rfl (.cons ⟨t, rfl⟩ .nil)) q) fun u s' z => ep_back z)
structure CmC (K : PySem.W.Frag) (C : Addr) (op : CmpOp) (f g : Addr) : Prop where
  hs : PySem.W.findIn K (.ref C) (cmpInfo op).2.1 = some (some (.ref f))
  hf : PySem.W.isFn K (.ref f) = true
  hr : PySem.W.findIn K (.ref C) (cmpInfo op).2.2 = some (some (.ref g))
  hg : PySem.W.isFn K (.ref g) = true
  nc : PySem.W.notFirst K C (.ref C) = true
  n1 : PySem.W.notFirst K C (.type "int") = true
  n2 : PySem.W.subIn K (.ref C) (.type "int") = some false
theorem op_cmpW {op : CmpOp} {CX : CXT} {C f g : Addr} {k : Nat} {fd gd : FuncData} {ps ps' : List Str} {sp spR : Sp} {E : XK} (IO : IntCmp op) (T : CmC X.K C op f g) (F1 : FnOk X.prog X.w X.K X.mg X.base CX k f fd ps sp) (b1 : Binds X.K fd ps [])
    (F2 : FnOk X.prog X.w X.K X.mg X.base CX k g gd ps' spR) (b2 : Binds X.K gd ps' []) (hr : Room k X.A) (hx : Passes CX X E) : OpR X (richCompare op) (rOwn C sp spR E) := by
  intro pins s σ H x y v u; intro Q I rx ry h
  obtain ⟨m, hF⟩ := I.fr
  have hu := hr.units0
  rcases h with ⟨⟨a, dx, fs, rfl, ea⟩, hy, q⟩ | ⟨⟨b, dx, fs, rfl, eb⟩, ⟨i, rfl⟩, q⟩
  · obtain ⟨od, J⟩ := isI_inst I ea
    cases (id rx : v = Value.ref a)
    rcases hy with ⟨b, dy, gs, rfl, eb⟩ | ⟨i, rfl⟩
    · obtain ⟨od', J'⟩ := isI_inst I eb
      cases (id ry : u = Value.ref b)
      exact PySem.W.cmp_K hu hF I.ok.mod.kin J J'.type T.nc T.hs T.hf (thn (run_fn (us := [.ref a, .ref b]) (vs := [.ref a, .ref b]) F1 hr b1 .nil hx I (.cons rfl (.cons rfl .nil)) q) fun u s' z => ep_back z)
    · obtain ⟨t, e⟩ := (show ∃ t, u = Value.int i t from ry)
      subst e
      exact PySem.W.cmp_K hu hF I.ok.mod.kin J (fun A Q E s k q => wpAny_typeOf (typeIs_int s i t) q) T.n1 T.hs T.hf (thn (run_fn (us := [.ref a, .int i t]) (vs := [.ref a, .int i]) F1 hr b1 .nil hx I (.cons rfl (.cons ⟨t, rfl⟩ .nil)) q) fun u s' z => ep_back z)
  · obtain ⟨od, J⟩ := isI_inst I eb
    cases (id ry : u = Value.ref b)
    obtain ⟨t, e⟩ := (show ∃ t, v = Value.int i t from rx)
    subst e
    obtain ⟨id, B, sl, en, ar, D⟩ := IO.le
    exact cmp_IK hu hF I.ok.mod.kin J rfl T.hr T.hg T.n2 sl en ar D (thn (run_fn (us := [.ref b, .int i t]) (vs := [.ref b, .int i]) F2 hr b2 .nil hx I (.cons rfl (.cons ⟨t, rfl⟩ .nil)) q) fun u s' z => ep_back z)
/-- -x of an own class -/
def rNegO (C : Addr) (sp : Sp) (E : XK) : V → Hp → VK → Prop := fun x H Q => isI C H x ∧ sp [x] H Q E
theorem un_negO {CX : CXT} {C f : Addr} {k : Nat} {fd : FuncData} {ps : List Str} {sp : Sp} {E : XK} (hs : PySem.W.findIn X.K (.ref C) "__neg__" = some (some (.ref f))) (hf : PySem.W.isFn X.K (.ref f) = true) (F1 : FnOk X.prog X.w X.K X.mg X.base CX k f fd ps sp)
    (b1 : Binds X.K fd ps []) (hr : Room k X.A) (hx : Passes CX X E) : UnR X (unaryOp .USub) (rNegO C sp E) := by
  intro pins s σ H x v Q I rx h
  obtain ⟨m, hF⟩ := I.fr
  obtain ⟨⟨a, dx, fs, rfl, ea⟩, q⟩ := h
  obtain ⟨od, J⟩ := isI_inst I ea
  cases (id rx : v = Value.ref a)
  exact PySem.W.ksp_neg hF I.ok.mod.kin J hs hf (run_fn (us := [.ref a]) (vs := [.ref a]) F1 hr b1 .nil hx I (.cons rfl .nil) q)
end
end HX
set_option Elab.async false
set_option linter.all false
set_option maxRecDepth 100000
set_option maxHeartbeats 4400000
namespace HX
open L2 PyProof.Rows PySem.Spec PySem
/-- a def's promise where no repr is under way around the call -/
structure FnG (P : Program) (w : World) (K : PySem.W.Frag) (mg : Str → Option Value) (base : Heap) (CX : CXT) (k : Nat) (f : Addr) (fd : FuncData) (ps : List Str) (sp : Sp) : Prop where
  ln : ∀ vs H Q E, sp vs H Q E → vs.length = ps.length
  go : ∀ (A : Around) (outer : List Env) (s : Shared) (H : Hp) (args : Args) (us : List Value) (vs : List V) (Q : VK) (E : XK), A.guards = some [] → Room k A → Env0 P w K mg base A outer s H → BindsTo s fd args (ps.zip us) → Vals vs us →
    sp vs H Q E → codeAny (model P w) A (.call (.ref f) args) (CR CX outer P w H s Q E) s
theorem FnG.of {P : Program} {w : World} {K : PySem.W.Frag} {mg : Str → Option Value} {base : Heap} {CX : CXT} {k : Nat} {f : Addr} {fd : FuncData} {ps : List Str} {sp : Sp} (F : FnOk P w K mg base CX k f fd ps sp) : FnG P w K mg base CX k f fd ps sp :=
  ⟨F.len, fun A o s H args us vs Q E _ => F.run A o s H args us vs Q E⟩
/-- a def by its body, for FnG; exceptions may leave -/
theorem okG {CX : CXT} {P : Program} {w : World} {K : PySem.W.Frag} {mg : Str → Option Value} {base : Heap} {x qual : Str} {st : Stmt} {f : Addr} {fd : FuncData} {N ps : List Str} {k : Nat} {sp : Sp} (F : Fun K x qual st f fd) (S : FnScope N ps (defScope st)) (len : ∀ vs H Q E, sp vs H Q E → vs.length = ps.length)
    (hbody : ∀ (cdv : Value) (A : Around) (outer : List Env) (s : Shared) (H : Hp) (vs : List V) (Q : VK) (E : XK), A.guards = some [] → Room k (A.deeper (envOfC qual (defScope st) s.heap.objs.size f cdv)) → sp vs H Q E →
      ∃ t, PSs (cxOf CX P w K mg base N qual (defScope st) f cdv A outer s H E) (defBody st) t ∧ t { nx := fun _ H' => Q .non H', rt := Q } (L2.start N vs) H) : FnG P w K mg base CX (k + 1) f fd ps sp := by
  let ⟨oc, od, kV, doc, pm, an, cdv, ct, osl, e0, lk, hcd⟩ := F.ex; subst e0
  exact ⟨len, fun A o s H args us vs Q E hg hr e0 hb r hsp => LamX.run_ofS lk hcd S hr e0 hb r (len _ _ _ _ hsp) fun hr' => hbody cdv A o s H vs Q E hg hr' hsp⟩
/-- .. no exception leaves -/
theorem okG0 {P : Program} {w : World} {K : PySem.W.Frag} {mg : Str → Option Value} {base : Heap} {x qual : Str} {st : Stmt} {f : Addr} {fd : FuncData} {N ps : List Str} {k : Nat} {sp : Sp} (F : Fun K x qual st f fd) (S : FnScope N ps (defScope st)) (len : ∀ vs H Q E, sp vs H Q E → vs.length = ps.length)
    (hbody : ∀ (cdv : Value) (A : Around) (outer : List Env) (s : Shared) (H : Hp) (vs : List V) (Q : VK) (E : XK), A.guards = some [] → Room k (A.deeper (envOfC qual (defScope st) s.heap.objs.size f cdv)) → sp vs H Q E →
      ∃ t, PSs (cxOf CX0 P w K mg base N qual (defScope st) f cdv A outer s H E).nox (defBody st) t ∧ t { nx := fun _ H' => Q .non H', rt := Q } (L2.start N vs) H) : FnG P w K mg base CX0 (k + 1) f fd ps sp :=
  okG F S len fun cdv A outer s H vs Q E hg hr h => let ⟨t, p, q⟩ := hbody cdv A outer s H vs Q E hg hr h; ⟨t, p.nox, q⟩
section
variable {sp : Sp} {CX : CXT} {X : Cx} {k : Nat} {f C : Addr} {fd : FuncData} {ps : List Str} {dvs : List V} {ds : List Value} {E : XK} {x m : Str} {p pos apos : Pos} {e o : Expr} {es : List Expr} {ta : TE} {t : TA}
theorem run_g {pins : List (Addr × Obj)} {σ : L2.St} {H : Hp} {s : Shared} {Q : VK} {us : List Value} {vs : List V} (hgd : X.A.guards = some []) (F : FnG X.prog X.w X.K X.mg X.base CX k f fd ps sp) (hr : Room k X.A) (hb : Binds X.K fd ps ds) (hd : Vals dvs ds) (hx : Passes CX X E)
    (I : L2.Inv X pins σ H s) (r : Vals vs us) (h : sp (vs ++ dvs) H Q E) : wpAny (model X.prog X.w) X.A (call (.ref f) us) (EP X pins σ Q) X.xe s := by
  have rr : Vals (vs ++ dvs) (us ++ ds) := r.append hd; have hl : (us ++ ds).length = ps.length := rr.length.symm.trans (F.ln _ _ _ _ h)
  refine wpAny_call (codeAny_mono (F.go X.A X.stack s H ⟨us, []⟩ (us ++ ds) (vs ++ dvs) Q E hgd hr I.env0 (hb s us I.kIn hl) rr h) fun z s' hq => ?_)
  match z, hq with
  | .error er, hq => exact hx pins σ H s er s' I hq
  | .ok (.ret u), hq => exact I.after hq
  | .ok .next, hq => exact False.elim hq
  | .ok .brk, hq => exact False.elim hq
  | .ok .cont, hq => exact False.elim hq
theorem pe_callG (hgd : X.A.guards = some []) (F : FnG X.prog X.w X.K X.mg X.base CX k f fd ps sp) (hr : Room k X.A) (hg : Gl X x) (hm : X.mg x = some (.ref f)) (hk : PySem.W.keepIn X.K (.ref f) = true) (hb : Binds X.K fd ps ds) (hd : Vals dvs ds) (hx : Passes CX X E) (ha : PA X (e :: es) t)
    (hdb : (x == ("__debug__" : Str)) = false := by decide) (he : starEach (e :: es) X.env = (false, eval e X.env) :: starEach es X.env := by rfl) (hpl : (backTo pos (starEach es X.env)).any (·.1) = false := by rfl) :
    PE X (.Call (.Name x p) (e :: es) [] pos) (tCall sp dvs E t) := ⟨fun pins s σ H Q I h => wpAny_Call_Name_kw (ld_glob I hg hm (PySem.W.callWith_K (h₀ := X.base) I.ok.mod.kin hk (thn (ha.run pos pins s σ H _ I h) fun us s1 z => by
      obtain ⟨vs, H1, I1, r, q⟩ := z; exact ⟨I1.kIn, run_g hgd F hr hb hd hx I1 r q⟩) he hpl) hdb)⟩
end
/-- data at any depth, dicts too -/
inductive Dq (K : PySem.W.Frag) (H : Hp) : V → PyData → Prop
  | non : Dq K H .non .none
  | bl (b : Bool) : Dq K H (.bl b) (.bool b)
  | int (i : Int) : Dq K H (.int i) (.int i)
  | str (x : Str) : Dq K H (.str x) (.str x)
  | lst {a : Addr} {xs : List V} {ds : List PyData} : SqL K H a xs → xs.length = ds.length → (∀ (i : Nat) (v : V) (d : PyData), xs[i]? = some v → ds[i]? = some d → Dq K H v d) → Dq K H (.ref a) (.list ds)
  | tup {a : Addr} {xs : List V} {ds : List PyData} : SqT K H a xs → xs.length = ds.length → (∀ (i : Nat) (v : V) (d : PyData), xs[i]? = some v → ds[i]? = some d → Dq K H v d) → Dq K H (.ref a) (.tuple ds)
section
variable {H : Hp} {X : Cx} {σ : L2.St} {pins : List (Addr × Obj)} {s : Shared}
theorem readsAll_of {h : Heap} : ∀ {us : List Value} {ds : List PyData}, us.length = ds.length → (∀ (i : Nat) (u : Value) (d : PyData), us[i]? = some u → ds[i]? = some d → ∃ as, Reads h u d as) → ∃ as, ReadsAll h us ds as
  | [], [], _, _ => ⟨_, .nil⟩
  | [], _ :: _, z, _ | _ :: _, [], z, _ => by simp at z
  | u :: us, d :: ds, hl, h => by
    obtain ⟨as, q1⟩ := h 0 u d rfl rfl
    obtain ⟨bs, q2⟩ := readsAll_of (us := us) (ds := ds) (by simpa using hl) fun i u d e1 e2 => h (i + 1) u d (by simpa using e1) (by simpa using e2)
    exact ⟨_, .cons q1 q2⟩
theorem Dq.reads (I : L2.Inv X pins σ H s) {v : V} {d : PyData} (h : Dq X.K H v d) : ∀ u, RelV v u → ∃ as, Reads s.heap u d as := by
  induction h with
  | non => intro u r; cases r; exact ⟨_, .none⟩
  | bl b => intro u r; cases r; exact ⟨_, .bool b⟩
  | int i => intro u r; obtain ⟨t, rfl⟩ := r; exact ⟨_, .int i t⟩
  | str x => intro u r; obtain ⟨t, rfl⟩ := r; exact ⟨_, .str x t⟩
  | @lst a xs ds hs hl hi ih =>
    intro u r
    cases r
    obtain ⟨its, rv, ⟨o, m, ho, hc, _, hd⟩, _⟩ := I.list hs
    obtain ⟨as, q⟩ := readsAll_of (h := s.heap) (us := its) (ds := ds) (rv.length.symm.trans hl) fun i u d e1 e2 => by
      obtain ⟨v, hv⟩ : ∃ v, xs[i]? = some v := ⟨_, List.getElem?_eq_getElem (by have := (List.getElem?_eq_some_iff.mp e1).1; rw [rv.length]; exact this)⟩
      obtain ⟨u', hu, ru⟩ := rv.get hv; rw [e1] at hu; cases hu
      exact ih i v d hv e2 u ru
    exact ⟨_, .list ho hc hd q⟩
  | @tup a xs ds hs hl hi ih =>
    intro u r
    cases r
    obtain ⟨its, rv, ⟨o, ho, hc, m, hd⟩, _⟩ := I.tuple hs
    obtain ⟨as, q⟩ := readsAll_of (h := s.heap) (us := its) (ds := ds) (rv.length.symm.trans hl) fun i u d e1 e2 => by
      obtain ⟨v, hv⟩ : ∃ v, xs[i]? = some v := ⟨_, List.getElem?_eq_getElem (by have := (List.getElem?_eq_some_iff.mp e1).1; rw [rv.length]; exact this)⟩
      obtain ⟨u', hu, ru⟩ := rv.get hv; rw [e1] at hu; cases hu
      exact ih i v d hv e2 u ru
    exact ⟨_, .tuple ho hc hd q⟩
end
section
variable {X : Cx}
/-- repr of such data -/
def rRepr (K : PySem.W.Frag) : List V → Hp → VK → Prop := fun xs H Q => ∃ v d, xs = [v] ∧ Dq K H v d ∧ d.showable = true ∧ d.hasDict = false ∧ d.depth ≤ 60 ∧ d.shown.length ≤ sizeLine ∧ Q (.str d.shown) H
theorem call_reprD (hgd : X.A.guards = some []) (hu : X.A.units + 64 < cLine) : CallR X (.builtin "repr") (rRepr X.K) := by
  intro pins s σ H xs us; intro Q I r h
  obtain ⟨v, d, rfl, hd, hs, hn, hp, hz, q⟩ := h
  cases r with
  | cons r1 r2 =>
    cases r2
    rename_i u
    obtain ⟨as, hr⟩ := hd.reads I u r1
    have fin : ∀ h' t tk, (∀ b o, s.heap.get? b = some o → h'.get? b = some o) → EP X pins σ Q (.str d.shown t) { s with heap := h', toks := tk } := fun h' t tk k => ⟨.str d.shown, H, I.kept k, ⟨_, rfl⟩, q⟩
    cases hr with
    | none => exact PySem.P.repr_of_none (fin _ _ _ fun _ _ z => z)
    | bool b => exact PySem.P.repr_of_bool (fin _ _ _ fun _ _ z => z)
    | int i t => exact PySem.P.repr_of_int (by simpa [PyData.showable] using hs) (fin _ _ _ fun _ _ z => z)
    | str x t => exact PySem.P.repr_of_str (fin _ _ _ fun _ _ z => z)
    | list h1 h2 h3 h4 => exact repr_of_reads' (.list h1 h2 h3 h4) hs (fun z => by rw [hn] at z; cases z) hgd (by omega) (fun _ _ z => z) (fun h' u tk k => fin h' u tk k) hz
    | tuple h1 h2 h3 h4 => exact repr_of_reads' (.tuple h1 h2 h3 h4) hs (fun z => by rw [hn] at z; cases z) hgd (by omega) (fun _ _ z => z) (fun h' u tk k => fin h' u tk k) hz
    | dict h1 h2 h3 h4 h5 => simp [PyData.hasDict] at hn
end
end HX
set_option Elab.async false
set_option linter.all false
set_option maxRecDepth 100000
set_option maxHeartbeats 4400000
namespace HX
open L2 PyProof.Rows PySem.Spec PySem
theorem ints_vals : ∀ {vs : List Value} {ns : List Int}, IntsAre vs ns → Vals (ns.map V.int) vs
  | _, _, .nil => Paired.nil
  | _, _, .cons n t h => Paired.cons ⟨t, rfl⟩ (ints_vals h)
/-- the law's call from its promise (a def that may be called where no repr is under way); H: the script alone, or nothing -/
theorem lawG_core {P : Program} {w : World} {K : PySem.W.Frag} {mg mb : Str → Option Value} {CX : CXT} {k : Nat} {fa a : Addr} {fd : FuncData} {x : Str} {sp : Sp} {s1 : Shared} {vs : List Value} {H : Hp}
    (KX : K.In s1.heap) (hns : s1.heap.Ns mainGlobals mg) (hb : s1.heap.Ns builtinsNs mb) (hbb : ∀ x : Str, x ≠ "__name__" → mb x = bootBuiltins x) (hlim : s1.heap.NoLimit) (hg : s1.gens = #[])
    (ha : s1.heap.get? a = some { cls := .type "list", data := .seq vs.toArray }) (hr : Room k callerA)
    (F : ∀ base : Heap, K.In base → base.Ns mainGlobals mg → FnG P w K mg base CX k fa fd [x] sp) (hbind : ∀ (s : Shared) (u : Value), BindsTo s fd ⟨[u], []⟩ [(x, u)])
    (hsp : sp [.ref a] H (fun v _ => v = .bl true) fun _ _ _ => False) (hCX : ∀ e s', CX [] H s1 (fun _ _ _ => False) e s' → False)
    (hO : ∀ b u, H b = some u → b = a ∧ ∃ o xs, u = .frz o (.lst xs)) (hok : HOk P w H s1.heap) (hK : ∀ u, H a = some u → K.lookup a = none) :
    codeAny (model P w) callerA (.call (.ref fa) ⟨[.ref a], []⟩) (fun r s' => r = .ok (.ret (.bool true)) ∧ OldK s1.heap s'.heap ∧ s'.os = s1.os ∧ AllBare s'.gens) s1 := by
  have un : ∀ {b : Addr}, b ≠ a → H b = none := fun {b} z => by
    cases q : H b with
    | none => rfl
    | some u => exact absurd (hO b u q).1 z
  have nsK : ∀ {b : Addr} {m : Str → Option Value}, s1.heap.Ns b m → (hidT s1.heap H).Ns b m := fun {b m} ⟨o, es, ep, e, d, r⟩ => by
    refine ⟨o, es, ep, hidT_get e (un fun z => ?_), d, r⟩
    rw [z, ha] at e
    cases e
    cases d
  have inB : K.In (hidT s1.heap H) := fun b o e => hidT_get (KX b o e) (by
    cases q : H b with
    | none => rfl
    | some u =>
      have y := (hO b u q).1
      subst y
      have y2 : K.lookup b = none := hK u q
      rw [show K.lookup b = some o from e] at y2
      cases y2)
  obtain ⟨mc, l1, l2⟩ := hlim
  have e0 : Env0 P w K mg (hidT s1.heap H) callerA [] s1 H := ⟨rfl, ⟨inB, nsK hns, ⟨mb, nsK hb, hbb⟩, ⟨mc, nsK l1, l2⟩⟩, fun b o e => of_hidT e, Nat.le_of_eq (hidT_size _ _), trivial, fun b z => absurd (show b ∈ ([] : List Addr) from z) List.not_mem_nil, hok, .of_eq hg⟩
  refine codeAny_mono ((F _ inB (nsK hns)).go callerA [] s1 H ⟨[.ref a], []⟩ [.ref a] [.ref a] _ _ rfl hr e0 (hbind s1 (.ref a)) (.cons rfl .nil) hsp) fun r s' h => ?_
  match r, h with
  | .error e, h => exact (hCX e s' h).elim
  | .ok .next, h => exact False.elim h
  | .ok .brk, h => exact False.elim h
  | .ok .cont, h => exact False.elim h
  | .ok (.ret u), h =>
    obtain ⟨v, H', os, bare, U, hok', r', q⟩ := h
    obtain rfl : v = .bl true := q
    have ru : u = Value.bool true := r'; subst ru; refine ⟨rfl, OldK.of_keep fun b o e => ?_, os, bare⟩
    cases q : H b with
    | none => exact U.keep b o e q (fun z => absurd (show b ∈ ([] : List Addr) from z) List.not_mem_nil) List.not_mem_nil
    | some u =>
      obtain ⟨_, ob, xs, z⟩ := hO b u q
      subst z
      have y1 := (hok b _ q).1
      have y2 := (hok' b _ (U.frzs b ob _ q)).1
      rw [e] at y1
      cases y1
      exact y2
theorem walk_G {l : PySem.W.OpenLaw} {n k : Nat} {q : Program} {loose : List Str} {XP : (Str → Option Value) → Heap → Prop} {YP : World → Heap → Prop} {d : DefRec} {K : Params → PySem.W.Frag} {CX : World → CXT} {sp : World → Sp} {x : Str}
    (hn : l.most = some n) (hn2 : n ≤ sizeLine) (hdf : d.params.defaults = []) (hr : Room k callerA) (hY : ∀ (v : World) (h : Heap), YP v h → (K v.params).In h)
    (F : ∀ (w : World) (m : Str → Option Value) (fa : Addr) (h : Heap), (K w.params).In h → h.Ns mainGlobals m → m d.name = some (.ref fa) →
      ∃ fd : FuncData, (∀ (s : Shared) (u : Value), BindsTo s fd ⟨[u], []⟩ [(x, u)]) ∧ ∀ base : Heap, (K w.params).In base → base.Ns mainGlobals m → FnG l.prog w (K w.params) m base (CX w) k fa fd [x] (sp w))
    (hsp : ∀ (w : World) (H : Hp) (a : Addr) (ns : List Int), ns.length ≤ n → SqL (K w.params) H a (ns.map V.int) → (∀ b u, H b = some u → b = a) → sp w [.ref a] H (fun v _ => v = .bl true) fun _ _ _ => False)
    (hCX : ∀ (w : World) (G : Hp) (s : Shared) (e : Value) (s' : Shared), CX w [] G s (fun _ _ _ => False) e s' → False) : PySem.W.WalkO q loose XP YP l.row.toRowW d [] (fun f vs => PySem.call f vs) := by
  refine Att.attach_call hn hdf fun w s0 s1 mg mb fa o pm cd doc a vs ns G Y ho hd hcd hmg hobj hints hlen hgen => ?_
  have KX := hY w _ Y; obtain ⟨fd, hb, hF⟩ := F w mg fa _ KX G.T.g hmg
  have rv := ints_vals hints; have lv := hints.length
  cases hk : (K w.params).lookup a with
  | some o' =>
    have e := KX a o' hk
    rw [hobj] at e
    cases e
    exact lawG_core (H := fun _ => none) KX G.T.g G.T.b G.T.builtins G.T.nolimit hgen hobj hr hF hb (hsp w _ a ns hlen (.inr ⟨_, vs.toArray, _, hk, rfl, rfl, rfl, by rw [List.size_toArray, lv]; exact Nat.le_trans hlen hn2, by simpa using rv⟩) fun b u z => by cases z)
      (fun e s' => hCX w _ s1 e s') (fun b u z => by cases z) (fun b u z => by cases z) fun u z => by cases z
  | none =>
    have at_ : ∀ {b u}, (fun b => if b = a then some (HO.frz { cls := .type "list", data := .seq vs.toArray } (.lst (ns.map V.int))) else none) b = some u → b = a ∧ u = HO.frz { cls := .type "list", data := .seq vs.toArray } (.lst (ns.map V.int)) := fun {b u} z => by
      by_cases hba : b = a
      · exact ⟨hba, (Option.some.inj ((if_pos hba).symm.trans z)).symm⟩
      · exact absurd ((if_neg hba).symm.trans z) (fun y => nomatch y)
    refine lawG_core (H := fun b => if b = a then some (.frz { cls := .type "list", data := .seq vs.toArray } (.lst (ns.map V.int))) else none) KX G.T.g G.T.b G.T.builtins G.T.nolimit hgen hobj hr hF hb
      (hsp w _ a ns hlen (.inl (.inr ⟨_, if_pos rfl⟩)) fun b u z => (at_ z).1) (fun e s' => hCX w _ s1 e s') (fun b u z => ⟨(at_ z).1, _, _, (at_ z).2⟩) (fun b u z => ?_) fun _ _ => hk
    obtain ⟨e1, e2⟩ := at_ z
    subst e1
    subst e2
    exact ⟨hobj, by rw [List.length_map]; exact Nat.le_trans hlen hn2, vs, _, rv, hobj⟩
end HX
set_option Elab.async false
set_option linter.all false
set_option maxRecDepth 100000
set_option maxHeartbeats 4400000
namespace HX
open L2 PyProof.Rows PySem.Spec PySem
section
variable {X : Cx} {CX : CXT} {C f g : Addr} {k : Nat} {fd gd : FuncData} {ps ps' : List Str} {sp spR : Sp} {E : XK}
theorem op_eqN (T : CmC X.K C .Eq f g) (F1 : FnOk X.prog X.w X.K X.mg X.base CX k f fd ps sp) (b1 : Binds X.K fd ps []) (F2 : FnOk X.prog X.w X.K X.mg X.base CX k g gd ps' spR) (b2 : Binds X.K gd ps' []) (hr : Room k X.A) (hx : Passes CX X E) :
    OpR X (compareOp .Eq) (rOwn C sp spR E) := fun pins s σ H x y v u Q I rx ry h => op_cmpW ic_eq T F1 b1 F2 b2 hr hx pins s σ H x y v u Q I rx ry h
theorem op_neN (T : CmC X.K C .NotEq f g) (F1 : FnOk X.prog X.w X.K X.mg X.base CX k f fd ps sp) (b1 : Binds X.K fd ps []) (F2 : FnOk X.prog X.w X.K X.mg X.base CX k g gd ps' spR) (b2 : Binds X.K gd ps' []) (hr : Room k X.A) (hx : Passes CX X E) :
    OpR X (compareOp .NotEq) (rOwn C sp spR E) := fun pins s σ H x y v u Q I rx ry h => op_cmpW ic_ne T F1 b1 F2 b2 hr hx pins s σ H x y v u Q I rx ry h
theorem op_ltN (T : CmC X.K C .Lt f g) (F1 : FnOk X.prog X.w X.K X.mg X.base CX k f fd ps sp) (b1 : Binds X.K fd ps []) (F2 : FnOk X.prog X.w X.K X.mg X.base CX k g gd ps' spR) (b2 : Binds X.K gd ps' []) (hr : Room k X.A) (hx : Passes CX X E) :
    OpR X (compareOp .Lt) (rOwn C sp spR E) := fun pins s σ H x y v u Q I rx ry h => op_cmpW ic_lt T F1 b1 F2 b2 hr hx pins s σ H x y v u Q I rx ry h
theorem op_leN (T : CmC X.K C .LtE f g) (F1 : FnOk X.prog X.w X.K X.mg X.base CX k f fd ps sp) (b1 : Binds X.K fd ps []) (F2 : FnOk X.prog X.w X.K X.mg X.base CX k g gd ps' spR) (b2 : Binds X.K gd ps' []) (hr : Room k X.A) (hx : Passes CX X E) :
    OpR X (compareOp .LtE) (rOwn C sp spR E) := fun pins s σ H x y v u Q I rx ry h => op_cmpW ic_le T F1 b1 F2 b2 hr hx pins s σ H x y v u Q I rx ry h
theorem op_gtN (T : CmC X.K C .Gt f g) (F1 : FnOk X.prog X.w X.K X.mg X.base CX k f fd ps sp) (b1 : Binds X.K fd ps []) (F2 : FnOk X.prog X.w X.K X.mg X.base CX k g gd ps' spR) (b2 : Binds X.K gd ps' []) (hr : Room k X.A) (hx : Passes CX X E) :
    OpR X (compareOp .Gt) (rOwn C sp spR E) := fun pins s σ H x y v u Q I rx ry h => op_cmpW ic_gt T F1 b1 F2 b2 hr hx pins s σ H x y v u Q I rx ry h
theorem op_geN (T : CmC X.K C .GtE f g) (F1 : FnOk X.prog X.w X.K X.mg X.base CX k f fd ps sp) (b1 : Binds X.K fd ps []) (F2 : FnOk X.prog X.w X.K X.mg X.base CX k g gd ps' spR) (b2 : Binds X.K gd ps' []) (hr : Room k X.A) (hx : Passes CX X E) :
    OpR X (compareOp .GtE) (rOwn C sp spR E) := fun pins s σ H x y v u Q I rx ry h => op_cmpW ic_ge T F1 b1 F2 b2 hr hx pins s σ H x y v u Q I rx ry h
/-- i ** j, of an i that is neither -1, 0 nor 1, the result below 2 ^ 100000 -/
def CPowW (i j : Int) : Prop := 2 ≤ i ∧ 0 < j ∧ Builtin.Int.intTooBig (((Builtin.Int.intBits i : Nat) : Int) * j) = false
theorem op_powW : OpR X (binaryOp .Pow) (rI CPowW fun i j => .int (i ^ j.toNat)) := opI fun i j t u s Q E hc q => by
  obtain ⟨h1, h2, h3⟩ := hc
  have h4 : ¬ ((i == 0 || i == 1) = true) := by simp; omega
  have h5 : ¬ ((i == -1) = true) := by simp; omega
  exact AutoIntOps.pow_4 (by omega) (by simp; omega) h4 h5 (by rw [h3]; decide) q
end
/-- all that was known is known -/
abbrev Ex (H H' : Hp) : Prop := ∀ a o, H a = some o → H' a = some o
/-- .. but what stood at p -/
abbrev XB (p : Addr) (H H' : Hp) : Prop := ∀ a o, a ≠ p → H a = some o → H' a = some o
theorem Ex.rf (H : Hp) : Ex H H := fun _ _ h => h
theorem Ex.tr {H H1 H2 : Hp} (a : Ex H H1) (b : Ex H1 H2) : Ex H H2 := fun c o h => b c o (a c o h)
theorem Ex.nw {H : Hp} {p : Addr} {o : HO} (h : H p = none) : Ex H (upd H p o) := fun a u e => by rw [upd_ne (ne_of_none e h)]; exact e
theorem Ex.fr {H H' : Hp} {p : Addr} (e : Ex H H') (h : H' p = none) : H p = none := by
  cases q : H p with
  | none => rfl
  | some o => rw [e p o q] at h; cases h
theorem Ex.xb {H H' : Hp} {p : Addr} (e : Ex H H') : XB p H H' := fun a o _ h => e a o h
theorem XB.tr {H H1 H2 : Hp} {p : Addr} (a : XB p H H1) (b : XB p H1 H2) : XB p H H2 := fun c o n h => b c o n (a c o n h)
theorem XB.wr {H : Hp} {p : Addr} {o : HO} : XB p H (upd H p o) := fun a u n e => by rw [upd_ne n]; exact e
theorem XB.fr {H H' : Hp} {p q : Addr} {o : HO} (e : XB p H H') (hp : H' p = some o) (h : H' q = none) : H q = none := by
  cases z : H q with
  | none => rfl
  | some u =>
    by_cases y : q = p
    · rw [y, hp] at h; cases h
    · rw [e q u y z] at h; cases h
theorem if_dec {p : Prop} [Decidable p] {A B : Prop} (h1 : p → A) (h2 : ¬ p → B) : if decide p = true then A else B := by
  by_cases h : p
  · rw [decide_eq_true h]; exact iteT (h1 h)
  · rw [decide_eq_false h]; exact iteF (h2 h)
theorem if_eq {b c : Bool} {A B : Prop} (e : b = c) (h : if c = true then A else B) : if b = true then A else B := by rw [e]; exact h
theorem if_true {b : Bool} {A B : Prop} (e : b = true) (h : A) : if b = true then A else B := by rw [e]; exact iteT h
theorem if_false {b : Bool} {A B : Prop} (e : b = false) (h : B) : if b = true then A else B := by rw [e]; exact iteF h
end HX
set_option Elab.async false
set_option linter.all false
set_option maxRecDepth 100000
set_option maxHeartbeats 4400000
namespace HX
open L2 PyProof.Rows PySem.Spec PySem
/-- data whose repr is asked -/
structure Fine (d : PyData) : Prop where
  sh : d.showable = true
  nd : d.hasDict = false
  dp : d.depth ≤ 60
  ln : d.shown.length ≤ sizeLine
theorem sh_int {i : Int} (h0 : -1000000 ≤ i) (h1 : i ≤ 1000000) : (PyData.int i).showable = true := by
  unfold PyData.showable
  have h : i.natAbs < 2 ^ 64 := by omega
  have h2 : i.natAbs.log2 < 64 := PySem.Flt.log2_lt_of (by decide) h
  first | exact decide_eq_true (by omega)
theorem ls_int {i : Int} (h0 : -1000000 ≤ i) (h1 : i ≤ 1000000) : (PyData.int i).leavesShort 13 = true := by
  have h := PyData.shown_int_le (i := i) (by omega)
  unfold PyData.leavesShort
  simpa [PyData.shown] using h
/-- a flat item -/
inductive Flat : PyData → Prop
  | non : Flat .none
  | bl (b : Bool) : Flat (.bool b)
  | int (i : Int) (h0 : -1000000 ≤ i) (h1 : i ≤ 1000000) : Flat (.int i)
  | str (x : Str) (h : x.cps.size ≤ 60) (hc : (x.cps.toList.all fun c => decide (c < 16 ^ 8)) = true) : Flat (.str x)
theorem Flat.all {ds : List PyData} (h : ∀ d ∈ ds, Flat d) : PyData.showableAll ds = true ∧ PyData.hasDictAll ds = false ∧ PyData.leavesShortAll 13 ds = true ∧ PyData.depthAll ds ≤ 1 ∧ PyData.weightAll ds ≤ 70 * ds.length := by
  induction ds with
  | nil => simp [PyData.showableAll, PyData.hasDictAll, PyData.leavesShortAll, PyData.depthAll, PyData.weightAll]
  | cons d ds ih =>
    obtain ⟨i1, i2, i3, i4, i5⟩ := ih fun x hx => h x (List.mem_cons_of_mem _ hx)
    have hd := h d List.mem_cons_self
    simp only [PyData.showableAll, PyData.hasDictAll, PyData.leavesShortAll, PyData.depthAll, PyData.weightAll, i1, i2, i3, Bool.and_true, Bool.or_false, List.length_cons]
    cases hd with
    | non => simp [PyData.showable, PyData.hasDict, PyData.leavesShort, PyData.depth, PyData.weight]; omega
    | bl b => simp [PyData.showable, PyData.hasDict, PyData.leavesShort, PyData.depth, PyData.weight]; omega
    | int i h0 h1 =>
      have h2 : i.natAbs.log2 < 64 := PySem.Flt.log2_lt_of (by decide) (by omega : i.natAbs < 2 ^ 64)
      simp only [sh_int h0 h1, PyData.hasDict, ls_int h0 h1, PyData.depth, PyData.weight]
      refine ⟨by first | rfl | trivial, by first | rfl | trivial, by first | rfl | trivial, by omega, ?_⟩
      split <;> omega
    | str x hx hc =>
      simp only [PyData.showable, PyData.hasDict, PyData.leavesShort, PyData.depth, PyData.weight, hc]
      refine ⟨by first | rfl | trivial, by first | rfl | trivial, by first | rfl | trivial, by omega, by omega⟩
theorem fine_list {ds : List PyData} (h : ∀ d ∈ ds, Flat d) (hl : ds.length ≤ 1000) : Fine (.list ds) := by
  obtain ⟨h1, h2, h3, h4, h5⟩ := Flat.all h
  refine ⟨by simp only [PyData.showable, h1], by simp only [PyData.hasDict, h2], by simp only [PyData.depth]; omega, PyData.shown_fits (B := 13) (by decide) (by decide) (by simp only [PyData.leavesShort, h3]) (by simp only [PyData.weight]; omega)⟩
theorem fine_tup {ds : List PyData} (h : ∀ d ∈ ds, Flat d) (hl : ds.length ≤ 1000) : Fine (.tuple ds) := by
  obtain ⟨h1, h2, h3, h4, h5⟩ := Flat.all h
  refine ⟨by simp only [PyData.showable, h1], by simp only [PyData.hasDict, h2], by simp only [PyData.depth]; omega, PyData.shown_fits (B := 13) (by decide) (by decide) (by simp only [PyData.leavesShort, h3]) (by simp only [PyData.weight]; omega)⟩
theorem fine_non : Fine .none := ⟨rfl, rfl, by decide, by simp only [PyData.shown]; decide +kernel⟩
theorem fine_bl (b : Bool) : Fine (.bool b) := ⟨rfl, rfl, by simp [PyData.depth], by cases b <;> simp only [PyData.shown] <;> decide +kernel⟩
theorem flat_zero : Flat (.str "zero") := .str _ (by decide +kernel) (by decide +kernel)
/-- flat values and their data -/
def fl : V → PyData
  | .non => .none
  | .bl b => .bool b
  | .int i => .int i
  | .str x => .str x
  | _ => .none
def isFl : V → Bool
  | .non | .bl _ | .int _ | .str _ => true
  | _ => false
theorem dq_fl {K : PySem.W.Frag} {H : Hp} {v : V} (h : isFl v = true) : Dq K H v (fl v) := by
  cases v <;> first | exact .non | exact .bl _ | exact .int _ | exact .str _ | cases h
theorem dq_items {K : PySem.W.Frag} {H : Hp} {xs : List V} (h : xs.all isFl = true) : ∀ (i : Nat) (v : V) (d : PyData), xs[i]? = some v → (xs.map fl)[i]? = some d → Dq K H v d := fun i v d e1 e2 => by
  rw [List.getElem?_map, e1] at e2
  cases e2
  exact dq_fl (List.all_eq_true.mp h v (List.mem_of_getElem? e1))
theorem dq_lst {K : PySem.W.Frag} {H : Hp} {a : Addr} {xs : List V} (e : H a = some (.lst xs)) (h : xs.all isFl = true) : Dq K H (.ref a) (.list (xs.map fl)) := .lst (SqL.of e) (by rw [List.length_map]) (dq_items h)
theorem dq_tup {K : PySem.W.Frag} {H : Hp} {a : Addr} {xs : List V} (e : H a = some (.tup xs)) (h : xs.all isFl = true) : Dq K H (.ref a) (.tuple (xs.map fl)) := .tup (SqT.of e) (by rw [List.length_map]) (dq_items h)
end HX
set_option Elab.async false
set_option linter.all false
set_option maxRecDepth 100000
set_option maxHeartbeats 4400000
namespace HX
open L2 PyProof.Rows PySem.Spec PySem
section
variable {X : Cx} {CX : CXT} {C f : Addr} {k : Nat} {fd : FuncData} {ps : List Str} {sp : Sp} {E : L2.St → XK} {a b e : Expr} {ta tb te : TE} {pos pos' : Pos} {x : Str} {i : Nat} {op : Operator}
/-- a def run within a call of a builtin -/
theorem run_one {pins : List (Addr × Obj)} {σ : L2.St} {H : Hp} {s : Shared} {Q : VK} {us : List Value} {vs : List V} {E : XK} (F : FnOk X.prog X.w X.K X.mg X.base CX k f fd ps sp) (hr : Room (k + 1) X.A) (hb : Binds X.K fd ps []) (hx : PassesAt CX X σ E)
    (I : L2.Inv X pins σ H s) (r : Vals vs us) (h : sp vs H Q E) : wpAny (model X.prog X.w) X.A.in1 (call (.ref f) us) (EP X pins σ Q) X.xe s := by
  have few : (us ++ []).length = ps.length := by rw [List.append_nil, ← r.length]; exact F.len _ _ _ _ h
  have bound := hb s us I.kIn few; rw [List.append_nil] at bound
  refine wpAny_call (codeAny_mono (F.run X.A.in1 X.stack s H ⟨us, []⟩ us vs Q E hr.in1 I.env0.in1 bound r h) fun z s' hq => ?_)
  match z, hq with
  | .ok (.ret u), w => exact I.after w
  | .ok .next, w | .ok .brk, w | .ok .cont, w => exact False.elim w
  | .error er, w => exact hx pins H s er s' I w
/-- a[b] of an own class -/
def tSubO (C : Addr) (sp : Sp) (E : L2.St → XK) (ta tb : TE) : TE := fun σ H Q => ta σ H fun x H1 => tb σ H1 fun y H2 => isI C H2 x ∧ sp [x, y] H2 Q (E σ)
theorem pe_subO (hs : PySem.W.findIn X.K (.ref C) "__getitem__" = some (some (.ref f))) (hf : PySem.W.fnIn X.K f = true) (hfn : PySem.W.isFn X.K (.ref f) = true) (F : FnOk X.prog X.w X.K X.mg X.base CX k f fd ps sp) (hb : Binds X.K fd ps []) (hr : Room (k + 1) X.A)
    (hx : ∀ σ, PassesAt CX X σ (E σ)) (ha : PE X a ta) (hbb : PE X b tb) (hsl : ∀ x i, subscripted b true (.ref x) i = runValue (.builtin "lifetime.subscript" ⟨[.ref x, i], []⟩)) : PE X (.Subscript a b pos) (tSubO C sp E ta tb) := by
  refine ⟨fun pins s σ H Q I h => ?_⟩
  refine Subscript_ (binT ha hbb I h fun v u s2 x y H2 I2 rx ry q => ?_)
  obtain ⟨m, hF⟩ := I2.fr
  obtain ⟨⟨p, dx, fs, rfl, ep⟩, q⟩ := q
  obtain ⟨od, J⟩ := isI_inst I2 ep
  cases (id rx : v = Value.ref p)
  exact PySem.W.sub_K hF I2.ok.mod.kin J hs hf hfn (run_one (us := [.ref p, u]) (vs := [.ref p, y]) F hr hb (hx σ) I2 (.cons rfl (.cons ry .nil)) q) (hsl _ _)
/-- o[i] = v of an own class -/
def gSubO (C : Addr) (sp : Sp) (E : L2.St → XK) (to ti : TE) : TG := fun v σ H Q => to σ H fun o H1 => ti σ H1 fun i H2 => isI C H2 o ∧ sp [o, i, v] H2 (fun _ H3 => Q σ H3) (E σ)
theorem pg_subO (hq : PySem.W.noSeq X.K C = true) (hs : PySem.W.findIn X.K (.ref C) "__setitem__" = some (some (.ref f))) (hfn : PySem.W.isFn X.K (.ref f) = true) (F : FnOk X.prog X.w X.K X.mg X.base CX k f fd ps sp) (hb : Binds X.K fd ps []) (hr : Room k X.A)
    (hx : ∀ σ, PassesAt CX X σ (E σ)) (ho : PE X a ta) (hi : PE X b tb)
    (ha : ∀ v, assign (.Subscript a b pos) X.env v = (do let o1 ← holding [v] (eval a X.env); let i1 ← holding [v, o1] (eval b X.env); standAt pos; holding [v, o1, i1] (setItem o1 i1 v); release [v, o1, i1] []) := by intro _; rfl) : PG X (.Subscript a b pos) (gSubO C sp E ta tb) := by
  refine ⟨fun pp t τ G val vv R J rv w => ?_⟩
  rw [ha]
  refine wpAny_bind (wpAny_holding (thn (ho.run pp t τ G _ J w) fun o1 t1 ⟨x, G1, J1, rx, w1⟩ => wpAny_bind (wpAny_holding (thn (hi.run pp t1 τ G1 _ J1 w1) fun i1 t2 ⟨y, G2, J2, ry, w2⟩ => ?_))))
  obtain ⟨⟨p, dx, fs, rfl, ep⟩, q⟩ := w2
  obtain ⟨m, hF⟩ := J2.fr
  obtain ⟨od, W⟩ := isI_inst J2 ep
  have eo : o1 = Value.ref p := rx; subst eo
  have done := run_fnS (us := [.ref p, i1, vv]) (vs := [.ref p, y, val]) F hr hb (hx τ) J2 (.cons rfl (.cons ry (.cons rv .nil))) q
  exact wpAny_bind (wpAny_standAt (wpAny_bind (wpAny_holding (PySem.W.ksp_setItem hF J2.ok.mod.kin W hq hs hfn (thn done fun _ t3 ⟨_, G3, J3, _, w3⟩ => wpAny_release ⟨τ, G3, J3, w3⟩)))))
/-- x op= e of an own class -/
def tAugO (C : Addr) (sp : Sp) (E : L2.St → XK) (i : Nat) (te : TE) : TS := fun D σ H => ∃ x, σ[i]? = some (some x) ∧ te σ H fun y H1 => isI C H1 x ∧ sp [x, y] H1 (fun z H2 => D.nx (σ.set i (some z)) H2) (E σ)
theorem ps_augO (hc : PySem.W.selfFirst X.K C = true) (hs : PySem.W.findIn X.K (.ref C) (dunderI op.info.2) = some (some (.ref f))) (hfn : PySem.W.isFn X.K (.ref f) = true) (F : FnOk X.prog X.w X.K X.mg X.base CX k f fd ps sp) (hb : Binds X.K fd ps []) (hr : Room k X.A)
    (hxx : ∀ σ, PassesAt CX X σ (E σ)) (hN : X.N.Nodup) (hi : X.N[i]? = some x) (hx : X.env.scope.names.lookup x = some .local) (he : PE X e te) : PS X (.AugAssign (.Name x pos') op e pos) (tAugO C sp E i te) := by
  refine ⟨fun pp t τ G D J w => wpAny_AugAssign_Name ?_⟩
  obtain ⟨v, e1, w⟩ := w
  obtain ⟨m, hn, hl⟩ := J.loc
  obtain ⟨u, r, l⟩ := hl i x v hi e1 (.inl hx)
  rcases l with ⟨hk, hm⟩ | ⟨hk, _⟩
  · refine wpAny_loadName_local J.ok.kind hk hn hm (thn (he.run pp t τ G _ J w) fun b t1 ⟨y, G1, J1, r1, w1⟩ => ?_)
    obtain ⟨⟨p, dx, fs, rfl, ep⟩, q⟩ := w1
    obtain ⟨m1, hF⟩ := J1.fr
    obtain ⟨od, W⟩ := isI_inst J1 ep
    have eu : u = Value.ref p := r; subst eu
    have done := run_fnS (us := [.ref p, b]) (vs := [.ref p, y]) F hr hb (hxx τ) J1 (.cons rfl (.cons r1 .nil)) q
    refine thn (PySem.W.ksp_inplace hF J1.ok.mod.kin W hc hs hfn (thn done fun z t2 hz => ep_back hz)) fun z t2 ⟨zv, G2, J2, r2, w2⟩ => ?_
    exact store_ok J2 hN hi (.inl hx) r2 (fun t3 J3 => ⟨_, G2, J3, w2⟩) (.inr hx)
  · rcases hk with hk | hk <;> (have z : X.env.scope.names.lookup x = _ := hk; rw [hx] at z; cases z)
/-- len of an own class -/
def rLenO (C : Addr) (sp : Sp) (E : XK) : List V → Hp → VK → Prop := fun xs H Q => ∃ x, xs = [x] ∧ isI C H x ∧ sp [x] H (fun v H' => ∃ n : Nat, v = .int n ∧ n < 1000 ∧ Q (.int n) H') E
theorem call_lenO {E : XK} (hs : PySem.W.findIn X.K (.ref C) "__len__" = some (some (.ref f))) (hf : PySem.W.isFn X.K (.ref f) = true) (F : FnOk X.prog X.w X.K X.mg X.base CX k f fd ps sp) (hb : Binds X.K fd ps []) (hr : Room (k + 1) X.A) (hx : Passes CX X E) :
    CallR X (.builtin "len") (rLenO C sp E) := by
  intro pins s σ H xs us; intro Q I r h
  obtain ⟨m, hF⟩ := I.fr
  obtain ⟨x, rfl, ⟨p, dx, fs, rfl, ep⟩, q⟩ := h
  obtain ⟨od, J⟩ := isI_inst I ep
  cases r with
  | cons r1 r2 =>
    cases r2
    rename_i u
    cases (id r1 : u = Value.ref p)
    refine PySem.W.len_K hF I.ok.mod.kin J hs hf (thn (run_one (us := [.ref p]) (vs := [.ref p]) F hr hb (fun pins H s e s' => hx pins σ H s e s') I (.cons rfl .nil) q) fun z s2 hz => ?_)
    obtain ⟨v, H2, I2, r3, n, rfl, hn, q2⟩ := hz
    obtain ⟨t, rfl⟩ := r3
    exact ⟨⟨by omega, by omega⟩, .int n, H2, I2.tok _, ⟨_, rfl⟩, q2⟩
end
end HX
set_option Elab.async false
set_option linter.all false
set_option maxRecDepth 100000
set_option maxHeartbeats 4400000
namespace HX
open L2 PyProof.Rows PySem.Spec PySem
section
variable {X : Cx} {es : List Expr} {t : TA} {pos : Pos}
/-- a new list stands apart from the table of modules -/
def tLstN (t : TA) : TE := fun σ H Q => t σ H fun xs H1 => xs.length ≤ sizeLine ∧ ∀ p, H1 p = none → p ≠ sysModules → Q (.ref p) (upd H1 p (.lst xs))
theorem pe_lstN (h : PA X es t) : PE X (.List es pos) (tLstN t) := by
  refine ⟨fun pins s σ H Q I hq => wpAny_List_spliced (thn (h.run pos pins s σ H _ I hq) fun us s1 ⟨xs, H1, I1, r, z, q⟩ => ⟨by rw [← r.length]; exact z, ?_⟩)⟩
  have e0 : H1 s1.heap.objs.size = none := I1.hok.fresh (Nat.le_refl _)
  have e1 : Inv X pins σ (upd H1 s1.heap.objs.size (.lst xs)) _ := I1.laid (t' := s1.toks) (fun b u e => Heap.get?_push_of_some _ e) (Nat.le_refl _) ⟨z, us, 0, r, Heap.get?_push_size _ rfl⟩
  exact ⟨.ref _, _, e1, rfl, q _ e0 (Nat.ne_of_gt I1.big)⟩
end
/-- data at any depth, dicts by texts too; its lists stand apart from the table of modules, and from the list at p -/
inductive Dz (p : Addr) (H : Hp) : V → PyData → Prop
  | non : Dz p H .non .none
  | bl (b : Bool) : Dz p H (.bl b) (.bool b)
  | int (i : Int) : Dz p H (.int i) (.int i)
  | str (x : Str) : Dz p H (.str x) (.str x)
  | lst {a : Addr} {xs : List V} {ds : List PyData} : H a = some (.lst xs) → a ≠ sysModules → a ≠ p → xs.length = ds.length → (∀ (i : Nat) (v : V) (d : PyData), xs[i]? = some v → ds[i]? = some d → Dz p H v d) → Dz p H (.ref a) (.list ds)
  | tup {a : Addr} {xs : List V} {ds : List PyData} : H a = some (.tup xs) → xs.length = ds.length → (∀ (i : Nat) (v : V) (d : PyData), xs[i]? = some v → ds[i]? = some d → Dz p H v d) → Dz p H (.ref a) (.tuple ds)
  | dct {a : Addr} {ks : List (Str × V)} {ds : List PyData} : H a = some (.dK (ks.map fun p => (Sum.inr p.1, p.2))) → ks.length = ds.length → (∀ (i : Nat) (v : V) (d : PyData), (ks.map (·.2))[i]? = some v → ds[i]? = some d → Dz p H v d) → Dz p H (.ref a) (.dict ((ks.map fun p => PyData.str p.1).zip ds))
theorem Dz.ex {p : Addr} {H H' : Hp} {v : V} {d : PyData} (h : Dz p H v d) (e : Ex H H') : Dz p H' v d := by
  induction h with
  | non => exact .non
  | bl b => exact .bl b
  | int i => exact .int i
  | str x => exact .str x
  | lst h n m hl _ ih => exact .lst (e _ _ h) n m hl ih
  | tup h hl _ ih => exact .tup (e _ _ h) hl ih
  | dct h hl _ ih => exact .dct (e _ _ h) hl ih
theorem Dz.xb {p : Addr} {H H' : Hp} {v : V} {d : PyData} {zs : List V} (h : Dz p H v d) (hp : H p = some (.lst zs)) (e : XB p H H') : Dz p H' v d := by
  induction h with
  | non => exact .non
  | bl b => exact .bl b
  | int i => exact .int i
  | str x => exact .str x
  | lst h n m hl _ ih => exact .lst (e _ _ m h) n m hl ih
  | tup h hl _ ih => exact .tup (e _ _ (ne_of h hp (by intro y; cases y)) h) hl ih
  | dct h hl _ ih => exact .dct (e _ _ (ne_of h hp (by intro y; cases y)) h) hl ih
section
variable {H : Hp} {X : Cx} {σ : L2.St} {pins : List (Addr × Obj)} {s : Shared}
theorem readsAllM {h : Heap} : ∀ {us : List Value} {ds : List PyData}, us.length = ds.length → (∀ (i : Nat) (u : Value) (d : PyData), us[i]? = some u → ds[i]? = some d → ∃ as, Reads h u d as ∧ sysModules ∉ as) → ∃ as, ReadsAll h us ds as ∧ sysModules ∉ as
  | [], [], _, _ => ⟨_, .nil, by simp⟩
  | [], _ :: _, z, _ | _ :: _, [], z, _ => by simp at z
  | u :: us, d :: ds, hl, h => by
    obtain ⟨as, q1, m1⟩ := h 0 u d rfl rfl
    obtain ⟨bs, q2, m2⟩ := readsAllM (us := us) (ds := ds) (by simpa using hl) fun i u d e1 e2 => h (i + 1) u d (by simpa using e1) (by simpa using e2)
    exact ⟨_, .cons q1 q2, by rw [List.mem_append]; exact fun z => z.elim m1 m2⟩
theorem pairs_keys {P : Program} {w : World} {h : Heap} : ∀ {es : List DictEntry} {ks : List (Str × V)} {vs : List (Key × Value)}, Pairs (mixKind P w) es vs → KV (ks.map fun p => (Sum.inr p.1, p.2)) vs →
    ReadsAll h (es.map (·.key)) (ks.map fun p => PyData.str p.1) [] ∧ Vals (ks.map (·.2)) (es.map (·.val))
  | [], [], _, _, _ => ⟨.nil, .nil⟩
  | _ :: _, [], _, hp, hk => by cases hk; cases hp
  | [], _ :: _, _, hp, hk => by cases hk; cases hp
  | e :: es, k :: ks, _, hp, hk => by
    cases hk with
    | cons h1 h2 =>
      cases hp with
      | cons i1 i2 i3 =>
        obtain ⟨q1, q2⟩ := pairs_keys (h := h) i3 h2
        obtain ⟨h3, h4⟩ := h1
        refine ⟨?_, .cons (by show RelV k.2 e.val; rw [i2]; exact h4) q2⟩
        have i0 : keyIs (Sum.inr k.1) e.key = true := by
          have z : (Sum.inr k.1 : Key) = _ := h3
          rw [z]; exact i1
        rcases keyIs_shape i0 with ⟨i, t, z, _⟩ | ⟨x, t, z, y⟩
        · cases z
        · cases z
          refine ReadsAll.cons (as := []) (bs := []) ?_ q1
          show Reads h e.key (PyData.str k.1) []
          rw [show e.key = Value.str k.1 t from y]
          exact .str _ _
theorem Dz.reads {p : Addr} (I : L2.Inv X pins σ H s) {v : V} {d : PyData} (h : Dz p H v d) : ∀ u, RelV v u → ∃ as, Reads s.heap u d as ∧ sysModules ∉ as := by
  induction h with
  | non => intro u r; cases r; exact ⟨_, .none, by simp⟩
  | bl b => intro u r; cases r; exact ⟨_, .bool b, by simp⟩
  | int i => intro u r; obtain ⟨t, rfl⟩ := r; exact ⟨_, .int i t, by simp⟩
  | str x => intro u r; obtain ⟨t, rfl⟩ := r; exact ⟨_, .str x t, by simp⟩
  | @lst a xs ds hs na _ hl hi ih =>
    intro u r
    cases r
    obtain ⟨its, rv, ⟨o, n, ho, hc, _, hd⟩, _⟩ := I.list (SqL.of hs)
    obtain ⟨as, q, m⟩ := readsAllM (h := s.heap) (us := its) (ds := ds) (rv.length.symm.trans hl) fun i u d e1 e2 => by
      obtain ⟨v, hv⟩ : ∃ v, xs[i]? = some v := ⟨_, List.getElem?_eq_getElem (by have := (List.getElem?_eq_some_iff.mp e1).1; rw [rv.length]; exact this)⟩
      obtain ⟨u', hu, ru⟩ := rv.get hv; rw [e1] at hu; cases hu
      exact ih i v d hv e2 u ru
    exact ⟨_, .list ho hc hd q, by rw [List.mem_cons]; exact fun z => z.elim (fun e => na e.symm) m⟩
  | @tup a xs ds hs hl hi ih =>
    intro u r
    cases r
    obtain ⟨its, rv, ⟨o, ho, hc, n, hd⟩, _⟩ := I.tuple (SqT.of hs)
    obtain ⟨as, q, m⟩ := readsAllM (h := s.heap) (us := its) (ds := ds) (rv.length.symm.trans hl) fun i u d e1 e2 => by
      obtain ⟨v, hv⟩ : ∃ v, xs[i]? = some v := ⟨_, List.getElem?_eq_getElem (by have := (List.getElem?_eq_some_iff.mp e1).1; rw [rv.length]; exact this)⟩
      obtain ⟨u', hu, ru⟩ := rv.get hv; rw [e1] at hu; cases hu
      exact ih i v d hv e2 u ru
    exact ⟨_, .tuple ho hc hd q, m⟩
  | @dct a ks ds hs hl hi ih =>
    intro u r
    cases r
    obtain ⟨_, na, vs, kv, o, es, ep, ho, hc, hd, _, hp, _⟩ := dk_of I.hok hs
    obtain ⟨q1, rv⟩ := pairs_keys (h := s.heap) hp kv
    obtain ⟨as, q, m⟩ := readsAllM (h := s.heap) (us := es.toList.map (·.val)) (ds := ds) (rv.length.symm.trans (by rw [List.length_map]; exact hl)) fun i u d e1 e2 => by
      obtain ⟨v, hv⟩ : ∃ v, (ks.map (·.2))[i]? = some v := ⟨_, List.getElem?_eq_getElem (by have := (List.getElem?_eq_some_iff.mp e1).1; rw [rv.length]; exact this)⟩
      obtain ⟨u', hu, ru⟩ := rv.get hv; rw [e1] at hu; cases hu
      exact ih i v d hv e2 u ru
    have l1 : (ks.map fun p => PyData.str p.1).length ≤ ds.length := by rw [List.length_map, hl]; exact Nat.le_refl _
    have l2 : ds.length ≤ (ks.map fun p => PyData.str p.1).length := by rw [List.length_map, hl]; exact Nat.le_refl _
    refine ⟨_, .dict (as := []) (bs := as) ho hc.1 hd (by rw [List.map_fst_zip l1]; exact q1) (by rw [List.map_snd_zip l2]; exact q), ?_⟩
    rw [List.mem_append, List.mem_singleton]
    exact fun z => z.elim (fun e => by rw [← e] at na; simp at na) m
end
section
variable {X : Cx}
/-- repr of such data -/
def rReprZ : List V → Hp → VK → Prop := fun xs H Q => ∃ v d p, xs = [v] ∧ Dz p H v d ∧ d.showable = true ∧ d.depth ≤ 60 ∧ d.shown.length ≤ sizeLine ∧ Q (.str d.shown) H
theorem call_reprZ (hgd : X.A.guards = some []) (hu : X.A.units + 64 < cLine) : CallR X (.builtin "repr") rReprZ := by
  intro pins s σ H xs us; intro Q I r h
  obtain ⟨v, d, p, rfl, hd, hs, hp, hz, q⟩ := h
  cases r with
  | cons r1 r2 =>
    cases r2
    rename_i u
    obtain ⟨as, hr, hm⟩ := hd.reads I u r1
    have fin : ∀ h' t tk, (∀ b o, s.heap.get? b = some o → h'.get? b = some o) → EP X pins σ Q (.str d.shown t) { s with heap := h', toks := tk } := fun h' t tk k => ⟨.str d.shown, H, I.kept k, ⟨_, rfl⟩, q⟩
    cases hr with
    | none => exact PySem.P.repr_of_none (fin _ _ _ fun _ _ z => z)
    | bool b => exact PySem.P.repr_of_bool (fin _ _ _ fun _ _ z => z)
    | int i t => exact PySem.P.repr_of_int (by simpa [PyData.showable] using hs) (fin _ _ _ fun _ _ z => z)
    | str x t => exact PySem.P.repr_of_str (fin _ _ _ fun _ _ z => z)
    | list h1 h2 h3 h4 => exact repr_of_reads' (.list h1 h2 h3 h4) hs (fun _ => hm) hgd (by omega) (fun _ _ z => z) (fun h' u tk k => fin h' u tk k) hz
    | tuple h1 h2 h3 h4 => exact repr_of_reads' (.tuple h1 h2 h3 h4) hs (fun _ => hm) hgd (by omega) (fun _ _ z => z) (fun h' u tk k => fin h' u tk k) hz
    | dict h1 h2 h3 h4 h5 => exact repr_of_reads' (.dict h1 h2 h3 h4 h5) hs (fun _ => hm) hgd (by omega) (fun _ _ z => z) (fun h' u tk k => fin h' u tk k) hz
end
end HX
set_option Elab.async false
set_option linter.all false
set_option maxRecDepth 100000
set_option maxHeartbeats 4400000
namespace HX
open L2 PyProof.Rows PySem.Spec PySem
theorem ok_app {a b : Str} (ha : PyData.strOk a = true) (hb : PyData.strOk b = true) : PyData.strOk (a ++ b) = true := by
  unfold PyData.strOk at *
  show (a.cps ++ b.cps).all _ = true
  rw [Array.all_append, ha, hb]; rfl
theorem ok_list {a : Str} (h : PyData.strOk a = true) : PyData.strOk (listText [a]) = true := by
  show PyData.strOk (((("[" : Str) ++ (("" : String) : Str)) ++ a) ++ "]") = true
  exact ok_app (ok_app (by decide +kernel) h) (by decide +kernel)
theorem ok_tup1 {a : Str} (h : PyData.strOk a = true) : PyData.strOk (tupleText [a]) = true := by
  show PyData.strOk ((("(" : Str) ++ a) ++ ((",)" : String) : Str)) = true
  exact ok_app (ok_app (by decide +kernel) h) (by decide +kernel)
theorem ok_tup2 {a b : Str} (h : PyData.strOk a = true) (k : PyData.strOk b = true) : PyData.strOk (tupleText [a, b]) = true := by
  show PyData.strOk ((("(" : Str) ++ (a ++ ", " ++ b)) ++ ((")" : String) : Str)) = true
  exact ok_app (ok_app (by decide +kernel) (ok_app (ok_app h (by decide +kernel)) k)) (by decide +kernel)
theorem ok_dict {a b : Str} (h : PyData.strOk a = true) (k : PyData.strOk b = true) : PyData.strOk (dictText [a ++ ": " ++ b]) = true := by
  show PyData.strOk ((("{" : Str) ++ (a ++ ": " ++ b)) ++ (("}" : String) : Str)) = true
  exact ok_app (ok_app (by decide +kernel) (ok_app (ok_app h (by decide +kernel)) k)) (by decide +kernel)
/-- data of a bounded text: n sheaths about small data -/
structure Bd (n : Nat) (d : PyData) : Prop where
  sh : d.showable = true
  dp : d.depth ≤ n + 4
  lv : d.leavesShort 24 = true
  wt : d.weight ≤ 60 * n + 400
  ok : PyData.strOk d.shown = true
theorem Bd.up {n m : Nat} {d : PyData} (h : Bd n d) (e : n ≤ m) : Bd m d := ⟨h.sh, by have := h.dp; omega, h.lv, by have := h.wt; omega, h.ok⟩
theorem Bd.l1 {n : Nat} {d : PyData} (h : Bd n d) : Bd (n + 1) (.list [d]) := by
  have a := h.dp; have b := h.wt
  refine ⟨by simp only [PyData.showable, PyData.showableAll, h.sh, Bool.and_self], ?_, by simp only [PyData.leavesShort, PyData.leavesShortAll, h.lv, Bool.and_self], ?_, ?_⟩
  · simp only [PyData.depth, PyData.depthAll]; omega
  · simp only [PyData.weight, PyData.weightAll]; omega
  · show PyData.strOk (listText [d.shown]) = true; exact ok_list h.ok
theorem Bd.t1 {n : Nat} {d : PyData} (h : Bd n d) : Bd (n + 1) (.tuple [d]) := by
  have a := h.dp; have b := h.wt
  refine ⟨by simp only [PyData.showable, PyData.showableAll, h.sh, Bool.and_self], ?_, by simp only [PyData.leavesShort, PyData.leavesShortAll, h.lv, Bool.and_self], ?_, ?_⟩
  · simp only [PyData.depth, PyData.depthAll]; omega
  · simp only [PyData.weight, PyData.weightAll]; omega
  · show PyData.strOk (tupleText [d.shown]) = true; exact ok_tup1 h.ok
/-- (d, 1) -/
theorem Bd.t2 {n : Nat} {d : PyData} (h : Bd n d) : Bd (n + 1) (.tuple [d, .int 1]) := by
  have a := h.dp; have b := h.wt
  have s1 : (PyData.int 1).showable = true := by decide +kernel
  have l1 : (PyData.int 1).leavesShort 24 = true := by decide +kernel
  have d1 : (PyData.int 1).depth = 0 := by decide +kernel
  have w1 : (PyData.int 1).weight = 1 := by decide +kernel
  refine ⟨by simp only [PyData.showable, PyData.showableAll, h.sh, Bool.true_and]; exact (Bool.and_true _).trans s1, ?_, by simp only [PyData.leavesShortAll, h.lv, l1, PyData.leavesShort, Bool.true_and]; first | rfl | exact (Bool.and_true _).trans l1, ?_, ?_⟩
  · simp only [PyData.depth, PyData.depthAll]; omega
  · have e : (PyData.tuple [d, .int 1]).weight = d.weight + 1 + ((PyData.int 1).weight + 1 + 0) := by simp only [PyData.weight, PyData.weightAll]
    omega
  · show PyData.strOk (tupleText [d.shown, (PyData.int 1).shown]) = true; exact ok_tup2 h.ok (by decide +kernel)
/-- {k: d}, k a short text -/
theorem Bd.d1 {n : Nat} {d : PyData} {k : Str} (h : Bd n d) (hk : k.cps.size ≤ 20) (hok : PyData.strOk (PyData.str k).shown = true) (hc : (k.cps.toList.all fun c => decide (c < 16 ^ 8)) = true) : Bd (n + 1) (.dict [(.str k, d)]) := by
  have a := h.dp; have b := h.wt
  refine ⟨by simp only [PyData.showable, PyData.showableKv, h.sh, Bool.and_self], ?_, by simp only [PyData.leavesShort, PyData.leavesShortKv, h.lv, hc, Bool.and_self], ?_, ?_⟩
  · simp only [PyData.depth, PyData.depthKv]; omega
  · simp only [PyData.weight, PyData.weightKv]; omega
  · show PyData.strOk (dictText [((PyData.str k).shown ++ ": " ++ d.shown)]) = true; exact ok_dict hok h.ok
theorem Bd.len {n : Nat} {d : PyData} (h : Bd n d) (hn : n ≤ 50) : d.shown.length ≤ sizeLine := by
  have q := PyData.shown_le 24 (by decide) d h.lv
  have b := h.wt
  have e := sizeLine_eq
  have m : (24 + 2) * d.weight ≤ 26 * 3400 := Nat.mul_le_mul_left _ (by omega)
  omega
/-- small data at once -/
theorem Bd.of {d : PyData} (h : (d.showable && decide (d.depth ≤ 4) && d.leavesShort 24 && decide (d.weight ≤ 400) && PyData.strOk d.shown) = true) : Bd 0 d := by
  simp only [Bool.and_eq_true, decide_eq_true_eq] at h
  exact ⟨h.1.1.1.1, by have := h.1.1.1.2; omega, h.1.1.2, by have := h.1.2; omega, h.2⟩
example : Bd 0 (.int (10 ^ 17)) := .of (by decide +kernel)
example : Bd 0 (.tuple [.tuple [], .list [.none]]) := .of (by decide +kernel)
end HX
set_option Elab.async false
set_option linter.all false
set_option maxRecDepth 100000
set_option maxHeartbeats 4400000
namespace HX
open L2 PyProof.Rows PySem.Spec PySem
/-- an exception that was caught, tracked as a value: its class at C, its dict at d -/
def ErrV (C : Addr) (d : Option Addr) (a : Addr) : HO := .ext fun h => ∃ (oe : Obj) (vs : Array Value), h.get? a = some oe ∧ Zc (.ref C) d oe ∧ oe.data = .fields vs
theorem errV_ok {P : Program} {w : World} {H : Hp} {h : Heap} {a C : Addr} {d : Option Addr} {oe : Obj} {vs : Array Value} (e : h.get? a = some oe) (z : Zc (.ref C) d oe) (q : oe.data = .fields vs) : ObjOk P w H h a (ErrV C d a) :=
  ⟨⟨oe, vs, e, z, q⟩, ⟨oe, e⟩, fun _ _ ⟨o, v, x, y⟩ k => ⟨o, v, k o x, y⟩⟩
theorem errV_at {P : Program} {w : World} {H : Hp} {h : Heap} {a C : Addr} {d : Option Addr} (k : HOk P w H h) (e : H a = some (ErrV C d a)) : ∃ (oe : Obj) (vs : Array Value), h.get? a = some oe ∧ Zc (.ref C) d oe ∧ oe.data = .fields vs :=
  let ⟨z, _⟩ := k a _ e; z
section
variable {X : Cx} {pins : List (Addr × Obj)} {σ : L2.St} {H : Hp} {s : Shared} {a : Addr} {oe : Obj} {vs : Array Value} {C : Addr} {d : Option Addr}
/-- at the suite's end: the exception, held by a pin so far, is tracked from now on -/
theorem keepErr (I : L2.Inv X ((a, oe) :: pins) σ H s) (n0 : X.s_0.heap.get? a = none) (np : ∀ p ∈ X.pn ++ pins, p.1 ≠ a) (z : Zc (.ref C) d oe) (q : oe.data = .fields vs) : L2.Inv X pins σ (upd H a (ErrV C d a)) s := by
  obtain ⟨ga, na, nL, _, nc⟩ := I.pin (a, oe) (List.mem_append_right _ List.mem_cons_self)
  have off : ∀ {b : Addr} {o : HO}, H b = some o → b ≠ a := fun e => ne_of_none e na
  have b0 : ∀ {b : Addr} {o : Obj}, X.s_0.heap.get? b = some o → b ≠ a := fun e y => by rw [y, n0] at e; cases e
  have hk : HOk X.prog X.w (upd H a (ErrV C d a)) s.heap := HOk.laidN I.hok (fun _ _ e => e) na (errV_ok ga z q)
  refine { ok := I.ok, os := I.os, bare := I.bare, base := ?_, loc := I.loc, cell := I.cell, free := ?_, freeC := fun x c e => ?_, pin := fun p hp => ?_, hok := hk, len := I.len }
  · exact { keep := I.base.keep, slot := I.base.slot, free := fun b o e n x => by rw [upd_ne (b0 e)]; exact I.base.free b o e n x, there := I.base.there,
            tups := fun b xs e => by have y := I.base.tups b xs e; rw [upd_ne (off y)]; exact y,
            frzs := fun b o u e => by have y := I.base.frzs b o u e; rw [upd_ne (off y)]; exact y,
            tbls := fun b ps e => by obtain ⟨m, y⟩ := I.base.tbls b ps e; exact ⟨m, by rw [upd_ne (off y)]; exact y⟩ }
  · rw [upd_ne (Ne.symm nL)]; exact I.free
  · have nca : c ≠ a := fun y => by
      obtain ⟨v, o, ho, hd⟩ := I.cell x c e
      rw [y, ga] at ho
      cases ho
      exact nc v hd
    rw [upd_ne nca]; exact I.freeC x c e
  · have y := I.pin p (by
      rcases List.mem_append.mp hp with h | h
      · exact List.mem_append_left _ h
      · exact List.mem_append_right _ (List.mem_cons_of_mem _ h))
    exact ⟨y.1, by rw [upd_ne (np p hp)]; exact y.2.1, y.2.2⟩
/-- what stands there, as the library's rules of instances ask it -/
theorem errV_inst (I : L2.Inv X pins σ H s) (e : H a = some (ErrV C none a)) : PySem.W.InstAt s.heap a ((s.heap.get? a).getD default) C none := by
  obtain ⟨oe, vs, g, z, q⟩ := errV_at I.hok e
  rw [g]
  exact ⟨g, z.1, by unfold PySem.W.notCls; rw [Option.getD_some, q] <;> rfl, by rw [Option.getD_some, z.2]; trivial⟩
end
section
variable {X : Cx} {C : Addr} {e : Expr} {te : TE} {pos : Pos} {n : Str} {pins : List (Addr × Obj)} {σ : L2.St} {H : Hp} {s : Shared}
/-- e.n of a tracked exception -/
def tErrF (C : Addr) (n : Str) (te : TE) : TE := fun σ H Q => te σ H fun x H1 => ∃ (a dd : Addr) (fs : List (Str × V)) (v : V), x = .ref a ∧ H1 a = some (ErrV C (some dd) a) ∧ H1 dd = some (.xd fs) ∧ fs.lookup n = some v ∧ Q v H1
theorem pe_errF (T : XfC X.K C) (hno : PySem.W.findIn X.K (.ref C) n = some none) (he : PE X e te) (hb : attributeBase e n X.env (eval e X.env) = eval e X.env := by rfl) : PE X (.Attribute e n pos) (tErrF C n te) := by
  refine ⟨fun pp t τ G R J w => attr_of hb (thn (he.run pp t τ G _ J w) fun u t1 ⟨x, G1, J1, rx, a, dd, fs, v, ex, ea, ed, l, q⟩ => ?_)⟩
  subst ex
  have eu : u = Value.ref a := rx; subst eu
  obtain ⟨oe, vs, g, z, hd⟩ := errV_at J1.hok ea
  obtain ⟨mA, hns, hr⟩ : ObjOk X.prog X.w G1 t1.heap dd (.xd fs) := J1.hok dd _ ed
  obtain ⟨od, ho, hl⟩ := lookIn_ns hns
  obtain ⟨u, hu, ru⟩ := RelO.some_of (v := v) (o := mA n) (by rw [← l]; exact hr n)
  have W : PySem.W.InstAt t1.heap a oe C (some od) := ⟨g, z.1, by unfold PySem.W.notCls; rw [hd] <;> rfl, by rw [z.2]; exact ho⟩
  exact HandSPX.exc_get J1.kIn W T.ga T.gg T.exC (PySem.W.findObj_own T.hdC hno rfl (by rw [hl, hu])) (handed_of ru) ⟨v, G1, J1.tok _, ru, q⟩
/-- what the class says so that isinstance asks its errors rightly -/
structure ErrC (K : PySem.W.Frag) (C : Addr) : Prop where
  cl : (PySem.W.clsIn K C).isSome = true
  ga : PySem.W.findIn K (.ref C) "__getattribute__" = some (some (.builtin "BaseException.__getattribute__"))
  gt : PySem.W.findIn K (.ref C) "__getattr__" = some none
  be : PySem.W.subIn K (.ref C) (.type "BaseException") = some true
  kc : PySem.W.findIn K (.ref C) "__class__" = some (some (.builtin "object.__class__"))
  kg : PySem.W.specialIn K (.builtin "object.__class__") "__get__" = some (some (.builtin "getset_descriptor.__get__"))
  kt : PySem.W.takesIn K (.builtin "object.__class__") = some true
  ob : PySem.W.mroIn K C (.type "object") = some true
theorem errV_some (J : L2.Inv X pins σ H s) {a dd : Addr} {fs : List (Str × V)} (ea : H a = some (ErrV C (some dd) a)) (ed : H dd = some (.xd fs)) : ∃ oe od, PySem.W.InstAt s.heap a oe C (some od) := by
  obtain ⟨oe, vs, g, z, hd⟩ := errV_at J.hok ea
  obtain ⟨mA, hns, _⟩ : ObjOk X.prog X.w H s.heap dd (.xd fs) := J.hok dd _ ed
  obtain ⟨od, ho, _⟩ := lookIn_ns hns
  exact ⟨oe, od, g, z.1, by unfold PySem.W.notCls; rw [hd] <;> rfl, by rw [z.2]; exact ho⟩
/-- isinstance of a tracked error -/
def rIsErr (K : PySem.W.Frag) : List V → Hp → VK → Prop := fun xs H Q => ∃ (a C dd : Addr) (fs : List (Str × V)) (c : V) (cv : Value) (b : Bool), xs = [.ref a, c] ∧ H a = some (ErrV C (some dd) a) ∧ H dd = some (.xd fs) ∧ ErrC K C ∧ (∀ u, RelV c u → u = cv) ∧ PySem.W.kitOne K (.ref C) cv = some b ∧ Q (.bl b) H
theorem call_isErr : CallR X (.builtin "isinstance") (rIsErr X.K) := by
  intro pp t τ G xs us; intro Q J r h
  obtain ⟨a, C, dd, fs, c, cv, b, rfl, ea, ed, T, hcv, e, q⟩ := h
  cases r with
  | cons rx rr =>
    cases rr with
    | cons rt rr =>
      cases rr; cases rx
      have ec := hcv _ rt; subst ec
      obtain ⟨oe, od, W⟩ := errV_some J ea ed
      exact PySem.W.kia_one (PySem.W.kitx_exc T.cl T.ga T.gt T.be T.kc T.kg T.kt T.ob) J.kIn W e (fun z => nomatch z) fun tk => ⟨.bl b, G, J.kept (t' := tk) fun _ _ z => z, rfl, q⟩
end
end HX
set_option Elab.async false
set_option linter.all false
set_option maxRecDepth 100000
set_option maxHeartbeats 4400000
namespace HX
open L2 PyProof.Rows PySem.Spec PySem
/-- as wAs, but behind the suite the caught error is a tracked value -/
def wKp (K : PySem.W.Frag) (c : Value) (i : Nat) (ts : Addr → Value → Option Addr → TS) (Wout : WX) (D : Ends) : WX := fun cls d σ H => ∃ b, PySem.W.exmOne K cls c = some b ∧ (b = false → Wout cls d σ H) ∧
  (b = true → ∃ C, cls = .ref C ∧ ∀ a, H a = none → ts a cls d { D with nx := fun σ' H' => D.nx (σ'.set i none) (upd H' a (ErrV C d a)), bk := fun σ' H' => D.bk (σ'.set i none) H', ct := fun σ' H' => D.ct (σ'.set i none) H' } (σ.set i (some (.ref a))) H)
section
variable {X : Cx} {x n : Str} {c : Value} {i : Nat} {b₀ : Stmt} {body suite : List Stmt} {np pos pos' : Pos} {tb : WX → TS} {ts : Addr → Value → Option Addr → TS} {Wout : WX}
theorem ps_try_keep (hs : X.stack = X.env :: X.outer) (hf : X.env.frame = some X.env.locals) (hN : X.N.Nodup) (hi : X.N[i]? = some n) (hln : X.env.kindOf n = some .local) (hc : Names X x c) (tk : Takes X Wout) (hex : X.ex = [])
    (hb : ∀ (W : WX) (pn : List (Addr × Obj)) (xe : Value → Shared → Prop), Takes (X.tr pn xe) W → PassesOwn (model X.prog X.w) X.A X.env xe → PSs (X.tr pn xe) body (tb W))
    (hsu : ∀ (a : Addr) (oe : Obj) (cls : Value) (d : Option Addr) (pn : List (Addr × Obj)), Zc cls d oe → (∃ vs, oe.data = .fields vs) → PSs (X.suite a ((a, oe) :: pn)) (b₀ :: suite) (ts a cls d)) :
    PS X (.Try body [.ExceptHandler (some (.Name x np)) (some n) (b₀ :: suite) pos'] [] [] pos) (fun D σ H => tb (wKp X.K c i ts Wout D) D σ H) := by
  refine ⟨fun pp t0 τ G D J0 w0 => ?_⟩
  have ok := J0.ok
  have fr : X.A.frames = some (X.env :: X.outer) := by rw [ok.frames, hs]
  let land : Value → Shared → Prop := fun e t => wpAny (model X.prog X.w) X.A (noteFrame e X.env) (fun _ t => wpAny (model X.prog X.w) X.A (setFlight e none) (fun _ t => wpAny (model X.prog X.w) X.A (handleBy e X.env [.ExceptHandler (some (.Name x np)) (some n) (b₀ :: suite) pos']) (SP X pp D) X.xe t) X.xe t) X.xe t
  have caught : Takes (X.tr (X.pn ++ pp) land) (wKp X.K c i ts Wout D) := by
    rintro u t ⟨a, B, tI, _, τ1, G1, cls, d, rfl, J1', nb, up, sky, na, os, ag, b, hb1, hno, hyes⟩
    have J1 : L2.Inv X pp τ1 G1 tI := J1'.ofTry ok
    have sky1 : Sky B (X.env :: X.outer) a (Zc cls d) X.env.locals t.heap := by rw [← hs]; exact sky
    refine Sky.land Zc.steady fr hf sky1 fun h3 fl3 up3 => ?_
    have J3 : L2.Inv X pp τ1 G1 { t with heap := h3 } := J1.landed nb fl3.1 (up.trans up3) os ag
    obtain ⟨oe3, vs3, he3, hz3, hd3⟩ := fl3.there
    have noF : a ∉ frs (X.env :: X.outer) := fun hm => by
      obtain ⟨_, o1, e1, z⟩ := fl3.2.2.1.mem hm
      rw [he3] at e1; cases e1; exact z _ hd3
    have nL : a ≠ X.env.locals := fun z => noF (List.mem_filterMap.mpr ⟨X.env, List.mem_cons_self, by rw [hf, z]⟩)
    have nO : a ∉ X.fs := fun hm => let ⟨e, he, q⟩ := List.mem_filterMap.mp hm; noF (List.mem_filterMap.mpr ⟨e, List.mem_cons_of_mem _ he, q⟩)
    have nB : B.get? a = none := fl3.2.1
    have nI : ∀ o, tI.heap.get? a ≠ some o := fun o e => by
      have z := nb a o e (by rw [hs]; exact noF)
      rw [nB] at z; cases z
    have n0 : X.s_0.heap.get? a = none := by
      cases e : X.s_0.heap.get? a with
      | none => rfl
      | some o => obtain ⟨o1, z⟩ := J1.base.there a o e (by rw [hex]; exact List.not_mem_nil); exact absurd z (nI o1)
    have noPin : ∀ p ∈ X.pn ++ pp, p.1 ≠ a := fun p hp z => nI p.2 (by rw [← z]; exact (J1.pin p hp).1)
    have S3 := J3.suite he3 hd3 na nL nO
    refine wpAny_handleBy_cons (codeAny_handlers_test ?_) (by intro q; cases q)
    have ty : PySem.W.Looks (model X.prog X.w) h3 (typeOf (.ref a)) cls := fun A Q E s k q => wpAny_typeOf_ref (k _ _ he3) (by rw [hz3.1]; exact q)
    have ans := PySem.W.exm_one (M := model X.prog X.w) J3.kIn ty hb1
    have named : ∀ {Q E : Value → Shared → Prop}, Q c { t with heap := h3 } → wpAny (model X.prog X.w) (X.A.mark (some (.ref a))) (eval (.Name x np) X.env) Q E { t with heap := h3 } := fun {Q E} q => by
      obtain ⟨hg, nd, hm | ⟨hm, hv, nn⟩⟩ := hc
      · exact ld_glob (X := X.suite a ((a, oe3) :: (X.pn ++ pp))) S3 hg hm q nd
      · exact ld_blt (X := X.suite a ((a, oe3) :: (X.pn ++ pp))) S3 hg hm hv q nn nd
    refine named (ans.here ?_)
    cases b with
    | false =>
      show wpAny _ X.A (handleBy (.ref a) X.env []) _ _ _
      refine wpAny_handleBy_nil ?_
      have on : wpAny (model X.prog X.w) X.A (setFlight (.ref a) X.env.frame) (fun _ t4 => wpAny (model X.prog X.w) X.A (throw (.ref a) : Sem Flow) (SP X pp D) X.xe t4) X.xe { t with heap := h3 } := by
        rw [hf]
        exact HandSPX.setFlight_upZ fl3 fun h4 held up4 => wpAny_throw (tk _ _ ⟨a, B, tI, pp, τ1, G1, cls, d, rfl, J1, nb, (up.trans up3).trans up4, .inr (.inr (by rw [hs]; exact held)), na, os, ag, hno rfl⟩)
      obtain ⟨_, _, _, oe, vs, T, _, _, he, _, hd, h1, _⟩ := id fl3
      unfold PySem.passOn
      refine wpAny_bind (wpAny_field he hd h1 ?_)
      rw [if_neg (show ¬ ((Value.ref T == Value.none) = true) from by simp)]
      first | exact wpAny_bind (wpAny_pure (wpAny_bind on)) | exact wpAny_bind on
    | true =>
      obtain ⟨C, ec, yes⟩ := hyes rfl
      subst ec
      refine codeAny_handlers_suite_as (HandSPX.lands_againZ fl3 fun h4 fl4 up4 => ?_)
      have J4 : L2.Inv X pp τ1 G1 { t with heap := h4 } := J1.landed nb fl4.1 ((up.trans up3).trans up4) os ag
      obtain ⟨oe4, vs4, he4, hz4, hd4⟩ := fl4.there
      refine store_ok (X := X.suite a ((a, oe4) :: (X.pn ++ pp))) (v := .ref a) (J4.suite he4 hd4 na nL nO) hN hi (.inl hln) rfl (fun t5 S5 => ?_) (.inr hln)
      refine wpAny_mono ((hsu a oe4 (.ref C) d (X.pn ++ pp) hz4 ⟨_, hd4⟩).run [] t5 _ G1 _ S5 (yes a na)) (fun f t6 r => ?_) (fun _ _ z => False.elim z)
      have plain : ∀ {τ6 : L2.St} {G6 : Hp} {Q : Shared → Prop}, L2.Inv (X.suite a ((a, oe4) :: (X.pn ++ pp))) [] τ6 G6 t6 → (∀ t7, L2.Inv X pp (τ6.set i none) G6 t7 → Q t7) →
          wpAny (model X.prog X.w) X.A (do bindName X.env n .none; unbindBehindTheSuite X.env n pos') (fun _ t7 => Q t7) X.xe t6 := fun S6 k => gone_ok (S6.unsuite ok) hN hi hln k
      match f, r with
      | .next, ⟨τ6, G6, S6, q6⟩ =>
        have U : L2.Inv X ((a, oe4) :: pp) τ6 G6 t6 := { ok := ok, os := S6.os, bare := S6.bare, base := S6.base, loc := S6.loc, cell := S6.cell, free := S6.free, freeC := S6.freeC, hok := S6.hok, len := S6.len, pin := fun p hp => S6.pin p (by
          rcases List.mem_append.mp hp with h | h
          · exact List.mem_append_left _ (List.mem_cons_of_mem _ (List.mem_append_left _ h))
          · rcases List.mem_cons.mp h with h | h
            · rw [h]; exact List.mem_append_left _ List.mem_cons_self
            · exact List.mem_append_left _ (List.mem_cons_of_mem _ (List.mem_append_right _ h))) }
        exact gone_ok U hN hi hln fun t7 J7 => ⟨_, _, keepErr J7 n0 noPin hz4 hd4, q6⟩
      | .brk, ⟨τ6, G6, S6, q6⟩ => exact plain S6 fun t7 J7 => ⟨_, _, J7, q6⟩
      | .cont, ⟨τ6, G6, S6, q6⟩ => exact plain S6 fun t7 J7 => ⟨_, _, J7, q6⟩
      | .ret u, ⟨v6, τ6, G6, S6, r6, q6⟩ => exact plain S6 fun t7 J7 => ⟨_, _, _, J7, r6, q6⟩
  refine wpAny_Try_except (wpAny_mono ((hb _ (X.pn ++ pp) land caught PassesOwn.looking).run [] t0 τ G D (J0.toTry _) w0) (fun f t1 r => ?_) (fun e t1 z => z))
  match f, r with
  | .next, ⟨τ1, G1, J1, q⟩ => exact wpAny_execs_nil ⟨τ1, G1, J1.ofTry ok, q⟩
  | .brk, ⟨τ1, G1, J1, q⟩ => exact ⟨τ1, G1, J1.ofTry ok, q⟩
  | .cont, ⟨τ1, G1, J1, q⟩ => exact ⟨τ1, G1, J1.ofTry ok, q⟩
  | .ret u, ⟨v, τ1, G1, J1, rv, q⟩ => exact ⟨v, τ1, G1, J1.ofTry ok, rv, q⟩
end
end HX
set_option Elab.async false
set_option linter.all false
set_option maxRecDepth 100000
set_option maxHeartbeats 4400000
namespace HX
open L2 PyProof.Rows PySem.Spec PySem
section
variable {X : Cx} {e : Expr} {es : List Expr} {ta : TA} {p pos : Pos} {x n : Str} {CX : CXT} {C fI : Addr} {k : Nat} {fd : FuncData} {ps : List Str} {sp : Sp} {te : TE} {pins : List (Addr × Obj)} {σ : L2.St} {H : Hp} {s : Shared}
/-- C(e, ..) of an own error with an own __init__, as a value -/
def tMkV (C : Addr) (sp : Sp) (t : TA) : TE := fun σ H Q => t σ H fun vs H1 => vs.length ≤ 1000 ∧ ∀ a, H1 a = none → sp (.ref a :: vs) (upd H1 a (exo a C none)) (fun v H2 => v = .non ∧ Q (.ref a) H2) (fun _ _ _ => False)
theorem pe_mkV (T : OexC X.K C) (iC : PySem.W.findIn X.K (.ref C) "__init__" = some (some (.ref fI))) (tI : PySem.W.typeIn X.K (.ref fI) = some (.type "function")) (F1 : FnOk X.prog X.w X.K X.mg X.base CX k fI fd ps sp) (hr : Room (k + 1) X.A) (hb : Binds X.K fd ps [])
    (hx : Passes CX X (fun _ _ _ => False)) (hg : Gl X x) (hm : X.mg x = some (.ref C)) (ha : PA X (e :: es) ta) (nd : (x == ("__debug__" : Str)) = false := by decide)
    (hst : starEach (e :: es) X.env = (false, eval e X.env) :: starEach es X.env := by rfl) (hpl : (backTo pos (starEach es X.env)).any (·.1) = false := by rfl) : PE X (.Call (.Name x p) (e :: es) [] pos) (tMkV C sp ta) := by
  refine ⟨fun pp t0 τ G R J w => wpAny_Call_Name_kw (ld_glob J hg hm ?_ nd)⟩
  obtain ⟨nm, q, N, bs, bm, sn, sub, ab, col, dd, k0, k1, k2, k3, k5, hC, hbm⟩ := T.cls
  refine PySem.W.callWith_K (h₀ := X.base) J.ok.mod.kin T.kC (thn (ha.run pos pp t0 τ G _ J w) fun us t1 ⟨vs, G1, J1, r1, few, q1⟩ => ⟨J1.kIn, ?_⟩) hst hpl
  show wpAny _ _ (call (.ref C) us) _ _ _
  obtain ⟨hp, g, dr, tk, os⟩ := t1
  let a := hp.objs.size + 1
  let h2 : Heap := (hp.push (PySem.W.kdv_tup us)).push (PySem.HandSPX.excO C hp.objs.size)
  have na : G1 a = none := J1.hok.fresh (Nat.le_succ _)
  have want := q1 a na
  have got : h2.get? a = some (PySem.HandSPX.excO C hp.objs.size) := by show ((hp.push (PySem.W.kdv_tup us)).push (PySem.HandSPX.excO C hp.objs.size)).get? (hp.objs.size + 1) = _; heap_get
  have J2 : L2.Inv X pp τ (upd G1 a (exo a C none)) ⟨h2, g, dr, tk, os⟩ := J1.laid (t' := tk) (a := a) (o := exo a C none) (h' := h2) (fun b o y => Heap.get?_push_of_some _ (Heap.get?_push_of_some _ y)) (Nat.le_succ _) (exo_ok got)
  have r2 : Vals (V.ref a :: vs) (Value.ref a :: us) := .cons rfl r1
  have nps : (Value.ref a :: us ++ []).length = ps.length := by rw [List.append_nil, ← r2.length]; exact F1.len _ _ _ _ want
  have nus : us.length ≤ sizeLine := by rw [← Paired.length r1, sizeLine_eq]; omega
  have bound := hb _ (Value.ref a :: us) J2.kIn nps; rw [List.append_nil] at bound
  refine wpAny_call (PySem.HandSPX.call_own F.excBase_ValueError (fun Y => PySem.HandSPX.refsVE_contains Y bm hbm) (J1.kIn _ _ hC) (PySem.W.looks_findIn J1.kIn iC) (fun self => PySem.W.bind_fn J1.kIn self tI) nus
    (codeAny_mono (F1.run _ X.stack _ _ ⟨Value.ref a :: us, []⟩ (Value.ref a :: us) _ _ (fun _ _ _ => False) (hr.make C us []) (J2.env0.make C us []) bound r2 want) fun z t2 w2 => ?_))
  match z, w2 with
  | .ok (.ret u), w2 =>
    obtain ⟨v, G2, J3, rv, ev, q2⟩ := J2.after w2
    subst ev
    exact ⟨rv, .ref a, G2, J3, rfl, q2⟩
  | .ok .next, w2 | .ok .brk, w2 | .ok .cont, w2 => exact False.elim w2
  | .error er, w2 => exact hx pp τ _ _ er t2 J2 w2
/-- an error of the class at C with these fields: one that was made, or one that was caught -/
def ErrIs (H : Hp) (C a : Addr) (fs : List (Str × V)) : Prop := ∃ dd, (H a = some (ErrV C (some dd) a) ∧ H dd = some (.xd fs)) ∨ (H a = some (exo a C (some dd)) ∧ H dd = some (exd dd fs))
theorem errIs_inst {a : Addr} {fs : List (Str × V)} (J : L2.Inv X pins σ H s) (h : ErrIs H C a fs) : ∃ (oe od : Obj) (mA : Str → Option Value), PySem.W.InstAt s.heap a oe C (some od) ∧ (∀ f, PySem.W.lookIn f od = some (mA f)) ∧ ∀ f, RelO (fs.lookup f) (mA f) := by
  obtain ⟨dd, ⟨ea, ed⟩ | ⟨ea, ed⟩⟩ := h
  · obtain ⟨oe, vs, g, z, hd⟩ := errV_at J.hok ea
    obtain ⟨mA, hns, hr⟩ : ObjOk X.prog X.w H s.heap dd (.xd fs) := J.hok dd _ ed
    obtain ⟨od, ho, hl⟩ := lookIn_ns hns
    exact ⟨oe, od, mA, ⟨g, z.1, by unfold PySem.W.notCls; rw [hd] <;> rfl, by rw [z.2]; exact ho⟩, hl, hr⟩
  · obtain ⟨t0, g⟩ := exo_at J.hok ea
    obtain ⟨mA, hns, hr⟩ := exd_at J.hok ed
    obtain ⟨od, ho, hl⟩ := lookIn_ns hns
    exact ⟨_, od, mA, ⟨g, rfl, by unfold PySem.W.notCls; rfl, ho⟩, hl, hr⟩
/-- e.n of such an error -/
def tErrN (C : Addr) (n : Str) (te : TE) : TE := fun σ H Q => te σ H fun x H1 => ∃ (a : Addr) (fs : List (Str × V)) (v : V), x = .ref a ∧ ErrIs H1 C a fs ∧ fs.lookup n = some v ∧ Q v H1
theorem pe_errN (T : XfC X.K C) (hno : PySem.W.findIn X.K (.ref C) n = some none) (he : PE X e te) (hb : attributeBase e n X.env (eval e X.env) = eval e X.env := by rfl) : PE X (.Attribute e n pos) (tErrN C n te) := by
  refine ⟨fun pp t τ G R J w => attr_of hb (thn (he.run pp t τ G _ J w) fun u t1 ⟨x, G1, J1, rx, a, fs, v, ex, ea, l, q⟩ => ?_)⟩
  subst ex
  have eu : u = Value.ref a := rx; subst eu
  obtain ⟨oe, od, mA, W, hl, hr⟩ := errIs_inst J1 ea
  obtain ⟨u, hu, ru⟩ := RelO.some_of (v := v) (o := mA n) (by rw [← l]; exact hr n)
  exact HandSPX.exc_get J1.kIn W T.ga T.gg T.exC (PySem.W.findObj_own T.hdC hno rfl (by rw [hl, hu])) (handed_of ru) ⟨v, G1, J1.tok _, ru, q⟩
/-- isinstance of such an error -/
def rIsN (K : PySem.W.Frag) : List V → Hp → VK → Prop := fun xs H Q => ∃ (a C : Addr) (fs : List (Str × V)) (c : V) (cv : Value) (b : Bool), xs = [.ref a, c] ∧ ErrIs H C a fs ∧ ErrC K C ∧ (∀ u, RelV c u → u = cv) ∧ PySem.W.kitOne K (.ref C) cv = some b ∧ Q (.bl b) H
theorem call_isN : CallR X (.builtin "isinstance") (rIsN X.K) := by
  intro pp t τ G xs us; intro Q J r h
  obtain ⟨a, C, fs, c, cv, b, rfl, ea, T, hcv, e, q⟩ := h
  cases r with
  | cons rx rr =>
    cases rr with
    | cons rt rr =>
      cases rr; cases rx
      have ec := hcv _ rt; subst ec
      obtain ⟨oe, od, _, W, _⟩ := errIs_inst J ea
      exact PySem.W.kia_one (PySem.W.kitx_exc T.cl T.ga T.gt T.be T.kc T.kg T.kt T.ob) J.kIn W e (fun z => nomatch z) fun tk => ⟨.bl b, G, J.kept (t' := tk) fun _ _ z => z, rfl, q⟩
end
end HX
set_option Elab.async false
set_option linter.all false
set_option maxRecDepth 100000
set_option maxHeartbeats 4400000
namespace PySem.HXk
open PySem PySem.HandSPX Builtin Builtin.ObjectAttr
/-- at C stands the class of an own error that hangs on ValueError; bm: what its mro has behind it -/
def Own (hp : Heap) (C : Addr) (bm : List Value) : Prop := ∃ nm q N bs sn sub ab col dd k0 k1 k2 k3 k5, hp.get? C = some (excClassObj nm q C N bs bm true sn sub ab col dd k0 k1 k2 k3 k5 "ValueError.__new__") ∧ refsVE bm = true
/-- C(k = v, ..) of such a class with an own __init__: the object is made without the keywords, which go to __init__ -/
theorem made_by_keyword {pr : Program} {wd : World} {Ar : Around} {Rs : Result → Shared → Prop} {hp : Heap} {gs : Array GenState} {dr : Drawn} {tk : Nat} {os : OsState} {C fI : Addr} {bm : List Value} {ks : List (Str × Value)}
    (cl : Own hp C bm) (ini : W.Looks (model pr wd) hp (typeLookup (.ref C) "__init__") (some (.ref fI))) (bnd : ∀ self, W.Looks (model pr wd) hp (bindSpecial (.ref fI) self) (.ref fI, [self]))
    (go : codeAny (model pr wd) (Ar.under (.builtin "type.__call__" ⟨[.ref C], ks⟩)) (.call (.ref fI) ⟨[.ref (hp.objs.size + 1)], ks⟩) (W.InitBack (hp.objs.size + 1) Rs) ⟨(hp.push (W.kdv_tup [])).push (excO C hp.objs.size), gs, dr, tk, os⟩) :
    codeAny (model pr wd) Ar (.call (.ref C) ⟨[], ks⟩) Rs ⟨hp, gs, dr, tk, os⟩ := by
  obtain ⟨nm, q, N, bs, sn, sub, ab, col, dd, k0, k1, k2, k3, k5, at_, rv⟩ := cl
  have Z := F.excBase_ValueError
  have has : ∀ Y : String, (Value.ref C :: bm).contains (.type Y) = veTail.contains (.type Y) := fun Y => by rw [List.contains_cons, refsVE_contains Y bm rv]; rfl
  have ty : W.Looks (model pr wd) hp (typeOf (.ref C)) (.type "type") := fun _ _ _ _ kp qq => wpAny_typeOf_ref (kp _ _ at_) qq
  have lk := tc_lookup
  have bd := tc_bind (.ref C)
  have tyIs : (⟨hp, gs, dr, tk, os⟩ : Shared).TypeIs (.ref C) "type" := ⟨_, at_, rfl⟩
  -- the call's own check, then its body
  have core : wpAny (model pr wd) (Ar.under (.builtin "type.__call__" ⟨[.ref C], ks⟩)) (Builtin.«type.__call__» ⟨[.ref C], ks⟩) (fun z s' => match z with | .done r => Rs (.ok r) s' | .again c => c.quiet = true ∧ codeAny (model pr wd) Ar c Rs s') (fun e s' => Rs (.error e) s') ⟨hp, gs, dr, tk, os⟩ := by
    repeat (first | with_reducible refine wpAny_loadPart_at at_ ?_ | with_reducible refine wpAny_madeBy_exc at_ ?_ | wp_step)
    refine codeAny_call_builtin_code (Code.quiet_builtin _ Z.quiet) ?_
    have star := Z.noStar
    simp only [checkBuiltinCall, Z.newKind, Z.newSplit, Z.newRow]
    repeat (first | refine wpAny_loadPart_at at_ ?_ | (refine wpAny_isSubtype_exc at_ ?_; rw [has]) | refine wpAny_staticBase_exc at_ ?_ | refine wpAny_madeBy_exc at_ ?_ | simp only [bne_self_eq_false, Bool.false_eq_true, if_false] | wp_step)
    have ends := Z.ends
    refine codeAny_builtinAt Z.entry (wpAt_bind ?_)
    (show wpAt _ _ _ (stack >>= _) _ _ _); refine wpAt_bind (wpAt_stack fun _ _ => wpAt_of_wpAny ?_)
    wp_walk
    refine wpAt_of_wpAny ?_
    rw [Z.owner]
    repeat (first | with_reducible refine wpAny_madeHere_exc Z.canon at_ ?_ | with_reducible refine wpAny_loadPart_at at_ ?_ | (with_reducible refine wpAny_isSubtype_exc at_ ?_; rw [has]) | wp_step)
    have keep : ∀ b o, hp.get? b = some o → ((hp.push (W.kdv_tup [])).push (excO C hp.objs.size)).get? b = some o := fun _ _ y => Heap.get?_push_of_some _ (Heap.get?_push_of_some _ y)
    refine wpAny_isSubtype_exc (keep _ _ at_) ?_
    rw [show (Value.ref C :: bm).contains (.ref C) = true from by simp]
    repeat (first | wp_step)
    rw [← show (hp.push (W.kdv_tup [])).objs.size = hp.objs.size + 1 from Heap.size_push _ _] at go
    refine (ini.keeps keep).at (wpAny_holding (wpAny_bind (((bnd (.ref (hp.push (W.kdv_tup [])).objs.size)).keeps keep).at (wpAny_bind (wpAny_call (codeAny_mono go fun z s' y => ?_))))))
    rcases z with e | (v | _ | _ | _) <;> first | exact y | exact y.elim | skip
    obtain ⟨rfl, y⟩ := y
    first
      | exact wpAny_pure (wpAny_pure y)
      | (wp_walk; exact y)
  refine codeAny_of_tree (show wpAny _ _ (callAny (.ref C) _) _ _ _ from ?_)
  repeat (any_goals (first | assumption | with_reducible refine wpAny_loadPart_at at_ ?_ | wp_step))
  refine ⟨rfl, codeAny_call_builtin_at (Code.quiet_builtin _ (by decide +kernel)) entry_typeCall (W.check_slot tc_kind tc_split ?_ (W.tc_args _ _ _) ?_)⟩
  · unfold isInstance
    exact ty.andThen (.of_pure (by kernel_rfl))
  · exact core
end PySem.HXk
namespace HX
open L2 PyProof.Rows PySem.Spec PySem
theorem ErrIs.ex {H H' : Hp} {C a : Addr} {fs : List (Str × V)} (h : ErrIs H C a fs) (e : Ex H H') : ErrIs H' C a fs := let ⟨dd, q⟩ := h; ⟨dd, q.elim (fun ⟨x, y⟩ => .inl ⟨e _ _ x, e _ _ y⟩) (fun ⟨x, y⟩ => .inr ⟨e _ _ x, e _ _ y⟩)⟩
/-- an own error's __init__ that keeps what it gets under n -/
def spEI (C : Addr) (n : Str) : Sp := fun vs H Q _ => ∃ (a : Addr) (v : V), vs = [.ref a, v] ∧ H a = some (exo a C none) ∧ ∀ dx, H dx = none → dx ≠ a → Q .non (upd (upd H dx (exd dx [(n, v)])) a (exo a C (some dx)))
/-- what is asked of such a class -/
structure ErrT (K : PySem.W.Frag) (mg : Str → Option Value) (x n : Str) (C f : Addr) (d : FuncData) : Prop where
  oex : OexC K C
  xf : XfC K C
  er : ErrC K C
  no : PySem.W.findIn K (.ref C) n = some none
  ini : PySem.W.findIn K (.ref C) "__init__" = some (some (.ref f))
  fn : PySem.W.typeIn K (.ref f) = some (.type "function")
  b : Binds K d ["self", n] []
  kb : ∀ (s : Shared) (a u : Value), K.In s.heap → BindsTo s d ⟨[a], [(n, u)]⟩ [("self", a), (n, u)]
  m : mg x = some (.ref C)
section
variable {X : Cx} {e : Expr} {p pos kpos : Pos} {x n : Str} {C f : Addr} {d : FuncData} {te : TE} {k : Nat}
theorem err_of {H : Hp} {a dx C : Addr} {n : Str} {v : V} (na : H a = none) (nd : (upd H a (exo a C none)) dx = none) (ne : dx ≠ a) : Ex H (upd (upd (upd H a (exo a C none)) dx (exd dx [(n, v)])) a (exo a C (some dx))) ∧ ErrIs (upd (upd (upd H a (exo a C none)) dx (exd dx [(n, v)])) a (exo a C (some dx))) C a [(n, v)] := by
  refine ⟨fun b o hb => ?_, dx, .inr ⟨upd_same, by rw [upd_ne ne, upd_same]⟩⟩
  have h1 : b ≠ a := ne_of_none hb na
  have h2 : (upd H a (exo a C none)) b = some o := by rw [upd_ne h1]; exact hb
  have h3 : b ≠ dx := ne_of_none h2 nd
  rw [upd_ne h1, upd_ne h3]; exact h2
/-- C(e), the error as a value -/
def tMkE (C : Addr) (n : Str) (te : TE) : TE := fun σ H Q => te σ H fun v H1 => ∀ (a : Addr) (H2 : Hp), H1 a = none → Ex H1 H2 → ErrIs H2 C a [(n, v)] → Q (.ref a) H2
theorem pe_mkE (T : ErrT X.K X.mg x n C f d) (F1 : FnOk X.prog X.w X.K X.mg X.base CX0 k f d ["self", n] (spEI C n)) (hr : Room (k + 1) X.A) (hg : Gl X x) (he : PE X e te) (nd : (x == ("__debug__" : Str)) = false := by decide)
    (hst : starEach [e] X.env = (false, eval e X.env) :: starEach [] X.env := by rfl) (hpl : (backTo pos (starEach [] X.env)).any (·.1) = false := by rfl) : PE X (.Call (.Name x p) [e] [] pos) (tMkE C n te) := by
  refine ⟨fun pp t0 τ G R J w => wpAny_Call_Name_kw (ld_glob J hg T.m ?_ nd)⟩
  obtain ⟨nm, q, N, bs, bm, sn, sub, ab, col, dd, k0, k1, k2, k3, k5, hC, hbm⟩ := T.oex.cls
  refine PySem.W.callWith_K (h₀ := X.base) J.ok.mod.kin T.oex.kC (thn ((pa_cons (hs := hst) he pa_nil).run pos pp t0 τ G (fun vs H1 => match vs with | [v] => ∀ (a : Addr) (H2 : Hp), H1 a = none → Ex H1 H2 → ErrIs H2 C a [(n, v)] → R (.ref a) H2 | _ => False) J w) fun us t1 ⟨vs, G1, J1, r1, q1⟩ => ⟨J1.kIn, ?_⟩) hst hpl
  (show wpAny _ _ (call (.ref C) us) _ _ _); match vs, q1, r1 with
  | [v], q1, .cons (b := u) ru .nil =>
  obtain ⟨hp, g, dr, tk, os⟩ := t1
  let a := hp.objs.size + 1
  let h2 : Heap := (hp.push (PySem.W.kdv_tup [u])).push (PySem.HandSPX.excO C hp.objs.size)
  have na : G1 a = none := J1.hok.fresh (Nat.le_succ _)
  have got : h2.get? a = some (PySem.HandSPX.excO C hp.objs.size) := by show ((hp.push (PySem.W.kdv_tup [u])).push (PySem.HandSPX.excO C hp.objs.size)).get? (hp.objs.size + 1) = _; heap_get
  have J2 : L2.Inv X pp τ (upd G1 a (exo a C none)) ⟨h2, g, dr, tk, os⟩ := J1.laid (t' := tk) (a := a) (o := exo a C none) (h' := h2) (fun b o y => Heap.get?_push_of_some _ (Heap.get?_push_of_some _ y)) (Nat.le_succ _) (exo_ok got)
  have want : spEI C n [.ref a, v] (upd G1 a (exo a C none)) (fun w H2 => w = .non ∧ R (.ref a) H2) (fun _ _ _ => False) := ⟨a, v, rfl, upd_same, fun dx ndx ne => ⟨rfl, let ⟨e1, e2⟩ := err_of (v := v) (n := n) na ndx ne; q1 a _ na e1 e2⟩⟩
  have r2 : Vals [V.ref a, v] [Value.ref a, u] := .cons rfl (.cons ru .nil)
  have bound := T.b _ [Value.ref a, u] J2.kIn rfl; rw [List.append_nil] at bound
  refine wpAny_call (PySem.HandSPX.call_own F.excBase_ValueError (fun Y => PySem.HandSPX.refsVE_contains Y bm hbm) (J1.kIn _ _ hC) (PySem.W.looks_findIn J1.kIn T.ini) (fun self => PySem.W.bind_fn J1.kIn self T.fn) (by show 1 ≤ sizeLine; decide)
    (codeAny_mono (F1.run _ X.stack _ _ ⟨[Value.ref a, u], []⟩ [Value.ref a, u] _ _ (fun _ _ _ => False) (hr.make C [u] []) (J2.env0.make C [u] []) bound r2 want) fun z t2 w2 => ?_))
  match z, w2 with
  | .ok (.ret u), w2 =>
    obtain ⟨v, G2, J3, rv, ev, q2⟩ := J2.after w2
    subst ev
    exact ⟨rv, .ref a, G2, J3, rfl, q2⟩
  | .ok .next, w2 | .ok .brk, w2 | .ok .cont, w2 => exact False.elim w2
  | .error er, w2 => exact pass0 pp τ _ _ er t2 J2 w2
/-- C(n=e), the error as a value -/
theorem pe_mkEK (T : ErrT X.K X.mg x n C f d) (F1 : FnOk X.prog X.w X.K X.mg X.base CX0 k f d ["self", n] (spEI C n)) (hr : Room (k + 1) X.A) (hg : Gl X x) (he : PE X e te) (nd : (x == ("__debug__" : Str)) = false := by decide)
    (hall : (backToKw pos (keywordEach [⟨some n, e, kpos⟩] X.env)).all (·.1.isSome) = true := by rfl) (hks : (backToKw pos (keywordEach [⟨some n, e, kpos⟩] X.env)).filterMap (·.1) = [n] := by rfl)
    (hpl : ((backTo pos (starEach [] X.env)).any (·.1) || (backToKw pos (keywordEach [⟨some n, e, kpos⟩] X.env)).any (·.1.isNone)) = false := by rfl) : PE X (.Call (.Name x p) [] [⟨some n, e, kpos⟩] pos) (tMkE C n te) := by
  refine ⟨fun pp t0 τ G R J w => wpAny_Call_Name_kw (ld_glob J hg T.m ?_ nd)⟩
  obtain ⟨nm, q, N, bs, bm, sn, sub, ab, col, dd, k0, k1, k2, k3, k5, hC, hbm⟩ := T.oex.cls
  refine PySem.W.callWith_KW0 (h₀ := X.base) J.ok.mod.kin T.oex.kC hall ?_ hpl
  refine thn ((pk_cons (nm := some n) he pk_nil).run pos pp t0 τ G (fun vs H1 => match vs with | [v] => ∀ (a : Addr) (H2 : Hp), H1 a = none → Ex H1 H2 → ErrIs H2 C a [(n, v)] → R (.ref a) H2 | _ => False) J w) fun us t1 ⟨vs, G1, J1, r1, q1⟩ => ⟨J1.kIn, ?_⟩
  rw [hks]
  match vs, q1, r1 with
  | [v], q1, .cons (b := u) ru .nil =>
  show wpAny _ _ (call (.ref C) [] [(n, u)]) _ _ _
  obtain ⟨hp, g, dr, tk, os⟩ := t1
  let a := hp.objs.size + 1
  let h2 : Heap := (hp.push (PySem.W.kdv_tup [])).push (PySem.HandSPX.excO C hp.objs.size)
  have na : G1 a = none := J1.hok.fresh (Nat.le_succ _)
  have got : h2.get? a = some (PySem.HandSPX.excO C hp.objs.size) := by show ((hp.push (PySem.W.kdv_tup [])).push (PySem.HandSPX.excO C hp.objs.size)).get? (hp.objs.size + 1) = _; heap_get
  have J2 : L2.Inv X pp τ (upd G1 a (exo a C none)) ⟨h2, g, dr, tk, os⟩ := J1.laid (t' := tk) (a := a) (o := exo a C none) (h' := h2) (fun b o y => Heap.get?_push_of_some _ (Heap.get?_push_of_some _ y)) (Nat.le_succ _) (exo_ok got)
  have want : spEI C n [.ref a, v] (upd G1 a (exo a C none)) (fun w H2 => w = .non ∧ R (.ref a) H2) (fun _ _ _ => False) := ⟨a, v, rfl, upd_same, fun dx ndx ne => ⟨rfl, let ⟨e1, e2⟩ := err_of (v := v) (n := n) na ndx ne; q1 a _ na e1 e2⟩⟩
  have r2 : Vals [V.ref a, v] [Value.ref a, u] := .cons rfl (.cons ru .nil)
  have bound := T.kb ⟨h2, g, dr, tk, os⟩ (.ref a) u J2.kIn
  refine wpAny_call (PySem.HXk.made_by_keyword ⟨nm, q, N, bs, sn, sub, ab, col, dd, k0, k1, k2, k3, k5, J1.kIn _ _ hC, hbm⟩ (PySem.W.looks_findIn J1.kIn T.ini) (fun self => PySem.W.bind_fn J1.kIn self T.fn)
    (codeAny_mono (F1.run _ X.stack _ _ ⟨[Value.ref a], [(n, u)]⟩ [Value.ref a, u] _ _ (fun _ _ _ => False) (hr.make C [] [(n, u)]) (J2.env0.make C [] [(n, u)]) bound r2 want) fun z t2 w2 => ?_))
  match z, w2 with
  | .ok (.ret u), w2 =>
    obtain ⟨v, G2, J3, rv, ev, q2⟩ := J2.after w2
    subst ev
    exact ⟨rv, .ref a, G2, J3, rfl, q2⟩
  | .ok .next, w2 | .ok .brk, w2 | .ok .cont, w2 => exact False.elim w2
  | .error er, w2 => exact pass0 pp τ _ _ er t2 J2 w2
/-- C() of an own error without an own __init__, as a value -/
def tMk0 (C : Addr) : TE := fun σ H Q => ∀ (a : Addr), H a = none → Q (.ref a) (upd H a (exo a C none))
theorem pe_mk0 (q : PySem.W.excIn X.K C [.type "ValueError", .type "Exception", .type "BaseException", .type "object"] "ValueError.__new__" = true) (gC : X.mg x = some (.ref C)) (kC : PySem.W.keepIn X.K (.ref C) = true) (hg : Gl X x) (nd : (x == ("__debug__" : Str)) = false := by decide) : PE X (.Call (.Name x p) [] [] pos) (tMk0 C) := by
  refine ⟨fun pp t0 τ G R J w => wpAny_Call_Name_kw (ld_glob J hg gC ?_ nd)⟩
  refine PySem.W.callWith_K0 J.kIn kC ?_
  obtain ⟨bm, N, nm, qn, bs, hdct, sn, sub, ab, col, dd, k0, k1, k2, k3, k5, mN, hC, hN, hni, T⟩ := exc_obj J.kIn q
  show wpAny _ _ (call (.ref C) []) _ _ _
  obtain ⟨hp, g, dr, tk, os⟩ := t0
  refine wpAny_call_exc_subT F.excBase_ValueError T hC hN hni (fun h' e hm => ?_) (by show 0 ≤ sizeLine; decide)
  obtain ⟨t, he, _, _⟩ := hm.there
  have na : G e = none := J.hok.gone hm.new
  exact ⟨.ref e, _, J.laidN (t' := tk) (a := e) (o := exo e C none) (h' := h') hm.keeps hm.new na (exo_ok he), rfl, w e na⟩
/-- an error, with a dict or without -/
def ErrAny (H : Hp) (C a : Addr) : Prop := (∃ fs, ErrIs H C a fs) ∨ H a = some (exo a C none)
theorem ErrAny.ex {H H' : Hp} {C a : Addr} (h : ErrAny H C a) (e : Ex H H') : ErrAny H' C a := h.elim (fun ⟨fs, z⟩ => .inl ⟨fs, z.ex e⟩) (fun z => .inr (e _ _ z))
def rIsA (K : PySem.W.Frag) : List V → Hp → VK → Prop := fun xs H Q => ∃ (a C : Addr) (c : V) (cv : Value) (b : Bool), xs = [.ref a, c] ∧ ErrAny H C a ∧ ErrC K C ∧ (∀ u, RelV c u → u = cv) ∧ PySem.W.kitOne K (.ref C) cv = some b ∧ Q (.bl b) H
theorem call_isA : CallR X (.builtin "isinstance") (rIsA X.K) := by
  intro pp t τ G xs us; intro Q J r h
  obtain ⟨a, C, c, cv, b, rfl, ea, T, hcv, e, q⟩ := h
  cases r with
  | cons rx rr =>
    cases rr with
    | cons rt rr =>
      cases rr; cases rx
      have ec := hcv _ rt; subst ec
      rcases ea with ⟨fs, ea⟩ | ea
      · obtain ⟨oe, od, _, W, _⟩ := errIs_inst J ea
        exact PySem.W.kia_one (PySem.W.kitx_exc T.cl T.ga T.gt T.be T.kc T.kg T.kt T.ob) J.kIn W e (fun z => nomatch z) fun tk => ⟨.bl b, G, J.kept (t' := tk) fun _ _ z => z, rfl, q⟩
      · obtain ⟨t0, g⟩ := exo_at J.hok ea
        have W : PySem.W.InstAt t.heap a _ C none := ⟨g, rfl, by unfold PySem.W.notCls; rfl, trivial⟩
        exact PySem.W.kia_one (PySem.W.kitx_exc T.cl T.ga T.gt T.be T.kc T.kg T.kt T.ob) J.kIn W e (fun z => nomatch z) fun tk => ⟨.bl b, G, J.kept (t' := tk) fun _ _ z => z, rfl, q⟩
end
end HX
set_option Elab.async false
set_option linter.all false
set_option maxRecDepth 100000
set_option maxHeartbeats 4400000
namespace HX
open L2 PyProof.Rows PySem.Spec PySem
section
variable {X : Cx} {e : Expr} {te : TE} {pos : Pos} {n : Str} {pins : List (Addr × Obj)} {σ : L2.St} {H : Hp} {s : Shared}
/-- e.n of an error of any such class -/
def tErrA (K : PySem.W.Frag) (n : Str) (te : TE) : TE := fun σ H Q => te σ H fun x H1 => ∃ (a C : Addr) (fs : List (Str × V)) (v : V), x = .ref a ∧ ErrIs H1 C a fs ∧ XfC K C ∧ PySem.W.findIn K (.ref C) n = some none ∧ fs.lookup n = some v ∧ Q v H1
theorem pe_errA (he : PE X e te) (hb : attributeBase e n X.env (eval e X.env) = eval e X.env := by rfl) : PE X (.Attribute e n pos) (tErrA X.K n te) := by
  refine ⟨fun pp t τ G R J w => attr_of hb (thn (he.run pp t τ G _ J w) fun u t1 ⟨x, G1, J1, rx, a, C, fs, v, ex, ea, T, hno, l, q⟩ => ?_)⟩
  subst ex
  have eu : u = Value.ref a := rx; subst eu
  obtain ⟨oe, od, mA, W, hl, hr⟩ := errIs_inst J1 ea
  obtain ⟨uv, hu, ru⟩ := RelO.some_of (v := v) (o := mA n) (by rw [← l]; exact hr n)
  exact HandSPX.exc_get J1.kIn W T.ga T.gg T.exC (PySem.W.findObj_own T.hdC hno rfl (by rw [hl, hu])) (handed_of ru) ⟨v, G1, J1.tok _, ru, q⟩
end
/-- errors of these classes, each with v under n -/
inductive Errs (H : Hp) (n : Str) (v : V) : List Addr → List V → Prop
  | nil : Errs H n v [] []
  | cons {C a : Addr} {Cs : List Addr} {xs : List V} : ErrIs H C a [(n, v)] → Errs H n v Cs xs → Errs H n v (C :: Cs) (.ref a :: xs)
theorem Errs.ex {H H' : Hp} {n : Str} {v : V} {Cs : List Addr} {xs : List V} (h : Errs H n v Cs xs) (e : Ex H H') : Errs H' n v Cs xs := by
  induction h with
  | nil => exact .nil
  | cons a _ ih => exact .cons (a.ex e) ih
theorem Errs.app {H : Hp} {n : Str} {v : V} {Cs Ds : List Addr} {xs ys : List V} (h : Errs H n v Cs xs) (k : Errs H n v Ds ys) : Errs H n v (Cs ++ Ds) (xs ++ ys) := by
  induction h with
  | nil => exact k
  | cons a _ ih => exact .cons a ih
theorem Errs.len {H : Hp} {n : Str} {v : V} {Cs : List Addr} {xs : List V} (h : Errs H n v Cs xs) : xs.length = Cs.length := by
  induction h with
  | nil => rfl
  | cons _ _ ih => simp [ih]
theorem Errs.get {H : Hp} {n : Str} {v : V} {Cs : List Addr} {xs : List V} (h : Errs H n v Cs xs) {i : Nat} {x : V} (e : xs[i]? = some x) : ∃ C a, Cs[i]? = some C ∧ x = .ref a ∧ ErrIs H C a [(n, v)] := by
  induction h generalizing i with -- the place moves
  | nil => simp at e
  | @cons C a Cs xs h1 _ ih =>
    cases i with
    | zero => simp at e; exact ⟨C, a, by simp, e.symm, h1⟩
    | succ i => simpa using ih (i := i) (by simpa using e)
/-- errors of these classes -/
inductive ErrsA (H : Hp) : List Addr → List V → Prop
  | nil : ErrsA H [] []
  | cons {C a : Addr} {Cs : List Addr} {xs : List V} : ErrAny H C a → ErrsA H Cs xs → ErrsA H (C :: Cs) (.ref a :: xs)
theorem ErrsA.ex {H H' : Hp} {Cs : List Addr} {xs : List V} (h : ErrsA H Cs xs) (e : Ex H H') : ErrsA H' Cs xs := by
  induction h with
  | nil => exact .nil
  | cons a _ ih => exact .cons (a.ex e) ih
theorem ErrsA.app {H : Hp} {Cs Ds : List Addr} {xs ys : List V} (h : ErrsA H Cs xs) (k : ErrsA H Ds ys) : ErrsA H (Cs ++ Ds) (xs ++ ys) := by
  induction h with
  | nil => exact k
  | cons a _ ih => exact .cons a ih
theorem ErrsA.len {H : Hp} {Cs : List Addr} {xs : List V} (h : ErrsA H Cs xs) : xs.length = Cs.length := by
  induction h with
  | nil => rfl
  | cons _ _ ih => simp [ih]
theorem ErrsA.get {H : Hp} {Cs : List Addr} {xs : List V} (h : ErrsA H Cs xs) {i : Nat} {x : V} (e : xs[i]? = some x) : ∃ C a, Cs[i]? = some C ∧ x = .ref a ∧ ErrAny H C a := by
  induction h generalizing i with -- the place moves
  | nil => simp at e
  | @cons C a Cs xs h1 _ ih =>
    cases i with
    | zero => simp at e; exact ⟨C, a, by simp, e.symm, h1⟩
    | succ i => simpa using ih (i := i) (by simpa using e)
theorem Errs.any {H : Hp} {n : Str} {v : V} {Cs : List Addr} {xs : List V} (h : Errs H n v Cs xs) : ErrsA H Cs xs := by
  induction h with
  | nil => exact .nil
  | cons a _ ih => exact .cons (.inl ⟨_, a⟩) ih
/-- lists of one text over and over -/
theorem dp_rep {K : PySem.W.Frag} {H : Hp} (x : Str) : ∀ n : Nat, DpAll K H (List.replicate n (.str x)) (List.replicate n (.str x))
  | 0 => .nil
  | n + 1 => .cons (.str x) (dp_rep x n)
theorem lay_rep (x : Str) (hx : PyData.strOk x = true) : ∀ n : Nat, PyData.canLayAll0 (List.replicate n (.str x)) = true ∧ PyData.depthAll (List.replicate n (PyData.str x)) ≤ 1
  | 0 => by simp [PyData.canLayAll0, PyData.depthAll]
  | n + 1 => by
    obtain ⟨a, b⟩ := lay_rep x hx n
    simp only [List.replicate_succ, PyData.canLayAll0, PyData.canLay0, PyData.depthAll, PyData.depth, a, hx]
    exact ⟨by first | rfl | trivial, by omega⟩
theorem shaped_rep (x : Str) (hx : PyData.strOk x = true) (n : Nat) : SeqAt.shaped (.list (List.replicate n (.str x))) = true := by
  obtain ⟨a, b⟩ := lay_rep x hx n
  unfold SeqAt.shaped
  rw [show PyData.canLay0 (.list (List.replicate n (.str x))) = PyData.canLayAll0 (List.replicate n (.str x)) from by simp only [PyData.canLay0], a]
  have d : (PyData.list (List.replicate n (.str x))).depth ≤ 64 := by simp only [PyData.depth]; omega
  rw [decide_eq_true d]; rfl
theorem eqv_rep (x : Str) (hx : PyData.strOk x = true) (n : Nat) : PyData.eqv (.list (List.replicate n (.str x))) (.list (List.replicate n (.str x))) = true := SeqAt.eqv_refl _ (by simp only [PyData.canLay0]; exact (lay_rep x hx n).1)
/-- a list of lists of one int each -/
def ones (lo n : Nat) : List PyData := (List.range' lo n).map fun i => PyData.list [.int (i : Nat)]
def Ones (H : Hp) (lo : Nat) (xs : List V) : Prop := ∀ (i : Nat) (x : V), xs[i]? = some x → ∃ q, x = .ref q ∧ H q = some (.lst [.int ((lo + i : Nat) : Int)])
theorem Ones.ex {H H' : Hp} {lo : Nat} {xs : List V} (h : Ones H lo xs) (e : Ex H H') : Ones H' lo xs := fun i x hx => let ⟨q, a, b⟩ := h i x hx; ⟨q, a, e _ _ b⟩
theorem Ones.nil {H : Hp} {lo : Nat} : Ones H lo [] := fun i x h => by simp at h
theorem Ones.snoc {H : Hp} {lo : Nat} {xs : List V} {q : Addr} (h : Ones H lo xs) (hq : H q = some (.lst [.int ((lo + xs.length : Nat) : Int)])) : Ones H lo (xs ++ [.ref q]) := fun i x hx => by
  rw [List.getElem?_append] at hx
  split at hx
  · exact h i x hx
  · have e : i - xs.length = 0 := by
      have z := (List.getElem?_eq_some_iff.mp hx).1
      simp at z; omega
    rw [e] at hx; simp at hx; subst hx
    have e2 : i = xs.length := by omega
    subst e2
    exact ⟨q, rfl, hq⟩
theorem dp_ones {K : PySem.W.Frag} {H : Hp} : ∀ {xs : List V} {lo : Nat}, Ones H lo xs → DpAll K H xs (ones lo xs.length)
  | [], lo, _ => .nil
  | x :: xs, lo, h => by
    obtain ⟨q, rfl, hq⟩ := h 0 x rfl
    unfold ones
    rw [List.length_cons, List.range'_succ, List.map_cons]
    refine .cons (.lst (SqL.of hq) (.cons (.int _) .nil)) ?_
    exact dp_ones (lo := lo + 1) (xs := xs) fun i y hy => by
      obtain ⟨q, a, b⟩ := h (i + 1) y (by simpa using hy)
      exact ⟨q, a, by rw [b, show lo + (i + 1) = lo + 1 + i by omega]⟩
theorem lay_ones : ∀ (n lo : Nat), PyData.canLayAll0 (ones lo n) = true ∧ PyData.depthAll (ones lo n) ≤ 2
  | 0, lo => by simp [ones, PyData.canLayAll0, PyData.depthAll]
  | n + 1, lo => by
    obtain ⟨a, b⟩ := lay_ones n (lo + 1)
    have e : ones lo (n + 1) = PyData.list [.int (lo : Nat)] :: ones (lo + 1) n := by simp [ones, List.range'_succ]
    rw [e]
    simp only [PyData.canLayAll0, PyData.canLay0, PyData.depthAll, PyData.depth, a]
    exact ⟨by first | rfl | trivial, by omega⟩
theorem shaped_ones (lo n : Nat) : SeqAt.shaped (.list (ones lo n)) = true := by
  obtain ⟨a, b⟩ := lay_ones n lo
  unfold SeqAt.shaped
  rw [show PyData.canLay0 (.list (ones lo n)) = PyData.canLayAll0 (ones lo n) from by simp only [PyData.canLay0], a]
  have d : (PyData.list (ones lo n)).depth ≤ 64 := by simp only [PyData.depth]; omega
  rw [decide_eq_true d]; rfl
theorem eqv_ones (lo n : Nat) : PyData.eqv (.list (ones lo n)) (.list (ones lo n)) = true := SeqAt.eqv_refl _ (by simp only [PyData.canLay0]; exact (lay_ones n lo).1)
theorem rep_snoc {α : Type} (n : Nat) (x : α) : List.replicate n x ++ [x] = List.replicate (n + 1) x := by rw [List.replicate_succ']
theorem flat_rep {α : Type} (x : α) (n : Nat) : (List.replicate n [x]).flatten = List.replicate n x := by
  induction n with
  | zero => rfl
  | succ n ih => rw [List.replicate_succ, List.flatten_cons, ih, List.replicate_succ]; rfl
end HX
set_option Elab.async false
set_option linter.all false
set_option maxRecDepth 100000
set_option maxHeartbeats 4400000
namespace HX
open L2 PyProof.Rows PySem.Spec PySem
section
variable {X : Cx}
/-- xs * k, the new list apart from the table of modules -/
def rRepN : R2 := fun x y H Q => ∃ l k xs, x = .ref l ∧ y = .int k ∧ H l = some (.lst xs) ∧ 0 ≤ k ∧ k < 1000 ∧ xs.length * k.toNat ≤ sizeLine ∧ ∀ p, H p = none → p ≠ sysModules → Q (.ref p) (upd H p (.lst (List.replicate k.toNat xs).flatten))
theorem op_repN : OpR X (binaryOp .Mult) rRepN := by
  intro pp t τ G x y u1 u2 Q J rx ry h
  obtain ⟨l, k, xs, rfl, rfl, hl, k0, k1, hz, q⟩ := h
  cases rx; obtain ⟨tk, rfl⟩ := ry
  obtain ⟨_, vs, n, rv, el, eo⟩ := J.lstM hl
  have z1 : vs.toArray.size * k.toNat ≤ sizeLine := by rw [List.size_toArray, ← el]; exact hz
  have z2 : (sizeLine : Nat) ≤ (2 ^ 63 - 1) / 8 := by decide
  have c1 : ¬ (!Builtin.List.listFitsIndex k) = true := by rw [fitsIndex_both (by omega) (by omega)]; exact Bool.false_ne_true
  have c2 : ¬ vs.toArray.size * k.toNat > (2 ^ 63 - 1) / 8 := by omega
  have c3 : ¬ Builtin.List.listTooLong (vs.toArray.size * k.toNat) = true := by rw [notLongL z1]; exact Bool.false_ne_true
  have ff : ∀ m : Nat, List.foldl (fun a b => a ++ b) #[] (List.replicate m vs.toArray) = (List.replicate m vs).flatten.toArray := fun m => (foldl_rep vs m []).trans (by rw [List.nil_append])
  have made : List.foldl (fun a b => a ++ b) #[] (List.replicate (if vs.toArray.isEmpty = true then 0 else k.toNat) vs.toArray) = (List.replicate k.toNat vs).flatten.toArray := by
    rw [ff]; cases vs <;> simp
  refine wpAny_binaryOp_repeat_ref (T := "list") (U := "int") (by decide) ⟨_, eo, rfl⟩ (fun s' => typeIs_int s' k tk) noFill_list_mul F.fills_int_mul F.slot_int_rmul repeat_list F.slot_int_index.lookup ?_
  refine call_meets F.slot_int_rmul (typeIs_int t k tk) F.entry_int_rmul (F.args_int_rmul_2 _ _) (int___rmul___int_list k tk l vs.toArray n) ⟨eo, rfl, ⟨_, eo, rfl⟩, ?_⟩
  refine call_meets F.slot_list_mul ⟨_, eo, rfl⟩ F.entry_list_mul (F.args_list_mul_2 _ _) (AutoListH.list___mul___list_int_3 l vs.toArray n k tk c1 c2 c3) ⟨eo, ?_⟩
  rw [made]
  exact ⟨.ref _, _, J.lnew (t' := t.toks) (rv.rep k.toNat) (by rw [PyProof.Rows.lm_len_rep_flat, Nat.mul_comm]; exact hz), rfl, q _ J.fresh (Nat.ne_of_gt J.big)⟩
end
/-- the same, the written part named (within comprehensions) -/
theorem pe_errK {X : Cx} {K : PySem.W.Frag} {e : Expr} {te : TE} {pos : Pos} {n : Str} (hK : X.K = K) (he : PE X e te) (hb : attributeBase e n X.env (eval e X.env) = eval e X.env := by rfl) : PE X (.Attribute e n pos) (tErrA K n te) := hK ▸ pe_errA he hb
theorem call_isK {X : Cx} {K : PySem.W.Frag} (hK : X.K = K) : CallR X (.builtin "isinstance") (rIsA K) := hK ▸ call_isA
theorem ix_tupK {X : Cx} {K : PySem.W.Frag} (hK : X.K = K) : IxR X (rIxT K) := hK ▸ ix_tup
theorem ix_listK {X : Cx} {K : PySem.W.Frag} (hK : X.K = K) : IxR X (rIxL K) := hK ▸ ix_list
theorem q_neb {z : Str} : (!decide (V.str z = V.str z)) = false := by rw [decide_eq_true rfl]; rfl
theorem rep_bl (n : Nat) : List.replicate n (V.bl true) = (List.replicate n true).map V.bl := by rw [List.map_replicate]
theorem rep_all (n : Nat) : (List.replicate n true).all id = true := by simp
/-- five of the same data -/
theorem Bd.five {d : PyData} (h : Bd 14 d) : (PyData.list (List.replicate 5 d)).showable = true ∧ (PyData.list (List.replicate 5 d)).depth ≤ 60 ∧ (PyData.list (List.replicate 5 d)).shown.length ≤ sizeLine := by
  have a := h.dp; have b := h.wt
  have e : List.replicate 5 d = [d, d, d, d, d] := rfl
  rw [e]
  have q := PyData.shown_le 24 (by decide) (.list [d, d, d, d, d]) (by simp only [PyData.leavesShort, PyData.leavesShortAll, h.lv, Bool.and_self])
  have w : (PyData.list [d, d, d, d, d]).weight ≤ 5 * (d.weight + 1) + 10 := by simp only [PyData.weight, PyData.weightAll]; omega
  have m : (24 + 2) * (PyData.list [d, d, d, d, d]).weight ≤ 26 * 6300 := Nat.mul_le_mul_left _ (by omega)
  have z := sizeLine_eq
  refine ⟨by simp only [PyData.showable, PyData.showableAll, h.sh, Bool.and_self], by simp only [PyData.depth, PyData.depthAll]; omega, by omega⟩
theorem Ones.ne {H : Hp} {lo : Nat} {ys : List V} {D q : Addr} {z : Int} (h : Ones H lo ys) (hD : H D = some (.lst ys)) (hq : H q = some (.lst [.int z])) : q ≠ D := fun e => by
  subst e
  rw [hq] at hD
  have e2 := HO.lst.inj (Option.some.inj hD)
  obtain ⟨a, b, _⟩ := h 0 (.int z) (by rw [← e2]; rfl)
  cases b
theorem Ones.put {H : Hp} {lo : Nat} {ys : List V} {D q : Addr} {o : HO} (h : Ones H lo ys) (hD : H D = some (.lst ys)) (hq : H q = some (.lst [.int ((lo + ys.length : Nat) : Int)])) : Ones (upd H D o) lo (ys ++ [.ref q]) := by
  refine Ones.snoc (fun i x hx => ?_) (by rw [upd_ne (h.ne hD hq)]; exact hq)
  obtain ⟨r, a, b⟩ := h i x hx
  exact ⟨r, a, by rw [upd_ne (h.ne hD b)]; exact b⟩
end HX
set_option Elab.async false
set_option linter.all false
set_option maxRecDepth 100000
set_option maxHeartbeats 4400000
namespace HX
open L2 PyProof.Rows PySem.Spec PySem LamX
/-- as okG0, the def's code object named -/
theorem okGT {P : Program} {w : World} {K : PySem.W.Frag} {mg : Str → Option Value} {base : Heap} {x qual : Str} {st : Stmt} {f c : Addr} {fd : FuncData} {N ps : List Str} {k : Nat} {sp : Sp} (F : Fun K x qual st f fd) (S : FnScope N ps (defScope st)) (hc : fd.code = .ref c) (len : ∀ vs H Q E, sp vs H Q E → vs.length = ps.length)
    (hbody : ∀ (A : Around) (outer : List Env) (s : Shared) (H : Hp) (vs : List V) (Q : VK) (E : XK), A.guards = some [] → Room k (A.deeper (envOfC qual (defScope st) s.heap.objs.size f (.ref c))) → sp vs H Q E →
      ∃ t, PSs (cxOf CX0 P w K mg base N qual (defScope st) f (.ref c) A outer s H E).nox (defBody st) t ∧ t { nx := fun _ H' => Q .non H', rt := Q } (L2.start N vs) H) : FnG P w K mg base CX0 (k + 1) f fd ps sp := by
  obtain ⟨oc, od, kV, doc, pm, an, cdv, ct, osl, rfl, lk, hcd⟩ := F.ex
  have e : cdv = .ref c := hc
  subst e
  exact ⟨len, fun A o s H args us vs Q E hg hr e0 hb r hsp => LamX.run_ofS lk hcd S hr e0 hb r (len _ _ _ _ hsp) fun hr' => let ⟨t, p, q⟩ := hbody A o s H vs Q E hg hr' hsp; ⟨t, p.nox, q⟩⟩
/-- f(lambda: body), f a def of the text -/
theorem pe_lamF {X : Cx} {K : PySem.W.Frag} {T : List (Addr × Str)} {TT : (XK → Hp → VK → Prop) → Hp → VK → Prop} {x a : Str} {g c P : Addr} {k : Nat} {st : Stmt} {fd : FuncData} {Ng : List Str} {params : Arguments} {body : Expr} {scope : Scope} {t : XK → TE} {p lpos pos : Pos}
    (hK : X.K = K) (F : Fun K x x st g fd) (b : Binds K fd [a] []) (hg : Gl X x) (hm : X.mg x = some (.ref g)) (Sg : FnScope Ng [a] (defScope st)) (hNg : Ng[0]? = some a) (hva : Vis (defScope st) a)
    (hG : ∀ cdv, GivesTo X Ng x (defScope st) g cdv (defBody st) a (X.env.qual ++ "<lambda>") TT) (TB : TabB X.base X.mg c P) (hcode : X.env.code = .ref c) (hmT : (P, X.env.qual ++ "<lambda>") ∈ T) (hu : ∀ p ∈ T, p.1 = P → p.2 = X.env.qual ++ "<lambda>") (hr : Room (k + 2) X.A)
    (L : LamS X.env.scope scope) (hdef : defaultsOf params X.env = ([], [])) (hbind : ∀ (q : Str) (cl : List (Str × Addr)) (pm cv ctv : Value), bindArgs (PySem.W.kla_fn "<lambda>" q params body scope cl pm cv ctv) ⟨[], []⟩ = pure [])
    (hbody : ∀ (A : Around) (outer : List Env) (s : Shared) (H : Hp) (E : XK) (f c' : Addr), Room k (A.deeper (lamEnv X scope s.heap.objs.size f c')) → PE (lamCx X A outer s H E scope f c') body (t E))
    (hdb : (x == ("__debug__" : Str)) = false := by decide) (hd : (a == ("__debug__" : Str)) = false := by decide) (hcd : (a == ("__classdict__" : Str)) = false := by decide) : PE X (.Call (.Name x p) [.Lambda params body scope lpos] [] pos) (tLam T TT t) := by
  subst hK
  obtain ⟨oc, od, kV, doc, pm, an, cdv, ct, osl, rfl, lk, hc⟩ := F.ex
  exact pe_lamcall hg hm F.kp lk hc b Sg hNg hva (hG cdv) TB hcode hmT hu hr L hdef hbind hbody hdb hd hcd
/-- the law's call, with tables of code objects -/
theorem lawT_core {P : Program} {w : World} {K : PySem.W.Frag} {mg mb : Str → Option Value} {CX : CXT} {k : Nat} {fa a : Addr} {cs : List (Addr × Addr)} {fd : FuncData} {x : Str} {sp : Sp} {s1 : Shared} {vs : List Value} {H : Hp}
    (KX : K.In s1.heap) (hns : s1.heap.Ns mainGlobals mg) (hb : s1.heap.Ns builtinsNs mb) (hbb : ∀ x : Str, x ≠ "__name__" → mb x = bootBuiltins x) (hlim : s1.heap.NoLimit) (hg : s1.gens = #[])
    (hT : ∀ p ∈ cs, PySem.W.CodeHd s1.heap p.1 p.2 ∧ s1.heap.get? p.2 = some (PySem.W.tabObj #[])) (nT : ∀ p ∈ cs, K.lookup p.2 = none)
    (hbm : ∃ (bm : Addr) (ob : Obj), mg "__builtins__" = some (.ref bm) ∧ bm ≠ builtinsNs ∧ s1.heap.get? bm = some ob ∧ ob.cls = .type "module" ∧ ob.dict = some builtinsNs ∧ ob.data = .plain)
    (ha : s1.heap.get? a = some { cls := .type "list", data := .seq vs.toArray }) (hr : Room k callerA)
    (F : ∀ base : Heap, K.In base → base.Ns mainGlobals mg → (∀ p ∈ cs, TabB base mg p.1 p.2) → FnG P w K mg base CX k fa fd [x] sp) (hbind : ∀ (s : Shared) (u : Value), BindsTo s fd ⟨[u], []⟩ [(x, u)])
    (hsp : sp [.ref a] H (fun v _ => v = .bl true) fun _ _ _ => False) (hCX : ∀ e s', CX [] H s1 (fun _ _ _ => False) e s' → False)
    (hH : ∀ p ∈ cs, H p.2 = some (.tbl #[]))
    (hO : ∀ b u, H b = some u → (b = a ∧ ∃ o xs, u = .frz o (.lst xs)) ∨ ∃ p ∈ cs, b = p.2 ∧ u = .tbl #[]) (hok : HOk P w H s1.heap) (hK : ∀ u, H a = some u → K.lookup a = none) :
    codeAny (model P w) callerA (.call (.ref fa) ⟨[.ref a], []⟩) (fun r s' => r = .ok (.ret (.bool true)) ∧ OldK s1.heap s'.heap ∧ s'.os = s1.os ∧ AllBare s'.gens) s1 := by
  have off : ∀ {b : Addr} {o : Obj}, s1.heap.get? b = some o → (∀ us n, o.data ≠ .seq us n) → o.data ≠ .fields #[] → H b = none := fun {b o} e h1 h2 => by
    cases q : H b with
    | none => rfl
    | some u =>
      rcases hO b u q with ⟨y, _⟩ | ⟨p, hp, y, _⟩
      · rw [y, ha] at e; cases e; exact absurd rfl (h1 _ _)
      · rw [y, (hT p hp).2] at e; cases e; exact absurd rfl h2
  have nsK : ∀ {b : Addr} {m : Str → Option Value}, s1.heap.Ns b m → (hidT s1.heap H).Ns b m := fun {b m} ⟨o, es, ep, e, d, r⟩ =>
    ⟨o, es, ep, hidT_get e (off e (fun us n z => by rw [d] at z; cases z) (fun z => by rw [d] at z; cases z)), d, r⟩
  have inB : K.In (hidT s1.heap H) := fun b o e => hidT_get (KX b o e) (by
    cases q : H b with
    | none => rfl
    | some u =>
      have e : K.lookup b = some o := e
      rcases hO b u q with ⟨y, _⟩ | ⟨p, hp, y, _⟩
      · subst y; rw [hK u q] at e; cases e
      · rw [y, nT p hp] at e; cases e)
  have TB : ∀ p ∈ cs, TabB (hidT s1.heap H) mg p.1 p.2 := fun p hp => by
    obtain ⟨hC, hP⟩ := hT p hp
    refine ⟨?_, ?_, fun z => ?_⟩
    · obtain ⟨o, us, r1, r2, r3, r4, r5, r6, r7, e1, dc, d1, q3, q⟩ := hC
      refine ⟨o, us, r1, r2, r3, r4, r5, r6, r7, hidT_get e1 (off e1 (fun us n z => by rw [d1] at z; cases z) (fun z => ?_)), dc, d1, q3, q⟩
      rw [d1] at z; cases z; simp at q3
    · obtain ⟨bm, ob, b1, b2, b3, b4, b5, b6⟩ := hbm
      refine ⟨bm, ob, b1, b2, fun y => ?_, fun y => ?_, hidT_get b3 (off b3 (fun us n z => by rw [b6] at z; cases z) (fun z => by rw [b6] at z; cases z)), b4, b5, b6⟩
      · obtain ⟨o, es, ep, e, d, _⟩ := hns
        rw [y, e] at b3; cases b3; rw [d] at b6; cases b6
      · rw [y, hP] at b3; cases b3; cases b6
    · obtain ⟨o, es, ep, e, d, _⟩ := hns
      rw [z, hP] at e; cases e; cases d
  obtain ⟨mc, l1, l2⟩ := hlim
  have e0 : Env0 P w K mg (hidT s1.heap H) callerA [] s1 H := ⟨rfl, ⟨inB, nsK hns, ⟨mb, nsK hb, hbb⟩, ⟨mc, nsK l1, l2⟩⟩, fun b o e => of_hidT e, Nat.le_of_eq (hidT_size _ _), trivial, fun b z => absurd (show b ∈ ([] : List Addr) from z) List.not_mem_nil, hok, .of_eq hg⟩
  refine codeAny_mono ((F _ inB (nsK hns) TB).go callerA [] s1 H ⟨[.ref a], []⟩ [.ref a] [.ref a] _ _ rfl hr e0 (hbind s1 (.ref a)) (.cons rfl .nil) hsp) fun r s' h => ?_
  match r, h with
  | .error e, h => exact (hCX e s' h).elim
  | .ok .next, h => exact False.elim h
  | .ok .brk, h => exact False.elim h
  | .ok .cont, h => exact False.elim h
  | .ok (.ret u), h =>
    obtain ⟨v, H', os, bare, U, hok', r', q⟩ := h
    obtain rfl : v = .bl true := q
    have ru : u = Value.bool true := r'; subst ru
    have kp : ∀ b o, s1.heap.get? b = some o → s'.heap.get? b = some o ∨ ∃ p ∈ cs, b = p.2 ∧ ∃ more : Array Value, s'.heap.get? b = some { cls := .none, data := .fields more } := fun b o e => by
      cases q : H b with
      | none => exact .inl (U.keep b o e q (fun z => absurd (show b ∈ ([] : List Addr) from z) List.not_mem_nil) List.not_mem_nil)
      | some u =>
        rcases hO b u q with ⟨_, ob, xs, z⟩ | ⟨p, hp, y, z⟩
        · subst z
          have y1 := (hok b _ q).1
          have y2 := (hok' b _ (U.frzs b ob _ q)).1
          rw [e] at y1; cases y1
          exact .inl y2
        · subst z
          obtain ⟨more, m⟩ := U.tbls b #[] q
          exact .inr ⟨p, hp, y, _, hok' b _ m⟩
    refine ⟨rfl, ⟨fun b o e => ?_, fun b o e => ?_⟩, os, bare⟩
    · rcases kp b o e with z | ⟨p, hp, y, more, z⟩
      · exact .inl z
      · have e2 := (hT p hp).2
        rw [← y, e] at e2; cases e2
        rw [y] at z ⊢
        exact .inr (.inl ⟨((hT p hp).1.tab (hT p hp).2).isCodeTable, rfl, #[], more, rfl, by rw [Array.empty_append]; exact z⟩)
    · rcases kp b o e with z | ⟨p, hp, y, more, z⟩
      · exact ⟨o, z⟩
      · exact ⟨_, z⟩
/-- the law's call from what is known at the head's heap; cs: code objects and their tables -/
theorem lawT_at {P q : Program} {loose : List Str} {mean : ExcName → Option Value} {w : World} {K : PySem.W.Frag} {mg mb : Str → Option Value} {CX : CXT} {k n : Nat} {fa a : Addr} {cs : List (Addr × Addr)} {fd : FuncData} {x : Str} {sp : Sp} {s1 : Shared} {vs : List Value} {ns : List Int}
    (T : PyProof.Rows.Top q loose mean mg mb s1.heap) (KX : K.In s1.heap) (hgen : s1.gens = #[]) (hn2 : n ≤ sizeLine) (hr : Room k callerA) (hobj : s1.heap.get? a = some { cls := .type "list", data := .seq vs.toArray }) (hints : IntsAre vs ns) (hlen : ns.length ≤ n)
    (hcs : ∀ p ∈ cs, ∃ y : Str, ((recsOf q).any fun e => e.name == y) = true ∧ PySem.W.tabIn K y = some p) (nT : ∀ p ∈ cs, K.lookup p.2 = none) (hb : ∀ (s : Shared) (u : Value), BindsTo s fd ⟨[u], []⟩ [(x, u)])
    (hF : ∀ base : Heap, K.In base → base.Ns mainGlobals mg → (∀ p ∈ cs, TabB base mg p.1 p.2) → FnG P w K mg base CX k fa fd [x] sp)
    (hsp : ∀ (H : Hp), SqL K H a (ns.map V.int) → (∀ p ∈ cs, H p.2 = some (.tbl #[])) → sp [.ref a] H (fun v _ => v = .bl true) fun _ _ _ => False)
    (hCX : ∀ (G : Hp) (e : Value) (s' : Shared), CX [] G s1 (fun _ _ _ => False) e s' → False) :
    codeAny (model P w) callerA (.call (.ref fa) ⟨[.ref a], []⟩) (fun r s' => r = .ok (.ret (.bool true)) ∧ OldK s1.heap s'.heap ∧ s'.os = s1.os ∧ AllBare s'.gens) s1 := by
  have rv := ints_vals hints; have lv := hints.length
  have hT : ∀ p ∈ cs, PySem.W.CodeHd s1.heap p.1 p.2 ∧ s1.heap.get? p.2 = some (PySem.W.tabObj #[]) := fun p hp => by
    obtain ⟨y, h1, h2⟩ := hcs p hp
    obtain ⟨e, he1, he2⟩ := List.any_eq_true.mp h1
    cases hf : (recsOf q).find? (fun e => e.name == y) with
    | none => exact absurd he2 (List.find?_eq_none.mp hf e he1)
    | some dd => exact PySem.W.tab_of T KX hf h2
  have aT : ∀ p ∈ cs, p.2 ≠ a := fun p hp z => by
    have e := (hT p hp).2
    rw [z, hobj] at e
    have e2 : Data.seq vs.toArray _ = Data.fields #[] := congrArg Obj.data (Option.some.inj e)
    cases e2
  have fz : HO.frz { cls := .type "list", data := .seq vs.toArray } (.lst (ns.map V.int)) = HO.frz { cls := .type "list", data := .seq vs.toArray } (.lst (ns.map V.int)) := rfl
  cases hk : K.lookup a with
  | some o' =>
    have e := KX a o' hk
    rw [hobj] at e
    cases e
    let H0 : Hp := fun b => if b ∈ cs.map (·.2) then some (.tbl #[]) else none
    have at_ : ∀ b u, H0 b = some u → ∃ p ∈ cs, b = p.2 ∧ u = .tbl #[] := fun b u z => by
      by_cases hm : b ∈ cs.map (·.2)
      · obtain ⟨p, hp, e⟩ := List.mem_map.mp hm
        exact ⟨p, hp, e.symm, (Option.some.inj ((if_pos hm).symm.trans z)).symm⟩
      · cases (if_neg hm).symm.trans z
    have hH : ∀ p ∈ cs, H0 p.2 = some (.tbl #[]) := fun p hp => if_pos (List.mem_map.mpr ⟨p, hp, rfl⟩)
    refine lawT_core (H := H0) KX T.g T.b T.builtins T.nolimit hgen hT nT T.bmain hobj hr hF hb (hsp _ (.inr ⟨_, vs.toArray, _, hk, rfl, rfl, rfl, by rw [List.size_toArray, lv]; exact Nat.le_trans hlen hn2, by simpa using rv⟩) hH) (fun e s' => hCX _ e s') hH (fun b u z => .inr (at_ b u z)) (fun b u z => ?_) (fun u z => ?_)
    · obtain ⟨p, hp, e1, e2⟩ := at_ b u z
      subst e2; rw [e1]; exact (hT p hp).2
    · obtain ⟨p, hp, e1, _⟩ := at_ a u z
      exact absurd e1.symm (aT p hp)
  | none =>
    let H0 : Hp := fun b => if b = a then some (.frz { cls := .type "list", data := .seq vs.toArray } (.lst (ns.map V.int))) else if b ∈ cs.map (·.2) then some (.tbl #[]) else none
    have at_ : ∀ b u, H0 b = some u → (b = a ∧ u = .frz { cls := .type "list", data := .seq vs.toArray } (.lst (ns.map V.int))) ∨ ∃ p ∈ cs, b = p.2 ∧ u = .tbl #[] := fun b u z => by
      by_cases hba : b = a
      · exact .inl ⟨hba, (Option.some.inj ((if_pos hba).symm.trans z)).symm⟩
      · have z := (if_neg hba).symm.trans z
        by_cases hm : b ∈ cs.map (·.2)
        · obtain ⟨p, hp, e⟩ := List.mem_map.mp hm
          exact .inr ⟨p, hp, e.symm, (Option.some.inj ((if_pos hm).symm.trans z)).symm⟩
        · cases (if_neg hm).symm.trans z
    have hH : ∀ p ∈ cs, H0 p.2 = some (.tbl #[]) := fun p hp => (if_neg (aT p hp)).trans (if_pos (List.mem_map.mpr ⟨p, hp, rfl⟩))
    refine lawT_core (H := H0) KX T.g T.b T.builtins T.nolimit hgen hT nT T.bmain hobj hr hF hb (hsp _ (.inl (.inr ⟨_, if_pos rfl⟩)) hH) (fun e s' => hCX _ e s') hH (fun b u z => ?_) (fun b u z => ?_) (fun _ _ => hk)
    · rcases at_ b u z with ⟨e1, e2⟩ | q
      · exact .inl ⟨e1, _, _, e2⟩
      · exact .inr q
    · rcases at_ b u z with ⟨e1, e2⟩ | ⟨p, hp, e1, e2⟩
      · subst e1; subst e2
        exact ⟨hobj, by rw [List.length_map]; exact Nat.le_trans hlen hn2, vs, _, rv, hobj⟩
      · subst e2; rw [e1]; exact (hT p hp).2
theorem walk_GX {l : PySem.W.OpenLaw} {n k : Nat} {q : Program} {loose : List Str} {XP : (Str → Option Value) → Heap → Prop} {YP : World → Heap → Prop} {d : DefRec} {CX : World → CXT} {x : Str}
    (hn : l.most = some n) (hn2 : n ≤ sizeLine) (hdf : d.params.defaults = []) (hr : Room k callerA)
    (F : ∀ (w : World) (m : Str → Option Value) (fa : Addr) (h : Heap), YP w h → h.Ns mainGlobals m → m d.name = some (.ref fa) →
      ∃ (K : PySem.W.Frag) (fd : FuncData) (cs : List (Addr × Addr)) (sp : Sp), K.In h ∧ (∀ p ∈ cs, ∃ y : Str, ((recsOf q).any fun e => e.name == y) = true ∧ PySem.W.tabIn K y = some p) ∧ (∀ p ∈ cs, K.lookup p.2 = none) ∧ (∀ (s : Shared) (u : Value), BindsTo s fd ⟨[u], []⟩ [(x, u)]) ∧
        (∀ (H : Hp) (a : Addr) (ns : List Int), ns.length ≤ n → SqL K H a (ns.map V.int) → (∀ p ∈ cs, H p.2 = some (.tbl #[])) → sp [.ref a] H (fun v _ => v = .bl true) fun _ _ _ => False) ∧
        ∀ base : Heap, K.In base → base.Ns mainGlobals m → (∀ p ∈ cs, TabB base m p.1 p.2) → FnG l.prog w K m base (CX w) k fa fd [x] sp)
    (hCX : ∀ (w : World) (G : Hp) (s : Shared) (e : Value) (s' : Shared), CX w [] G s (fun _ _ _ => False) e s' → False) : PySem.W.WalkO q loose XP YP l.row.toRowW d [] (fun f vs => PySem.call f vs) := by
  refine Att.attach_call hn hdf fun w s0 s1 mg mb fa o pm cd doc a vs ns G Y ho hd hcd hmg hobj hints hlen hgen => ?_
  obtain ⟨K, fd, cs, sp, KX, hcs, nT, hb, hsp, hF⟩ := F w mg fa _ Y G.T.g hmg
  exact lawT_at G.T KX hgen hn2 hr hobj hints hlen hcs nT hb hF (fun H h1 h2 => hsp H a ns hlen h1 h2) fun G e s' => hCX w G s1 e s'
end HX
set_option Elab.async false
set_option linter.all false
set_option maxRecDepth 100000
set_option maxHeartbeats 4400000
namespace HX
open L2 PyProof.Rows PySem.Spec PySem LamX
section
variable {X : Cx}
/-- xs.count(y), flat items -/
def rCntF (K : PySem.W.Frag) : V → List V → Hp → VK → Prop := fun x xs H Q => ∃ (p : Addr) (ys : List V) (y : V), x = .ref p ∧ xs = [y] ∧ SqL K H p ys ∧ flatV y = true ∧ ys.all flatV = true ∧ Q (.int (ys.countP (fun z => eqV z y) : Nat)) H
theorem count_flat {uy : Value} {y : V} : ∀ {ys : List V} {us : List Value}, Vals ys us → ys.all flatV = true → us.countP (eqU y) = ys.countP (fun z => eqV z y)
  | _, _, .nil, _ => rfl
  | _, _, .cons r t, f => by
    rw [List.all_cons, Bool.and_eq_true] at f
    rw [List.countP_cons, List.countP_cons, count_flat (uy := uy) t f.2, eqU_of r f.1]
theorem mt_countF : MtR X "list.count" (rCntF X.K) := by
  intro pp t τ G x xs v us Q J rx rxs h
  obtain ⟨p, ys, y, rfl, rfl, hs, fy, fys, q⟩ := h
  cases rx
  cases rxs with
  | cons ry rt =>
    rename_i uy ut
    cases rt
    obtain ⟨its, rv, ⟨⟨cls, dd, data, sl⟩, n, ho, hc, hdn, hd⟩, hlen⟩ := J.list hs
    simp only at hc hd
    subst hc hd
    refine call_meets PySem.F.slot_list_count ⟨_, ho, rfl⟩ PySem.F.entry_list_count (PySem.F.args_list_count_2 _ _) (SeqAt.list_countAt p its.toArray n dd sl uy (eqU y)) ⟨ho, fun u' hu' => mem_eqAt ry fy rv fys u' (by simpa using hu'), ?_⟩
    have ec : its.toArray.toList.countP (eqU y) = ys.countP (fun z => eqV z y) := count_flat (uy := uy) rv fys
    refine ⟨.int (ys.countP (fun z => eqV z y) : Nat), G, J.tok _, ⟨t.toks, ?_⟩, q⟩
    rw [← ec]
end
/-- a lambda handed in is called where what it lets out is wished for at the slots of the call -/
def GivesS (X : Cx) (k : Nat) (Ng : List Str) (x : Str) (sg : Scope) (g : Addr) (cdg : Value) (bg : List Stmt) (a : Str) (q : Str) (TT : (XK → Hp → VK → Prop) → Hp → VK → Prop) : Prop :=
  ∀ (f c' : Addr) (s : Shared) (H : Hp) (Q : VK) (tl : XK → Hp → VK → Prop),
    (∀ (W : WX) (pn : List (Addr × Obj)) (xe : Value → Shared → Prop) (p1 p2 : Pos), Takes ((cxOf C8.CX0 X.prog X.w X.K X.mg X.base Ng x sg g cdg X.A X.stack s H C8.E0).tr pn xe) W →
      PE ((cxOf C8.CX0 X.prog X.w X.K X.mg X.base Ng x sg g cdg X.A X.stack s H C8.E0).tr pn xe) (.Call (.Name a p1) [] [] p2) (fun σZ HZ Q => σZ[0]? = some (some (.ref f)) ∧ HZ c' = some (CodeO c' q) ∧ tl (fun cls d H' => W cls d σZ H') HZ Q)) →
    Room k (X.A.deeper (envOfC x sg s.heap.objs.size g cdg)) → H c' = some (CodeO c' q) → TT tl H Q →
    ∃ t, PSs (cxOf C8.CX0 X.prog X.w X.K X.mg X.base Ng x sg g cdg X.A X.stack s H C8.E0).nox bg t ∧ t { nx := fun _ H' => Q .non H', rt := Q } (L2.start Ng [.ref f]) H
section
variable {X : Cx} {pins : List (Addr × Obj)} {σ : L2.St} {H HZ : Hp} {s s1 : Shared}
theorem pe_actS {CXg : CXT} {Eg : XK} {Ng : List Str} {qg : Str} {sg : Scope} {g f c' : Addr} {cdg pm ctv : Value} {params : Arguments} {body : Expr} {scope : Scope} {k i : Nat} {a : Str} {pn : List (Addr × Obj)} {xe : Value → Shared → Prop} {W : WX} {tb : XK → TE} {p1 p2 : Pos}
    (I : Inv X pins σ H s) (L : LamS X.env.scope scope) (hf : s.heap.get? f = some (PySem.W.kla_obj "<lambda>" (X.env.qual ++ "<lambda>") params body scope (cloFrom X.env.cells scope.names []) pm c' ctv)) (hfn : H f = none) (hfr : f ∉ frs X.stack)
    (hbind : bindArgs (PySem.W.kla_fn "<lambda>" (X.env.qual ++ "<lambda>") params body scope (cloFrom X.env.cells scope.names []) pm (.ref c') ctv) ⟨[], []⟩ = pure [])
    (tk : Takes ((cxOf CXg X.prog X.w X.K X.mg X.base Ng qg sg g cdg X.A X.stack s H Eg).tr pn xe) W) (hr : Room (k + 1) (X.A.deeper (envOfC qg sg s.heap.objs.size g cdg)))
    (hbody : ∀ (A : Around) (outer : List Env) (s : Shared) (H : Hp) (E : XK), Room k (A.deeper (lamEnv X scope s.heap.objs.size f c')) → PE (lamCx X A outer s H E scope f c') body (tb E))
    (hN : Ng[i]? = some a) (hv : Vis sg a) (hd : (a == ("__debug__" : Str)) = false := by decide) (hcd : (a == ("__classdict__" : Str)) = false := by decide) :
    PE ((cxOf CXg X.prog X.w X.K X.mg X.base Ng qg sg g cdg X.A X.stack s H Eg).tr pn xe) (.Call (.Name a p1) [] [] p2)
      (fun σZ HZ Q => σZ[i]? = some (some (.ref f)) ∧ HZ c' = some (CodeO c' (X.env.qual ++ "<lambda>")) ∧ tb (fun cls d H' => W cls d σZ H') σ HZ Q) := by
  refine ⟨fun pz sz σz Hz Q Iz ⟨hs, hc, ht⟩ => wpAny_Call_Name_kw (thn ((pe_var (pos := p1) (i := i) hN hv hd hcd).run pz sz σz Hz (fun v H1 => v = .ref f ∧ H1 = Hz) Iz ⟨.ref f, hs, rfl, rfl⟩) fun u s2 ⟨v, H1, I1, r1, ev, eH⟩ => ?_)⟩
  subst ev; subst eH
  obtain rfl : u = Value.ref f := r1
  have at1 : s2.heap.get? f = some (PySem.W.kla_obj "<lambda>" (X.env.qual ++ "<lambda>") params body scope (cloFrom X.env.cells scope.names []) pm c' ctv) := I1.base.keep f _ hf hfn hfr (fun z => nomatch (show f ∈ ([] : List Addr) from z))
  refine PySem.W.callWith_F0 ⟨_, _, _, _, at1⟩ ?_
  have un : Un (frs X.stack) [] H H1 s.heap s2.heap := I1.base
  obtain ⟨⟨oc, vs, t, hoc, hdc, hvc⟩, _, _⟩ := I1.hok c' _ hc
  have run : codeAny (model X.prog X.w) (X.A.deeper (envOfC qg sg s.heap.objs.size g cdg)) (.call (.ref f) ⟨[], []⟩) (CR (L2.CX X.prog X.w) (envOfC qg sg s.heap.objs.size g cdg :: X.stack) X.prog X.w H1 s2 Q (fun cls d H' => W cls d σz H')) s2 := by
    refine PySem.W.kla_callFunE hr.depth at1 rfl L.co L.gen rfl ⟨c', oc, vs, t, rfl, hoc, hdc, hvc⟩ ?_
    rw [hbind]
    refine wpAny_pure (wpAny_newFunctionEnv (fun y hy => (L.own y hy).2) (fun y hy => absurd hy (by simp)) (fun h₁ hns hsb => ⟨I1.nolimit.fresh _ hsb, ?_⟩) L.kind)
    (show codeAny _ _ (.expr body (lamEnv X scope s2.heap.objs.size f c')) _ _)
    have kp : ∀ b o, s2.heap.get? b = some o → h₁.get? b = some o := fun b o e => hsb.extBut b o (Nat.ne_of_lt (Heap.lt_size e)) (Heap.get?_push_of_some _ e)
    have J : Inv (lamCx X (X.A.deeper (envOfC qg sg s.heap.objs.size g cdg)) (envOfC qg sg s.heap.objs.size g cdg :: X.stack) s2 H1 (fun cls d H' => W cls d σz H') scope f c') [] σ H1 { s2 with heap := h₁, toks := s2.toks + ([] : List (Str × Value)).length } := lam_start2 I L I1.env0 hr.hd un hns kp
    exact PySem.W.kla_codeExpr (wpAny_mono ((hbody _ _ s2 H1 _ (hr.deeper _)).run [] _ _ H1 Q J ht) (fun v s' ⟨w', H', J', rv, q⟩ => ⟨w', H', J'.os, J'.bare, J'.base, J'.hok, rv, q⟩) fun e s' hq => hq)
  refine wpAny_call (codeAny_mono run fun r s' hq => ?_)
  match r, hq with
  | .error e, hq => exact passAt tk σz pz H1 s2 e s' I1 hq
  | .ok (.ret u), hq => exact I1.after hq
  | .ok .next, hq | .ok .brk, hq | .ok .cont, hq => exact False.elim hq
theorem pe_lamS {K : PySem.W.Frag} {T : List (Addr × Str)} {TT : (XK → Hp → VK → Prop) → Hp → VK → Prop} {x a : Str} {g c P : Addr} {k : Nat} {st : Stmt} {fd : FuncData} {Ng : List Str} {params : Arguments} {body : Expr} {scope : Scope} {t : XK → TE} {p lpos pos : Pos}
    (hK : X.K = K) (F : Fun K x x st g fd) (b : Binds K fd [a] []) (hg : Gl X x) (hm : X.mg x = some (.ref g)) (Sg : FnScope Ng [a] (defScope st)) (hNg : Ng[0]? = some a) (hva : Vis (defScope st) a)
    (hG : ∀ cdv, GivesS X (k + 1) Ng x (defScope st) g cdv (defBody st) a (X.env.qual ++ "<lambda>") TT) (TB : TabB X.base X.mg c P) (hcode : X.env.code = .ref c) (hmT : (P, X.env.qual ++ "<lambda>") ∈ T) (hu : ∀ p ∈ T, p.1 = P → p.2 = X.env.qual ++ "<lambda>") (hr : Room (k + 2) X.A)
    (L : LamS X.env.scope scope) (hdef : defaultsOf params X.env = ([], [])) (hbind : ∀ (q : Str) (cl : List (Str × Addr)) (pm cv ctv : Value), bindArgs (PySem.W.kla_fn "<lambda>" q params body scope cl pm cv ctv) ⟨[], []⟩ = pure [])
    (hbody : ∀ (A : Around) (outer : List Env) (s : Shared) (H : Hp) (E : XK) (f c' : Addr), Room k (A.deeper (lamEnv X scope s.heap.objs.size f c')) → PE (lamCx X A outer s H E scope f c') body (t E))
    (hdb : (x == ("__debug__" : Str)) = false := by decide) (hd : (a == ("__debug__" : Str)) = false := by decide) (hcd : (a == ("__classdict__" : Str)) = false := by decide) : PE X (.Call (.Name x p) [.Lambda params body scope lpos] [] pos) (tLam T TT t) := by
  subst hK
  obtain ⟨oc, od, kV, doc, pm, an, cdv, ct, osl, rfl, lk, hc⟩ := F.ex
  refine ⟨fun pp t0 τ G R J ⟨hT, h⟩ => wpAny_Call_Name_kw (ld_glob J hg hm (PySem.W.callWith_K (h₀ := X.base) J.ok.mod.kin F.kp ?_ (by rfl) (by rfl)) hdb)⟩
  (show wpAny _ _ (spliced ((false, eval (.Lambda params body scope lpos) X.env) :: backTo pos (starEach [] X.env))) _ _ t0)
  refine Calls.spliced_cons (lam_make2 J TB hcode hmT hu hT hdef (L.has J.ok) fun f c' pm' ctv H1 s' I1 eN T1 hf hfn hfr hco => Calls.spliced_nil ⟨I1.kIn, ?_⟩)
  refine wpAny_call (codeAny_mono (LamX.run_ofS (N := Ng) (ps := [a]) (us := [.ref f]) (vs := [.ref f]) (CX := C8.CX0) (E := C8.E0) (Q := R) lk hc Sg hr I1.env0 (b s' [.ref f] I1.kIn rfl) (.cons rfl .nil) rfl fun hr' => ?_) fun r s2 hq => ?_)
  · obtain ⟨t', ht', hq'⟩ := hG cdv f c' s' H1 R (fun E H' Q' => t E τ H' Q') (fun W pn xe p1 p2 tk => pe_actS (i := 0) I1 L hf hfn hfr (hbind _ _ _ _ _) tk hr' (fun A outer s H E hr2 => hbody A outer s H E f c' hr2) hNg hva hd hcd) hr' hco (h H1 eN T1)
    exact ⟨t', ht'.nox, hq'⟩
  · match r, hq with
    | .error e, hq => exact (show False from hq).elim
    | .ok (.ret u), hq => exact I1.after hq
    | .ok .next, hq | .ok .brk, hq | .ok .cont, hq => exact False.elim hq
end
/-- what is no table stays -/
theorem _root_.LamX.ExtN.ex {H H' : Hp} (e : ExtN H H') : ∀ {a : Addr} {o : HO}, H a = some o → (∀ ps, o ≠ .tbl ps) → H' a = some o := fun h n => e _ _ h n
theorem Dz.en {p : Addr} {H H' : Hp} {v : V} {d : PyData} (h : Dz p H v d) (e : ExtN H H') : Dz p H' v d := by
  induction h with
  | non => exact .non
  | bl b => exact .bl b
  | int i => exact .int i
  | str x => exact .str x
  | lst h n m hl _ ih => exact .lst (e _ _ h (fun _ z => by cases z)) n m hl ih
  | tup h hl _ ih => exact .tup (e _ _ h (fun _ z => by cases z)) hl ih
  | dct h hl _ ih => exact .dct (e _ _ h (fun _ z => by cases z)) hl ih
/-- all but what stands at p, and tables -/
def XN (p : Addr) (H H' : Hp) : Prop := ∀ a o, a ≠ p → (∀ ps, o ≠ .tbl ps) → H a = some o → H' a = some o
theorem XB.xn {p : Addr} {H H' : Hp} (e : XB p H H') : XN p H H' := fun a o n _ h => e a o n h
theorem XN.tr {p : Addr} {H H1 H2 : Hp} (a : XN p H H1) (b : XN p H1 H2) : XN p H H2 := fun c o n t h => b c o n t (a c o n t h)
theorem en_xn {p : Addr} {H H' : Hp} (e : ExtN H H') : XN p H H' := fun a o _ t h => e a o h t
theorem tabs_xb {T : List (Addr × Str)} {p : Addr} {H H' : Hp} {xs : List V} (t : Tabs T H) (hp : H p = some (.lst xs)) (e : XB p H H') : Tabs T H' := fun q hq => by
  obtain ⟨ps, h1, h2, h3⟩ := t q hq
  refine ⟨ps, e _ _ (fun z => by rw [z, hp] at h1; cases h1) h1, h2, fun pos cv hc => ?_⟩
  obtain ⟨c, e1, e2⟩ := h3 pos cv hc
  exact ⟨c, e1, e _ _ (fun z => by rw [z, hp] at e2; unfold CodeO at e2; cases e2) e2⟩
/-- what isinstance says of any data -/
def isInt : V → Bool | .int _ => true | .bl _ => true | _ => false
def isBool : V → Bool | .bl _ => true | _ => false
def Kd (K : PySem.W.Frag) (H : Hp) (v : V) : Prop := ∃ t : String, TyX K H v (.type t) ∧ PySem.W.kitOne K (.type t) (.type "int") = some (isInt v) ∧ PySem.W.kitOne K (.type t) (.type "bool") = some (isBool v)
theorem kd_of {K : PySem.W.Frag} {p : Addr} {H : Hp} {v : V} {d : PyData} (h : Dz p H v d) : Kd K H v := by
  cases h with
  | non => exact ⟨_, .base .non, kit_ty (r := false) (by decide +kernel), kit_ty (r := false) (by decide +kernel)⟩
  | bl b => exact ⟨_, .base (.bl _), kit_ty (r := true) (by decide +kernel), kit_ty (r := true) (by decide +kernel)⟩
  | int i => exact ⟨_, .base (.int _), kit_ty (r := true) (by decide +kernel), kit_ty (r := false) (by decide +kernel)⟩
  | str x => exact ⟨_, .base (.str _), kit_ty (r := false) (by decide +kernel), kit_ty (r := false) (by decide +kernel)⟩
  | lst h => exact ⟨_, .base (.lst h), kit_ty (r := false) (by decide +kernel), kit_ty (r := false) (by decide +kernel)⟩
  | tup h => exact ⟨_, .base (.tup h), kit_ty (r := false) (by decide +kernel), kit_ty (r := false) (by decide +kernel)⟩
  | dct h => exact ⟨_, .base (.dK h), kit_ty (r := false) (by decide +kernel), kit_ty (r := false) (by decide +kernel)⟩
/-- an integer from lo on that is less than hi -/
def whole (v : V) (lo hi : Int) : Bool := match v with
  | .int i => decide (lo ≤ i) && decide (i < hi)
  | _ => false
theorem whole_int {v : V} {lo hi : Int} (h : whole v lo hi = true) : ∃ i, v = .int i ∧ lo ≤ i ∧ i < hi := by
  cases v with
  | int i => simp [whole] at h; exact ⟨i, rfl, h.1, h.2⟩
  | _ => simp [whole] at h
def spWholeA (K : PySem.W.Frag) : Sp := fun vs H Q _ => ∃ (v : V) (lo hi : Int), vs = [v, .int lo, .int hi] ∧ Kd K H v ∧ Q (.bl (whole v lo hi)) H
end HX
set_option Elab.async false
set_option linter.all false
set_option maxRecDepth 100000
set_option maxHeartbeats 4400000
namespace HX
open L2 PyProof.Rows PySem.Spec PySem
/-! ### a Hook by facts of one's own, and the defs as they stand -/
/-- what an object of the top leads to: a namespace to what it holds, a class to its namespace, a def to its code and defaults, a property to its defs -/
def nextO (o : Obj) : List Addr := match o.data with
  | .dict es _ => es.toList.flatMap fun e => He.refV e.val
  | .cls cd => [cd.ns]
  | .func fd => He.refV fd.code ++ (He.refV fd.defaults ++ He.refV fd.kwdefaults)
  | .fields vs => if o.cls == .type "code" then [] else vs.toList.flatMap He.refV
  | _ => []
def nextG (g : Addr → Option Obj) (as : List Addr) : List Addr := as.flatMap fun a => match g a with
  | some o => nextO o
  | none => []
def pathG (g : Addr → Option Obj) : Nat → List Addr → List Addr
  | 0, as => as
  | n + 1, as => as ++ pathG g n (nextG g as)

/-! ### defs by the address they stand at -/
structure DX where
  at_ : PySem.W.Frag → Addr
  name : Str
  qual : Str
  st : Stmt
/-- a def of the module -/
def glo (x : Str) (K : PySem.W.Frag) : Addr := He.ga K x
/-- a def of a class -/
def met (C m : Str) (K : PySem.W.Frag) : Addr := He.ma K (He.ga K C) m
/-- the getter of a property of a class -/
def prp (C f : Str) (K : PySem.W.Frag) : Addr := match PySem.W.recIn K (He.ma K (He.ga K C) f) "property" with
  | some (.ref g :: _) => g
  | _ => 0
def fnX (K : PySem.W.Frag) (a : Addr) : He.FnW := match K.lookup a with
  | some ⟨_, _, .func fd, _⟩ => some (fd.name, fd.qualname, fd.params, fd.body, fd.scope, fd.globals, fd.closure, fd.builtins)
  | _ => none
def DX.val (d : DX) : He.FnW := some (d.name, d.qual, defArgs d.st, .stmts (defBody d.st), defScope d.st, mainGlobals, [], builtinsNs)
def DX.ok (K : PySem.W.Frag) (d : DX) : Bool := PySem.W.keepIn K (.ref (d.at_ K)) && (match K.lookup (d.at_ K) with
  | some ⟨_, _, .func fd, _⟩ => PySem.W.codeIn K fd.code d.qual && decide (fd.defaults = .none)
  | _ => false)
theorem DX.fun_ {K : PySem.W.Frag} {d : DX} (e : fnX K (d.at_ K) = d.val) (c : d.ok K = true) : ∃ fd, Fun K d.name d.qual d.st (d.at_ K) fd := by
  obtain ⟨kp, c2⟩ := Bool.and_eq_true_iff.mp c
  unfold fnX at e
  cases q : K.lookup (d.at_ K) with
  | none => rw [q] at c2; cases c2
  | some o =>
    obtain ⟨oc, od, dt, osl⟩ := o
    rw [q] at c2 e
    cases dt with
    | func fd =>
      obtain ⟨n1, n2, n3, n4, n5, n6, n7, n8, n9, n10, n11, n12, n13, n14, n15⟩ := fd
      have e2 : (some (n1, n2, n3, n4, n5, n6, n7, n15) : He.FnW) = some (d.name, d.qual, defArgs d.st, .stmts (defBody d.st), defScope d.st, mainGlobals, [], builtinsNs) := e
      simp only [Option.some.injEq, Prod.mk.injEq] at e2
      obtain ⟨h1, h2, h3, h4, h5, h6, h7, h8⟩ := e2
      subst h1 h2 h3 h4 h5 h6 h7 h8
      obtain ⟨k1, k2⟩ := Bool.and_eq_true_iff.mp (show (PySem.W.codeIn K n13 d.qual && decide (n8 = .none)) = true from c2)
      have k3 : n8 = .none := of_decide_eq_true k2
      subst k3
      exact ⟨_, ⟨oc, od, n9, n10, n11, n12, n13, n14, osl, rfl, q, k1⟩, kp⟩
    | _ => cases c2
def obsX (n : Nat) (ex : PySem.W.Frag → Bool) (fn : List DX) (g : Addr → Option Obj) : He.AlD :=
  let K := He.frG g (pathG g n [mainGlobals])
  (ex K && fn.all fun d => d.ok K, fn.map fun d => fnX K (d.at_ K))
def valX (fn : List DX) : He.AlD := (true, fn.map DX.val)
def SaysX (ex : PySem.W.Frag → Bool) (fn : List DX) (K : PySem.W.Frag) : Prop := (ex K && fn.all fun d => d.ok K, fn.map fun d => fnX K (d.at_ K)) = valX fn
def hookX (n : Nat) (ex : PySem.W.Frag → Bool) (fn : List DX) : PySem.W.Hook where
  α := He.AlD
  obs := fun s => obsX n ex fn s.heap.get?
  val := fun _ => valX fn
  says := fun _ h => ∃ K : PySem.W.Frag, K.In h ∧ SaysX ex fn K
  of := fun _ _ e => ⟨_, He.frG_in, e⟩
  keeps := fun _ _ _ ⟨K, a, c⟩ k => ⟨K, PySem.W.Frag.In.keeps a k, c⟩
def obT (n : Nat) (ex : PySem.W.Frag → Bool) (fn : List DX) (s : PySem.W.SharedT) : He.AlD := obsX n ex fn (HandSHeadRun.getT s)
theorem obT_eq {n : Nat} {ex : PySem.W.Frag → Bool} {fn : List DX} (s : PySem.W.SharedT) : obT n ex fn s = (hookX n ex fn).obs s.abs := by
  have e : HandSHeadRun.getT s = s.abs.heap.get? := funext (HandSHeadRun.getT_eq s)
  unfold obT; rw [e]; rfl
theorem SaysX.facts {ex : PySem.W.Frag → Bool} {fn : List DX} {K : PySem.W.Frag} (c : SaysX ex fn K) : ex K = true := (Bool.and_eq_true_iff.mp (show (ex K && fn.all fun d => d.ok K) = true from congrArg (fun z : He.AlD => z.1) c)).1
theorem SaysX.def_ {ex : PySem.W.Frag → Bool} {fn : List DX} {K : PySem.W.Frag} (c : SaysX ex fn K) (i : Nat) {d : DX} (h : fn[i]? = some d) : ∃ fd, Fun K d.name d.qual d.st (d.at_ K) fd := by
  have c1 := (Bool.and_eq_true_iff.mp (show (ex K && fn.all fun d => d.ok K) = true from congrArg (fun z : He.AlD => z.1) c)).2
  have e : fn.map (fun d => fnX K (d.at_ K)) = fn.map DX.val := congrArg (fun z : He.AlD => z.2) c
  have e2 : (fn.map (fun d => fnX K (d.at_ K)))[i]? = (fn.map DX.val)[i]? := by rw [e]
  rw [List.getElem?_map, List.getElem?_map, h] at e2
  exact DX.fun_ (Option.some.inj e2) (List.all_eq_true.mp c1 d (List.mem_of_getElem? h))
/-! ### facts of own classes -/
def clsB (K : PySem.W.Frag) (C : Addr) : Bool := PySem.W.plainGet K C Str.empty && (PySem.W.hasDictIn K C && (PySem.W.plainOver K C && He.eqO (PySem.W.findIn K (.ref C) "__setattr__") (some (some (.builtin "object.__setattr__")))))
theorem clsB_ok {K : PySem.W.Frag} {C : Addr} (c : clsB K C = true) : Cls K C := by
  obtain ⟨c1, c⟩ := Bool.and_eq_true_iff.mp c
  obtain ⟨c2, c⟩ := Bool.and_eq_true_iff.mp c
  obtain ⟨c3, c4⟩ := Bool.and_eq_true_iff.mp c
  exact ⟨c1, c2, c3, He.eqO_ok c4⟩
def mkB (K : PySem.W.Frag) (C f : Addr) : Bool := PySem.W.makesIn K C && (He.eqO (PySem.W.findIn K (.ref C) "__init__") (some (some (.ref f))) && (PySem.W.isFn K (.ref f) && PySem.W.keepIn K (.ref C)))
theorem mkB_ok {K : PySem.W.Frag} {C f : Addr} (c : mkB K C f = true) : Mk K C f := by
  obtain ⟨c1, c⟩ := Bool.and_eq_true_iff.mp c
  obtain ⟨c2, c⟩ := Bool.and_eq_true_iff.mp c
  obtain ⟨c3, c4⟩ := Bool.and_eq_true_iff.mp c
  exact ⟨c1, He.eqO_ok c2, c3, c4⟩
def noatB (K : PySem.W.Frag) (C : Addr) (f : Str) : Bool := He.eqO (PySem.W.findIn K (.ref C) f) (some none)
theorem noatB_ok {K : PySem.W.Frag} {C : Addr} {f : Str} (c : noatB K C f = true) : NoAttr K C f := He.eqO_ok c
def propB (K : PySem.W.Frag) (C : Addr) (f : Str) (p g : Addr) : Bool := He.eqO (PySem.W.findIn K (.ref C) f) (some (some (.ref p))) && (He.eqO (PySem.W.specialIn K (.ref p) "__get__") (some (some (.builtin "property.__get__"))) &&
  (decide (PySem.W.takesIn K (.ref p) = some true) && (match PySem.W.recIn K p "property" with
    | some (.ref b :: _) => decide (b = g)
    | _ => false)))
theorem propB_ok {K : PySem.W.Frag} {C : Addr} {f : Str} {p g : Addr} (c : propB K C f p g = true) : PropOf K C f p g := by
  obtain ⟨c1, c⟩ := Bool.and_eq_true_iff.mp c
  obtain ⟨c2, c⟩ := Bool.and_eq_true_iff.mp c
  obtain ⟨c3, c4⟩ := Bool.and_eq_true_iff.mp c
  refine ⟨He.eqO_ok c1, He.eqO_ok c2, of_decide_eq_true c3, ?_⟩
  split at c4
  · rename_i b r e
    obtain rfl : b = g := of_decide_eq_true c4
    exact ⟨r, e⟩
  · cases c4
def methB (K : PySem.W.Frag) (C : Addr) (m : Str) (f : Addr) : Bool := He.eqO (PySem.W.findIn K (.ref C) m) (some (some (.ref f))) && (PySem.W.isFn K (.ref f) && PySem.W.keepIn K (.ref f))
theorem methB_ok {K : PySem.W.Frag} {C : Addr} {m : Str} {f : Addr} (c : methB K C m f = true) : Meth K C m f := by
  obtain ⟨c1, c⟩ := Bool.and_eq_true_iff.mp c
  obtain ⟨c2, c3⟩ := Bool.and_eq_true_iff.mp c
  exact ⟨He.eqO_ok c1, c2, c3⟩
/-- what isinstance and the class of an object ask -/
def isiB (K : PySem.W.Frag) (C : Addr) : Bool := He.eqO (PySem.W.findIn K (.ref C) "__class__") (some (some (.builtin "object.__class__"))) && decide (PySem.W.mroIn K C (.type "object") = some true)
theorem isiB_ok {K : PySem.W.Frag} {C : Addr} (c : isiB K C = true) : PySem.W.findIn K (.ref C) "__class__" = some (some (.builtin "object.__class__")) ∧ PySem.W.mroIn K C (.type "object") = some true := by
  obtain ⟨c1, c2⟩ := Bool.and_eq_true_iff.mp c
  exact ⟨He.eqO_ok c1, of_decide_eq_true c2⟩
/-! ### code objects and their tables -/
def cod (y : Str) (K : PySem.W.Frag) : Addr := match PySem.W.tabIn K y with
  | some p => p.1
  | none => 0
def tbl (y : Str) (K : PySem.W.Frag) : Addr := match PySem.W.tabIn K y with
  | some p => p.2
  | none => 0
def tabB (K : PySem.W.Frag) (y : Str) : Bool := decide (PySem.W.tabIn K y = some (cod y K, tbl y K)) && (K.lookup (tbl y K)).isNone
theorem tabB_ok {K : PySem.W.Frag} {y : Str} (c : tabB K y = true) : PySem.W.tabIn K y = some (cod y K, tbl y K) ∧ K.lookup (tbl y K) = none := by
  obtain ⟨c1, c2⟩ := Bool.and_eq_true_iff.mp c
  exact ⟨of_decide_eq_true c1, Option.isNone_iff_eq_none.mp c2⟩
theorem code_of {K : PySem.W.Frag} {x q y : Str} {st : Stmt} {fd : FuncData} {c P : Addr} (F : Fun K x q st (He.ga K y) fd) (h : PySem.W.tabIn K y = some (c, P)) : fd.code = .ref c := by
  obtain ⟨oc, od, kV, doc, pm, an, cdv, ct, osl, rfl, lk, hcd⟩ := F.ex
  unfold PySem.W.tabIn at h
  unfold He.ga at lk
  split at h
  · rename_i f hf
    rw [hf] at lk
    dsimp only at lk
    rw [lk] at h
    dsimp only at h
    split at h
    · split at h
      · split at h
        · cases h; first | rfl | assumption
        · cases h
      · cases h
    · cases h
  · cases h
end HX
set_option Elab.async false
set_option linter.all false
set_option maxRecDepth 100000
set_option maxHeartbeats 4400000
namespace HX
open L2 PyProof.Rows PySem.Spec PySem
open PySem.W (Frag)
/-! ### facts of own errors -/
def ExcObj (K : Frag) (C : Addr) : Prop := ∃ nm q N bs bm sn sub ab col dd k0 k1 k2 k3 k5, K.lookup C = some (excClassObj nm q C N bs bm true sn sub ab col dd k0 k1 k2 k3 k5 "ValueError.__new__") ∧ PySem.HandSPX.refsVE bm = true
theorem exc_mk {K : Frag} {C : Addr} {nm q : Str} {N : Addr} {bs bm : List Value} {sn : List Str} {sub : List Value} {ab : Bool} {col : Option Bool} {dd : Option Addr} {k0 k1 k2 k3 k5 : Option Value}
    (h : K.lookup C = some (excClassObj nm q C N bs bm true sn sub ab col dd k0 k1 k2 k3 k5 "ValueError.__new__")) (r : PySem.HandSPX.refsVE bm = true) : ExcObj K C := ⟨_, _, _, _, _, _, _, _, _, _, _, _, _, _, _, h, r⟩
/-- what an own error's class says, but for its __init__ -/
def errB0 (K : Frag) (C : Addr) : Bool :=
  (PySem.W.clsIn K C).isSome && PySem.W.findIn K (.ref C) "__getattribute__" == some (some (.builtin "BaseException.__getattribute__")) && PySem.W.findIn K (.ref C) "__getattr__" == some none
  && PySem.W.subIn K (.ref C) (.type "BaseException") == some true && PySem.W.findIn K (.ref C) "__class__" == some (some (.builtin "object.__class__"))
  && PySem.W.specialIn K (.builtin "object.__class__") "__get__" == some (some (.builtin "getset_descriptor.__get__")) && PySem.W.takesIn K (.builtin "object.__class__") == some true && PySem.W.mroIn K C (.type "object") == some true
  && PySem.W.keepIn K (.ref C)
theorem errB0_er {K : Frag} {C : Addr} (h : errB0 K C = true) : ErrC K C := by
  unfold errB0 at h
  simp only [Bool.and_eq_true, beq_iff_eq] at h
  obtain ⟨⟨⟨⟨⟨⟨⟨⟨h1, h2⟩, h3⟩, h4⟩, h5⟩, h6⟩, h7⟩, h8⟩, _⟩ := h
  exact ⟨h1, h2, h3, h4, h5, h6, h7, h8⟩
theorem errB0_keep {K : Frag} {C : Addr} (h : errB0 K C = true) : PySem.W.keepIn K (.ref C) = true := by
  unfold errB0 at h
  simp only [Bool.and_eq_true, beq_iff_eq] at h
  exact h.2
def errB (K : Frag) (C f : Addr) (n : Str) : Bool :=
  errB0 K C && PySem.W.hasDictIn K C && PySem.W.findIn K (.ref C) "__setattr__" == some (some (.builtin "object.__setattr__")) && PySem.W.typeIn K (.ref C) == some (.type "type") && PySem.W.findIn K (.ref C) n == some none
  && PySem.W.findIn K (.ref C) "__init__" == some (some (.ref f)) && PySem.W.typeIn K (.ref f) == some (.type "function")
theorem errT_mk_er {K : Frag} {C f : Addr} {n : Str} (h : errB K C f n = true) : ErrC K C := by
  unfold errB at h
  simp only [Bool.and_eq_true, beq_iff_eq] at h
  exact errB0_er h.1.1.1.1.1.1
theorem errT_mk {K : Frag} {mg : Str → Option Value} {x n : Str} {C f : Addr} {d : FuncData} (o : ExcObj K C) (h : errB K C f n = true) (b : Binds K d ["self", n] []) (kb : ∀ (s : Shared) (a u : Value), K.In s.heap → BindsTo s d ⟨[a], [(n, u)]⟩ [("self", a), (n, u)]) (m : mg x = some (.ref C)) : ErrT K mg x n C f d := by
  unfold errB at h
  simp only [Bool.and_eq_true, beq_iff_eq] at h
  obtain ⟨⟨⟨⟨⟨⟨h0, h1⟩, h2⟩, h3⟩, h4⟩, h5⟩, h6⟩ := h
  have e := errB0_er h0
  exact ⟨⟨o, h2, e.be, h3, errB0_keep h0⟩, ⟨e.ga, e.gt, e.be, h1⟩, e, h4, h5, h6, b, kb, m⟩
def mroOne (K : Frag) (T C : Addr) : Bool := (PySem.W.clsIn K C).any (fun cd => decide (cd.mro = [.ref C, .ref T, .type "ValueError", .type "Exception", .type "BaseException", .type "object"])) && decide (PySem.W.typeIn K (.ref C) = some (.type "type"))
/-- errors right below the class at T, all different -/
def mroB (K : Frag) (T : Addr) (l : List Addr) : Bool := (PySem.W.clsIn K T).isSome && (decide (PySem.W.typeIn K (.ref T) = some (.type "type")) && (l.all (mroOne K T) && (decide (l.Nodup) && l.all fun C => !(C == T))))
theorem mroOne_sub {K : Frag} {T C : Addr} {v : Value} (h : mroOne K T C = true) : PySem.W.subIn K (.ref C) v = some (([.ref C, .ref T, .type "ValueError", .type "Exception", .type "BaseException", .type "object"] : List Value).contains v) := by
  unfold mroOne at h
  rw [Bool.and_eq_true] at h
  cases e : PySem.W.clsIn K C with
  | none => rw [e] at h; cases h.1
  | some cd =>
    rw [e] at h
    have m : cd.mro = _ := of_decide_eq_true h.1
    show PySem.W.mroIn K C v = _
    unfold PySem.W.mroIn
    rw [e]
    show (if cd.mro.isEmpty = true then none else some (cd.mro.contains v)) = _
    rw [m]; rfl
theorem mroOne_cls {K : Frag} {T C : Addr} (h : mroOne K T C = true) : (PySem.W.clsIn K C).isSome = true ∧ PySem.W.typeIn K (.ref C) = some (.type "type") := by
  unfold mroOne at h
  rw [Bool.and_eq_true] at h
  refine ⟨?_, of_decide_eq_true h.2⟩
  cases e : PySem.W.clsIn K C with
  | none => rw [e] at h; cases h.1
  | some cd => rfl
theorem mroB_kit {K : Frag} {T : Addr} {l : List Addr} (h : mroB K T l = true) : ∀ C ∈ l, ∀ D ∈ l, PySem.W.kitOne K (.ref C) (.ref D) = some (C == D) := fun C hC D hD => by
  unfold mroB at h
  simp only [Bool.and_eq_true, List.all_eq_true, Bool.not_eq_true', beq_eq_false_iff_ne] at h
  obtain ⟨_, _, h1, _, h3⟩ := h
  obtain ⟨c1, c2⟩ := mroOne_cls (h1 D hD)
  have sb := mroOne_sub (v := .ref D) (h1 C hC)
  by_cases e : C = D
  · subst e; simp [PySem.W.kitOne]
  · have n1 : (C == D) = false := beq_eq_false_iff_ne.mpr e
    have n2 : ((Value.ref C) == (.ref D)) = false := by simp [e]
    rw [n1]
    have ct : ([.ref C, .ref T, .type "ValueError", .type "Exception", .type "BaseException", .type "object"] : List Value).contains (.ref D) = false := by
      have e2 : ¬ D = C := fun z => e z.symm
      have e3 : ¬ D = T := h3 D hD
      simp [e2, e3]
    rw [ct] at sb
    simp [PySem.W.kitOne, PySem.W.kitCls, n2, c1, c2, sb]
theorem mroB_te {K : Frag} {T : Addr} {l : List Addr} (h : mroB K T l = true) : ∀ C ∈ l, PySem.W.kitOne K (.ref C) (.ref T) = some true := fun C hC => by
  unfold mroB at h
  simp only [Bool.and_eq_true, List.all_eq_true, Bool.not_eq_true', beq_eq_false_iff_ne, decide_eq_true_eq] at h
  obtain ⟨t1, t2, h1, _, h3⟩ := h
  have sb := mroOne_sub (v := .ref T) (h1 C hC)
  have n2 : ((Value.ref C) == (.ref T)) = false := by simp [h3 C hC]
  have ct : ([.ref C, .ref T, .type "ValueError", .type "Exception", .type "BaseException", .type "object"] : List Value).contains (.ref T) = true := by simp
  rw [ct] at sb
  simp [PySem.W.kitOne, PySem.W.kitCls, n2, t1, t2, sb]
theorem mroB_ve {K : Frag} {T : Addr} {l : List Addr} (h : mroB K T l = true) : ∀ C ∈ l, PySem.W.kitOne K (.ref C) (.type "ValueError") = some true := fun C hC => by
  unfold mroB at h
  simp only [Bool.and_eq_true, List.all_eq_true, Bool.not_eq_true', beq_eq_false_iff_ne] at h
  obtain ⟨_, _, h1, _, _⟩ := h
  have sb := mroOne_sub (v := .type "ValueError") (h1 C hC)
  have ct : ([.ref C, .ref T, .type "ValueError", .type "Exception", .type "BaseException", .type "object"] : List Value).contains (.type "ValueError") = true := by simp
  rw [ct] at sb
  have km : PySem.W.kitMeta "ValueError" = true := by decide +kernel
  have n2 : ((Value.ref C) == (.type "ValueError")) = false := rfl
  simp [PySem.W.kitOne, PySem.W.kitCls, n2, km, sb]
theorem mroB_nd {K : Frag} {T : Addr} {l : List Addr} (h : mroB K T l = true) : l.Nodup := by
  unfold mroB at h
  simp only [Bool.and_eq_true, decide_eq_true_eq] at h
  exact h.2.2.2.1
def excB (K : Frag) (C : Addr) : Bool := match K.lookup C with
  | some ⟨.type "type", _, .cls cd, sl⟩ => (match cd.mro, sl.toList with
    | .ref D :: bm, [_, _, _, _, some (.builtin n), _] => D == C && (n == "ValueError.__new__" && (!cd.hasDel && (cd.hasDict && PySem.HandSPX.refsVE bm)))
    | _, _ => false)
  | _ => false
theorem excB_ok {K : Frag} {C : Addr} (q : excB K C = true) : ExcObj K C := by
  unfold excB at q
  split at q
  · rename_i dd cd sl ho
    split at q
    · rename_i D bm k0 k1 k2 k3 n k5 hm hs
      simp only [Bool.and_eq_true, beq_iff_eq, Bool.not_eq_true'] at q
      obtain ⟨rfl, rfl, hdel, hdi, hr⟩ := q
      obtain ⟨nm, bs, mro, ns, qn, hd, sn, sub, ab, col, del⟩ := cd
      dsimp only at hm hdel hdi
      subst hm hdel hdi
      obtain ⟨l⟩ := sl
      simp only at hs
      subst hs
      exact ⟨_, _, _, _, _, _, _, _, _, _, _, _, _, _, _, ho, hr⟩
    · cases q
  · cases q
theorem kb_of {K : Frag} {x q n : Str} {st : Stmt} {f : Addr} {fd : FuncData} (F : Fun K x q st f fd) (h : ∀ (kV doc pm : Value) (an : Option Addr) (cdv ct : Value) (a u : Value), bindArgs (PySem.W.fnOf x q (defArgs st) (defBody st) (defScope st) .none kV doc pm an cdv ct) ⟨[a], [(n, u)]⟩ = pure [(("self" : Str), a), (n, u)]) :
    ∀ (s : Shared) (a u : Value), K.In s.heap → BindsTo s fd ⟨[a], [(n, u)]⟩ [("self", a), (n, u)] := by
  obtain ⟨oc, od, kV, doc, pm, an, cdv, ct, osl, rfl, lk, hcd⟩ := F.ex
  exact fun s a u _ => .of_eq (h _ _ _ _ _ _ _ _)
theorem mroB_xte {K : Frag} {T : Addr} {l : List Addr} (h : mroB K T l = true) (hb : PySem.W.subIn K (.ref T) (.type "BaseException") = some true) : ∀ C ∈ l, PySem.W.exmOne K (.ref C) (.ref T) = some true := fun C hC => by
  have k := mroB_te h C hC
  have h2 := h
  unfold mroB at h2
  simp only [Bool.and_eq_true, List.all_eq_true, Bool.not_eq_true', beq_eq_false_iff_ne, decide_eq_true_eq] at h2
  have n2 : ((Value.ref C) == (.ref T)) = false := by simp [h2.2.2.2.2 C hC]
  unfold PySem.W.kitOne at k
  rw [n2] at k
  unfold PySem.W.exmOne
  rw [hb]
  exact k
end HX
set_option Elab.async false
set_option linter.all false
set_option maxRecDepth 100000
set_option maxHeartbeats 4400000
namespace K99
open PySem PySem.Spec PyProof.Rows L2 HX
open PySem.W (Frag)

def topS (i : Nat) : Stmt := PySem.Challenge.pw_tapedonce_k99_errors_made_with_any_value.main.body.getD i (.Pass ⟨0, 0, 0, 0⟩)
abbrev s_BadSize_init : Stmt := inClass (topS 2) 0
abbrev N_BadSize_init : List Str := ["self", "value"]
theorem sc_BadSize_init : FnScope N_BadSize_init ["self", "value"] (defScope s_BadSize_init) := ⟨rfl, rfl, rfl, by decide +kernel, rfl, by decide +kernel, by decide +kernel⟩
abbrev s_BadWorth_init : Stmt := inClass (topS 3) 0
abbrev N_BadWorth_init : List Str := ["self", "value"]
theorem sc_BadWorth_init : FnScope N_BadWorth_init ["self", "value"] (defScope s_BadWorth_init) := ⟨rfl, rfl, rfl, by decide +kernel, rfl, by decide +kernel, by decide +kernel⟩
abbrev s_BadMost_init : Stmt := inClass (topS 4) 0
abbrev N_BadMost_init : List Str := ["self", "value"]
theorem sc_BadMost_init : FnScope N_BadMost_init ["self", "value"] (defScope s_BadMost_init) := ⟨rfl, rfl, rfl, by decide +kernel, rfl, by decide +kernel, by decide +kernel⟩
abbrev s_BadItems_init : Stmt := inClass (topS 5) 0
abbrev N_BadItems_init : List Str := ["self", "value"]
theorem sc_BadItems_init : FnScope N_BadItems_init ["self", "value"] (defScope s_BadItems_init) := ⟨rfl, rfl, rfl, by decide +kernel, rfl, by decide +kernel, by decide +kernel⟩
abbrev s_BadWorld_init : Stmt := inClass (topS 6) 0
abbrev N_BadWorld_init : List Str := ["self", "value"]
theorem sc_BadWorld_init : FnScope N_BadWorld_init ["self", "value"] (defScope s_BadWorld_init) := ⟨rfl, rfl, rfl, by decide +kernel, rfl, by decide +kernel, by decide +kernel⟩
abbrev s_BadSetup_init : Stmt := inClass (topS 7) 0
abbrev N_BadSetup_init : List Str := ["self", "value"]
theorem sc_BadSetup_init : FnScope N_BadSetup_init ["self", "value"] (defScope s_BadSetup_init) := ⟨rfl, rfl, rfl, by decide +kernel, rfl, by decide +kernel, by decide +kernel⟩
abbrev s_BadStand_init : Stmt := inClass (topS 8) 0
abbrev N_BadStand_init : List Str := ["self", "value"]
theorem sc_BadStand_init : FnScope N_BadStand_init ["self", "value"] (defScope s_BadStand_init) := ⟨rfl, rfl, rfl, by decide +kernel, rfl, by decide +kernel, by decide +kernel⟩
abbrev s_BadDeed_init : Stmt := inClass (topS 9) 0
abbrev N_BadDeed_init : List Str := ["self", "value"]
theorem sc_BadDeed_init : FnScope N_BadDeed_init ["self", "value"] (defScope s_BadDeed_init) := ⟨rfl, rfl, rfl, by decide +kernel, rfl, by decide +kernel, by decide +kernel⟩
abbrev s_BadPlan_init : Stmt := inClass (topS 10) 0
abbrev N_BadPlan_init : List Str := ["self", "value"]
theorem sc_BadPlan_init : FnScope N_BadPlan_init ["self", "value"] (defScope s_BadPlan_init) := ⟨rfl, rfl, rfl, by decide +kernel, rfl, by decide +kernel, by decide +kernel⟩
abbrev s_BadKinds_init : Stmt := inClass (topS 11) 0
abbrev N_BadKinds_init : List Str := ["self", "value"]
theorem sc_BadKinds_init : FnScope N_BadKinds_init ["self", "value"] (defScope s_BadKinds_init) := ⟨rfl, rfl, rfl, by decide +kernel, rfl, by decide +kernel, by decide +kernel⟩
abbrev s_BadSteps_init : Stmt := inClass (topS 12) 0
abbrev N_BadSteps_init : List Str := ["self", "value"]
theorem sc_BadSteps_init : FnScope N_BadSteps_init ["self", "value"] (defScope s_BadSteps_init) := ⟨rfl, rfl, rfl, by decide +kernel, rfl, by decide +kernel, by decide +kernel⟩
abbrev s_BadEnd_init : Stmt := inClass (topS 13) 0
abbrev N_BadEnd_init : List Str := ["self", "value"]
theorem sc_BadEnd_init : FnScope N_BadEnd_init ["self", "value"] (defScope s_BadEnd_init) := ⟨rfl, rfl, rfl, by decide +kernel, rfl, by decide +kernel, by decide +kernel⟩
abbrev s_NoWork_init : Stmt := inClass (topS 14) 0
abbrev N_NoWork_init : List Str := ["self", "value"]
theorem sc_NoWork_init : FnScope N_NoWork_init ["self", "value"] (defScope s_NoWork_init) := ⟨rfl, rfl, rfl, by decide +kernel, rfl, by decide +kernel, by decide +kernel⟩
abbrev s_BadValues_init : Stmt := inClass (topS 15) 0
abbrev N_BadValues_init : List Str := ["self", "value"]
theorem sc_BadValues_init : FnScope N_BadValues_init ["self", "value"] (defScope s_BadValues_init) := ⟨rfl, rfl, rfl, by decide +kernel, rfl, by decide +kernel, by decide +kernel⟩
abbrev s_BadState_init : Stmt := inClass (topS 16) 0
abbrev N_BadState_init : List Str := ["self", "value"]
theorem sc_BadState_init : FnScope N_BadState_init ["self", "value"] (defScope s_BadState_init) := ⟨rfl, rfl, rfl, by decide +kernel, rfl, by decide +kernel, by decide +kernel⟩
abbrev s_BadTape_init : Stmt := inClass (topS 17) 0
abbrev N_BadTape_init : List Str := ["self", "value"]
theorem sc_BadTape_init : FnScope N_BadTape_init ["self", "value"] (defScope s_BadTape_init) := ⟨rfl, rfl, rfl, by decide +kernel, rfl, by decide +kernel, by decide +kernel⟩
abbrev s_BadStory_init : Stmt := inClass (topS 18) 0
abbrev N_BadStory_init : List Str := ["self", "value"]
theorem sc_BadStory_init : FnScope N_BadStory_init ["self", "value"] (defScope s_BadStory_init) := ⟨rfl, rfl, rfl, by decide +kernel, rfl, by decide +kernel, by decide +kernel⟩
abbrev s_BadNames_init : Stmt := inClass (topS 19) 0
abbrev N_BadNames_init : List Str := ["self", "value"]
theorem sc_BadNames_init : FnScope N_BadNames_init ["self", "value"] (defScope s_BadNames_init) := ⟨rfl, rfl, rfl, by decide +kernel, rfl, by decide +kernel, by decide +kernel⟩
abbrev s_BadPrices_init : Stmt := inClass (topS 20) 0
abbrev N_BadPrices_init : List Str := ["self", "value"]
theorem sc_BadPrices_init : FnScope N_BadPrices_init ["self", "value"] (defScope s_BadPrices_init) := ⟨rfl, rfl, rfl, by decide +kernel, rfl, by decide +kernel, by decide +kernel⟩
abbrev s_BadDoing_init : Stmt := inClass (topS 21) 0
abbrev N_BadDoing_init : List Str := ["self", "value"]
theorem sc_BadDoing_init : FnScope N_BadDoing_init ["self", "value"] (defScope s_BadDoing_init) := ⟨rfl, rfl, rfl, by decide +kernel, rfl, by decide +kernel, by decide +kernel⟩
abbrev s_NoKey_init : Stmt := inClass (topS 22) 0
abbrev N_NoKey_init : List Str := ["self", "value"]
theorem sc_NoKey_init : FnScope N_NoKey_init ["self", "value"] (defScope s_NoKey_init) := ⟨rfl, rfl, rfl, by decide +kernel, rfl, by decide +kernel, by decide +kernel⟩
abbrev s_BadChecks_init : Stmt := inClass (topS 23) 0
abbrev N_BadChecks_init : List Str := ["self", "value"]
theorem sc_BadChecks_init : FnScope N_BadChecks_init ["self", "value"] (defScope s_BadChecks_init) := ⟨rfl, rfl, rfl, by decide +kernel, rfl, by decide +kernel, by decide +kernel⟩
abbrev s_BadPlace_init : Stmt := inClass (topS 24) 0
abbrev N_BadPlace_init : List Str := ["self", "value"]
theorem sc_BadPlace_init : FnScope N_BadPlace_init ["self", "value"] (defScope s_BadPlace_init) := ⟨rfl, rfl, rfl, by decide +kernel, rfl, by decide +kernel, by decide +kernel⟩
abbrev s_NoTape_init : Stmt := inClass (topS 25) 0
abbrev N_NoTape_init : List Str := ["self", "value"]
theorem sc_NoTape_init : FnScope N_NoTape_init ["self", "value"] (defScope s_NoTape_init) := ⟨rfl, rfl, rfl, by decide +kernel, rfl, by decide +kernel, by decide +kernel⟩
abbrev s_NoName_init : Stmt := inClass (topS 26) 0
abbrev N_NoName_init : List Str := ["self", "value"]
theorem sc_NoName_init : FnScope N_NoName_init ["self", "value"] (defScope s_NoName_init) := ⟨rfl, rfl, rfl, by decide +kernel, rfl, by decide +kernel, by decide +kernel⟩
abbrev s_BadThing_init : Stmt := inClass (topS 27) 0
abbrev N_BadThing_init : List Str := ["self", "value"]
theorem sc_BadThing_init : FnScope N_BadThing_init ["self", "value"] (defScope s_BadThing_init) := ⟨rfl, rfl, rfl, by decide +kernel, rfl, by decide +kernel, by decide +kernel⟩
abbrev s_BadRoom_init : Stmt := inClass (topS 28) 0
abbrev N_BadRoom_init : List Str := ["self", "value"]
theorem sc_BadRoom_init : FnScope N_BadRoom_init ["self", "value"] (defScope s_BadRoom_init) := ⟨rfl, rfl, rfl, by decide +kernel, rfl, by decide +kernel, by decide +kernel⟩
abbrev s_BadCommand_init : Stmt := inClass (topS 29) 0
abbrev N_BadCommand_init : List Str := ["self", "value"]
theorem sc_BadCommand_init : FnScope N_BadCommand_init ["self", "value"] (defScope s_BadCommand_init) := ⟨rfl, rfl, rfl, by decide +kernel, rfl, by decide +kernel, by decide +kernel⟩
abbrev s_Fault_init : Stmt := inClass (topS 30) 0
abbrev N_Fault_init : List Str := ["self", "words"]
theorem sc_Fault_init : FnScope N_Fault_init ["self", "words"] (defScope s_Fault_init) := ⟨rfl, rfl, rfl, by decide +kernel, rfl, by decide +kernel, by decide +kernel⟩
abbrev s_TooMany_init : Stmt := inClass (topS 31) 0
abbrev N_TooMany_init : List Str := ["self", "number"]
theorem sc_TooMany_init : FnScope N_TooMany_init ["self", "number"] (defScope s_TooMany_init) := ⟨rfl, rfl, rfl, by decide +kernel, rfl, by decide +kernel, by decide +kernel⟩
abbrev s_BadLine_init : Stmt := inClass (topS 32) 0
abbrev N_BadLine_init : List Str := ["self", "number"]
theorem sc_BadLine_init : FnScope N_BadLine_init ["self", "number"] (defScope s_BadLine_init) := ⟨rfl, rfl, rfl, by decide +kernel, rfl, by decide +kernel, by decide +kernel⟩
abbrev s_BadBytes_init : Stmt := inClass (topS 33) 0
abbrev N_BadBytes_init : List Str := ["self", "at"]
theorem sc_BadBytes_init : FnScope N_BadBytes_init ["self", "at"] (defScope s_BadBytes_init) := ⟨rfl, rfl, rfl, by decide +kernel, rfl, by decide +kernel, by decide +kernel⟩
abbrev s_Wrong_init : Stmt := inClass (topS 34) 0
abbrev N_Wrong_init : List Str := ["self", "story"]
theorem sc_Wrong_init : FnScope N_Wrong_init ["self", "story"] (defScope s_Wrong_init) := ⟨rfl, rfl, rfl, by decide +kernel, rfl, by decide +kernel, by decide +kernel⟩
abbrev s_pot : Stmt := topS 39
abbrev N_pot : List Str := ["_law_script", "_law_k", "_law_cell", "_law_mine"]
theorem sc_pot : FnScope N_pot ["_law_script", "_law_k"] (defScope s_pot) := ⟨rfl, rfl, rfl, by decide +kernel, rfl, by decide +kernel, by decide +kernel⟩
abbrev s_take : Stmt := topS 40
abbrev N_take : List Str := ["_law_pot_here", "_law_upto", "_law_digit", "_law_prime", "_law_mixed"]
theorem sc_take : FnScope N_take ["_law_pot_here", "_law_upto"] (defScope s_take) := ⟨rfl, rfl, rfl, by decide +kernel, rfl, by decide +kernel, by decide +kernel⟩
abbrev s_of : Stmt := topS 41
abbrev N_of : List Str := ["_law_pot_here", "_law_some"]
theorem sc_of : FnScope N_of ["_law_pot_here", "_law_some"] (defScope s_of) := ⟨rfl, rfl, rfl, by decide +kernel, rfl, by decide +kernel, by decide +kernel⟩
abbrev s_any : Stmt := topS 42
abbrev N_any : List Str := ["_law_pot_here", "_law_some", "_law_found", "_law_turn"]
theorem sc_any : FnScope N_any ["_law_pot_here"] (defScope s_any) := ⟨rfl, rfl, rfl, by decide +kernel, rfl, by decide +kernel, by decide +kernel⟩
abbrev s_made : Stmt := topS 43
abbrev N_made : List Str := ["_law_thing", "_law_found"]
theorem sc_made : FnScope N_made ["_law_thing"] (defScope s_made) := ⟨rfl, rfl, rfl, by decide +kernel, rfl, by decide +kernel, by decide +kernel⟩
abbrev s_made_by_name : Stmt := topS 44
abbrev N_made_by_name : List Str := ["_law_thing", "_law_found"]
theorem sc_made_by_name : FnScope N_made_by_name ["_law_thing"] (defScope s_made_by_name) := ⟨rfl, rfl, rfl, by decide +kernel, rfl, by decide +kernel, by decide +kernel⟩
abbrev s_first_marks : Stmt := topS 45
abbrev N_first_marks : List Str := ["_law_e", "_law_found"]
theorem sc_first_marks : FnScope N_first_marks ["_law_e"] (defScope s_first_marks) := ⟨rfl, rfl, rfl, by decide +kernel, rfl, by decide +kernel, by decide +kernel⟩
abbrev s_later_marks : Stmt := topS 46
abbrev N_later_marks : List Str := ["_law_e", "_law_found"]
theorem sc_later_marks : FnScope N_later_marks ["_law_e"] (defScope s_later_marks) := ⟨rfl, rfl, rfl, by decide +kernel, rfl, by decide +kernel, by decide +kernel⟩
abbrev s_marks : Stmt := topS 47
abbrev N_marks : List Str := ["_law_error", "_law_place", "_law_is_so"]
theorem sc_marks : FnScope N_marks ["_law_error"] (defScope s_marks) := ⟨rfl, rfl, rfl, by decide +kernel, rfl, by decide +kernel, by decide +kernel⟩
abbrev s_others : Stmt := topS 48
abbrev N_others : List Str := ["_law_thing", "_law_found"]
theorem sc_others : FnScope N_others ["_law_thing"] (defScope s_others) := ⟨rfl, rfl, rfl, by decide +kernel, rfl, by decide +kernel, by decide +kernel⟩
abbrev s_right : Stmt := topS 49
abbrev N_right : List Str := ["_law_pot_here", "_law_thing", "_law_before", "_law_errors", "_law_trios", "_law_named", "_law_rest", "_law_trio", "_law_error", "_law_place"]
theorem sc_right : FnScope N_right ["_law_pot_here"] (defScope s_right) := ⟨rfl, rfl, rfl, by decide +kernel, rfl, by decide +kernel, by decide +kernel⟩
abbrev s_law : Stmt := topS 50
abbrev N_law : List Str := ["_law_script", "_law_k", "_law_pot_here", "_law_turn"]
theorem sc_law : FnScope N_law ["_law_script"] (defScope s_law) := ⟨rfl, rfl, rfl, by decide +kernel, rfl, by decide +kernel, by decide +kernel⟩
structure Ad where
  C_TapeError : Addr
  C_BadSize : Addr
  C_BadWorth : Addr
  C_BadMost : Addr
  C_BadItems : Addr
  C_BadWorld : Addr
  C_BadSetup : Addr
  C_BadStand : Addr
  C_BadDeed : Addr
  C_BadPlan : Addr
  C_BadKinds : Addr
  C_BadSteps : Addr
  C_BadEnd : Addr
  C_NoWork : Addr
  C_BadValues : Addr
  C_BadState : Addr
  C_BadTape : Addr
  C_BadStory : Addr
  C_BadNames : Addr
  C_BadPrices : Addr
  C_BadDoing : Addr
  C_NoKey : Addr
  C_BadChecks : Addr
  C_BadPlace : Addr
  C_NoTape : Addr
  C_NoName : Addr
  C_BadThing : Addr
  C_BadRoom : Addr
  C_BadCommand : Addr
  C_Fault : Addr
  C_TooMany : Addr
  C_BadLine : Addr
  C_BadBytes : Addr
  C_Wrong : Addr
  C_Empty : Addr
  C_NothingToUndo : Addr
  C_NothingToRedo : Addr
  f_pot : Addr
  d_pot : FuncData
  f_take : Addr
  d_take : FuncData
  f_of : Addr
  d_of : FuncData
  f_any : Addr
  d_any : FuncData
  f_BadSize_init : Addr
  d_BadSize_init : FuncData
  f_BadWorth_init : Addr
  d_BadWorth_init : FuncData
  f_BadMost_init : Addr
  d_BadMost_init : FuncData
  f_BadItems_init : Addr
  d_BadItems_init : FuncData
  f_BadWorld_init : Addr
  d_BadWorld_init : FuncData
  f_BadSetup_init : Addr
  d_BadSetup_init : FuncData
  f_BadStand_init : Addr
  d_BadStand_init : FuncData
  f_BadDeed_init : Addr
  d_BadDeed_init : FuncData
  f_BadPlan_init : Addr
  d_BadPlan_init : FuncData
  f_BadKinds_init : Addr
  d_BadKinds_init : FuncData
  f_BadSteps_init : Addr
  d_BadSteps_init : FuncData
  f_BadEnd_init : Addr
  d_BadEnd_init : FuncData
  f_NoWork_init : Addr
  d_NoWork_init : FuncData
  f_BadValues_init : Addr
  d_BadValues_init : FuncData
  f_BadState_init : Addr
  d_BadState_init : FuncData
  f_BadTape_init : Addr
  d_BadTape_init : FuncData
  f_BadStory_init : Addr
  d_BadStory_init : FuncData
  f_BadNames_init : Addr
  d_BadNames_init : FuncData
  f_BadPrices_init : Addr
  d_BadPrices_init : FuncData
  f_BadDoing_init : Addr
  d_BadDoing_init : FuncData
  f_NoKey_init : Addr
  d_NoKey_init : FuncData
  f_BadChecks_init : Addr
  d_BadChecks_init : FuncData
  f_BadPlace_init : Addr
  d_BadPlace_init : FuncData
  f_NoTape_init : Addr
  d_NoTape_init : FuncData
  f_NoName_init : Addr
  d_NoName_init : FuncData
  f_BadThing_init : Addr
  d_BadThing_init : FuncData
  f_BadRoom_init : Addr
  d_BadRoom_init : FuncData
  f_BadCommand_init : Addr
  d_BadCommand_init : FuncData
  f_Fault_init : Addr
  d_Fault_init : FuncData
  f_TooMany_init : Addr
  d_TooMany_init : FuncData
  f_BadLine_init : Addr
  d_BadLine_init : FuncData
  f_BadBytes_init : Addr
  d_BadBytes_init : FuncData
  f_Wrong_init : Addr
  d_Wrong_init : FuncData
  f_made : Addr
  d_made : FuncData
  f_made_by_name : Addr
  d_made_by_name : FuncData
  f_first_marks : Addr
  d_first_marks : FuncData
  f_later_marks : Addr
  d_later_marks : FuncData
  f_marks : Addr
  d_marks : FuncData
  f_others : Addr
  d_others : FuncData
  f_right : Addr
  d_right : FuncData
  f_law : Addr
  d_law : FuncData
def cs28 (A : Ad) : List Addr := [A.C_BadSize, A.C_BadWorth, A.C_BadMost, A.C_BadItems, A.C_BadWorld, A.C_BadSetup, A.C_BadStand, A.C_BadDeed, A.C_BadPlan, A.C_BadKinds, A.C_BadSteps, A.C_BadEnd, A.C_NoWork, A.C_BadValues, A.C_BadState, A.C_BadTape, A.C_BadStory, A.C_BadNames, A.C_BadPrices, A.C_BadDoing, A.C_NoKey, A.C_BadChecks, A.C_BadPlace, A.C_NoTape, A.C_NoName, A.C_BadThing, A.C_BadRoom, A.C_BadCommand]
def cs36 (A : Ad) : List Addr := [A.C_BadSize, A.C_BadWorth, A.C_BadMost, A.C_BadItems, A.C_BadWorld, A.C_BadSetup, A.C_BadStand, A.C_BadDeed, A.C_BadPlan, A.C_BadKinds, A.C_BadSteps, A.C_BadEnd, A.C_NoWork, A.C_BadValues, A.C_BadState, A.C_BadTape, A.C_BadStory, A.C_BadNames, A.C_BadPrices, A.C_BadDoing, A.C_NoKey, A.C_BadChecks, A.C_BadPlace, A.C_NoTape, A.C_NoName, A.C_BadThing, A.C_BadRoom, A.C_BadCommand, A.C_Fault, A.C_TooMany, A.C_BadLine, A.C_BadBytes, A.C_Wrong, A.C_Empty, A.C_NothingToUndo, A.C_NothingToRedo]
structure Txt (K : Frag) (mg : Str → Option Value) (A : Ad) : Prop where
  F_pot : Fun K "_law_pot" "_law_pot" s_pot A.f_pot A.d_pot
  b_pot : Binds K A.d_pot ["_law_script", "_law_k"] []
  m_pot : mg "_law_pot" = some (.ref A.f_pot)
  F_take : Fun K "_law_take" "_law_take" s_take A.f_take A.d_take
  b_take : Binds K A.d_take ["_law_pot_here", "_law_upto"] []
  m_take : mg "_law_take" = some (.ref A.f_take)
  F_of : Fun K "_law_of" "_law_of" s_of A.f_of A.d_of
  b_of : Binds K A.d_of ["_law_pot_here", "_law_some"] []
  m_of : mg "_law_of" = some (.ref A.f_of)
  F_any : Fun K "_law_any" "_law_any" s_any A.f_any A.d_any
  b_any : Binds K A.d_any ["_law_pot_here"] []
  m_any : mg "_law_any" = some (.ref A.f_any)
  F_BadSize_init : Fun K "__init__" "BadSize.__init__" s_BadSize_init A.f_BadSize_init A.d_BadSize_init
  F_BadWorth_init : Fun K "__init__" "BadWorth.__init__" s_BadWorth_init A.f_BadWorth_init A.d_BadWorth_init
  F_BadMost_init : Fun K "__init__" "BadMost.__init__" s_BadMost_init A.f_BadMost_init A.d_BadMost_init
  F_BadItems_init : Fun K "__init__" "BadItems.__init__" s_BadItems_init A.f_BadItems_init A.d_BadItems_init
  F_BadWorld_init : Fun K "__init__" "BadWorld.__init__" s_BadWorld_init A.f_BadWorld_init A.d_BadWorld_init
  F_BadSetup_init : Fun K "__init__" "BadSetup.__init__" s_BadSetup_init A.f_BadSetup_init A.d_BadSetup_init
  F_BadStand_init : Fun K "__init__" "BadStand.__init__" s_BadStand_init A.f_BadStand_init A.d_BadStand_init
  F_BadDeed_init : Fun K "__init__" "BadDeed.__init__" s_BadDeed_init A.f_BadDeed_init A.d_BadDeed_init
  F_BadPlan_init : Fun K "__init__" "BadPlan.__init__" s_BadPlan_init A.f_BadPlan_init A.d_BadPlan_init
  F_BadKinds_init : Fun K "__init__" "BadKinds.__init__" s_BadKinds_init A.f_BadKinds_init A.d_BadKinds_init
  F_BadSteps_init : Fun K "__init__" "BadSteps.__init__" s_BadSteps_init A.f_BadSteps_init A.d_BadSteps_init
  F_BadEnd_init : Fun K "__init__" "BadEnd.__init__" s_BadEnd_init A.f_BadEnd_init A.d_BadEnd_init
  F_NoWork_init : Fun K "__init__" "NoWork.__init__" s_NoWork_init A.f_NoWork_init A.d_NoWork_init
  F_BadValues_init : Fun K "__init__" "BadValues.__init__" s_BadValues_init A.f_BadValues_init A.d_BadValues_init
  F_BadState_init : Fun K "__init__" "BadState.__init__" s_BadState_init A.f_BadState_init A.d_BadState_init
  F_BadTape_init : Fun K "__init__" "BadTape.__init__" s_BadTape_init A.f_BadTape_init A.d_BadTape_init
  F_BadStory_init : Fun K "__init__" "BadStory.__init__" s_BadStory_init A.f_BadStory_init A.d_BadStory_init
  F_BadNames_init : Fun K "__init__" "BadNames.__init__" s_BadNames_init A.f_BadNames_init A.d_BadNames_init
  F_BadPrices_init : Fun K "__init__" "BadPrices.__init__" s_BadPrices_init A.f_BadPrices_init A.d_BadPrices_init
  F_BadDoing_init : Fun K "__init__" "BadDoing.__init__" s_BadDoing_init A.f_BadDoing_init A.d_BadDoing_init
  F_NoKey_init : Fun K "__init__" "NoKey.__init__" s_NoKey_init A.f_NoKey_init A.d_NoKey_init
  F_BadChecks_init : Fun K "__init__" "BadChecks.__init__" s_BadChecks_init A.f_BadChecks_init A.d_BadChecks_init
  F_BadPlace_init : Fun K "__init__" "BadPlace.__init__" s_BadPlace_init A.f_BadPlace_init A.d_BadPlace_init
  F_NoTape_init : Fun K "__init__" "NoTape.__init__" s_NoTape_init A.f_NoTape_init A.d_NoTape_init
  F_NoName_init : Fun K "__init__" "NoName.__init__" s_NoName_init A.f_NoName_init A.d_NoName_init
  F_BadThing_init : Fun K "__init__" "BadThing.__init__" s_BadThing_init A.f_BadThing_init A.d_BadThing_init
  F_BadRoom_init : Fun K "__init__" "BadRoom.__init__" s_BadRoom_init A.f_BadRoom_init A.d_BadRoom_init
  F_BadCommand_init : Fun K "__init__" "BadCommand.__init__" s_BadCommand_init A.f_BadCommand_init A.d_BadCommand_init
  F_Fault_init : Fun K "__init__" "Fault.__init__" s_Fault_init A.f_Fault_init A.d_Fault_init
  F_TooMany_init : Fun K "__init__" "TooMany.__init__" s_TooMany_init A.f_TooMany_init A.d_TooMany_init
  F_BadLine_init : Fun K "__init__" "BadLine.__init__" s_BadLine_init A.f_BadLine_init A.d_BadLine_init
  F_BadBytes_init : Fun K "__init__" "BadBytes.__init__" s_BadBytes_init A.f_BadBytes_init A.d_BadBytes_init
  F_Wrong_init : Fun K "__init__" "Wrong.__init__" s_Wrong_init A.f_Wrong_init A.d_Wrong_init
  F_made : Fun K "_law_made" "_law_made" s_made A.f_made A.d_made
  b_made : Binds K A.d_made ["_law_thing"] []
  m_made : mg "_law_made" = some (.ref A.f_made)
  F_made_by_name : Fun K "_law_made_by_name" "_law_made_by_name" s_made_by_name A.f_made_by_name A.d_made_by_name
  b_made_by_name : Binds K A.d_made_by_name ["_law_thing"] []
  m_made_by_name : mg "_law_made_by_name" = some (.ref A.f_made_by_name)
  F_first_marks : Fun K "_law_first_marks" "_law_first_marks" s_first_marks A.f_first_marks A.d_first_marks
  b_first_marks : Binds K A.d_first_marks ["_law_e"] []
  m_first_marks : mg "_law_first_marks" = some (.ref A.f_first_marks)
  F_later_marks : Fun K "_law_later_marks" "_law_later_marks" s_later_marks A.f_later_marks A.d_later_marks
  b_later_marks : Binds K A.d_later_marks ["_law_e"] []
  m_later_marks : mg "_law_later_marks" = some (.ref A.f_later_marks)
  F_marks : Fun K "_law_marks" "_law_marks" s_marks A.f_marks A.d_marks
  b_marks : Binds K A.d_marks ["_law_error"] []
  m_marks : mg "_law_marks" = some (.ref A.f_marks)
  F_others : Fun K "_law_others" "_law_others" s_others A.f_others A.d_others
  b_others : Binds K A.d_others ["_law_thing"] []
  m_others : mg "_law_others" = some (.ref A.f_others)
  F_right : Fun K "_law_right" "_law_right" s_right A.f_right A.d_right
  b_right : Binds K A.d_right ["_law_pot_here"] []
  m_right : mg "_law_right" = some (.ref A.f_right)
  F_law : Fun K "law" "law" s_law A.f_law A.d_law
  b_law : Binds K A.d_law ["_law_script"] []
  m_law : mg "law" = some (.ref A.f_law)
  E_BadSize : ErrT K mg "BadSize" "value" A.C_BadSize A.f_BadSize_init A.d_BadSize_init
  E_BadWorth : ErrT K mg "BadWorth" "value" A.C_BadWorth A.f_BadWorth_init A.d_BadWorth_init
  E_BadMost : ErrT K mg "BadMost" "value" A.C_BadMost A.f_BadMost_init A.d_BadMost_init
  E_BadItems : ErrT K mg "BadItems" "value" A.C_BadItems A.f_BadItems_init A.d_BadItems_init
  E_BadWorld : ErrT K mg "BadWorld" "value" A.C_BadWorld A.f_BadWorld_init A.d_BadWorld_init
  E_BadSetup : ErrT K mg "BadSetup" "value" A.C_BadSetup A.f_BadSetup_init A.d_BadSetup_init
  E_BadStand : ErrT K mg "BadStand" "value" A.C_BadStand A.f_BadStand_init A.d_BadStand_init
  E_BadDeed : ErrT K mg "BadDeed" "value" A.C_BadDeed A.f_BadDeed_init A.d_BadDeed_init
  E_BadPlan : ErrT K mg "BadPlan" "value" A.C_BadPlan A.f_BadPlan_init A.d_BadPlan_init
  E_BadKinds : ErrT K mg "BadKinds" "value" A.C_BadKinds A.f_BadKinds_init A.d_BadKinds_init
  E_BadSteps : ErrT K mg "BadSteps" "value" A.C_BadSteps A.f_BadSteps_init A.d_BadSteps_init
  E_BadEnd : ErrT K mg "BadEnd" "value" A.C_BadEnd A.f_BadEnd_init A.d_BadEnd_init
  E_NoWork : ErrT K mg "NoWork" "value" A.C_NoWork A.f_NoWork_init A.d_NoWork_init
  E_BadValues : ErrT K mg "BadValues" "value" A.C_BadValues A.f_BadValues_init A.d_BadValues_init
  E_BadState : ErrT K mg "BadState" "value" A.C_BadState A.f_BadState_init A.d_BadState_init
  E_BadTape : ErrT K mg "BadTape" "value" A.C_BadTape A.f_BadTape_init A.d_BadTape_init
  E_BadStory : ErrT K mg "BadStory" "value" A.C_BadStory A.f_BadStory_init A.d_BadStory_init
  E_BadNames : ErrT K mg "BadNames" "value" A.C_BadNames A.f_BadNames_init A.d_BadNames_init
  E_BadPrices : ErrT K mg "BadPrices" "value" A.C_BadPrices A.f_BadPrices_init A.d_BadPrices_init
  E_BadDoing : ErrT K mg "BadDoing" "value" A.C_BadDoing A.f_BadDoing_init A.d_BadDoing_init
  E_NoKey : ErrT K mg "NoKey" "value" A.C_NoKey A.f_NoKey_init A.d_NoKey_init
  E_BadChecks : ErrT K mg "BadChecks" "value" A.C_BadChecks A.f_BadChecks_init A.d_BadChecks_init
  E_BadPlace : ErrT K mg "BadPlace" "value" A.C_BadPlace A.f_BadPlace_init A.d_BadPlace_init
  E_NoTape : ErrT K mg "NoTape" "value" A.C_NoTape A.f_NoTape_init A.d_NoTape_init
  E_NoName : ErrT K mg "NoName" "value" A.C_NoName A.f_NoName_init A.d_NoName_init
  E_BadThing : ErrT K mg "BadThing" "value" A.C_BadThing A.f_BadThing_init A.d_BadThing_init
  E_BadRoom : ErrT K mg "BadRoom" "value" A.C_BadRoom A.f_BadRoom_init A.d_BadRoom_init
  E_BadCommand : ErrT K mg "BadCommand" "value" A.C_BadCommand A.f_BadCommand_init A.d_BadCommand_init
  E_Fault : ErrT K mg "Fault" "words" A.C_Fault A.f_Fault_init A.d_Fault_init
  E_TooMany : ErrT K mg "TooMany" "number" A.C_TooMany A.f_TooMany_init A.d_TooMany_init
  E_BadLine : ErrT K mg "BadLine" "number" A.C_BadLine A.f_BadLine_init A.d_BadLine_init
  E_BadBytes : ErrT K mg "BadBytes" "at" A.C_BadBytes A.f_BadBytes_init A.d_BadBytes_init
  E_Wrong : ErrT K mg "Wrong" "story" A.C_Wrong A.f_Wrong_init A.d_Wrong_init
  m_TapeError : mg "TapeError" = some (.ref A.C_TapeError)
  m_BadSize : mg "BadSize" = some (.ref A.C_BadSize)
  m_BadWorth : mg "BadWorth" = some (.ref A.C_BadWorth)
  m_BadMost : mg "BadMost" = some (.ref A.C_BadMost)
  m_BadItems : mg "BadItems" = some (.ref A.C_BadItems)
  m_BadWorld : mg "BadWorld" = some (.ref A.C_BadWorld)
  m_BadSetup : mg "BadSetup" = some (.ref A.C_BadSetup)
  m_BadStand : mg "BadStand" = some (.ref A.C_BadStand)
  m_BadDeed : mg "BadDeed" = some (.ref A.C_BadDeed)
  m_BadPlan : mg "BadPlan" = some (.ref A.C_BadPlan)
  m_BadKinds : mg "BadKinds" = some (.ref A.C_BadKinds)
  m_BadSteps : mg "BadSteps" = some (.ref A.C_BadSteps)
  m_BadEnd : mg "BadEnd" = some (.ref A.C_BadEnd)
  m_NoWork : mg "NoWork" = some (.ref A.C_NoWork)
  m_BadValues : mg "BadValues" = some (.ref A.C_BadValues)
  m_BadState : mg "BadState" = some (.ref A.C_BadState)
  m_BadTape : mg "BadTape" = some (.ref A.C_BadTape)
  m_BadStory : mg "BadStory" = some (.ref A.C_BadStory)
  m_BadNames : mg "BadNames" = some (.ref A.C_BadNames)
  m_BadPrices : mg "BadPrices" = some (.ref A.C_BadPrices)
  m_BadDoing : mg "BadDoing" = some (.ref A.C_BadDoing)
  m_NoKey : mg "NoKey" = some (.ref A.C_NoKey)
  m_BadChecks : mg "BadChecks" = some (.ref A.C_BadChecks)
  m_BadPlace : mg "BadPlace" = some (.ref A.C_BadPlace)
  m_NoTape : mg "NoTape" = some (.ref A.C_NoTape)
  m_NoName : mg "NoName" = some (.ref A.C_NoName)
  m_BadThing : mg "BadThing" = some (.ref A.C_BadThing)
  m_BadRoom : mg "BadRoom" = some (.ref A.C_BadRoom)
  m_BadCommand : mg "BadCommand" = some (.ref A.C_BadCommand)
  m_Fault : mg "Fault" = some (.ref A.C_Fault)
  m_TooMany : mg "TooMany" = some (.ref A.C_TooMany)
  m_BadLine : mg "BadLine" = some (.ref A.C_BadLine)
  m_BadBytes : mg "BadBytes" = some (.ref A.C_BadBytes)
  m_Wrong : mg "Wrong" = some (.ref A.C_Wrong)
  m_Empty : mg "Empty" = some (.ref A.C_Empty)
  m_NothingToUndo : mg "NothingToUndo" = some (.ref A.C_NothingToUndo)
  m_NothingToRedo : mg "NothingToRedo" = some (.ref A.C_NothingToRedo)
  x_Empty : PySem.W.excIn K A.C_Empty [.type "ValueError", .type "Exception", .type "BaseException", .type "object"] "ValueError.__new__" = true
  k_Empty : PySem.W.keepIn K (.ref A.C_Empty) = true
  x_NothingToUndo : PySem.W.excIn K A.C_NothingToUndo [.type "ValueError", .type "Exception", .type "BaseException", .type "object"] "ValueError.__new__" = true
  k_NothingToUndo : PySem.W.keepIn K (.ref A.C_NothingToUndo) = true
  x_NothingToRedo : PySem.W.excIn K A.C_NothingToRedo [.type "ValueError", .type "Exception", .type "BaseException", .type "object"] "ValueError.__new__" = true
  k_NothingToRedo : PySem.W.keepIn K (.ref A.C_NothingToRedo) = true
  er : ∀ C ∈ cs36 A, ErrC K C
  kit : ∀ C ∈ cs36 A, ∀ D ∈ cs36 A, PySem.W.kitOne K (.ref C) (.ref D) = some (C == D)
  kte : ∀ C ∈ cs36 A, PySem.W.kitOne K (.ref C) (.ref A.C_TapeError) = some true
  kve : ∀ C ∈ cs36 A, PySem.W.kitOne K (.ref C) (.type "ValueError") = some true
  nd : (cs36 A).Nodup
  g_int : mg "int" = none
  g_len : mg "len" = none
  g_abs : mg "abs" = none
  g_range : mg "range" = none
  g_isinstance : mg "isinstance" = none
  g_enumerate : mg "enumerate" = none
  g_repr : mg "repr" = none
  g_all : mg "all" = none
  g_ValueError : mg "ValueError" = none

theorem at_ints {ns : List Int} {i : Int} (h0 : 0 ≤ i) (h1 : i < (ns.length : Int)) : ∃ z : Int, atI (ns.map V.int) i = some (.int z) := by
  obtain ⟨j, rfl⟩ := Int.eq_ofNat_of_zero_le h0
  have hj : j < ns.length := by omega
  exact ⟨ns[j], atI_nat (by rw [List.getElem?_map, List.getElem?_eq_getElem hj]; rfl)⟩
/-- a pot of draws stands at p; at most n were mixed -/
def PotAt (H : Hp) (p : Addr) (n : Int) : Prop := ∃ a b c : Int, H p = some (.lst [.int a, .int b, .int c]) ∧ 0 ≤ a ∧ 0 ≤ b ∧ b < 2305843009213693921 ∧ 0 ≤ c ∧ c ≤ n
theorem PotAt.mono {H : Hp} {p : Addr} {n m : Int} (h : PotAt H p n) (e : n ≤ m) : PotAt H p m := let ⟨a, b, c, h0, h1, h2, h3, h4, h5⟩ := h; ⟨a, b, c, h0, h1, h2, h3, h4, Int.le_trans h5 e⟩
theorem PotAt.some {H : Hp} {p : Addr} {n : Int} (h : PotAt H p n) : ∃ o, H p = some o := let ⟨_, _, _, h0, _⟩ := h; ⟨_, h0⟩
theorem PotAt.ex {H H' : Hp} {p : Addr} {n : Int} (h : PotAt H p n) (e : Ex H H') : PotAt H' p n := let ⟨a, b, c, h0, hr⟩ := h; ⟨a, b, c, e _ _ h0, hr⟩
def spPot (K : Frag) : Sp := fun vs H Q _ => ∃ (a : Addr) (ns : List Int) (i : Int), vs = [.ref a, .int i] ∧ SqL K H a (ns.map V.int) ∧ 0 ≤ i ∧ i ≤ 3 ∧ ∀ (p : Addr) (H' : Hp), H p = none → Ex H H' → PotAt H' p 0 → Q (.ref p) H'
def spTake : Sp := fun vs H Q _ => ∃ (p : Addr) (n N : Int), vs = [.ref p, .int n] ∧ PotAt H p N ∧ 0 < n ∧ n < 1000 ∧ N ≤ 100000 ∧ ∀ (d : Int) (H' : Hp), 0 ≤ d → d < n → XB p H H' → PotAt H' p (N + 1) → Q (.int d) H'
/-- an item of a list is drawn -/
def spOf (K : Frag) : Sp := fun vs H Q _ => ∃ (p l : Addr) (xs : List V) (N : Int), vs = [.ref p, .ref l] ∧ PotAt H p N ∧ SqL K H l xs ∧ l ≠ p ∧ 0 < xs.length ∧ xs.length < 1000 ∧ N ≤ 100000 ∧
  ∀ (i : Nat) (v : V) (H' : Hp), xs[i]? = some v → XB p H H' → PotAt H' p (N + 1) → Q v H'
theorem sql_xb {K : Frag} {H H' : Hp} {a p : Addr} {xs : List V} (h : SqL K H a xs) (n : a ≠ p) (e : XB p H H') : SqL K H' a xs := by
  rcases h with (h | ⟨o, h⟩) | h
  · exact .inl (.inl (e _ _ n h))
  · exact .inl (.inr ⟨o, e _ _ n h⟩)
  · exact .inr h
theorem sql_ex {K : Frag} {H H' : Hp} {a : Addr} {xs : List V} (h : SqL K H a xs) (e : Ex H H') : SqL K H' a xs := by
  rcases h with (h | ⟨o, h⟩) | h
  · exact .inl (.inl (e _ _ h))
  · exact .inl (.inr ⟨o, e _ _ h⟩)
  · exact .inr h
theorem ite_b (b : Bool) : -(2 ^ 64) < (if b = true then (1 : Int) else 0) ∧ (if b = true then (1 : Int) else 0) < 2 ^ 64 := by cases b <;> decide
theorem ite_n (b : Bool) : 0 ≤ (if b = true then (1 : Int) else 0) := by cases b <;> decide
theorem at_prime (i : Int) : ∃ q : Int, atI [V.int 2147483647, .int 2147483629, .int 2147483587, .int 2147483579, .int 2147483563] (i % 5) = some (.int q) ∧ 0 < q ∧ q ≤ 2147483647 := by
  have h : i % 5 = 0 ∨ i % 5 = 1 ∨ i % 5 = 2 ∨ i % 5 = 3 ∨ i % 5 = 4 := by omega
  rcases h with h | h | h | h | h <;> rw [h]
  · exact ⟨2147483647, rfl, by decide, by decide⟩
  · exact ⟨2147483629, rfl, by decide, by decide⟩
  · exact ⟨2147483587, rfl, by decide, by decide⟩
  · exact ⟨2147483579, rfl, by decide, by decide⟩
  · exact ⟨2147483563, rfl, by decide, by decide⟩
theorem sq_le {c : Int} {m : Int} (h0 : 0 ≤ c) (h1 : c ≤ 1000000) (hm : 0 ≤ m) : 0 ≤ m * c * c ∧ m * c * c ≤ m * 1000000 * 1000000 := by
  have h2 : 0 ≤ m * c := Int.mul_nonneg hm h0
  have h3 : m * c ≤ m * 1000000 := Int.mul_le_mul_of_nonneg_left h1 hm
  exact ⟨Int.mul_nonneg h2 h0, Int.mul_le_mul h3 h1 h0 (by omega)⟩

section
variable {P : Program} {w : World} {K : Frag} {mg : Str → Option Value} {base : Heap} {A : Ad}

theorem ok_pot (T : Txt K mg A) : FnOk P w K mg base CX0 1 A.f_pot A.d_pot ["_law_script", "_law_k"] (spPot K) := by
  refine T.F_pot.ok sc_pot (fun vs H Q E h => ?_) (fun cdv A0 outer s H vs Q E hr h => ?_)
  · obtain ⟨_, _, _, rfl, _⟩ := h
    rfl
  · have hu := hu_of hr
    obtain ⟨a, ns, i, rfl, hS, h0, h3, k⟩ := h
    refine ⟨_, (pss_cons (ps_set (i := 2) sc_pot.nd rfl (Or.inl rfl) (pe_ifExp (pt_cmpR op_lt (pv 1) (pe_callB call_len_seq (by rfl) T.g_len (by decide +kernel) (pa_cons (pv 0) pa_nil)) (nomark _)) (pe_ix ix_list (pv 0) (pv 1) (fun _ _ => rfl)) (pe_op op_add (pe_op op_mul pe_int (pv 1)) pe_int)))
      (pss_cons (ps_set (i := 3) sc_pot.nd rfl (Or.inl rfl) (pe_op op_mul (pe_op op_mod (pe_callTy call_int1 (by rfl) T.g_int (by decide +kernel) (pa_cons (pe_callB call_abs (by rfl) T.g_abs (by decide +kernel) (pa_cons (pv 2) pa_nil)) pa_nil)) (pe_op op_powW (pe_op op_pow pe_int pe_int) pe_int)) (pe_callTy call_int1 (by rfl) T.g_int (by decide +kernel) (pa_cons (pe_cmpR op_ge (pe_callB call_abs (by rfl) T.g_abs (by decide +kernel) (pa_cons (pv 2) pa_nil)) (pe_op op_pow pe_int pe_int) (nomark _)) pa_nil))))
      (pss_one (ps_ret (pe_lst (pa_cons (pv 3) (pa_cons (pe_op op_mod (pe_callTy call_int1 (by rfl) T.g_int (by decide +kernel) (pa_cons (pe_op op_add (pe_op op_add (pe_op op_mul (pe_op op_mod (pe_callTy call_int1 (by rfl) T.g_int (by decide +kernel) (pa_cons (pv 2) pa_nil)) pe_int) pe_int) (pe_op op_mul (pe_op op_mul pe_int (pv 1)) (pv 1))) pe_int) pa_nil)) pe_int) (pa_cons pe_int pa_nil)))))))), ?_⟩
    refine ⟨_, rfl, _, rfl, a, _, rfl, .inl hS, _, _, rfl, rfl, _, rfl, if_dec (fun h1 => ?_) (fun h1 => ?_)⟩
    · rw [List.length_map] at h1
      obtain ⟨z, hz⟩ := at_ints (ns := ns) h0 h1
      refine ⟨_, rfl, _, rfl, a, _, _, _, rfl, rfl, hS, hz, ?_⟩
      refine ⟨_, rfl, _, rfl, .inl ⟨_, rfl, ?_⟩⟩
      refine ⟨_, _, rfl, rfl, (by show CPow _ _; exact ⟨by decide, by decide, by decide⟩), _, _, rfl, rfl, (by show CPowW _ _; exact ⟨by decide +kernel, by decide, by decide +kernel⟩), _, _, rfl, rfl, (by show (0 : Int) < _; decide +kernel), _, rfl, _, rfl, _, _, rfl, rfl, (by show CPow _ _; exact ⟨by decide, by decide, by decide⟩), _, _, rfl, rfl, .inr ⟨_, rfl, ?_⟩⟩
      refine ⟨_, _, rfl, rfl, (.inr (ite_b _)), ?_⟩
      refine ⟨_, rfl, ?_⟩
      refine ⟨_, rfl, .inl ⟨_, rfl, ?_⟩⟩
      refine ⟨_, _, rfl, rfl, (by show (0 : Int) < _; decide), _, _, rfl, rfl, (.inl ⟨by omega, by omega⟩), _, rfl, _, _, rfl, rfl, (.inl ⟨by decide, by decide⟩), _, rfl, _, _, rfl, rfl, (.inl ⟨by omega, by omega⟩), _, _, rfl, rfl, _, _, rfl, rfl, .inl ⟨_, rfl, ?_⟩⟩
      refine ⟨_, _, rfl, rfl, (by show (0 : Int) < _; decide), ?_⟩
      refine ⟨(by show 3 ≤ sizeLine; decide), fun p hp => k p _ hp (Ex.nw hp) ⟨_, _, _, upd_same, Int.mul_nonneg (Int.emod_nonneg _ (by decide +kernel)) (ite_n _), Int.emod_nonneg _ (by decide), Int.emod_lt_of_pos _ (by decide), by decide, by decide⟩⟩
    · refine ⟨_, rfl, _, _, rfl, rfl, .inl ⟨by decide, by decide⟩, _, _, rfl, rfl, ?_⟩
      refine ⟨_, rfl, _, rfl, .inl ⟨_, rfl, ?_⟩⟩
      refine ⟨_, _, rfl, rfl, (by show CPow _ _; exact ⟨by decide, by decide, by decide⟩), _, _, rfl, rfl, (by show CPowW _ _; exact ⟨by decide +kernel, by decide, by decide +kernel⟩), _, _, rfl, rfl, (by show (0 : Int) < _; decide +kernel), _, rfl, _, rfl, _, _, rfl, rfl, (by show CPow _ _; exact ⟨by decide, by decide, by decide⟩), _, _, rfl, rfl, .inr ⟨_, rfl, ?_⟩⟩
      refine ⟨_, _, rfl, rfl, (.inr (ite_b _)), ?_⟩
      refine ⟨_, rfl, ?_⟩
      refine ⟨_, rfl, .inl ⟨_, rfl, ?_⟩⟩
      refine ⟨_, _, rfl, rfl, (by show (0 : Int) < _; decide), _, _, rfl, rfl, (.inl ⟨by omega, by omega⟩), _, rfl, _, _, rfl, rfl, (.inl ⟨by decide, by decide⟩), _, rfl, _, _, rfl, rfl, (.inl ⟨by omega, by omega⟩), _, _, rfl, rfl, _, _, rfl, rfl, .inl ⟨_, rfl, ?_⟩⟩
      refine ⟨_, _, rfl, rfl, (by show (0 : Int) < _; decide), ?_⟩
      refine ⟨(by show 3 ≤ sizeLine; decide), fun p hp => k p _ hp (Ex.nw hp) ⟨_, _, _, upd_same, Int.mul_nonneg (Int.emod_nonneg _ (by decide +kernel)) (ite_n _), Int.emod_nonneg _ (by decide), Int.emod_lt_of_pos _ (by decide), by decide, by decide⟩⟩
theorem ok_take (T : Txt K mg A) : FnOk P w K mg base CX0 1 A.f_take A.d_take ["_law_pot_here", "_law_upto"] (spTake) := by
  refine T.F_take.ok sc_take (fun vs H Q E h => ?_) (fun cdv A0 outer s H vs Q E hr h => ?_)
  · obtain ⟨_, _, _, rfl, _⟩ := h
    rfl
  · have hu := hu_of hr
    obtain ⟨p, n, N, rfl, ⟨a, b, c, hp, ha, hb, hb2, hc, hc2⟩, hn, hn2, hN, k⟩ := h
    refine ⟨_, (pss_cons (ps_if (pt_cmpR op_gt (pe_ix ix_list (pv 0) pe_int (fun _ _ => rfl)) pe_int (nomark _)) (pss_cons (ps_set (i := 2) sc_take.nd rfl (Or.inl rfl) (pe_op op_mod (pe_callTy call_int1 (by rfl) T.g_int (by decide +kernel) (pa_cons (pe_ix ix_list (pv 0) pe_int (fun _ _ => rfl)) pa_nil)) (pv 1)))
      (pss_cons (ps_asg (pe_op op_fdiv (pe_ix ix_list (pv 0) pe_int (fun _ _ => rfl)) (pv 1)) (pg_sub (pv 0) pe_int set_list))
      (pss_one (ps_ret (pv 2))))) pss_nil)
      (pss_cons (ps_asg (pe_op op_add (pe_ix ix_list (pv 0) pe_int (fun _ _ => rfl)) pe_int) (pg_sub (pv 0) pe_int set_list))
      (pss_cons (ps_set (i := 3) sc_take.nd rfl (Or.inl rfl) (pe_ix ix_list (pe_lst (pa_cons pe_int (pa_cons pe_int (pa_cons pe_int (pa_cons pe_int (pa_cons pe_int pa_nil)))))) (pe_op op_mod (pe_callTy call_int1 (by rfl) T.g_int (by decide +kernel) (pa_cons (pe_ix ix_list (pv 0) pe_int (fun _ _ => rfl)) pa_nil)) pe_int) (fun _ _ => rfl)))
      (pss_cons (ps_set (i := 4) sc_take.nd rfl (Or.inl rfl) (pe_op op_mod (pe_callTy call_int1 (by rfl) T.g_int (by decide +kernel) (pa_cons (pe_op op_pow (pe_callTy call_int1 (by rfl) T.g_int (by decide +kernel) (pa_cons (pe_op op_add (pe_op op_add (pe_ix ix_list (pv 0) pe_int (fun _ _ => rfl)) (pe_op op_mul (pe_op op_mul pe_int (pe_ix ix_list (pv 0) pe_int (fun _ _ => rfl))) (pe_ix ix_list (pv 0) pe_int (fun _ _ => rfl)))) pe_int) pa_nil)) pe_int) pa_nil)) (pv 3)))
      (pss_cons (ps_set (i := 4) sc_take.nd rfl (Or.inl rfl) (pe_op op_mod (pe_callTy call_int1 (by rfl) T.g_int (by decide +kernel) (pa_cons (pe_op op_mul (pv 4) (pe_op op_add (pe_op op_mod (pe_callTy call_int1 (by rfl) T.g_int (by decide +kernel) (pa_cons (pv 4) pa_nil)) pe_int) (pe_op op_mul pe_int (pe_ix ix_list (pv 0) pe_int (fun _ _ => rfl))))) pa_nil)) pe_int))
      (pss_one (ps_ret (pe_op op_mod (pe_callTy call_int1 (by rfl) T.g_int (by decide +kernel) (pa_cons (pe_op op_fdiv (pv 4) pe_int) pa_nil)) (pv 1))))))))), ?_⟩
    refine ⟨_, rfl, p, _, _, _, rfl, rfl, SqL.of hp, rfl, _, _, rfl, rfl, _, rfl, if_dec (fun h1 => ?_) (fun h1 => ?_)⟩
    · refine ⟨_, rfl, p, _, _, _, rfl, rfl, SqL.of hp, rfl, .inl ⟨_, rfl, _, rfl, _, _, rfl, rfl, (by show (0 : Int) < n; omega), ?_⟩⟩
      refine ⟨_, rfl, p, _, _, _, rfl, rfl, SqL.of hp, rfl, _, rfl, _, _, rfl, rfl, ⟨hn, by omega⟩, _, rfl, p, _, _, _, rfl, rfl, hp, rfl, ?_⟩
      refine ⟨_, rfl, k _ _ (Int.emod_nonneg _ (by omega)) (Int.emod_lt_of_pos _ hn) XB.wr ⟨_, _, _, upd_same, Int.ediv_nonneg ha (by omega), hb, hb2, hc, by omega⟩⟩
    · refine ⟨_, rfl, p, _, _, _, rfl, rfl, SqL.of hp, rfl, _, _, rfl, rfl, _, rfl, p, _, _, _, rfl, rfl, hp, rfl, ?_⟩
      refine ⟨(by show 5 ≤ sizeLine; decide), fun l hl => ?_⟩
      have hp1 : (upd H p (.lst [.int a, .int b, .int (c + 1)])) p = some (.lst [.int a, .int b, .int (c + 1)]) := upd_same
      have npl : p ≠ l := ne_of_none hp1 hl
      obtain ⟨q, hq, hq0, hq1⟩ := at_prime (c + 1)
      have hp2 : (upd (upd H p (.lst [.int a, .int b, .int (c + 1)])) l (.lst [V.int 2147483647, .int 2147483629, .int 2147483587, .int 2147483579, .int 2147483563])) p = some (.lst [.int a, .int b, .int (c + 1)]) := by rw [upd_ne npl]; exact hp1
      have hl2 : (upd (upd H p (.lst [.int a, .int b, .int (c + 1)])) l (.lst [V.int 2147483647, .int 2147483629, .int 2147483587, .int 2147483579, .int 2147483563])) l = some (.lst [V.int 2147483647, .int 2147483629, .int 2147483587, .int 2147483579, .int 2147483563]) := upd_same
      have hx2 : XB p H (upd (upd H p (.lst [.int a, .int b, .int (c + 1)])) l (.lst [V.int 2147483647, .int 2147483629, .int 2147483587, .int 2147483579, .int 2147483563])) := XB.tr XB.wr (Ex.xb (Ex.nw hl))
      refine ⟨_, rfl, p, _, _, _, rfl, rfl, SqL.of hp2, rfl, .inl ⟨_, rfl, _, _, rfl, rfl, (by show (0 : Int) < _; decide), l, _, _, _, rfl, rfl, SqL.of hl2, hq, ?_⟩⟩
      obtain ⟨s0, s1⟩ := sq_le (c := c + 1) (m := 98411) (by omega) (by omega) (by decide)
      refine ⟨_, rfl, p, _, _, _, rfl, rfl, SqL.of hp2, rfl, _, rfl, p, _, _, _, rfl, rfl, SqL.of hp2, rfl, _, _, rfl, rfl, (.inl ⟨by decide, by decide⟩), _, rfl, p, _, _, _, rfl, rfl, SqL.of hp2, rfl, _, _, rfl, rfl, (.inl ⟨by omega, by omega⟩), _, _, rfl, rfl, _, _, rfl, rfl, .inl ⟨_, rfl, ?_⟩⟩
      refine ⟨_, _, rfl, rfl, (by show CPow _ _; exact ⟨by decide, by decide, by omega⟩), .inl ⟨_, rfl, ?_⟩⟩
      refine ⟨_, rfl, _, _, rfl, rfl, (by show (0 : Int) < q; exact hq0), ?_⟩
      have m0 : ∀ z : Int, -(2 ^ 64) < z % q ∧ z % q < 2 ^ 64 := fun z => ⟨Int.lt_of_lt_of_le (by decide) (Int.emod_nonneg z (by omega)), Int.lt_of_lt_of_le (Int.lt_of_lt_of_le (Int.emod_lt_of_pos z hq0) hq1) (by decide)⟩
      refine ⟨_, rfl, _, rfl, .inl ⟨_, rfl, ?_⟩⟩
      refine ⟨_, _, rfl, rfl, (by show (0 : Int) < _; decide), _, rfl, p, _, _, _, rfl, rfl, SqL.of hp2, rfl, _, _, rfl, rfl, (.inl ⟨by decide, by decide⟩), _, _, rfl, rfl, _, _, rfl, rfl, (.inl (m0 _)), .inl ⟨_, rfl, ?_⟩⟩
      refine ⟨_, _, rfl, rfl, (by show (0 : Int) < _; decide), ?_⟩
      refine ⟨_, rfl, _, _, rfl, rfl, ⟨by decide, by decide⟩, .inl ⟨_, rfl, ?_⟩⟩
      refine ⟨_, rfl, _, _, rfl, rfl, (by show (0 : Int) < n; exact hn), ?_⟩
      exact k _ _ (Int.emod_nonneg _ (by omega)) (Int.emod_lt_of_pos _ hn) hx2 ⟨_, _, _, hp2, ha, hb, hb2, by omega, by omega⟩
theorem ok_of (T : Txt K mg A) : FnOk P w K mg base CX0 2 A.f_of A.d_of ["_law_pot_here", "_law_some"] (spOf K) := by
  refine T.F_of.ok sc_of (fun vs H Q E h => ?_) (fun cdv A0 outer s H vs Q E hr h => ?_)
  · obtain ⟨_, _, _, _, rfl, _⟩ := h
    rfl
  · have hu := hu_of hr
    obtain ⟨p, l, xs, N, rfl, hp, hl, nlp, h0, h1, hN, k⟩ := h
    refine ⟨_, (pss_one (ps_ret (pe_ix ix_list (pv 1) (pe_call (ok_take T) (hr.mono (by decide)) (by rfl) T.m_take T.F_take.kp T.b_take .nil pass0 (pa_cons (pv 0) (pa_cons (pe_callB call_len_seq (by rfl) T.g_len (by decide +kernel) (pa_cons (pv 1) pa_nil)) pa_nil))) (fun _ _ => rfl)))), ?_⟩
    refine ⟨_, rfl, _, rfl, _, rfl, l, _, rfl, .inl hl, p, _, N, rfl, hp, by omega, by omega, hN, fun d H1 d0 d1 e1 hp1 => ?_⟩
    obtain ⟨i, rfl⟩ := Int.eq_ofNat_of_zero_le d0
    have hi : i < xs.length := by omega
    have hg : xs[i]? = some xs[i] := List.getElem?_eq_getElem hi
    exact ⟨l, _, _, _, rfl, rfl, sql_xb hl nlp e1, atI_nat hg, k i _ H1 hg e1 hp1⟩

theorem PotAt.up {H : Hp} {p q : Addr} {o : HO} {N : Int} (h : PotAt H p N) (ne : p ≠ q) : PotAt (upd H q o) p N := let ⟨a, b, c, h0, hr⟩ := h; ⟨a, b, c, by rw [upd_ne ne]; exact h0, hr⟩
theorem pot_none {p l : Addr} {H : Hp} {N : Int} (q : PotAt H p N) (h : H l = none) : l ≠ p := by
  obtain ⟨a, b, c, z2, _⟩ := q
  exact Ne.symm (ne_of_none z2 h)
theorem Dz.pot {p : Addr} {H H' : Hp} {v : V} {d : PyData} {N : Int} (h : Dz p H v d) (q : PotAt H p N) (e : XB p H H') : Dz p H' v d := let ⟨_, _, _, z, _⟩ := q; h.xb z e
theorem dz_l {p a : Addr} {H : Hp} {xs : List V} {ds : List PyData} (h : H a = some (.lst xs)) (n : a ≠ sysModules) (m : a ≠ p) (hl : xs.length = ds.length) (hi : ∀ q ∈ xs.zip ds, Dz p H q.1 q.2) : Dz p H (.ref a) (.list ds) := .lst h n m hl fun i v d e1 e2 => hi (v, d) (List.mem_of_getElem? (i := i) (by rw [List.getElem?_zip_eq_some]; exact ⟨e1, e2⟩))
theorem dz_t {p a : Addr} {H : Hp} {xs : List V} {ds : List PyData} (h : H a = some (.tup xs)) (hl : xs.length = ds.length) (hi : ∀ q ∈ xs.zip ds, Dz p H q.1 q.2) : Dz p H (.ref a) (.tuple ds) := .tup h hl fun i v d e1 e2 => hi (v, d) (List.mem_of_getElem? (i := i) (by rw [List.getElem?_zip_eq_some]; exact ⟨e1, e2⟩))
theorem dz_d {p a : Addr} {H : Hp} {k : Str} {v : V} {d : PyData} (h : H a = some (.dK [(Sum.inr k, v)])) (hv : Dz p H v d) : Dz p H (.ref a) (.dict [(.str k, d)]) := .dct (ks := [(k, v)]) (ds := [d]) h rfl fun i u e e1 e2 => by
  match i, e1, e2 with
  | 0, e1, e2 => cases e1; cases e2; exact hv
  | i + 1, e1, e2 => simp at e1
theorem dz_0 {p a : Addr} {H : Hp} (h : H a = some (.dK [])) : Dz p H (.ref a) (.dict []) := .dct (ks := []) (ds := []) h rfl fun i u e e1 e2 => by simp at e1
theorem merge_a {k : Str} {v : V} : mergeK [] [((Sum.inr k : Key), v)] = [((Sum.inr k : Key), v)] := by first | rfl | simp [mergeK] | (unfold mergeK; rfl)
/-- any value of bounded depth -/
def AnyV (p : Addr) (H : Hp) (n : Nat) (v : V) : Prop := ∃ d, Dz p H v d ∧ Bd n d
theorem AnyV.ex {p : Addr} {H H' : Hp} {n : Nat} {v : V} (h : AnyV p H n v) (e : Ex H H') : AnyV p H' n v := let ⟨d, a, b⟩ := h; ⟨d, a.ex e, b⟩
theorem AnyV.pot {p : Addr} {H H' : Hp} {n : Nat} {v : V} {N : Int} (h : AnyV p H n v) (q : PotAt H p N) (e : XB p H H') : AnyV p H' n v := let ⟨d, a, b⟩ := h; ⟨d, Dz.pot a q e, b⟩
def spAny : Sp := fun vs H Q _ => ∃ (p : Addr) (N : Int), vs = [.ref p] ∧ PotAt H p N ∧ N ≤ 90000 ∧ ∀ (v : V) (H' : Hp), XB p H H' → PotAt H' p (N + 20) → AnyV p H' 14 v → Q v H'
theorem turns_at {i : Nat} {v : V} (h : ([.int 0, .int 0, .int 1, .int 2, .int 14] : List V)[i]? = some v) : ∃ z : Int, v = .int z ∧ 0 ≤ z ∧ z ≤ 14 := by
  match i, h with
  | 0, h => exact ⟨0, (Option.some.inj h).symm, by decide, by decide⟩
  | 1, h => exact ⟨0, (Option.some.inj h).symm, by decide, by decide⟩
  | 2, h => exact ⟨1, (Option.some.inj h).symm, by decide, by decide⟩
  | 3, h => exact ⟨2, (Option.some.inj h).symm, by decide, by decide⟩
  | 4, h => exact ⟨14, (Option.some.inj h).symm, by decide, by decide⟩
  | i + 5, h => simp at h

theorem ok_any (T : Txt K mg A) : FnOk P w K mg base CX0 3 A.f_any A.d_any ["_law_pot_here"] (spAny) := by
  refine T.F_any.ok sc_any (fun vs H Q E h => ?_) (fun cdv A0 outer s H vs Q E hr h => ?_)
  · obtain ⟨_, _, rfl, _⟩ := h
    rfl
  · have hu := hu_of hr
    obtain ⟨p, N, rfl, hp, hN, k⟩ := h
    refine ⟨_, (pss_cons (ps_set (i := 1) sc_any.nd rfl (Or.inl rfl) (pe_lstN (pa_cons pe_non (pa_cons pe_bl (pa_cons pe_bl (pa_cons pe_int (pa_cons pe_int (pa_cons (pe_un un_neg pe_int) (pa_cons (pe_op op_pow pe_int pe_int) (pa_cons pe_str (pa_cons pe_str (pa_cons (pe_tup pa_nil) (pa_cons (pe_tup (pa_cons pe_str pa_nil)) (pa_cons (pe_lstN pa_nil) (pa_cons (pe_lstN (pa_cons pe_int pa_nil)) (pa_cons pe_dnewK (pa_cons (pe_disp (pps_cons pe_str pe_int pps_nil) (by rfl) (by rfl) (fun z => by cases z) (by decide)) (pa_cons (pe_tup (pa_cons (pe_tup pa_nil) (pa_cons (pe_lstN (pa_cons pe_non pa_nil)) pa_nil))) pa_nil))))))))))))))))))
      (pss_cons (ps_set (i := 2) sc_any.nd rfl (Or.inl rfl) (pe_call (ok_of T) (hr.mono (by decide)) (by rfl) T.m_of T.F_of.kp T.b_of .nil pass0 (pa_cons (pv 0) (pa_cons (pv 1) pa_nil))))
      (pss_cons (ps_for PassesOwn.never rfl (pi_range1 rfl T.g_range (pa_cons (pe_call (ok_of T) (hr.mono (by decide)) (by rfl) T.m_of T.F_of.kp T.b_of .nil pass0 (pa_cons (pv 0) (pa_cons (pe_lstN (pa_cons pe_int (pa_cons pe_int (pa_cons pe_int (pa_cons pe_int (pa_cons pe_int pa_nil)))))) pa_nil))) pa_nil)) (pg_name (i := 3) sc_any.nd rfl (Or.inl rfl)) (pss_one (ps_set (i := 2) sc_any.nd rfl (Or.inl rfl) (pe_call (ok_of T) (hr.mono (by decide)) (by rfl) T.m_of T.F_of.kp T.b_of .nil pass0 (pa_cons (pv 0) (pa_cons (pe_lstN (pa_cons (pe_tup (pa_cons (pv 2) pa_nil)) (pa_cons (pe_lstN (pa_cons (pv 2) pa_nil)) (pa_cons (pe_disp (pps_cons pe_str (pv 2) pps_nil) (by rfl) (by rfl) (fun z => by cases z) (by decide)) (pa_cons (pe_tup (pa_cons (pv 2) (pa_cons pe_int pa_nil))) pa_nil))))) pa_nil))))))
      (pss_one (ps_ret (pv 2)))))), ?_⟩
    have hq : ∃ z, z = H := ⟨_, rfl⟩
    obtain ⟨G0, E0⟩ := hq
    rw [← E0] at hp ⊢
    refine ⟨_, rfl, _, _, rfl, rfl, (by show CPow _ _; exact ⟨by decide, by decide, by decide⟩), (by show 0 ≤ sizeLine; decide), fun t1 n1 => ?_⟩
    obtain ⟨G1, E1⟩ : ∃ z, z = upd G0 t1 (.tup []) := ⟨_, rfl⟩
    have e1 : Ex G0 G1 := by rw [E1]; exact Ex.nw n1
    have a1 : G1 t1 = some (.tup []) := by rw [E1]; exact upd_same
    rw [← E1]
    refine ⟨(by show 1 ≤ sizeLine; decide), fun t2 n2 => ?_⟩
    obtain ⟨G2, E2⟩ : ∃ z, z = upd G1 t2 (.tup [V.str "a"]) := ⟨_, rfl⟩
    have e2 : Ex G1 G2 := by rw [E2]; exact Ex.nw n2
    have a2 : G2 t2 = some (.tup [V.str "a"]) := by rw [E2]; exact upd_same
    rw [← E2]
    refine ⟨(by show 0 ≤ sizeLine; decide), fun t3 n3 s3 => ?_⟩
    obtain ⟨G3, E3⟩ : ∃ z, z = upd G2 t3 (.lst []) := ⟨_, rfl⟩
    have e3 : Ex G2 G3 := by rw [E3]; exact Ex.nw n3
    have a3 : G3 t3 = some (.lst []) := by rw [E3]; exact upd_same
    rw [← E3]
    refine ⟨(by show 1 ≤ sizeLine; decide), fun t4 n4 s4 => ?_⟩
    obtain ⟨G4, E4⟩ : ∃ z, z = upd G3 t4 (.lst [V.int 0]) := ⟨_, rfl⟩
    have e4 : Ex G3 G4 := by rw [E4]; exact Ex.nw n4
    have a4 : G4 t4 = some (.lst [V.int 0]) := by rw [E4]; exact upd_same
    rw [← E4]
    intro t5 n5
    obtain ⟨G5, E5⟩ : ∃ z, z = upd G4 t5 (.dK []) := ⟨_, rfl⟩
    have e5 : Ex G4 G5 := by rw [E5]; exact Ex.nw n5
    have a5 : G5 t5 = some (.dK []) := by rw [E5]; exact upd_same
    rw [← E5]
    intro t6 n6
    refine ⟨upd_same, [(Sum.inr "a", V.int 1)], rfl, by decide, ?_⟩
    rw [upd_upd, merge_a]
    obtain ⟨G6, E6⟩ : ∃ z, z = upd G5 t6 (.dK [(Sum.inr "a", V.int 1)]) := ⟨_, rfl⟩
    have e6 : Ex G5 G6 := by rw [E6]; exact Ex.nw n6
    have a6 : G6 t6 = some (.dK [(Sum.inr "a", V.int 1)]) := by rw [E6]; exact upd_same
    rw [← E6]
    refine ⟨(by show 0 ≤ sizeLine; decide), fun t7 n7 => ?_⟩
    obtain ⟨G7, E7⟩ : ∃ z, z = upd G6 t7 (.tup []) := ⟨_, rfl⟩
    have e7 : Ex G6 G7 := by rw [E7]; exact Ex.nw n7
    have a7 : G7 t7 = some (.tup []) := by rw [E7]; exact upd_same
    rw [← E7]
    refine ⟨(by show 1 ≤ sizeLine; decide), fun t8 n8 s8 => ?_⟩
    obtain ⟨G8, E8⟩ : ∃ z, z = upd G7 t8 (.lst [V.non]) := ⟨_, rfl⟩
    have e8 : Ex G7 G8 := by rw [E8]; exact Ex.nw n8
    have a8 : G8 t8 = some (.lst [V.non]) := by rw [E8]; exact upd_same
    rw [← E8]
    refine ⟨(by show 2 ≤ sizeLine; decide), fun t9 n9 => ?_⟩
    obtain ⟨G9, E9⟩ : ∃ z, z = upd G8 t9 (.tup [V.ref t7, V.ref t8]) := ⟨_, rfl⟩
    have e9 : Ex G8 G9 := by rw [E9]; exact Ex.nw n9
    have a9 : G9 t9 = some (.tup [V.ref t7, V.ref t8]) := by rw [E9]; exact upd_same
    rw [← E9]
    refine ⟨(by show 16 ≤ sizeLine; decide), fun t10 n10 s10 => ?_⟩
    dsimp only
    obtain ⟨G10, E10⟩ : ∃ z, z = upd G9 t10 (.lst [V.non, V.bl true, V.bl false, V.int 0, V.int 1, V.int (-3), V.int (10 ^ (17 : Int).toNat), V.str "", V.str "x", V.ref t1, V.ref t2, V.ref t3, V.ref t4, V.ref t5, V.ref t6, V.ref t9]) := ⟨_, rfl⟩
    have e10 : Ex G9 G10 := by rw [E10]; exact Ex.nw n10
    have a10 : G10 t10 = some (.lst [V.non, V.bl true, V.bl false, V.int 0, V.int 1, V.int (-3), V.int (10 ^ (17 : Int).toNat), V.str "", V.str "x", V.ref t1, V.ref t2, V.ref t3, V.ref t4, V.ref t5, V.ref t6, V.ref t9]) := by rw [E10]; exact upd_same
    rw [← E10]
    have f9 : Ex G9 G10 := e10
    have f8 : Ex G8 G10 := e9.tr f9
    have f7 : Ex G7 G10 := e8.tr f8
    have f6 : Ex G6 G10 := e7.tr f7
    have f5 : Ex G5 G10 := e6.tr f6
    have f4 : Ex G4 G10 := e5.tr f5
    have f3 : Ex G3 G10 := e4.tr f4
    have f2 : Ex G2 G10 := e3.tr f3
    have f1 : Ex G1 G10 := e2.tr f2
    have f0 : Ex G0 G10 := e1.tr f1
    have m3 : t3 ≠ p := pot_none (hp.ex (e1.tr e2)) n3
    have m4 : t4 ≠ p := pot_none (hp.ex (e1.tr (e2.tr e3))) n4
    have m8 : t8 ≠ p := pot_none (hp.ex (e1.tr (e2.tr (e3.tr (e4.tr (e5.tr (e6.tr e7))))))) n8
    have m10 : t10 ≠ p := pot_none (hp.ex (e1.tr (e2.tr (e3.tr (e4.tr (e5.tr (e6.tr (e7.tr (e8.tr e9))))))))) n10
    have hp10 := hp.ex f0
    have d7 : Dz p G10 (.ref t7) (.tuple []) := dz_t (f7 _ _ a7) rfl (fun q hq => by cases hq)
    have d8 : Dz p G10 (.ref t8) (.list [.none]) := dz_l (f8 _ _ a8) s8 m8 rfl (fun q hq => by rw [List.mem_singleton.mp hq]; exact .non)
    have any0 : ∀ (i : Nat) (v : V), ([V.non, V.bl true, V.bl false, V.int 0, V.int 1, V.int (-3), V.int (10 ^ (17 : Int).toNat), V.str "", V.str "x", V.ref t1, V.ref t2, V.ref t3, V.ref t4, V.ref t5, V.ref t6, V.ref t9] : List V)[i]? = some v → AnyV p G10 0 v := fun i v h => by
      match i, h with
      | 0, h => cases h; exact ⟨_, .non, .of (by decide +kernel)⟩
      | 1, h => cases h; exact ⟨_, .bl _, .of (by decide +kernel)⟩
      | 2, h => cases h; exact ⟨_, .bl _, .of (by decide +kernel)⟩
      | 3, h => cases h; exact ⟨_, .int _, .of (by decide +kernel)⟩
      | 4, h => cases h; exact ⟨_, .int _, .of (by decide +kernel)⟩
      | 5, h => cases h; exact ⟨_, .int _, .of (by decide +kernel)⟩
      | 6, h => cases h; exact ⟨_, .int _, .of (by decide +kernel)⟩
      | 7, h => cases h; exact ⟨_, .str _, .of (by decide +kernel)⟩
      | 8, h => cases h; exact ⟨_, .str _, .of (by decide +kernel)⟩
      | 9, h => cases h; exact ⟨.tuple [], dz_t (f1 _ _ a1) rfl (fun q hq => by cases hq), .of (by decide +kernel)⟩
      | 10, h => cases h; exact ⟨.tuple [.str "a"], dz_t (f2 _ _ a2) rfl (fun q hq => by rw [List.mem_singleton.mp hq]; exact .str _), .of (by decide +kernel)⟩
      | 11, h => cases h; exact ⟨.list [], dz_l (f3 _ _ a3) s3 m3 rfl (fun q hq => by cases hq), .of (by decide +kernel)⟩
      | 12, h => cases h; exact ⟨.list [.int 0], dz_l (f4 _ _ a4) s4 m4 rfl (fun q hq => by rw [List.mem_singleton.mp hq]; exact .int _), .of (by decide +kernel)⟩
      | 13, h => cases h; exact ⟨.dict [], dz_0 (f5 _ _ a5), .of (by decide +kernel)⟩
      | 14, h => cases h; exact ⟨.dict [(.str "a", .int 1)], dz_d (f6 _ _ a6) (.int _), .of (by decide +kernel)⟩
      | 15, h => cases h; exact ⟨.tuple [.tuple [], .list [.none]], dz_t (f9 _ _ a9) rfl (fun q hq => by
          rcases List.mem_cons.mp hq with h | h
          · rw [h]; exact d7
          · rw [List.mem_singleton.mp h]; exact d8), .of (by decide +kernel)⟩
      | i + 16, h => simp at h
    refine ⟨_, rfl, _, rfl, p, t10, _, N, rfl, hp10, SqL.of a10, m10, (by show 0 < 16; decide), (by show 16 < 1000; decide), by omega, fun i v H1 hi x1 hp1 => ?_⟩
    have hv : AnyV p H1 0 v := (any0 i v hi).pot hp10 x1
    have y1 : XB p G0 H1 := XB.tr (Ex.xb f0) x1
    refine ⟨_, rfl, (by show 5 ≤ sizeLine; decide), fun l2 nl2 sl2 => ?_⟩
    have q2 := pot_none hp1 nl2
    refine ⟨p, l2, _, N + 1, rfl, hp1.ex (Ex.nw nl2), SqL.of upd_same, q2, by decide, by decide, by omega, fun j u H2 hj x2 hp2 => ?_⟩
    obtain ⟨z, rfl, z0, z1⟩ := turns_at hj
    have hv2 : AnyV p H2 0 v := (hv.ex (Ex.nw nl2)).pot (hp1.ex (Ex.nw nl2)) x2
    have y2 : XB p G0 H2 := y1.tr (XB.tr (Ex.xb (Ex.nw nl2)) x2)
    refine ⟨z, rfl, by omega, by omega, for_range (lo := 0) (n := z.toNat) (fun i σ H' => (∃ u v3, σ = [some (.ref p), some (.ref t10), some u, v3] ∧ AnyV p H' i u) ∧ XB p G0 H' ∧ PotAt H' p (N + 2 + i)) ⟨⟨v, _, rfl, hv2⟩, y2, hp2.mono (by omega)⟩ ?_ ?_⟩
    · rintro i σ H3 hi3 ⟨⟨u, v3, rfl, hu3⟩, y3, hp3⟩
      refine ⟨_, rfl, _, rfl, (by show 1 ≤ sizeLine; decide), fun c1 n1 => ?_⟩
      have g1 : Ex H3 (upd H3 c1 (.tup [u])) := Ex.nw n1
      refine ⟨_, rfl, (by show 1 ≤ sizeLine; decide), fun c2 n2 s2 => ?_⟩
      have r2 := pot_none (hp3.ex g1) n2
      have g2 : Ex (upd H3 c1 (.tup [u])) (upd (upd H3 c1 (.tup [u])) c2 (.lst [u])) := Ex.nw n2
      intro c3 n3
      refine ⟨_, rfl, upd_same, [(Sum.inr "a", u)], rfl, (by show 1 ≤ 15; decide), ?_⟩
      rw [upd_upd, merge_a]
      have g3 : Ex (upd (upd H3 c1 (.tup [u])) c2 (.lst [u])) (upd (upd (upd H3 c1 (.tup [u])) c2 (.lst [u])) c3 (.dK [(Sum.inr "a", u)])) := Ex.nw n3
      refine ⟨_, rfl, (by show 2 ≤ sizeLine; decide), fun c4 n4 => ?_⟩
      obtain ⟨K3, EK⟩ : ∃ z, z = upd (upd (upd H3 c1 (.tup [u])) c2 (.lst [u])) c3 (.dK [(Sum.inr "a", u)]) := ⟨_, rfl⟩
      rw [← EK] at g3 n4 ⊢
      have b3 : K3 c3 = some (.dK [(Sum.inr "a", u)]) := by rw [EK]; exact upd_same
      have b1 : K3 c1 = some (.tup [u]) := g3 _ _ (g2 _ _ upd_same)
      have b2 : K3 c2 = some (.lst [u]) := g3 _ _ upd_same
      have g4 : Ex K3 (upd K3 c4 (.tup [u, V.int 1])) := Ex.nw n4
      refine ⟨(by show 4 ≤ sizeLine; decide), fun c5 n5 s5 => ?_⟩
      have g5 : Ex (upd K3 c4 (.tup [u, V.int 1])) (upd (upd K3 c4 (.tup [u, V.int 1])) c5 (.lst [V.ref c1, V.ref c2, V.ref c3, V.ref c4])) := Ex.nw n5
      have ga := g1.tr (g2.tr g3)
      have gb := g4.tr g5
      have hp5 : PotAt (upd (upd K3 c4 (.tup [u, V.int 1])) c5 (.lst [V.ref c1, V.ref c2, V.ref c3, V.ref c4])) p (N + 2 + i) := (hp3.ex ga).ex gb
      have r5 := pot_none ((hp3.ex ga).ex g4) n5
      obtain ⟨d, dz, bd⟩ := (hu3.ex ga).ex gb
      have b4 := g5 _ _ (upd_same (H := K3) (a := c4) (o := .tup [u, V.int 1]))
      refine ⟨p, c5, _, N + 2 + i, rfl, hp5, SqL.of upd_same, r5, (by show 0 < 4; decide), (by show 4 < 1000; decide), by omega, fun j u' H6 hj x6 hp6 => ?_⟩
      have one : ∀ q ∈ ([u] : List V).zip [d], Dz p (upd (upd K3 c4 (.tup [u, V.int 1])) c5 (.lst [V.ref c1, V.ref c2, V.ref c3, V.ref c4])) q.1 q.2 := fun q hq => by rw [List.mem_singleton.mp hq]; exact dz
      have hu6 : AnyV p (upd (upd K3 c4 (.tup [u, V.int 1])) c5 (.lst [V.ref c1, V.ref c2, V.ref c3, V.ref c4])) (i + 1) u' := by
        match j, hj with
        | 0, h => cases h; exact ⟨.tuple [d], dz_t (gb _ _ b1) rfl one, bd.t1⟩
        | 1, h => cases h; exact ⟨.list [d], dz_l (gb _ _ b2) s2 r2 rfl one, bd.l1⟩
        | 2, h => cases h; exact ⟨.dict [(.str "a", d)], dz_d (gb _ _ b3) dz, bd.d1 (by decide +kernel) (by decide +kernel) (by decide +kernel)⟩
        | 3, h => cases h; exact ⟨.tuple [d, .int 1], dz_t b4 rfl (fun q hq => by
            rcases List.mem_cons.mp hq with h | h
            · rw [h]; exact dz
            · rw [List.mem_singleton.mp h]; exact .int _), bd.t2⟩
        | j + 4, h => simp at h
      exact ⟨⟨u', _, rfl, hu6.pot hp5 x6⟩, y3.tr (XB.tr (Ex.xb (ga.tr gb)) x6), hp6.mono (by push_cast; omega)⟩
    · rintro σ H3 ⟨⟨u, v3, rfl, d, hz, bd⟩, y3, hp3⟩
      exact ⟨_, rfl, k u H3 (E0 ▸ y3) (hp3.mono (by omega)) ⟨d, hz, bd.up (by omega)⟩⟩
end
end K99
set_option Elab.async false
set_option linter.all false
set_option maxRecDepth 100000
set_option maxHeartbeats 4400000
namespace K99
open PySem PySem.Spec PyProof.Rows L2 HX
open PySem.W (Frag)

section
variable {P : Program} {w : World} {K : Frag} {mg : Str → Option Value} {base : Heap} {A : Ad}

theorem small {n : Nat} (h : n < 1000) : n < sizeLine := Nat.lt_of_lt_of_le h (by decide)
theorem Ex.mu {H H' : Hp} {p : Addr} {o : HO} (e : Ex H H') (h : H p = none) : Ex H (upd H' p o) := fun a u ha => by
  rw [upd_ne (ne_of_none ha h)]
  exact e a u ha
theorem ok_BadSize_init (T : Txt K mg A) : FnOk P w K mg base CX0 1 A.f_BadSize_init A.d_BadSize_init ["self", "value"] (spEI A.C_BadSize "value") := by
  refine T.F_BadSize_init.ok sc_BadSize_init (fun vs H Q E h => ?_) (fun cdv A0 outer s H vs Q E hr h => ?_)
  · obtain ⟨_, _, rfl, _⟩ := h
    rfl
  · obtain ⟨a, v, rfl, ha, k⟩ := h
    refine ⟨_, pss_one (ps_ost (pv 0) (pv 1)), ?_⟩
    exact ⟨_, rfl, _, rfl, a, A.C_BadSize, rfl, T.E_BadSize.oex, T.E_BadSize.no, .inl ⟨ha, k⟩⟩
theorem ok_BadWorth_init (T : Txt K mg A) : FnOk P w K mg base CX0 1 A.f_BadWorth_init A.d_BadWorth_init ["self", "value"] (spEI A.C_BadWorth "value") := by
  refine T.F_BadWorth_init.ok sc_BadWorth_init (fun vs H Q E h => ?_) (fun cdv A0 outer s H vs Q E hr h => ?_)
  · obtain ⟨_, _, rfl, _⟩ := h
    rfl
  · obtain ⟨a, v, rfl, ha, k⟩ := h
    refine ⟨_, pss_one (ps_ost (pv 0) (pv 1)), ?_⟩
    exact ⟨_, rfl, _, rfl, a, A.C_BadWorth, rfl, T.E_BadWorth.oex, T.E_BadWorth.no, .inl ⟨ha, k⟩⟩
theorem ok_BadMost_init (T : Txt K mg A) : FnOk P w K mg base CX0 1 A.f_BadMost_init A.d_BadMost_init ["self", "value"] (spEI A.C_BadMost "value") := by
  refine T.F_BadMost_init.ok sc_BadMost_init (fun vs H Q E h => ?_) (fun cdv A0 outer s H vs Q E hr h => ?_)
  · obtain ⟨_, _, rfl, _⟩ := h
    rfl
  · obtain ⟨a, v, rfl, ha, k⟩ := h
    refine ⟨_, pss_one (ps_ost (pv 0) (pv 1)), ?_⟩
    exact ⟨_, rfl, _, rfl, a, A.C_BadMost, rfl, T.E_BadMost.oex, T.E_BadMost.no, .inl ⟨ha, k⟩⟩
theorem ok_BadItems_init (T : Txt K mg A) : FnOk P w K mg base CX0 1 A.f_BadItems_init A.d_BadItems_init ["self", "value"] (spEI A.C_BadItems "value") := by
  refine T.F_BadItems_init.ok sc_BadItems_init (fun vs H Q E h => ?_) (fun cdv A0 outer s H vs Q E hr h => ?_)
  · obtain ⟨_, _, rfl, _⟩ := h
    rfl
  · obtain ⟨a, v, rfl, ha, k⟩ := h
    refine ⟨_, pss_one (ps_ost (pv 0) (pv 1)), ?_⟩
    exact ⟨_, rfl, _, rfl, a, A.C_BadItems, rfl, T.E_BadItems.oex, T.E_BadItems.no, .inl ⟨ha, k⟩⟩
theorem ok_BadWorld_init (T : Txt K mg A) : FnOk P w K mg base CX0 1 A.f_BadWorld_init A.d_BadWorld_init ["self", "value"] (spEI A.C_BadWorld "value") := by
  refine T.F_BadWorld_init.ok sc_BadWorld_init (fun vs H Q E h => ?_) (fun cdv A0 outer s H vs Q E hr h => ?_)
  · obtain ⟨_, _, rfl, _⟩ := h
    rfl
  · obtain ⟨a, v, rfl, ha, k⟩ := h
    refine ⟨_, pss_one (ps_ost (pv 0) (pv 1)), ?_⟩
    exact ⟨_, rfl, _, rfl, a, A.C_BadWorld, rfl, T.E_BadWorld.oex, T.E_BadWorld.no, .inl ⟨ha, k⟩⟩
theorem ok_BadSetup_init (T : Txt K mg A) : FnOk P w K mg base CX0 1 A.f_BadSetup_init A.d_BadSetup_init ["self", "value"] (spEI A.C_BadSetup "value") := by
  refine T.F_BadSetup_init.ok sc_BadSetup_init (fun vs H Q E h => ?_) (fun cdv A0 outer s H vs Q E hr h => ?_)
  · obtain ⟨_, _, rfl, _⟩ := h
    rfl
  · obtain ⟨a, v, rfl, ha, k⟩ := h
    refine ⟨_, pss_one (ps_ost (pv 0) (pv 1)), ?_⟩
    exact ⟨_, rfl, _, rfl, a, A.C_BadSetup, rfl, T.E_BadSetup.oex, T.E_BadSetup.no, .inl ⟨ha, k⟩⟩
theorem ok_BadStand_init (T : Txt K mg A) : FnOk P w K mg base CX0 1 A.f_BadStand_init A.d_BadStand_init ["self", "value"] (spEI A.C_BadStand "value") := by
  refine T.F_BadStand_init.ok sc_BadStand_init (fun vs H Q E h => ?_) (fun cdv A0 outer s H vs Q E hr h => ?_)
  · obtain ⟨_, _, rfl, _⟩ := h
    rfl
  · obtain ⟨a, v, rfl, ha, k⟩ := h
    refine ⟨_, pss_one (ps_ost (pv 0) (pv 1)), ?_⟩
    exact ⟨_, rfl, _, rfl, a, A.C_BadStand, rfl, T.E_BadStand.oex, T.E_BadStand.no, .inl ⟨ha, k⟩⟩
theorem ok_BadDeed_init (T : Txt K mg A) : FnOk P w K mg base CX0 1 A.f_BadDeed_init A.d_BadDeed_init ["self", "value"] (spEI A.C_BadDeed "value") := by
  refine T.F_BadDeed_init.ok sc_BadDeed_init (fun vs H Q E h => ?_) (fun cdv A0 outer s H vs Q E hr h => ?_)
  · obtain ⟨_, _, rfl, _⟩ := h
    rfl
  · obtain ⟨a, v, rfl, ha, k⟩ := h
    refine ⟨_, pss_one (ps_ost (pv 0) (pv 1)), ?_⟩
    exact ⟨_, rfl, _, rfl, a, A.C_BadDeed, rfl, T.E_BadDeed.oex, T.E_BadDeed.no, .inl ⟨ha, k⟩⟩
theorem ok_BadPlan_init (T : Txt K mg A) : FnOk P w K mg base CX0 1 A.f_BadPlan_init A.d_BadPlan_init ["self", "value"] (spEI A.C_BadPlan "value") := by
  refine T.F_BadPlan_init.ok sc_BadPlan_init (fun vs H Q E h => ?_) (fun cdv A0 outer s H vs Q E hr h => ?_)
  · obtain ⟨_, _, rfl, _⟩ := h
    rfl
  · obtain ⟨a, v, rfl, ha, k⟩ := h
    refine ⟨_, pss_one (ps_ost (pv 0) (pv 1)), ?_⟩
    exact ⟨_, rfl, _, rfl, a, A.C_BadPlan, rfl, T.E_BadPlan.oex, T.E_BadPlan.no, .inl ⟨ha, k⟩⟩
theorem ok_BadKinds_init (T : Txt K mg A) : FnOk P w K mg base CX0 1 A.f_BadKinds_init A.d_BadKinds_init ["self", "value"] (spEI A.C_BadKinds "value") := by
  refine T.F_BadKinds_init.ok sc_BadKinds_init (fun vs H Q E h => ?_) (fun cdv A0 outer s H vs Q E hr h => ?_)
  · obtain ⟨_, _, rfl, _⟩ := h
    rfl
  · obtain ⟨a, v, rfl, ha, k⟩ := h
    refine ⟨_, pss_one (ps_ost (pv 0) (pv 1)), ?_⟩
    exact ⟨_, rfl, _, rfl, a, A.C_BadKinds, rfl, T.E_BadKinds.oex, T.E_BadKinds.no, .inl ⟨ha, k⟩⟩
theorem ok_BadSteps_init (T : Txt K mg A) : FnOk P w K mg base CX0 1 A.f_BadSteps_init A.d_BadSteps_init ["self", "value"] (spEI A.C_BadSteps "value") := by
  refine T.F_BadSteps_init.ok sc_BadSteps_init (fun vs H Q E h => ?_) (fun cdv A0 outer s H vs Q E hr h => ?_)
  · obtain ⟨_, _, rfl, _⟩ := h
    rfl
  · obtain ⟨a, v, rfl, ha, k⟩ := h
    refine ⟨_, pss_one (ps_ost (pv 0) (pv 1)), ?_⟩
    exact ⟨_, rfl, _, rfl, a, A.C_BadSteps, rfl, T.E_BadSteps.oex, T.E_BadSteps.no, .inl ⟨ha, k⟩⟩
theorem ok_BadEnd_init (T : Txt K mg A) : FnOk P w K mg base CX0 1 A.f_BadEnd_init A.d_BadEnd_init ["self", "value"] (spEI A.C_BadEnd "value") := by
  refine T.F_BadEnd_init.ok sc_BadEnd_init (fun vs H Q E h => ?_) (fun cdv A0 outer s H vs Q E hr h => ?_)
  · obtain ⟨_, _, rfl, _⟩ := h
    rfl
  · obtain ⟨a, v, rfl, ha, k⟩ := h
    refine ⟨_, pss_one (ps_ost (pv 0) (pv 1)), ?_⟩
    exact ⟨_, rfl, _, rfl, a, A.C_BadEnd, rfl, T.E_BadEnd.oex, T.E_BadEnd.no, .inl ⟨ha, k⟩⟩
theorem ok_NoWork_init (T : Txt K mg A) : FnOk P w K mg base CX0 1 A.f_NoWork_init A.d_NoWork_init ["self", "value"] (spEI A.C_NoWork "value") := by
  refine T.F_NoWork_init.ok sc_NoWork_init (fun vs H Q E h => ?_) (fun cdv A0 outer s H vs Q E hr h => ?_)
  · obtain ⟨_, _, rfl, _⟩ := h
    rfl
  · obtain ⟨a, v, rfl, ha, k⟩ := h
    refine ⟨_, pss_one (ps_ost (pv 0) (pv 1)), ?_⟩
    exact ⟨_, rfl, _, rfl, a, A.C_NoWork, rfl, T.E_NoWork.oex, T.E_NoWork.no, .inl ⟨ha, k⟩⟩
theorem ok_BadValues_init (T : Txt K mg A) : FnOk P w K mg base CX0 1 A.f_BadValues_init A.d_BadValues_init ["self", "value"] (spEI A.C_BadValues "value") := by
  refine T.F_BadValues_init.ok sc_BadValues_init (fun vs H Q E h => ?_) (fun cdv A0 outer s H vs Q E hr h => ?_)
  · obtain ⟨_, _, rfl, _⟩ := h
    rfl
  · obtain ⟨a, v, rfl, ha, k⟩ := h
    refine ⟨_, pss_one (ps_ost (pv 0) (pv 1)), ?_⟩
    exact ⟨_, rfl, _, rfl, a, A.C_BadValues, rfl, T.E_BadValues.oex, T.E_BadValues.no, .inl ⟨ha, k⟩⟩
theorem ok_BadState_init (T : Txt K mg A) : FnOk P w K mg base CX0 1 A.f_BadState_init A.d_BadState_init ["self", "value"] (spEI A.C_BadState "value") := by
  refine T.F_BadState_init.ok sc_BadState_init (fun vs H Q E h => ?_) (fun cdv A0 outer s H vs Q E hr h => ?_)
  · obtain ⟨_, _, rfl, _⟩ := h
    rfl
  · obtain ⟨a, v, rfl, ha, k⟩ := h
    refine ⟨_, pss_one (ps_ost (pv 0) (pv 1)), ?_⟩
    exact ⟨_, rfl, _, rfl, a, A.C_BadState, rfl, T.E_BadState.oex, T.E_BadState.no, .inl ⟨ha, k⟩⟩
theorem ok_BadTape_init (T : Txt K mg A) : FnOk P w K mg base CX0 1 A.f_BadTape_init A.d_BadTape_init ["self", "value"] (spEI A.C_BadTape "value") := by
  refine T.F_BadTape_init.ok sc_BadTape_init (fun vs H Q E h => ?_) (fun cdv A0 outer s H vs Q E hr h => ?_)
  · obtain ⟨_, _, rfl, _⟩ := h
    rfl
  · obtain ⟨a, v, rfl, ha, k⟩ := h
    refine ⟨_, pss_one (ps_ost (pv 0) (pv 1)), ?_⟩
    exact ⟨_, rfl, _, rfl, a, A.C_BadTape, rfl, T.E_BadTape.oex, T.E_BadTape.no, .inl ⟨ha, k⟩⟩
theorem ok_BadStory_init (T : Txt K mg A) : FnOk P w K mg base CX0 1 A.f_BadStory_init A.d_BadStory_init ["self", "value"] (spEI A.C_BadStory "value") := by
  refine T.F_BadStory_init.ok sc_BadStory_init (fun vs H Q E h => ?_) (fun cdv A0 outer s H vs Q E hr h => ?_)
  · obtain ⟨_, _, rfl, _⟩ := h
    rfl
  · obtain ⟨a, v, rfl, ha, k⟩ := h
    refine ⟨_, pss_one (ps_ost (pv 0) (pv 1)), ?_⟩
    exact ⟨_, rfl, _, rfl, a, A.C_BadStory, rfl, T.E_BadStory.oex, T.E_BadStory.no, .inl ⟨ha, k⟩⟩
theorem ok_BadNames_init (T : Txt K mg A) : FnOk P w K mg base CX0 1 A.f_BadNames_init A.d_BadNames_init ["self", "value"] (spEI A.C_BadNames "value") := by
  refine T.F_BadNames_init.ok sc_BadNames_init (fun vs H Q E h => ?_) (fun cdv A0 outer s H vs Q E hr h => ?_)
  · obtain ⟨_, _, rfl, _⟩ := h
    rfl
  · obtain ⟨a, v, rfl, ha, k⟩ := h
    refine ⟨_, pss_one (ps_ost (pv 0) (pv 1)), ?_⟩
    exact ⟨_, rfl, _, rfl, a, A.C_BadNames, rfl, T.E_BadNames.oex, T.E_BadNames.no, .inl ⟨ha, k⟩⟩
theorem ok_BadPrices_init (T : Txt K mg A) : FnOk P w K mg base CX0 1 A.f_BadPrices_init A.d_BadPrices_init ["self", "value"] (spEI A.C_BadPrices "value") := by
  refine T.F_BadPrices_init.ok sc_BadPrices_init (fun vs H Q E h => ?_) (fun cdv A0 outer s H vs Q E hr h => ?_)
  · obtain ⟨_, _, rfl, _⟩ := h
    rfl
  · obtain ⟨a, v, rfl, ha, k⟩ := h
    refine ⟨_, pss_one (ps_ost (pv 0) (pv 1)), ?_⟩
    exact ⟨_, rfl, _, rfl, a, A.C_BadPrices, rfl, T.E_BadPrices.oex, T.E_BadPrices.no, .inl ⟨ha, k⟩⟩
theorem ok_BadDoing_init (T : Txt K mg A) : FnOk P w K mg base CX0 1 A.f_BadDoing_init A.d_BadDoing_init ["self", "value"] (spEI A.C_BadDoing "value") := by
  refine T.F_BadDoing_init.ok sc_BadDoing_init (fun vs H Q E h => ?_) (fun cdv A0 outer s H vs Q E hr h => ?_)
  · obtain ⟨_, _, rfl, _⟩ := h
    rfl
  · obtain ⟨a, v, rfl, ha, k⟩ := h
    refine ⟨_, pss_one (ps_ost (pv 0) (pv 1)), ?_⟩
    exact ⟨_, rfl, _, rfl, a, A.C_BadDoing, rfl, T.E_BadDoing.oex, T.E_BadDoing.no, .inl ⟨ha, k⟩⟩
theorem ok_NoKey_init (T : Txt K mg A) : FnOk P w K mg base CX0 1 A.f_NoKey_init A.d_NoKey_init ["self", "value"] (spEI A.C_NoKey "value") := by
  refine T.F_NoKey_init.ok sc_NoKey_init (fun vs H Q E h => ?_) (fun cdv A0 outer s H vs Q E hr h => ?_)
  · obtain ⟨_, _, rfl, _⟩ := h
    rfl
  · obtain ⟨a, v, rfl, ha, k⟩ := h
    refine ⟨_, pss_one (ps_ost (pv 0) (pv 1)), ?_⟩
    exact ⟨_, rfl, _, rfl, a, A.C_NoKey, rfl, T.E_NoKey.oex, T.E_NoKey.no, .inl ⟨ha, k⟩⟩
theorem ok_BadChecks_init (T : Txt K mg A) : FnOk P w K mg base CX0 1 A.f_BadChecks_init A.d_BadChecks_init ["self", "value"] (spEI A.C_BadChecks "value") := by
  refine T.F_BadChecks_init.ok sc_BadChecks_init (fun vs H Q E h => ?_) (fun cdv A0 outer s H vs Q E hr h => ?_)
  · obtain ⟨_, _, rfl, _⟩ := h
    rfl
  · obtain ⟨a, v, rfl, ha, k⟩ := h
    refine ⟨_, pss_one (ps_ost (pv 0) (pv 1)), ?_⟩
    exact ⟨_, rfl, _, rfl, a, A.C_BadChecks, rfl, T.E_BadChecks.oex, T.E_BadChecks.no, .inl ⟨ha, k⟩⟩
theorem ok_BadPlace_init (T : Txt K mg A) : FnOk P w K mg base CX0 1 A.f_BadPlace_init A.d_BadPlace_init ["self", "value"] (spEI A.C_BadPlace "value") := by
  refine T.F_BadPlace_init.ok sc_BadPlace_init (fun vs H Q E h => ?_) (fun cdv A0 outer s H vs Q E hr h => ?_)
  · obtain ⟨_, _, rfl, _⟩ := h
    rfl
  · obtain ⟨a, v, rfl, ha, k⟩ := h
    refine ⟨_, pss_one (ps_ost (pv 0) (pv 1)), ?_⟩
    exact ⟨_, rfl, _, rfl, a, A.C_BadPlace, rfl, T.E_BadPlace.oex, T.E_BadPlace.no, .inl ⟨ha, k⟩⟩
theorem ok_NoTape_init (T : Txt K mg A) : FnOk P w K mg base CX0 1 A.f_NoTape_init A.d_NoTape_init ["self", "value"] (spEI A.C_NoTape "value") := by
  refine T.F_NoTape_init.ok sc_NoTape_init (fun vs H Q E h => ?_) (fun cdv A0 outer s H vs Q E hr h => ?_)
  · obtain ⟨_, _, rfl, _⟩ := h
    rfl
  · obtain ⟨a, v, rfl, ha, k⟩ := h
    refine ⟨_, pss_one (ps_ost (pv 0) (pv 1)), ?_⟩
    exact ⟨_, rfl, _, rfl, a, A.C_NoTape, rfl, T.E_NoTape.oex, T.E_NoTape.no, .inl ⟨ha, k⟩⟩
theorem ok_NoName_init (T : Txt K mg A) : FnOk P w K mg base CX0 1 A.f_NoName_init A.d_NoName_init ["self", "value"] (spEI A.C_NoName "value") := by
  refine T.F_NoName_init.ok sc_NoName_init (fun vs H Q E h => ?_) (fun cdv A0 outer s H vs Q E hr h => ?_)
  · obtain ⟨_, _, rfl, _⟩ := h
    rfl
  · obtain ⟨a, v, rfl, ha, k⟩ := h
    refine ⟨_, pss_one (ps_ost (pv 0) (pv 1)), ?_⟩
    exact ⟨_, rfl, _, rfl, a, A.C_NoName, rfl, T.E_NoName.oex, T.E_NoName.no, .inl ⟨ha, k⟩⟩
theorem ok_BadThing_init (T : Txt K mg A) : FnOk P w K mg base CX0 1 A.f_BadThing_init A.d_BadThing_init ["self", "value"] (spEI A.C_BadThing "value") := by
  refine T.F_BadThing_init.ok sc_BadThing_init (fun vs H Q E h => ?_) (fun cdv A0 outer s H vs Q E hr h => ?_)
  · obtain ⟨_, _, rfl, _⟩ := h
    rfl
  · obtain ⟨a, v, rfl, ha, k⟩ := h
    refine ⟨_, pss_one (ps_ost (pv 0) (pv 1)), ?_⟩
    exact ⟨_, rfl, _, rfl, a, A.C_BadThing, rfl, T.E_BadThing.oex, T.E_BadThing.no, .inl ⟨ha, k⟩⟩
theorem ok_BadRoom_init (T : Txt K mg A) : FnOk P w K mg base CX0 1 A.f_BadRoom_init A.d_BadRoom_init ["self", "value"] (spEI A.C_BadRoom "value") := by
  refine T.F_BadRoom_init.ok sc_BadRoom_init (fun vs H Q E h => ?_) (fun cdv A0 outer s H vs Q E hr h => ?_)
  · obtain ⟨_, _, rfl, _⟩ := h
    rfl
  · obtain ⟨a, v, rfl, ha, k⟩ := h
    refine ⟨_, pss_one (ps_ost (pv 0) (pv 1)), ?_⟩
    exact ⟨_, rfl, _, rfl, a, A.C_BadRoom, rfl, T.E_BadRoom.oex, T.E_BadRoom.no, .inl ⟨ha, k⟩⟩
theorem ok_BadCommand_init (T : Txt K mg A) : FnOk P w K mg base CX0 1 A.f_BadCommand_init A.d_BadCommand_init ["self", "value"] (spEI A.C_BadCommand "value") := by
  refine T.F_BadCommand_init.ok sc_BadCommand_init (fun vs H Q E h => ?_) (fun cdv A0 outer s H vs Q E hr h => ?_)
  · obtain ⟨_, _, rfl, _⟩ := h
    rfl
  · obtain ⟨a, v, rfl, ha, k⟩ := h
    refine ⟨_, pss_one (ps_ost (pv 0) (pv 1)), ?_⟩
    exact ⟨_, rfl, _, rfl, a, A.C_BadCommand, rfl, T.E_BadCommand.oex, T.E_BadCommand.no, .inl ⟨ha, k⟩⟩
theorem ok_Fault_init (T : Txt K mg A) : FnOk P w K mg base CX0 1 A.f_Fault_init A.d_Fault_init ["self", "words"] (spEI A.C_Fault "words") := by
  refine T.F_Fault_init.ok sc_Fault_init (fun vs H Q E h => ?_) (fun cdv A0 outer s H vs Q E hr h => ?_)
  · obtain ⟨_, _, rfl, _⟩ := h
    rfl
  · obtain ⟨a, v, rfl, ha, k⟩ := h
    refine ⟨_, pss_one (ps_ost (pv 0) (pv 1)), ?_⟩
    exact ⟨_, rfl, _, rfl, a, A.C_Fault, rfl, T.E_Fault.oex, T.E_Fault.no, .inl ⟨ha, k⟩⟩
theorem ok_TooMany_init (T : Txt K mg A) : FnOk P w K mg base CX0 1 A.f_TooMany_init A.d_TooMany_init ["self", "number"] (spEI A.C_TooMany "number") := by
  refine T.F_TooMany_init.ok sc_TooMany_init (fun vs H Q E h => ?_) (fun cdv A0 outer s H vs Q E hr h => ?_)
  · obtain ⟨_, _, rfl, _⟩ := h
    rfl
  · obtain ⟨a, v, rfl, ha, k⟩ := h
    refine ⟨_, pss_one (ps_ost (pv 0) (pv 1)), ?_⟩
    exact ⟨_, rfl, _, rfl, a, A.C_TooMany, rfl, T.E_TooMany.oex, T.E_TooMany.no, .inl ⟨ha, k⟩⟩
theorem ok_BadLine_init (T : Txt K mg A) : FnOk P w K mg base CX0 1 A.f_BadLine_init A.d_BadLine_init ["self", "number"] (spEI A.C_BadLine "number") := by
  refine T.F_BadLine_init.ok sc_BadLine_init (fun vs H Q E h => ?_) (fun cdv A0 outer s H vs Q E hr h => ?_)
  · obtain ⟨_, _, rfl, _⟩ := h
    rfl
  · obtain ⟨a, v, rfl, ha, k⟩ := h
    refine ⟨_, pss_one (ps_ost (pv 0) (pv 1)), ?_⟩
    exact ⟨_, rfl, _, rfl, a, A.C_BadLine, rfl, T.E_BadLine.oex, T.E_BadLine.no, .inl ⟨ha, k⟩⟩
theorem ok_BadBytes_init (T : Txt K mg A) : FnOk P w K mg base CX0 1 A.f_BadBytes_init A.d_BadBytes_init ["self", "at"] (spEI A.C_BadBytes "at") := by
  refine T.F_BadBytes_init.ok sc_BadBytes_init (fun vs H Q E h => ?_) (fun cdv A0 outer s H vs Q E hr h => ?_)
  · obtain ⟨_, _, rfl, _⟩ := h
    rfl
  · obtain ⟨a, v, rfl, ha, k⟩ := h
    refine ⟨_, pss_one (ps_ost (pv 0) (pv 1)), ?_⟩
    exact ⟨_, rfl, _, rfl, a, A.C_BadBytes, rfl, T.E_BadBytes.oex, T.E_BadBytes.no, .inl ⟨ha, k⟩⟩
theorem ok_Wrong_init (T : Txt K mg A) : FnOk P w K mg base CX0 1 A.f_Wrong_init A.d_Wrong_init ["self", "story"] (spEI A.C_Wrong "story") := by
  refine T.F_Wrong_init.ok sc_Wrong_init (fun vs H Q E h => ?_) (fun cdv A0 outer s H vs Q E hr h => ?_)
  · obtain ⟨_, _, rfl, _⟩ := h
    rfl
  · obtain ⟨a, v, rfl, ha, k⟩ := h
    refine ⟨_, pss_one (ps_ost (pv 0) (pv 1)), ?_⟩
    exact ⟨_, rfl, _, rfl, a, A.C_Wrong, rfl, T.E_Wrong.oex, T.E_Wrong.no, .inl ⟨ha, k⟩⟩
def spMade (A : Ad) : Sp := fun vs H Q _ => ∃ v : V, vs = [v] ∧ ∀ (p : Addr) (H' : Hp) (xs : List V), Ex H H' → H' p = some (.lst xs) → Errs H' "value" v (cs28 A) xs → Q (.ref p) H'
theorem ok_made (T : Txt K mg A) : FnOk P w K mg base CX0 3 A.f_made A.d_made ["_law_thing"] (spMade A) := by
  refine T.F_made.ok sc_made (fun vs H Q E h => ?_) (fun cdv A0 outer s H vs Q E hr h => ?_)
  · obtain ⟨_, rfl, _⟩ := h
    rfl
  · have hu := hu_of hr
    obtain ⟨v, rfl, k⟩ := h
    refine ⟨_, (pss_cons (ps_set (i := 1) sc_made.nd rfl (Or.inl rfl) (pe_lst (pa_cons (pe_mkE T.E_BadSize (ok_BadSize_init T) (hr.mono (by decide)) (by rfl) (pv 0)) (pa_cons (pe_mkE T.E_BadWorth (ok_BadWorth_init T) (hr.mono (by decide)) (by rfl) (pv 0)) (pa_cons (pe_mkE T.E_BadMost (ok_BadMost_init T) (hr.mono (by decide)) (by rfl) (pv 0)) (pa_cons (pe_mkE T.E_BadItems (ok_BadItems_init T) (hr.mono (by decide)) (by rfl) (pv 0)) (pa_cons (pe_mkE T.E_BadWorld (ok_BadWorld_init T) (hr.mono (by decide)) (by rfl) (pv 0)) (pa_cons (pe_mkE T.E_BadSetup (ok_BadSetup_init T) (hr.mono (by decide)) (by rfl) (pv 0)) pa_nil))))))))
      (pss_cons (ps_set (i := 1) sc_made.nd rfl (Or.inl rfl) (pe_op op_cat (pv 1) (pe_lst (pa_cons (pe_mkE T.E_BadStand (ok_BadStand_init T) (hr.mono (by decide)) (by rfl) (pv 0)) (pa_cons (pe_mkE T.E_BadDeed (ok_BadDeed_init T) (hr.mono (by decide)) (by rfl) (pv 0)) (pa_cons (pe_mkE T.E_BadPlan (ok_BadPlan_init T) (hr.mono (by decide)) (by rfl) (pv 0)) (pa_cons (pe_mkE T.E_BadKinds (ok_BadKinds_init T) (hr.mono (by decide)) (by rfl) (pv 0)) (pa_cons (pe_mkE T.E_BadSteps (ok_BadSteps_init T) (hr.mono (by decide)) (by rfl) (pv 0)) (pa_cons (pe_mkE T.E_BadEnd (ok_BadEnd_init T) (hr.mono (by decide)) (by rfl) (pv 0)) pa_nil)))))))))
      (pss_cons (ps_set (i := 1) sc_made.nd rfl (Or.inl rfl) (pe_op op_cat (pv 1) (pe_lst (pa_cons (pe_mkE T.E_NoWork (ok_NoWork_init T) (hr.mono (by decide)) (by rfl) (pv 0)) (pa_cons (pe_mkE T.E_BadValues (ok_BadValues_init T) (hr.mono (by decide)) (by rfl) (pv 0)) (pa_cons (pe_mkE T.E_BadState (ok_BadState_init T) (hr.mono (by decide)) (by rfl) (pv 0)) (pa_cons (pe_mkE T.E_BadTape (ok_BadTape_init T) (hr.mono (by decide)) (by rfl) (pv 0)) (pa_cons (pe_mkE T.E_BadStory (ok_BadStory_init T) (hr.mono (by decide)) (by rfl) (pv 0)) pa_nil))))))))
      (pss_cons (ps_set (i := 1) sc_made.nd rfl (Or.inl rfl) (pe_op op_cat (pv 1) (pe_lst (pa_cons (pe_mkE T.E_BadNames (ok_BadNames_init T) (hr.mono (by decide)) (by rfl) (pv 0)) (pa_cons (pe_mkE T.E_BadPrices (ok_BadPrices_init T) (hr.mono (by decide)) (by rfl) (pv 0)) (pa_cons (pe_mkE T.E_BadDoing (ok_BadDoing_init T) (hr.mono (by decide)) (by rfl) (pv 0)) (pa_cons (pe_mkE T.E_NoKey (ok_NoKey_init T) (hr.mono (by decide)) (by rfl) (pv 0)) (pa_cons (pe_mkE T.E_BadChecks (ok_BadChecks_init T) (hr.mono (by decide)) (by rfl) (pv 0)) pa_nil))))))))
      (pss_one (ps_ret (pe_op op_cat (pv 1) (pe_lst (pa_cons (pe_mkE T.E_BadPlace (ok_BadPlace_init T) (hr.mono (by decide)) (by rfl) (pv 0)) (pa_cons (pe_mkE T.E_NoTape (ok_NoTape_init T) (hr.mono (by decide)) (by rfl) (pv 0)) (pa_cons (pe_mkE T.E_NoName (ok_NoName_init T) (hr.mono (by decide)) (by rfl) (pv 0)) (pa_cons (pe_mkE T.E_BadThing (ok_BadThing_init T) (hr.mono (by decide)) (by rfl) (pv 0)) (pa_cons (pe_mkE T.E_BadRoom (ok_BadRoom_init T) (hr.mono (by decide)) (by rfl) (pv 0)) (pa_cons (pe_mkE T.E_BadCommand (ok_BadCommand_init T) (hr.mono (by decide)) (by rfl) (pv 0)) pa_nil)))))))))))))), ?_⟩
    have e0 : Ex H H := Ex.rf H
    refine ⟨_, rfl, fun a1 H1 n1 y1 i1 => ?_⟩
    refine ⟨_, rfl, fun a2 H2 n2 y2 i2 => ?_⟩
    refine ⟨_, rfl, fun a3 H3 n3 y3 i3 => ?_⟩
    refine ⟨_, rfl, fun a4 H4 n4 y4 i4 => ?_⟩
    refine ⟨_, rfl, fun a5 H5 n5 y5 i5 => ?_⟩
    refine ⟨_, rfl, fun a6 H6 n6 y6 i6 => ?_⟩
    refine ⟨(by show 6 ≤ sizeLine; decide), fun l1 nl1 => ?_⟩
    obtain ⟨G1, EG1⟩ : ∃ z, z = upd H6 l1 (.lst [V.ref a1, V.ref a2, V.ref a3, V.ref a4, V.ref a5, V.ref a6]) := ⟨_, rfl⟩
    have g1 : Ex H6 G1 := by rw [EG1]; exact Ex.nw nl1
    have b1 : G1 l1 = some (.lst [V.ref a1, V.ref a2, V.ref a3, V.ref a4, V.ref a5, V.ref a6]) := by rw [EG1]; exact upd_same
    rw [← EG1]
    have c1_6 : Ex H6 G1 := g1
    have c1_5 : Ex H5 G1 := Ex.tr y6 c1_6
    have c1_4 : Ex H4 G1 := Ex.tr y5 c1_5
    have c1_3 : Ex H3 G1 := Ex.tr y4 c1_4
    have c1_2 : Ex H2 G1 := Ex.tr y3 c1_3
    have c1_1 : Ex H1 G1 := Ex.tr y2 c1_2
    have s1 : Ex H G1 := Ex.tr y1 c1_1
    have w1 : Errs G1 "value" v [A.C_BadSize, A.C_BadWorth, A.C_BadMost, A.C_BadItems, A.C_BadWorld, A.C_BadSetup] [V.ref a1, V.ref a2, V.ref a3, V.ref a4, V.ref a5, V.ref a6] := (.cons (i1.ex c1_1) (.cons (i2.ex c1_2) (.cons (i3.ex c1_3) (.cons (i4.ex c1_4) (.cons (i5.ex c1_5) (.cons (i6.ex c1_6) .nil))))))
    refine ⟨_, rfl, ?_⟩
    refine ⟨_, rfl, fun a7 H7 n7 y7 i7 => ?_⟩
    refine ⟨_, rfl, fun a8 H8 n8 y8 i8 => ?_⟩
    refine ⟨_, rfl, fun a9 H9 n9 y9 i9 => ?_⟩
    refine ⟨_, rfl, fun a10 H10 n10 y10 i10 => ?_⟩
    refine ⟨_, rfl, fun a11 H11 n11 y11 i11 => ?_⟩
    refine ⟨_, rfl, fun a12 H12 n12 y12 i12 => ?_⟩
    refine ⟨(by show 6 ≤ sizeLine; decide), fun l2 nl2 => ?_⟩
    obtain ⟨G2, EG2⟩ : ∃ z, z = upd H12 l2 (.lst [V.ref a7, V.ref a8, V.ref a9, V.ref a10, V.ref a11, V.ref a12]) := ⟨_, rfl⟩
    have g2 : Ex H12 G2 := by rw [EG2]; exact Ex.nw nl2
    have b2 : G2 l2 = some (.lst [V.ref a7, V.ref a8, V.ref a9, V.ref a10, V.ref a11, V.ref a12]) := by rw [EG2]; exact upd_same
    rw [← EG2]
    have c2_12 : Ex H12 G2 := g2
    have c2_11 : Ex H11 G2 := Ex.tr y12 c2_12
    have c2_10 : Ex H10 G2 := Ex.tr y11 c2_11
    have c2_9 : Ex H9 G2 := Ex.tr y10 c2_10
    have c2_8 : Ex H8 G2 := Ex.tr y9 c2_9
    have c2_7 : Ex H7 G2 := Ex.tr y8 c2_8
    have s2 : Ex G1 G2 := Ex.tr y7 c2_7
    have w2 : Errs G2 "value" v [A.C_BadStand, A.C_BadDeed, A.C_BadPlan, A.C_BadKinds, A.C_BadSteps, A.C_BadEnd] [V.ref a7, V.ref a8, V.ref a9, V.ref a10, V.ref a11, V.ref a12] := (.cons (i7.ex c2_7) (.cons (i8.ex c2_8) (.cons (i9.ex c2_9) (.cons (i10.ex c2_10) (.cons (i11.ex c2_11) (.cons (i12.ex c2_12) .nil))))))
    refine ⟨l1, l2, _, _, rfl, rfl, s2 _ _ b1, b2, (by show 12 ≤ sizeLine; decide), fun q2 nq2 => ?_⟩
    obtain ⟨J2, EJ2⟩ : ∃ z, z = upd G2 q2 (.lst ([V.ref a1, V.ref a2, V.ref a3, V.ref a4, V.ref a5, V.ref a6] ++ [V.ref a7, V.ref a8, V.ref a9, V.ref a10, V.ref a11, V.ref a12])) := ⟨_, rfl⟩
    have j2 : Ex G2 J2 := by rw [EJ2]; exact Ex.nw nq2
    have d2 : J2 q2 = some (.lst ([V.ref a1, V.ref a2, V.ref a3, V.ref a4, V.ref a5, V.ref a6] ++ [V.ref a7, V.ref a8, V.ref a9, V.ref a10, V.ref a11, V.ref a12])) := by rw [EJ2]; exact upd_same
    rw [← EJ2]
    have v2 : Errs J2 "value" v ([A.C_BadSize, A.C_BadWorth, A.C_BadMost, A.C_BadItems, A.C_BadWorld, A.C_BadSetup] ++ [A.C_BadStand, A.C_BadDeed, A.C_BadPlan, A.C_BadKinds, A.C_BadSteps, A.C_BadEnd]) ([V.ref a1, V.ref a2, V.ref a3, V.ref a4, V.ref a5, V.ref a6] ++ [V.ref a7, V.ref a8, V.ref a9, V.ref a10, V.ref a11, V.ref a12]) := Errs.app ((w1.ex s2).ex j2) (w2.ex j2)
    have t2 : Ex G1 J2 := s2.tr j2
    refine ⟨_, rfl, ?_⟩
    refine ⟨_, rfl, fun a13 H13 n13 y13 i13 => ?_⟩
    refine ⟨_, rfl, fun a14 H14 n14 y14 i14 => ?_⟩
    refine ⟨_, rfl, fun a15 H15 n15 y15 i15 => ?_⟩
    refine ⟨_, rfl, fun a16 H16 n16 y16 i16 => ?_⟩
    refine ⟨_, rfl, fun a17 H17 n17 y17 i17 => ?_⟩
    refine ⟨(by show 5 ≤ sizeLine; decide), fun l3 nl3 => ?_⟩
    obtain ⟨G3, EG3⟩ : ∃ z, z = upd H17 l3 (.lst [V.ref a13, V.ref a14, V.ref a15, V.ref a16, V.ref a17]) := ⟨_, rfl⟩
    have g3 : Ex H17 G3 := by rw [EG3]; exact Ex.nw nl3
    have b3 : G3 l3 = some (.lst [V.ref a13, V.ref a14, V.ref a15, V.ref a16, V.ref a17]) := by rw [EG3]; exact upd_same
    rw [← EG3]
    have c3_17 : Ex H17 G3 := g3
    have c3_16 : Ex H16 G3 := Ex.tr y17 c3_17
    have c3_15 : Ex H15 G3 := Ex.tr y16 c3_16
    have c3_14 : Ex H14 G3 := Ex.tr y15 c3_15
    have c3_13 : Ex H13 G3 := Ex.tr y14 c3_14
    have s3 : Ex J2 G3 := Ex.tr y13 c3_13
    have w3 : Errs G3 "value" v [A.C_NoWork, A.C_BadValues, A.C_BadState, A.C_BadTape, A.C_BadStory] [V.ref a13, V.ref a14, V.ref a15, V.ref a16, V.ref a17] := (.cons (i13.ex c3_13) (.cons (i14.ex c3_14) (.cons (i15.ex c3_15) (.cons (i16.ex c3_16) (.cons (i17.ex c3_17) .nil)))))
    refine ⟨q2, l3, _, _, rfl, rfl, s3 _ _ d2, b3, (by show 17 ≤ sizeLine; decide), fun q3 nq3 => ?_⟩
    obtain ⟨J3, EJ3⟩ : ∃ z, z = upd G3 q3 (.lst (([V.ref a1, V.ref a2, V.ref a3, V.ref a4, V.ref a5, V.ref a6] ++ [V.ref a7, V.ref a8, V.ref a9, V.ref a10, V.ref a11, V.ref a12]) ++ [V.ref a13, V.ref a14, V.ref a15, V.ref a16, V.ref a17])) := ⟨_, rfl⟩
    have j3 : Ex G3 J3 := by rw [EJ3]; exact Ex.nw nq3
    have d3 : J3 q3 = some (.lst (([V.ref a1, V.ref a2, V.ref a3, V.ref a4, V.ref a5, V.ref a6] ++ [V.ref a7, V.ref a8, V.ref a9, V.ref a10, V.ref a11, V.ref a12]) ++ [V.ref a13, V.ref a14, V.ref a15, V.ref a16, V.ref a17])) := by rw [EJ3]; exact upd_same
    rw [← EJ3]
    have v3 : Errs J3 "value" v (([A.C_BadSize, A.C_BadWorth, A.C_BadMost, A.C_BadItems, A.C_BadWorld, A.C_BadSetup] ++ [A.C_BadStand, A.C_BadDeed, A.C_BadPlan, A.C_BadKinds, A.C_BadSteps, A.C_BadEnd]) ++ [A.C_NoWork, A.C_BadValues, A.C_BadState, A.C_BadTape, A.C_BadStory]) (([V.ref a1, V.ref a2, V.ref a3, V.ref a4, V.ref a5, V.ref a6] ++ [V.ref a7, V.ref a8, V.ref a9, V.ref a10, V.ref a11, V.ref a12]) ++ [V.ref a13, V.ref a14, V.ref a15, V.ref a16, V.ref a17]) := Errs.app ((v2.ex s3).ex j3) (w3.ex j3)
    have t3 : Ex J2 J3 := s3.tr j3
    refine ⟨_, rfl, ?_⟩
    refine ⟨_, rfl, fun a18 H18 n18 y18 i18 => ?_⟩
    refine ⟨_, rfl, fun a19 H19 n19 y19 i19 => ?_⟩
    refine ⟨_, rfl, fun a20 H20 n20 y20 i20 => ?_⟩
    refine ⟨_, rfl, fun a21 H21 n21 y21 i21 => ?_⟩
    refine ⟨_, rfl, fun a22 H22 n22 y22 i22 => ?_⟩
    refine ⟨(by show 5 ≤ sizeLine; decide), fun l4 nl4 => ?_⟩
    obtain ⟨G4, EG4⟩ : ∃ z, z = upd H22 l4 (.lst [V.ref a18, V.ref a19, V.ref a20, V.ref a21, V.ref a22]) := ⟨_, rfl⟩
    have g4 : Ex H22 G4 := by rw [EG4]; exact Ex.nw nl4
    have b4 : G4 l4 = some (.lst [V.ref a18, V.ref a19, V.ref a20, V.ref a21, V.ref a22]) := by rw [EG4]; exact upd_same
    rw [← EG4]
    have c4_22 : Ex H22 G4 := g4
    have c4_21 : Ex H21 G4 := Ex.tr y22 c4_22
    have c4_20 : Ex H20 G4 := Ex.tr y21 c4_21
    have c4_19 : Ex H19 G4 := Ex.tr y20 c4_20
    have c4_18 : Ex H18 G4 := Ex.tr y19 c4_19
    have s4 : Ex J3 G4 := Ex.tr y18 c4_18
    have w4 : Errs G4 "value" v [A.C_BadNames, A.C_BadPrices, A.C_BadDoing, A.C_NoKey, A.C_BadChecks] [V.ref a18, V.ref a19, V.ref a20, V.ref a21, V.ref a22] := (.cons (i18.ex c4_18) (.cons (i19.ex c4_19) (.cons (i20.ex c4_20) (.cons (i21.ex c4_21) (.cons (i22.ex c4_22) .nil)))))
    refine ⟨q3, l4, _, _, rfl, rfl, s4 _ _ d3, b4, (by show 22 ≤ sizeLine; decide), fun q4 nq4 => ?_⟩
    obtain ⟨J4, EJ4⟩ : ∃ z, z = upd G4 q4 (.lst ((([V.ref a1, V.ref a2, V.ref a3, V.ref a4, V.ref a5, V.ref a6] ++ [V.ref a7, V.ref a8, V.ref a9, V.ref a10, V.ref a11, V.ref a12]) ++ [V.ref a13, V.ref a14, V.ref a15, V.ref a16, V.ref a17]) ++ [V.ref a18, V.ref a19, V.ref a20, V.ref a21, V.ref a22])) := ⟨_, rfl⟩
    have j4 : Ex G4 J4 := by rw [EJ4]; exact Ex.nw nq4
    have d4 : J4 q4 = some (.lst ((([V.ref a1, V.ref a2, V.ref a3, V.ref a4, V.ref a5, V.ref a6] ++ [V.ref a7, V.ref a8, V.ref a9, V.ref a10, V.ref a11, V.ref a12]) ++ [V.ref a13, V.ref a14, V.ref a15, V.ref a16, V.ref a17]) ++ [V.ref a18, V.ref a19, V.ref a20, V.ref a21, V.ref a22])) := by rw [EJ4]; exact upd_same
    rw [← EJ4]
    have v4 : Errs J4 "value" v ((([A.C_BadSize, A.C_BadWorth, A.C_BadMost, A.C_BadItems, A.C_BadWorld, A.C_BadSetup] ++ [A.C_BadStand, A.C_BadDeed, A.C_BadPlan, A.C_BadKinds, A.C_BadSteps, A.C_BadEnd]) ++ [A.C_NoWork, A.C_BadValues, A.C_BadState, A.C_BadTape, A.C_BadStory]) ++ [A.C_BadNames, A.C_BadPrices, A.C_BadDoing, A.C_NoKey, A.C_BadChecks]) ((([V.ref a1, V.ref a2, V.ref a3, V.ref a4, V.ref a5, V.ref a6] ++ [V.ref a7, V.ref a8, V.ref a9, V.ref a10, V.ref a11, V.ref a12]) ++ [V.ref a13, V.ref a14, V.ref a15, V.ref a16, V.ref a17]) ++ [V.ref a18, V.ref a19, V.ref a20, V.ref a21, V.ref a22]) := Errs.app ((v3.ex s4).ex j4) (w4.ex j4)
    have t4 : Ex J3 J4 := s4.tr j4
    refine ⟨_, rfl, ?_⟩
    refine ⟨_, rfl, fun a23 H23 n23 y23 i23 => ?_⟩
    refine ⟨_, rfl, fun a24 H24 n24 y24 i24 => ?_⟩
    refine ⟨_, rfl, fun a25 H25 n25 y25 i25 => ?_⟩
    refine ⟨_, rfl, fun a26 H26 n26 y26 i26 => ?_⟩
    refine ⟨_, rfl, fun a27 H27 n27 y27 i27 => ?_⟩
    refine ⟨_, rfl, fun a28 H28 n28 y28 i28 => ?_⟩
    refine ⟨(by show 6 ≤ sizeLine; decide), fun l5 nl5 => ?_⟩
    obtain ⟨G5, EG5⟩ : ∃ z, z = upd H28 l5 (.lst [V.ref a23, V.ref a24, V.ref a25, V.ref a26, V.ref a27, V.ref a28]) := ⟨_, rfl⟩
    have g5 : Ex H28 G5 := by rw [EG5]; exact Ex.nw nl5
    have b5 : G5 l5 = some (.lst [V.ref a23, V.ref a24, V.ref a25, V.ref a26, V.ref a27, V.ref a28]) := by rw [EG5]; exact upd_same
    rw [← EG5]
    have c5_28 : Ex H28 G5 := g5
    have c5_27 : Ex H27 G5 := Ex.tr y28 c5_28
    have c5_26 : Ex H26 G5 := Ex.tr y27 c5_27
    have c5_25 : Ex H25 G5 := Ex.tr y26 c5_26
    have c5_24 : Ex H24 G5 := Ex.tr y25 c5_25
    have c5_23 : Ex H23 G5 := Ex.tr y24 c5_24
    have s5 : Ex J4 G5 := Ex.tr y23 c5_23
    have w5 : Errs G5 "value" v [A.C_BadPlace, A.C_NoTape, A.C_NoName, A.C_BadThing, A.C_BadRoom, A.C_BadCommand] [V.ref a23, V.ref a24, V.ref a25, V.ref a26, V.ref a27, V.ref a28] := (.cons (i23.ex c5_23) (.cons (i24.ex c5_24) (.cons (i25.ex c5_25) (.cons (i26.ex c5_26) (.cons (i27.ex c5_27) (.cons (i28.ex c5_28) .nil))))))
    refine ⟨q4, l5, _, _, rfl, rfl, s5 _ _ d4, b5, (by show 28 ≤ sizeLine; decide), fun q5 nq5 => ?_⟩
    obtain ⟨J5, EJ5⟩ : ∃ z, z = upd G5 q5 (.lst (((([V.ref a1, V.ref a2, V.ref a3, V.ref a4, V.ref a5, V.ref a6] ++ [V.ref a7, V.ref a8, V.ref a9, V.ref a10, V.ref a11, V.ref a12]) ++ [V.ref a13, V.ref a14, V.ref a15, V.ref a16, V.ref a17]) ++ [V.ref a18, V.ref a19, V.ref a20, V.ref a21, V.ref a22]) ++ [V.ref a23, V.ref a24, V.ref a25, V.ref a26, V.ref a27, V.ref a28])) := ⟨_, rfl⟩
    have j5 : Ex G5 J5 := by rw [EJ5]; exact Ex.nw nq5
    have d5 : J5 q5 = some (.lst (((([V.ref a1, V.ref a2, V.ref a3, V.ref a4, V.ref a5, V.ref a6] ++ [V.ref a7, V.ref a8, V.ref a9, V.ref a10, V.ref a11, V.ref a12]) ++ [V.ref a13, V.ref a14, V.ref a15, V.ref a16, V.ref a17]) ++ [V.ref a18, V.ref a19, V.ref a20, V.ref a21, V.ref a22]) ++ [V.ref a23, V.ref a24, V.ref a25, V.ref a26, V.ref a27, V.ref a28])) := by rw [EJ5]; exact upd_same
    rw [← EJ5]
    have v5 : Errs J5 "value" v (((([A.C_BadSize, A.C_BadWorth, A.C_BadMost, A.C_BadItems, A.C_BadWorld, A.C_BadSetup] ++ [A.C_BadStand, A.C_BadDeed, A.C_BadPlan, A.C_BadKinds, A.C_BadSteps, A.C_BadEnd]) ++ [A.C_NoWork, A.C_BadValues, A.C_BadState, A.C_BadTape, A.C_BadStory]) ++ [A.C_BadNames, A.C_BadPrices, A.C_BadDoing, A.C_NoKey, A.C_BadChecks]) ++ [A.C_BadPlace, A.C_NoTape, A.C_NoName, A.C_BadThing, A.C_BadRoom, A.C_BadCommand]) (((([V.ref a1, V.ref a2, V.ref a3, V.ref a4, V.ref a5, V.ref a6] ++ [V.ref a7, V.ref a8, V.ref a9, V.ref a10, V.ref a11, V.ref a12]) ++ [V.ref a13, V.ref a14, V.ref a15, V.ref a16, V.ref a17]) ++ [V.ref a18, V.ref a19, V.ref a20, V.ref a21, V.ref a22]) ++ [V.ref a23, V.ref a24, V.ref a25, V.ref a26, V.ref a27, V.ref a28]) := Errs.app ((v4.ex s5).ex j5) (w5.ex j5)
    have t5 : Ex J4 J5 := s5.tr j5
    exact k q5 J5 _ ((((s1.tr t2).tr t3).tr t4).tr t5) d5 v5
theorem ok_made_by_name (T : Txt K mg A) : FnOk P w K mg base CX0 3 A.f_made_by_name A.d_made_by_name ["_law_thing"] (spMade A) := by
  refine T.F_made_by_name.ok sc_made_by_name (fun vs H Q E h => ?_) (fun cdv A0 outer s H vs Q E hr h => ?_)
  · obtain ⟨_, rfl, _⟩ := h
    rfl
  · have hu := hu_of hr
    obtain ⟨v, rfl, k⟩ := h
    refine ⟨_, (pss_cons (ps_set (i := 1) sc_made_by_name.nd rfl (Or.inl rfl) (pe_lst (pa_cons (pe_mkEK T.E_BadSize (ok_BadSize_init T) (hr.mono (by decide)) (by rfl) (pv 0)) (pa_cons (pe_mkEK T.E_BadWorth (ok_BadWorth_init T) (hr.mono (by decide)) (by rfl) (pv 0)) (pa_cons (pe_mkEK T.E_BadMost (ok_BadMost_init T) (hr.mono (by decide)) (by rfl) (pv 0)) (pa_cons (pe_mkEK T.E_BadItems (ok_BadItems_init T) (hr.mono (by decide)) (by rfl) (pv 0)) pa_nil))))))
      (pss_cons (ps_set (i := 1) sc_made_by_name.nd rfl (Or.inl rfl) (pe_op op_cat (pv 1) (pe_lst (pa_cons (pe_mkEK T.E_BadWorld (ok_BadWorld_init T) (hr.mono (by decide)) (by rfl) (pv 0)) (pa_cons (pe_mkEK T.E_BadSetup (ok_BadSetup_init T) (hr.mono (by decide)) (by rfl) (pv 0)) (pa_cons (pe_mkEK T.E_BadStand (ok_BadStand_init T) (hr.mono (by decide)) (by rfl) (pv 0)) (pa_cons (pe_mkEK T.E_BadDeed (ok_BadDeed_init T) (hr.mono (by decide)) (by rfl) (pv 0)) pa_nil)))))))
      (pss_cons (ps_set (i := 1) sc_made_by_name.nd rfl (Or.inl rfl) (pe_op op_cat (pv 1) (pe_lst (pa_cons (pe_mkEK T.E_BadPlan (ok_BadPlan_init T) (hr.mono (by decide)) (by rfl) (pv 0)) (pa_cons (pe_mkEK T.E_BadKinds (ok_BadKinds_init T) (hr.mono (by decide)) (by rfl) (pv 0)) (pa_cons (pe_mkEK T.E_BadSteps (ok_BadSteps_init T) (hr.mono (by decide)) (by rfl) (pv 0)) (pa_cons (pe_mkEK T.E_BadEnd (ok_BadEnd_init T) (hr.mono (by decide)) (by rfl) (pv 0)) pa_nil)))))))
      (pss_cons (ps_set (i := 1) sc_made_by_name.nd rfl (Or.inl rfl) (pe_op op_cat (pv 1) (pe_lst (pa_cons (pe_mkEK T.E_NoWork (ok_NoWork_init T) (hr.mono (by decide)) (by rfl) (pv 0)) (pa_cons (pe_mkEK T.E_BadValues (ok_BadValues_init T) (hr.mono (by decide)) (by rfl) (pv 0)) (pa_cons (pe_mkEK T.E_BadState (ok_BadState_init T) (hr.mono (by decide)) (by rfl) (pv 0)) (pa_cons (pe_mkEK T.E_BadTape (ok_BadTape_init T) (hr.mono (by decide)) (by rfl) (pv 0)) pa_nil)))))))
      (pss_cons (ps_set (i := 1) sc_made_by_name.nd rfl (Or.inl rfl) (pe_op op_cat (pv 1) (pe_lst (pa_cons (pe_mkEK T.E_BadStory (ok_BadStory_init T) (hr.mono (by decide)) (by rfl) (pv 0)) (pa_cons (pe_mkEK T.E_BadNames (ok_BadNames_init T) (hr.mono (by decide)) (by rfl) (pv 0)) (pa_cons (pe_mkEK T.E_BadPrices (ok_BadPrices_init T) (hr.mono (by decide)) (by rfl) (pv 0)) (pa_cons (pe_mkEK T.E_BadDoing (ok_BadDoing_init T) (hr.mono (by decide)) (by rfl) (pv 0)) pa_nil)))))))
      (pss_cons (ps_set (i := 1) sc_made_by_name.nd rfl (Or.inl rfl) (pe_op op_cat (pv 1) (pe_lst (pa_cons (pe_mkEK T.E_NoKey (ok_NoKey_init T) (hr.mono (by decide)) (by rfl) (pv 0)) (pa_cons (pe_mkEK T.E_BadChecks (ok_BadChecks_init T) (hr.mono (by decide)) (by rfl) (pv 0)) (pa_cons (pe_mkEK T.E_BadPlace (ok_BadPlace_init T) (hr.mono (by decide)) (by rfl) (pv 0)) (pa_cons (pe_mkEK T.E_NoTape (ok_NoTape_init T) (hr.mono (by decide)) (by rfl) (pv 0)) pa_nil)))))))
      (pss_cons (ps_set (i := 1) sc_made_by_name.nd rfl (Or.inl rfl) (pe_op op_cat (pv 1) (pe_lst (pa_cons (pe_mkEK T.E_NoName (ok_NoName_init T) (hr.mono (by decide)) (by rfl) (pv 0)) (pa_cons (pe_mkEK T.E_BadThing (ok_BadThing_init T) (hr.mono (by decide)) (by rfl) (pv 0)) (pa_cons (pe_mkEK T.E_BadRoom (ok_BadRoom_init T) (hr.mono (by decide)) (by rfl) (pv 0)) (pa_cons (pe_mkEK T.E_BadCommand (ok_BadCommand_init T) (hr.mono (by decide)) (by rfl) (pv 0)) pa_nil)))))))
      (pss_one (ps_ret (pv 1)))))))))), ?_⟩
    have e0 : Ex H H := Ex.rf H
    refine ⟨_, rfl, fun a1 H1 n1 y1 i1 => ?_⟩
    refine ⟨_, rfl, fun a2 H2 n2 y2 i2 => ?_⟩
    refine ⟨_, rfl, fun a3 H3 n3 y3 i3 => ?_⟩
    refine ⟨_, rfl, fun a4 H4 n4 y4 i4 => ?_⟩
    refine ⟨(by show 4 ≤ sizeLine; decide), fun l1 nl1 => ?_⟩
    obtain ⟨G1, EG1⟩ : ∃ z, z = upd H4 l1 (.lst [V.ref a1, V.ref a2, V.ref a3, V.ref a4]) := ⟨_, rfl⟩
    have g1 : Ex H4 G1 := by rw [EG1]; exact Ex.nw nl1
    have b1 : G1 l1 = some (.lst [V.ref a1, V.ref a2, V.ref a3, V.ref a4]) := by rw [EG1]; exact upd_same
    rw [← EG1]
    have c1_4 : Ex H4 G1 := g1
    have c1_3 : Ex H3 G1 := Ex.tr y4 c1_4
    have c1_2 : Ex H2 G1 := Ex.tr y3 c1_3
    have c1_1 : Ex H1 G1 := Ex.tr y2 c1_2
    have s1 : Ex H G1 := Ex.tr y1 c1_1
    have w1 : Errs G1 "value" v [A.C_BadSize, A.C_BadWorth, A.C_BadMost, A.C_BadItems] [V.ref a1, V.ref a2, V.ref a3, V.ref a4] := (.cons (i1.ex c1_1) (.cons (i2.ex c1_2) (.cons (i3.ex c1_3) (.cons (i4.ex c1_4) .nil))))
    refine ⟨_, rfl, ?_⟩
    refine ⟨_, rfl, fun a5 H5 n5 y5 i5 => ?_⟩
    refine ⟨_, rfl, fun a6 H6 n6 y6 i6 => ?_⟩
    refine ⟨_, rfl, fun a7 H7 n7 y7 i7 => ?_⟩
    refine ⟨_, rfl, fun a8 H8 n8 y8 i8 => ?_⟩
    refine ⟨(by show 4 ≤ sizeLine; decide), fun l2 nl2 => ?_⟩
    obtain ⟨G2, EG2⟩ : ∃ z, z = upd H8 l2 (.lst [V.ref a5, V.ref a6, V.ref a7, V.ref a8]) := ⟨_, rfl⟩
    have g2 : Ex H8 G2 := by rw [EG2]; exact Ex.nw nl2
    have b2 : G2 l2 = some (.lst [V.ref a5, V.ref a6, V.ref a7, V.ref a8]) := by rw [EG2]; exact upd_same
    rw [← EG2]
    have c2_8 : Ex H8 G2 := g2
    have c2_7 : Ex H7 G2 := Ex.tr y8 c2_8
    have c2_6 : Ex H6 G2 := Ex.tr y7 c2_7
    have c2_5 : Ex H5 G2 := Ex.tr y6 c2_6
    have s2 : Ex G1 G2 := Ex.tr y5 c2_5
    have w2 : Errs G2 "value" v [A.C_BadWorld, A.C_BadSetup, A.C_BadStand, A.C_BadDeed] [V.ref a5, V.ref a6, V.ref a7, V.ref a8] := (.cons (i5.ex c2_5) (.cons (i6.ex c2_6) (.cons (i7.ex c2_7) (.cons (i8.ex c2_8) .nil))))
    refine ⟨l1, l2, _, _, rfl, rfl, s2 _ _ b1, b2, (by show 8 ≤ sizeLine; decide), fun q2 nq2 => ?_⟩
    obtain ⟨J2, EJ2⟩ : ∃ z, z = upd G2 q2 (.lst ([V.ref a1, V.ref a2, V.ref a3, V.ref a4] ++ [V.ref a5, V.ref a6, V.ref a7, V.ref a8])) := ⟨_, rfl⟩
    have j2 : Ex G2 J2 := by rw [EJ2]; exact Ex.nw nq2
    have d2 : J2 q2 = some (.lst ([V.ref a1, V.ref a2, V.ref a3, V.ref a4] ++ [V.ref a5, V.ref a6, V.ref a7, V.ref a8])) := by rw [EJ2]; exact upd_same
    rw [← EJ2]
    have v2 : Errs J2 "value" v ([A.C_BadSize, A.C_BadWorth, A.C_BadMost, A.C_BadItems] ++ [A.C_BadWorld, A.C_BadSetup, A.C_BadStand, A.C_BadDeed]) ([V.ref a1, V.ref a2, V.ref a3, V.ref a4] ++ [V.ref a5, V.ref a6, V.ref a7, V.ref a8]) := Errs.app ((w1.ex s2).ex j2) (w2.ex j2)
    have t2 : Ex G1 J2 := s2.tr j2
    refine ⟨_, rfl, ?_⟩
    refine ⟨_, rfl, fun a9 H9 n9 y9 i9 => ?_⟩
    refine ⟨_, rfl, fun a10 H10 n10 y10 i10 => ?_⟩
    refine ⟨_, rfl, fun a11 H11 n11 y11 i11 => ?_⟩
    refine ⟨_, rfl, fun a12 H12 n12 y12 i12 => ?_⟩
    refine ⟨(by show 4 ≤ sizeLine; decide), fun l3 nl3 => ?_⟩
    obtain ⟨G3, EG3⟩ : ∃ z, z = upd H12 l3 (.lst [V.ref a9, V.ref a10, V.ref a11, V.ref a12]) := ⟨_, rfl⟩
    have g3 : Ex H12 G3 := by rw [EG3]; exact Ex.nw nl3
    have b3 : G3 l3 = some (.lst [V.ref a9, V.ref a10, V.ref a11, V.ref a12]) := by rw [EG3]; exact upd_same
    rw [← EG3]
    have c3_12 : Ex H12 G3 := g3
    have c3_11 : Ex H11 G3 := Ex.tr y12 c3_12
    have c3_10 : Ex H10 G3 := Ex.tr y11 c3_11
    have c3_9 : Ex H9 G3 := Ex.tr y10 c3_10
    have s3 : Ex J2 G3 := Ex.tr y9 c3_9
    have w3 : Errs G3 "value" v [A.C_BadPlan, A.C_BadKinds, A.C_BadSteps, A.C_BadEnd] [V.ref a9, V.ref a10, V.ref a11, V.ref a12] := (.cons (i9.ex c3_9) (.cons (i10.ex c3_10) (.cons (i11.ex c3_11) (.cons (i12.ex c3_12) .nil))))
    refine ⟨q2, l3, _, _, rfl, rfl, s3 _ _ d2, b3, (by show 12 ≤ sizeLine; decide), fun q3 nq3 => ?_⟩
    obtain ⟨J3, EJ3⟩ : ∃ z, z = upd G3 q3 (.lst (([V.ref a1, V.ref a2, V.ref a3, V.ref a4] ++ [V.ref a5, V.ref a6, V.ref a7, V.ref a8]) ++ [V.ref a9, V.ref a10, V.ref a11, V.ref a12])) := ⟨_, rfl⟩
    have j3 : Ex G3 J3 := by rw [EJ3]; exact Ex.nw nq3
    have d3 : J3 q3 = some (.lst (([V.ref a1, V.ref a2, V.ref a3, V.ref a4] ++ [V.ref a5, V.ref a6, V.ref a7, V.ref a8]) ++ [V.ref a9, V.ref a10, V.ref a11, V.ref a12])) := by rw [EJ3]; exact upd_same
    rw [← EJ3]
    have v3 : Errs J3 "value" v (([A.C_BadSize, A.C_BadWorth, A.C_BadMost, A.C_BadItems] ++ [A.C_BadWorld, A.C_BadSetup, A.C_BadStand, A.C_BadDeed]) ++ [A.C_BadPlan, A.C_BadKinds, A.C_BadSteps, A.C_BadEnd]) (([V.ref a1, V.ref a2, V.ref a3, V.ref a4] ++ [V.ref a5, V.ref a6, V.ref a7, V.ref a8]) ++ [V.ref a9, V.ref a10, V.ref a11, V.ref a12]) := Errs.app ((v2.ex s3).ex j3) (w3.ex j3)
    have t3 : Ex J2 J3 := s3.tr j3
    refine ⟨_, rfl, ?_⟩
    refine ⟨_, rfl, fun a13 H13 n13 y13 i13 => ?_⟩
    refine ⟨_, rfl, fun a14 H14 n14 y14 i14 => ?_⟩
    refine ⟨_, rfl, fun a15 H15 n15 y15 i15 => ?_⟩
    refine ⟨_, rfl, fun a16 H16 n16 y16 i16 => ?_⟩
    refine ⟨(by show 4 ≤ sizeLine; decide), fun l4 nl4 => ?_⟩
    obtain ⟨G4, EG4⟩ : ∃ z, z = upd H16 l4 (.lst [V.ref a13, V.ref a14, V.ref a15, V.ref a16]) := ⟨_, rfl⟩
    have g4 : Ex H16 G4 := by rw [EG4]; exact Ex.nw nl4
    have b4 : G4 l4 = some (.lst [V.ref a13, V.ref a14, V.ref a15, V.ref a16]) := by rw [EG4]; exact upd_same
    rw [← EG4]
    have c4_16 : Ex H16 G4 := g4
    have c4_15 : Ex H15 G4 := Ex.tr y16 c4_16
    have c4_14 : Ex H14 G4 := Ex.tr y15 c4_15
    have c4_13 : Ex H13 G4 := Ex.tr y14 c4_14
    have s4 : Ex J3 G4 := Ex.tr y13 c4_13
    have w4 : Errs G4 "value" v [A.C_NoWork, A.C_BadValues, A.C_BadState, A.C_BadTape] [V.ref a13, V.ref a14, V.ref a15, V.ref a16] := (.cons (i13.ex c4_13) (.cons (i14.ex c4_14) (.cons (i15.ex c4_15) (.cons (i16.ex c4_16) .nil))))
    refine ⟨q3, l4, _, _, rfl, rfl, s4 _ _ d3, b4, (by show 16 ≤ sizeLine; decide), fun q4 nq4 => ?_⟩
    obtain ⟨J4, EJ4⟩ : ∃ z, z = upd G4 q4 (.lst ((([V.ref a1, V.ref a2, V.ref a3, V.ref a4] ++ [V.ref a5, V.ref a6, V.ref a7, V.ref a8]) ++ [V.ref a9, V.ref a10, V.ref a11, V.ref a12]) ++ [V.ref a13, V.ref a14, V.ref a15, V.ref a16])) := ⟨_, rfl⟩
    have j4 : Ex G4 J4 := by rw [EJ4]; exact Ex.nw nq4
    have d4 : J4 q4 = some (.lst ((([V.ref a1, V.ref a2, V.ref a3, V.ref a4] ++ [V.ref a5, V.ref a6, V.ref a7, V.ref a8]) ++ [V.ref a9, V.ref a10, V.ref a11, V.ref a12]) ++ [V.ref a13, V.ref a14, V.ref a15, V.ref a16])) := by rw [EJ4]; exact upd_same
    rw [← EJ4]
    have v4 : Errs J4 "value" v ((([A.C_BadSize, A.C_BadWorth, A.C_BadMost, A.C_BadItems] ++ [A.C_BadWorld, A.C_BadSetup, A.C_BadStand, A.C_BadDeed]) ++ [A.C_BadPlan, A.C_BadKinds, A.C_BadSteps, A.C_BadEnd]) ++ [A.C_NoWork, A.C_BadValues, A.C_BadState, A.C_BadTape]) ((([V.ref a1, V.ref a2, V.ref a3, V.ref a4] ++ [V.ref a5, V.ref a6, V.ref a7, V.ref a8]) ++ [V.ref a9, V.ref a10, V.ref a11, V.ref a12]) ++ [V.ref a13, V.ref a14, V.ref a15, V.ref a16]) := Errs.app ((v3.ex s4).ex j4) (w4.ex j4)
    have t4 : Ex J3 J4 := s4.tr j4
    refine ⟨_, rfl, ?_⟩
    refine ⟨_, rfl, fun a17 H17 n17 y17 i17 => ?_⟩
    refine ⟨_, rfl, fun a18 H18 n18 y18 i18 => ?_⟩
    refine ⟨_, rfl, fun a19 H19 n19 y19 i19 => ?_⟩
    refine ⟨_, rfl, fun a20 H20 n20 y20 i20 => ?_⟩
    refine ⟨(by show 4 ≤ sizeLine; decide), fun l5 nl5 => ?_⟩
    obtain ⟨G5, EG5⟩ : ∃ z, z = upd H20 l5 (.lst [V.ref a17, V.ref a18, V.ref a19, V.ref a20]) := ⟨_, rfl⟩
    have g5 : Ex H20 G5 := by rw [EG5]; exact Ex.nw nl5
    have b5 : G5 l5 = some (.lst [V.ref a17, V.ref a18, V.ref a19, V.ref a20]) := by rw [EG5]; exact upd_same
    rw [← EG5]
    have c5_20 : Ex H20 G5 := g5
    have c5_19 : Ex H19 G5 := Ex.tr y20 c5_20
    have c5_18 : Ex H18 G5 := Ex.tr y19 c5_19
    have c5_17 : Ex H17 G5 := Ex.tr y18 c5_18
    have s5 : Ex J4 G5 := Ex.tr y17 c5_17
    have w5 : Errs G5 "value" v [A.C_BadStory, A.C_BadNames, A.C_BadPrices, A.C_BadDoing] [V.ref a17, V.ref a18, V.ref a19, V.ref a20] := (.cons (i17.ex c5_17) (.cons (i18.ex c5_18) (.cons (i19.ex c5_19) (.cons (i20.ex c5_20) .nil))))
    refine ⟨q4, l5, _, _, rfl, rfl, s5 _ _ d4, b5, (by show 20 ≤ sizeLine; decide), fun q5 nq5 => ?_⟩
    obtain ⟨J5, EJ5⟩ : ∃ z, z = upd G5 q5 (.lst (((([V.ref a1, V.ref a2, V.ref a3, V.ref a4] ++ [V.ref a5, V.ref a6, V.ref a7, V.ref a8]) ++ [V.ref a9, V.ref a10, V.ref a11, V.ref a12]) ++ [V.ref a13, V.ref a14, V.ref a15, V.ref a16]) ++ [V.ref a17, V.ref a18, V.ref a19, V.ref a20])) := ⟨_, rfl⟩
    have j5 : Ex G5 J5 := by rw [EJ5]; exact Ex.nw nq5
    have d5 : J5 q5 = some (.lst (((([V.ref a1, V.ref a2, V.ref a3, V.ref a4] ++ [V.ref a5, V.ref a6, V.ref a7, V.ref a8]) ++ [V.ref a9, V.ref a10, V.ref a11, V.ref a12]) ++ [V.ref a13, V.ref a14, V.ref a15, V.ref a16]) ++ [V.ref a17, V.ref a18, V.ref a19, V.ref a20])) := by rw [EJ5]; exact upd_same
    rw [← EJ5]
    have v5 : Errs J5 "value" v (((([A.C_BadSize, A.C_BadWorth, A.C_BadMost, A.C_BadItems] ++ [A.C_BadWorld, A.C_BadSetup, A.C_BadStand, A.C_BadDeed]) ++ [A.C_BadPlan, A.C_BadKinds, A.C_BadSteps, A.C_BadEnd]) ++ [A.C_NoWork, A.C_BadValues, A.C_BadState, A.C_BadTape]) ++ [A.C_BadStory, A.C_BadNames, A.C_BadPrices, A.C_BadDoing]) (((([V.ref a1, V.ref a2, V.ref a3, V.ref a4] ++ [V.ref a5, V.ref a6, V.ref a7, V.ref a8]) ++ [V.ref a9, V.ref a10, V.ref a11, V.ref a12]) ++ [V.ref a13, V.ref a14, V.ref a15, V.ref a16]) ++ [V.ref a17, V.ref a18, V.ref a19, V.ref a20]) := Errs.app ((v4.ex s5).ex j5) (w5.ex j5)
    have t5 : Ex J4 J5 := s5.tr j5
    refine ⟨_, rfl, ?_⟩
    refine ⟨_, rfl, fun a21 H21 n21 y21 i21 => ?_⟩
    refine ⟨_, rfl, fun a22 H22 n22 y22 i22 => ?_⟩
    refine ⟨_, rfl, fun a23 H23 n23 y23 i23 => ?_⟩
    refine ⟨_, rfl, fun a24 H24 n24 y24 i24 => ?_⟩
    refine ⟨(by show 4 ≤ sizeLine; decide), fun l6 nl6 => ?_⟩
    obtain ⟨G6, EG6⟩ : ∃ z, z = upd H24 l6 (.lst [V.ref a21, V.ref a22, V.ref a23, V.ref a24]) := ⟨_, rfl⟩
    have g6 : Ex H24 G6 := by rw [EG6]; exact Ex.nw nl6
    have b6 : G6 l6 = some (.lst [V.ref a21, V.ref a22, V.ref a23, V.ref a24]) := by rw [EG6]; exact upd_same
    rw [← EG6]
    have c6_24 : Ex H24 G6 := g6
    have c6_23 : Ex H23 G6 := Ex.tr y24 c6_24
    have c6_22 : Ex H22 G6 := Ex.tr y23 c6_23
    have c6_21 : Ex H21 G6 := Ex.tr y22 c6_22
    have s6 : Ex J5 G6 := Ex.tr y21 c6_21
    have w6 : Errs G6 "value" v [A.C_NoKey, A.C_BadChecks, A.C_BadPlace, A.C_NoTape] [V.ref a21, V.ref a22, V.ref a23, V.ref a24] := (.cons (i21.ex c6_21) (.cons (i22.ex c6_22) (.cons (i23.ex c6_23) (.cons (i24.ex c6_24) .nil))))
    refine ⟨q5, l6, _, _, rfl, rfl, s6 _ _ d5, b6, (by show 24 ≤ sizeLine; decide), fun q6 nq6 => ?_⟩
    obtain ⟨J6, EJ6⟩ : ∃ z, z = upd G6 q6 (.lst ((((([V.ref a1, V.ref a2, V.ref a3, V.ref a4] ++ [V.ref a5, V.ref a6, V.ref a7, V.ref a8]) ++ [V.ref a9, V.ref a10, V.ref a11, V.ref a12]) ++ [V.ref a13, V.ref a14, V.ref a15, V.ref a16]) ++ [V.ref a17, V.ref a18, V.ref a19, V.ref a20]) ++ [V.ref a21, V.ref a22, V.ref a23, V.ref a24])) := ⟨_, rfl⟩
    have j6 : Ex G6 J6 := by rw [EJ6]; exact Ex.nw nq6
    have d6 : J6 q6 = some (.lst ((((([V.ref a1, V.ref a2, V.ref a3, V.ref a4] ++ [V.ref a5, V.ref a6, V.ref a7, V.ref a8]) ++ [V.ref a9, V.ref a10, V.ref a11, V.ref a12]) ++ [V.ref a13, V.ref a14, V.ref a15, V.ref a16]) ++ [V.ref a17, V.ref a18, V.ref a19, V.ref a20]) ++ [V.ref a21, V.ref a22, V.ref a23, V.ref a24])) := by rw [EJ6]; exact upd_same
    rw [← EJ6]
    have v6 : Errs J6 "value" v ((((([A.C_BadSize, A.C_BadWorth, A.C_BadMost, A.C_BadItems] ++ [A.C_BadWorld, A.C_BadSetup, A.C_BadStand, A.C_BadDeed]) ++ [A.C_BadPlan, A.C_BadKinds, A.C_BadSteps, A.C_BadEnd]) ++ [A.C_NoWork, A.C_BadValues, A.C_BadState, A.C_BadTape]) ++ [A.C_BadStory, A.C_BadNames, A.C_BadPrices, A.C_BadDoing]) ++ [A.C_NoKey, A.C_BadChecks, A.C_BadPlace, A.C_NoTape]) ((((([V.ref a1, V.ref a2, V.ref a3, V.ref a4] ++ [V.ref a5, V.ref a6, V.ref a7, V.ref a8]) ++ [V.ref a9, V.ref a10, V.ref a11, V.ref a12]) ++ [V.ref a13, V.ref a14, V.ref a15, V.ref a16]) ++ [V.ref a17, V.ref a18, V.ref a19, V.ref a20]) ++ [V.ref a21, V.ref a22, V.ref a23, V.ref a24]) := Errs.app ((v5.ex s6).ex j6) (w6.ex j6)
    have t6 : Ex J5 J6 := s6.tr j6
    refine ⟨_, rfl, ?_⟩
    refine ⟨_, rfl, fun a25 H25 n25 y25 i25 => ?_⟩
    refine ⟨_, rfl, fun a26 H26 n26 y26 i26 => ?_⟩
    refine ⟨_, rfl, fun a27 H27 n27 y27 i27 => ?_⟩
    refine ⟨_, rfl, fun a28 H28 n28 y28 i28 => ?_⟩
    refine ⟨(by show 4 ≤ sizeLine; decide), fun l7 nl7 => ?_⟩
    obtain ⟨G7, EG7⟩ : ∃ z, z = upd H28 l7 (.lst [V.ref a25, V.ref a26, V.ref a27, V.ref a28]) := ⟨_, rfl⟩
    have g7 : Ex H28 G7 := by rw [EG7]; exact Ex.nw nl7
    have b7 : G7 l7 = some (.lst [V.ref a25, V.ref a26, V.ref a27, V.ref a28]) := by rw [EG7]; exact upd_same
    rw [← EG7]
    have c7_28 : Ex H28 G7 := g7
    have c7_27 : Ex H27 G7 := Ex.tr y28 c7_28
    have c7_26 : Ex H26 G7 := Ex.tr y27 c7_27
    have c7_25 : Ex H25 G7 := Ex.tr y26 c7_26
    have s7 : Ex J6 G7 := Ex.tr y25 c7_25
    have w7 : Errs G7 "value" v [A.C_NoName, A.C_BadThing, A.C_BadRoom, A.C_BadCommand] [V.ref a25, V.ref a26, V.ref a27, V.ref a28] := (.cons (i25.ex c7_25) (.cons (i26.ex c7_26) (.cons (i27.ex c7_27) (.cons (i28.ex c7_28) .nil))))
    refine ⟨q6, l7, _, _, rfl, rfl, s7 _ _ d6, b7, (by show 28 ≤ sizeLine; decide), fun q7 nq7 => ?_⟩
    obtain ⟨J7, EJ7⟩ : ∃ z, z = upd G7 q7 (.lst (((((([V.ref a1, V.ref a2, V.ref a3, V.ref a4] ++ [V.ref a5, V.ref a6, V.ref a7, V.ref a8]) ++ [V.ref a9, V.ref a10, V.ref a11, V.ref a12]) ++ [V.ref a13, V.ref a14, V.ref a15, V.ref a16]) ++ [V.ref a17, V.ref a18, V.ref a19, V.ref a20]) ++ [V.ref a21, V.ref a22, V.ref a23, V.ref a24]) ++ [V.ref a25, V.ref a26, V.ref a27, V.ref a28])) := ⟨_, rfl⟩
    have j7 : Ex G7 J7 := by rw [EJ7]; exact Ex.nw nq7
    have d7 : J7 q7 = some (.lst (((((([V.ref a1, V.ref a2, V.ref a3, V.ref a4] ++ [V.ref a5, V.ref a6, V.ref a7, V.ref a8]) ++ [V.ref a9, V.ref a10, V.ref a11, V.ref a12]) ++ [V.ref a13, V.ref a14, V.ref a15, V.ref a16]) ++ [V.ref a17, V.ref a18, V.ref a19, V.ref a20]) ++ [V.ref a21, V.ref a22, V.ref a23, V.ref a24]) ++ [V.ref a25, V.ref a26, V.ref a27, V.ref a28])) := by rw [EJ7]; exact upd_same
    rw [← EJ7]
    have v7 : Errs J7 "value" v (((((([A.C_BadSize, A.C_BadWorth, A.C_BadMost, A.C_BadItems] ++ [A.C_BadWorld, A.C_BadSetup, A.C_BadStand, A.C_BadDeed]) ++ [A.C_BadPlan, A.C_BadKinds, A.C_BadSteps, A.C_BadEnd]) ++ [A.C_NoWork, A.C_BadValues, A.C_BadState, A.C_BadTape]) ++ [A.C_BadStory, A.C_BadNames, A.C_BadPrices, A.C_BadDoing]) ++ [A.C_NoKey, A.C_BadChecks, A.C_BadPlace, A.C_NoTape]) ++ [A.C_NoName, A.C_BadThing, A.C_BadRoom, A.C_BadCommand]) (((((([V.ref a1, V.ref a2, V.ref a3, V.ref a4] ++ [V.ref a5, V.ref a6, V.ref a7, V.ref a8]) ++ [V.ref a9, V.ref a10, V.ref a11, V.ref a12]) ++ [V.ref a13, V.ref a14, V.ref a15, V.ref a16]) ++ [V.ref a17, V.ref a18, V.ref a19, V.ref a20]) ++ [V.ref a21, V.ref a22, V.ref a23, V.ref a24]) ++ [V.ref a25, V.ref a26, V.ref a27, V.ref a28]) := Errs.app ((v6.ex s7).ex j7) (w7.ex j7)
    have t7 : Ex J6 J7 := s7.tr j7
    refine ⟨_, rfl, ?_⟩
    exact k q7 J7 _ ((((((s1.tr t2).tr t3).tr t4).tr t5).tr t6).tr t7) d7 v7
def sp1 (A : Ad) (Cs : List Addr) : Sp := fun vs H Q _ => ∃ (e C : Addr), vs = [.ref e] ∧ C ∈ cs36 A ∧ ErrAny H C e ∧ ∀ (p : Addr) (H' : Hp), Ex H H' → H' p = some (.lst (Cs.map fun D => V.bl (C == D))) → Q (.ref p) H'
theorem ok_first_marks (T : Txt K mg A) : FnOk P w K mg base CX0 1 A.f_first_marks A.d_first_marks ["_law_e"] (sp1 A [A.C_BadSize, A.C_BadWorth, A.C_BadMost, A.C_BadItems, A.C_BadWorld, A.C_BadSetup, A.C_BadStand, A.C_BadDeed, A.C_BadPlan, A.C_BadKinds, A.C_BadSteps, A.C_BadEnd, A.C_NoWork, A.C_BadValues, A.C_BadState]) := by
  refine T.F_first_marks.ok sc_first_marks (fun vs H Q E h => ?_) (fun cdv A0 outer s H vs Q E hr h => ?_)
  · obtain ⟨_, _, rfl, _⟩ := h
    rfl
  · have hu := hu_of hr
    obtain ⟨e, C, rfl, hC, hE, k⟩ := h
    refine ⟨_, (pss_cons (ps_set (i := 1) sc_first_marks.nd rfl (Or.inl rfl) (pe_lst (pa_cons (pe_callB call_isA (by rfl) T.g_isinstance (by decide +kernel) (pa_cons (pv 0) (pa_cons (pe_glob (v := .ref A.C_BadSize) (by rfl) T.m_BadSize rfl) pa_nil))) (pa_cons (pe_callB call_isA (by rfl) T.g_isinstance (by decide +kernel) (pa_cons (pv 0) (pa_cons (pe_glob (v := .ref A.C_BadWorth) (by rfl) T.m_BadWorth rfl) pa_nil))) (pa_cons (pe_callB call_isA (by rfl) T.g_isinstance (by decide +kernel) (pa_cons (pv 0) (pa_cons (pe_glob (v := .ref A.C_BadMost) (by rfl) T.m_BadMost rfl) pa_nil))) (pa_cons (pe_callB call_isA (by rfl) T.g_isinstance (by decide +kernel) (pa_cons (pv 0) (pa_cons (pe_glob (v := .ref A.C_BadItems) (by rfl) T.m_BadItems rfl) pa_nil))) pa_nil))))))
      (pss_cons (ps_set (i := 1) sc_first_marks.nd rfl (Or.inl rfl) (pe_op op_cat (pv 1) (pe_lst (pa_cons (pe_callB call_isA (by rfl) T.g_isinstance (by decide +kernel) (pa_cons (pv 0) (pa_cons (pe_glob (v := .ref A.C_BadWorld) (by rfl) T.m_BadWorld rfl) pa_nil))) (pa_cons (pe_callB call_isA (by rfl) T.g_isinstance (by decide +kernel) (pa_cons (pv 0) (pa_cons (pe_glob (v := .ref A.C_BadSetup) (by rfl) T.m_BadSetup rfl) pa_nil))) (pa_cons (pe_callB call_isA (by rfl) T.g_isinstance (by decide +kernel) (pa_cons (pv 0) (pa_cons (pe_glob (v := .ref A.C_BadStand) (by rfl) T.m_BadStand rfl) pa_nil))) pa_nil))))))
      (pss_cons (ps_set (i := 1) sc_first_marks.nd rfl (Or.inl rfl) (pe_op op_cat (pv 1) (pe_lst (pa_cons (pe_callB call_isA (by rfl) T.g_isinstance (by decide +kernel) (pa_cons (pv 0) (pa_cons (pe_glob (v := .ref A.C_BadDeed) (by rfl) T.m_BadDeed rfl) pa_nil))) (pa_cons (pe_callB call_isA (by rfl) T.g_isinstance (by decide +kernel) (pa_cons (pv 0) (pa_cons (pe_glob (v := .ref A.C_BadPlan) (by rfl) T.m_BadPlan rfl) pa_nil))) (pa_cons (pe_callB call_isA (by rfl) T.g_isinstance (by decide +kernel) (pa_cons (pv 0) (pa_cons (pe_glob (v := .ref A.C_BadKinds) (by rfl) T.m_BadKinds rfl) pa_nil))) (pa_cons (pe_callB call_isA (by rfl) T.g_isinstance (by decide +kernel) (pa_cons (pv 0) (pa_cons (pe_glob (v := .ref A.C_BadSteps) (by rfl) T.m_BadSteps rfl) pa_nil))) pa_nil)))))))
      (pss_one (ps_ret (pe_op op_cat (pv 1) (pe_lst (pa_cons (pe_callB call_isA (by rfl) T.g_isinstance (by decide +kernel) (pa_cons (pv 0) (pa_cons (pe_glob (v := .ref A.C_BadEnd) (by rfl) T.m_BadEnd rfl) pa_nil))) (pa_cons (pe_callB call_isA (by rfl) T.g_isinstance (by decide +kernel) (pa_cons (pv 0) (pa_cons (pe_glob (v := .ref A.C_NoWork) (by rfl) T.m_NoWork rfl) pa_nil))) (pa_cons (pe_callB call_isA (by rfl) T.g_isinstance (by decide +kernel) (pa_cons (pv 0) (pa_cons (pe_glob (v := .ref A.C_BadValues) (by rfl) T.m_BadValues rfl) pa_nil))) (pa_cons (pe_callB call_isA (by rfl) T.g_isinstance (by decide +kernel) (pa_cons (pv 0) (pa_cons (pe_glob (v := .ref A.C_BadState) (by rfl) T.m_BadState rfl) pa_nil))) pa_nil))))))))))), ?_⟩
    refine ⟨_, rfl, e, C, _, _, _, rfl, hE, T.er C hC, (fun u r => r), T.kit C hC _ (.head _), ?_⟩
    refine ⟨_, rfl, e, C, _, _, _, rfl, hE, T.er C hC, (fun u r => r), T.kit C hC _ (.tail _ (.head _)), ?_⟩
    refine ⟨_, rfl, e, C, _, _, _, rfl, hE, T.er C hC, (fun u r => r), T.kit C hC _ (.tail _ (.tail _ (.head _))), ?_⟩
    refine ⟨_, rfl, e, C, _, _, _, rfl, hE, T.er C hC, (fun u r => r), T.kit C hC _ (.tail _ (.tail _ (.tail _ (.head _)))), ?_⟩
    refine ⟨(by show 4 ≤ sizeLine; decide), fun l1 nl1 => ?_⟩
    obtain ⟨G1, EG1⟩ : ∃ z, z = upd H l1 (.lst [V.bl (C == A.C_BadSize), V.bl (C == A.C_BadWorth), V.bl (C == A.C_BadMost), V.bl (C == A.C_BadItems)]) := ⟨_, rfl⟩
    have g1 : Ex H G1 := by rw [EG1]; exact Ex.nw nl1
    have b1 : G1 l1 = some (.lst [V.bl (C == A.C_BadSize), V.bl (C == A.C_BadWorth), V.bl (C == A.C_BadMost), V.bl (C == A.C_BadItems)]) := by rw [EG1]; exact upd_same
    rw [← EG1]
    have t1 : Ex H G1 := g1
    refine ⟨_, rfl, ?_⟩
    refine ⟨_, rfl, e, C, _, _, _, rfl, (hE.ex t1), T.er C hC, (fun u r => r), T.kit C hC _ (.tail _ (.tail _ (.tail _ (.tail _ (.head _))))), ?_⟩
    refine ⟨_, rfl, e, C, _, _, _, rfl, (hE.ex t1), T.er C hC, (fun u r => r), T.kit C hC _ (.tail _ (.tail _ (.tail _ (.tail _ (.tail _ (.head _)))))), ?_⟩
    refine ⟨_, rfl, e, C, _, _, _, rfl, (hE.ex t1), T.er C hC, (fun u r => r), T.kit C hC _ (.tail _ (.tail _ (.tail _ (.tail _ (.tail _ (.tail _ (.head _))))))), ?_⟩
    refine ⟨(by show 3 ≤ sizeLine; decide), fun l2 nl2 => ?_⟩
    obtain ⟨G2, EG2⟩ : ∃ z, z = upd G1 l2 (.lst [V.bl (C == A.C_BadWorld), V.bl (C == A.C_BadSetup), V.bl (C == A.C_BadStand)]) := ⟨_, rfl⟩
    have g2 : Ex G1 G2 := by rw [EG2]; exact Ex.nw nl2
    have b2 : G2 l2 = some (.lst [V.bl (C == A.C_BadWorld), V.bl (C == A.C_BadSetup), V.bl (C == A.C_BadStand)]) := by rw [EG2]; exact upd_same
    rw [← EG2]
    refine ⟨l1, l2, _, _, rfl, rfl, g2 _ _ b1, b2, (by show 7 ≤ sizeLine; decide), fun q2 nq2 => ?_⟩
    obtain ⟨J2, EJ2⟩ : ∃ z, z = upd G2 q2 (.lst ([V.bl (C == A.C_BadSize), V.bl (C == A.C_BadWorth), V.bl (C == A.C_BadMost), V.bl (C == A.C_BadItems)] ++ [V.bl (C == A.C_BadWorld), V.bl (C == A.C_BadSetup), V.bl (C == A.C_BadStand)])) := ⟨_, rfl⟩
    have j2 : Ex G2 J2 := by rw [EJ2]; exact Ex.nw nq2
    have d2 : J2 q2 = some (.lst ([V.bl (C == A.C_BadSize), V.bl (C == A.C_BadWorth), V.bl (C == A.C_BadMost), V.bl (C == A.C_BadItems)] ++ [V.bl (C == A.C_BadWorld), V.bl (C == A.C_BadSetup), V.bl (C == A.C_BadStand)])) := by rw [EJ2]; exact upd_same
    rw [← EJ2]
    have t2 : Ex H J2 := t1.tr (g2.tr j2)
    refine ⟨_, rfl, ?_⟩
    refine ⟨_, rfl, e, C, _, _, _, rfl, (hE.ex t2), T.er C hC, (fun u r => r), T.kit C hC _ (.tail _ (.tail _ (.tail _ (.tail _ (.tail _ (.tail _ (.tail _ (.head _)))))))), ?_⟩
    refine ⟨_, rfl, e, C, _, _, _, rfl, (hE.ex t2), T.er C hC, (fun u r => r), T.kit C hC _ (.tail _ (.tail _ (.tail _ (.tail _ (.tail _ (.tail _ (.tail _ (.tail _ (.head _))))))))), ?_⟩
    refine ⟨_, rfl, e, C, _, _, _, rfl, (hE.ex t2), T.er C hC, (fun u r => r), T.kit C hC _ (.tail _ (.tail _ (.tail _ (.tail _ (.tail _ (.tail _ (.tail _ (.tail _ (.tail _ (.head _)))))))))), ?_⟩
    refine ⟨_, rfl, e, C, _, _, _, rfl, (hE.ex t2), T.er C hC, (fun u r => r), T.kit C hC _ (.tail _ (.tail _ (.tail _ (.tail _ (.tail _ (.tail _ (.tail _ (.tail _ (.tail _ (.tail _ (.head _))))))))))), ?_⟩
    refine ⟨(by show 4 ≤ sizeLine; decide), fun l3 nl3 => ?_⟩
    obtain ⟨G3, EG3⟩ : ∃ z, z = upd J2 l3 (.lst [V.bl (C == A.C_BadDeed), V.bl (C == A.C_BadPlan), V.bl (C == A.C_BadKinds), V.bl (C == A.C_BadSteps)]) := ⟨_, rfl⟩
    have g3 : Ex J2 G3 := by rw [EG3]; exact Ex.nw nl3
    have b3 : G3 l3 = some (.lst [V.bl (C == A.C_BadDeed), V.bl (C == A.C_BadPlan), V.bl (C == A.C_BadKinds), V.bl (C == A.C_BadSteps)]) := by rw [EG3]; exact upd_same
    rw [← EG3]
    refine ⟨q2, l3, _, _, rfl, rfl, g3 _ _ d2, b3, (by show 11 ≤ sizeLine; decide), fun q3 nq3 => ?_⟩
    obtain ⟨J3, EJ3⟩ : ∃ z, z = upd G3 q3 (.lst (([V.bl (C == A.C_BadSize), V.bl (C == A.C_BadWorth), V.bl (C == A.C_BadMost), V.bl (C == A.C_BadItems)] ++ [V.bl (C == A.C_BadWorld), V.bl (C == A.C_BadSetup), V.bl (C == A.C_BadStand)]) ++ [V.bl (C == A.C_BadDeed), V.bl (C == A.C_BadPlan), V.bl (C == A.C_BadKinds), V.bl (C == A.C_BadSteps)])) := ⟨_, rfl⟩
    have j3 : Ex G3 J3 := by rw [EJ3]; exact Ex.nw nq3
    have d3 : J3 q3 = some (.lst (([V.bl (C == A.C_BadSize), V.bl (C == A.C_BadWorth), V.bl (C == A.C_BadMost), V.bl (C == A.C_BadItems)] ++ [V.bl (C == A.C_BadWorld), V.bl (C == A.C_BadSetup), V.bl (C == A.C_BadStand)]) ++ [V.bl (C == A.C_BadDeed), V.bl (C == A.C_BadPlan), V.bl (C == A.C_BadKinds), V.bl (C == A.C_BadSteps)])) := by rw [EJ3]; exact upd_same
    rw [← EJ3]
    have t3 : Ex H J3 := t2.tr (g3.tr j3)
    refine ⟨_, rfl, ?_⟩
    refine ⟨_, rfl, e, C, _, _, _, rfl, (hE.ex t3), T.er C hC, (fun u r => r), T.kit C hC _ (.tail _ (.tail _ (.tail _ (.tail _ (.tail _ (.tail _ (.tail _ (.tail _ (.tail _ (.tail _ (.tail _ (.head _)))))))))))), ?_⟩
    refine ⟨_, rfl, e, C, _, _, _, rfl, (hE.ex t3), T.er C hC, (fun u r => r), T.kit C hC _ (.tail _ (.tail _ (.tail _ (.tail _ (.tail _ (.tail _ (.tail _ (.tail _ (.tail _ (.tail _ (.tail _ (.tail _ (.head _))))))))))))), ?_⟩
    refine ⟨_, rfl, e, C, _, _, _, rfl, (hE.ex t3), T.er C hC, (fun u r => r), T.kit C hC _ (.tail _ (.tail _ (.tail _ (.tail _ (.tail _ (.tail _ (.tail _ (.tail _ (.tail _ (.tail _ (.tail _ (.tail _ (.tail _ (.head _)))))))))))))), ?_⟩
    refine ⟨_, rfl, e, C, _, _, _, rfl, (hE.ex t3), T.er C hC, (fun u r => r), T.kit C hC _ (.tail _ (.tail _ (.tail _ (.tail _ (.tail _ (.tail _ (.tail _ (.tail _ (.tail _ (.tail _ (.tail _ (.tail _ (.tail _ (.tail _ (.head _))))))))))))))), ?_⟩
    refine ⟨(by show 4 ≤ sizeLine; decide), fun l4 nl4 => ?_⟩
    obtain ⟨G4, EG4⟩ : ∃ z, z = upd J3 l4 (.lst [V.bl (C == A.C_BadEnd), V.bl (C == A.C_NoWork), V.bl (C == A.C_BadValues), V.bl (C == A.C_BadState)]) := ⟨_, rfl⟩
    have g4 : Ex J3 G4 := by rw [EG4]; exact Ex.nw nl4
    have b4 : G4 l4 = some (.lst [V.bl (C == A.C_BadEnd), V.bl (C == A.C_NoWork), V.bl (C == A.C_BadValues), V.bl (C == A.C_BadState)]) := by rw [EG4]; exact upd_same
    rw [← EG4]
    refine ⟨q3, l4, _, _, rfl, rfl, g4 _ _ d3, b4, (by show 15 ≤ sizeLine; decide), fun q4 nq4 => ?_⟩
    obtain ⟨J4, EJ4⟩ : ∃ z, z = upd G4 q4 (.lst ((([V.bl (C == A.C_BadSize), V.bl (C == A.C_BadWorth), V.bl (C == A.C_BadMost), V.bl (C == A.C_BadItems)] ++ [V.bl (C == A.C_BadWorld), V.bl (C == A.C_BadSetup), V.bl (C == A.C_BadStand)]) ++ [V.bl (C == A.C_BadDeed), V.bl (C == A.C_BadPlan), V.bl (C == A.C_BadKinds), V.bl (C == A.C_BadSteps)]) ++ [V.bl (C == A.C_BadEnd), V.bl (C == A.C_NoWork), V.bl (C == A.C_BadValues), V.bl (C == A.C_BadState)])) := ⟨_, rfl⟩
    have j4 : Ex G4 J4 := by rw [EJ4]; exact Ex.nw nq4
    have d4 : J4 q4 = some (.lst ((([V.bl (C == A.C_BadSize), V.bl (C == A.C_BadWorth), V.bl (C == A.C_BadMost), V.bl (C == A.C_BadItems)] ++ [V.bl (C == A.C_BadWorld), V.bl (C == A.C_BadSetup), V.bl (C == A.C_BadStand)]) ++ [V.bl (C == A.C_BadDeed), V.bl (C == A.C_BadPlan), V.bl (C == A.C_BadKinds), V.bl (C == A.C_BadSteps)]) ++ [V.bl (C == A.C_BadEnd), V.bl (C == A.C_NoWork), V.bl (C == A.C_BadValues), V.bl (C == A.C_BadState)])) := by rw [EJ4]; exact upd_same
    rw [← EJ4]
    have t4 : Ex H J4 := t3.tr (g4.tr j4)
    exact k q4 J4 t4 d4
theorem ok_later_marks (T : Txt K mg A) : FnOk P w K mg base CX0 1 A.f_later_marks A.d_later_marks ["_law_e"] (sp1 A [A.C_BadTape, A.C_BadStory, A.C_BadNames, A.C_BadPrices, A.C_BadDoing, A.C_NoKey, A.C_BadChecks, A.C_BadPlace, A.C_NoTape, A.C_NoName, A.C_BadThing, A.C_BadRoom, A.C_BadCommand, A.C_Fault, A.C_TooMany, A.C_BadLine, A.C_BadBytes, A.C_Wrong, A.C_Empty, A.C_NothingToUndo, A.C_NothingToRedo]) := by
  refine T.F_later_marks.ok sc_later_marks (fun vs H Q E h => ?_) (fun cdv A0 outer s H vs Q E hr h => ?_)
  · obtain ⟨_, _, rfl, _⟩ := h
    rfl
  · have hu := hu_of hr
    obtain ⟨e, C, rfl, hC, hE, k⟩ := h
    refine ⟨_, (pss_cons (ps_set (i := 1) sc_later_marks.nd rfl (Or.inl rfl) (pe_lst (pa_cons (pe_callB call_isA (by rfl) T.g_isinstance (by decide +kernel) (pa_cons (pv 0) (pa_cons (pe_glob (v := .ref A.C_BadTape) (by rfl) T.m_BadTape rfl) pa_nil))) (pa_cons (pe_callB call_isA (by rfl) T.g_isinstance (by decide +kernel) (pa_cons (pv 0) (pa_cons (pe_glob (v := .ref A.C_BadStory) (by rfl) T.m_BadStory rfl) pa_nil))) (pa_cons (pe_callB call_isA (by rfl) T.g_isinstance (by decide +kernel) (pa_cons (pv 0) (pa_cons (pe_glob (v := .ref A.C_BadNames) (by rfl) T.m_BadNames rfl) pa_nil))) (pa_cons (pe_callB call_isA (by rfl) T.g_isinstance (by decide +kernel) (pa_cons (pv 0) (pa_cons (pe_glob (v := .ref A.C_BadPrices) (by rfl) T.m_BadPrices rfl) pa_nil))) pa_nil))))))
      (pss_cons (ps_set (i := 1) sc_later_marks.nd rfl (Or.inl rfl) (pe_op op_cat (pv 1) (pe_lst (pa_cons (pe_callB call_isA (by rfl) T.g_isinstance (by decide +kernel) (pa_cons (pv 0) (pa_cons (pe_glob (v := .ref A.C_BadDoing) (by rfl) T.m_BadDoing rfl) pa_nil))) (pa_cons (pe_callB call_isA (by rfl) T.g_isinstance (by decide +kernel) (pa_cons (pv 0) (pa_cons (pe_glob (v := .ref A.C_NoKey) (by rfl) T.m_NoKey rfl) pa_nil))) (pa_cons (pe_callB call_isA (by rfl) T.g_isinstance (by decide +kernel) (pa_cons (pv 0) (pa_cons (pe_glob (v := .ref A.C_BadChecks) (by rfl) T.m_BadChecks rfl) pa_nil))) (pa_cons (pe_callB call_isA (by rfl) T.g_isinstance (by decide +kernel) (pa_cons (pv 0) (pa_cons (pe_glob (v := .ref A.C_BadPlace) (by rfl) T.m_BadPlace rfl) pa_nil))) pa_nil)))))))
      (pss_cons (ps_set (i := 1) sc_later_marks.nd rfl (Or.inl rfl) (pe_op op_cat (pv 1) (pe_lst (pa_cons (pe_callB call_isA (by rfl) T.g_isinstance (by decide +kernel) (pa_cons (pv 0) (pa_cons (pe_glob (v := .ref A.C_NoTape) (by rfl) T.m_NoTape rfl) pa_nil))) (pa_cons (pe_callB call_isA (by rfl) T.g_isinstance (by decide +kernel) (pa_cons (pv 0) (pa_cons (pe_glob (v := .ref A.C_NoName) (by rfl) T.m_NoName rfl) pa_nil))) (pa_cons (pe_callB call_isA (by rfl) T.g_isinstance (by decide +kernel) (pa_cons (pv 0) (pa_cons (pe_glob (v := .ref A.C_BadThing) (by rfl) T.m_BadThing rfl) pa_nil))) (pa_cons (pe_callB call_isA (by rfl) T.g_isinstance (by decide +kernel) (pa_cons (pv 0) (pa_cons (pe_glob (v := .ref A.C_BadRoom) (by rfl) T.m_BadRoom rfl) pa_nil))) pa_nil)))))))
      (pss_cons (ps_set (i := 1) sc_later_marks.nd rfl (Or.inl rfl) (pe_op op_cat (pv 1) (pe_lst (pa_cons (pe_callB call_isA (by rfl) T.g_isinstance (by decide +kernel) (pa_cons (pv 0) (pa_cons (pe_glob (v := .ref A.C_BadCommand) (by rfl) T.m_BadCommand rfl) pa_nil))) (pa_cons (pe_callB call_isA (by rfl) T.g_isinstance (by decide +kernel) (pa_cons (pv 0) (pa_cons (pe_glob (v := .ref A.C_Fault) (by rfl) T.m_Fault rfl) pa_nil))) (pa_cons (pe_callB call_isA (by rfl) T.g_isinstance (by decide +kernel) (pa_cons (pv 0) (pa_cons (pe_glob (v := .ref A.C_TooMany) (by rfl) T.m_TooMany rfl) pa_nil))) (pa_cons (pe_callB call_isA (by rfl) T.g_isinstance (by decide +kernel) (pa_cons (pv 0) (pa_cons (pe_glob (v := .ref A.C_BadLine) (by rfl) T.m_BadLine rfl) pa_nil))) pa_nil)))))))
      (pss_cons (ps_set (i := 1) sc_later_marks.nd rfl (Or.inl rfl) (pe_op op_cat (pv 1) (pe_lst (pa_cons (pe_callB call_isA (by rfl) T.g_isinstance (by decide +kernel) (pa_cons (pv 0) (pa_cons (pe_glob (v := .ref A.C_BadBytes) (by rfl) T.m_BadBytes rfl) pa_nil))) (pa_cons (pe_callB call_isA (by rfl) T.g_isinstance (by decide +kernel) (pa_cons (pv 0) (pa_cons (pe_glob (v := .ref A.C_Wrong) (by rfl) T.m_Wrong rfl) pa_nil))) (pa_cons (pe_callB call_isA (by rfl) T.g_isinstance (by decide +kernel) (pa_cons (pv 0) (pa_cons (pe_glob (v := .ref A.C_Empty) (by rfl) T.m_Empty rfl) pa_nil))) pa_nil))))))
      (pss_one (ps_ret (pe_op op_cat (pv 1) (pe_lst (pa_cons (pe_callB call_isA (by rfl) T.g_isinstance (by decide +kernel) (pa_cons (pv 0) (pa_cons (pe_glob (v := .ref A.C_NothingToUndo) (by rfl) T.m_NothingToUndo rfl) pa_nil))) (pa_cons (pe_callB call_isA (by rfl) T.g_isinstance (by decide +kernel) (pa_cons (pv 0) (pa_cons (pe_glob (v := .ref A.C_NothingToRedo) (by rfl) T.m_NothingToRedo rfl) pa_nil))) pa_nil))))))))))), ?_⟩
    refine ⟨_, rfl, e, C, _, _, _, rfl, hE, T.er C hC, (fun u r => r), T.kit C hC _ (.tail _ (.tail _ (.tail _ (.tail _ (.tail _ (.tail _ (.tail _ (.tail _ (.tail _ (.tail _ (.tail _ (.tail _ (.tail _ (.tail _ (.tail _ (.head _)))))))))))))))), ?_⟩
    refine ⟨_, rfl, e, C, _, _, _, rfl, hE, T.er C hC, (fun u r => r), T.kit C hC _ (.tail _ (.tail _ (.tail _ (.tail _ (.tail _ (.tail _ (.tail _ (.tail _ (.tail _ (.tail _ (.tail _ (.tail _ (.tail _ (.tail _ (.tail _ (.tail _ (.head _))))))))))))))))), ?_⟩
    refine ⟨_, rfl, e, C, _, _, _, rfl, hE, T.er C hC, (fun u r => r), T.kit C hC _ (.tail _ (.tail _ (.tail _ (.tail _ (.tail _ (.tail _ (.tail _ (.tail _ (.tail _ (.tail _ (.tail _ (.tail _ (.tail _ (.tail _ (.tail _ (.tail _ (.tail _ (.head _)))))))))))))))))), ?_⟩
    refine ⟨_, rfl, e, C, _, _, _, rfl, hE, T.er C hC, (fun u r => r), T.kit C hC _ (.tail _ (.tail _ (.tail _ (.tail _ (.tail _ (.tail _ (.tail _ (.tail _ (.tail _ (.tail _ (.tail _ (.tail _ (.tail _ (.tail _ (.tail _ (.tail _ (.tail _ (.tail _ (.head _))))))))))))))))))), ?_⟩
    refine ⟨(by show 4 ≤ sizeLine; decide), fun l1 nl1 => ?_⟩
    obtain ⟨G1, EG1⟩ : ∃ z, z = upd H l1 (.lst [V.bl (C == A.C_BadTape), V.bl (C == A.C_BadStory), V.bl (C == A.C_BadNames), V.bl (C == A.C_BadPrices)]) := ⟨_, rfl⟩
    have g1 : Ex H G1 := by rw [EG1]; exact Ex.nw nl1
    have b1 : G1 l1 = some (.lst [V.bl (C == A.C_BadTape), V.bl (C == A.C_BadStory), V.bl (C == A.C_BadNames), V.bl (C == A.C_BadPrices)]) := by rw [EG1]; exact upd_same
    rw [← EG1]
    have t1 : Ex H G1 := g1
    refine ⟨_, rfl, ?_⟩
    refine ⟨_, rfl, e, C, _, _, _, rfl, (hE.ex t1), T.er C hC, (fun u r => r), T.kit C hC _ (.tail _ (.tail _ (.tail _ (.tail _ (.tail _ (.tail _ (.tail _ (.tail _ (.tail _ (.tail _ (.tail _ (.tail _ (.tail _ (.tail _ (.tail _ (.tail _ (.tail _ (.tail _ (.tail _ (.head _)))))))))))))))))))), ?_⟩
    refine ⟨_, rfl, e, C, _, _, _, rfl, (hE.ex t1), T.er C hC, (fun u r => r), T.kit C hC _ (.tail _ (.tail _ (.tail _ (.tail _ (.tail _ (.tail _ (.tail _ (.tail _ (.tail _ (.tail _ (.tail _ (.tail _ (.tail _ (.tail _ (.tail _ (.tail _ (.tail _ (.tail _ (.tail _ (.tail _ (.head _))))))))))))))))))))), ?_⟩
    refine ⟨_, rfl, e, C, _, _, _, rfl, (hE.ex t1), T.er C hC, (fun u r => r), T.kit C hC _ (.tail _ (.tail _ (.tail _ (.tail _ (.tail _ (.tail _ (.tail _ (.tail _ (.tail _ (.tail _ (.tail _ (.tail _ (.tail _ (.tail _ (.tail _ (.tail _ (.tail _ (.tail _ (.tail _ (.tail _ (.tail _ (.head _)))))))))))))))))))))), ?_⟩
    refine ⟨_, rfl, e, C, _, _, _, rfl, (hE.ex t1), T.er C hC, (fun u r => r), T.kit C hC _ (.tail _ (.tail _ (.tail _ (.tail _ (.tail _ (.tail _ (.tail _ (.tail _ (.tail _ (.tail _ (.tail _ (.tail _ (.tail _ (.tail _ (.tail _ (.tail _ (.tail _ (.tail _ (.tail _ (.tail _ (.tail _ (.tail _ (.head _))))))))))))))))))))))), ?_⟩
    refine ⟨(by show 4 ≤ sizeLine; decide), fun l2 nl2 => ?_⟩
    obtain ⟨G2, EG2⟩ : ∃ z, z = upd G1 l2 (.lst [V.bl (C == A.C_BadDoing), V.bl (C == A.C_NoKey), V.bl (C == A.C_BadChecks), V.bl (C == A.C_BadPlace)]) := ⟨_, rfl⟩
    have g2 : Ex G1 G2 := by rw [EG2]; exact Ex.nw nl2
    have b2 : G2 l2 = some (.lst [V.bl (C == A.C_BadDoing), V.bl (C == A.C_NoKey), V.bl (C == A.C_BadChecks), V.bl (C == A.C_BadPlace)]) := by rw [EG2]; exact upd_same
    rw [← EG2]
    refine ⟨l1, l2, _, _, rfl, rfl, g2 _ _ b1, b2, (by show 8 ≤ sizeLine; decide), fun q2 nq2 => ?_⟩
    obtain ⟨J2, EJ2⟩ : ∃ z, z = upd G2 q2 (.lst ([V.bl (C == A.C_BadTape), V.bl (C == A.C_BadStory), V.bl (C == A.C_BadNames), V.bl (C == A.C_BadPrices)] ++ [V.bl (C == A.C_BadDoing), V.bl (C == A.C_NoKey), V.bl (C == A.C_BadChecks), V.bl (C == A.C_BadPlace)])) := ⟨_, rfl⟩
    have j2 : Ex G2 J2 := by rw [EJ2]; exact Ex.nw nq2
    have d2 : J2 q2 = some (.lst ([V.bl (C == A.C_BadTape), V.bl (C == A.C_BadStory), V.bl (C == A.C_BadNames), V.bl (C == A.C_BadPrices)] ++ [V.bl (C == A.C_BadDoing), V.bl (C == A.C_NoKey), V.bl (C == A.C_BadChecks), V.bl (C == A.C_BadPlace)])) := by rw [EJ2]; exact upd_same
    rw [← EJ2]
    have t2 : Ex H J2 := t1.tr (g2.tr j2)
    refine ⟨_, rfl, ?_⟩
    refine ⟨_, rfl, e, C, _, _, _, rfl, (hE.ex t2), T.er C hC, (fun u r => r), T.kit C hC _ (.tail _ (.tail _ (.tail _ (.tail _ (.tail _ (.tail _ (.tail _ (.tail _ (.tail _ (.tail _ (.tail _ (.tail _ (.tail _ (.tail _ (.tail _ (.tail _ (.tail _ (.tail _ (.tail _ (.tail _ (.tail _ (.tail _ (.tail _ (.head _)))))))))))))))))))))))), ?_⟩
    refine ⟨_, rfl, e, C, _, _, _, rfl, (hE.ex t2), T.er C hC, (fun u r => r), T.kit C hC _ (.tail _ (.tail _ (.tail _ (.tail _ (.tail _ (.tail _ (.tail _ (.tail _ (.tail _ (.tail _ (.tail _ (.tail _ (.tail _ (.tail _ (.tail _ (.tail _ (.tail _ (.tail _ (.tail _ (.tail _ (.tail _ (.tail _ (.tail _ (.tail _ (.head _))))))))))))))))))))))))), ?_⟩
    refine ⟨_, rfl, e, C, _, _, _, rfl, (hE.ex t2), T.er C hC, (fun u r => r), T.kit C hC _ (.tail _ (.tail _ (.tail _ (.tail _ (.tail _ (.tail _ (.tail _ (.tail _ (.tail _ (.tail _ (.tail _ (.tail _ (.tail _ (.tail _ (.tail _ (.tail _ (.tail _ (.tail _ (.tail _ (.tail _ (.tail _ (.tail _ (.tail _ (.tail _ (.tail _ (.head _)))))))))))))))))))))))))), ?_⟩
    refine ⟨_, rfl, e, C, _, _, _, rfl, (hE.ex t2), T.er C hC, (fun u r => r), T.kit C hC _ (.tail _ (.tail _ (.tail _ (.tail _ (.tail _ (.tail _ (.tail _ (.tail _ (.tail _ (.tail _ (.tail _ (.tail _ (.tail _ (.tail _ (.tail _ (.tail _ (.tail _ (.tail _ (.tail _ (.tail _ (.tail _ (.tail _ (.tail _ (.tail _ (.tail _ (.tail _ (.head _))))))))))))))))))))))))))), ?_⟩
    refine ⟨(by show 4 ≤ sizeLine; decide), fun l3 nl3 => ?_⟩
    obtain ⟨G3, EG3⟩ : ∃ z, z = upd J2 l3 (.lst [V.bl (C == A.C_NoTape), V.bl (C == A.C_NoName), V.bl (C == A.C_BadThing), V.bl (C == A.C_BadRoom)]) := ⟨_, rfl⟩
    have g3 : Ex J2 G3 := by rw [EG3]; exact Ex.nw nl3
    have b3 : G3 l3 = some (.lst [V.bl (C == A.C_NoTape), V.bl (C == A.C_NoName), V.bl (C == A.C_BadThing), V.bl (C == A.C_BadRoom)]) := by rw [EG3]; exact upd_same
    rw [← EG3]
    refine ⟨q2, l3, _, _, rfl, rfl, g3 _ _ d2, b3, (by show 12 ≤ sizeLine; decide), fun q3 nq3 => ?_⟩
    obtain ⟨J3, EJ3⟩ : ∃ z, z = upd G3 q3 (.lst (([V.bl (C == A.C_BadTape), V.bl (C == A.C_BadStory), V.bl (C == A.C_BadNames), V.bl (C == A.C_BadPrices)] ++ [V.bl (C == A.C_BadDoing), V.bl (C == A.C_NoKey), V.bl (C == A.C_BadChecks), V.bl (C == A.C_BadPlace)]) ++ [V.bl (C == A.C_NoTape), V.bl (C == A.C_NoName), V.bl (C == A.C_BadThing), V.bl (C == A.C_BadRoom)])) := ⟨_, rfl⟩
    have j3 : Ex G3 J3 := by rw [EJ3]; exact Ex.nw nq3
    have d3 : J3 q3 = some (.lst (([V.bl (C == A.C_BadTape), V.bl (C == A.C_BadStory), V.bl (C == A.C_BadNames), V.bl (C == A.C_BadPrices)] ++ [V.bl (C == A.C_BadDoing), V.bl (C == A.C_NoKey), V.bl (C == A.C_BadChecks), V.bl (C == A.C_BadPlace)]) ++ [V.bl (C == A.C_NoTape), V.bl (C == A.C_NoName), V.bl (C == A.C_BadThing), V.bl (C == A.C_BadRoom)])) := by rw [EJ3]; exact upd_same
    rw [← EJ3]
    have t3 : Ex H J3 := t2.tr (g3.tr j3)
    refine ⟨_, rfl, ?_⟩
    refine ⟨_, rfl, e, C, _, _, _, rfl, (hE.ex t3), T.er C hC, (fun u r => r), T.kit C hC _ (.tail _ (.tail _ (.tail _ (.tail _ (.tail _ (.tail _ (.tail _ (.tail _ (.tail _ (.tail _ (.tail _ (.tail _ (.tail _ (.tail _ (.tail _ (.tail _ (.tail _ (.tail _ (.tail _ (.tail _ (.tail _ (.tail _ (.tail _ (.tail _ (.tail _ (.tail _ (.tail _ (.head _)))))))))))))))))))))))))))), ?_⟩
    refine ⟨_, rfl, e, C, _, _, _, rfl, (hE.ex t3), T.er C hC, (fun u r => r), T.kit C hC _ (.tail _ (.tail _ (.tail _ (.tail _ (.tail _ (.tail _ (.tail _ (.tail _ (.tail _ (.tail _ (.tail _ (.tail _ (.tail _ (.tail _ (.tail _ (.tail _ (.tail _ (.tail _ (.tail _ (.tail _ (.tail _ (.tail _ (.tail _ (.tail _ (.tail _ (.tail _ (.tail _ (.tail _ (.head _))))))))))))))))))))))))))))), ?_⟩
    refine ⟨_, rfl, e, C, _, _, _, rfl, (hE.ex t3), T.er C hC, (fun u r => r), T.kit C hC _ (.tail _ (.tail _ (.tail _ (.tail _ (.tail _ (.tail _ (.tail _ (.tail _ (.tail _ (.tail _ (.tail _ (.tail _ (.tail _ (.tail _ (.tail _ (.tail _ (.tail _ (.tail _ (.tail _ (.tail _ (.tail _ (.tail _ (.tail _ (.tail _ (.tail _ (.tail _ (.tail _ (.tail _ (.tail _ (.head _)))))))))))))))))))))))))))))), ?_⟩
    refine ⟨_, rfl, e, C, _, _, _, rfl, (hE.ex t3), T.er C hC, (fun u r => r), T.kit C hC _ (.tail _ (.tail _ (.tail _ (.tail _ (.tail _ (.tail _ (.tail _ (.tail _ (.tail _ (.tail _ (.tail _ (.tail _ (.tail _ (.tail _ (.tail _ (.tail _ (.tail _ (.tail _ (.tail _ (.tail _ (.tail _ (.tail _ (.tail _ (.tail _ (.tail _ (.tail _ (.tail _ (.tail _ (.tail _ (.tail _ (.head _))))))))))))))))))))))))))))))), ?_⟩
    refine ⟨(by show 4 ≤ sizeLine; decide), fun l4 nl4 => ?_⟩
    obtain ⟨G4, EG4⟩ : ∃ z, z = upd J3 l4 (.lst [V.bl (C == A.C_BadCommand), V.bl (C == A.C_Fault), V.bl (C == A.C_TooMany), V.bl (C == A.C_BadLine)]) := ⟨_, rfl⟩
    have g4 : Ex J3 G4 := by rw [EG4]; exact Ex.nw nl4
    have b4 : G4 l4 = some (.lst [V.bl (C == A.C_BadCommand), V.bl (C == A.C_Fault), V.bl (C == A.C_TooMany), V.bl (C == A.C_BadLine)]) := by rw [EG4]; exact upd_same
    rw [← EG4]
    refine ⟨q3, l4, _, _, rfl, rfl, g4 _ _ d3, b4, (by show 16 ≤ sizeLine; decide), fun q4 nq4 => ?_⟩
    obtain ⟨J4, EJ4⟩ : ∃ z, z = upd G4 q4 (.lst ((([V.bl (C == A.C_BadTape), V.bl (C == A.C_BadStory), V.bl (C == A.C_BadNames), V.bl (C == A.C_BadPrices)] ++ [V.bl (C == A.C_BadDoing), V.bl (C == A.C_NoKey), V.bl (C == A.C_BadChecks), V.bl (C == A.C_BadPlace)]) ++ [V.bl (C == A.C_NoTape), V.bl (C == A.C_NoName), V.bl (C == A.C_BadThing), V.bl (C == A.C_BadRoom)]) ++ [V.bl (C == A.C_BadCommand), V.bl (C == A.C_Fault), V.bl (C == A.C_TooMany), V.bl (C == A.C_BadLine)])) := ⟨_, rfl⟩
    have j4 : Ex G4 J4 := by rw [EJ4]; exact Ex.nw nq4
    have d4 : J4 q4 = some (.lst ((([V.bl (C == A.C_BadTape), V.bl (C == A.C_BadStory), V.bl (C == A.C_BadNames), V.bl (C == A.C_BadPrices)] ++ [V.bl (C == A.C_BadDoing), V.bl (C == A.C_NoKey), V.bl (C == A.C_BadChecks), V.bl (C == A.C_BadPlace)]) ++ [V.bl (C == A.C_NoTape), V.bl (C == A.C_NoName), V.bl (C == A.C_BadThing), V.bl (C == A.C_BadRoom)]) ++ [V.bl (C == A.C_BadCommand), V.bl (C == A.C_Fault), V.bl (C == A.C_TooMany), V.bl (C == A.C_BadLine)])) := by rw [EJ4]; exact upd_same
    rw [← EJ4]
    have t4 : Ex H J4 := t3.tr (g4.tr j4)
    refine ⟨_, rfl, ?_⟩
    refine ⟨_, rfl, e, C, _, _, _, rfl, (hE.ex t4), T.er C hC, (fun u r => r), T.kit C hC _ (.tail _ (.tail _ (.tail _ (.tail _ (.tail _ (.tail _ (.tail _ (.tail _ (.tail _ (.tail _ (.tail _ (.tail _ (.tail _ (.tail _ (.tail _ (.tail _ (.tail _ (.tail _ (.tail _ (.tail _ (.tail _ (.tail _ (.tail _ (.tail _ (.tail _ (.tail _ (.tail _ (.tail _ (.tail _ (.tail _ (.tail _ (.head _)))))))))))))))))))))))))))))))), ?_⟩
    refine ⟨_, rfl, e, C, _, _, _, rfl, (hE.ex t4), T.er C hC, (fun u r => r), T.kit C hC _ (.tail _ (.tail _ (.tail _ (.tail _ (.tail _ (.tail _ (.tail _ (.tail _ (.tail _ (.tail _ (.tail _ (.tail _ (.tail _ (.tail _ (.tail _ (.tail _ (.tail _ (.tail _ (.tail _ (.tail _ (.tail _ (.tail _ (.tail _ (.tail _ (.tail _ (.tail _ (.tail _ (.tail _ (.tail _ (.tail _ (.tail _ (.tail _ (.head _))))))))))))))))))))))))))))))))), ?_⟩
    refine ⟨_, rfl, e, C, _, _, _, rfl, (hE.ex t4), T.er C hC, (fun u r => r), T.kit C hC _ (.tail _ (.tail _ (.tail _ (.tail _ (.tail _ (.tail _ (.tail _ (.tail _ (.tail _ (.tail _ (.tail _ (.tail _ (.tail _ (.tail _ (.tail _ (.tail _ (.tail _ (.tail _ (.tail _ (.tail _ (.tail _ (.tail _ (.tail _ (.tail _ (.tail _ (.tail _ (.tail _ (.tail _ (.tail _ (.tail _ (.tail _ (.tail _ (.tail _ (.head _)))))))))))))))))))))))))))))))))), ?_⟩
    refine ⟨(by show 3 ≤ sizeLine; decide), fun l5 nl5 => ?_⟩
    obtain ⟨G5, EG5⟩ : ∃ z, z = upd J4 l5 (.lst [V.bl (C == A.C_BadBytes), V.bl (C == A.C_Wrong), V.bl (C == A.C_Empty)]) := ⟨_, rfl⟩
    have g5 : Ex J4 G5 := by rw [EG5]; exact Ex.nw nl5
    have b5 : G5 l5 = some (.lst [V.bl (C == A.C_BadBytes), V.bl (C == A.C_Wrong), V.bl (C == A.C_Empty)]) := by rw [EG5]; exact upd_same
    rw [← EG5]
    refine ⟨q4, l5, _, _, rfl, rfl, g5 _ _ d4, b5, (by show 19 ≤ sizeLine; decide), fun q5 nq5 => ?_⟩
    obtain ⟨J5, EJ5⟩ : ∃ z, z = upd G5 q5 (.lst (((([V.bl (C == A.C_BadTape), V.bl (C == A.C_BadStory), V.bl (C == A.C_BadNames), V.bl (C == A.C_BadPrices)] ++ [V.bl (C == A.C_BadDoing), V.bl (C == A.C_NoKey), V.bl (C == A.C_BadChecks), V.bl (C == A.C_BadPlace)]) ++ [V.bl (C == A.C_NoTape), V.bl (C == A.C_NoName), V.bl (C == A.C_BadThing), V.bl (C == A.C_BadRoom)]) ++ [V.bl (C == A.C_BadCommand), V.bl (C == A.C_Fault), V.bl (C == A.C_TooMany), V.bl (C == A.C_BadLine)]) ++ [V.bl (C == A.C_BadBytes), V.bl (C == A.C_Wrong), V.bl (C == A.C_Empty)])) := ⟨_, rfl⟩
    have j5 : Ex G5 J5 := by rw [EJ5]; exact Ex.nw nq5
    have d5 : J5 q5 = some (.lst (((([V.bl (C == A.C_BadTape), V.bl (C == A.C_BadStory), V.bl (C == A.C_BadNames), V.bl (C == A.C_BadPrices)] ++ [V.bl (C == A.C_BadDoing), V.bl (C == A.C_NoKey), V.bl (C == A.C_BadChecks), V.bl (C == A.C_BadPlace)]) ++ [V.bl (C == A.C_NoTape), V.bl (C == A.C_NoName), V.bl (C == A.C_BadThing), V.bl (C == A.C_BadRoom)]) ++ [V.bl (C == A.C_BadCommand), V.bl (C == A.C_Fault), V.bl (C == A.C_TooMany), V.bl (C == A.C_BadLine)]) ++ [V.bl (C == A.C_BadBytes), V.bl (C == A.C_Wrong), V.bl (C == A.C_Empty)])) := by rw [EJ5]; exact upd_same
    rw [← EJ5]
    have t5 : Ex H J5 := t4.tr (g5.tr j5)
    refine ⟨_, rfl, ?_⟩
    refine ⟨_, rfl, e, C, _, _, _, rfl, (hE.ex t5), T.er C hC, (fun u r => r), T.kit C hC _ (.tail _ (.tail _ (.tail _ (.tail _ (.tail _ (.tail _ (.tail _ (.tail _ (.tail _ (.tail _ (.tail _ (.tail _ (.tail _ (.tail _ (.tail _ (.tail _ (.tail _ (.tail _ (.tail _ (.tail _ (.tail _ (.tail _ (.tail _ (.tail _ (.tail _ (.tail _ (.tail _ (.tail _ (.tail _ (.tail _ (.tail _ (.tail _ (.tail _ (.tail _ (.head _))))))))))))))))))))))))))))))))))), ?_⟩
    refine ⟨_, rfl, e, C, _, _, _, rfl, (hE.ex t5), T.er C hC, (fun u r => r), T.kit C hC _ (.tail _ (.tail _ (.tail _ (.tail _ (.tail _ (.tail _ (.tail _ (.tail _ (.tail _ (.tail _ (.tail _ (.tail _ (.tail _ (.tail _ (.tail _ (.tail _ (.tail _ (.tail _ (.tail _ (.tail _ (.tail _ (.tail _ (.tail _ (.tail _ (.tail _ (.tail _ (.tail _ (.tail _ (.tail _ (.tail _ (.tail _ (.tail _ (.tail _ (.tail _ (.tail _ (.head _)))))))))))))))))))))))))))))))))))), ?_⟩
    refine ⟨(by show 2 ≤ sizeLine; decide), fun l6 nl6 => ?_⟩
    obtain ⟨G6, EG6⟩ : ∃ z, z = upd J5 l6 (.lst [V.bl (C == A.C_NothingToUndo), V.bl (C == A.C_NothingToRedo)]) := ⟨_, rfl⟩
    have g6 : Ex J5 G6 := by rw [EG6]; exact Ex.nw nl6
    have b6 : G6 l6 = some (.lst [V.bl (C == A.C_NothingToUndo), V.bl (C == A.C_NothingToRedo)]) := by rw [EG6]; exact upd_same
    rw [← EG6]
    refine ⟨q5, l6, _, _, rfl, rfl, g6 _ _ d5, b6, (by show 21 ≤ sizeLine; decide), fun q6 nq6 => ?_⟩
    obtain ⟨J6, EJ6⟩ : ∃ z, z = upd G6 q6 (.lst ((((([V.bl (C == A.C_BadTape), V.bl (C == A.C_BadStory), V.bl (C == A.C_BadNames), V.bl (C == A.C_BadPrices)] ++ [V.bl (C == A.C_BadDoing), V.bl (C == A.C_NoKey), V.bl (C == A.C_BadChecks), V.bl (C == A.C_BadPlace)]) ++ [V.bl (C == A.C_NoTape), V.bl (C == A.C_NoName), V.bl (C == A.C_BadThing), V.bl (C == A.C_BadRoom)]) ++ [V.bl (C == A.C_BadCommand), V.bl (C == A.C_Fault), V.bl (C == A.C_TooMany), V.bl (C == A.C_BadLine)]) ++ [V.bl (C == A.C_BadBytes), V.bl (C == A.C_Wrong), V.bl (C == A.C_Empty)]) ++ [V.bl (C == A.C_NothingToUndo), V.bl (C == A.C_NothingToRedo)])) := ⟨_, rfl⟩
    have j6 : Ex G6 J6 := by rw [EJ6]; exact Ex.nw nq6
    have d6 : J6 q6 = some (.lst ((((([V.bl (C == A.C_BadTape), V.bl (C == A.C_BadStory), V.bl (C == A.C_BadNames), V.bl (C == A.C_BadPrices)] ++ [V.bl (C == A.C_BadDoing), V.bl (C == A.C_NoKey), V.bl (C == A.C_BadChecks), V.bl (C == A.C_BadPlace)]) ++ [V.bl (C == A.C_NoTape), V.bl (C == A.C_NoName), V.bl (C == A.C_BadThing), V.bl (C == A.C_BadRoom)]) ++ [V.bl (C == A.C_BadCommand), V.bl (C == A.C_Fault), V.bl (C == A.C_TooMany), V.bl (C == A.C_BadLine)]) ++ [V.bl (C == A.C_BadBytes), V.bl (C == A.C_Wrong), V.bl (C == A.C_Empty)]) ++ [V.bl (C == A.C_NothingToUndo), V.bl (C == A.C_NothingToRedo)])) := by rw [EJ6]; exact upd_same
    rw [← EJ6]
    have t6 : Ex H J6 := t5.tr (g6.tr j6)
    exact k q6 J6 t6 d6
theorem fil_snoc (f : Nat → Bool) (i : Nat) : (List.range (i + 1)).filter f = (List.range i).filter f ++ (if f i = true then [i] else []) := by
  rw [List.range_succ, List.filter_append]
  cases h : f i <;> simp [h]
theorem fil_one {Cs : List Addr} {C : Addr} {j : Nat} (nd : Cs.Nodup) (hj : Cs[j]? = some C) : (List.range Cs.length).filter (fun i => (Cs[i]?.map fun D => C == D).getD false) = [j] := by
  have hl := (List.getElem?_eq_some_iff.mp hj).1
  have key : ∀ n, n ≤ Cs.length → (List.range n).filter (fun i => (Cs[i]?.map fun D => C == D).getD false) = if j < n then [j] else [] := by
    intro n
    induction n with
    | zero => intro _; simp
    | succ n ih =>
      intro hn
      rw [fil_snoc, ih (by omega)]
      have hg : Cs[n]? = some Cs[n] := List.getElem?_eq_getElem (by omega)
      rw [hg]
      by_cases e : n = j
      · subst e
        have : Cs[n] = C := by rw [hg] at hj; exact Option.some.inj hj
        simp [this]
      · have ne : (C == Cs[n]) = false := by
          rw [beq_eq_false_iff_ne]
          intro h
          have hj2 : Cs[j] = C := by rw [List.getElem?_eq_getElem hl] at hj; exact Option.some.inj hj
          have pw := List.pairwise_iff_getElem.mp nd
          rcases Nat.lt_or_gt_of_ne e with z | z
          · exact pw n j (by omega) hl z (by rw [← h, hj2])
          · exact pw j n hl (by omega) z (by rw [← h, hj2])
        simp only [Option.map_some, Option.getD_some, ne, Bool.false_eq_true, _root_.if_false, List.append_nil]
        by_cases h : j < n
        · rw [if_pos h, if_pos (by omega)]
        · rw [if_neg h, if_neg (by omega)]
  rw [key _ (Nat.le_refl _), if_pos hl]
def spMarks (A : Ad) : Sp := fun vs H Q _ => ∃ (e C : Addr) (j : Nat), vs = [.ref e] ∧ (cs36 A)[j]? = some C ∧ ErrAny H C e ∧ ∀ (p : Addr) (H' : Hp), Ex H H' → H' p = some (.lst [.int (j : Nat)]) → Q (.ref p) H'
theorem ok_marks (T : Txt K mg A) : FnOk P w K mg base CX0 2 A.f_marks A.d_marks ["_law_error"] (spMarks A) := by
  refine T.F_marks.ok sc_marks (fun vs H Q E h => ?_) (fun cdv A0 outer s H vs Q E hr h => ?_)
  · obtain ⟨_, _, _, rfl, _⟩ := h
    rfl
  · have hu := hu_of hr
    obtain ⟨e, C, j, rfl, hj, hE, k⟩ := h
    have hC : C ∈ cs36 A := List.mem_of_getElem? hj
    refine ⟨_, (pss_one (ps_ret (pe_lc (own := [("_law_place", 1), ("_law_is_so", 2)]) (g := (gTup K 2 (gCons (gName 1) (gCons (gName 2) gNil)))) rfl sc_marks.nd (pi_enum (by rfl) T.g_enumerate (pa_cons (pe_op op_cat (pe_call (ok_first_marks T) (hr.mono (by decide)) (by rfl) T.m_first_marks T.F_first_marks.kp T.b_first_marks .nil pass0 (pa_cons (pv 0) pa_nil)) (pe_call (ok_later_marks T) (hr.mono (by decide)) (by rfl) T.m_later_marks T.F_later_marks.kp T.b_later_marks .nil pass0 (pa_cons (pv 0) pa_nil))) pa_nil)) (blkOk_by (N := N_marks) (sc := defScope s_marks) (by decide +kernel)) (fun _ _ _ _ _ => (pg_tup rfl (pgs_cons (pg_name (i := 1) sc_marks.nd rfl (Or.inl rfl)) (pgs_cons (pg_name (i := 2) sc_marks.nd rfl (Or.inl rfl)) pgs_nil)))) (fun _ _ _ _ _ => pts_one (pt_val (pv 2))) (fun _ _ _ _ _ => (pv 1))))), ?_⟩
    refine ⟨_, rfl, e, C, rfl, hC, hE, fun p1 H1 e1 h1 => ?_⟩
    refine ⟨_, rfl, e, C, rfl, hC, hE.ex e1, fun p2 H2 e2 h2 => ?_⟩
    refine ⟨p1, p2, _, _, rfl, rfl, e2 _ _ h1, h2, (by show 36 ≤ sizeLine; decide), fun q nq => ?_⟩
    obtain ⟨G, EG⟩ : ∃ z, z = upd H2 q (.lst ([A.C_BadSize, A.C_BadWorth, A.C_BadMost, A.C_BadItems, A.C_BadWorld, A.C_BadSetup, A.C_BadStand, A.C_BadDeed, A.C_BadPlan, A.C_BadKinds, A.C_BadSteps, A.C_BadEnd, A.C_NoWork, A.C_BadValues, A.C_BadState].map (fun D => V.bl (C == D)) ++ [A.C_BadTape, A.C_BadStory, A.C_BadNames, A.C_BadPrices, A.C_BadDoing, A.C_NoKey, A.C_BadChecks, A.C_BadPlace, A.C_NoTape, A.C_NoName, A.C_BadThing, A.C_BadRoom, A.C_BadCommand, A.C_Fault, A.C_TooMany, A.C_BadLine, A.C_BadBytes, A.C_Wrong, A.C_Empty, A.C_NothingToUndo, A.C_NothingToRedo].map (fun D => V.bl (C == D)))) := ⟨_, rfl⟩
    have eg : Ex H2 G := by rw [EG]; exact Ex.nw nq
    have hq : G q = some (.lst ((cs36 A).map fun D => V.bl (C == D))) := by rw [EG]; exact upd_same
    rw [← EG]
    refine ⟨q, _, rfl, SqL.of hq, fun D nD => lc_it (walk_enum (K := K) (a := q) (xs := (cs36 A).map fun D => V.bl (C == D))) (fun i H' => Ex G H' ∧ H' D = some (.lst (((List.range i).filter (fun i => ((cs36 A)[i]?.map fun D => C == D).getD false)).map fun n => V.int (n : Nat)))) ⟨Ex.nw nD, upd_same⟩ (fun i H' _ h' => SqL.of (h'.1 _ _ hq)) ?_ ?_⟩
    · rintro i x H3 H4 hi ⟨x3, hD3⟩ ⟨t, y, z, rfl, nt, rfl, hy, hz⟩
      have hD4 : (upd H3 t (.tup [y, z])) D = some (.lst (((List.range i).filter (fun i => ((cs36 A)[i]?.map fun D => C == D).getD false)).map fun n => V.int (n : Nat))) := by rw [upd_ne (ne_of_none hD3 nt)]; exact hD3
      have x4 : Ex G (upd H3 t (.tup [y, z])) := x3.tr (Ex.nw nt)
      cases hy
      have hz : ((cs36 A).map fun D => V.bl (C == D))[i]? = some z := hz
      rw [List.getElem?_map] at hz
      obtain ⟨D0, hD0, rfl⟩ := Option.map_eq_some_iff.mp hz
      refine ⟨t, _, rfl, SqT.of upd_same, rfl, _, _, rfl, _, _, rfl, rfl, rfl, ?_⟩
      refine ⟨_, rfl, _, rfl, ?_⟩
      have fl := fil_snoc (fun i => ((cs36 A)[i]?.map fun D => C == D).getD false) i
      rw [hD0] at fl
      simp only [Option.map_some, Option.getD_some] at fl
      by_cases hb : (C == D0) = true
      · refine HX.if_true hb ?_
        rw [if_pos hb] at fl
        refine ⟨_, rfl, _, hD4, small (by rw [List.length_map]; exact Nat.lt_of_le_of_lt (List.length_filter_le _ _) (by rw [List.length_range]; exact Nat.lt_trans hi (by show 36 < 1000; decide))), Ex.mu x4 nD, ?_⟩
        rw [fl, List.map_append, upd_same]
        rfl
      · refine HX.if_false (Bool.eq_false_iff.mpr hb) ?_
        rw [if_neg hb] at fl
        refine ⟨x4, ?_⟩
        rw [fl, List.append_nil]
        exact hD4
    · rintro H3 ⟨x3, hD3⟩
      rw [show ((cs36 A).map fun D => V.bl (C == D)).length = (cs36 A).length from List.length_map _, fil_one T.nd hj] at hD3
      exact k D H3 (e1.tr (e2.tr (eg.tr x3))) hD3
end
end K99
set_option Elab.async false
set_option linter.all false
set_option maxRecDepth 100000
set_option maxHeartbeats 4400000
namespace K99
open PySem PySem.Spec PyProof.Rows L2 HX
open PySem.W (Frag)

theorem Dz.is {p : Addr} {H H' : Hp} {v : V} {d : PyData} (h : Dz p H v d) (e : Ex H H') : Dz p H' v d := h.ex e
/-- three of an error: made, made by the name, and what it keeps -/
def Trio (H : Hp) (v : V) (C : Addr) (n : Str) (x : V) : Prop := ∃ t a b, x = .ref t ∧ H t = some (.tup [.ref a, .ref b, v]) ∧ ErrIs H C a [(n, v)] ∧ ErrIs H C b [(n, v)]
theorem Trio.ex {H H' : Hp} {v : V} {C : Addr} {n : Str} {x : V} (h : Trio H v C n x) (e : Ex H H') : Trio H' v C n x := let ⟨t, a, b, h1, h2, h3, h4⟩ := h; ⟨t, a, b, h1, e _ _ h2, h3.ex e, h4.ex e⟩
def spOthers (A : Ad) : Sp := fun vs H Q _ => ∃ v : V, vs = [v] ∧ ∀ (p : Addr) (H' : Hp) (x0 x1 x2 x3 x4 : V), Ex H H' → H' p = some (.lst [x0, x1, x2, x3, x4]) → Trio H' v A.C_Fault "words" x0 → Trio H' v A.C_TooMany "number" x1 → Trio H' v A.C_BadLine "number" x2 → Trio H' v A.C_BadBytes "at" x3 → Trio H' v A.C_Wrong "story" x4 → Q (.ref p) H'
section
variable {P : Program} {w : World} {K : Frag} {mg : Str → Option Value} {base : Heap} {A : Ad}

theorem errIs_xb {H H' : Hp} {C a l : Addr} {fs : List (Str × V)} {zs : List V} (h : ErrIs H C a fs) (hl : H l = some (.lst zs)) (e : XB l H H') : ErrIs H' C a fs := by
  have ex : ∀ {b : Addr} {φ : Heap → Prop}, H b = some (.ext φ) → b ≠ l := fun hb y => by rw [y, hl] at hb; cases hb
  obtain ⟨dd, ⟨h1, h2⟩ | ⟨h1, h2⟩⟩ := h
  · exact ⟨dd, .inl ⟨e _ _ (ex h1) h1, e _ _ (ne_of h2 hl (by intro y; cases y)) h2⟩⟩
  · exact ⟨dd, .inr ⟨e _ _ (ex h1) h1, e _ _ (ex h2) h2⟩⟩
theorem ErrAny.xb {H H' : Hp} {C a l : Addr} {zs : List V} (h : ErrAny H C a) (hl : H l = some (.lst zs)) (e : XB l H H') : ErrAny H' C a := by
  rcases h with ⟨fs, h⟩ | h
  · exact .inl ⟨fs, errIs_xb h hl e⟩
  · exact .inr (e _ _ (fun y => by rw [y, hl] at h; cases h) h)
theorem Trio.xb {H H' : Hp} {v : V} {C l : Addr} {n : Str} {x : V} {zs : List V} (h : Trio H v C n x) (hl : H l = some (.lst zs)) (e : XB l H H') : Trio H' v C n x := let ⟨t, a, b, h1, h2, h3, h4⟩ := h; ⟨t, a, b, h1, e _ _ (ne_of h2 hl (by intro y; cases y)) h2, errIs_xb h3 hl e, errIs_xb h4 hl e⟩
theorem ok_others (T : Txt K mg A) : FnOk P w K mg base CX0 3 A.f_others A.d_others ["_law_thing"] (spOthers A) := by
  refine T.F_others.ok sc_others (fun vs H Q E h => ?_) (fun cdv A0 outer s H vs Q E hr h => ?_)
  · obtain ⟨_, rfl, _⟩ := h
    rfl
  · have hu := hu_of hr
    obtain ⟨v, rfl, k⟩ := h
    refine ⟨_, (pss_cons (ps_set (i := 1) sc_others.nd rfl (Or.inl rfl) (pe_lst (pa_cons (pe_tup (pa_cons (pe_mkE T.E_Fault (ok_Fault_init T) (hr.mono (by decide)) (by rfl) (pv 0)) (pa_cons (pe_mkEK T.E_Fault (ok_Fault_init T) (hr.mono (by decide)) (by rfl) (pv 0)) (pa_cons (pe_errA (pe_mkE T.E_Fault (ok_Fault_init T) (hr.mono (by decide)) (by rfl) (pv 0))) pa_nil)))) (pa_cons (pe_tup (pa_cons (pe_mkE T.E_TooMany (ok_TooMany_init T) (hr.mono (by decide)) (by rfl) (pv 0)) (pa_cons (pe_mkEK T.E_TooMany (ok_TooMany_init T) (hr.mono (by decide)) (by rfl) (pv 0)) (pa_cons (pv 0) pa_nil)))) pa_nil))))
      (pss_cons (ps_expr (pe_bm PySem.F.plainAttrs_list PySem.F.slot_list_append PySem.F.type_list_append mt_append (pv 1) (pa_cons (pe_tup (pa_cons (pe_mkE T.E_BadLine (ok_BadLine_init T) (hr.mono (by decide)) (by rfl) (pv 0)) (pa_cons (pe_mkEK T.E_BadLine (ok_BadLine_init T) (hr.mono (by decide)) (by rfl) (pv 0)) (pa_cons (pe_errA (pe_mkE T.E_BadLine (ok_BadLine_init T) (hr.mono (by decide)) (by rfl) (pv 0))) pa_nil)))) pa_nil)))
      (pss_cons (ps_expr (pe_bm PySem.F.plainAttrs_list PySem.F.slot_list_append PySem.F.type_list_append mt_append (pv 1) (pa_cons (pe_tup (pa_cons (pe_mkE T.E_BadBytes (ok_BadBytes_init T) (hr.mono (by decide)) (by rfl) (pv 0)) (pa_cons (pe_mkEK T.E_BadBytes (ok_BadBytes_init T) (hr.mono (by decide)) (by rfl) (pv 0)) (pa_cons (pe_errA (pe_mkE T.E_BadBytes (ok_BadBytes_init T) (hr.mono (by decide)) (by rfl) (pv 0))) pa_nil)))) pa_nil)))
      (pss_cons (ps_expr (pe_bm PySem.F.plainAttrs_list PySem.F.slot_list_append PySem.F.type_list_append mt_append (pv 1) (pa_cons (pe_tup (pa_cons (pe_mkE T.E_Wrong (ok_Wrong_init T) (hr.mono (by decide)) (by rfl) (pv 0)) (pa_cons (pe_mkEK T.E_Wrong (ok_Wrong_init T) (hr.mono (by decide)) (by rfl) (pv 0)) (pa_cons (pe_errA (pe_mkE T.E_Wrong (ok_Wrong_init T) (hr.mono (by decide)) (by rfl) (pv 0))) pa_nil)))) pa_nil)))
      (pss_one (ps_ret (pv 1))))))), ?_⟩
    refine ⟨_, rfl, fun a1 H1 n1 y1 i1 => ?_⟩
    refine ⟨_, rfl, fun a2 H2 n2 y2 i2 => ?_⟩
    refine ⟨_, rfl, fun a3 H3 n3 y3 i3 => ⟨a3, A.C_Fault, _, v, rfl, i3, T.E_Fault.xf, T.E_Fault.no, (by simp [List.lookup]), ?_⟩⟩
    refine ⟨(by show 3 ≤ sizeLine; decide), fun t2 m2 => ?_⟩
    obtain ⟨G2, EG2⟩ : ∃ z, z = upd H3 t2 (.tup [V.ref a1, V.ref a2, v]) := ⟨_, rfl⟩
    have g2 : Ex H3 G2 := by rw [EG2]; exact Ex.nw m2
    have r2 : Trio G2 v A.C_Fault "words" (.ref t2) := ⟨t2, a1, a2, rfl, (by rw [EG2]; exact upd_same), (i1.ex (y2.tr y3)).ex g2, (i2.ex y3).ex g2⟩
    rw [← EG2]
    refine ⟨_, rfl, fun a4 H4 n4 y4 i4 => ?_⟩
    refine ⟨_, rfl, fun a5 H5 n5 y5 i5 => ?_⟩
    refine ⟨_, rfl, ?_⟩
    refine ⟨(by show 3 ≤ sizeLine; decide), fun t5 m5 => ?_⟩
    obtain ⟨G5, EG5⟩ : ∃ z, z = upd H5 t5 (.tup [V.ref a4, V.ref a5, v]) := ⟨_, rfl⟩
    have g5 : Ex H5 G5 := by rw [EG5]; exact Ex.nw m5
    have r5 : Trio G5 v A.C_TooMany "number" (.ref t5) := ⟨t5, a4, a5, rfl, (by rw [EG5]; exact upd_same), (i4.ex y5).ex g5, (i5.ex (Ex.rf H5)).ex g5⟩
    rw [← EG5]
    have T2 : Ex G2 G5 := (y4.tr (y5.tr g5))
    have T1 : Ex H G2 := (y1.tr (y2.tr (y3.tr g2)))
    refine ⟨(by show 2 ≤ sizeLine; decide), fun l nl => ?_⟩
    obtain ⟨J0, EJ0⟩ : ∃ z, z = upd G5 l (.lst [V.ref t2, V.ref t5]) := ⟨_, rfl⟩
    have u0 : Ex G5 J0 := by rw [EJ0]; exact Ex.nw nl
    have L0 : J0 l = some (.lst [V.ref t2, V.ref t5]) := by rw [EJ0]; exact upd_same
    rw [← EJ0]
    have X0 : XB l J0 J0 := fun _ _ _ h => h
    have N0 : H l = none := Ex.fr (T1.tr T2) nl
    refine ⟨_, rfl, .inl ⟨rfl, _, SqL.of L0⟩, ?_⟩
    refine ⟨_, rfl, fun a6 H6 n6 y6 i6 => ?_⟩
    refine ⟨_, rfl, fun a7 H7 n7 y7 i7 => ?_⟩
    refine ⟨_, rfl, fun a8 H8 n8 y8 i8 => ⟨a8, A.C_BadLine, _, v, rfl, i8, T.E_BadLine.xf, T.E_BadLine.no, (by simp [List.lookup]), ?_⟩⟩
    refine ⟨(by show 3 ≤ sizeLine; decide), fun t7 m7 => ?_⟩
    obtain ⟨G7, EG7⟩ : ∃ z, z = upd H8 t7 (.tup [V.ref a6, V.ref a7, v]) := ⟨_, rfl⟩
    have g7 : Ex H8 G7 := by rw [EG7]; exact Ex.nw m7
    have r7 : Trio G7 v A.C_BadLine "number" (.ref t7) := ⟨t7, a6, a7, rfl, (by rw [EG7]; exact upd_same), (i6.ex (y7.tr y8)).ex g7, (i7.ex y8).ex g7⟩
    rw [← EG7]
    have T7 : Ex J0 G7 := (y6.tr (y7.tr (y8.tr g7)))
    refine ⟨l, _, _, rfl, rfl, T7 _ _ L0, (by show 2 < sizeLine; decide), ?_⟩
    obtain ⟨J1, EJ1⟩ : ∃ z, z = upd G7 l (.lst ([V.ref t2, V.ref t5] ++ [V.ref t7])) := ⟨_, rfl⟩
    have u1 : XB l G7 J1 := by rw [EJ1]; exact XB.wr
    have L1 : J1 l = some (.lst [V.ref t2, V.ref t5, V.ref t7]) := by rw [EJ1]; exact upd_same
    have X1 : XB l J0 J1 := X0.tr ((Ex.xb T7).tr u1)
    rw [← EJ1]
    refine ⟨_, rfl, .inl ⟨rfl, _, SqL.of L1⟩, ?_⟩
    refine ⟨_, rfl, fun a9 H9 n9 y9 i9 => ?_⟩
    refine ⟨_, rfl, fun a10 H10 n10 y10 i10 => ?_⟩
    refine ⟨_, rfl, fun a11 H11 n11 y11 i11 => ⟨a11, A.C_BadBytes, _, v, rfl, i11, T.E_BadBytes.xf, T.E_BadBytes.no, (by simp [List.lookup]), ?_⟩⟩
    refine ⟨(by show 3 ≤ sizeLine; decide), fun t10 m10 => ?_⟩
    obtain ⟨G10, EG10⟩ : ∃ z, z = upd H11 t10 (.tup [V.ref a9, V.ref a10, v]) := ⟨_, rfl⟩
    have g10 : Ex H11 G10 := by rw [EG10]; exact Ex.nw m10
    have r10 : Trio G10 v A.C_BadBytes "at" (.ref t10) := ⟨t10, a9, a10, rfl, (by rw [EG10]; exact upd_same), (i9.ex (y10.tr y11)).ex g10, (i10.ex y11).ex g10⟩
    rw [← EG10]
    have T10 : Ex J1 G10 := (y9.tr (y10.tr (y11.tr g10)))
    refine ⟨l, _, _, rfl, rfl, T10 _ _ L1, (by show 3 < sizeLine; decide), ?_⟩
    obtain ⟨J2, EJ2⟩ : ∃ z, z = upd G10 l (.lst ([V.ref t2, V.ref t5, V.ref t7] ++ [V.ref t10])) := ⟨_, rfl⟩
    have u2 : XB l G10 J2 := by rw [EJ2]; exact XB.wr
    have L2 : J2 l = some (.lst [V.ref t2, V.ref t5, V.ref t7, V.ref t10]) := by rw [EJ2]; exact upd_same
    have X2 : XB l J0 J2 := X1.tr ((Ex.xb T10).tr u2)
    rw [← EJ2]
    refine ⟨_, rfl, .inl ⟨rfl, _, SqL.of L2⟩, ?_⟩
    refine ⟨_, rfl, fun a12 H12 n12 y12 i12 => ?_⟩
    refine ⟨_, rfl, fun a13 H13 n13 y13 i13 => ?_⟩
    refine ⟨_, rfl, fun a14 H14 n14 y14 i14 => ⟨a14, A.C_Wrong, _, v, rfl, i14, T.E_Wrong.xf, T.E_Wrong.no, (by simp [List.lookup]), ?_⟩⟩
    refine ⟨(by show 3 ≤ sizeLine; decide), fun t13 m13 => ?_⟩
    obtain ⟨G13, EG13⟩ : ∃ z, z = upd H14 t13 (.tup [V.ref a12, V.ref a13, v]) := ⟨_, rfl⟩
    have g13 : Ex H14 G13 := by rw [EG13]; exact Ex.nw m13
    have r13 : Trio G13 v A.C_Wrong "story" (.ref t13) := ⟨t13, a12, a13, rfl, (by rw [EG13]; exact upd_same), (i12.ex (y13.tr y14)).ex g13, (i13.ex y14).ex g13⟩
    rw [← EG13]
    have T13 : Ex J2 G13 := (y12.tr (y13.tr (y14.tr g13)))
    refine ⟨l, _, _, rfl, rfl, T13 _ _ L2, (by show 4 < sizeLine; decide), ?_⟩
    obtain ⟨J3, EJ3⟩ : ∃ z, z = upd G13 l (.lst ([V.ref t2, V.ref t5, V.ref t7, V.ref t10] ++ [V.ref t13])) := ⟨_, rfl⟩
    have u3 : XB l G13 J3 := by rw [EJ3]; exact XB.wr
    have L3 : J3 l = some (.lst [V.ref t2, V.ref t5, V.ref t7, V.ref t10, V.ref t13]) := by rw [EJ3]; exact upd_same
    have X3 : XB l J0 J3 := X2.tr ((Ex.xb T13).tr u3)
    rw [← EJ3]
    refine ⟨_, rfl, k l J3 _ _ _ _ _ (fun a o e => X3 a o (ne_of_none e N0) ((T1.tr (T2.tr u0)) a o e)) L3 ?_ ?_ ?_ ?_ ?_⟩
    · exact Trio.xb (r2.ex (T2.tr u0)) L0 X3
    · exact Trio.xb (r5.ex u0) L0 X3
    · exact Trio.xb r7 (T7 _ _ L0) ((u1.tr (XB.tr (Ex.xb T10) u2)).tr (XB.tr (Ex.xb T13) u3))
    · exact Trio.xb r10 (T10 _ _ L1) (u2.tr (XB.tr (Ex.xb T13) u3))
    · exact Trio.xb r13 (T13 _ _ L2) u3
end
end K99
set_option Elab.async false
set_option linter.all false
set_option maxRecDepth 100000
set_option maxHeartbeats 4400000
namespace K99
open PySem PySem.Spec PyProof.Rows L2 HX
open PySem.W (Frag)

def spRight : Sp := fun vs H Q _ => ∃ (p : Addr) (N : Int), vs = [.ref p] ∧ PotAt H p N ∧ N ≤ 80000 ∧ ∀ H', XB p H H' → PotAt H' p (N + 20) → Q (.bl true) H'
def spLaw (K : Frag) : Sp := fun vs H Q _ => ∃ (a : Addr) (ns : List Int), vs = [.ref a] ∧ SqL K H a (ns.map V.int) ∧ ns.length ≤ 63 ∧ ∀ H', Q (.bl true) H'
theorem two_b (b c : Bool) : 0 ≤ 1 + (if b = true then (1 : Int) else 0) + (if c = true then 1 else 0) ∧ 1 + (if b = true then (1 : Int) else 0) + (if c = true then 1 else 0) ≤ 3 := by cases b <;> cases c <;> decide
theorem cs28_at {A : Ad} {j : Nat} {C : Addr} (h : (cs28 A)[j]? = some C) : (cs36 A)[j]? = some C := by
  have e : cs36 A = cs28 A ++ [A.C_Fault, A.C_TooMany, A.C_BadLine, A.C_BadBytes, A.C_Wrong, A.C_Empty, A.C_NothingToUndo, A.C_NothingToRedo] := rfl
  rw [e, List.getElem?_append_left (List.getElem?_eq_some_iff.mp h).1]; exact h
theorem cs8_at {A : Ad} {j : Nat} {C : Addr} (h : ([A.C_Fault, A.C_TooMany, A.C_BadLine, A.C_BadBytes, A.C_Wrong, A.C_Empty, A.C_NothingToUndo, A.C_NothingToRedo] : List Addr)[j]? = some C) : (cs36 A)[28 + j]? = some C := by
  have e : cs36 A = cs28 A ++ [A.C_Fault, A.C_TooMany, A.C_BadLine, A.C_BadBytes, A.C_Wrong, A.C_Empty, A.C_NothingToUndo, A.C_NothingToRedo] := rfl
  rw [e, List.getElem?_append_right (by show 28 ≤ 28 + j; omega)]
  rw [show 28 + j - (cs28 A).length = j from by show 28 + j - 28 = j; omega]; exact h
theorem XB.mu {H H' : Hp} {p q : Addr} {o : HO} (e : XB p H H') (h : H q = none) : XB p H (upd H' q o) := fun a u n ha => by
  rw [upd_ne (ne_of_none ha h)]
  exact e a u n ha
theorem ex_xb {H H1 H2 : Hp} {p : Addr} (e : Ex H H1) (x : XB p H1 H2) (h : H p = none) : Ex H H2 := fun c o z => x c o (ne_of_none z h) (e c o z)
theorem rep_next {i : Nat} : List.replicate i (V.bl true) ++ [V.bl true] = List.replicate (i + 1) (V.bl true) := by rw [List.replicate_succ']
section
variable {P : Program} {w : World} {K : Frag} {mg : Str → Option Value} {base : Heap} {A : Ad}

theorem v28 (T : Txt K mg A) : ∀ C ∈ cs28 A, XfC K C ∧ PySem.W.findIn K (.ref C) "value" = some none := (List.forall_mem_cons.mpr ⟨⟨T.E_BadSize.xf, T.E_BadSize.no⟩, (List.forall_mem_cons.mpr ⟨⟨T.E_BadWorth.xf, T.E_BadWorth.no⟩, (List.forall_mem_cons.mpr ⟨⟨T.E_BadMost.xf, T.E_BadMost.no⟩, (List.forall_mem_cons.mpr ⟨⟨T.E_BadItems.xf, T.E_BadItems.no⟩, (List.forall_mem_cons.mpr ⟨⟨T.E_BadWorld.xf, T.E_BadWorld.no⟩, (List.forall_mem_cons.mpr ⟨⟨T.E_BadSetup.xf, T.E_BadSetup.no⟩, (List.forall_mem_cons.mpr ⟨⟨T.E_BadStand.xf, T.E_BadStand.no⟩, (List.forall_mem_cons.mpr ⟨⟨T.E_BadDeed.xf, T.E_BadDeed.no⟩, (List.forall_mem_cons.mpr ⟨⟨T.E_BadPlan.xf, T.E_BadPlan.no⟩, (List.forall_mem_cons.mpr ⟨⟨T.E_BadKinds.xf, T.E_BadKinds.no⟩, (List.forall_mem_cons.mpr ⟨⟨T.E_BadSteps.xf, T.E_BadSteps.no⟩, (List.forall_mem_cons.mpr ⟨⟨T.E_BadEnd.xf, T.E_BadEnd.no⟩, (List.forall_mem_cons.mpr ⟨⟨T.E_NoWork.xf, T.E_NoWork.no⟩, (List.forall_mem_cons.mpr ⟨⟨T.E_BadValues.xf, T.E_BadValues.no⟩, (List.forall_mem_cons.mpr ⟨⟨T.E_BadState.xf, T.E_BadState.no⟩, (List.forall_mem_cons.mpr ⟨⟨T.E_BadTape.xf, T.E_BadTape.no⟩, (List.forall_mem_cons.mpr ⟨⟨T.E_BadStory.xf, T.E_BadStory.no⟩, (List.forall_mem_cons.mpr ⟨⟨T.E_BadNames.xf, T.E_BadNames.no⟩, (List.forall_mem_cons.mpr ⟨⟨T.E_BadPrices.xf, T.E_BadPrices.no⟩, (List.forall_mem_cons.mpr ⟨⟨T.E_BadDoing.xf, T.E_BadDoing.no⟩, (List.forall_mem_cons.mpr ⟨⟨T.E_NoKey.xf, T.E_NoKey.no⟩, (List.forall_mem_cons.mpr ⟨⟨T.E_BadChecks.xf, T.E_BadChecks.no⟩, (List.forall_mem_cons.mpr ⟨⟨T.E_BadPlace.xf, T.E_BadPlace.no⟩, (List.forall_mem_cons.mpr ⟨⟨T.E_NoTape.xf, T.E_NoTape.no⟩, (List.forall_mem_cons.mpr ⟨⟨T.E_NoName.xf, T.E_NoName.no⟩, (List.forall_mem_cons.mpr ⟨⟨T.E_BadThing.xf, T.E_BadThing.no⟩, (List.forall_mem_cons.mpr ⟨⟨T.E_BadRoom.xf, T.E_BadRoom.no⟩, (List.forall_mem_cons.mpr ⟨⟨T.E_BadCommand.xf, T.E_BadCommand.no⟩, (fun _ h => nomatch h)⟩)⟩)⟩)⟩)⟩)⟩)⟩)⟩)⟩)⟩)⟩)⟩)⟩)⟩)⟩)⟩)⟩)⟩)⟩)⟩)⟩)⟩)⟩)⟩)⟩)⟩)⟩)⟩)
theorem ok_right (T : Txt K mg A) : FnG P w K mg base CX0 4 A.f_right A.d_right ["_law_pot_here"] (spRight) := by
  refine okG0 T.F_right sc_right (fun vs H Q E h => ?_) (fun cdv A0 outer s H vs Q E hgd0 hr h => ?_)
  · obtain ⟨_, _, rfl, _⟩ := h
    rfl
  · have hu := hu_of hr
    have hgd : (A0.deeper (envOfC "_law_right" (defScope s_right) s.heap.objs.size A.f_right cdv)).guards = some [] := hgd0
    obtain ⟨p, N, rfl, hp, hN, k⟩ := h
    refine ⟨_, (pss_cons (ps_set (i := 1) sc_right.nd rfl (Or.inl rfl) (pe_call (ok_any T) (hr.mono (by decide)) (by rfl) T.m_any T.F_any.kp T.b_any .nil pass0 (pa_cons (pv 0) pa_nil)))
      (pss_cons (ps_set (i := 2) sc_right.nd rfl (Or.inl rfl) (pe_callB (call_reprZ (by exact hgd) (by exact hr.units)) (by rfl) T.g_repr (by decide +kernel) (pa_cons (pv 1) pa_nil)))
      (pss_cons (ps_for PassesOwn.never rfl (pi_tup (pe_tup (pa_cons (pe_call (ok_made T) (hr.mono (by decide)) (by rfl) T.m_made T.F_made.kp T.b_made .nil pass0 (pa_cons (pv 1) pa_nil)) (pa_cons (pe_call (ok_made_by_name T) (hr.mono (by decide)) (by rfl) T.m_made_by_name T.F_made_by_name.kp T.b_made_by_name .nil pass0 (pa_cons (pv 1) pa_nil)) pa_nil)))) (pg_name (i := 3) sc_right.nd rfl (Or.inl rfl)) (pss_cons (ps_if (pt_cmpR (op_neD hr.units) (pe_lc (own := [("_law_error", 8)]) (g := gName 8) (tt := tYes) rfl sc_right.nd (pi_list (pv 3)) (blkOk_by (N := N_right) (sc := defScope s_right) (by decide +kernel)) (fun _ _ _ _ _ => pg_name (i := 8) sc_right.nd rfl (Or.inl rfl)) (fun _ _ _ _ _ => pts_nil) (fun _ _ _ _ _ => (pe_callB (call_reprZ (by exact hgd) (by exact hr.units)) (by rfl) T.g_repr (by decide +kernel) (pa_cons (pe_errK (K := K) rfl (pv 8)) pa_nil)))) (pe_op op_rep (pe_lst (pa_cons (pv 2) pa_nil)) pe_int) (nomark _)) (pss_one (ps_ret pe_bl)) pss_nil)
      (pss_cons (ps_if (pt_cmpR (op_neD hr.units) (pe_lc (own := [("_law_error", 8)]) (g := gName 8) (tt := tYes) rfl sc_right.nd (pi_list (pv 3)) (blkOk_by (N := N_right) (sc := defScope s_right) (by decide +kernel)) (fun _ _ _ _ _ => pg_name (i := 8) sc_right.nd rfl (Or.inl rfl)) (fun _ _ _ _ _ => pts_nil) (fun _ _ _ _ _ => (pe_call (ok_marks T) (hr.mono (by decide)) (by rfl) T.m_marks T.F_marks.kp T.b_marks .nil pass0 (pa_cons (pv 8) pa_nil)))) (pe_lc (own := [("_law_place", 9)]) (g := gName 9) (tt := tYes) rfl sc_right.nd (pi_range1 rfl T.g_range (pa_cons pe_int pa_nil)) (blkOk_by (N := N_right) (sc := defScope s_right) (by decide +kernel)) (fun _ _ _ _ _ => pg_name (i := 9) sc_right.nd rfl (Or.inl rfl)) (fun _ _ _ _ _ => pts_nil) (fun _ _ _ _ _ => (pe_lst (pa_cons (pv 9) pa_nil)))) (nomark _)) (pss_one (ps_ret pe_bl)) pss_nil)
      (pss_one (ps_if (pt_not (pt_val (pe_callB (cr_all rfl) (by rfl) T.g_all (by decide +kernel) (pa_cons (pe_lc (own := [("_law_error", 8)]) (g := gName 8) (tt := tYes) rfl sc_right.nd (pi_list (pv 3)) (blkOk_by (N := N_right) (sc := defScope s_right) (by decide +kernel)) (fun _ _ _ _ _ => pg_name (i := 8) sc_right.nd rfl (Or.inl rfl)) (fun _ _ _ _ _ => pts_nil) (fun _ _ _ _ _ => (pe_and (pe_callB (call_isK (K := K) rfl) (by rfl) T.g_isinstance (by decide +kernel) (pa_cons (pv 8) (pa_cons (pe_glob (v := .ref A.C_TapeError) (by rfl) T.m_TapeError rfl) pa_nil))) (pe_one (pe_callB (call_isK (K := K) rfl) (by rfl) T.g_isinstance (by decide +kernel) (pa_cons (pv 8) (pa_cons (pe_bltn (v := .ty "ValueError") (by rfl) T.g_ValueError (by decide +kernel) rfl) pa_nil))))))) pa_nil)))) (pss_one (ps_ret pe_bl)) pss_nil)))))
      (pss_cons (ps_set (i := 4) sc_right.nd rfl (Or.inl rfl) (pe_call (ok_others T) (hr.mono (by decide)) (by rfl) T.m_others T.F_others.kp T.b_others .nil pass0 (pa_cons (pv 1) pa_nil)))
      (pss_cons (ps_if (pt_cmpR (op_neD hr.units) (pe_lc (own := [("_law_trio", 7)]) (g := gName 7) (tt := tYes) rfl sc_right.nd (pi_list (pv 4)) (blkOk_by (N := N_right) (sc := defScope s_right) (by decide +kernel)) (fun _ _ _ _ _ => pg_name (i := 7) sc_right.nd rfl (Or.inl rfl)) (fun _ _ _ _ _ => pts_nil) (fun _ _ _ _ _ => (pe_callB (call_reprZ (by exact hgd) (by exact hr.units)) (by rfl) T.g_repr (by decide +kernel) (pa_cons (pe_ix (ix_tupK (K := K) rfl) (pv 7) pe_int (fun _ _ => rfl)) pa_nil)))) (pe_op op_rep (pe_lst (pa_cons (pv 2) pa_nil)) pe_int) (nomark _)) (pss_one (ps_ret pe_bl)) pss_nil)
      (pss_cons (ps_set (i := 5) sc_right.nd rfl (Or.inl rfl) (pe_lstN (pa_cons (pe_errK (K := K) rfl (pe_ix ix_tup (pe_ix ix_list (pv 4) pe_int (fun _ _ => rfl)) pe_int (fun _ _ => rfl))) (pa_cons (pe_errK (K := K) rfl (pe_ix ix_tup (pe_ix ix_list (pv 4) pe_int (fun _ _ => rfl)) pe_int (fun _ _ => rfl))) (pa_cons (pe_errK (K := K) rfl (pe_ix ix_tup (pe_ix ix_list (pv 4) pe_int (fun _ _ => rfl)) pe_int (fun _ _ => rfl))) (pa_cons (pe_errK (K := K) rfl (pe_ix ix_tup (pe_ix ix_list (pv 4) pe_int (fun _ _ => rfl)) pe_int (fun _ _ => rfl))) (pa_cons (pe_errK (K := K) rfl (pe_ix ix_tup (pe_ix ix_list (pv 4) pe_int (fun _ _ => rfl)) pe_int (fun _ _ => rfl))) pa_nil)))))))
      (pss_cons (ps_if (PW.pt (pw_or (pt_cmpR op_ne (pe_callB (call_reprZ (by exact hgd) (by exact hr.units)) (by rfl) T.g_repr (by decide +kernel) (pa_cons (pv 5) pa_nil)) (pe_callB (call_reprZ (by exact hgd) (by exact hr.units)) (by rfl) T.g_repr (by decide +kernel) (pa_cons (pe_op op_repN (pe_lstN (pa_cons (pv 1) pa_nil)) pe_int) pa_nil)) (nomark _)) (pw_or1 (pt_cmpR op_ne (pe_callB (call_reprZ (by exact hgd) (by exact hr.units)) (by rfl) T.g_repr (by decide +kernel) (pa_cons (pe_errK (K := K) rfl (pe_mkE T.E_TooMany (ok_TooMany_init T) (hr.mono (by decide)) (by rfl) (pv 1))) pa_nil)) (pv 2) (nomark _))))) (pss_one (ps_ret pe_bl)) pss_nil)
      (pss_cons (ps_set (i := 6) sc_right.nd rfl (Or.inl rfl) (pe_op op_cat (pe_lc (own := [("_law_trio", 7)]) (g := gName 7) (tt := tYes) rfl sc_right.nd (pi_list (pv 4)) (blkOk_by (N := N_right) (sc := defScope s_right) (by decide +kernel)) (fun _ _ _ _ _ => pg_name (i := 7) sc_right.nd rfl (Or.inl rfl)) (fun _ _ _ _ _ => pts_nil) (fun _ _ _ _ _ => (pe_ix (ix_tupK (K := K) rfl) (pv 7) pe_int (fun _ _ => rfl)))) (pe_lst (pa_cons (pe_mk0 T.x_Empty T.m_Empty T.k_Empty (by rfl)) (pa_cons (pe_mk0 T.x_NothingToUndo T.m_NothingToUndo T.k_NothingToUndo (by rfl)) (pa_cons (pe_mk0 T.x_NothingToRedo T.m_NothingToRedo T.k_NothingToRedo (by rfl)) pa_nil))))))
      (pss_cons (ps_if (pt_cmpR (op_neD hr.units) (pe_lc (own := [("_law_error", 8)]) (g := gName 8) (tt := tYes) rfl sc_right.nd (pi_list (pv 6)) (blkOk_by (N := N_right) (sc := defScope s_right) (by decide +kernel)) (fun _ _ _ _ _ => pg_name (i := 8) sc_right.nd rfl (Or.inl rfl)) (fun _ _ _ _ _ => pts_nil) (fun _ _ _ _ _ => (pe_call (ok_marks T) (hr.mono (by decide)) (by rfl) T.m_marks T.F_marks.kp T.b_marks .nil pass0 (pa_cons (pv 8) pa_nil)))) (pe_lc (own := [("_law_place", 9)]) (g := gName 9) (tt := tYes) rfl sc_right.nd (pi_range2 rfl T.g_range (pa_cons pe_int (pa_cons pe_int pa_nil))) (blkOk_by (N := N_right) (sc := defScope s_right) (by decide +kernel)) (fun _ _ _ _ _ => pg_name (i := 9) sc_right.nd rfl (Or.inl rfl)) (fun _ _ _ _ _ => pts_nil) (fun _ _ _ _ _ => (pe_lst (pa_cons (pv 9) pa_nil)))) (nomark _)) (pss_one (ps_ret pe_bl)) pss_nil)
      (pss_one (ps_ret (pe_callB (cr_all rfl) (by rfl) T.g_all (by decide +kernel) (pa_cons (pe_lc (own := [("_law_error", 8)]) (g := gName 8) (tt := tYes) rfl sc_right.nd (pi_list (pv 6)) (blkOk_by (N := N_right) (sc := defScope s_right) (by decide +kernel)) (fun _ _ _ _ _ => pg_name (i := 8) sc_right.nd rfl (Or.inl rfl)) (fun _ _ _ _ _ => pts_nil) (fun _ _ _ _ _ => (pe_and (pe_callB (call_isK (K := K) rfl) (by rfl) T.g_isinstance (by decide +kernel) (pa_cons (pv 8) (pa_cons (pe_glob (v := .ref A.C_TapeError) (by rfl) T.m_TapeError rfl) pa_nil))) (pe_one (pe_callB (call_isK (K := K) rfl) (by rfl) T.g_isinstance (by decide +kernel) (pa_cons (pv 8) (pa_cons (pe_bltn (v := .ty "ValueError") (by rfl) T.g_ValueError (by decide +kernel) rfl) pa_nil))))))) pa_nil))))))))))))), ?_⟩
    refine ⟨_, rfl, p, N, rfl, hp, by omega, fun v H1 x1 hp1 hv => ?_⟩
    obtain ⟨d, dz, bd⟩ := hv
    refine ⟨_, rfl, v, d, p, rfl, dz, bd.sh, (by have := bd.dp; omega), bd.len (by decide), ?_⟩
    refine ⟨_, rfl, v, rfl, fun l1 H2 xs1 e2 h2 r2 => ?_⟩
    refine ⟨_, rfl, v, rfl, fun l2 H3 xs2 e3 h3 r3 => ?_⟩
    refine ⟨(by show 2 ≤ sizeLine; decide), fun t nt => ?_⟩
    obtain ⟨G, EG⟩ : ∃ z, z = upd H3 t (.tup [V.ref l1, V.ref l2]) := ⟨_, rfl⟩
    have eg : Ex H3 G := by rw [EG]; exact Ex.nw nt
    have ht : G t = some (.tup [V.ref l1, V.ref l2]) := by rw [EG]; exact upd_same
    rw [← EG]
    have e1G : Ex H1 G := e2.tr (e3.tr eg)
    have cas : ∀ (i : Nat) (x : V), ([V.ref l1, V.ref l2] : List V)[i]? = some x → ∃ (l : Addr) (xs : List V), x = .ref l ∧ G l = some (.lst xs) ∧ Errs G "value" v (cs28 A) xs := fun i x h => by
      match i, h with
      | 0, h => cases h; exact ⟨l1, xs1, rfl, eg _ _ (e3 _ _ h2), (r2.ex e3).ex eg⟩
      | 1, h => cases h; exact ⟨l2, xs2, rfl, eg _ _ h3, r3.ex eg⟩
      | i + 2, h => simp at h
    refine ⟨t, rfl, ⟨_, SqT.of ht⟩, for_tup (xs := [V.ref l1, V.ref l2]) (fun i σ H' => (∃ v3, σ = [some (.ref p), some v, some (.str d.shown), v3, none, none, none, none, none, none]) ∧ Ex G H') ⟨⟨_, rfl⟩, Ex.rf G⟩ (fun i σ H' _ h' => SqT.of (h'.2 _ _ ht)) ?_ ?_⟩
    · rintro i x σ H4 hx ⟨⟨v3, rfl⟩, e4⟩
      obtain ⟨l, xs, rfl, hl0, r0⟩ := cas i x hx
      have hl : H4 l = some (.lst xs) := e4 _ _ hl0
      have r : Errs H4 "value" v (cs28 A) xs := r0.ex e4
      have rl : xs.length = 28 := r.len
      refine ⟨_, rfl, l, rfl, ⟨_, SqL.of hl⟩, fun D nD => lc_list (fun j H' => Ex H4 H' ∧ H' D = some (.lst (List.replicate j (V.str d.shown)))) ⟨Ex.nw nD, upd_same⟩ (fun i H' _ h' => SqL.of (h'.1 _ _ hl)) ?_ ?_⟩
      · rintro j y H5 hy ⟨e5, hD⟩
        obtain ⟨C, a, hC, rfl, er⟩ := r.get hy
        have hj := (List.getElem?_eq_some_iff.mp hy).1
        obtain ⟨xf, no⟩ := v28 T C (List.mem_of_getElem? hC)
        refine ⟨rfl, _, rfl, a, C, _, v, rfl, er.ex e5, xf, no, (by simp [List.lookup]), v, d, p, rfl, dz.ex (e1G.tr (e4.tr e5)), bd.sh, (by have := bd.dp; omega), bd.len (by decide), ?_⟩
        refine ⟨_, hD, small (by rw [List.length_replicate]; omega), Ex.mu e5 nD, ?_⟩
        rw [rep_snoc]; exact upd_same
      rintro H5 ⟨e5, hD⟩
      rw [rl] at hD
      refine ⟨_, rfl, (by show 1 ≤ sizeLine; decide), fun la nla => ⟨la, 28, _, rfl, rfl, upd_same, by decide, by decide, (by show 1 * 28 ≤ sizeLine; decide), fun lb nlb => ?_⟩⟩
      have za : Ex H5 (upd H5 la (.lst [V.str d.shown])) := Ex.nw nla
      have zb : Ex (upd H5 la (.lst [V.str d.shown])) (upd (upd H5 la (.lst [V.str d.shown])) lb (.lst (List.replicate (28 : Int).toNat [V.str d.shown]).flatten)) := Ex.nw nlb
      have hb : (upd (upd H5 la (.lst [V.str d.shown])) lb (.lst (List.replicate (28 : Int).toNat [V.str d.shown]).flatten)) lb = some (.lst (List.replicate 28 (V.str d.shown))) := by rw [upd_same, flat_rep]; rfl
      have hc := zb _ _ (za _ _ hD)
      refine ⟨.list (List.replicate 28 (.str d.shown)), .list (List.replicate 28 (.str d.shown)), .lst (SqL.of hc) (dp_rep _ _), .lst (SqL.of hb) (dp_rep _ _), shaped_rep _ bd.ok _, shaped_rep _ bd.ok _, _, rfl, HX.if_false (by rw [eqv_rep _ bd.ok]; rfl) ?_⟩
      obtain ⟨M1, EM1⟩ : ∃ z, z = upd (upd H5 la (.lst [V.str d.shown])) lb (.lst (List.replicate (28 : Int).toNat [V.str d.shown]).flatten) := ⟨_, rfl⟩
      have zM1 : Ex H5 M1 := by rw [EM1]; exact za.tr zb
      rw [← EM1]
      clear za zb hb hc EM1
      have y1 : Ex H4 M1 := e5.tr zM1
      have hl1 := y1 _ _ hl
      have r1 := r.ex y1
      have gt1 : ∀ {i : Nat} {x : V}, xs[i]? = some x → ∃ C a, (cs28 A)[i]? = some C ∧ x = .ref a ∧ ErrAny M1 C a := fun h => let ⟨C, a, h1, h2, h3⟩ := r1.get h; ⟨C, a, h1, h2, .inl ⟨_, h3⟩⟩
      clear hD nD
      refine ⟨_, rfl, l, rfl, ⟨_, SqL.of hl1⟩, fun D nD => lc_list (fun j H' => Ex M1 H' ∧ ∃ ys : List V, ys.length = j ∧ H' D = some (.lst ys) ∧ Ones H' 0 ys) ⟨Ex.nw nD, [], rfl, upd_same, Ones.nil⟩ (fun i H' _ h' => SqL.of (h'.1 _ _ hl1)) ?_ ?_⟩
      · rintro j y H5 hy ⟨e5, ys, hlen, hD, on⟩
        obtain ⟨C, a, hC, rfl, er⟩ := gt1 hy
        have hj36 : (cs36 A)[j]? = some C := cs28_at hC
        have hj := (List.getElem?_eq_some_iff.mp hy).1
        refine ⟨rfl, _, rfl, a, C, _, rfl, hj36, er.ex e5, fun q H6 e6 hq => ?_⟩
        subst hlen
        have hq' : H6 q = some (.lst [.int ((0 + ys.length : Nat) : Int)]) := by rw [hq]; simp
        exact ⟨ys, e6 _ _ hD, small (by rw [rl] at hj; exact Nat.lt_of_lt_of_le hj (by show 28 ≤ 1000; decide)), Ex.mu (e5.tr e6) nD, ys ++ [.ref q], (by simp), upd_same, (on.ex e6).put (e6 _ _ hD) hq'⟩
      rintro H5 ⟨e5, ys, hlen, hD, on⟩
      refine ⟨28, rfl, by decide, by decide, fun D2 nD2 => lc_range (lo := 0) (n := 28) (fun j H' => Ex H5 H' ∧ ∃ zs : List V, zs.length = j ∧ H' D2 = some (.lst zs) ∧ Ones H' 0 zs) ⟨Ex.nw nD2, [], rfl, upd_same, Ones.nil⟩ ?_ ?_⟩
      · rintro j H6 hj ⟨e6, zs, hl2, hD2, on2⟩
        refine ⟨rfl, _, rfl, (by show 1 ≤ sizeLine; decide), fun q nq => ?_⟩
        have e7 : Ex H6 (upd H6 q (.lst [V.int (0 + (j : Nat))])) := Ex.nw nq
        subst hl2
        have hq' : (upd H6 q (.lst [V.int (0 + (zs.length : Nat))])) q = some (.lst [.int ((0 + zs.length : Nat) : Int)]) := by rw [upd_same]; simp
        exact ⟨zs, e7 _ _ hD2, small (by omega), Ex.mu (e6.tr e7) nD2, zs ++ [.ref q], (by simp), upd_same, (on2.ex e7).put (e7 _ _ hD2) hq'⟩
      rintro M2 ⟨e6, zs, hl2, hD2, on2⟩
      have on1 := on.ex e6
      have hD1 := e6 _ _ hD
      have q1 := dp_ones (K := K) on1
      have q2 := dp_ones (K := K) on2
      rw [hlen, rl] at q1
      rw [hl2] at q2
      refine ⟨.list (ones 0 28), .list (ones 0 28), .lst (SqL.of hD1) q1, .lst (SqL.of hD2) q2, shaped_ones _ _, shaped_ones _ _, _, rfl, HX.if_false (by rw [eqv_ones]; rfl) ?_⟩
      have zM2 : Ex M1 M2 := e5.tr e6
      clear on on1 on2 q1 q2 hD hD1 hD2 e5 e6
      have y2 : Ex H4 M2 := y1.tr zM2
      have hl2' := y2 _ _ hl
      have r2' := r.ex y2
      have gt2 : ∀ {i : Nat} {x : V}, xs[i]? = some x → ∃ C a, (cs28 A)[i]? = some C ∧ x = .ref a ∧ ErrAny M2 C a := fun h => let ⟨C, a, h1, h2, h3⟩ := r2'.get h; ⟨C, a, h1, h2, .inl ⟨_, h3⟩⟩
      refine ⟨_, rfl, l, rfl, ⟨_, SqL.of hl2'⟩, fun D nD => lc_list (fun j H' => Ex M2 H' ∧ H' D = some (.lst (List.replicate j (V.bl true)))) ⟨Ex.nw nD, upd_same⟩ (fun i H' _ h' => SqL.of (h'.1 _ _ hl2')) ?_ ?_⟩
      · rintro j y H5 hy ⟨e5, hD⟩
        obtain ⟨C, a, hC, rfl, er⟩ := gt2 hy
        have hj := (List.getElem?_eq_some_iff.mp hy).1
        have hm : C ∈ cs36 A := List.mem_of_getElem? (cs28_at hC)
        refine ⟨rfl, _, rfl, a, C, _, _, _, rfl, er.ex e5, T.er C hm, (fun u r => r), T.kte C hm, true, rfl, iteT ?_⟩
        refine ⟨_, rfl, a, C, _, _, _, rfl, er.ex e5, T.er C hm, (fun u r => r), T.kve C hm, ?_⟩
        refine ⟨_, hD, small (by rw [rl] at hj; rw [List.length_replicate]; exact Nat.lt_of_lt_of_le hj (by show 28 ≤ 1000; decide)), Ex.mu e5 nD, ?_⟩
        rw [rep_next]; exact upd_same
      rintro M3 ⟨zM3, hD⟩
      rw [rl] at hD
      refine ⟨D, List.replicate 28 true, rfl, SqL.of (by rw [hD, rep_bl]), _, rfl, HX.if_false (by rw [rep_all]; rfl) ?_⟩
      exact ⟨⟨_, rfl⟩, e4.tr (y2.tr zM3)⟩
    rintro σ H4 ⟨⟨v3, rfl⟩, e4⟩
    have e14 : Ex H1 H4 := e1G.tr e4
    clear cas
    refine ⟨_, rfl, v, rfl, fun p5 H5 x0 x1' x2 x3 x4 e5 h5 t0 t1 t2 t3 t4 => ?_⟩
    have e15 : Ex H1 H5 := e14.tr e5
    obtain ⟨q0, a0, b0, rfl, u0, i0, j0⟩ := id t0
    obtain ⟨q1, a1, b1, rfl, u1, i1, j1⟩ := id t1
    obtain ⟨q2, a2, b2, rfl, u2, i2, j2⟩ := id t2
    obtain ⟨q3, a3, b3, rfl, u3, i3, j3⟩ := id t3
    obtain ⟨q4, a4, b4, rfl, u4, i4, j4⟩ := id t4
    have cas : ∀ (i : Nat) (x : V), ([V.ref q0, V.ref q1, V.ref q2, V.ref q3, V.ref q4] : List V)[i]? = some x → ∃ (t a b : Addr), x = .ref t ∧ H5 t = some (.tup [.ref a, .ref b, v]) ∧ ([V.ref a0, V.ref a1, V.ref a2, V.ref a3, V.ref a4] : List V)[i]? = some (.ref a) := fun i x h => by
      match i, h with
      | 0, h => cases h; exact ⟨q0, a0, b0, rfl, u0, rfl⟩
      | 1, h => cases h; exact ⟨q1, a1, b1, rfl, u1, rfl⟩
      | 2, h => cases h; exact ⟨q2, a2, b2, rfl, u2, rfl⟩
      | 3, h => cases h; exact ⟨q3, a3, b3, rfl, u3, rfl⟩
      | 4, h => cases h; exact ⟨q4, a4, b4, rfl, u4, rfl⟩
      | i + 5, h => simp at h
    refine ⟨_, rfl, p5, rfl, ⟨_, SqL.of h5⟩, fun D nD => lc_list (xs := [V.ref q0, V.ref q1, V.ref q2, V.ref q3, V.ref q4]) (fun j H' => Ex H5 H' ∧ H' D = some (.lst (List.replicate j (V.str d.shown)))) ⟨Ex.nw nD, upd_same⟩ (fun i H' _ h' => SqL.of (h'.1 _ _ h5)) ?_ ?_⟩
    · rintro j y H6 hy ⟨e6, hD⟩
      obtain ⟨t, a, b, rfl, ut, _⟩ := cas j y hy
      have hj := (List.getElem?_eq_some_iff.mp hy).1
      have hj : j < 5 := hj
      refine ⟨rfl, _, rfl, t, _, _, _, rfl, rfl, SqT.of (e6 _ _ ut), rfl, v, d, p, rfl, dz.ex (e15.tr e6), bd.sh, (by have := bd.dp; omega), bd.len (by decide), ?_⟩
      refine ⟨_, hD, small (by rw [List.length_replicate]; omega), Ex.mu e6 nD, ?_⟩
      rw [rep_snoc]; exact upd_same
    rintro H6 ⟨e6, hD⟩
    refine ⟨_, rfl, (by show 1 ≤ sizeLine; decide), fun la nla => ⟨la, 5, _, rfl, rfl, upd_same, by decide, by decide, (by show 1 * 5 ≤ sizeLine; decide), fun lb nlb => ?_⟩⟩
    have za : Ex H6 (upd H6 la (.lst [V.str d.shown])) := Ex.nw nla
    have zb : Ex (upd H6 la (.lst [V.str d.shown])) (upd (upd H6 la (.lst [V.str d.shown])) lb (.lst (List.replicate (5 : Int).toNat [V.str d.shown]).flatten)) := Ex.nw nlb
    have hb : (upd (upd H6 la (.lst [V.str d.shown])) lb (.lst (List.replicate (5 : Int).toNat [V.str d.shown]).flatten)) lb = some (.lst (List.replicate 5 (V.str d.shown))) := by rw [upd_same, flat_rep]; rfl
    have hc := zb _ _ (za _ _ hD)
    refine ⟨.list (List.replicate 5 (.str d.shown)), .list (List.replicate 5 (.str d.shown)), .lst (SqL.of hc) (dp_rep _ _), .lst (SqL.of hb) (dp_rep _ _), shaped_rep _ bd.ok _, shaped_rep _ bd.ok _, _, rfl, HX.if_false (by rw [eqv_rep _ bd.ok]; rfl) ?_⟩
    obtain ⟨M4, EM4⟩ : ∃ z, z = upd (upd H6 la (.lst [V.str d.shown])) lb (.lst (List.replicate (5 : Int).toNat [V.str d.shown]).flatten) := ⟨_, rfl⟩
    have zM4 : Ex H6 M4 := by rw [EM4]; exact za.tr zb
    rw [← EM4]
    clear za zb hb hc EM4
    have y4 : Ex H5 M4 := e6.tr zM4
    clear hD nD
    refine ⟨_, rfl, p5, _, _, _, rfl, rfl, SqL.of (y4 _ _ h5), rfl, q0, _, _, _, rfl, rfl, SqT.of (y4 _ _ u0), rfl, b0, A.C_Fault, _, v, rfl, j0.ex y4, T.E_Fault.xf, T.E_Fault.no, (by simp [List.lookup]), ?_⟩
    refine ⟨_, rfl, p5, _, _, _, rfl, rfl, SqL.of (y4 _ _ h5), rfl, q1, _, _, _, rfl, rfl, SqT.of (y4 _ _ u1), rfl, b1, A.C_TooMany, _, v, rfl, j1.ex y4, T.E_TooMany.xf, T.E_TooMany.no, (by simp [List.lookup]), ?_⟩
    refine ⟨_, rfl, p5, _, _, _, rfl, rfl, SqL.of (y4 _ _ h5), rfl, q2, _, _, _, rfl, rfl, SqT.of (y4 _ _ u2), rfl, b2, A.C_BadLine, _, v, rfl, j2.ex y4, T.E_BadLine.xf, T.E_BadLine.no, (by simp [List.lookup]), ?_⟩
    refine ⟨_, rfl, p5, _, _, _, rfl, rfl, SqL.of (y4 _ _ h5), rfl, q3, _, _, _, rfl, rfl, SqT.of (y4 _ _ u3), rfl, b3, A.C_BadBytes, _, v, rfl, j3.ex y4, T.E_BadBytes.xf, T.E_BadBytes.no, (by simp [List.lookup]), ?_⟩
    refine ⟨_, rfl, p5, _, _, _, rfl, rfl, SqL.of (y4 _ _ h5), rfl, q4, _, _, _, rfl, rfl, SqT.of (y4 _ _ u4), rfl, b4, A.C_Wrong, _, v, rfl, j4.ex y4, T.E_Wrong.xf, T.E_Wrong.no, (by simp [List.lookup]), ?_⟩
    refine ⟨(by show 5 ≤ sizeLine; decide), fun ln nln sln => ?_⟩
    obtain ⟨M5, EM5⟩ : ∃ z, z = upd M4 ln (.lst [v, v, v, v, v]) := ⟨_, rfl⟩
    have zM5 : Ex M4 M5 := by rw [EM5]; exact Ex.nw nln
    have hln : M5 ln = some (.lst [v, v, v, v, v]) := by rw [EM5]; exact upd_same
    rw [← EM5]
    have e1m : Ex H1 M5 := e15.tr (y4.tr zM5)
    have hpM : PotAt M4 p (N + 20) := hp1.ex (e15.tr y4)
    have nlp : ln ≠ p := pot_none hpM nln
    have mem5 : ∀ {w : V} {dd : PyData} {Hz : Hp}, Dz p Hz w dd → ∀ q ∈ ([w, w, w, w, w] : List V).zip (List.replicate 5 dd), Dz p Hz q.1 q.2 := fun h q hq => by
      have z : (_, _) ∈ _ := hq
      simp [List.replicate] at hq
      rw [hq]; exact h
    refine ⟨_, rfl, _, _, p, rfl, dz_l hln sln nlp rfl (mem5 (dz.ex e1m)), (bd.five).1, (bd.five).2.1, (bd.five).2.2, ?_⟩
    refine ⟨_, rfl, (by show 1 ≤ sizeLine; decide), fun lc nlc slc => ⟨lc, 5, _, rfl, rfl, upd_same, by decide, by decide, (by show 1 * 5 ≤ sizeLine; decide), fun le nle sle => ?_⟩⟩
    have zc : Ex M5 (upd M5 lc (.lst [v])) := Ex.nw nlc
    have zd : Ex (upd M5 lc (.lst [v])) (upd (upd M5 lc (.lst [v])) le (.lst (List.replicate (5 : Int).toNat [v]).flatten)) := Ex.nw nle
    have nep : le ≠ p := pot_none (((hpM.ex zM5)).ex zc) nle
    have hle : (upd (upd M5 lc (.lst [v])) le (.lst (List.replicate (5 : Int).toNat [v]).flatten)) le = some (.lst [v, v, v, v, v]) := by rw [upd_same]; rfl
    obtain ⟨M6, EM6⟩ : ∃ z, z = upd (upd M5 lc (.lst [v])) le (.lst (List.replicate (5 : Int).toNat [v]).flatten) := ⟨_, rfl⟩
    rw [← EM6] at zd hle ⊢
    have zM6 : Ex M5 M6 := zc.tr zd
    refine ⟨_, _, p, rfl, dz_l hle sle nep rfl (mem5 (dz.ex (e1m.tr zM6))), (bd.five).1, (bd.five).2.1, (bd.five).2.2, rfl, _, rfl, HX.if_false q_neb ?_⟩
    refine ⟨_, rfl, fun ae M7 nae zM7 iae => ⟨ae, A.C_TooMany, _, v, rfl, iae, T.E_TooMany.xf, T.E_TooMany.no, (by simp [List.lookup]), v, d, p, rfl, dz.ex (e1m.tr (zM6.tr zM7)), bd.sh, (by have := bd.dp; omega), bd.len (by decide), _, rfl, rfl, _, rfl, HX.if_false q_neb ?_⟩⟩
    have y7 : Ex H5 M7 := y4.tr (zM5.tr (zM6.tr zM7))
    have h7 := y7 _ _ h5
    refine ⟨_, rfl, p5, rfl, ⟨_, SqL.of h7⟩, fun D nD => lc_list (xs := [V.ref q0, V.ref q1, V.ref q2, V.ref q3, V.ref q4]) (fun j H' => Ex M7 H' ∧ H' D = some (.lst (([V.ref a0, V.ref a1, V.ref a2, V.ref a3, V.ref a4] : List V).take j))) ⟨Ex.nw nD, upd_same⟩ (fun i H' _ h' => SqL.of (h'.1 _ _ h7)) ?_ ?_⟩
    · rintro j y H8 hy ⟨e8, hD⟩
      obtain ⟨t, a, b, rfl, ut, ha⟩ := cas j y hy
      have hj : j < 5 := (List.getElem?_eq_some_iff.mp hy).1
      refine ⟨rfl, _, rfl, t, _, _, _, rfl, rfl, SqT.of (e8 _ _ (y7 _ _ ut)), rfl, ?_⟩
      refine ⟨_, hD, small (Nat.lt_of_le_of_lt (List.length_take_le _ _) (by omega)), Ex.mu e8 nD, ?_⟩
      rw [upd_same, List.take_add_one, ha]; rfl
    rintro H8 ⟨e8, hD⟩
    have hD : H8 D = some (.lst [V.ref a0, V.ref a1, V.ref a2, V.ref a3, V.ref a4]) := hD
    have y8 : Ex H5 H8 := y7.tr e8
    refine fun c0 nc0 => ?_
    obtain ⟨P0, EP0⟩ : ∃ z, z = upd H8 c0 (exo c0 A.C_Empty none) := ⟨_, rfl⟩
    have f0 : Ex H8 P0 := by rw [EP0]; exact Ex.nw nc0
    have g0 : P0 c0 = some (exo c0 A.C_Empty none) := by rw [EP0]; exact upd_same
    rw [← EP0]
    refine fun c1 nc1 => ?_
    obtain ⟨P1, EP1⟩ : ∃ z, z = upd P0 c1 (exo c1 A.C_NothingToUndo none) := ⟨_, rfl⟩
    have f1 : Ex P0 P1 := by rw [EP1]; exact Ex.nw nc1
    have g1 : P1 c1 = some (exo c1 A.C_NothingToUndo none) := by rw [EP1]; exact upd_same
    rw [← EP1]
    refine fun c2 nc2 => ?_
    obtain ⟨P2, EP2⟩ : ∃ z, z = upd P1 c2 (exo c2 A.C_NothingToRedo none) := ⟨_, rfl⟩
    have f2 : Ex P1 P2 := by rw [EP2]; exact Ex.nw nc2
    have g2 : P2 c2 = some (exo c2 A.C_NothingToRedo none) := by rw [EP2]; exact upd_same
    rw [← EP2]
    refine ⟨(by show 3 ≤ sizeLine; decide), fun lf nlf => ?_⟩
    obtain ⟨P3, EP3⟩ : ∃ z, z = upd P2 lf (.lst [V.ref c0, V.ref c1, V.ref c2]) := ⟨_, rfl⟩
    have f3 : Ex P2 P3 := by rw [EP3]; exact Ex.nw nlf
    have g3 : P3 lf = some (.lst [V.ref c0, V.ref c1, V.ref c2]) := by rw [EP3]; exact upd_same
    rw [← EP3]
    have f03 : Ex H8 P3 := f0.tr (f1.tr (f2.tr f3))
    refine ⟨D, lf, _, _, rfl, rfl, f03 _ _ hD, g3, (by show 8 ≤ sizeLine; decide), fun lg nlg => ?_⟩
    obtain ⟨M8, EM8⟩ : ∃ z, z = upd P3 lg (.lst ([V.ref a0, V.ref a1, V.ref a2, V.ref a3, V.ref a4] ++ [V.ref c0, V.ref c1, V.ref c2])) := ⟨_, rfl⟩
    have f4 : Ex P3 M8 := by rw [EM8]; exact Ex.nw nlg
    have hlg : M8 lg = some (.lst [V.ref a0, V.ref a1, V.ref a2, V.ref a3, V.ref a4, V.ref c0, V.ref c1, V.ref c2]) := by rw [EM8]; exact upd_same
    rw [← EM8]
    have y58 : Ex H5 M8 := y8.tr (f03.tr f4)
    have f14 : Ex P0 M8 := f1.tr (f2.tr (f3.tr f4))
    have rs : ErrsA M8 [A.C_Fault, A.C_TooMany, A.C_BadLine, A.C_BadBytes, A.C_Wrong, A.C_Empty, A.C_NothingToUndo, A.C_NothingToRedo] [V.ref a0, V.ref a1, V.ref a2, V.ref a3, V.ref a4, V.ref c0, V.ref c1, V.ref c2] :=
      .cons (.inl ⟨_, i0.ex y58⟩) (.cons (.inl ⟨_, i1.ex y58⟩) (.cons (.inl ⟨_, i2.ex y58⟩) (.cons (.inl ⟨_, i3.ex y58⟩) (.cons (.inl ⟨_, i4.ex y58⟩) (.cons (.inr (f14 _ _ g0)) (.cons (.inr (f2.tr (f3.tr f4) _ _ g1)) (.cons (.inr (f3.tr f4 _ _ g2)) .nil)))))))
    have gt3 : ∀ {i : Nat} {x : V}, ([V.ref a0, V.ref a1, V.ref a2, V.ref a3, V.ref a4, V.ref c0, V.ref c1, V.ref c2] : List V)[i]? = some x → ∃ C a, ([A.C_Fault, A.C_TooMany, A.C_BadLine, A.C_BadBytes, A.C_Wrong, A.C_Empty, A.C_NothingToUndo, A.C_NothingToRedo] : List Addr)[i]? = some C ∧ x = .ref a ∧ ErrAny M8 C a := fun h => rs.get h
    clear hD nD
    have rl : ([V.ref a0, V.ref a1, V.ref a2, V.ref a3, V.ref a4, V.ref c0, V.ref c1, V.ref c2] : List V).length = 8 := rfl
    refine ⟨_, rfl, lg, rfl, ⟨_, SqL.of hlg⟩, fun D nD => lc_list (fun j H' => Ex M8 H' ∧ ∃ ys : List V, ys.length = j ∧ H' D = some (.lst ys) ∧ Ones H' 28 ys) ⟨Ex.nw nD, [], rfl, upd_same, Ones.nil⟩ (fun i H' _ h' => SqL.of (h'.1 _ _ hlg)) ?_ ?_⟩
    · rintro j y H5 hy ⟨e5, ys, hlen, hD, on⟩
      obtain ⟨C, a, hC, rfl, er⟩ := gt3 hy
      have hj36 : (cs36 A)[28 + j]? = some C := cs8_at hC
      have hj := (List.getElem?_eq_some_iff.mp hy).1
      refine ⟨rfl, _, rfl, a, C, _, rfl, hj36, er.ex e5, fun q H6 e6 hq => ?_⟩
      subst hlen
      have hq' : H6 q = some (.lst [.int ((28 + ys.length : Nat) : Int)]) := by rw [hq]
      exact ⟨ys, e6 _ _ hD, small (by rw [rl] at hj; exact Nat.lt_of_lt_of_le hj (by show 8 ≤ 1000; decide)), Ex.mu (e5.tr e6) nD, ys ++ [.ref q], (by simp), upd_same, (on.ex e6).put (e6 _ _ hD) hq'⟩
    rintro H5 ⟨e5, ys, hlen, hD, on⟩
    refine ⟨28, 36, rfl, ⟨by decide, by decide, by decide, by decide⟩, fun D2 nD2 => lc_range (lo := 28) (n := 8) (fun j H' => Ex H5 H' ∧ ∃ zs : List V, zs.length = j ∧ H' D2 = some (.lst zs) ∧ Ones H' 28 zs) ⟨Ex.nw nD2, [], rfl, upd_same, Ones.nil⟩ ?_ ?_⟩
    · rintro j H6 hj ⟨e6, zs, hl2, hD2, on2⟩
      refine ⟨rfl, _, rfl, (by show 1 ≤ sizeLine; decide), fun q nq => ?_⟩
      have e7 : Ex H6 (upd H6 q (.lst [V.int (28 + (j : Nat))])) := Ex.nw nq
      subst hl2
      have hq' : (upd H6 q (.lst [V.int (28 + (zs.length : Nat))])) q = some (.lst [.int ((28 + zs.length : Nat) : Int)]) := by rw [upd_same]; simp
      exact ⟨zs, e7 _ _ hD2, small (by omega), Ex.mu (e6.tr e7) nD2, zs ++ [.ref q], (by simp), upd_same, (on2.ex e7).put (e7 _ _ hD2) hq'⟩
    rintro M9 ⟨e6, zs, hl2, hD2, on2⟩
    have on1 := on.ex e6
    have hD1 := e6 _ _ hD
    have q1 := dp_ones (K := K) on1
    have q2 := dp_ones (K := K) on2
    rw [hlen, rl] at q1
    rw [hl2] at q2
    refine ⟨.list (ones 28 8), .list (ones 28 8), .lst (SqL.of hD1) q1, .lst (SqL.of hD2) q2, shaped_ones _ _, shaped_ones _ _, _, rfl, HX.if_false (by rw [eqv_ones]; rfl) ?_⟩
    have zM9 : Ex M8 M9 := e5.tr e6
    clear on on1 on2 q1 q2 hD hD1 hD2 e5 e6
    have gt4 : ∀ {i : Nat} {x : V}, ([V.ref a0, V.ref a1, V.ref a2, V.ref a3, V.ref a4, V.ref c0, V.ref c1, V.ref c2] : List V)[i]? = some x → ∃ C a, ([A.C_Fault, A.C_TooMany, A.C_BadLine, A.C_BadBytes, A.C_Wrong, A.C_Empty, A.C_NothingToUndo, A.C_NothingToRedo] : List Addr)[i]? = some C ∧ x = .ref a ∧ ErrAny M9 C a := fun h => (rs.ex zM9).get h
    have hl9 := zM9 _ _ hlg
    refine ⟨_, rfl, lg, rfl, ⟨_, SqL.of hl9⟩, fun D nD => lc_list (fun j H' => Ex M9 H' ∧ H' D = some (.lst (List.replicate j (V.bl true)))) ⟨Ex.nw nD, upd_same⟩ (fun i H' _ h' => SqL.of (h'.1 _ _ hl9)) ?_ ?_⟩
    · rintro j y H5 hy ⟨e5, hD⟩
      obtain ⟨C, a, hC, rfl, er⟩ := gt4 hy
      have hj := (List.getElem?_eq_some_iff.mp hy).1
      have hm : C ∈ cs36 A := List.mem_of_getElem? (cs8_at hC)
      refine ⟨rfl, _, rfl, a, C, _, _, _, rfl, er.ex e5, T.er C hm, (fun u r => r), T.kte C hm, true, rfl, iteT ?_⟩
      refine ⟨_, rfl, a, C, _, _, _, rfl, er.ex e5, T.er C hm, (fun u r => r), T.kve C hm, ?_⟩
      refine ⟨_, hD, small (by rw [rl] at hj; rw [List.length_replicate]; exact Nat.lt_of_lt_of_le hj (by show 8 ≤ 1000; decide)), Ex.mu e5 nD, ?_⟩
      rw [rep_next]; exact upd_same
    rintro M10 ⟨zM10, hD⟩
    rw [rl] at hD
    refine ⟨D, List.replicate 8 true, rfl, SqL.of (by rw [hD, rep_bl]), ?_⟩
    rw [rep_all]
    have yend : Ex H1 M10 := e15.tr (y58.tr (zM9.tr zM10))
    exact k M10 (x1.tr (Ex.xb yend)) (hp1.ex yend)
theorem ok_law (T : Txt K mg A) : FnG P w K mg base CX0 5 A.f_law A.d_law ["_law_script"] (spLaw K) := by
  refine okG0 T.F_law sc_law (fun vs H Q E h => ?_) (fun cdv A0 outer s H vs Q E hgd0 hr h => ?_)
  · obtain ⟨_, _, rfl, _⟩ := h
    rfl
  · have hu := hu_of hr
    have hgd : (A0.deeper (envOfC "law" (defScope s_law) s.heap.objs.size A.f_law cdv)).guards = some [] := hgd0
    obtain ⟨a, ns, rfl, hS, hl, k⟩ := h
    refine ⟨_, (pss_cons (ps_for PassesOwn.never rfl (pi_range1 rfl T.g_range (pa_cons (pe_op op_add (pe_op op_add pe_int (pe_callTy call_int1 (by rfl) T.g_int (by decide +kernel) (pa_cons (pe_cmpR op_gt (pe_callB call_len_seq (by rfl) T.g_len (by decide +kernel) (pa_cons (pv 0) pa_nil)) pe_int (nomark _)) pa_nil))) (pe_callTy call_int1 (by rfl) T.g_int (by decide +kernel) (pa_cons (pe_cmpR op_gt (pe_callB call_len_seq (by rfl) T.g_len (by decide +kernel) (pa_cons (pv 0) pa_nil)) pe_int (nomark _)) pa_nil))) pa_nil)) (pg_name (i := 1) sc_law.nd rfl (Or.inl rfl)) (pss_cons (ps_set (i := 2) sc_law.nd rfl (Or.inr rfl) (pe_call (ok_pot T) (hr.mono (by decide)) (by rfl) T.m_pot T.F_pot.kp T.b_pot .nil pass0 (pa_cons (pv 0) (pa_cons (pv 1) pa_nil))))
      (pss_one (ps_if (pt_not (pt_val (pe_callB (cr_all rfl) (by rfl) T.g_all (by decide +kernel) (pa_cons (pe_lc (own := [("_law_turn", 3)]) (g := gName 3) (tt := tYes) rfl sc_law.nd (pi_range1 rfl T.g_range (pa_cons pe_int pa_nil)) (blkOk_by (N := N_law) (sc := defScope s_law) (by decide +kernel)) (fun _ _ _ _ _ => pg_name (i := 3) sc_law.nd rfl (Or.inl rfl)) (fun _ _ _ _ _ => pts_nil) (fun _ _ _ _ _ => (pe_callG hgd (ok_right T) (hr.mono (by decide)) (by rfl) T.m_right T.F_right.kp T.b_right .nil pass0 (pa_cons (pv 2) pa_nil)))) pa_nil)))) (pss_one (ps_ret pe_bl)) pss_nil))))
      (pss_one (ps_ret pe_bl))), ?_⟩
    refine ⟨_, rfl, a, _, rfl, .inl hS, _, _, rfl, rfl, .inr ⟨_, rfl, _, _, rfl, rfl, ?_⟩⟩
    refine ⟨_, rfl, a, _, rfl, .inl hS, _, _, rfl, rfl, .inr ⟨_, rfl, _, _, rfl, rfl, ?_⟩⟩
    have hb := two_b (decide ((1 : Int) < ((ns.map V.int).length : Int))) (decide ((2 : Int) < ((ns.map V.int).length : Int)))
    refine ⟨_, rfl, by omega, by omega, for_range (lo := 0) (n := (1 + (if (decide ((1 : Int) < ((ns.map V.int).length : Int))) = true then (1 : Int) else 0) + (if (decide ((2 : Int) < ((ns.map V.int).length : Int))) = true then (1 : Int) else 0)).toNat) (fun i σ H' => (∃ v1 v2 v3, σ = [some (.ref a), v1, v2, v3]) ∧ Ex H H') ⟨⟨_, _, _, rfl⟩, Ex.rf H⟩ ?_ ?_⟩
    · rintro i σ H2 hi ⟨⟨v1, v2, v3, rfl⟩, e2⟩
      refine ⟨_, rfl, _, rfl, a, ns, 0 + i, rfl, sql_ex hS e2, by omega, by omega, fun p H3 hp e3 pot => ?_⟩
      refine ⟨6, rfl, by decide, by decide, fun D nD => lc_range (lo := 0) (n := 6) (fun j H' => XB p H3 H' ∧ PotAt H' p (20 * j) ∧ H' D = some (.lst (List.replicate j (.bl true)))) ⟨Ex.xb (Ex.nw nD), (pot.mono (by omega)).up (Ne.symm (pot_none pot nD)), upd_same⟩ ?_ ?_⟩
      · rintro j H4 hj ⟨e4, hp4, hD⟩
        have nDp : D ≠ p := pot_none pot nD
        refine ⟨rfl, _, rfl, p, _, rfl, hp4, by omega, fun H5 x5 hp5 => ?_⟩
        refine ⟨_, x5 _ _ nDp hD, small (by rw [List.length_replicate]; omega), XB.mu (e4.tr x5) nD, (hp5.mono (by push_cast; omega)).up (Ne.symm nDp), ?_⟩
        rw [rep_next]
        exact upd_same
      · rintro H4 ⟨e4, hp4, hD⟩
        refine ⟨D, List.replicate 6 true, rfl, SqL.of (by rw [hD, rep_bl]), _, rfl, HX.if_false (by rw [rep_all]; rfl) ?_⟩
        exact ⟨⟨_, _, _, rfl⟩, e2.tr (ex_xb e3 e4 hp)⟩
    · rintro σ H2 _
      exact k _
end
end K99
set_option Elab.async false
set_option linter.all false
set_option maxRecDepth 100000
set_option maxHeartbeats 4400000
namespace K99
open PySem PySem.Spec PyProof.Rows L2 HX
open PySem.W (Frag)
def fnl : List DX := ([⟨glo "_law_pot", "_law_pot", "_law_pot", s_pot⟩, ⟨glo "_law_take", "_law_take", "_law_take", s_take⟩, ⟨glo "_law_of", "_law_of", "_law_of", s_of⟩, ⟨glo "_law_any", "_law_any", "_law_any", s_any⟩, ⟨met "BadSize" "__init__", "__init__", "BadSize.__init__", s_BadSize_init⟩, ⟨met "BadWorth" "__init__", "__init__", "BadWorth.__init__", s_BadWorth_init⟩, ⟨met "BadMost" "__init__", "__init__", "BadMost.__init__", s_BadMost_init⟩, ⟨met "BadItems" "__init__", "__init__", "BadItems.__init__", s_BadItems_init⟩, ⟨met "BadWorld" "__init__", "__init__", "BadWorld.__init__", s_BadWorld_init⟩, ⟨met "BadSetup" "__init__", "__init__", "BadSetup.__init__", s_BadSetup_init⟩, ⟨met "BadStand" "__init__", "__init__", "BadStand.__init__", s_BadStand_init⟩, ⟨met "BadDeed" "__init__", "__init__", "BadDeed.__init__", s_BadDeed_init⟩, ⟨met "BadPlan" "__init__", "__init__", "BadPlan.__init__", s_BadPlan_init⟩, ⟨met "BadKinds" "__init__", "__init__", "BadKinds.__init__", s_BadKinds_init⟩, ⟨met "BadSteps" "__init__", "__init__", "BadSteps.__init__", s_BadSteps_init⟩, ⟨met "BadEnd" "__init__", "__init__", "BadEnd.__init__", s_BadEnd_init⟩, ⟨met "NoWork" "__init__", "__init__", "NoWork.__init__", s_NoWork_init⟩, ⟨met "BadValues" "__init__", "__init__", "BadValues.__init__", s_BadValues_init⟩, ⟨met "BadState" "__init__", "__init__", "BadState.__init__", s_BadState_init⟩, ⟨met "BadTape" "__init__", "__init__", "BadTape.__init__", s_BadTape_init⟩] : List DX) ++ ([⟨met "BadStory" "__init__", "__init__", "BadStory.__init__", s_BadStory_init⟩, ⟨met "BadNames" "__init__", "__init__", "BadNames.__init__", s_BadNames_init⟩, ⟨met "BadPrices" "__init__", "__init__", "BadPrices.__init__", s_BadPrices_init⟩, ⟨met "BadDoing" "__init__", "__init__", "BadDoing.__init__", s_BadDoing_init⟩, ⟨met "NoKey" "__init__", "__init__", "NoKey.__init__", s_NoKey_init⟩, ⟨met "BadChecks" "__init__", "__init__", "BadChecks.__init__", s_BadChecks_init⟩, ⟨met "BadPlace" "__init__", "__init__", "BadPlace.__init__", s_BadPlace_init⟩, ⟨met "NoTape" "__init__", "__init__", "NoTape.__init__", s_NoTape_init⟩, ⟨met "NoName" "__init__", "__init__", "NoName.__init__", s_NoName_init⟩, ⟨met "BadThing" "__init__", "__init__", "BadThing.__init__", s_BadThing_init⟩, ⟨met "BadRoom" "__init__", "__init__", "BadRoom.__init__", s_BadRoom_init⟩, ⟨met "BadCommand" "__init__", "__init__", "BadCommand.__init__", s_BadCommand_init⟩, ⟨met "Fault" "__init__", "__init__", "Fault.__init__", s_Fault_init⟩, ⟨met "TooMany" "__init__", "__init__", "TooMany.__init__", s_TooMany_init⟩, ⟨met "BadLine" "__init__", "__init__", "BadLine.__init__", s_BadLine_init⟩, ⟨met "BadBytes" "__init__", "__init__", "BadBytes.__init__", s_BadBytes_init⟩, ⟨met "Wrong" "__init__", "__init__", "Wrong.__init__", s_Wrong_init⟩, ⟨glo "_law_made", "_law_made", "_law_made", s_made⟩, ⟨glo "_law_made_by_name", "_law_made_by_name", "_law_made_by_name", s_made_by_name⟩, ⟨glo "_law_first_marks", "_law_first_marks", "_law_first_marks", s_first_marks⟩] : List DX) ++ ([⟨glo "_law_later_marks", "_law_later_marks", "_law_later_marks", s_later_marks⟩, ⟨glo "_law_marks", "_law_marks", "_law_marks", s_marks⟩, ⟨glo "_law_others", "_law_others", "_law_others", s_others⟩, ⟨glo "_law_right", "_law_right", "_law_right", s_right⟩, ⟨glo "law", "law", "law", s_law⟩] : List DX)
def nmG : List Str := ((["_law_pot", "_law_take", "_law_of", "_law_any", "_law_made", "_law_made_by_name", "_law_first_marks", "_law_later_marks", "_law_marks", "_law_others", "_law_right", "law", "TapeError", "BadSize", "BadWorth", "BadMost"] : List Str) ++ (["BadItems", "BadWorld", "BadSetup", "BadStand", "BadDeed", "BadPlan", "BadKinds", "BadSteps", "BadEnd", "NoWork", "BadValues", "BadState", "BadTape", "BadStory", "BadNames", "BadPrices"] : List Str) ++ (["BadDoing", "NoKey", "BadChecks", "BadPlace", "NoTape", "NoName", "BadThing", "BadRoom", "BadCommand", "Fault", "TooMany", "BadLine", "BadBytes", "Wrong", "Empty", "NothingToUndo"] : List Str) ++ (["NothingToRedo"] : List Str))
def nmF : List Str := ((["int", "len", "abs", "range", "isinstance", "enumerate", "repr", "all", "ValueError"] : List Str))
def b_errs (K : Frag) : Bool := (([("BadSize", "value"), ("BadWorth", "value"), ("BadMost", "value"), ("BadItems", "value"), ("BadWorld", "value"), ("BadSetup", "value"), ("BadStand", "value"), ("BadDeed", "value"), ("BadPlan", "value"), ("BadKinds", "value")] : List (Str × Str)) ++ ([("BadSteps", "value"), ("BadEnd", "value"), ("NoWork", "value"), ("BadValues", "value"), ("BadState", "value"), ("BadTape", "value"), ("BadStory", "value"), ("BadNames", "value"), ("BadPrices", "value"), ("BadDoing", "value")] : List (Str × Str)) ++ ([("NoKey", "value"), ("BadChecks", "value"), ("BadPlace", "value"), ("NoTape", "value"), ("NoName", "value"), ("BadThing", "value"), ("BadRoom", "value"), ("BadCommand", "value"), ("Fault", "words"), ("TooMany", "number")] : List (Str × Str)) ++ ([("BadLine", "number"), ("BadBytes", "at"), ("Wrong", "story")] : List (Str × Str))).all fun c => excB K (He.ga K c.1) && errB K (He.ga K c.1) (He.ma K (He.ga K c.1) "__init__") c.2
def b_zero (K : Frag) : Bool := ((["Empty", "NothingToUndo", "NothingToRedo"] : List Str)).all fun c => PySem.W.excIn K (He.ga K c) [.type "ValueError", .type "Exception", .type "BaseException", .type "object"] "ValueError.__new__" && errB0 K (He.ga K c)
def b_mro (K : Frag) : Bool := mroB K (He.ga K "TapeError") (((["BadSize", "BadWorth", "BadMost", "BadItems", "BadWorld", "BadSetup", "BadStand", "BadDeed", "BadPlan", "BadKinds", "BadSteps", "BadEnd", "NoWork", "BadValues", "BadState", "BadTape"] : List Str) ++ (["BadStory", "BadNames", "BadPrices", "BadDoing", "NoKey", "BadChecks", "BadPlace", "NoTape", "NoName", "BadThing", "BadRoom", "BadCommand", "Fault", "TooMany", "BadLine", "BadBytes"] : List Str) ++ (["Wrong", "Empty", "NothingToUndo", "NothingToRedo"] : List Str)).map (He.ga K))
def ex (K : Frag) : Bool := nmG.all (fun x => He.eqO (PySem.W.nsIn K mainGlobals x) (some (some (.ref (He.ga K x))))) && (nmF.all (fun x => He.eqO (PySem.W.nsIn K mainGlobals x) (some none)) && (b_errs K && (b_zero K && (b_mro K))))
theorem ex_glob {K : Frag} {h : Heap} {mg : Str → Option Value} (X : K.In h) (G : h.Ns mainGlobals mg) (c : ex K = true) {x : Str} (hx : x ∈ nmG) : mg x = some (.ref (He.ga K x)) := by
  unfold ex at c
  simp only [Bool.and_eq_true] at c
  exact PySem.W.mg_of X G (He.eqO_ok (List.all_eq_true.mp c.1 x hx))
theorem ex_free {K : Frag} {h : Heap} {mg : Str → Option Value} (X : K.In h) (G : h.Ns mainGlobals mg) (c : ex K = true) {x : Str} (hx : x ∈ nmF) : mg x = none := by
  unfold ex at c
  simp only [Bool.and_eq_true] at c
  exact PySem.W.mg_none_of X G (He.eqO_ok (List.all_eq_true.mp c.2.1 x hx))
theorem ex_errs {K : Frag} (c : ex K = true) : b_errs K = true := by
  unfold ex at c
  simp only [Bool.and_eq_true] at c
  exact c.2.2.1
theorem ex_zero {K : Frag} (c : ex K = true) : b_zero K = true := by
  unfold ex at c
  simp only [Bool.and_eq_true] at c
  exact c.2.2.2.1
theorem ex_mro {K : Frag} (c : ex K = true) : b_mro K = true := by
  unfold ex at c
  simp only [Bool.and_eq_true] at c
  exact c.2.2.2.2
abbrev R : PySem.W.OpenRow := PySem.W.OpenLaw.row PySem.Challenge.rw_tapedonce_k99_errors_made_with_any_value
def names : List Str := ((["TapeError", "BadSize", "BadWorth", "BadMost", "BadItems", "BadWorld", "BadSetup", "BadStand", "BadDeed", "BadPlan", "BadKinds", "BadSteps", "BadEnd", "NoWork", "BadValues", "BadState"] : List Str) ++ (["BadTape", "BadStory", "BadNames", "BadPrices", "BadDoing", "NoKey", "BadChecks", "BadPlace", "NoTape", "NoName", "BadThing", "BadRoom", "BadCommand", "Fault", "TooMany", "BadLine"] : List Str) ++ (["BadBytes", "Wrong", "Empty", "NothingToUndo", "NothingToRedo", "_law_pot", "_law_take", "_law_of", "_law_any", "_law_made", "_law_made_by_name", "_law_first_marks", "_law_later_marks", "_law_marks", "_law_others", "_law_right"] : List Str))
theorem run (w : World) : HandSHeadRun.RunEq R (PySem.W.view R.prog [50]) (hookX 5 ex fnl) (obT 5 ex fnl) 9400 names w := by
  intro os
  kernel_rfl
theorem er_at {K : Frag} (ce : ex K = true) {c : Str × Str} (hc : c ∈ (([("BadSize", "value"), ("BadWorth", "value"), ("BadMost", "value"), ("BadItems", "value"), ("BadWorld", "value"), ("BadSetup", "value"), ("BadStand", "value"), ("BadDeed", "value"), ("BadPlan", "value"), ("BadKinds", "value")] : List (Str × Str)) ++ ([("BadSteps", "value"), ("BadEnd", "value"), ("NoWork", "value"), ("BadValues", "value"), ("BadState", "value"), ("BadTape", "value"), ("BadStory", "value"), ("BadNames", "value"), ("BadPrices", "value"), ("BadDoing", "value")] : List (Str × Str)) ++ ([("NoKey", "value"), ("BadChecks", "value"), ("BadPlace", "value"), ("NoTape", "value"), ("NoName", "value"), ("BadThing", "value"), ("BadRoom", "value"), ("BadCommand", "value"), ("Fault", "words"), ("TooMany", "number")] : List (Str × Str)) ++ ([("BadLine", "number"), ("BadBytes", "at"), ("Wrong", "story")] : List (Str × Str)))) : excB K (He.ga K c.1) = true ∧ errB K (He.ga K c.1) (He.ma K (He.ga K c.1) "__init__") c.2 = true := Bool.and_eq_true_iff.mp (List.all_eq_true.mp (ex_errs ce) c hc)
theorem ze_at {K : Frag} (ce : ex K = true) {c : Str} (hc : c ∈ ((["Empty", "NothingToUndo", "NothingToRedo"] : List Str))) : PySem.W.excIn K (He.ga K c) [.type "ValueError", .type "Exception", .type "BaseException", .type "object"] "ValueError.__new__" = true ∧ errB0 K (He.ga K c) = true := Bool.and_eq_true_iff.mp (List.all_eq_true.mp (ex_zero ce) c hc)
theorem facts {P : Program} {w : World} {K : Frag} {h : Heap} {mg : Str → Option Value} {f : Addr} (X : K.In h) (G : h.Ns mainGlobals mg) (hfa : mg ("law" : Str) = some (.ref f)) (c : SaysX ex fnl K) :
    ∃ fd : FuncData, (∀ (s : Shared) (v : Value), BindsTo s fd ⟨[v], []⟩ [("_law_script", v)]) ∧ ∀ base : Heap, K.In base → base.Ns mainGlobals mg → FnG P w K mg base CX0 5 f fd ["_law_script"] (spLaw K) := by
  have ce := c.facts
  obtain ⟨d0, F0⟩ := c.def_ 0 (d := (⟨glo "_law_pot", "_law_pot", "_law_pot", s_pot⟩ : DX)) rfl
  obtain ⟨d1, F1⟩ := c.def_ 1 (d := (⟨glo "_law_take", "_law_take", "_law_take", s_take⟩ : DX)) rfl
  obtain ⟨d2, F2⟩ := c.def_ 2 (d := (⟨glo "_law_of", "_law_of", "_law_of", s_of⟩ : DX)) rfl
  obtain ⟨d3, F3⟩ := c.def_ 3 (d := (⟨glo "_law_any", "_law_any", "_law_any", s_any⟩ : DX)) rfl
  obtain ⟨d4, F4⟩ := c.def_ 4 (d := (⟨met "BadSize" "__init__", "__init__", "BadSize.__init__", s_BadSize_init⟩ : DX)) rfl
  obtain ⟨d5, F5⟩ := c.def_ 5 (d := (⟨met "BadWorth" "__init__", "__init__", "BadWorth.__init__", s_BadWorth_init⟩ : DX)) rfl
  obtain ⟨d6, F6⟩ := c.def_ 6 (d := (⟨met "BadMost" "__init__", "__init__", "BadMost.__init__", s_BadMost_init⟩ : DX)) rfl
  obtain ⟨d7, F7⟩ := c.def_ 7 (d := (⟨met "BadItems" "__init__", "__init__", "BadItems.__init__", s_BadItems_init⟩ : DX)) rfl
  obtain ⟨d8, F8⟩ := c.def_ 8 (d := (⟨met "BadWorld" "__init__", "__init__", "BadWorld.__init__", s_BadWorld_init⟩ : DX)) rfl
  obtain ⟨d9, F9⟩ := c.def_ 9 (d := (⟨met "BadSetup" "__init__", "__init__", "BadSetup.__init__", s_BadSetup_init⟩ : DX)) rfl
  obtain ⟨d10, F10⟩ := c.def_ 10 (d := (⟨met "BadStand" "__init__", "__init__", "BadStand.__init__", s_BadStand_init⟩ : DX)) rfl
  obtain ⟨d11, F11⟩ := c.def_ 11 (d := (⟨met "BadDeed" "__init__", "__init__", "BadDeed.__init__", s_BadDeed_init⟩ : DX)) rfl
  obtain ⟨d12, F12⟩ := c.def_ 12 (d := (⟨met "BadPlan" "__init__", "__init__", "BadPlan.__init__", s_BadPlan_init⟩ : DX)) rfl
  obtain ⟨d13, F13⟩ := c.def_ 13 (d := (⟨met "BadKinds" "__init__", "__init__", "BadKinds.__init__", s_BadKinds_init⟩ : DX)) rfl
  obtain ⟨d14, F14⟩ := c.def_ 14 (d := (⟨met "BadSteps" "__init__", "__init__", "BadSteps.__init__", s_BadSteps_init⟩ : DX)) rfl
  obtain ⟨d15, F15⟩ := c.def_ 15 (d := (⟨met "BadEnd" "__init__", "__init__", "BadEnd.__init__", s_BadEnd_init⟩ : DX)) rfl
  obtain ⟨d16, F16⟩ := c.def_ 16 (d := (⟨met "NoWork" "__init__", "__init__", "NoWork.__init__", s_NoWork_init⟩ : DX)) rfl
  obtain ⟨d17, F17⟩ := c.def_ 17 (d := (⟨met "BadValues" "__init__", "__init__", "BadValues.__init__", s_BadValues_init⟩ : DX)) rfl
  obtain ⟨d18, F18⟩ := c.def_ 18 (d := (⟨met "BadState" "__init__", "__init__", "BadState.__init__", s_BadState_init⟩ : DX)) rfl
  obtain ⟨d19, F19⟩ := c.def_ 19 (d := (⟨met "BadTape" "__init__", "__init__", "BadTape.__init__", s_BadTape_init⟩ : DX)) rfl
  obtain ⟨d20, F20⟩ := c.def_ 20 (d := (⟨met "BadStory" "__init__", "__init__", "BadStory.__init__", s_BadStory_init⟩ : DX)) rfl
  obtain ⟨d21, F21⟩ := c.def_ 21 (d := (⟨met "BadNames" "__init__", "__init__", "BadNames.__init__", s_BadNames_init⟩ : DX)) rfl
  obtain ⟨d22, F22⟩ := c.def_ 22 (d := (⟨met "BadPrices" "__init__", "__init__", "BadPrices.__init__", s_BadPrices_init⟩ : DX)) rfl
  obtain ⟨d23, F23⟩ := c.def_ 23 (d := (⟨met "BadDoing" "__init__", "__init__", "BadDoing.__init__", s_BadDoing_init⟩ : DX)) rfl
  obtain ⟨d24, F24⟩ := c.def_ 24 (d := (⟨met "NoKey" "__init__", "__init__", "NoKey.__init__", s_NoKey_init⟩ : DX)) rfl
  obtain ⟨d25, F25⟩ := c.def_ 25 (d := (⟨met "BadChecks" "__init__", "__init__", "BadChecks.__init__", s_BadChecks_init⟩ : DX)) rfl
  obtain ⟨d26, F26⟩ := c.def_ 26 (d := (⟨met "BadPlace" "__init__", "__init__", "BadPlace.__init__", s_BadPlace_init⟩ : DX)) rfl
  obtain ⟨d27, F27⟩ := c.def_ 27 (d := (⟨met "NoTape" "__init__", "__init__", "NoTape.__init__", s_NoTape_init⟩ : DX)) rfl
  obtain ⟨d28, F28⟩ := c.def_ 28 (d := (⟨met "NoName" "__init__", "__init__", "NoName.__init__", s_NoName_init⟩ : DX)) rfl
  obtain ⟨d29, F29⟩ := c.def_ 29 (d := (⟨met "BadThing" "__init__", "__init__", "BadThing.__init__", s_BadThing_init⟩ : DX)) rfl
  obtain ⟨d30, F30⟩ := c.def_ 30 (d := (⟨met "BadRoom" "__init__", "__init__", "BadRoom.__init__", s_BadRoom_init⟩ : DX)) rfl
  obtain ⟨d31, F31⟩ := c.def_ 31 (d := (⟨met "BadCommand" "__init__", "__init__", "BadCommand.__init__", s_BadCommand_init⟩ : DX)) rfl
  obtain ⟨d32, F32⟩ := c.def_ 32 (d := (⟨met "Fault" "__init__", "__init__", "Fault.__init__", s_Fault_init⟩ : DX)) rfl
  obtain ⟨d33, F33⟩ := c.def_ 33 (d := (⟨met "TooMany" "__init__", "__init__", "TooMany.__init__", s_TooMany_init⟩ : DX)) rfl
  obtain ⟨d34, F34⟩ := c.def_ 34 (d := (⟨met "BadLine" "__init__", "__init__", "BadLine.__init__", s_BadLine_init⟩ : DX)) rfl
  obtain ⟨d35, F35⟩ := c.def_ 35 (d := (⟨met "BadBytes" "__init__", "__init__", "BadBytes.__init__", s_BadBytes_init⟩ : DX)) rfl
  obtain ⟨d36, F36⟩ := c.def_ 36 (d := (⟨met "Wrong" "__init__", "__init__", "Wrong.__init__", s_Wrong_init⟩ : DX)) rfl
  obtain ⟨d37, F37⟩ := c.def_ 37 (d := (⟨glo "_law_made", "_law_made", "_law_made", s_made⟩ : DX)) rfl
  obtain ⟨d38, F38⟩ := c.def_ 38 (d := (⟨glo "_law_made_by_name", "_law_made_by_name", "_law_made_by_name", s_made_by_name⟩ : DX)) rfl
  obtain ⟨d39, F39⟩ := c.def_ 39 (d := (⟨glo "_law_first_marks", "_law_first_marks", "_law_first_marks", s_first_marks⟩ : DX)) rfl
  obtain ⟨d40, F40⟩ := c.def_ 40 (d := (⟨glo "_law_later_marks", "_law_later_marks", "_law_later_marks", s_later_marks⟩ : DX)) rfl
  obtain ⟨d41, F41⟩ := c.def_ 41 (d := (⟨glo "_law_marks", "_law_marks", "_law_marks", s_marks⟩ : DX)) rfl
  obtain ⟨d42, F42⟩ := c.def_ 42 (d := (⟨glo "_law_others", "_law_others", "_law_others", s_others⟩ : DX)) rfl
  obtain ⟨d43, F43⟩ := c.def_ 43 (d := (⟨glo "_law_right", "_law_right", "_law_right", s_right⟩ : DX)) rfl
  obtain ⟨d44, F44⟩ := c.def_ 44 (d := (⟨glo "law", "law", "law", s_law⟩ : DX)) rfl
  have e := hfa.symm.trans (ex_glob X G ce (x := "law") (by decide +kernel))
  cases e
  have T : Txt K mg { C_TapeError := He.ga K "TapeError", C_BadSize := He.ga K "BadSize", C_BadWorth := He.ga K "BadWorth", C_BadMost := He.ga K "BadMost", C_BadItems := He.ga K "BadItems", C_BadWorld := He.ga K "BadWorld", C_BadSetup := He.ga K "BadSetup", C_BadStand := He.ga K "BadStand", C_BadDeed := He.ga K "BadDeed", C_BadPlan := He.ga K "BadPlan", C_BadKinds := He.ga K "BadKinds", C_BadSteps := He.ga K "BadSteps", C_BadEnd := He.ga K "BadEnd", C_NoWork := He.ga K "NoWork", C_BadValues := He.ga K "BadValues", C_BadState := He.ga K "BadState", C_BadTape := He.ga K "BadTape", C_BadStory := He.ga K "BadStory", C_BadNames := He.ga K "BadNames", C_BadPrices := He.ga K "BadPrices", C_BadDoing := He.ga K "BadDoing", C_NoKey := He.ga K "NoKey", C_BadChecks := He.ga K "BadChecks", C_BadPlace := He.ga K "BadPlace", C_NoTape := He.ga K "NoTape", C_NoName := He.ga K "NoName", C_BadThing := He.ga K "BadThing", C_BadRoom := He.ga K "BadRoom", C_BadCommand := He.ga K "BadCommand", C_Fault := He.ga K "Fault", C_TooMany := He.ga K "TooMany", C_BadLine := He.ga K "BadLine", C_BadBytes := He.ga K "BadBytes", C_Wrong := He.ga K "Wrong", C_Empty := He.ga K "Empty", C_NothingToUndo := He.ga K "NothingToUndo", C_NothingToRedo := He.ga K "NothingToRedo", f_pot := (glo "_law_pot" K), f_take := (glo "_law_take" K), f_of := (glo "_law_of" K), f_any := (glo "_law_any" K), f_BadSize_init := (met "BadSize" "__init__" K), f_BadWorth_init := (met "BadWorth" "__init__" K), f_BadMost_init := (met "BadMost" "__init__" K), f_BadItems_init := (met "BadItems" "__init__" K), f_BadWorld_init := (met "BadWorld" "__init__" K), f_BadSetup_init := (met "BadSetup" "__init__" K), f_BadStand_init := (met "BadStand" "__init__" K), f_BadDeed_init := (met "BadDeed" "__init__" K), f_BadPlan_init := (met "BadPlan" "__init__" K), f_BadKinds_init := (met "BadKinds" "__init__" K), f_BadSteps_init := (met "BadSteps" "__init__" K), f_BadEnd_init := (met "BadEnd" "__init__" K), f_NoWork_init := (met "NoWork" "__init__" K), f_BadValues_init := (met "BadValues" "__init__" K), f_BadState_init := (met "BadState" "__init__" K), f_BadTape_init := (met "BadTape" "__init__" K), f_BadStory_init := (met "BadStory" "__init__" K), f_BadNames_init := (met "BadNames" "__init__" K), f_BadPrices_init := (met "BadPrices" "__init__" K), f_BadDoing_init := (met "BadDoing" "__init__" K), f_NoKey_init := (met "NoKey" "__init__" K), f_BadChecks_init := (met "BadChecks" "__init__" K), f_BadPlace_init := (met "BadPlace" "__init__" K), f_NoTape_init := (met "NoTape" "__init__" K), f_NoName_init := (met "NoName" "__init__" K), f_BadThing_init := (met "BadThing" "__init__" K), f_BadRoom_init := (met "BadRoom" "__init__" K), f_BadCommand_init := (met "BadCommand" "__init__" K), f_Fault_init := (met "Fault" "__init__" K), f_TooMany_init := (met "TooMany" "__init__" K), f_BadLine_init := (met "BadLine" "__init__" K), f_BadBytes_init := (met "BadBytes" "__init__" K), f_Wrong_init := (met "Wrong" "__init__" K), f_made := (glo "_law_made" K), f_made_by_name := (glo "_law_made_by_name" K), f_first_marks := (glo "_law_first_marks" K), f_later_marks := (glo "_law_later_marks" K), f_marks := (glo "_law_marks" K), f_others := (glo "_law_others" K), f_right := (glo "_law_right" K), f_law := (glo "law" K), d_pot := d0, d_take := d1, d_of := d2, d_any := d3, d_BadSize_init := d4, d_BadWorth_init := d5, d_BadMost_init := d6, d_BadItems_init := d7, d_BadWorld_init := d8, d_BadSetup_init := d9, d_BadStand_init := d10, d_BadDeed_init := d11, d_BadPlan_init := d12, d_BadKinds_init := d13, d_BadSteps_init := d14, d_BadEnd_init := d15, d_NoWork_init := d16, d_BadValues_init := d17, d_BadState_init := d18, d_BadTape_init := d19, d_BadStory_init := d20, d_BadNames_init := d21, d_BadPrices_init := d22, d_BadDoing_init := d23, d_NoKey_init := d24, d_BadChecks_init := d25, d_BadPlace_init := d26, d_NoTape_init := d27, d_NoName_init := d28, d_BadThing_init := d29, d_BadRoom_init := d30, d_BadCommand_init := d31, d_Fault_init := d32, d_TooMany_init := d33, d_BadLine_init := d34, d_BadBytes_init := d35, d_Wrong_init := d36, d_made := d37, d_made_by_name := d38, d_first_marks := d39, d_later_marks := d40, d_marks := d41, d_others := d42, d_right := d43, d_law := d44 : Ad } := {
    F_pot := F0
    b_pot := F0.binds (ps := ["_law_script", "_law_k"]) fun _ _ _ _ _ _ us hl => match us, hl with | [_, _], _ => rfl
    m_pot := (ex_glob X G ce (x := "_law_pot") (by decide +kernel))
    F_take := F1
    b_take := F1.binds (ps := ["_law_pot_here", "_law_upto"]) fun _ _ _ _ _ _ us hl => match us, hl with | [_, _], _ => rfl
    m_take := (ex_glob X G ce (x := "_law_take") (by decide +kernel))
    F_of := F2
    b_of := F2.binds (ps := ["_law_pot_here", "_law_some"]) fun _ _ _ _ _ _ us hl => match us, hl with | [_, _], _ => rfl
    m_of := (ex_glob X G ce (x := "_law_of") (by decide +kernel))
    F_any := F3
    b_any := F3.binds (ps := ["_law_pot_here"]) fun _ _ _ _ _ _ us hl => match us, hl with | [_], _ => rfl
    m_any := (ex_glob X G ce (x := "_law_any") (by decide +kernel))
    F_BadSize_init := F4
    F_BadWorth_init := F5
    F_BadMost_init := F6
    F_BadItems_init := F7
    F_BadWorld_init := F8
    F_BadSetup_init := F9
    F_BadStand_init := F10
    F_BadDeed_init := F11
    F_BadPlan_init := F12
    F_BadKinds_init := F13
    F_BadSteps_init := F14
    F_BadEnd_init := F15
    F_NoWork_init := F16
    F_BadValues_init := F17
    F_BadState_init := F18
    F_BadTape_init := F19
    F_BadStory_init := F20
    F_BadNames_init := F21
    F_BadPrices_init := F22
    F_BadDoing_init := F23
    F_NoKey_init := F24
    F_BadChecks_init := F25
    F_BadPlace_init := F26
    F_NoTape_init := F27
    F_NoName_init := F28
    F_BadThing_init := F29
    F_BadRoom_init := F30
    F_BadCommand_init := F31
    F_Fault_init := F32
    F_TooMany_init := F33
    F_BadLine_init := F34
    F_BadBytes_init := F35
    F_Wrong_init := F36
    F_made := F37
    b_made := F37.binds (ps := ["_law_thing"]) fun _ _ _ _ _ _ us hl => match us, hl with | [_], _ => rfl
    m_made := (ex_glob X G ce (x := "_law_made") (by decide +kernel))
    F_made_by_name := F38
    b_made_by_name := F38.binds (ps := ["_law_thing"]) fun _ _ _ _ _ _ us hl => match us, hl with | [_], _ => rfl
    m_made_by_name := (ex_glob X G ce (x := "_law_made_by_name") (by decide +kernel))
    F_first_marks := F39
    b_first_marks := F39.binds (ps := ["_law_e"]) fun _ _ _ _ _ _ us hl => match us, hl with | [_], _ => rfl
    m_first_marks := (ex_glob X G ce (x := "_law_first_marks") (by decide +kernel))
    F_later_marks := F40
    b_later_marks := F40.binds (ps := ["_law_e"]) fun _ _ _ _ _ _ us hl => match us, hl with | [_], _ => rfl
    m_later_marks := (ex_glob X G ce (x := "_law_later_marks") (by decide +kernel))
    F_marks := F41
    b_marks := F41.binds (ps := ["_law_error"]) fun _ _ _ _ _ _ us hl => match us, hl with | [_], _ => rfl
    m_marks := (ex_glob X G ce (x := "_law_marks") (by decide +kernel))
    F_others := F42
    b_others := F42.binds (ps := ["_law_thing"]) fun _ _ _ _ _ _ us hl => match us, hl with | [_], _ => rfl
    m_others := (ex_glob X G ce (x := "_law_others") (by decide +kernel))
    F_right := F43
    b_right := F43.binds (ps := ["_law_pot_here"]) fun _ _ _ _ _ _ us hl => match us, hl with | [_], _ => rfl
    m_right := (ex_glob X G ce (x := "_law_right") (by decide +kernel))
    F_law := F44
    b_law := F44.binds (ps := ["_law_script"]) fun _ _ _ _ _ _ us hl => match us, hl with | [_], _ => rfl
    m_law := (ex_glob X G ce (x := "law") (by decide +kernel))
    m_TapeError := (ex_glob X G ce (x := "TapeError") (by decide +kernel))
    m_BadSize := (ex_glob X G ce (x := "BadSize") (by decide +kernel))
    m_BadWorth := (ex_glob X G ce (x := "BadWorth") (by decide +kernel))
    m_BadMost := (ex_glob X G ce (x := "BadMost") (by decide +kernel))
    m_BadItems := (ex_glob X G ce (x := "BadItems") (by decide +kernel))
    m_BadWorld := (ex_glob X G ce (x := "BadWorld") (by decide +kernel))
    m_BadSetup := (ex_glob X G ce (x := "BadSetup") (by decide +kernel))
    m_BadStand := (ex_glob X G ce (x := "BadStand") (by decide +kernel))
    m_BadDeed := (ex_glob X G ce (x := "BadDeed") (by decide +kernel))
    m_BadPlan := (ex_glob X G ce (x := "BadPlan") (by decide +kernel))
    m_BadKinds := (ex_glob X G ce (x := "BadKinds") (by decide +kernel))
    m_BadSteps := (ex_glob X G ce (x := "BadSteps") (by decide +kernel))
    m_BadEnd := (ex_glob X G ce (x := "BadEnd") (by decide +kernel))
    m_NoWork := (ex_glob X G ce (x := "NoWork") (by decide +kernel))
    m_BadValues := (ex_glob X G ce (x := "BadValues") (by decide +kernel))
    m_BadState := (ex_glob X G ce (x := "BadState") (by decide +kernel))
    m_BadTape := (ex_glob X G ce (x := "BadTape") (by decide +kernel))
    m_BadStory := (ex_glob X G ce (x := "BadStory") (by decide +kernel))
    m_BadNames := (ex_glob X G ce (x := "BadNames") (by decide +kernel))
    m_BadPrices := (ex_glob X G ce (x := "BadPrices") (by decide +kernel))
    m_BadDoing := (ex_glob X G ce (x := "BadDoing") (by decide +kernel))
    m_NoKey := (ex_glob X G ce (x := "NoKey") (by decide +kernel))
    m_BadChecks := (ex_glob X G ce (x := "BadChecks") (by decide +kernel))
    m_BadPlace := (ex_glob X G ce (x := "BadPlace") (by decide +kernel))
    m_NoTape := (ex_glob X G ce (x := "NoTape") (by decide +kernel))
    m_NoName := (ex_glob X G ce (x := "NoName") (by decide +kernel))
    m_BadThing := (ex_glob X G ce (x := "BadThing") (by decide +kernel))
    m_BadRoom := (ex_glob X G ce (x := "BadRoom") (by decide +kernel))
    m_BadCommand := (ex_glob X G ce (x := "BadCommand") (by decide +kernel))
    m_Fault := (ex_glob X G ce (x := "Fault") (by decide +kernel))
    m_TooMany := (ex_glob X G ce (x := "TooMany") (by decide +kernel))
    m_BadLine := (ex_glob X G ce (x := "BadLine") (by decide +kernel))
    m_BadBytes := (ex_glob X G ce (x := "BadBytes") (by decide +kernel))
    m_Wrong := (ex_glob X G ce (x := "Wrong") (by decide +kernel))
    m_Empty := (ex_glob X G ce (x := "Empty") (by decide +kernel))
    m_NothingToUndo := (ex_glob X G ce (x := "NothingToUndo") (by decide +kernel))
    m_NothingToRedo := (ex_glob X G ce (x := "NothingToRedo") (by decide +kernel))
    g_int := ex_free X G ce (x := "int") (by decide +kernel)
    g_len := ex_free X G ce (x := "len") (by decide +kernel)
    g_abs := ex_free X G ce (x := "abs") (by decide +kernel)
    g_range := ex_free X G ce (x := "range") (by decide +kernel)
    g_isinstance := ex_free X G ce (x := "isinstance") (by decide +kernel)
    g_enumerate := ex_free X G ce (x := "enumerate") (by decide +kernel)
    g_repr := ex_free X G ce (x := "repr") (by decide +kernel)
    g_all := ex_free X G ce (x := "all") (by decide +kernel)
    g_ValueError := ex_free X G ce (x := "ValueError") (by decide +kernel)
    E_BadSize := errT_mk (excB_ok (er_at ce (c := ("BadSize", "value")) (by decide +kernel)).1) (er_at ce (c := ("BadSize", "value")) (by decide +kernel)).2 (F4.binds (ps := ["self", "value"]) fun _ _ _ _ _ _ us hl => match us, hl with | [_, _], _ => rfl) (kb_of F4 (fun _ _ _ _ _ _ _ _ => rfl)) (ex_glob X G ce (x := "BadSize") (by decide +kernel))
    E_BadWorth := errT_mk (excB_ok (er_at ce (c := ("BadWorth", "value")) (by decide +kernel)).1) (er_at ce (c := ("BadWorth", "value")) (by decide +kernel)).2 (F5.binds (ps := ["self", "value"]) fun _ _ _ _ _ _ us hl => match us, hl with | [_, _], _ => rfl) (kb_of F5 (fun _ _ _ _ _ _ _ _ => rfl)) (ex_glob X G ce (x := "BadWorth") (by decide +kernel))
    E_BadMost := errT_mk (excB_ok (er_at ce (c := ("BadMost", "value")) (by decide +kernel)).1) (er_at ce (c := ("BadMost", "value")) (by decide +kernel)).2 (F6.binds (ps := ["self", "value"]) fun _ _ _ _ _ _ us hl => match us, hl with | [_, _], _ => rfl) (kb_of F6 (fun _ _ _ _ _ _ _ _ => rfl)) (ex_glob X G ce (x := "BadMost") (by decide +kernel))
    E_BadItems := errT_mk (excB_ok (er_at ce (c := ("BadItems", "value")) (by decide +kernel)).1) (er_at ce (c := ("BadItems", "value")) (by decide +kernel)).2 (F7.binds (ps := ["self", "value"]) fun _ _ _ _ _ _ us hl => match us, hl with | [_, _], _ => rfl) (kb_of F7 (fun _ _ _ _ _ _ _ _ => rfl)) (ex_glob X G ce (x := "BadItems") (by decide +kernel))
    E_BadWorld := errT_mk (excB_ok (er_at ce (c := ("BadWorld", "value")) (by decide +kernel)).1) (er_at ce (c := ("BadWorld", "value")) (by decide +kernel)).2 (F8.binds (ps := ["self", "value"]) fun _ _ _ _ _ _ us hl => match us, hl with | [_, _], _ => rfl) (kb_of F8 (fun _ _ _ _ _ _ _ _ => rfl)) (ex_glob X G ce (x := "BadWorld") (by decide +kernel))
    E_BadSetup := errT_mk (excB_ok (er_at ce (c := ("BadSetup", "value")) (by decide +kernel)).1) (er_at ce (c := ("BadSetup", "value")) (by decide +kernel)).2 (F9.binds (ps := ["self", "value"]) fun _ _ _ _ _ _ us hl => match us, hl with | [_, _], _ => rfl) (kb_of F9 (fun _ _ _ _ _ _ _ _ => rfl)) (ex_glob X G ce (x := "BadSetup") (by decide +kernel))
    E_BadStand := errT_mk (excB_ok (er_at ce (c := ("BadStand", "value")) (by decide +kernel)).1) (er_at ce (c := ("BadStand", "value")) (by decide +kernel)).2 (F10.binds (ps := ["self", "value"]) fun _ _ _ _ _ _ us hl => match us, hl with | [_, _], _ => rfl) (kb_of F10 (fun _ _ _ _ _ _ _ _ => rfl)) (ex_glob X G ce (x := "BadStand") (by decide +kernel))
    E_BadDeed := errT_mk (excB_ok (er_at ce (c := ("BadDeed", "value")) (by decide +kernel)).1) (er_at ce (c := ("BadDeed", "value")) (by decide +kernel)).2 (F11.binds (ps := ["self", "value"]) fun _ _ _ _ _ _ us hl => match us, hl with | [_, _], _ => rfl) (kb_of F11 (fun _ _ _ _ _ _ _ _ => rfl)) (ex_glob X G ce (x := "BadDeed") (by decide +kernel))
    E_BadPlan := errT_mk (excB_ok (er_at ce (c := ("BadPlan", "value")) (by decide +kernel)).1) (er_at ce (c := ("BadPlan", "value")) (by decide +kernel)).2 (F12.binds (ps := ["self", "value"]) fun _ _ _ _ _ _ us hl => match us, hl with | [_, _], _ => rfl) (kb_of F12 (fun _ _ _ _ _ _ _ _ => rfl)) (ex_glob X G ce (x := "BadPlan") (by decide +kernel))
    E_BadKinds := errT_mk (excB_ok (er_at ce (c := ("BadKinds", "value")) (by decide +kernel)).1) (er_at ce (c := ("BadKinds", "value")) (by decide +kernel)).2 (F13.binds (ps := ["self", "value"]) fun _ _ _ _ _ _ us hl => match us, hl with | [_, _], _ => rfl) (kb_of F13 (fun _ _ _ _ _ _ _ _ => rfl)) (ex_glob X G ce (x := "BadKinds") (by decide +kernel))
    E_BadSteps := errT_mk (excB_ok (er_at ce (c := ("BadSteps", "value")) (by decide +kernel)).1) (er_at ce (c := ("BadSteps", "value")) (by decide +kernel)).2 (F14.binds (ps := ["self", "value"]) fun _ _ _ _ _ _ us hl => match us, hl with | [_, _], _ => rfl) (kb_of F14 (fun _ _ _ _ _ _ _ _ => rfl)) (ex_glob X G ce (x := "BadSteps") (by decide +kernel))
    E_BadEnd := errT_mk (excB_ok (er_at ce (c := ("BadEnd", "value")) (by decide +kernel)).1) (er_at ce (c := ("BadEnd", "value")) (by decide +kernel)).2 (F15.binds (ps := ["self", "value"]) fun _ _ _ _ _ _ us hl => match us, hl with | [_, _], _ => rfl) (kb_of F15 (fun _ _ _ _ _ _ _ _ => rfl)) (ex_glob X G ce (x := "BadEnd") (by decide +kernel))
    E_NoWork := errT_mk (excB_ok (er_at ce (c := ("NoWork", "value")) (by decide +kernel)).1) (er_at ce (c := ("NoWork", "value")) (by decide +kernel)).2 (F16.binds (ps := ["self", "value"]) fun _ _ _ _ _ _ us hl => match us, hl with | [_, _], _ => rfl) (kb_of F16 (fun _ _ _ _ _ _ _ _ => rfl)) (ex_glob X G ce (x := "NoWork") (by decide +kernel))
    E_BadValues := errT_mk (excB_ok (er_at ce (c := ("BadValues", "value")) (by decide +kernel)).1) (er_at ce (c := ("BadValues", "value")) (by decide +kernel)).2 (F17.binds (ps := ["self", "value"]) fun _ _ _ _ _ _ us hl => match us, hl with | [_, _], _ => rfl) (kb_of F17 (fun _ _ _ _ _ _ _ _ => rfl)) (ex_glob X G ce (x := "BadValues") (by decide +kernel))
    E_BadState := errT_mk (excB_ok (er_at ce (c := ("BadState", "value")) (by decide +kernel)).1) (er_at ce (c := ("BadState", "value")) (by decide +kernel)).2 (F18.binds (ps := ["self", "value"]) fun _ _ _ _ _ _ us hl => match us, hl with | [_, _], _ => rfl) (kb_of F18 (fun _ _ _ _ _ _ _ _ => rfl)) (ex_glob X G ce (x := "BadState") (by decide +kernel))
    E_BadTape := errT_mk (excB_ok (er_at ce (c := ("BadTape", "value")) (by decide +kernel)).1) (er_at ce (c := ("BadTape", "value")) (by decide +kernel)).2 (F19.binds (ps := ["self", "value"]) fun _ _ _ _ _ _ us hl => match us, hl with | [_, _], _ => rfl) (kb_of F19 (fun _ _ _ _ _ _ _ _ => rfl)) (ex_glob X G ce (x := "BadTape") (by decide +kernel))
    E_BadStory := errT_mk (excB_ok (er_at ce (c := ("BadStory", "value")) (by decide +kernel)).1) (er_at ce (c := ("BadStory", "value")) (by decide +kernel)).2 (F20.binds (ps := ["self", "value"]) fun _ _ _ _ _ _ us hl => match us, hl with | [_, _], _ => rfl) (kb_of F20 (fun _ _ _ _ _ _ _ _ => rfl)) (ex_glob X G ce (x := "BadStory") (by decide +kernel))
    E_BadNames := errT_mk (excB_ok (er_at ce (c := ("BadNames", "value")) (by decide +kernel)).1) (er_at ce (c := ("BadNames", "value")) (by decide +kernel)).2 (F21.binds (ps := ["self", "value"]) fun _ _ _ _ _ _ us hl => match us, hl with | [_, _], _ => rfl) (kb_of F21 (fun _ _ _ _ _ _ _ _ => rfl)) (ex_glob X G ce (x := "BadNames") (by decide +kernel))
    E_BadPrices := errT_mk (excB_ok (er_at ce (c := ("BadPrices", "value")) (by decide +kernel)).1) (er_at ce (c := ("BadPrices", "value")) (by decide +kernel)).2 (F22.binds (ps := ["self", "value"]) fun _ _ _ _ _ _ us hl => match us, hl with | [_, _], _ => rfl) (kb_of F22 (fun _ _ _ _ _ _ _ _ => rfl)) (ex_glob X G ce (x := "BadPrices") (by decide +kernel))
    E_BadDoing := errT_mk (excB_ok (er_at ce (c := ("BadDoing", "value")) (by decide +kernel)).1) (er_at ce (c := ("BadDoing", "value")) (by decide +kernel)).2 (F23.binds (ps := ["self", "value"]) fun _ _ _ _ _ _ us hl => match us, hl with | [_, _], _ => rfl) (kb_of F23 (fun _ _ _ _ _ _ _ _ => rfl)) (ex_glob X G ce (x := "BadDoing") (by decide +kernel))
    E_NoKey := errT_mk (excB_ok (er_at ce (c := ("NoKey", "value")) (by decide +kernel)).1) (er_at ce (c := ("NoKey", "value")) (by decide +kernel)).2 (F24.binds (ps := ["self", "value"]) fun _ _ _ _ _ _ us hl => match us, hl with | [_, _], _ => rfl) (kb_of F24 (fun _ _ _ _ _ _ _ _ => rfl)) (ex_glob X G ce (x := "NoKey") (by decide +kernel))
    E_BadChecks := errT_mk (excB_ok (er_at ce (c := ("BadChecks", "value")) (by decide +kernel)).1) (er_at ce (c := ("BadChecks", "value")) (by decide +kernel)).2 (F25.binds (ps := ["self", "value"]) fun _ _ _ _ _ _ us hl => match us, hl with | [_, _], _ => rfl) (kb_of F25 (fun _ _ _ _ _ _ _ _ => rfl)) (ex_glob X G ce (x := "BadChecks") (by decide +kernel))
    E_BadPlace := errT_mk (excB_ok (er_at ce (c := ("BadPlace", "value")) (by decide +kernel)).1) (er_at ce (c := ("BadPlace", "value")) (by decide +kernel)).2 (F26.binds (ps := ["self", "value"]) fun _ _ _ _ _ _ us hl => match us, hl with | [_, _], _ => rfl) (kb_of F26 (fun _ _ _ _ _ _ _ _ => rfl)) (ex_glob X G ce (x := "BadPlace") (by decide +kernel))
    E_NoTape := errT_mk (excB_ok (er_at ce (c := ("NoTape", "value")) (by decide +kernel)).1) (er_at ce (c := ("NoTape", "value")) (by decide +kernel)).2 (F27.binds (ps := ["self", "value"]) fun _ _ _ _ _ _ us hl => match us, hl with | [_, _], _ => rfl) (kb_of F27 (fun _ _ _ _ _ _ _ _ => rfl)) (ex_glob X G ce (x := "NoTape") (by decide +kernel))
    E_NoName := errT_mk (excB_ok (er_at ce (c := ("NoName", "value")) (by decide +kernel)).1) (er_at ce (c := ("NoName", "value")) (by decide +kernel)).2 (F28.binds (ps := ["self", "value"]) fun _ _ _ _ _ _ us hl => match us, hl with | [_, _], _ => rfl) (kb_of F28 (fun _ _ _ _ _ _ _ _ => rfl)) (ex_glob X G ce (x := "NoName") (by decide +kernel))
    E_BadThing := errT_mk (excB_ok (er_at ce (c := ("BadThing", "value")) (by decide +kernel)).1) (er_at ce (c := ("BadThing", "value")) (by decide +kernel)).2 (F29.binds (ps := ["self", "value"]) fun _ _ _ _ _ _ us hl => match us, hl with | [_, _], _ => rfl) (kb_of F29 (fun _ _ _ _ _ _ _ _ => rfl)) (ex_glob X G ce (x := "BadThing") (by decide +kernel))
    E_BadRoom := errT_mk (excB_ok (er_at ce (c := ("BadRoom", "value")) (by decide +kernel)).1) (er_at ce (c := ("BadRoom", "value")) (by decide +kernel)).2 (F30.binds (ps := ["self", "value"]) fun _ _ _ _ _ _ us hl => match us, hl with | [_, _], _ => rfl) (kb_of F30 (fun _ _ _ _ _ _ _ _ => rfl)) (ex_glob X G ce (x := "BadRoom") (by decide +kernel))
    E_BadCommand := errT_mk (excB_ok (er_at ce (c := ("BadCommand", "value")) (by decide +kernel)).1) (er_at ce (c := ("BadCommand", "value")) (by decide +kernel)).2 (F31.binds (ps := ["self", "value"]) fun _ _ _ _ _ _ us hl => match us, hl with | [_, _], _ => rfl) (kb_of F31 (fun _ _ _ _ _ _ _ _ => rfl)) (ex_glob X G ce (x := "BadCommand") (by decide +kernel))
    E_Fault := errT_mk (excB_ok (er_at ce (c := ("Fault", "words")) (by decide +kernel)).1) (er_at ce (c := ("Fault", "words")) (by decide +kernel)).2 (F32.binds (ps := ["self", "words"]) fun _ _ _ _ _ _ us hl => match us, hl with | [_, _], _ => rfl) (kb_of F32 (fun _ _ _ _ _ _ _ _ => rfl)) (ex_glob X G ce (x := "Fault") (by decide +kernel))
    E_TooMany := errT_mk (excB_ok (er_at ce (c := ("TooMany", "number")) (by decide +kernel)).1) (er_at ce (c := ("TooMany", "number")) (by decide +kernel)).2 (F33.binds (ps := ["self", "number"]) fun _ _ _ _ _ _ us hl => match us, hl with | [_, _], _ => rfl) (kb_of F33 (fun _ _ _ _ _ _ _ _ => rfl)) (ex_glob X G ce (x := "TooMany") (by decide +kernel))
    E_BadLine := errT_mk (excB_ok (er_at ce (c := ("BadLine", "number")) (by decide +kernel)).1) (er_at ce (c := ("BadLine", "number")) (by decide +kernel)).2 (F34.binds (ps := ["self", "number"]) fun _ _ _ _ _ _ us hl => match us, hl with | [_, _], _ => rfl) (kb_of F34 (fun _ _ _ _ _ _ _ _ => rfl)) (ex_glob X G ce (x := "BadLine") (by decide +kernel))
    E_BadBytes := errT_mk (excB_ok (er_at ce (c := ("BadBytes", "at")) (by decide +kernel)).1) (er_at ce (c := ("BadBytes", "at")) (by decide +kernel)).2 (F35.binds (ps := ["self", "at"]) fun _ _ _ _ _ _ us hl => match us, hl with | [_, _], _ => rfl) (kb_of F35 (fun _ _ _ _ _ _ _ _ => rfl)) (ex_glob X G ce (x := "BadBytes") (by decide +kernel))
    E_Wrong := errT_mk (excB_ok (er_at ce (c := ("Wrong", "story")) (by decide +kernel)).1) (er_at ce (c := ("Wrong", "story")) (by decide +kernel)).2 (F36.binds (ps := ["self", "story"]) fun _ _ _ _ _ _ us hl => match us, hl with | [_, _], _ => rfl) (kb_of F36 (fun _ _ _ _ _ _ _ _ => rfl)) (ex_glob X G ce (x := "Wrong") (by decide +kernel))
    x_Empty := (ze_at ce (c := "Empty") (by decide +kernel)).1
    k_Empty := errB0_keep (ze_at ce (c := "Empty") (by decide +kernel)).2
    x_NothingToUndo := (ze_at ce (c := "NothingToUndo") (by decide +kernel)).1
    k_NothingToUndo := errB0_keep (ze_at ce (c := "NothingToUndo") (by decide +kernel)).2
    x_NothingToRedo := (ze_at ce (c := "NothingToRedo") (by decide +kernel)).1
    k_NothingToRedo := errB0_keep (ze_at ce (c := "NothingToRedo") (by decide +kernel)).2
    er := (List.forall_mem_cons.mpr ⟨(errT_mk_er (er_at ce (c := ("BadSize", "value")) (by decide +kernel)).2), (List.forall_mem_cons.mpr ⟨(errT_mk_er (er_at ce (c := ("BadWorth", "value")) (by decide +kernel)).2), (List.forall_mem_cons.mpr ⟨(errT_mk_er (er_at ce (c := ("BadMost", "value")) (by decide +kernel)).2), (List.forall_mem_cons.mpr ⟨(errT_mk_er (er_at ce (c := ("BadItems", "value")) (by decide +kernel)).2), (List.forall_mem_cons.mpr ⟨(errT_mk_er (er_at ce (c := ("BadWorld", "value")) (by decide +kernel)).2), (List.forall_mem_cons.mpr ⟨(errT_mk_er (er_at ce (c := ("BadSetup", "value")) (by decide +kernel)).2), (List.forall_mem_cons.mpr ⟨(errT_mk_er (er_at ce (c := ("BadStand", "value")) (by decide +kernel)).2), (List.forall_mem_cons.mpr ⟨(errT_mk_er (er_at ce (c := ("BadDeed", "value")) (by decide +kernel)).2), (List.forall_mem_cons.mpr ⟨(errT_mk_er (er_at ce (c := ("BadPlan", "value")) (by decide +kernel)).2), (List.forall_mem_cons.mpr ⟨(errT_mk_er (er_at ce (c := ("BadKinds", "value")) (by decide +kernel)).2), (List.forall_mem_cons.mpr ⟨(errT_mk_er (er_at ce (c := ("BadSteps", "value")) (by decide +kernel)).2), (List.forall_mem_cons.mpr ⟨(errT_mk_er (er_at ce (c := ("BadEnd", "value")) (by decide +kernel)).2), (List.forall_mem_cons.mpr ⟨(errT_mk_er (er_at ce (c := ("NoWork", "value")) (by decide +kernel)).2), (List.forall_mem_cons.mpr ⟨(errT_mk_er (er_at ce (c := ("BadValues", "value")) (by decide +kernel)).2), (List.forall_mem_cons.mpr ⟨(errT_mk_er (er_at ce (c := ("BadState", "value")) (by decide +kernel)).2), (List.forall_mem_cons.mpr ⟨(errT_mk_er (er_at ce (c := ("BadTape", "value")) (by decide +kernel)).2), (List.forall_mem_cons.mpr ⟨(errT_mk_er (er_at ce (c := ("BadStory", "value")) (by decide +kernel)).2), (List.forall_mem_cons.mpr ⟨(errT_mk_er (er_at ce (c := ("BadNames", "value")) (by decide +kernel)).2), (List.forall_mem_cons.mpr ⟨(errT_mk_er (er_at ce (c := ("BadPrices", "value")) (by decide +kernel)).2), (List.forall_mem_cons.mpr ⟨(errT_mk_er (er_at ce (c := ("BadDoing", "value")) (by decide +kernel)).2), (List.forall_mem_cons.mpr ⟨(errT_mk_er (er_at ce (c := ("NoKey", "value")) (by decide +kernel)).2), (List.forall_mem_cons.mpr ⟨(errT_mk_er (er_at ce (c := ("BadChecks", "value")) (by decide +kernel)).2), (List.forall_mem_cons.mpr ⟨(errT_mk_er (er_at ce (c := ("BadPlace", "value")) (by decide +kernel)).2), (List.forall_mem_cons.mpr ⟨(errT_mk_er (er_at ce (c := ("NoTape", "value")) (by decide +kernel)).2), (List.forall_mem_cons.mpr ⟨(errT_mk_er (er_at ce (c := ("NoName", "value")) (by decide +kernel)).2), (List.forall_mem_cons.mpr ⟨(errT_mk_er (er_at ce (c := ("BadThing", "value")) (by decide +kernel)).2), (List.forall_mem_cons.mpr ⟨(errT_mk_er (er_at ce (c := ("BadRoom", "value")) (by decide +kernel)).2), (List.forall_mem_cons.mpr ⟨(errT_mk_er (er_at ce (c := ("BadCommand", "value")) (by decide +kernel)).2), (List.forall_mem_cons.mpr ⟨(errT_mk_er (er_at ce (c := ("Fault", "words")) (by decide +kernel)).2), (List.forall_mem_cons.mpr ⟨(errT_mk_er (er_at ce (c := ("TooMany", "number")) (by decide +kernel)).2), (List.forall_mem_cons.mpr ⟨(errT_mk_er (er_at ce (c := ("BadLine", "number")) (by decide +kernel)).2), (List.forall_mem_cons.mpr ⟨(errT_mk_er (er_at ce (c := ("BadBytes", "at")) (by decide +kernel)).2), (List.forall_mem_cons.mpr ⟨(errT_mk_er (er_at ce (c := ("Wrong", "story")) (by decide +kernel)).2), (List.forall_mem_cons.mpr ⟨(errB0_er (ze_at ce (c := "Empty") (by decide +kernel)).2), (List.forall_mem_cons.mpr ⟨(errB0_er (ze_at ce (c := "NothingToUndo") (by decide +kernel)).2), (List.forall_mem_cons.mpr ⟨(errB0_er (ze_at ce (c := "NothingToRedo") (by decide +kernel)).2), (fun _ h => nomatch h)⟩)⟩)⟩)⟩)⟩)⟩)⟩)⟩)⟩)⟩)⟩)⟩)⟩)⟩)⟩)⟩)⟩)⟩)⟩)⟩)⟩)⟩)⟩)⟩)⟩)⟩)⟩)⟩)⟩)⟩)⟩)⟩)⟩)⟩)⟩)⟩)
    kit := mroB_kit (ex_mro ce)
    kte := mroB_te (ex_mro ce)
    kve := mroB_ve (ex_mro ce)
    nd := mroB_nd (ex_mro ce) }
  refine ⟨_, fun s v => ?_, fun base _ _ => ok_law T⟩
  obtain ⟨oc, od, kV, doc, pm, an, cdv, ct, osl, e2, lk, hcd⟩ := F44.ex
  rw [e2]
  exact .of_eq rfl
end K99
open PySem PySem.W PyProof.Rows
set_option maxRecDepth 100000 in
set_option maxHeartbeats 0 in
theorem PySem.Challenge.cw_tapedonce_k99_errors_made_with_any_value_holds : PySem.Challenge.rw_tapedonce_k99_errors_made_with_any_value.Holds := by
  w_on; o_law
  refine HandSHeadRun.head_any (r := OpenLaw.row PySem.Challenge.rw_tapedonce_k99_errors_made_with_any_value) (q := view (OpenLaw.row PySem.Challenge.rw_tapedonce_k99_errors_made_with_any_value).prog [50]) (H := HX.hookX 5 K99.ex K99.fnl) (ob := HX.obT 5 K99.ex K99.fnl) (M := 9400) (loose := K99.names) (d := HandSHeadRun.topDef (OpenLaw.row PySem.Challenge.rw_tapedonce_k99_errors_made_with_any_value).prog 50) (kwd := []) HX.obT_eq
    (by kernel_rfl) (fun s => by kernel_rfl) K99.run (by kernel_rfl) (by kernel_rfl) (by kernel_rfl) (by rfl) (by first | assumption | decide +kernel) (by decide +kernel) ⟨rfl, rfl, rfl, rfl, rfl, by decide +kernel⟩ ?hw ?hc
  case hw => w_witness2
  case hc =>
    refine HX.walk_GX (l := PySem.Challenge.rw_tapedonce_k99_errors_made_with_any_value) (n := 63) (k := 5) (x := "_law_script") (CX := fun _ => L2.CX0) rfl (by decide) (by kernel_rfl) ⟨rfl, by decide, by decide⟩ ?F (fun _ _ _ _ _ z => z)
    intro w mg fa h Y G hmg0
    obtain ⟨K, KX, c⟩ := Y
    have hmg : mg ("law" : PySem.Str) = some (.ref fa) := by
      have e : (HandSHeadRun.topDef (OpenLaw.row PySem.Challenge.rw_tapedonce_k99_errors_made_with_any_value).prog 50).name = ("law" : PySem.Str) := by kernel_rfl
      rw [← e]
      exact hmg0
    obtain ⟨fd, hb, hF⟩ := K99.facts (P := (PySem.Challenge.rw_tapedonce_k99_errors_made_with_any_value).prog) (w := w) KX G hmg c
    exact ⟨K, fd, [], K99.spLaw K, KX, (fun _ h => nomatch h), (fun _ h => nomatch h), hb, fun H a ns hl hS _ => ⟨a, ns, rfl, hS, hl, fun _ => rfl⟩, fun base hK hN _ => hF base hK hN⟩


