import PyProof.Rows.All
import Wide.All
import OpenK.AllK
import Wide.FinOn
import PyProof.EqAt
import PyProof.EqKinds
import PyProof.TupleCall
import PyProof.NeKinds
import PyProof.TwoTypesSub
import HandS.Base
import HandS.Call
import HandS.List
import KE.KOpsOwn
import PyProof.ReprRoads
import PyProof.AutoIntOps
import HandS.Words
import HandS.Ends
import HandS.Comp
import HandS.Lambda
import HandS.Exc
import HandS.ExcInit
import HandS.ExcOwn
import HandS.ExcField
import HandS.IsInst
import HandS.Property
import HandS.Dict
import HandS.Iter
import HandS.WordsExc
import HandS.WordsDict
import HandS.WordsList
import HandS.MakeKw
import PyProof.ReprLen
import HandS.ExcIs
import HandS.ExcValue
import KE.KExcIs
import HandS.MakeKwOnly
import HandS.Walk
import HandS.EndTab
import HandS.SetFor
import HandS.Head0
import HandS.Head1
import HandS.Head2
import HandS.HeadHook1
import HandS.HeadHook2
import PySem.Challenge.RW_tapedonce_k03_what_makes_no_row_and_faul
set_option Elab.async false
set_option linter.all false
set_option maxRecDepth 100000
set_option maxHeartbeats 4400000
/-! operators between instances of an own class and ints, both ways -/
namespace HX
open PySem PySem.W PySem.Spec PySem.Calls PyProof.Rows
/-- the builtin declines the plain object at x -/
def Decl (B : Builtin) : Prop := ∀ (i : Int) (t : Tok) (x : Addr) (c : Value) (dd : Option Addr) (sl : Array (Option Value)),
  Meets (B ⟨[.int i t, .ref x], []⟩) (fun _ R s => s.heap.get? x = some { cls := c, dict := dd, data := .plain, slots := sl } ∧ R (.ok (.ret .notImplemented)) s)
theorem decl_add : Decl Builtin.«int.__add__» := fun i t x c dd sl => .of_wp fun prog w A R s h => by obtain ⟨hp, g, d, tk, os⟩ := s; obtain ⟨hl, h⟩ := h; wp_walk using AutoSeq1.wpAny_loadPart' hl, wpAny_load hl; exact ⟨_, rfl, h⟩
theorem decl_sub : Decl Builtin.«int.__sub__» := fun i t x c dd sl => .of_wp fun prog w A R s h => by obtain ⟨hp, g, d, tk, os⟩ := s; obtain ⟨hl, h⟩ := h; wp_walk using AutoSeq1.wpAny_loadPart' hl, wpAny_load hl; exact ⟨_, rfl, h⟩
theorem decl_mul : Decl Builtin.«int.__mul__» := fun i t x c dd sl => .of_wp fun prog w A R s h => by obtain ⟨hp, g, d, tk, os⟩ := s; obtain ⟨hl, h⟩ := h; wp_walk using AutoSeq1.wpAny_loadPart' hl, wpAny_load hl; exact ⟨_, rfl, h⟩
theorem decl_floordiv : Decl Builtin.«int.__floordiv__» := fun i t x c dd sl => .of_wp fun prog w A R s h => by obtain ⟨hp, g, d, tk, os⟩ := s; obtain ⟨hl, h⟩ := h; wp_walk using AutoSeq1.wpAny_loadPart' hl, wpAny_load hl; exact ⟨_, rfl, h⟩
theorem decl_eq : Decl Builtin.«int.__eq__» := fun i t x c dd sl => .of_wp fun prog w A R s h => by obtain ⟨hp, g, d, tk, os⟩ := s; obtain ⟨hl, h⟩ := h; wp_walk using AutoSeq1.wpAny_loadPart' hl, wpAny_load hl; exact ⟨_, rfl, h⟩
theorem decl_ne : Decl Builtin.«int.__ne__» := fun i t x c dd sl => .of_wp fun prog w A R s h => by obtain ⟨hp, g, d, tk, os⟩ := s; obtain ⟨hl, h⟩ := h; wp_walk using AutoSeq1.wpAny_loadPart' hl, wpAny_load hl; exact ⟨_, rfl, h⟩
theorem decl_lt : Decl Builtin.«int.__lt__» := fun i t x c dd sl => .of_wp fun prog w A R s h => by obtain ⟨hp, g, d, tk, os⟩ := s; obtain ⟨hl, h⟩ := h; wp_walk using AutoSeq1.wpAny_loadPart' hl, wpAny_load hl; exact ⟨_, rfl, h⟩
theorem decl_le : Decl Builtin.«int.__le__» := fun i t x c dd sl => .of_wp fun prog w A R s h => by obtain ⟨hp, g, d, tk, os⟩ := s; obtain ⟨hl, h⟩ := h; wp_walk using AutoSeq1.wpAny_loadPart' hl, wpAny_load hl; exact ⟨_, rfl, h⟩
theorem decl_gt : Decl Builtin.«int.__gt__» := fun i t x c dd sl => .of_wp fun prog w A R s h => by obtain ⟨hp, g, d, tk, os⟩ := s; obtain ⟨hl, h⟩ := h; wp_walk using AutoSeq1.wpAny_loadPart' hl, wpAny_load hl; exact ⟨_, rfl, h⟩
theorem decl_ge : Decl Builtin.«int.__ge__» := fun i t x c dd sl => .of_wp fun prog w A R s h => by obtain ⟨hp, g, d, tk, os⟩ := s; obtain ⟨hl, h⟩ := h; wp_walk using AutoSeq1.wpAny_loadPart' hl, wpAny_load hl; exact ⟨_, rfl, h⟩
end HX
set_option Elab.async false
set_option linter.all false
set_option maxRecDepth 100000
set_option maxHeartbeats 4400000
namespace HX
open PySem PySem.W PySem.Spec PySem.Calls PyProof.Rows
section
variable {prog : Program} {w : World} {A : Around} {E : Value → Shared → Prop} {s : Shared} {K : Frag} {x C L f g : Addr} {h₀ : Heap} {m : Str → Option Value} {ox : Obj} {od : Option Obj}
theorem looks_nip {M : Model} {h : Heap} {nm : String} (X : K.In h) (hs : findIn K (.ref C) (PySem.dunder nm) = some (some (.ref f))) (hr : findIn K (.ref C) (dunderR nm) = some (some (.ref g))) : Looks M h (numberSlotInPython (.ref C) nm) true := by
  intro A Q E s k q
  unfold numberSlotInPython
  refine wpAny_bind (looks_findIn X hs A _ E s k (wpAny_bind (wpAny_pure ?_)))
  refine wpAny_bind (looks_findIn X hr A _ E s k (wpAny_bind (wpAny_pure ?_)))
  simp only [Bool.or_true, if_true]
  exact wpAny_pure q
theorem binop1_KI {nm : String} {i : Int} {t : Tok} {idr : String} {Q : Option Value → Shared → Prop} (F : Fr h₀ L s.heap m) (X₀ : K.In h₀) (I : InstAt s.heap x ox C od) (hc : selfFirst K C = true)
    (hs : findIn K (.ref C) (PySem.dunder nm) = some (some (.ref f))) (hf : isFn K (.ref f) = true) (hr : findIn K (.ref C) (dunderR nm) = some (some (.ref g)))
    (hfi : fillsNumberSlot (.type "int") nm = pure true) (hni : subIn K (.type "int") (.ref C) = some false) (hri : typeLookup (.type "int") (dunderR nm) = pure (some (.builtin idr)))
    (h : wpAny (model prog w) A (call (.ref f) [.ref x, .int i t]) (W.CmpBack fun v s' => Q (some v) s') E s) : wpAny (model prog w) A (binaryOp1 nm (.ref x) (.int i t)) Q E s := by
  have X := X₀.keeps F.keep
  obtain ⟨cd, rest, hcd, hm⟩ := ksp_first hc
  have hpy : numberSlotInPython (.type "int") nm = pure false := rfl
  have hne : (Value.ref C == Value.type "int") = false := by simp
  unfold binaryOp1
  refine wpAny_bind (I.type.here (wpAny_bind (wpAny_typeOf (typeIs_int s i t) (wpAny_bind ((fills_K X hcd hm hs).here ?_))))); simp only [hne, Bool.false_eq_true, if_false]
  refine wpAny_bind (wpAny_of_eq hfi ?_); simp only [Bool.and_self, if_true]
  refine wpAny_bind ((looks_subIn X hni).here ?_)
  simp only [Bool.false_eq_true, if_false, pure_bind, Bool.not_false, Bool.and_self, if_true]
  refine wpAny_bind ((looks_nip X hs hr).here ?_)
  simp only [hpy, pure_bind, if_true, Bool.not_false]
  refine wpAny_bind (wpAny_of_eq hri ?_)
  unfold tryMethod
  refine wpAny_bind (wpAny_bind (special_fn X I hs (beq_iff_eq.mp hf) (wpAny_mono h (fun v s' hv => ?_) fun _ _ e => e)))
  cases v <;> first | exact hv.elim | exact wpAny_pure (wpAny_pure hv)
theorem binop_KI {op : Operator} {i : Int} {t : Tok} {idr : String} {Q : Value → Shared → Prop} (F : Fr h₀ L s.heap m) (X₀ : K.In h₀) (I : InstAt s.heap x ox C od) (hc : selfFirst K C = true)
    (hs : findIn K (.ref C) (PySem.dunder op.info.2) = some (some (.ref f))) (hf : isFn K (.ref f) = true) (hr : findIn K (.ref C) (dunderR op.info.2) = some (some (.ref g)))
    (hfi : fillsNumberSlot (.type "int") op.info.2 = pure true) (hni : subIn K (.type "int") (.ref C) = some false) (hri : typeLookup (.type "int") (dunderR op.info.2) = pure (some (.builtin idr)))
    (h : wpAny (model prog w) A (call (.ref f) [.ref x, .int i t]) (W.CmpBack Q) E s) : wpAny (model prog w) A (binaryOp op (.ref x) (.int i t)) Q E s := by
  unfold binaryOp; refine wpAny_holding (wpAny_bind ?_)
  refine binop1_KI F X₀ I hc hs hf hr hfi hni hri (wpAny_mono h (fun v s' hv => ?_) fun _ _ e => e)
  cases v <;> first | exact hv.elim | exact wpAny_pure hv
/-- int op instance: the reflected method -/
theorem binop1_IK {nm : String} {i : Int} {t : Tok} {id : String} {B : Builtin} {Q : Option Value → Shared → Prop} (F : Fr h₀ L s.heap m) (X₀ : K.In h₀) (I : InstAt s.heap x ox C od) (hp : ox.data = .plain) (hc : selfFirst K C = true)
    (hs : findIn K (.ref C) (PySem.dunder nm) = some (some (.ref g))) (hr : findIn K (.ref C) (dunderR nm) = some (some (.ref f))) (hf : isFn K (.ref f) = true)
    (hfi : fillsNumberSlot (.type "int") nm = pure true) (hni : subIn K (.ref C) (.type "int") = some false) (slot : Slot "int" (PySem.dunder nm) id) (entry : entryFor table id = some B) (args : ∀ a b, argsOk id ⟨[a, b], []⟩) (D : Decl B)
    (h : wpAny (model prog w) A (call (.ref f) [.ref x, .int i t]) (W.CmpBack fun v s' => Q (some v) s') E s) : wpAny (model prog w) A (binaryOp1 nm (.int i t) (.ref x)) Q E s := by
  have X := X₀.keeps F.keep
  obtain ⟨cd, rest, hcd, hm⟩ := ksp_first hc
  have hpy : numberSlotInPython (.type "int") nm = pure false := rfl
  have hne : (Value.type "int" == Value.ref C) = false := by simp
  obtain ⟨oc, odd, odt, osl⟩ := ox
  simp only at hp
  subst hp
  have hx := I.at_
  unfold binaryOp1
  refine wpAny_bind (wpAny_typeOf (typeIs_int s i t) (wpAny_bind (I.type.here (wpAny_bind (wpAny_of_eq hfi ?_))))); simp only [hne, Bool.false_eq_true, if_false]
  refine wpAny_bind ((fills_K X hcd hm hs).here ?_); simp only [Bool.and_self, if_true]
  refine wpAny_bind ((looks_subIn X hni).here ?_); simp only [hpy, Bool.false_eq_true, if_false, pure_bind, Bool.not_false, Bool.and_self, if_true]
  refine wpAny_bind (wpAny_tryMethod_declines (typeIs_int s i t) slot (call_meets slot (typeIs_int s i t) entry (args _ _) (D i t x _ _ _) ⟨hx, ?_⟩))
  refine ⟨rfl, ?_⟩
  unfold tryMethod
  refine wpAny_bind (wpAny_bind (special_fn X I hr (beq_iff_eq.mp hf) (wpAny_mono h (fun v s' hv => ?_) fun _ _ e => e)))
  cases v <;> first | exact hv.elim | exact wpAny_pure (wpAny_bind (wpAny_rule (wpAny_pure hv)))
theorem binop_IK {op : Operator} {i : Int} {t : Tok} {id : String} {B : Builtin} {Q : Value → Shared → Prop} (F : Fr h₀ L s.heap m) (X₀ : K.In h₀) (I : InstAt s.heap x ox C od) (hp : ox.data = .plain) (hc : selfFirst K C = true)
    (hs : findIn K (.ref C) (PySem.dunder op.info.2) = some (some (.ref g))) (hr : findIn K (.ref C) (dunderR op.info.2) = some (some (.ref f))) (hf : isFn K (.ref f) = true)
    (hfi : fillsNumberSlot (.type "int") op.info.2 = pure true) (hni : subIn K (.ref C) (.type "int") = some false) (slot : Slot "int" (PySem.dunder op.info.2) id) (entry : entryFor table id = some B) (args : ∀ a b, argsOk id ⟨[a, b], []⟩) (D : Decl B)
    (h : wpAny (model prog w) A (call (.ref f) [.ref x, .int i t]) (W.CmpBack Q) E s) : wpAny (model prog w) A (binaryOp op (.int i t) (.ref x)) Q E s := by
  unfold binaryOp; refine wpAny_holding (wpAny_bind ?_)
  refine binop1_IK F X₀ I hp hc hs hr hf hfi hni slot entry args D (wpAny_mono h (fun v s' hv => ?_) fun _ _ e => e)
  cases v <;> first | exact hv.elim | exact wpAny_pure hv
/-- int < instance: the reflected comparison -/
theorem cmp_IK {op : CmpOp} {i : Int} {t : Tok} {id : String} {B : Builtin} {Q : Value → Shared → Prop} (hu : A.units < cLine) (F : Fr h₀ L s.heap m) (X₀ : K.In h₀) (I : InstAt s.heap x ox C od) (hp : ox.data = .plain)
    (hr : findIn K (.ref C) (cmpInfo op).2.2 = some (some (.ref f))) (hf : isFn K (.ref f) = true) (hni : subIn K (.ref C) (.type "int") = some false)
    (slot : Slot "int" (cmpInfo op).2.1 id) (entry : entryFor table id = some B) (args : ∀ a b, argsOk id ⟨[a, b], []⟩) (D : Decl B)
    (h : wpAny (model prog w) A (call (.ref f) [.ref x, .int i t]) (W.CmpBack Q) E s) : wpAny (model prog w) A (richCompare op (.int i t) (.ref x)) Q E s := by
  have X := X₀.keeps F.keep
  have hne : (Value.type "int" != Value.ref C) = true := by simp
  obtain ⟨oc, odd, odt, osl⟩ := ox
  simp only at hp
  subst hp
  have hx := I.at_
  have one : wpAny (model prog w) A (tryCompare (.ref x) (cmpInfo op).2.2 (.int i t)) (fun r s' => ∃ v, r = some v ∧ Q v s') E s := by
    unfold tryCompare
    refine wpAny_bind (ifBound_K X I hr hf (wpAny_mono h (fun v s' hv => ?_) fun _ _ e => e)); cases v <;> first | exact hv.elim | exact wpAny_pure ⟨_, rfl, hv⟩
  unfold richCompare
  have ho : oneThing? op (.int i t) (.ref x) = none := by cases op <;> rfl
  simp only [ho]; refine wpAny_holding (wpAny_bind (wpAny_cRoomFor hu ?_))
  refine wpAny_bind (wpAny_typeOf (typeIs_int s i t) (wpAny_bind (I.type.here ?_)))
  rw [if_pos hne]
  refine wpAny_bind ((looks_subIn X hni).here ?_); simp only [Bool.false_eq_true, if_false, Bool.not_false, if_true]
  refine wpAny_bind (wpAny_tryCompare_declines (typeIs_int s i t) slot (call_meets slot (typeIs_int s i t) entry (args _ _) (D i t x _ _ _) ⟨hx, ?_⟩))
  refine ⟨rfl, wpAny_bind (wpAny_mono one (fun r s' z => ?_) fun _ _ e => e)⟩
  obtain ⟨v, rfl, hq⟩ := z
  exact wpAny_pure hq
end
end HX
set_option Elab.async false
set_option linter.all false
set_option maxRecDepth 100000
set_option maxHeartbeats 4400000
namespace HX
open L2 PyProof.Rows PySem.Spec PySem
section
variable {X : Cx}
/-- what stands behind a method's call is never NotImplemented -/
theorem ep_back {pins : List (Addr × Obj)} {σ : L2.St} {Q : VK} {u : Value} {s' : Shared} (h : EP X pins σ Q u s') : PySem.W.CmpBack (EP X pins σ Q) u s' := by
  have h' := h
  obtain ⟨v, H', I', r, q⟩ := h
  have ne : u ≠ .notImplemented := by
    intro z
    subst z
    cases v <;> first | (obtain ⟨t, z⟩ := r; cases z; done) | cases r
  cases u <;> first | exact absurd rfl ne | exact h'
/-- the facts of an int's operator -/
structure IntOp (op : Operator) : Prop where
  fi : fillsNumberSlot (.type "int") op.info.2 = pure true
  ri : ∃ idr, typeLookup (.type "int") (dunderR op.info.2) = pure (some (.builtin idr))
  le : ∃ (id : String) (B : Builtin), Slot "int" (PySem.dunder op.info.2) id ∧ entryFor table id = some B ∧ (∀ a b, argsOk id ⟨[a, b], []⟩) ∧ Decl B
theorem io_add : IntOp .Add := ⟨F.fills_int_add, ⟨_, F.slot_int_radd.lookup⟩, _, _, F.slot_int_add, F.entry_int_add, F.args_int_add_2, decl_add⟩
theorem io_sub : IntOp .Sub := ⟨F.fills_int_sub, ⟨_, F.slot_int_rsub.lookup⟩, _, _, F.slot_int_sub, F.entry_int_sub, F.args_int_sub_2, decl_sub⟩
theorem io_mul : IntOp .Mult := ⟨F.fills_int_mul, ⟨_, F.slot_int_rmul.lookup⟩, _, _, F.slot_int_mul, F.entry_int_mul, F.args_int_mul_2, decl_mul⟩
theorem io_fdv : IntOp .FloorDiv := ⟨F.fills_int_floordiv, ⟨_, F.slot_int_rfloordiv.lookup⟩, _, _, F.slot_int_floordiv, F.entry_int_floordiv, F.args_int_floordiv_2, decl_floordiv⟩
structure IntCmp (op : CmpOp) : Prop where
  le : ∃ (id : String) (B : Builtin), Slot "int" (cmpInfo op).2.1 id ∧ entryFor table id = some B ∧ (∀ a b, argsOk id ⟨[a, b], []⟩) ∧ Decl B
theorem ic_eq : IntCmp .Eq := ⟨_, _, F.slot_int_eq, F.entry_int_eq, F.args_int_eq_2, decl_eq⟩
theorem ic_ne : IntCmp .NotEq := ⟨_, _, F.slot_int_ne, F.entry_int_ne, F.args_int_ne_2, decl_ne⟩
theorem ic_lt : IntCmp .Lt := ⟨_, _, F.slot_int_lt, F.entry_int_lt, F.args_int_lt_2, decl_lt⟩
theorem ic_le : IntCmp .LtE := ⟨_, _, F.slot_int_le, F.entry_int_le, F.args_int_le_2, decl_le⟩
theorem ic_gt : IntCmp .Gt := ⟨_, _, F.slot_int_gt, F.entry_int_gt, F.args_int_gt_2, decl_gt⟩
theorem ic_ge : IntCmp .GtE := ⟨_, _, F.slot_int_ge, F.entry_int_ge, F.args_int_ge_2, decl_ge⟩
/-- the class's own operator and its reflected one -/
structure ArC (K : PySem.W.Frag) (C : Addr) (op : Operator) (f g : Addr) : Prop where
  sf : PySem.W.selfFirst K C = true
  hs : PySem.W.findIn K (.ref C) (PySem.dunder op.info.2) = some (some (.ref f))
  hf : PySem.W.isFn K (.ref f) = true
  hr : PySem.W.findIn K (.ref C) (dunderR op.info.2) = some (some (.ref g))
  hg : PySem.W.isFn K (.ref g) = true
  n1 : PySem.W.subIn K (.type "int") (.ref C) = some false
  n2 : PySem.W.subIn K (.ref C) (.type "int") = some false
def isI (C : Addr) (H : Hp) (x : V) : Prop := ∃ a dx fs, x = .ref a ∧ H a = some (.ins C dx fs)
theorem isI_inst {pins : List (Addr × Obj)} {σ : L2.St} {H : Hp} {s : Shared} {C a dx : Addr} {fs : List (Str × V)} (I : Inv X pins σ H s) (e : H a = some (.ins C dx fs)) : ∃ od, PySem.W.InstAt s.heap a (PySem.W.instObj C dx) C od := by
  obtain ⟨mA, O, _⟩ := ins_get I.hok e
  obtain ⟨od, J, _⟩ := O.look
  exact ⟨_, J⟩
/-- x op y, one of the two at least an instance of the class at C, the other one too, or an int -/
def rOwn (C : Addr) (sp spR : Sp) (E : XK) : R2 := fun x y H Q => (isI C H x ∧ (isI C H y ∨ ∃ i, y = .int i) ∧ sp [x, y] H Q E) ∨ (isI C H y ∧ (∃ i, x = .int i) ∧ spR [y, x] H Q E)
theorem op_own {op : Operator} {CX : CXT} {C f g : Addr} {k : Nat} {fd gd : FuncData} {ps ps' : List Str} {sp spR : Sp} {E : XK} (IO : IntOp op) (T : ArC X.K C op f g) (F1 : FnOk X.prog X.w X.K X.mg X.base CX k f fd ps sp) (b1 : Binds X.K fd ps [])
    (F2 : FnOk X.prog X.w X.K X.mg X.base CX k g gd ps' spR) (b2 : Binds X.K gd ps' []) (hr : Room k X.A) (hx : Passes CX X E) : OpR X (binaryOp op) (rOwn C sp spR E) := by
  intro pins s σ H x y v u; intro Q I rx ry h
  obtain ⟨m, hF⟩ := I.fr
  rcases h with ⟨⟨a, dx, fs, rfl, ea⟩, hy, q⟩ | ⟨⟨b, dx, fs, rfl, eb⟩, ⟨i, rfl⟩, q⟩
  · obtain ⟨od, J⟩ := isI_inst I ea
    cases (id rx : v = Value.ref a)
    rcases hy with ⟨b, dy, gs, rfl, eb⟩ | ⟨i, rfl⟩
    · obtain ⟨od', J'⟩ := isI_inst I eb
      cases (id ry : u = Value.ref b)
      exact PySem.W.binop_K hF I.ok.mod.kin J J'.type T.sf T.hs T.hf (thn (run_fn (us := [.ref a, .ref b]) (vs := [.ref a, .ref b]) F1 hr b1 .nil hx I (.cons rfl (.cons rfl .nil)) q) fun u s' z => ep_back z)
    · obtain ⟨t, e⟩ := (show ∃ t, u = Value.int i t from ry)
      subst e
      obtain ⟨idr, ri⟩ := IO.ri
      exact binop_KI hF I.ok.mod.kin J T.sf T.hs T.hf T.hr IO.fi T.n1 ri (thn (run_fn (us := [.ref a, .int i t]) (vs := [.ref a, .int i]) F1 hr b1 .nil hx I (.cons rfl (.cons ⟨t, rfl⟩ .nil)) q) fun u s' z => ep_back z)
  · obtain ⟨od, J⟩ := isI_inst I eb
    cases (id ry : u = Value.ref b)
    obtain ⟨t, e⟩ := (show ∃ t, v = Value.int i t from rx)
    subst e
    obtain ⟨id, B, sl, en, ar, D⟩ := IO.le
    exact binop_IK hF I.ok.mod.kin J rfl T.sf T.hs T.hr T.hg IO.fi T.n2 sl en ar D (thn (run_fn (us := [.ref b, .int i t]) (vs := [.ref b, .int i]) F2 hr b2 .nil hx I (.cons rfl (.cons ⟨t, rfl⟩ .nil)) q) fun u s' z => ep_back z)
structure CmC (K : PySem.W.Frag) (C : Addr) (op : CmpOp) (f g : Addr) : Prop where
  hs : PySem.W.findIn K (.ref C) (cmpInfo op).2.1 = some (some (.ref f))
  hf : PySem.W.isFn K (.ref f) = true
  hr : PySem.W.findIn K (.ref C) (cmpInfo op).2.2 = some (some (.ref g))
  hg : PySem.W.isFn K (.ref g) = true
  nc : PySem.W.notFirst K C (.ref C) = true
  n1 : PySem.W.notFirst K C (.type "int") = true
  n2 : PySem.W.subIn K (.ref C) (.type "int") = some false
theorem op_cmpW {op : CmpOp} {CX : CXT} {C f g : Addr} {k : Nat} {fd gd : FuncData} {ps ps' : List Str} {sp spR : Sp} {E : XK} (IO : IntCmp op) (T : CmC X.K C op f g) (F1 : FnOk X.prog X.w X.K X.mg X.base CX k f fd ps sp) (b1 : Binds X.K fd ps [])
    (F2 : FnOk X.prog X.w X.K X.mg X.base CX k g gd ps' spR) (b2 : Binds X.K gd ps' []) (hr : Room k X.A) (hx : Passes CX X E) : OpR X (richCompare op) (rOwn C sp spR E) := by
  intro pins s σ H x y v u; intro Q I rx ry h
  obtain ⟨m, hF⟩ := I.fr
  have hu := hr.units0
  rcases h with ⟨⟨a, dx, fs, rfl, ea⟩, hy, q⟩ | ⟨⟨b, dx, fs, rfl, eb⟩, ⟨i, rfl⟩, q⟩
  · obtain ⟨od, J⟩ := isI_inst I ea
    cases (id rx : v = Value.ref a)
    rcases hy with ⟨b, dy, gs, rfl, eb⟩ | ⟨i, rfl⟩
    · obtain ⟨od', J'⟩ := isI_inst I eb
      cases (id ry : u = Value.ref b)
      exact PySem.W.cmp_K hu hF I.ok.mod.kin J J'.type T.nc T.hs T.hf (thn (run_fn (us := [.ref a, .ref b]) (vs := [.ref a, .ref b]) F1 hr b1 .nil hx I (.cons rfl (.cons rfl .nil)) q) fun u s' z => ep_back z)
    · obtain ⟨t, e⟩ := (show ∃ t, u = Value.int i t from ry)
      subst e
      exact PySem.W.cmp_K hu hF I.ok.mod.kin J (fun A Q E s k q => wpAny_typeOf (typeIs_int s i t) q) T.n1 T.hs T.hf (thn (run_fn (us := [.ref a, .int i t]) (vs := [.ref a, .int i]) F1 hr b1 .nil hx I (.cons rfl (.cons ⟨t, rfl⟩ .nil)) q) fun u s' z => ep_back z)
  · obtain ⟨od, J⟩ := isI_inst I eb
    cases (id ry : u = Value.ref b)
    obtain ⟨t, e⟩ := (show ∃ t, v = Value.int i t from rx)
    subst e
    obtain ⟨id, B, sl, en, ar, D⟩ := IO.le
    exact cmp_IK hu hF I.ok.mod.kin J rfl T.hr T.hg T.n2 sl en ar D (thn (run_fn (us := [.ref b, .int i t]) (vs := [.ref b, .int i]) F2 hr b2 .nil hx I (.cons rfl (.cons ⟨t, rfl⟩ .nil)) q) fun u s' z => ep_back z)
/-- -x of an own class -/
def rNegO (C : Addr) (sp : Sp) (E : XK) : V → Hp → VK → Prop := fun x H Q => isI C H x ∧ sp [x] H Q E
theorem un_negO {CX : CXT} {C f : Addr} {k : Nat} {fd : FuncData} {ps : List Str} {sp : Sp} {E : XK} (hs : PySem.W.findIn X.K (.ref C) "__neg__" = some (some (.ref f))) (hf : PySem.W.isFn X.K (.ref f) = true) (F1 : FnOk X.prog X.w X.K X.mg X.base CX k f fd ps sp)
    (b1 : Binds X.K fd ps []) (hr : Room k X.A) (hx : Passes CX X E) : UnR X (unaryOp .USub) (rNegO C sp E) := by
  intro pins s σ H x v Q I rx h
  obtain ⟨m, hF⟩ := I.fr
  obtain ⟨⟨a, dx, fs, rfl, ea⟩, q⟩ := h
  obtain ⟨od, J⟩ := isI_inst I ea
  cases (id rx : v = Value.ref a)
  exact PySem.W.ksp_neg hF I.ok.mod.kin J hs hf (run_fn (us := [.ref a]) (vs := [.ref a]) F1 hr b1 .nil hx I (.cons rfl .nil) q)
end
end HX
set_option Elab.async false
set_option linter.all false
set_option maxRecDepth 100000
set_option maxHeartbeats 4400000
namespace HX
open L2 PyProof.Rows PySem.Spec PySem
/-- a def's promise where no repr is under way around the call -/
structure FnG (P : Program) (w : World) (K : PySem.W.Frag) (mg : Str → Option Value) (base : Heap) (CX : CXT) (k : Nat) (f : Addr) (fd : FuncData) (ps : List Str) (sp : Sp) : Prop where
  ln : ∀ vs H Q E, sp vs H Q E → vs.length = ps.length
  go : ∀ (A : Around) (outer : List Env) (s : Shared) (H : Hp) (args : Args) (us : List Value) (vs : List V) (Q : VK) (E : XK), A.guards = some [] → Room k A → Env0 P w K mg base A outer s H → BindsTo s fd args (ps.zip us) → Vals vs us →
    sp vs H Q E → codeAny (model P w) A (.call (.ref f) args) (CR CX outer P w H s Q E) s
theorem FnG.of {P : Program} {w : World} {K : PySem.W.Frag} {mg : Str → Option Value} {base : Heap} {CX : CXT} {k : Nat} {f : Addr} {fd : FuncData} {ps : List Str} {sp : Sp} (F : FnOk P w K mg base CX k f fd ps sp) : FnG P w K mg base CX k f fd ps sp :=
  ⟨F.len, fun A o s H args us vs Q E _ => F.run A o s H args us vs Q E⟩
/-- a def by its body, for FnG; exceptions may leave -/
theorem okG {CX : CXT} {P : Program} {w : World} {K : PySem.W.Frag} {mg : Str → Option Value} {base : Heap} {x qual : Str} {st : Stmt} {f : Addr} {fd : FuncData} {N ps : List Str} {k : Nat} {sp : Sp} (F : Fun K x qual st f fd) (S : FnScope N ps (defScope st)) (len : ∀ vs H Q E, sp vs H Q E → vs.length = ps.length)
    (hbody : ∀ (cdv : Value) (A : Around) (outer : List Env) (s : Shared) (H : Hp) (vs : List V) (Q : VK) (E : XK), A.guards = some [] → Room k (A.deeper (envOfC qual (defScope st) s.heap.objs.size f cdv)) → sp vs H Q E →
      ∃ t, PSs (cxOf CX P w K mg base N qual (defScope st) f cdv A outer s H E) (defBody st) t ∧ t { nx := fun _ H' => Q .non H', rt := Q } (L2.start N vs) H) : FnG P w K mg base CX (k + 1) f fd ps sp := by
  let ⟨oc, od, kV, doc, pm, an, cdv, ct, osl, e0, lk, hcd⟩ := F.ex; subst e0
  exact ⟨len, fun A o s H args us vs Q E hg hr e0 hb r hsp => LamX.run_ofS lk hcd S hr e0 hb r (len _ _ _ _ hsp) fun hr' => hbody cdv A o s H vs Q E hg hr' hsp⟩
/-- .. no exception leaves -/
theorem okG0 {P : Program} {w : World} {K : PySem.W.Frag} {mg : Str → Option Value} {base : Heap} {x qual : Str} {st : Stmt} {f : Addr} {fd : FuncData} {N ps : List Str} {k : Nat} {sp : Sp} (F : Fun K x qual st f fd) (S : FnScope N ps (defScope st)) (len : ∀ vs H Q E, sp vs H Q E → vs.length = ps.length)
    (hbody : ∀ (cdv : Value) (A : Around) (outer : List Env) (s : Shared) (H : Hp) (vs : List V) (Q : VK) (E : XK), A.guards = some [] → Room k (A.deeper (envOfC qual (defScope st) s.heap.objs.size f cdv)) → sp vs H Q E →
      ∃ t, PSs (cxOf CX0 P w K mg base N qual (defScope st) f cdv A outer s H E).nox (defBody st) t ∧ t { nx := fun _ H' => Q .non H', rt := Q } (L2.start N vs) H) : FnG P w K mg base CX0 (k + 1) f fd ps sp :=
  okG F S len fun cdv A outer s H vs Q E hg hr h => let ⟨t, p, q⟩ := hbody cdv A outer s H vs Q E hg hr h; ⟨t, p.nox, q⟩
section
variable {sp : Sp} {CX : CXT} {X : Cx} {k : Nat} {f C : Addr} {fd : FuncData} {ps : List Str} {dvs : List V} {ds : List Value} {E : XK} {x m : Str} {p pos apos : Pos} {e o : Expr} {es : List Expr} {ta : TE} {t : TA}
theorem run_g {pins : List (Addr × Obj)} {σ : L2.St} {H : Hp} {s : Shared} {Q : VK} {us : List Value} {vs : List V} (hgd : X.A.guards = some []) (F : FnG X.prog X.w X.K X.mg X.base CX k f fd ps sp) (hr : Room k X.A) (hb : Binds X.K fd ps ds) (hd : Vals dvs ds) (hx : Passes CX X E)
    (I : L2.Inv X pins σ H s) (r : Vals vs us) (h : sp (vs ++ dvs) H Q E) : wpAny (model X.prog X.w) X.A (call (.ref f) us) (EP X pins σ Q) X.xe s := by
  have rr : Vals (vs ++ dvs) (us ++ ds) := r.append hd; have hl : (us ++ ds).length = ps.length := rr.length.symm.trans (F.ln _ _ _ _ h)
  refine wpAny_call (codeAny_mono (F.go X.A X.stack s H ⟨us, []⟩ (us ++ ds) (vs ++ dvs) Q E hgd hr I.env0 (hb s us I.kIn hl) rr h) fun z s' hq => ?_)
  match z, hq with
  | .error er, hq => exact hx pins σ H s er s' I hq
  | .ok (.ret u), hq => exact I.after hq
  | .ok .next, hq => exact False.elim hq
  | .ok .brk, hq => exact False.elim hq
  | .ok .cont, hq => exact False.elim hq
theorem pe_callG (hgd : X.A.guards = some []) (F : FnG X.prog X.w X.K X.mg X.base CX k f fd ps sp) (hr : Room k X.A) (hg : Gl X x) (hm : X.mg x = some (.ref f)) (hk : PySem.W.keepIn X.K (.ref f) = true) (hb : Binds X.K fd ps ds) (hd : Vals dvs ds) (hx : Passes CX X E) (ha : PA X (e :: es) t)
    (hdb : (x == ("__debug__" : Str)) = false := by decide) (he : starEach (e :: es) X.env = (false, eval e X.env) :: starEach es X.env := by rfl) (hpl : (backTo pos (starEach es X.env)).any (·.1) = false := by rfl) :
    PE X (.Call (.Name x p) (e :: es) [] pos) (tCall sp dvs E t) := ⟨fun pins s σ H Q I h => wpAny_Call_Name_kw (ld_glob I hg hm (PySem.W.callWith_K (h₀ := X.base) I.ok.mod.kin hk (thn (ha.run pos pins s σ H _ I h) fun us s1 z => by
      obtain ⟨vs, H1, I1, r, q⟩ := z; exact ⟨I1.kIn, run_g hgd F hr hb hd hx I1 r q⟩) he hpl) hdb)⟩
end
/-- data at any depth, dicts too -/
inductive Dq (K : PySem.W.Frag) (H : Hp) : V → PyData → Prop
  | non : Dq K H .non .none
  | bl (b : Bool) : Dq K H (.bl b) (.bool b)
  | int (i : Int) : Dq K H (.int i) (.int i)
  | str (x : Str) : Dq K H (.str x) (.str x)
  | lst {a : Addr} {xs : List V} {ds : List PyData} : SqL K H a xs → xs.length = ds.length → (∀ (i : Nat) (v : V) (d : PyData), xs[i]? = some v → ds[i]? = some d → Dq K H v d) → Dq K H (.ref a) (.list ds)
  | tup {a : Addr} {xs : List V} {ds : List PyData} : SqT K H a xs → xs.length = ds.length → (∀ (i : Nat) (v : V) (d : PyData), xs[i]? = some v → ds[i]? = some d → Dq K H v d) → Dq K H (.ref a) (.tuple ds)
section
variable {H : Hp} {X : Cx} {σ : L2.St} {pins : List (Addr × Obj)} {s : Shared}
theorem readsAll_of {h : Heap} : ∀ {us : List Value} {ds : List PyData}, us.length = ds.length → (∀ (i : Nat) (u : Value) (d : PyData), us[i]? = some u → ds[i]? = some d → ∃ as, Reads h u d as) → ∃ as, ReadsAll h us ds as
  | [], [], _, _ => ⟨_, .nil⟩
  | [], _ :: _, z, _ | _ :: _, [], z, _ => by simp at z
  | u :: us, d :: ds, hl, h => by
    obtain ⟨as, q1⟩ := h 0 u d rfl rfl
    obtain ⟨bs, q2⟩ := readsAll_of (us := us) (ds := ds) (by simpa using hl) fun i u d e1 e2 => h (i + 1) u d (by simpa using e1) (by simpa using e2)
    exact ⟨_, .cons q1 q2⟩
theorem Dq.reads (I : L2.Inv X pins σ H s) {v : V} {d : PyData} (h : Dq X.K H v d) : ∀ u, RelV v u → ∃ as, Reads s.heap u d as := by
  induction h with
  | non => intro u r; cases r; exact ⟨_, .none⟩
  | bl b => intro u r; cases r; exact ⟨_, .bool b⟩
  | int i => intro u r; obtain ⟨t, rfl⟩ := r; exact ⟨_, .int i t⟩
  | str x => intro u r; obtain ⟨t, rfl⟩ := r; exact ⟨_, .str x t⟩
  | @lst a xs ds hs hl hi ih =>
    intro u r
    cases r
    obtain ⟨its, rv, ⟨o, m, ho, hc, _, hd⟩, _⟩ := I.list hs
    obtain ⟨as, q⟩ := readsAll_of (h := s.heap) (us := its) (ds := ds) (rv.length.symm.trans hl) fun i u d e1 e2 => by
      obtain ⟨v, hv⟩ : ∃ v, xs[i]? = some v := ⟨_, List.getElem?_eq_getElem (by have := (List.getElem?_eq_some_iff.mp e1).1; rw [rv.length]; exact this)⟩
      obtain ⟨u', hu, ru⟩ := rv.get hv; rw [e1] at hu; cases hu
      exact ih i v d hv e2 u ru
    exact ⟨_, .list ho hc hd q⟩
  | @tup a xs ds hs hl hi ih =>
    intro u r
    cases r
    obtain ⟨its, rv, ⟨o, ho, hc, m, hd⟩, _⟩ := I.tuple hs
    obtain ⟨as, q⟩ := readsAll_of (h := s.heap) (us := its) (ds := ds) (rv.length.symm.trans hl) fun i u d e1 e2 => by
      obtain ⟨v, hv⟩ : ∃ v, xs[i]? = some v := ⟨_, List.getElem?_eq_getElem (by have := (List.getElem?_eq_some_iff.mp e1).1; rw [rv.length]; exact this)⟩
      obtain ⟨u', hu, ru⟩ := rv.get hv; rw [e1] at hu; cases hu
      exact ih i v d hv e2 u ru
    exact ⟨_, .tuple ho hc hd q⟩
end
section
variable {X : Cx}
/-- repr of such data -/
def rRepr (K : PySem.W.Frag) : List V → Hp → VK → Prop := fun xs H Q => ∃ v d, xs = [v] ∧ Dq K H v d ∧ d.showable = true ∧ d.hasDict = false ∧ d.depth ≤ 60 ∧ d.shown.length ≤ sizeLine ∧ Q (.str d.shown) H
theorem call_reprD (hgd : X.A.guards = some []) (hu : X.A.units + 64 < cLine) : CallR X (.builtin "repr") (rRepr X.K) := by
  intro pins s σ H xs us; intro Q I r h
  obtain ⟨v, d, rfl, hd, hs, hn, hp, hz, q⟩ := h
  cases r with
  | cons r1 r2 =>
    cases r2
    rename_i u
    obtain ⟨as, hr⟩ := hd.reads I u r1
    have fin : ∀ h' t tk, (∀ b o, s.heap.get? b = some o → h'.get? b = some o) → EP X pins σ Q (.str d.shown t) { s with heap := h', toks := tk } := fun h' t tk k => ⟨.str d.shown, H, I.kept k, ⟨_, rfl⟩, q⟩
    cases hr with
    | none => exact PySem.P.repr_of_none (fin _ _ _ fun _ _ z => z)
    | bool b => exact PySem.P.repr_of_bool (fin _ _ _ fun _ _ z => z)
    | int i t => exact PySem.P.repr_of_int (by simpa [PyData.showable] using hs) (fin _ _ _ fun _ _ z => z)
    | str x t => exact PySem.P.repr_of_str (fin _ _ _ fun _ _ z => z)
    | list h1 h2 h3 h4 => exact repr_of_reads' (.list h1 h2 h3 h4) hs (fun z => by rw [hn] at z; cases z) hgd (by omega) (fun _ _ z => z) (fun h' u tk k => fin h' u tk k) hz
    | tuple h1 h2 h3 h4 => exact repr_of_reads' (.tuple h1 h2 h3 h4) hs (fun z => by rw [hn] at z; cases z) hgd (by omega) (fun _ _ z => z) (fun h' u tk k => fin h' u tk k) hz
    | dict h1 h2 h3 h4 h5 => simp [PyData.hasDict] at hn
end
end HX
set_option Elab.async false
set_option linter.all false
set_option maxRecDepth 100000
set_option maxHeartbeats 4400000
namespace HX
open L2 PyProof.Rows PySem.Spec PySem
theorem ints_vals : ∀ {vs : List Value} {ns : List Int}, IntsAre vs ns → Vals (ns.map V.int) vs
  | _, _, .nil => Paired.nil
  | _, _, .cons n t h => Paired.cons ⟨t, rfl⟩ (ints_vals h)
/-- the law's call from its promise (a def that may be called where no repr is under way); H: the script alone, or nothing -/
theorem lawG_core {P : Program} {w : World} {K : PySem.W.Frag} {mg mb : Str → Option Value} {CX : CXT} {k : Nat} {fa a : Addr} {fd : FuncData} {x : Str} {sp : Sp} {s1 : Shared} {vs : List Value} {H : Hp}
    (KX : K.In s1.heap) (hns : s1.heap.Ns mainGlobals mg) (hb : s1.heap.Ns builtinsNs mb) (hbb : ∀ x : Str, x ≠ "__name__" → mb x = bootBuiltins x) (hlim : s1.heap.NoLimit) (hg : s1.gens = #[])
    (ha : s1.heap.get? a = some { cls := .type "list", data := .seq vs.toArray }) (hr : Room k callerA)
    (F : ∀ base : Heap, K.In base → base.Ns mainGlobals mg → FnG P w K mg base CX k fa fd [x] sp) (hbind : ∀ (s : Shared) (u : Value), BindsTo s fd ⟨[u], []⟩ [(x, u)])
    (hsp : sp [.ref a] H (fun v _ => v = .bl true) fun _ _ _ => False) (hCX : ∀ e s', CX [] H s1 (fun _ _ _ => False) e s' → False)
    (hO : ∀ b u, H b = some u → b = a ∧ ∃ o xs, u = .frz o (.lst xs)) (hok : HOk P w H s1.heap) (hK : ∀ u, H a = some u → K.lookup a = none) :
    codeAny (model P w) callerA (.call (.ref fa) ⟨[.ref a], []⟩) (fun r s' => r = .ok (.ret (.bool true)) ∧ OldK s1.heap s'.heap ∧ s'.os = s1.os ∧ AllBare s'.gens) s1 := by
  have un : ∀ {b : Addr}, b ≠ a → H b = none := fun {b} z => by
    cases q : H b with
    | none => rfl
    | some u => exact absurd (hO b u q).1 z
  have nsK : ∀ {b : Addr} {m : Str → Option Value}, s1.heap.Ns b m → (hidT s1.heap H).Ns b m := fun {b m} ⟨o, es, ep, e, d, r⟩ => by
    refine ⟨o, es, ep, hidT_get e (un fun z => ?_), d, r⟩
    rw [z, ha] at e
    cases e
    cases d
  have inB : K.In (hidT s1.heap H) := fun b o e => hidT_get (KX b o e) (by
    cases q : H b with
    | none => rfl
    | some u =>
      have y := (hO b u q).1
      subst y
      have y2 : K.lookup b = none := hK u q
      rw [show K.lookup b = some o from e] at y2
      cases y2)
  obtain ⟨mc, l1, l2⟩ := hlim
  have e0 : Env0 P w K mg (hidT s1.heap H) callerA [] s1 H := ⟨rfl, ⟨inB, nsK hns, ⟨mb, nsK hb, hbb⟩, ⟨mc, nsK l1, l2⟩⟩, fun b o e => of_hidT e, Nat.le_of_eq (hidT_size _ _), trivial, fun b z => absurd (show b ∈ ([] : List Addr) from z) List.not_mem_nil, hok, .of_eq hg⟩
  refine codeAny_mono ((F _ inB (nsK hns)).go callerA [] s1 H ⟨[.ref a], []⟩ [.ref a] [.ref a] _ _ rfl hr e0 (hbind s1 (.ref a)) (.cons rfl .nil) hsp) fun r s' h => ?_
  match r, h with
  | .error e, h => exact (hCX e s' h).elim
  | .ok .next, h => exact False.elim h
  | .ok .brk, h => exact False.elim h
  | .ok .cont, h => exact False.elim h
  | .ok (.ret u), h =>
    obtain ⟨v, H', os, bare, U, hok', r', q⟩ := h
    obtain rfl : v = .bl true := q
    have ru : u = Value.bool true := r'; subst ru; refine ⟨rfl, OldK.of_keep fun b o e => ?_, os, bare⟩
    cases q : H b with
    | none => exact U.keep b o e q (fun z => absurd (show b ∈ ([] : List Addr) from z) List.not_mem_nil) List.not_mem_nil
    | some u =>
      obtain ⟨_, ob, xs, z⟩ := hO b u q
      subst z
      have y1 := (hok b _ q).1
      have y2 := (hok' b _ (U.frzs b ob _ q)).1
      rw [e] at y1
      cases y1
      exact y2
theorem walk_G {l : PySem.W.OpenLaw} {n k : Nat} {q : Program} {loose : List Str} {XP : (Str → Option Value) → Heap → Prop} {YP : World → Heap → Prop} {d : DefRec} {K : Params → PySem.W.Frag} {CX : World → CXT} {sp : World → Sp} {x : Str}
    (hn : l.most = some n) (hn2 : n ≤ sizeLine) (hdf : d.params.defaults = []) (hr : Room k callerA) (hY : ∀ (v : World) (h : Heap), YP v h → (K v.params).In h)
    (F : ∀ (w : World) (m : Str → Option Value) (fa : Addr) (h : Heap), (K w.params).In h → h.Ns mainGlobals m → m d.name = some (.ref fa) →
      ∃ fd : FuncData, (∀ (s : Shared) (u : Value), BindsTo s fd ⟨[u], []⟩ [(x, u)]) ∧ ∀ base : Heap, (K w.params).In base → base.Ns mainGlobals m → FnG l.prog w (K w.params) m base (CX w) k fa fd [x] (sp w))
    (hsp : ∀ (w : World) (H : Hp) (a : Addr) (ns : List Int), ns.length ≤ n → SqL (K w.params) H a (ns.map V.int) → (∀ b u, H b = some u → b = a) → sp w [.ref a] H (fun v _ => v = .bl true) fun _ _ _ => False)
    (hCX : ∀ (w : World) (G : Hp) (s : Shared) (e : Value) (s' : Shared), CX w [] G s (fun _ _ _ => False) e s' → False) : PySem.W.WalkO q loose XP YP l.row.toRowW d [] (fun f vs => PySem.call f vs) := by
  refine Att.attach_call hn hdf fun w s0 s1 mg mb fa o pm cd doc a vs ns G Y ho hd hcd hmg hobj hints hlen hgen => ?_
  have KX := hY w _ Y; obtain ⟨fd, hb, hF⟩ := F w mg fa _ KX G.T.g hmg
  have rv := ints_vals hints; have lv := hints.length
  cases hk : (K w.params).lookup a with
  | some o' =>
    have e := KX a o' hk
    rw [hobj] at e
    cases e
    exact lawG_core (H := fun _ => none) KX G.T.g G.T.b G.T.builtins G.T.nolimit hgen hobj hr hF hb (hsp w _ a ns hlen (.inr ⟨_, vs.toArray, _, hk, rfl, rfl, rfl, by rw [List.size_toArray, lv]; exact Nat.le_trans hlen hn2, by simpa using rv⟩) fun b u z => by cases z)
      (fun e s' => hCX w _ s1 e s') (fun b u z => by cases z) (fun b u z => by cases z) fun u z => by cases z
  | none =>
    have at_ : ∀ {b u}, (fun b => if b = a then some (HO.frz { cls := .type "list", data := .seq vs.toArray } (.lst (ns.map V.int))) else none) b = some u → b = a ∧ u = HO.frz { cls := .type "list", data := .seq vs.toArray } (.lst (ns.map V.int)) := fun {b u} z => by
      by_cases hba : b = a
      · exact ⟨hba, (Option.some.inj ((if_pos hba).symm.trans z)).symm⟩
      · exact absurd ((if_neg hba).symm.trans z) (fun y => nomatch y)
    refine lawG_core (H := fun b => if b = a then some (.frz { cls := .type "list", data := .seq vs.toArray } (.lst (ns.map V.int))) else none) KX G.T.g G.T.b G.T.builtins G.T.nolimit hgen hobj hr hF hb
      (hsp w _ a ns hlen (.inl (.inr ⟨_, if_pos rfl⟩)) fun b u z => (at_ z).1) (fun e s' => hCX w _ s1 e s') (fun b u z => ⟨(at_ z).1, _, _, (at_ z).2⟩) (fun b u z => ?_) fun _ _ => hk
    obtain ⟨e1, e2⟩ := at_ z
    subst e1
    subst e2
    exact ⟨hobj, by rw [List.length_map]; exact Nat.le_trans hlen hn2, vs, _, rv, hobj⟩
end HX
set_option Elab.async false
set_option linter.all false
set_option maxRecDepth 100000
set_option maxHeartbeats 4400000
namespace HX
open L2 PyProof.Rows PySem.Spec PySem
section
variable {X : Cx} {CX : CXT} {C f g : Addr} {k : Nat} {fd gd : FuncData} {ps ps' : List Str} {sp spR : Sp} {E : XK}
theorem op_eqN (T : CmC X.K C .Eq f g) (F1 : FnOk X.prog X.w X.K X.mg X.base CX k f fd ps sp) (b1 : Binds X.K fd ps []) (F2 : FnOk X.prog X.w X.K X.mg X.base CX k g gd ps' spR) (b2 : Binds X.K gd ps' []) (hr : Room k X.A) (hx : Passes CX X E) :
    OpR X (compareOp .Eq) (rOwn C sp spR E) := fun pins s σ H x y v u Q I rx ry h => op_cmpW ic_eq T F1 b1 F2 b2 hr hx pins s σ H x y v u Q I rx ry h
theorem op_neN (T : CmC X.K C .NotEq f g) (F1 : FnOk X.prog X.w X.K X.mg X.base CX k f fd ps sp) (b1 : Binds X.K fd ps []) (F2 : FnOk X.prog X.w X.K X.mg X.base CX k g gd ps' spR) (b2 : Binds X.K gd ps' []) (hr : Room k X.A) (hx : Passes CX X E) :
    OpR X (compareOp .NotEq) (rOwn C sp spR E) := fun pins s σ H x y v u Q I rx ry h => op_cmpW ic_ne T F1 b1 F2 b2 hr hx pins s σ H x y v u Q I rx ry h
theorem op_ltN (T : CmC X.K C .Lt f g) (F1 : FnOk X.prog X.w X.K X.mg X.base CX k f fd ps sp) (b1 : Binds X.K fd ps []) (F2 : FnOk X.prog X.w X.K X.mg X.base CX k g gd ps' spR) (b2 : Binds X.K gd ps' []) (hr : Room k X.A) (hx : Passes CX X E) :
    OpR X (compareOp .Lt) (rOwn C sp spR E) := fun pins s σ H x y v u Q I rx ry h => op_cmpW ic_lt T F1 b1 F2 b2 hr hx pins s σ H x y v u Q I rx ry h
theorem op_leN (T : CmC X.K C .LtE f g) (F1 : FnOk X.prog X.w X.K X.mg X.base CX k f fd ps sp) (b1 : Binds X.K fd ps []) (F2 : FnOk X.prog X.w X.K X.mg X.base CX k g gd ps' spR) (b2 : Binds X.K gd ps' []) (hr : Room k X.A) (hx : Passes CX X E) :
    OpR X (compareOp .LtE) (rOwn C sp spR E) := fun pins s σ H x y v u Q I rx ry h => op_cmpW ic_le T F1 b1 F2 b2 hr hx pins s σ H x y v u Q I rx ry h
theorem op_gtN (T : CmC X.K C .Gt f g) (F1 : FnOk X.prog X.w X.K X.mg X.base CX k f fd ps sp) (b1 : Binds X.K fd ps []) (F2 : FnOk X.prog X.w X.K X.mg X.base CX k g gd ps' spR) (b2 : Binds X.K gd ps' []) (hr : Room k X.A) (hx : Passes CX X E) :
    OpR X (compareOp .Gt) (rOwn C sp spR E) := fun pins s σ H x y v u Q I rx ry h => op_cmpW ic_gt T F1 b1 F2 b2 hr hx pins s σ H x y v u Q I rx ry h
theorem op_geN (T : CmC X.K C .GtE f g) (F1 : FnOk X.prog X.w X.K X.mg X.base CX k f fd ps sp) (b1 : Binds X.K fd ps []) (F2 : FnOk X.prog X.w X.K X.mg X.base CX k g gd ps' spR) (b2 : Binds X.K gd ps' []) (hr : Room k X.A) (hx : Passes CX X E) :
    OpR X (compareOp .GtE) (rOwn C sp spR E) := fun pins s σ H x y v u Q I rx ry h => op_cmpW ic_ge T F1 b1 F2 b2 hr hx pins s σ H x y v u Q I rx ry h
/-- i ** j, of an i that is neither -1, 0 nor 1, the result below 2 ^ 100000 -/
def CPowW (i j : Int) : Prop := 2 ≤ i ∧ 0 < j ∧ Builtin.Int.intTooBig (((Builtin.Int.intBits i : Nat) : Int) * j) = false
theorem op_powW : OpR X (binaryOp .Pow) (rI CPowW fun i j => .int (i ^ j.toNat)) := opI fun i j t u s Q E hc q => by
  obtain ⟨h1, h2, h3⟩ := hc
  have h4 : ¬ ((i == 0 || i == 1) = true) := by simp; omega
  have h5 : ¬ ((i == -1) = true) := by simp; omega
  exact AutoIntOps.pow_4 (by omega) (by simp; omega) h4 h5 (by rw [h3]; decide) q
end
/-- all that was known is known -/
abbrev Ex (H H' : Hp) : Prop := ∀ a o, H a = some o → H' a = some o
/-- .. but what stood at p -/
abbrev XB (p : Addr) (H H' : Hp) : Prop := ∀ a o, a ≠ p → H a = some o → H' a = some o
theorem Ex.rf (H : Hp) : Ex H H := fun _ _ h => h
theorem Ex.tr {H H1 H2 : Hp} (a : Ex H H1) (b : Ex H1 H2) : Ex H H2 := fun c o h => b c o (a c o h)
theorem Ex.nw {H : Hp} {p : Addr} {o : HO} (h : H p = none) : Ex H (upd H p o) := fun a u e => by rw [upd_ne (ne_of_none e h)]; exact e
theorem Ex.fr {H H' : Hp} {p : Addr} (e : Ex H H') (h : H' p = none) : H p = none := by
  cases q : H p with
  | none => rfl
  | some o => rw [e p o q] at h; cases h
theorem Ex.xb {H H' : Hp} {p : Addr} (e : Ex H H') : XB p H H' := fun a o _ h => e a o h
theorem XB.tr {H H1 H2 : Hp} {p : Addr} (a : XB p H H1) (b : XB p H1 H2) : XB p H H2 := fun c o n h => b c o n (a c o n h)
theorem XB.wr {H : Hp} {p : Addr} {o : HO} : XB p H (upd H p o) := fun a u n e => by rw [upd_ne n]; exact e
theorem XB.fr {H H' : Hp} {p q : Addr} {o : HO} (e : XB p H H') (hp : H' p = some o) (h : H' q = none) : H q = none := by
  cases z : H q with
  | none => rfl
  | some u =>
    by_cases y : q = p
    · rw [y, hp] at h; cases h
    · rw [e q u y z] at h; cases h
theorem if_dec {p : Prop} [Decidable p] {A B : Prop} (h1 : p → A) (h2 : ¬ p → B) : if decide p = true then A else B := by
  by_cases h : p
  · rw [decide_eq_true h]; exact iteT (h1 h)
  · rw [decide_eq_false h]; exact iteF (h2 h)
theorem if_eq {b c : Bool} {A B : Prop} (e : b = c) (h : if c = true then A else B) : if b = true then A else B := by rw [e]; exact h
theorem if_true {b : Bool} {A B : Prop} (e : b = true) (h : A) : if b = true then A else B := by rw [e]; exact iteT h
theorem if_false {b : Bool} {A B : Prop} (e : b = false) (h : B) : if b = true then A else B := by rw [e]; exact iteF h
end HX
set_option Elab.async false
set_option linter.all false
set_option maxRecDepth 100000
set_option maxHeartbeats 4400000
namespace HX
open L2 PyProof.Rows PySem.Spec PySem
/-- data whose repr is asked -/
structure Fine (d : PyData) : Prop where
  sh : d.showable = true
  nd : d.hasDict = false
  dp : d.depth ≤ 60
  ln : d.shown.length ≤ sizeLine
theorem sh_int {i : Int} (h0 : -1000000 ≤ i) (h1 : i ≤ 1000000) : (PyData.int i).showable = true := by
  unfold PyData.showable
  have h : i.natAbs < 2 ^ 64 := by omega
  have h2 : i.natAbs.log2 < 64 := PySem.Flt.log2_lt_of (by decide) h
  first | exact decide_eq_true (by omega)
theorem ls_int {i : Int} (h0 : -1000000 ≤ i) (h1 : i ≤ 1000000) : (PyData.int i).leavesShort 13 = true := by
  have h := PyData.shown_int_le (i := i) (by omega)
  unfold PyData.leavesShort
  simpa [PyData.shown] using h
/-- a flat item -/
inductive Flat : PyData → Prop
  | non : Flat .none
  | bl (b : Bool) : Flat (.bool b)
  | int (i : Int) (h0 : -1000000 ≤ i) (h1 : i ≤ 1000000) : Flat (.int i)
  | str (x : Str) (h : x.cps.size ≤ 60) (hc : (x.cps.toList.all fun c => decide (c < 16 ^ 8)) = true) : Flat (.str x)
theorem Flat.all {ds : List PyData} (h : ∀ d ∈ ds, Flat d) : PyData.showableAll ds = true ∧ PyData.hasDictAll ds = false ∧ PyData.leavesShortAll 13 ds = true ∧ PyData.depthAll ds ≤ 1 ∧ PyData.weightAll ds ≤ 70 * ds.length := by
  induction ds with
  | nil => simp [PyData.showableAll, PyData.hasDictAll, PyData.leavesShortAll, PyData.depthAll, PyData.weightAll]
  | cons d ds ih =>
    obtain ⟨i1, i2, i3, i4, i5⟩ := ih fun x hx => h x (List.mem_cons_of_mem _ hx)
    have hd := h d List.mem_cons_self
    simp only [PyData.showableAll, PyData.hasDictAll, PyData.leavesShortAll, PyData.depthAll, PyData.weightAll, i1, i2, i3, Bool.and_true, Bool.or_false, List.length_cons]
    cases hd with
    | non => simp [PyData.showable, PyData.hasDict, PyData.leavesShort, PyData.depth, PyData.weight]; omega
    | bl b => simp [PyData.showable, PyData.hasDict, PyData.leavesShort, PyData.depth, PyData.weight]; omega
    | int i h0 h1 =>
      have h2 : i.natAbs.log2 < 64 := PySem.Flt.log2_lt_of (by decide) (by omega : i.natAbs < 2 ^ 64)
      simp only [sh_int h0 h1, PyData.hasDict, ls_int h0 h1, PyData.depth, PyData.weight]
      refine ⟨by first | rfl | trivial, by first | rfl | trivial, by first | rfl | trivial, by omega, ?_⟩
      split <;> omega
    | str x hx hc =>
      simp only [PyData.showable, PyData.hasDict, PyData.leavesShort, PyData.depth, PyData.weight, hc]
      refine ⟨by first | rfl | trivial, by first | rfl | trivial, by first | rfl | trivial, by omega, by omega⟩
theorem fine_list {ds : List PyData} (h : ∀ d ∈ ds, Flat d) (hl : ds.length ≤ 1000) : Fine (.list ds) := by
  obtain ⟨h1, h2, h3, h4, h5⟩ := Flat.all h
  refine ⟨by simp only [PyData.showable, h1], by simp only [PyData.hasDict, h2], by simp only [PyData.depth]; omega, PyData.shown_fits (B := 13) (by decide) (by decide) (by simp only [PyData.leavesShort, h3]) (by simp only [PyData.weight]; omega)⟩
theorem fine_tup {ds : List PyData} (h : ∀ d ∈ ds, Flat d) (hl : ds.length ≤ 1000) : Fine (.tuple ds) := by
  obtain ⟨h1, h2, h3, h4, h5⟩ := Flat.all h
  refine ⟨by simp only [PyData.showable, h1], by simp only [PyData.hasDict, h2], by simp only [PyData.depth]; omega, PyData.shown_fits (B := 13) (by decide) (by decide) (by simp only [PyData.leavesShort, h3]) (by simp only [PyData.weight]; omega)⟩
theorem fine_non : Fine .none := ⟨rfl, rfl, by decide, by simp only [PyData.shown]; decide +kernel⟩
theorem fine_bl (b : Bool) : Fine (.bool b) := ⟨rfl, rfl, by simp [PyData.depth], by cases b <;> simp only [PyData.shown] <;> decide +kernel⟩
theorem flat_zero : Flat (.str "zero") := .str _ (by decide +kernel) (by decide +kernel)
/-- flat values and their data -/
def fl : V → PyData
  | .non => .none
  | .bl b => .bool b
  | .int i => .int i
  | .str x => .str x
  | _ => .none
def isFl : V → Bool
  | .non | .bl _ | .int _ | .str _ => true
  | _ => false
theorem dq_fl {K : PySem.W.Frag} {H : Hp} {v : V} (h : isFl v = true) : Dq K H v (fl v) := by
  cases v <;> first | exact .non | exact .bl _ | exact .int _ | exact .str _ | cases h
theorem dq_items {K : PySem.W.Frag} {H : Hp} {xs : List V} (h : xs.all isFl = true) : ∀ (i : Nat) (v : V) (d : PyData), xs[i]? = some v → (xs.map fl)[i]? = some d → Dq K H v d := fun i v d e1 e2 => by
  rw [List.getElem?_map, e1] at e2
  cases e2
  exact dq_fl (List.all_eq_true.mp h v (List.mem_of_getElem? e1))
theorem dq_lst {K : PySem.W.Frag} {H : Hp} {a : Addr} {xs : List V} (e : H a = some (.lst xs)) (h : xs.all isFl = true) : Dq K H (.ref a) (.list (xs.map fl)) := .lst (SqL.of e) (by rw [List.length_map]) (dq_items h)
theorem dq_tup {K : PySem.W.Frag} {H : Hp} {a : Addr} {xs : List V} (e : H a = some (.tup xs)) (h : xs.all isFl = true) : Dq K H (.ref a) (.tuple (xs.map fl)) := .tup (SqT.of e) (by rw [List.length_map]) (dq_items h)
end HX
set_option Elab.async false
set_option linter.all false
set_option maxRecDepth 100000
set_option maxHeartbeats 4400000
namespace HX
open L2 PyProof.Rows PySem.Spec PySem
section
variable {X : Cx} {CX : CXT} {C f : Addr} {k : Nat} {fd : FuncData} {ps : List Str} {sp : Sp} {E : L2.St → XK} {a b e : Expr} {ta tb te : TE} {pos pos' : Pos} {x : Str} {i : Nat} {op : Operator}
/-- a def run within a call of a builtin -/
theorem run_one {pins : List (Addr × Obj)} {σ : L2.St} {H : Hp} {s : Shared} {Q : VK} {us : List Value} {vs : List V} {E : XK} (F : FnOk X.prog X.w X.K X.mg X.base CX k f fd ps sp) (hr : Room (k + 1) X.A) (hb : Binds X.K fd ps []) (hx : PassesAt CX X σ E)
    (I : L2.Inv X pins σ H s) (r : Vals vs us) (h : sp vs H Q E) : wpAny (model X.prog X.w) X.A.in1 (call (.ref f) us) (EP X pins σ Q) X.xe s := by
  have few : (us ++ []).length = ps.length := by rw [List.append_nil, ← r.length]; exact F.len _ _ _ _ h
  have bound := hb s us I.kIn few; rw [List.append_nil] at bound
  refine wpAny_call (codeAny_mono (F.run X.A.in1 X.stack s H ⟨us, []⟩ us vs Q E hr.in1 I.env0.in1 bound r h) fun z s' hq => ?_)
  match z, hq with
  | .ok (.ret u), w => exact I.after w
  | .ok .next, w | .ok .brk, w | .ok .cont, w => exact False.elim w
  | .error er, w => exact hx pins H s er s' I w
/-- a[b] of an own class -/
def tSubO (C : Addr) (sp : Sp) (E : L2.St → XK) (ta tb : TE) : TE := fun σ H Q => ta σ H fun x H1 => tb σ H1 fun y H2 => isI C H2 x ∧ sp [x, y] H2 Q (E σ)
theorem pe_subO (hs : PySem.W.findIn X.K (.ref C) "__getitem__" = some (some (.ref f))) (hf : PySem.W.fnIn X.K f = true) (hfn : PySem.W.isFn X.K (.ref f) = true) (F : FnOk X.prog X.w X.K X.mg X.base CX k f fd ps sp) (hb : Binds X.K fd ps []) (hr : Room (k + 1) X.A)
    (hx : ∀ σ, PassesAt CX X σ (E σ)) (ha : PE X a ta) (hbb : PE X b tb) (hsl : ∀ x i, subscripted b true (.ref x) i = runValue (.builtin "lifetime.subscript" ⟨[.ref x, i], []⟩)) : PE X (.Subscript a b pos) (tSubO C sp E ta tb) := by
  refine ⟨fun pins s σ H Q I h => ?_⟩
  refine Subscript_ (binT ha hbb I h fun v u s2 x y H2 I2 rx ry q => ?_)
  obtain ⟨m, hF⟩ := I2.fr
  obtain ⟨⟨p, dx, fs, rfl, ep⟩, q⟩ := q
  obtain ⟨od, J⟩ := isI_inst I2 ep
  cases (id rx : v = Value.ref p)
  exact PySem.W.sub_K hF I2.ok.mod.kin J hs hf hfn (run_one (us := [.ref p, u]) (vs := [.ref p, y]) F hr hb (hx σ) I2 (.cons rfl (.cons ry .nil)) q) (hsl _ _)
/-- o[i] = v of an own class -/
def gSubO (C : Addr) (sp : Sp) (E : L2.St → XK) (to ti : TE) : TG := fun v σ H Q => to σ H fun o H1 => ti σ H1 fun i H2 => isI C H2 o ∧ sp [o, i, v] H2 (fun _ H3 => Q σ H3) (E σ)
theorem pg_subO (hq : PySem.W.noSeq X.K C = true) (hs : PySem.W.findIn X.K (.ref C) "__setitem__" = some (some (.ref f))) (hfn : PySem.W.isFn X.K (.ref f) = true) (F : FnOk X.prog X.w X.K X.mg X.base CX k f fd ps sp) (hb : Binds X.K fd ps []) (hr : Room k X.A)
    (hx : ∀ σ, PassesAt CX X σ (E σ)) (ho : PE X a ta) (hi : PE X b tb)
    (ha : ∀ v, assign (.Subscript a b pos) X.env v = (do let o1 ← holding [v] (eval a X.env); let i1 ← holding [v, o1] (eval b X.env); standAt pos; holding [v, o1, i1] (setItem o1 i1 v); release [v, o1, i1] []) := by intro _; rfl) : PG X (.Subscript a b pos) (gSubO C sp E ta tb) := by
  refine ⟨fun pp t τ G val vv R J rv w => ?_⟩
  rw [ha]
  refine wpAny_bind (wpAny_holding (thn (ho.run pp t τ G _ J w) fun o1 t1 ⟨x, G1, J1, rx, w1⟩ => wpAny_bind (wpAny_holding (thn (hi.run pp t1 τ G1 _ J1 w1) fun i1 t2 ⟨y, G2, J2, ry, w2⟩ => ?_))))
  obtain ⟨⟨p, dx, fs, rfl, ep⟩, q⟩ := w2
  obtain ⟨m, hF⟩ := J2.fr
  obtain ⟨od, W⟩ := isI_inst J2 ep
  have eo : o1 = Value.ref p := rx; subst eo
  have done := run_fnS (us := [.ref p, i1, vv]) (vs := [.ref p, y, val]) F hr hb (hx τ) J2 (.cons rfl (.cons ry (.cons rv .nil))) q
  exact wpAny_bind (wpAny_standAt (wpAny_bind (wpAny_holding (PySem.W.ksp_setItem hF J2.ok.mod.kin W hq hs hfn (thn done fun _ t3 ⟨_, G3, J3, _, w3⟩ => wpAny_release ⟨τ, G3, J3, w3⟩)))))
/-- x op= e of an own class -/
def tAugO (C : Addr) (sp : Sp) (E : L2.St → XK) (i : Nat) (te : TE) : TS := fun D σ H => ∃ x, σ[i]? = some (some x) ∧ te σ H fun y H1 => isI C H1 x ∧ sp [x, y] H1 (fun z H2 => D.nx (σ.set i (some z)) H2) (E σ)
theorem ps_augO (hc : PySem.W.selfFirst X.K C = true) (hs : PySem.W.findIn X.K (.ref C) (dunderI op.info.2) = some (some (.ref f))) (hfn : PySem.W.isFn X.K (.ref f) = true) (F : FnOk X.prog X.w X.K X.mg X.base CX k f fd ps sp) (hb : Binds X.K fd ps []) (hr : Room k X.A)
    (hxx : ∀ σ, PassesAt CX X σ (E σ)) (hN : X.N.Nodup) (hi : X.N[i]? = some x) (hx : X.env.scope.names.lookup x = some .local) (he : PE X e te) : PS X (.AugAssign (.Name x pos') op e pos) (tAugO C sp E i te) := by
  refine ⟨fun pp t τ G D J w => wpAny_AugAssign_Name ?_⟩
  obtain ⟨v, e1, w⟩ := w
  obtain ⟨m, hn, hl⟩ := J.loc
  obtain ⟨u, r, l⟩ := hl i x v hi e1 (.inl hx)
  rcases l with ⟨hk, hm⟩ | ⟨hk, _⟩
  · refine wpAny_loadName_local J.ok.kind hk hn hm (thn (he.run pp t τ G _ J w) fun b t1 ⟨y, G1, J1, r1, w1⟩ => ?_)
    obtain ⟨⟨p, dx, fs, rfl, ep⟩, q⟩ := w1
    obtain ⟨m1, hF⟩ := J1.fr
    obtain ⟨od, W⟩ := isI_inst J1 ep
    have eu : u = Value.ref p := r; subst eu
    have done := run_fnS (us := [.ref p, b]) (vs := [.ref p, y]) F hr hb (hxx τ) J1 (.cons rfl (.cons r1 .nil)) q
    refine thn (PySem.W.ksp_inplace hF J1.ok.mod.kin W hc hs hfn (thn done fun z t2 hz => ep_back hz)) fun z t2 ⟨zv, G2, J2, r2, w2⟩ => ?_
    exact store_ok J2 hN hi (.inl hx) r2 (fun t3 J3 => ⟨_, G2, J3, w2⟩) (.inr hx)
  · rcases hk with hk | hk <;> (have z : X.env.scope.names.lookup x = _ := hk; rw [hx] at z; cases z)
/-- len of an own class -/
def rLenO (C : Addr) (sp : Sp) (E : XK) : List V → Hp → VK → Prop := fun xs H Q => ∃ x, xs = [x] ∧ isI C H x ∧ sp [x] H (fun v H' => ∃ n : Nat, v = .int n ∧ n < 1000 ∧ Q (.int n) H') E
theorem call_lenO {E : XK} (hs : PySem.W.findIn X.K (.ref C) "__len__" = some (some (.ref f))) (hf : PySem.W.isFn X.K (.ref f) = true) (F : FnOk X.prog X.w X.K X.mg X.base CX k f fd ps sp) (hb : Binds X.K fd ps []) (hr : Room (k + 1) X.A) (hx : Passes CX X E) :
    CallR X (.builtin "len") (rLenO C sp E) := by
  intro pins s σ H xs us; intro Q I r h
  obtain ⟨m, hF⟩ := I.fr
  obtain ⟨x, rfl, ⟨p, dx, fs, rfl, ep⟩, q⟩ := h
  obtain ⟨od, J⟩ := isI_inst I ep
  cases r with
  | cons r1 r2 =>
    cases r2
    rename_i u
    cases (id r1 : u = Value.ref p)
    refine PySem.W.len_K hF I.ok.mod.kin J hs hf (thn (run_one (us := [.ref p]) (vs := [.ref p]) F hr hb (fun pins H s e s' => hx pins σ H s e s') I (.cons rfl .nil) q) fun z s2 hz => ?_)
    obtain ⟨v, H2, I2, r3, n, rfl, hn, q2⟩ := hz
    obtain ⟨t, rfl⟩ := r3
    exact ⟨⟨by omega, by omega⟩, .int n, H2, I2.tok _, ⟨_, rfl⟩, q2⟩
end
end HX
set_option Elab.async false
set_option linter.all false
set_option maxRecDepth 100000
set_option maxHeartbeats 4400000
namespace HX
open L2 PyProof.Rows PySem.Spec PySem
section
variable {X : Cx} {es : List Expr} {t : TA} {pos : Pos}
/-- a new list stands apart from the table of modules -/
def tLstN (t : TA) : TE := fun σ H Q => t σ H fun xs H1 => xs.length ≤ sizeLine ∧ ∀ p, H1 p = none → p ≠ sysModules → Q (.ref p) (upd H1 p (.lst xs))
theorem pe_lstN (h : PA X es t) : PE X (.List es pos) (tLstN t) := by
  refine ⟨fun pins s σ H Q I hq => wpAny_List_spliced (thn (h.run pos pins s σ H _ I hq) fun us s1 ⟨xs, H1, I1, r, z, q⟩ => ⟨by rw [← r.length]; exact z, ?_⟩)⟩
  have e0 : H1 s1.heap.objs.size = none := I1.hok.fresh (Nat.le_refl _)
  have e1 : Inv X pins σ (upd H1 s1.heap.objs.size (.lst xs)) _ := I1.laid (t' := s1.toks) (fun b u e => Heap.get?_push_of_some _ e) (Nat.le_refl _) ⟨z, us, 0, r, Heap.get?_push_size _ rfl⟩
  exact ⟨.ref _, _, e1, rfl, q _ e0 (Nat.ne_of_gt I1.big)⟩
end
/-- data at any depth, dicts by texts too; its lists stand apart from the table of modules, and from the list at p -/
inductive Dz (p : Addr) (H : Hp) : V → PyData → Prop
  | non : Dz p H .non .none
  | bl (b : Bool) : Dz p H (.bl b) (.bool b)
  | int (i : Int) : Dz p H (.int i) (.int i)
  | str (x : Str) : Dz p H (.str x) (.str x)
  | lst {a : Addr} {xs : List V} {ds : List PyData} : H a = some (.lst xs) → a ≠ sysModules → a ≠ p → xs.length = ds.length → (∀ (i : Nat) (v : V) (d : PyData), xs[i]? = some v → ds[i]? = some d → Dz p H v d) → Dz p H (.ref a) (.list ds)
  | tup {a : Addr} {xs : List V} {ds : List PyData} : H a = some (.tup xs) → xs.length = ds.length → (∀ (i : Nat) (v : V) (d : PyData), xs[i]? = some v → ds[i]? = some d → Dz p H v d) → Dz p H (.ref a) (.tuple ds)
  | dct {a : Addr} {ks : List (Str × V)} {ds : List PyData} : H a = some (.dK (ks.map fun p => (Sum.inr p.1, p.2))) → ks.length = ds.length → (∀ (i : Nat) (v : V) (d : PyData), (ks.map (·.2))[i]? = some v → ds[i]? = some d → Dz p H v d) → Dz p H (.ref a) (.dict ((ks.map fun p => PyData.str p.1).zip ds))
theorem Dz.ex {p : Addr} {H H' : Hp} {v : V} {d : PyData} (h : Dz p H v d) (e : Ex H H') : Dz p H' v d := by
  induction h with
  | non => exact .non
  | bl b => exact .bl b
  | int i => exact .int i
  | str x => exact .str x
  | lst h n m hl _ ih => exact .lst (e _ _ h) n m hl ih
  | tup h hl _ ih => exact .tup (e _ _ h) hl ih
  | dct h hl _ ih => exact .dct (e _ _ h) hl ih
theorem Dz.xb {p : Addr} {H H' : Hp} {v : V} {d : PyData} {zs : List V} (h : Dz p H v d) (hp : H p = some (.lst zs)) (e : XB p H H') : Dz p H' v d := by
  induction h with
  | non => exact .non
  | bl b => exact .bl b
  | int i => exact .int i
  | str x => exact .str x
  | lst h n m hl _ ih => exact .lst (e _ _ m h) n m hl ih
  | tup h hl _ ih => exact .tup (e _ _ (ne_of h hp (by intro y; cases y)) h) hl ih
  | dct h hl _ ih => exact .dct (e _ _ (ne_of h hp (by intro y; cases y)) h) hl ih
section
variable {H : Hp} {X : Cx} {σ : L2.St} {pins : List (Addr × Obj)} {s : Shared}
theorem readsAllM {h : Heap} : ∀ {us : List Value} {ds : List PyData}, us.length = ds.length → (∀ (i : Nat) (u : Value) (d : PyData), us[i]? = some u → ds[i]? = some d → ∃ as, Reads h u d as ∧ sysModules ∉ as) → ∃ as, ReadsAll h us ds as ∧ sysModules ∉ as
  | [], [], _, _ => ⟨_, .nil, by simp⟩
  | [], _ :: _, z, _ | _ :: _, [], z, _ => by simp at z
  | u :: us, d :: ds, hl, h => by
    obtain ⟨as, q1, m1⟩ := h 0 u d rfl rfl
    obtain ⟨bs, q2, m2⟩ := readsAllM (us := us) (ds := ds) (by simpa using hl) fun i u d e1 e2 => h (i + 1) u d (by simpa using e1) (by simpa using e2)
    exact ⟨_, .cons q1 q2, by rw [List.mem_append]; exact fun z => z.elim m1 m2⟩
theorem pairs_keys {P : Program} {w : World} {h : Heap} : ∀ {es : List DictEntry} {ks : List (Str × V)} {vs : List (Key × Value)}, Pairs (mixKind P w) es vs → KV (ks.map fun p => (Sum.inr p.1, p.2)) vs →
    ReadsAll h (es.map (·.key)) (ks.map fun p => PyData.str p.1) [] ∧ Vals (ks.map (·.2)) (es.map (·.val))
  | [], [], _, _, _ => ⟨.nil, .nil⟩
  | _ :: _, [], _, hp, hk => by cases hk; cases hp
  | [], _ :: _, _, hp, hk => by cases hk; cases hp
  | e :: es, k :: ks, _, hp, hk => by
    cases hk with
    | cons h1 h2 =>
      cases hp with
      | cons i1 i2 i3 =>
        obtain ⟨q1, q2⟩ := pairs_keys (h := h) i3 h2
        obtain ⟨h3, h4⟩ := h1
        refine ⟨?_, .cons (by show RelV k.2 e.val; rw [i2]; exact h4) q2⟩
        have i0 : keyIs (Sum.inr k.1) e.key = true := by
          have z : (Sum.inr k.1 : Key) = _ := h3
          rw [z]; exact i1
        rcases keyIs_shape i0 with ⟨i, t, z, _⟩ | ⟨x, t, z, y⟩
        · cases z
        · cases z
          refine ReadsAll.cons (as := []) (bs := []) ?_ q1
          show Reads h e.key (PyData.str k.1) []
          rw [show e.key = Value.str k.1 t from y]
          exact .str _ _
theorem Dz.reads {p : Addr} (I : L2.Inv X pins σ H s) {v : V} {d : PyData} (h : Dz p H v d) : ∀ u, RelV v u → ∃ as, Reads s.heap u d as ∧ sysModules ∉ as := by
  induction h with
  | non => intro u r; cases r; exact ⟨_, .none, by simp⟩
  | bl b => intro u r; cases r; exact ⟨_, .bool b, by simp⟩
  | int i => intro u r; obtain ⟨t, rfl⟩ := r; exact ⟨_, .int i t, by simp⟩
  | str x => intro u r; obtain ⟨t, rfl⟩ := r; exact ⟨_, .str x t, by simp⟩
  | @lst a xs ds hs na _ hl hi ih =>
    intro u r
    cases r
    obtain ⟨its, rv, ⟨o, n, ho, hc, _, hd⟩, _⟩ := I.list (SqL.of hs)
    obtain ⟨as, q, m⟩ := readsAllM (h := s.heap) (us := its) (ds := ds) (rv.length.symm.trans hl) fun i u d e1 e2 => by
      obtain ⟨v, hv⟩ : ∃ v, xs[i]? = some v := ⟨_, List.getElem?_eq_getElem (by have := (List.getElem?_eq_some_iff.mp e1).1; rw [rv.length]; exact this)⟩
      obtain ⟨u', hu, ru⟩ := rv.get hv; rw [e1] at hu; cases hu
      exact ih i v d hv e2 u ru
    exact ⟨_, .list ho hc hd q, by rw [List.mem_cons]; exact fun z => z.elim (fun e => na e.symm) m⟩
  | @tup a xs ds hs hl hi ih =>
    intro u r
    cases r
    obtain ⟨its, rv, ⟨o, ho, hc, n, hd⟩, _⟩ := I.tuple (SqT.of hs)
    obtain ⟨as, q, m⟩ := readsAllM (h := s.heap) (us := its) (ds := ds) (rv.length.symm.trans hl) fun i u d e1 e2 => by
      obtain ⟨v, hv⟩ : ∃ v, xs[i]? = some v := ⟨_, List.getElem?_eq_getElem (by have := (List.getElem?_eq_some_iff.mp e1).1; rw [rv.length]; exact this)⟩
      obtain ⟨u', hu, ru⟩ := rv.get hv; rw [e1] at hu; cases hu
      exact ih i v d hv e2 u ru
    exact ⟨_, .tuple ho hc hd q, m⟩
  | @dct a ks ds hs hl hi ih =>
    intro u r
    cases r
    obtain ⟨_, na, vs, kv, o, es, ep, ho, hc, hd, _, hp, _⟩ := dk_of I.hok hs
    obtain ⟨q1, rv⟩ := pairs_keys (h := s.heap) hp kv
    obtain ⟨as, q, m⟩ := readsAllM (h := s.heap) (us := es.toList.map (·.val)) (ds := ds) (rv.length.symm.trans (by rw [List.length_map]; exact hl)) fun i u d e1 e2 => by
      obtain ⟨v, hv⟩ : ∃ v, (ks.map (·.2))[i]? = some v := ⟨_, List.getElem?_eq_getElem (by have := (List.getElem?_eq_some_iff.mp e1).1; rw [rv.length]; exact this)⟩
      obtain ⟨u', hu, ru⟩ := rv.get hv; rw [e1] at hu; cases hu
      exact ih i v d hv e2 u ru
    have l1 : (ks.map fun p => PyData.str p.1).length ≤ ds.length := by rw [List.length_map, hl]; exact Nat.le_refl _
    have l2 : ds.length ≤ (ks.map fun p => PyData.str p.1).length := by rw [List.length_map, hl]; exact Nat.le_refl _
    refine ⟨_, .dict (as := []) (bs := as) ho hc.1 hd (by rw [List.map_fst_zip l1]; exact q1) (by rw [List.map_snd_zip l2]; exact q), ?_⟩
    rw [List.mem_append, List.mem_singleton]
    exact fun z => z.elim (fun e => by rw [← e] at na; simp at na) m
end
section
variable {X : Cx}
/-- repr of such data -/
def rReprZ : List V → Hp → VK → Prop := fun xs H Q => ∃ v d p, xs = [v] ∧ Dz p H v d ∧ d.showable = true ∧ d.depth ≤ 60 ∧ d.shown.length ≤ sizeLine ∧ Q (.str d.shown) H
theorem call_reprZ (hgd : X.A.guards = some []) (hu : X.A.units + 64 < cLine) : CallR X (.builtin "repr") rReprZ := by
  intro pins s σ H xs us; intro Q I r h
  obtain ⟨v, d, p, rfl, hd, hs, hp, hz, q⟩ := h
  cases r with
  | cons r1 r2 =>
    cases r2
    rename_i u
    obtain ⟨as, hr, hm⟩ := hd.reads I u r1
    have fin : ∀ h' t tk, (∀ b o, s.heap.get? b = some o → h'.get? b = some o) → EP X pins σ Q (.str d.shown t) { s with heap := h', toks := tk } := fun h' t tk k => ⟨.str d.shown, H, I.kept k, ⟨_, rfl⟩, q⟩
    cases hr with
    | none => exact PySem.P.repr_of_none (fin _ _ _ fun _ _ z => z)
    | bool b => exact PySem.P.repr_of_bool (fin _ _ _ fun _ _ z => z)
    | int i t => exact PySem.P.repr_of_int (by simpa [PyData.showable] using hs) (fin _ _ _ fun _ _ z => z)
    | str x t => exact PySem.P.repr_of_str (fin _ _ _ fun _ _ z => z)
    | list h1 h2 h3 h4 => exact repr_of_reads' (.list h1 h2 h3 h4) hs (fun _ => hm) hgd (by omega) (fun _ _ z => z) (fun h' u tk k => fin h' u tk k) hz
    | tuple h1 h2 h3 h4 => exact repr_of_reads' (.tuple h1 h2 h3 h4) hs (fun _ => hm) hgd (by omega) (fun _ _ z => z) (fun h' u tk k => fin h' u tk k) hz
    | dict h1 h2 h3 h4 h5 => exact repr_of_reads' (.dict h1 h2 h3 h4 h5) hs (fun _ => hm) hgd (by omega) (fun _ _ z => z) (fun h' u tk k => fin h' u tk k) hz
end
end HX
set_option Elab.async false
set_option linter.all false
set_option maxRecDepth 100000
set_option maxHeartbeats 4400000
namespace HX
open L2 PyProof.Rows PySem.Spec PySem
theorem ok_app {a b : Str} (ha : PyData.strOk a = true) (hb : PyData.strOk b = true) : PyData.strOk (a ++ b) = true := by
  unfold PyData.strOk at *
  show (a.cps ++ b.cps).all _ = true
  rw [Array.all_append, ha, hb]; rfl
theorem ok_list {a : Str} (h : PyData.strOk a = true) : PyData.strOk (listText [a]) = true := by
  show PyData.strOk (((("[" : Str) ++ (("" : String) : Str)) ++ a) ++ "]") = true
  exact ok_app (ok_app (by decide +kernel) h) (by decide +kernel)
theorem ok_tup1 {a : Str} (h : PyData.strOk a = true) : PyData.strOk (tupleText [a]) = true := by
  show PyData.strOk ((("(" : Str) ++ a) ++ ((",)" : String) : Str)) = true
  exact ok_app (ok_app (by decide +kernel) h) (by decide +kernel)
theorem ok_tup2 {a b : Str} (h : PyData.strOk a = true) (k : PyData.strOk b = true) : PyData.strOk (tupleText [a, b]) = true := by
  show PyData.strOk ((("(" : Str) ++ (a ++ ", " ++ b)) ++ ((")" : String) : Str)) = true
  exact ok_app (ok_app (by decide +kernel) (ok_app (ok_app h (by decide +kernel)) k)) (by decide +kernel)
theorem ok_dict {a b : Str} (h : PyData.strOk a = true) (k : PyData.strOk b = true) : PyData.strOk (dictText [a ++ ": " ++ b]) = true := by
  show PyData.strOk ((("{" : Str) ++ (a ++ ": " ++ b)) ++ (("}" : String) : Str)) = true
  exact ok_app (ok_app (by decide +kernel) (ok_app (ok_app h (by decide +kernel)) k)) (by decide +kernel)
/-- data of a bounded text: n sheaths about small data -/
structure Bd (n : Nat) (d : PyData) : Prop where
  sh : d.showable = true
  dp : d.depth ≤ n + 4
  lv : d.leavesShort 24 = true
  wt : d.weight ≤ 60 * n + 400
  ok : PyData.strOk d.shown = true
theorem Bd.up {n m : Nat} {d : PyData} (h : Bd n d) (e : n ≤ m) : Bd m d := ⟨h.sh, by have := h.dp; omega, h.lv, by have := h.wt; omega, h.ok⟩
theorem Bd.l1 {n : Nat} {d : PyData} (h : Bd n d) : Bd (n + 1) (.list [d]) := by
  have a := h.dp; have b := h.wt
  refine ⟨by simp only [PyData.showable, PyData.showableAll, h.sh, Bool.and_self], ?_, by simp only [PyData.leavesShort, PyData.leavesShortAll, h.lv, Bool.and_self], ?_, ?_⟩
  · simp only [PyData.depth, PyData.depthAll]; omega
  · simp only [PyData.weight, PyData.weightAll]; omega
  · show PyData.strOk (listText [d.shown]) = true; exact ok_list h.ok
theorem Bd.t1 {n : Nat} {d : PyData} (h : Bd n d) : Bd (n + 1) (.tuple [d]) := by
  have a := h.dp; have b := h.wt
  refine ⟨by simp only [PyData.showable, PyData.showableAll, h.sh, Bool.and_self], ?_, by simp only [PyData.leavesShort, PyData.leavesShortAll, h.lv, Bool.and_self], ?_, ?_⟩
  · simp only [PyData.depth, PyData.depthAll]; omega
  · simp only [PyData.weight, PyData.weightAll]; omega
  · show PyData.strOk (tupleText [d.shown]) = true; exact ok_tup1 h.ok
/-- (d, 1) -/
theorem Bd.t2 {n : Nat} {d : PyData} (h : Bd n d) : Bd (n + 1) (.tuple [d, .int 1]) := by
  have a := h.dp; have b := h.wt
  have s1 : (PyData.int 1).showable = true := by decide +kernel
  have l1 : (PyData.int 1).leavesShort 24 = true := by decide +kernel
  have d1 : (PyData.int 1).depth = 0 := by decide +kernel
  have w1 : (PyData.int 1).weight = 1 := by decide +kernel
  refine ⟨by simp only [PyData.showable, PyData.showableAll, h.sh, Bool.true_and]; exact (Bool.and_true _).trans s1, ?_, by simp only [PyData.leavesShortAll, h.lv, l1, PyData.leavesShort, Bool.true_and]; first | rfl | exact (Bool.and_true _).trans l1, ?_, ?_⟩
  · simp only [PyData.depth, PyData.depthAll]; omega
  · have e : (PyData.tuple [d, .int 1]).weight = d.weight + 1 + ((PyData.int 1).weight + 1 + 0) := by simp only [PyData.weight, PyData.weightAll]
    omega
  · show PyData.strOk (tupleText [d.shown, (PyData.int 1).shown]) = true; exact ok_tup2 h.ok (by decide +kernel)
/-- {k: d}, k a short text -/
theorem Bd.d1 {n : Nat} {d : PyData} {k : Str} (h : Bd n d) (hk : k.cps.size ≤ 20) (hok : PyData.strOk (PyData.str k).shown = true) (hc : (k.cps.toList.all fun c => decide (c < 16 ^ 8)) = true) : Bd (n + 1) (.dict [(.str k, d)]) := by
  have a := h.dp; have b := h.wt
  refine ⟨by simp only [PyData.showable, PyData.showableKv, h.sh, Bool.and_self], ?_, by simp only [PyData.leavesShort, PyData.leavesShortKv, h.lv, hc, Bool.and_self], ?_, ?_⟩
  · simp only [PyData.depth, PyData.depthKv]; omega
  · simp only [PyData.weight, PyData.weightKv]; omega
  · show PyData.strOk (dictText [((PyData.str k).shown ++ ": " ++ d.shown)]) = true; exact ok_dict hok h.ok
theorem Bd.len {n : Nat} {d : PyData} (h : Bd n d) (hn : n ≤ 50) : d.shown.length ≤ sizeLine := by
  have q := PyData.shown_le 24 (by decide) d h.lv
  have b := h.wt
  have e := sizeLine_eq
  have m : (24 + 2) * d.weight ≤ 26 * 3400 := Nat.mul_le_mul_left _ (by omega)
  omega
/-- small data at once -/
theorem Bd.of {d : PyData} (h : (d.showable && decide (d.depth ≤ 4) && d.leavesShort 24 && decide (d.weight ≤ 400) && PyData.strOk d.shown) = true) : Bd 0 d := by
  simp only [Bool.and_eq_true, decide_eq_true_eq] at h
  exact ⟨h.1.1.1.1, by have := h.1.1.1.2; omega, h.1.1.2, by have := h.1.2; omega, h.2⟩
example : Bd 0 (.int (10 ^ 17)) := .of (by decide +kernel)
example : Bd 0 (.tuple [.tuple [], .list [.none]]) := .of (by decide +kernel)
end HX
set_option Elab.async false
set_option linter.all false
set_option maxRecDepth 100000
set_option maxHeartbeats 4400000
namespace HX
open L2 PyProof.Rows PySem.Spec PySem
/-- an exception that was caught, tracked as a value: its class at C, its dict at d -/
def ErrV (C : Addr) (d : Option Addr) (a : Addr) : HO := .ext fun h => ∃ (oe : Obj) (vs : Array Value), h.get? a = some oe ∧ Zc (.ref C) d oe ∧ oe.data = .fields vs
theorem errV_ok {P : Program} {w : World} {H : Hp} {h : Heap} {a C : Addr} {d : Option Addr} {oe : Obj} {vs : Array Value} (e : h.get? a = some oe) (z : Zc (.ref C) d oe) (q : oe.data = .fields vs) : ObjOk P w H h a (ErrV C d a) :=
  ⟨⟨oe, vs, e, z, q⟩, ⟨oe, e⟩, fun _ _ ⟨o, v, x, y⟩ k => ⟨o, v, k o x, y⟩⟩
theorem errV_at {P : Program} {w : World} {H : Hp} {h : Heap} {a C : Addr} {d : Option Addr} (k : HOk P w H h) (e : H a = some (ErrV C d a)) : ∃ (oe : Obj) (vs : Array Value), h.get? a = some oe ∧ Zc (.ref C) d oe ∧ oe.data = .fields vs :=
  let ⟨z, _⟩ := k a _ e; z
section
variable {X : Cx} {pins : List (Addr × Obj)} {σ : L2.St} {H : Hp} {s : Shared} {a : Addr} {oe : Obj} {vs : Array Value} {C : Addr} {d : Option Addr}
/-- at the suite's end: the exception, held by a pin so far, is tracked from now on -/
theorem keepErr (I : L2.Inv X ((a, oe) :: pins) σ H s) (n0 : X.s_0.heap.get? a = none) (np : ∀ p ∈ X.pn ++ pins, p.1 ≠ a) (z : Zc (.ref C) d oe) (q : oe.data = .fields vs) : L2.Inv X pins σ (upd H a (ErrV C d a)) s := by
  obtain ⟨ga, na, nL, _, nc⟩ := I.pin (a, oe) (List.mem_append_right _ List.mem_cons_self)
  have off : ∀ {b : Addr} {o : HO}, H b = some o → b ≠ a := fun e => ne_of_none e na
  have b0 : ∀ {b : Addr} {o : Obj}, X.s_0.heap.get? b = some o → b ≠ a := fun e y => by rw [y, n0] at e; cases e
  have hk : HOk X.prog X.w (upd H a (ErrV C d a)) s.heap := HOk.laidN I.hok (fun _ _ e => e) na (errV_ok ga z q)
  refine { ok := I.ok, os := I.os, bare := I.bare, base := ?_, loc := I.loc, cell := I.cell, free := ?_, freeC := fun x c e => ?_, pin := fun p hp => ?_, hok := hk, len := I.len }
  · exact { keep := I.base.keep, slot := I.base.slot, free := fun b o e n x => by rw [upd_ne (b0 e)]; exact I.base.free b o e n x, there := I.base.there,
            tups := fun b xs e => by have y := I.base.tups b xs e; rw [upd_ne (off y)]; exact y,
            frzs := fun b o u e => by have y := I.base.frzs b o u e; rw [upd_ne (off y)]; exact y,
            tbls := fun b ps e => by obtain ⟨m, y⟩ := I.base.tbls b ps e; exact ⟨m, by rw [upd_ne (off y)]; exact y⟩ }
  · rw [upd_ne (Ne.symm nL)]; exact I.free
  · have nca : c ≠ a := fun y => by
      obtain ⟨v, o, ho, hd⟩ := I.cell x c e
      rw [y, ga] at ho
      cases ho
      exact nc v hd
    rw [upd_ne nca]; exact I.freeC x c e
  · have y := I.pin p (by
      rcases List.mem_append.mp hp with h | h
      · exact List.mem_append_left _ h
      · exact List.mem_append_right _ (List.mem_cons_of_mem _ h))
    exact ⟨y.1, by rw [upd_ne (np p hp)]; exact y.2.1, y.2.2⟩
/-- what stands there, as the library's rules of instances ask it -/
theorem errV_inst (I : L2.Inv X pins σ H s) (e : H a = some (ErrV C none a)) : PySem.W.InstAt s.heap a ((s.heap.get? a).getD default) C none := by
  obtain ⟨oe, vs, g, z, q⟩ := errV_at I.hok e
  rw [g]
  exact ⟨g, z.1, by unfold PySem.W.notCls; rw [Option.getD_some, q] <;> rfl, by rw [Option.getD_some, z.2]; trivial⟩
end
section
variable {X : Cx} {C : Addr} {e : Expr} {te : TE} {pos : Pos} {n : Str} {pins : List (Addr × Obj)} {σ : L2.St} {H : Hp} {s : Shared}
/-- e.n of a tracked exception -/
def tErrF (C : Addr) (n : Str) (te : TE) : TE := fun σ H Q => te σ H fun x H1 => ∃ (a dd : Addr) (fs : List (Str × V)) (v : V), x = .ref a ∧ H1 a = some (ErrV C (some dd) a) ∧ H1 dd = some (.xd fs) ∧ fs.lookup n = some v ∧ Q v H1
theorem pe_errF (T : XfC X.K C) (hno : PySem.W.findIn X.K (.ref C) n = some none) (he : PE X e te) (hb : attributeBase e n X.env (eval e X.env) = eval e X.env := by rfl) : PE X (.Attribute e n pos) (tErrF C n te) := by
  refine ⟨fun pp t τ G R J w => attr_of hb (thn (he.run pp t τ G _ J w) fun u t1 ⟨x, G1, J1, rx, a, dd, fs, v, ex, ea, ed, l, q⟩ => ?_)⟩
  subst ex
  have eu : u = Value.ref a := rx; subst eu
  obtain ⟨oe, vs, g, z, hd⟩ := errV_at J1.hok ea
  obtain ⟨mA, hns, hr⟩ : ObjOk X.prog X.w G1 t1.heap dd (.xd fs) := J1.hok dd _ ed
  obtain ⟨od, ho, hl⟩ := lookIn_ns hns
  obtain ⟨u, hu, ru⟩ := RelO.some_of (v := v) (o := mA n) (by rw [← l]; exact hr n)
  have W : PySem.W.InstAt t1.heap a oe C (some od) := ⟨g, z.1, by unfold PySem.W.notCls; rw [hd] <;> rfl, by rw [z.2]; exact ho⟩
  exact HandSPX.exc_get J1.kIn W T.ga T.gg T.exC (PySem.W.findObj_own T.hdC hno rfl (by rw [hl, hu])) (handed_of ru) ⟨v, G1, J1.tok _, ru, q⟩
/-- what the class says so that isinstance asks its errors rightly -/
structure ErrC (K : PySem.W.Frag) (C : Addr) : Prop where
  cl : (PySem.W.clsIn K C).isSome = true
  ga : PySem.W.findIn K (.ref C) "__getattribute__" = some (some (.builtin "BaseException.__getattribute__"))
  gt : PySem.W.findIn K (.ref C) "__getattr__" = some none
  be : PySem.W.subIn K (.ref C) (.type "BaseException") = some true
  kc : PySem.W.findIn K (.ref C) "__class__" = some (some (.builtin "object.__class__"))
  kg : PySem.W.specialIn K (.builtin "object.__class__") "__get__" = some (some (.builtin "getset_descriptor.__get__"))
  kt : PySem.W.takesIn K (.builtin "object.__class__") = some true
  ob : PySem.W.mroIn K C (.type "object") = some true
theorem errV_some (J : L2.Inv X pins σ H s) {a dd : Addr} {fs : List (Str × V)} (ea : H a = some (ErrV C (some dd) a)) (ed : H dd = some (.xd fs)) : ∃ oe od, PySem.W.InstAt s.heap a oe C (some od) := by
  obtain ⟨oe, vs, g, z, hd⟩ := errV_at J.hok ea
  obtain ⟨mA, hns, _⟩ : ObjOk X.prog X.w H s.heap dd (.xd fs) := J.hok dd _ ed
  obtain ⟨od, ho, _⟩ := lookIn_ns hns
  exact ⟨oe, od, g, z.1, by unfold PySem.W.notCls; rw [hd] <;> rfl, by rw [z.2]; exact ho⟩
/-- isinstance of a tracked error -/
def rIsErr (K : PySem.W.Frag) : List V → Hp → VK → Prop := fun xs H Q => ∃ (a C dd : Addr) (fs : List (Str × V)) (c : V) (cv : Value) (b : Bool), xs = [.ref a, c] ∧ H a = some (ErrV C (some dd) a) ∧ H dd = some (.xd fs) ∧ ErrC K C ∧ (∀ u, RelV c u → u = cv) ∧ PySem.W.kitOne K (.ref C) cv = some b ∧ Q (.bl b) H
theorem call_isErr : CallR X (.builtin "isinstance") (rIsErr X.K) := by
  intro pp t τ G xs us; intro Q J r h
  obtain ⟨a, C, dd, fs, c, cv, b, rfl, ea, ed, T, hcv, e, q⟩ := h
  cases r with
  | cons rx rr =>
    cases rr with
    | cons rt rr =>
      cases rr; cases rx
      have ec := hcv _ rt; subst ec
      obtain ⟨oe, od, W⟩ := errV_some J ea ed
      exact PySem.W.kia_one (PySem.W.kitx_exc T.cl T.ga T.gt T.be T.kc T.kg T.kt T.ob) J.kIn W e (fun z => nomatch z) fun tk => ⟨.bl b, G, J.kept (t' := tk) fun _ _ z => z, rfl, q⟩
end
end HX
set_option Elab.async false
set_option linter.all false
set_option maxRecDepth 100000
set_option maxHeartbeats 4400000
namespace HX
open L2 PyProof.Rows PySem.Spec PySem
/-- as wAs, but behind the suite the caught error is a tracked value -/
def wKp (K : PySem.W.Frag) (c : Value) (i : Nat) (ts : Addr → Value → Option Addr → TS) (Wout : WX) (D : Ends) : WX := fun cls d σ H => ∃ b, PySem.W.exmOne K cls c = some b ∧ (b = false → Wout cls d σ H) ∧
  (b = true → ∃ C, cls = .ref C ∧ ∀ a, H a = none → ts a cls d { D with nx := fun σ' H' => D.nx (σ'.set i none) (upd H' a (ErrV C d a)), bk := fun σ' H' => D.bk (σ'.set i none) H', ct := fun σ' H' => D.ct (σ'.set i none) H' } (σ.set i (some (.ref a))) H)
section
variable {X : Cx} {x n : Str} {c : Value} {i : Nat} {b₀ : Stmt} {body suite : List Stmt} {np pos pos' : Pos} {tb : WX → TS} {ts : Addr → Value → Option Addr → TS} {Wout : WX}
theorem ps_try_keep (hs : X.stack = X.env :: X.outer) (hf : X.env.frame = some X.env.locals) (hN : X.N.Nodup) (hi : X.N[i]? = some n) (hln : X.env.kindOf n = some .local) (hc : Names X x c) (tk : Takes X Wout) (hex : X.ex = [])
    (hb : ∀ (W : WX) (pn : List (Addr × Obj)) (xe : Value → Shared → Prop), Takes (X.tr pn xe) W → PassesOwn (model X.prog X.w) X.A X.env xe → PSs (X.tr pn xe) body (tb W))
    (hsu : ∀ (a : Addr) (oe : Obj) (cls : Value) (d : Option Addr) (pn : List (Addr × Obj)), Zc cls d oe → (∃ vs, oe.data = .fields vs) → PSs (X.suite a ((a, oe) :: pn)) (b₀ :: suite) (ts a cls d)) :
    PS X (.Try body [.ExceptHandler (some (.Name x np)) (some n) (b₀ :: suite) pos'] [] [] pos) (fun D σ H => tb (wKp X.K c i ts Wout D) D σ H) := by
  refine ⟨fun pp t0 τ G D J0 w0 => ?_⟩
  have ok := J0.ok
  have fr : X.A.frames = some (X.env :: X.outer) := by rw [ok.frames, hs]
  let land : Value → Shared → Prop := fun e t => wpAny (model X.prog X.w) X.A (noteFrame e X.env) (fun _ t => wpAny (model X.prog X.w) X.A (setFlight e none) (fun _ t => wpAny (model X.prog X.w) X.A (handleBy e X.env [.ExceptHandler (some (.Name x np)) (some n) (b₀ :: suite) pos']) (SP X pp D) X.xe t) X.xe t) X.xe t
  have caught : Takes (X.tr (X.pn ++ pp) land) (wKp X.K c i ts Wout D) := by
    rintro u t ⟨a, B, tI, _, τ1, G1, cls, d, rfl, J1', nb, up, sky, na, os, ag, b, hb1, hno, hyes⟩
    have J1 : L2.Inv X pp τ1 G1 tI := J1'.ofTry ok
    have sky1 : Sky B (X.env :: X.outer) a (Zc cls d) X.env.locals t.heap := by rw [← hs]; exact sky
    refine Sky.land Zc.steady fr hf sky1 fun h3 fl3 up3 => ?_
    have J3 : L2.Inv X pp τ1 G1 { t with heap := h3 } := J1.landed nb fl3.1 (up.trans up3) os ag
    obtain ⟨oe3, vs3, he3, hz3, hd3⟩ := fl3.there
    have noF : a ∉ frs (X.env :: X.outer) := fun hm => by
      obtain ⟨_, o1, e1, z⟩ := fl3.2.2.1.mem hm
      rw [he3] at e1; cases e1; exact z _ hd3
    have nL : a ≠ X.env.locals := fun z => noF (List.mem_filterMap.mpr ⟨X.env, List.mem_cons_self, by rw [hf, z]⟩)
    have nO : a ∉ X.fs := fun hm => let ⟨e, he, q⟩ := List.mem_filterMap.mp hm; noF (List.mem_filterMap.mpr ⟨e, List.mem_cons_of_mem _ he, q⟩)
    have nB : B.get? a = none := fl3.2.1
    have nI : ∀ o, tI.heap.get? a ≠ some o := fun o e => by
      have z := nb a o e (by rw [hs]; exact noF)
      rw [nB] at z; cases z
    have n0 : X.s_0.heap.get? a = none := by
      cases e : X.s_0.heap.get? a with
      | none => rfl
      | some o => obtain ⟨o1, z⟩ := J1.base.there a o e (by rw [hex]; exact List.not_mem_nil); exact absurd z (nI o1)
    have noPin : ∀ p ∈ X.pn ++ pp, p.1 ≠ a := fun p hp z => nI p.2 (by rw [← z]; exact (J1.pin p hp).1)
    have S3 := J3.suite he3 hd3 na nL nO
    refine wpAny_handleBy_cons (codeAny_handlers_test ?_) (by intro q; cases q)
    have ty : PySem.W.Looks (model X.prog X.w) h3 (typeOf (.ref a)) cls := fun A Q E s k q => wpAny_typeOf_ref (k _ _ he3) (by rw [hz3.1]; exact q)
    have ans := PySem.W.exm_one (M := model X.prog X.w) J3.kIn ty hb1
    have named : ∀ {Q E : Value → Shared → Prop}, Q c { t with heap := h3 } → wpAny (model X.prog X.w) (X.A.mark (some (.ref a))) (eval (.Name x np) X.env) Q E { t with heap := h3 } := fun {Q E} q => by
      obtain ⟨hg, nd, hm | ⟨hm, hv, nn⟩⟩ := hc
      · exact ld_glob (X := X.suite a ((a, oe3) :: (X.pn ++ pp))) S3 hg hm q nd
      · exact ld_blt (X := X.suite a ((a, oe3) :: (X.pn ++ pp))) S3 hg hm hv q nn nd
    refine named (ans.here ?_)
    cases b with
    | false =>
      show wpAny _ X.A (handleBy (.ref a) X.env []) _ _ _
      refine wpAny_handleBy_nil ?_
      have on : wpAny (model X.prog X.w) X.A (setFlight (.ref a) X.env.frame) (fun _ t4 => wpAny (model X.prog X.w) X.A (throw (.ref a) : Sem Flow) (SP X pp D) X.xe t4) X.xe { t with heap := h3 } := by
        rw [hf]
        exact HandSPX.setFlight_upZ fl3 fun h4 held up4 => wpAny_throw (tk _ _ ⟨a, B, tI, pp, τ1, G1, cls, d, rfl, J1, nb, (up.trans up3).trans up4, .inr (.inr (by rw [hs]; exact held)), na, os, ag, hno rfl⟩)
      obtain ⟨_, _, _, oe, vs, T, _, _, he, _, hd, h1, _⟩ := id fl3
      unfold PySem.passOn
      refine wpAny_bind (wpAny_field he hd h1 ?_)
      rw [if_neg (show ¬ ((Value.ref T == Value.none) = true) from by simp)]
      first | exact wpAny_bind (wpAny_pure (wpAny_bind on)) | exact wpAny_bind on
    | true =>
      obtain ⟨C, ec, yes⟩ := hyes rfl
      subst ec
      refine codeAny_handlers_suite_as (HandSPX.lands_againZ fl3 fun h4 fl4 up4 => ?_)
      have J4 : L2.Inv X pp τ1 G1 { t with heap := h4 } := J1.landed nb fl4.1 ((up.trans up3).trans up4) os ag
      obtain ⟨oe4, vs4, he4, hz4, hd4⟩ := fl4.there
      refine store_ok (X := X.suite a ((a, oe4) :: (X.pn ++ pp))) (v := .ref a) (J4.suite he4 hd4 na nL nO) hN hi (.inl hln) rfl (fun t5 S5 => ?_) (.inr hln)
      refine wpAny_mono ((hsu a oe4 (.ref C) d (X.pn ++ pp) hz4 ⟨_, hd4⟩).run [] t5 _ G1 _ S5 (yes a na)) (fun f t6 r => ?_) (fun _ _ z => False.elim z)
      have plain : ∀ {τ6 : L2.St} {G6 : Hp} {Q : Shared → Prop}, L2.Inv (X.suite a ((a, oe4) :: (X.pn ++ pp))) [] τ6 G6 t6 → (∀ t7, L2.Inv X pp (τ6.set i none) G6 t7 → Q t7) →
          wpAny (model X.prog X.w) X.A (do bindName X.env n .none; unbindBehindTheSuite X.env n pos') (fun _ t7 => Q t7) X.xe t6 := fun S6 k => gone_ok (S6.unsuite ok) hN hi hln k
      match f, r with
      | .next, ⟨τ6, G6, S6, q6⟩ =>
        have U : L2.Inv X ((a, oe4) :: pp) τ6 G6 t6 := { ok := ok, os := S6.os, bare := S6.bare, base := S6.base, loc := S6.loc, cell := S6.cell, free := S6.free, freeC := S6.freeC, hok := S6.hok, len := S6.len, pin := fun p hp => S6.pin p (by
          rcases List.mem_append.mp hp with h | h
          · exact List.mem_append_left _ (List.mem_cons_of_mem _ (List.mem_append_left _ h))
          · rcases List.mem_cons.mp h with h | h
            · rw [h]; exact List.mem_append_left _ List.mem_cons_self
            · exact List.mem_append_left _ (List.mem_cons_of_mem _ (List.mem_append_right _ h))) }
        exact gone_ok U hN hi hln fun t7 J7 => ⟨_, _, keepErr J7 n0 noPin hz4 hd4, q6⟩
      | .brk, ⟨τ6, G6, S6, q6⟩ => exact plain S6 fun t7 J7 => ⟨_, _, J7, q6⟩
      | .cont, ⟨τ6, G6, S6, q6⟩ => exact plain S6 fun t7 J7 => ⟨_, _, J7, q6⟩
      | .ret u, ⟨v6, τ6, G6, S6, r6, q6⟩ => exact plain S6 fun t7 J7 => ⟨_, _, _, J7, r6, q6⟩
  refine wpAny_Try_except (wpAny_mono ((hb _ (X.pn ++ pp) land caught PassesOwn.looking).run [] t0 τ G D (J0.toTry _) w0) (fun f t1 r => ?_) (fun e t1 z => z))
  match f, r with
  | .next, ⟨τ1, G1, J1, q⟩ => exact wpAny_execs_nil ⟨τ1, G1, J1.ofTry ok, q⟩
  | .brk, ⟨τ1, G1, J1, q⟩ => exact ⟨τ1, G1, J1.ofTry ok, q⟩
  | .cont, ⟨τ1, G1, J1, q⟩ => exact ⟨τ1, G1, J1.ofTry ok, q⟩
  | .ret u, ⟨v, τ1, G1, J1, rv, q⟩ => exact ⟨v, τ1, G1, J1.ofTry ok, rv, q⟩
end
end HX
set_option Elab.async false
set_option linter.all false
set_option maxRecDepth 100000
set_option maxHeartbeats 4400000
namespace HX
open L2 PyProof.Rows PySem.Spec PySem
section
variable {X : Cx} {e : Expr} {es : List Expr} {ta : TA} {p pos : Pos} {x n : Str} {CX : CXT} {C fI : Addr} {k : Nat} {fd : FuncData} {ps : List Str} {sp : Sp} {te : TE} {pins : List (Addr × Obj)} {σ : L2.St} {H : Hp} {s : Shared}
/-- C(e, ..) of an own error with an own __init__, as a value -/
def tMkV (C : Addr) (sp : Sp) (t : TA) : TE := fun σ H Q => t σ H fun vs H1 => vs.length ≤ 1000 ∧ ∀ a, H1 a = none → sp (.ref a :: vs) (upd H1 a (exo a C none)) (fun v H2 => v = .non ∧ Q (.ref a) H2) (fun _ _ _ => False)
theorem pe_mkV (T : OexC X.K C) (iC : PySem.W.findIn X.K (.ref C) "__init__" = some (some (.ref fI))) (tI : PySem.W.typeIn X.K (.ref fI) = some (.type "function")) (F1 : FnOk X.prog X.w X.K X.mg X.base CX k fI fd ps sp) (hr : Room (k + 1) X.A) (hb : Binds X.K fd ps [])
    (hx : Passes CX X (fun _ _ _ => False)) (hg : Gl X x) (hm : X.mg x = some (.ref C)) (ha : PA X (e :: es) ta) (nd : (x == ("__debug__" : Str)) = false := by decide)
    (hst : starEach (e :: es) X.env = (false, eval e X.env) :: starEach es X.env := by rfl) (hpl : (backTo pos (starEach es X.env)).any (·.1) = false := by rfl) : PE X (.Call (.Name x p) (e :: es) [] pos) (tMkV C sp ta) := by
  refine ⟨fun pp t0 τ G R J w => wpAny_Call_Name_kw (ld_glob J hg hm ?_ nd)⟩
  obtain ⟨nm, q, N, bs, bm, sn, sub, ab, col, dd, k0, k1, k2, k3, k5, hC, hbm⟩ := T.cls
  refine PySem.W.callWith_K (h₀ := X.base) J.ok.mod.kin T.kC (thn (ha.run pos pp t0 τ G _ J w) fun us t1 ⟨vs, G1, J1, r1, few, q1⟩ => ⟨J1.kIn, ?_⟩) hst hpl
  show wpAny _ _ (call (.ref C) us) _ _ _
  obtain ⟨hp, g, dr, tk, os⟩ := t1
  let a := hp.objs.size + 1
  let h2 : Heap := (hp.push (PySem.W.kdv_tup us)).push (PySem.HandSPX.excO C hp.objs.size)
  have na : G1 a = none := J1.hok.fresh (Nat.le_succ _)
  have want := q1 a na
  have got : h2.get? a = some (PySem.HandSPX.excO C hp.objs.size) := by show ((hp.push (PySem.W.kdv_tup us)).push (PySem.HandSPX.excO C hp.objs.size)).get? (hp.objs.size + 1) = _; heap_get
  have J2 : L2.Inv X pp τ (upd G1 a (exo a C none)) ⟨h2, g, dr, tk, os⟩ := J1.laid (t' := tk) (a := a) (o := exo a C none) (h' := h2) (fun b o y => Heap.get?_push_of_some _ (Heap.get?_push_of_some _ y)) (Nat.le_succ _) (exo_ok got)
  have r2 : Vals (V.ref a :: vs) (Value.ref a :: us) := .cons rfl r1
  have nps : (Value.ref a :: us ++ []).length = ps.length := by rw [List.append_nil, ← r2.length]; exact F1.len _ _ _ _ want
  have nus : us.length ≤ sizeLine := by rw [← Paired.length r1, sizeLine_eq]; omega
  have bound := hb _ (Value.ref a :: us) J2.kIn nps; rw [List.append_nil] at bound
  refine wpAny_call (PySem.HandSPX.call_own F.excBase_ValueError (fun Y => PySem.HandSPX.refsVE_contains Y bm hbm) (J1.kIn _ _ hC) (PySem.W.looks_findIn J1.kIn iC) (fun self => PySem.W.bind_fn J1.kIn self tI) nus
    (codeAny_mono (F1.run _ X.stack _ _ ⟨Value.ref a :: us, []⟩ (Value.ref a :: us) _ _ (fun _ _ _ => False) (hr.make C us []) (J2.env0.make C us []) bound r2 want) fun z t2 w2 => ?_))
  match z, w2 with
  | .ok (.ret u), w2 =>
    obtain ⟨v, G2, J3, rv, ev, q2⟩ := J2.after w2
    subst ev
    exact ⟨rv, .ref a, G2, J3, rfl, q2⟩
  | .ok .next, w2 | .ok .brk, w2 | .ok .cont, w2 => exact False.elim w2
  | .error er, w2 => exact hx pp τ _ _ er t2 J2 w2
/-- an error of the class at C with these fields: one that was made, or one that was caught -/
def ErrIs (H : Hp) (C a : Addr) (fs : List (Str × V)) : Prop := ∃ dd, (H a = some (ErrV C (some dd) a) ∧ H dd = some (.xd fs)) ∨ (H a = some (exo a C (some dd)) ∧ H dd = some (exd dd fs))
theorem errIs_inst {a : Addr} {fs : List (Str × V)} (J : L2.Inv X pins σ H s) (h : ErrIs H C a fs) : ∃ (oe od : Obj) (mA : Str → Option Value), PySem.W.InstAt s.heap a oe C (some od) ∧ (∀ f, PySem.W.lookIn f od = some (mA f)) ∧ ∀ f, RelO (fs.lookup f) (mA f) := by
  obtain ⟨dd, ⟨ea, ed⟩ | ⟨ea, ed⟩⟩ := h
  · obtain ⟨oe, vs, g, z, hd⟩ := errV_at J.hok ea
    obtain ⟨mA, hns, hr⟩ : ObjOk X.prog X.w H s.heap dd (.xd fs) := J.hok dd _ ed
    obtain ⟨od, ho, hl⟩ := lookIn_ns hns
    exact ⟨oe, od, mA, ⟨g, z.1, by unfold PySem.W.notCls; rw [hd] <;> rfl, by rw [z.2]; exact ho⟩, hl, hr⟩
  · obtain ⟨t0, g⟩ := exo_at J.hok ea
    obtain ⟨mA, hns, hr⟩ := exd_at J.hok ed
    obtain ⟨od, ho, hl⟩ := lookIn_ns hns
    exact ⟨_, od, mA, ⟨g, rfl, by unfold PySem.W.notCls; rfl, ho⟩, hl, hr⟩
/-- e.n of such an error -/
def tErrN (C : Addr) (n : Str) (te : TE) : TE := fun σ H Q => te σ H fun x H1 => ∃ (a : Addr) (fs : List (Str × V)) (v : V), x = .ref a ∧ ErrIs H1 C a fs ∧ fs.lookup n = some v ∧ Q v H1
theorem pe_errN (T : XfC X.K C) (hno : PySem.W.findIn X.K (.ref C) n = some none) (he : PE X e te) (hb : attributeBase e n X.env (eval e X.env) = eval e X.env := by rfl) : PE X (.Attribute e n pos) (tErrN C n te) := by
  refine ⟨fun pp t τ G R J w => attr_of hb (thn (he.run pp t τ G _ J w) fun u t1 ⟨x, G1, J1, rx, a, fs, v, ex, ea, l, q⟩ => ?_)⟩
  subst ex
  have eu : u = Value.ref a := rx; subst eu
  obtain ⟨oe, od, mA, W, hl, hr⟩ := errIs_inst J1 ea
  obtain ⟨u, hu, ru⟩ := RelO.some_of (v := v) (o := mA n) (by rw [← l]; exact hr n)
  exact HandSPX.exc_get J1.kIn W T.ga T.gg T.exC (PySem.W.findObj_own T.hdC hno rfl (by rw [hl, hu])) (handed_of ru) ⟨v, G1, J1.tok _, ru, q⟩
/-- isinstance of such an error -/
def rIsN (K : PySem.W.Frag) : List V → Hp → VK → Prop := fun xs H Q => ∃ (a C : Addr) (fs : List (Str × V)) (c : V) (cv : Value) (b : Bool), xs = [.ref a, c] ∧ ErrIs H C a fs ∧ ErrC K C ∧ (∀ u, RelV c u → u = cv) ∧ PySem.W.kitOne K (.ref C) cv = some b ∧ Q (.bl b) H
theorem call_isN : CallR X (.builtin "isinstance") (rIsN X.K) := by
  intro pp t τ G xs us; intro Q J r h
  obtain ⟨a, C, fs, c, cv, b, rfl, ea, T, hcv, e, q⟩ := h
  cases r with
  | cons rx rr =>
    cases rr with
    | cons rt rr =>
      cases rr; cases rx
      have ec := hcv _ rt; subst ec
      obtain ⟨oe, od, _, W, _⟩ := errIs_inst J ea
      exact PySem.W.kia_one (PySem.W.kitx_exc T.cl T.ga T.gt T.be T.kc T.kg T.kt T.ob) J.kIn W e (fun z => nomatch z) fun tk => ⟨.bl b, G, J.kept (t' := tk) fun _ _ z => z, rfl, q⟩
end
end HX
set_option Elab.async false
set_option linter.all false
set_option maxRecDepth 100000
set_option maxHeartbeats 4400000
namespace PySem.HXk
open PySem PySem.HandSPX Builtin Builtin.ObjectAttr
/-- at C stands the class of an own error that hangs on ValueError; bm: what its mro has behind it -/
def Own (hp : Heap) (C : Addr) (bm : List Value) : Prop := ∃ nm q N bs sn sub ab col dd k0 k1 k2 k3 k5, hp.get? C = some (excClassObj nm q C N bs bm true sn sub ab col dd k0 k1 k2 k3 k5 "ValueError.__new__") ∧ refsVE bm = true
/-- C(k = v, ..) of such a class with an own __init__: the object is made without the keywords, which go to __init__ -/
theorem made_by_keyword {pr : Program} {wd : World} {Ar : Around} {Rs : Result → Shared → Prop} {hp : Heap} {gs : Array GenState} {dr : Drawn} {tk : Nat} {os : OsState} {C fI : Addr} {bm : List Value} {ks : List (Str × Value)}
    (cl : Own hp C bm) (ini : W.Looks (model pr wd) hp (typeLookup (.ref C) "__init__") (some (.ref fI))) (bnd : ∀ self, W.Looks (model pr wd) hp (bindSpecial (.ref fI) self) (.ref fI, [self]))
    (go : codeAny (model pr wd) (Ar.under (.builtin "type.__call__" ⟨[.ref C], ks⟩)) (.call (.ref fI) ⟨[.ref (hp.objs.size + 1)], ks⟩) (W.InitBack (hp.objs.size + 1) Rs) ⟨(hp.push (W.kdv_tup [])).push (excO C hp.objs.size), gs, dr, tk, os⟩) :
    codeAny (model pr wd) Ar (.call (.ref C) ⟨[], ks⟩) Rs ⟨hp, gs, dr, tk, os⟩ := by
  obtain ⟨nm, q, N, bs, sn, sub, ab, col, dd, k0, k1, k2, k3, k5, at_, rv⟩ := cl
  have Z := F.excBase_ValueError
  have has : ∀ Y : String, (Value.ref C :: bm).contains (.type Y) = veTail.contains (.type Y) := fun Y => by rw [List.contains_cons, refsVE_contains Y bm rv]; rfl
  have ty : W.Looks (model pr wd) hp (typeOf (.ref C)) (.type "type") := fun _ _ _ _ kp qq => wpAny_typeOf_ref (kp _ _ at_) qq
  have lk := tc_lookup
  have bd := tc_bind (.ref C)
  have tyIs : (⟨hp, gs, dr, tk, os⟩ : Shared).TypeIs (.ref C) "type" := ⟨_, at_, rfl⟩
  -- the call's own check, then its body
  have core : wpAny (model pr wd) (Ar.under (.builtin "type.__call__" ⟨[.ref C], ks⟩)) (Builtin.«type.__call__» ⟨[.ref C], ks⟩) (fun z s' => match z with | .done r => Rs (.ok r) s' | .again c => c.quiet = true ∧ codeAny (model pr wd) Ar c Rs s') (fun e s' => Rs (.error e) s') ⟨hp, gs, dr, tk, os⟩ := by
    repeat (first | with_reducible refine wpAny_loadPart_at at_ ?_ | with_reducible refine wpAny_madeBy_exc at_ ?_ | wp_step)
    refine codeAny_call_builtin_code (Code.quiet_builtin _ Z.quiet) ?_
    have star := Z.noStar
    simp only [checkBuiltinCall, Z.newKind, Z.newSplit, Z.newRow]
    repeat (first | refine wpAny_loadPart_at at_ ?_ | (refine wpAny_isSubtype_exc at_ ?_; rw [has]) | refine wpAny_staticBase_exc at_ ?_ | refine wpAny_madeBy_exc at_ ?_ | simp only [bne_self_eq_false, Bool.false_eq_true, if_false] | wp_step)
    have ends := Z.ends
    refine codeAny_builtinAt Z.entry (wpAt_bind ?_)
    (show wpAt _ _ _ (stack >>= _) _ _ _); refine wpAt_bind (wpAt_stack fun _ _ => wpAt_of_wpAny ?_)
    wp_walk
    refine wpAt_of_wpAny ?_
    rw [Z.owner]
    repeat (first | with_reducible refine wpAny_madeHere_exc Z.canon at_ ?_ | with_reducible refine wpAny_loadPart_at at_ ?_ | (with_reducible refine wpAny_isSubtype_exc at_ ?_; rw [has]) | wp_step)
    have keep : ∀ b o, hp.get? b = some o → ((hp.push (W.kdv_tup [])).push (excO C hp.objs.size)).get? b = some o := fun _ _ y => Heap.get?_push_of_some _ (Heap.get?_push_of_some _ y)
    refine wpAny_isSubtype_exc (keep _ _ at_) ?_
    rw [show (Value.ref C :: bm).contains (.ref C) = true from by simp]
    repeat (first | wp_step)
    rw [← show (hp.push (W.kdv_tup [])).objs.size = hp.objs.size + 1 from Heap.size_push _ _] at go
    refine (ini.keeps keep).at (wpAny_holding (wpAny_bind (((bnd (.ref (hp.push (W.kdv_tup [])).objs.size)).keeps keep).at (wpAny_bind (wpAny_call (codeAny_mono go fun z s' y => ?_))))))
    rcases z with e | (v | _ | _ | _) <;> first | exact y | exact y.elim | skip
    obtain ⟨rfl, y⟩ := y
    first
      | exact wpAny_pure (wpAny_pure y)
      | (wp_walk; exact y)
  refine codeAny_of_tree (show wpAny _ _ (callAny (.ref C) _) _ _ _ from ?_)
  repeat (any_goals (first | assumption | with_reducible refine wpAny_loadPart_at at_ ?_ | wp_step))
  refine ⟨rfl, codeAny_call_builtin_at (Code.quiet_builtin _ (by decide +kernel)) entry_typeCall (W.check_slot tc_kind tc_split ?_ (W.tc_args _ _ _) ?_)⟩
  · unfold isInstance
    exact ty.andThen (.of_pure (by kernel_rfl))
  · exact core
end PySem.HXk
namespace HX
open L2 PyProof.Rows PySem.Spec PySem
theorem ErrIs.ex {H H' : Hp} {C a : Addr} {fs : List (Str × V)} (h : ErrIs H C a fs) (e : Ex H H') : ErrIs H' C a fs := let ⟨dd, q⟩ := h; ⟨dd, q.elim (fun ⟨x, y⟩ => .inl ⟨e _ _ x, e _ _ y⟩) (fun ⟨x, y⟩ => .inr ⟨e _ _ x, e _ _ y⟩)⟩
/-- an own error's __init__ that keeps what it gets under n -/
def spEI (C : Addr) (n : Str) : Sp := fun vs H Q _ => ∃ (a : Addr) (v : V), vs = [.ref a, v] ∧ H a = some (exo a C none) ∧ ∀ dx, H dx = none → dx ≠ a → Q .non (upd (upd H dx (exd dx [(n, v)])) a (exo a C (some dx)))
/-- what is asked of such a class -/
structure ErrT (K : PySem.W.Frag) (mg : Str → Option Value) (x n : Str) (C f : Addr) (d : FuncData) : Prop where
  oex : OexC K C
  xf : XfC K C
  er : ErrC K C
  no : PySem.W.findIn K (.ref C) n = some none
  ini : PySem.W.findIn K (.ref C) "__init__" = some (some (.ref f))
  fn : PySem.W.typeIn K (.ref f) = some (.type "function")
  b : Binds K d ["self", n] []
  kb : ∀ (s : Shared) (a u : Value), K.In s.heap → BindsTo s d ⟨[a], [(n, u)]⟩ [("self", a), (n, u)]
  m : mg x = some (.ref C)
section
variable {X : Cx} {e : Expr} {p pos kpos : Pos} {x n : Str} {C f : Addr} {d : FuncData} {te : TE} {k : Nat}
theorem err_of {H : Hp} {a dx C : Addr} {n : Str} {v : V} (na : H a = none) (nd : (upd H a (exo a C none)) dx = none) (ne : dx ≠ a) : Ex H (upd (upd (upd H a (exo a C none)) dx (exd dx [(n, v)])) a (exo a C (some dx))) ∧ ErrIs (upd (upd (upd H a (exo a C none)) dx (exd dx [(n, v)])) a (exo a C (some dx))) C a [(n, v)] := by
  refine ⟨fun b o hb => ?_, dx, .inr ⟨upd_same, by rw [upd_ne ne, upd_same]⟩⟩
  have h1 : b ≠ a := ne_of_none hb na
  have h2 : (upd H a (exo a C none)) b = some o := by rw [upd_ne h1]; exact hb
  have h3 : b ≠ dx := ne_of_none h2 nd
  rw [upd_ne h1, upd_ne h3]; exact h2
/-- C(e), the error as a value -/
def tMkE (C : Addr) (n : Str) (te : TE) : TE := fun σ H Q => te σ H fun v H1 => ∀ (a : Addr) (H2 : Hp), H1 a = none → Ex H1 H2 → ErrIs H2 C a [(n, v)] → Q (.ref a) H2
theorem pe_mkE (T : ErrT X.K X.mg x n C f d) (F1 : FnOk X.prog X.w X.K X.mg X.base CX0 k f d ["self", n] (spEI C n)) (hr : Room (k + 1) X.A) (hg : Gl X x) (he : PE X e te) (nd : (x == ("__debug__" : Str)) = false := by decide)
    (hst : starEach [e] X.env = (false, eval e X.env) :: starEach [] X.env := by rfl) (hpl : (backTo pos (starEach [] X.env)).any (·.1) = false := by rfl) : PE X (.Call (.Name x p) [e] [] pos) (tMkE C n te) := by
  refine ⟨fun pp t0 τ G R J w => wpAny_Call_Name_kw (ld_glob J hg T.m ?_ nd)⟩
  obtain ⟨nm, q, N, bs, bm, sn, sub, ab, col, dd, k0, k1, k2, k3, k5, hC, hbm⟩ := T.oex.cls
  refine PySem.W.callWith_K (h₀ := X.base) J.ok.mod.kin T.oex.kC (thn ((pa_cons (hs := hst) he pa_nil).run pos pp t0 τ G (fun vs H1 => match vs with | [v] => ∀ (a : Addr) (H2 : Hp), H1 a = none → Ex H1 H2 → ErrIs H2 C a [(n, v)] → R (.ref a) H2 | _ => False) J w) fun us t1 ⟨vs, G1, J1, r1, q1⟩ => ⟨J1.kIn, ?_⟩) hst hpl
  (show wpAny _ _ (call (.ref C) us) _ _ _); match vs, q1, r1 with
  | [v], q1, .cons (b := u) ru .nil =>
  obtain ⟨hp, g, dr, tk, os⟩ := t1
  let a := hp.objs.size + 1
  let h2 : Heap := (hp.push (PySem.W.kdv_tup [u])).push (PySem.HandSPX.excO C hp.objs.size)
  have na : G1 a = none := J1.hok.fresh (Nat.le_succ _)
  have got : h2.get? a = some (PySem.HandSPX.excO C hp.objs.size) := by show ((hp.push (PySem.W.kdv_tup [u])).push (PySem.HandSPX.excO C hp.objs.size)).get? (hp.objs.size + 1) = _; heap_get
  have J2 : L2.Inv X pp τ (upd G1 a (exo a C none)) ⟨h2, g, dr, tk, os⟩ := J1.laid (t' := tk) (a := a) (o := exo a C none) (h' := h2) (fun b o y => Heap.get?_push_of_some _ (Heap.get?_push_of_some _ y)) (Nat.le_succ _) (exo_ok got)
  have want : spEI C n [.ref a, v] (upd G1 a (exo a C none)) (fun w H2 => w = .non ∧ R (.ref a) H2) (fun _ _ _ => False) := ⟨a, v, rfl, upd_same, fun dx ndx ne => ⟨rfl, let ⟨e1, e2⟩ := err_of (v := v) (n := n) na ndx ne; q1 a _ na e1 e2⟩⟩
  have r2 : Vals [V.ref a, v] [Value.ref a, u] := .cons rfl (.cons ru .nil)
  have bound := T.b _ [Value.ref a, u] J2.kIn rfl; rw [List.append_nil] at bound
  refine wpAny_call (PySem.HandSPX.call_own F.excBase_ValueError (fun Y => PySem.HandSPX.refsVE_contains Y bm hbm) (J1.kIn _ _ hC) (PySem.W.looks_findIn J1.kIn T.ini) (fun self => PySem.W.bind_fn J1.kIn self T.fn) (by show 1 ≤ sizeLine; decide)
    (codeAny_mono (F1.run _ X.stack _ _ ⟨[Value.ref a, u], []⟩ [Value.ref a, u] _ _ (fun _ _ _ => False) (hr.make C [u] []) (J2.env0.make C [u] []) bound r2 want) fun z t2 w2 => ?_))
  match z, w2 with
  | .ok (.ret u), w2 =>
    obtain ⟨v, G2, J3, rv, ev, q2⟩ := J2.after w2
    subst ev
    exact ⟨rv, .ref a, G2, J3, rfl, q2⟩
  | .ok .next, w2 | .ok .brk, w2 | .ok .cont, w2 => exact False.elim w2
  | .error er, w2 => exact pass0 pp τ _ _ er t2 J2 w2
/-- C(n=e), the error as a value -/
theorem pe_mkEK (T : ErrT X.K X.mg x n C f d) (F1 : FnOk X.prog X.w X.K X.mg X.base CX0 k f d ["self", n] (spEI C n)) (hr : Room (k + 1) X.A) (hg : Gl X x) (he : PE X e te) (nd : (x == ("__debug__" : Str)) = false := by decide)
    (hall : (backToKw pos (keywordEach [⟨some n, e, kpos⟩] X.env)).all (·.1.isSome) = true := by rfl) (hks : (backToKw pos (keywordEach [⟨some n, e, kpos⟩] X.env)).filterMap (·.1) = [n] := by rfl)
    (hpl : ((backTo pos (starEach [] X.env)).any (·.1) || (backToKw pos (keywordEach [⟨some n, e, kpos⟩] X.env)).any (·.1.isNone)) = false := by rfl) : PE X (.Call (.Name x p) [] [⟨some n, e, kpos⟩] pos) (tMkE C n te) := by
  refine ⟨fun pp t0 τ G R J w => wpAny_Call_Name_kw (ld_glob J hg T.m ?_ nd)⟩
  obtain ⟨nm, q, N, bs, bm, sn, sub, ab, col, dd, k0, k1, k2, k3, k5, hC, hbm⟩ := T.oex.cls
  refine PySem.W.callWith_KW0 (h₀ := X.base) J.ok.mod.kin T.oex.kC hall ?_ hpl
  refine thn ((pk_cons (nm := some n) he pk_nil).run pos pp t0 τ G (fun vs H1 => match vs with | [v] => ∀ (a : Addr) (H2 : Hp), H1 a = none → Ex H1 H2 → ErrIs H2 C a [(n, v)] → R (.ref a) H2 | _ => False) J w) fun us t1 ⟨vs, G1, J1, r1, q1⟩ => ⟨J1.kIn, ?_⟩
  rw [hks]
  match vs, q1, r1 with
  | [v], q1, .cons (b := u) ru .nil =>
  show wpAny _ _ (call (.ref C) [] [(n, u)]) _ _ _
  obtain ⟨hp, g, dr, tk, os⟩ := t1
  let a := hp.objs.size + 1
  let h2 : Heap := (hp.push (PySem.W.kdv_tup [])).push (PySem.HandSPX.excO C hp.objs.size)
  have na : G1 a = none := J1.hok.fresh (Nat.le_succ _)
  have got : h2.get? a = some (PySem.HandSPX.excO C hp.objs.size) := by show ((hp.push (PySem.W.kdv_tup [])).push (PySem.HandSPX.excO C hp.objs.size)).get? (hp.objs.size + 1) = _; heap_get
  have J2 : L2.Inv X pp τ (upd G1 a (exo a C none)) ⟨h2, g, dr, tk, os⟩ := J1.laid (t' := tk) (a := a) (o := exo a C none) (h' := h2) (fun b o y => Heap.get?_push_of_some _ (Heap.get?_push_of_some _ y)) (Nat.le_succ _) (exo_ok got)
  have want : spEI C n [.ref a, v] (upd G1 a (exo a C none)) (fun w H2 => w = .non ∧ R (.ref a) H2) (fun _ _ _ => False) := ⟨a, v, rfl, upd_same, fun dx ndx ne => ⟨rfl, let ⟨e1, e2⟩ := err_of (v := v) (n := n) na ndx ne; q1 a _ na e1 e2⟩⟩
  have r2 : Vals [V.ref a, v] [Value.ref a, u] := .cons rfl (.cons ru .nil)
  have bound := T.kb ⟨h2, g, dr, tk, os⟩ (.ref a) u J2.kIn
  refine wpAny_call (PySem.HXk.made_by_keyword ⟨nm, q, N, bs, sn, sub, ab, col, dd, k0, k1, k2, k3, k5, J1.kIn _ _ hC, hbm⟩ (PySem.W.looks_findIn J1.kIn T.ini) (fun self => PySem.W.bind_fn J1.kIn self T.fn)
    (codeAny_mono (F1.run _ X.stack _ _ ⟨[Value.ref a], [(n, u)]⟩ [Value.ref a, u] _ _ (fun _ _ _ => False) (hr.make C [] [(n, u)]) (J2.env0.make C [] [(n, u)]) bound r2 want) fun z t2 w2 => ?_))
  match z, w2 with
  | .ok (.ret u), w2 =>
    obtain ⟨v, G2, J3, rv, ev, q2⟩ := J2.after w2
    subst ev
    exact ⟨rv, .ref a, G2, J3, rfl, q2⟩
  | .ok .next, w2 | .ok .brk, w2 | .ok .cont, w2 => exact False.elim w2
  | .error er, w2 => exact pass0 pp τ _ _ er t2 J2 w2
/-- C() of an own error without an own __init__, as a value -/
def tMk0 (C : Addr) : TE := fun σ H Q => ∀ (a : Addr), H a = none → Q (.ref a) (upd H a (exo a C none))
theorem pe_mk0 (q : PySem.W.excIn X.K C [.type "ValueError", .type "Exception", .type "BaseException", .type "object"] "ValueError.__new__" = true) (gC : X.mg x = some (.ref C)) (kC : PySem.W.keepIn X.K (.ref C) = true) (hg : Gl X x) (nd : (x == ("__debug__" : Str)) = false := by decide) : PE X (.Call (.Name x p) [] [] pos) (tMk0 C) := by
  refine ⟨fun pp t0 τ G R J w => wpAny_Call_Name_kw (ld_glob J hg gC ?_ nd)⟩
  refine PySem.W.callWith_K0 J.kIn kC ?_
  obtain ⟨bm, N, nm, qn, bs, hdct, sn, sub, ab, col, dd, k0, k1, k2, k3, k5, mN, hC, hN, hni, T⟩ := exc_obj J.kIn q
  show wpAny _ _ (call (.ref C) []) _ _ _
  obtain ⟨hp, g, dr, tk, os⟩ := t0
  refine wpAny_call_exc_subT F.excBase_ValueError T hC hN hni (fun h' e hm => ?_) (by show 0 ≤ sizeLine; decide)
  obtain ⟨t, he, _, _⟩ := hm.there
  have na : G e = none := J.hok.gone hm.new
  exact ⟨.ref e, _, J.laidN (t' := tk) (a := e) (o := exo e C none) (h' := h') hm.keeps hm.new na (exo_ok he), rfl, w e na⟩
/-- an error, with a dict or without -/
def ErrAny (H : Hp) (C a : Addr) : Prop := (∃ fs, ErrIs H C a fs) ∨ H a = some (exo a C none)
theorem ErrAny.ex {H H' : Hp} {C a : Addr} (h : ErrAny H C a) (e : Ex H H') : ErrAny H' C a := h.elim (fun ⟨fs, z⟩ => .inl ⟨fs, z.ex e⟩) (fun z => .inr (e _ _ z))
def rIsA (K : PySem.W.Frag) : List V → Hp → VK → Prop := fun xs H Q => ∃ (a C : Addr) (c : V) (cv : Value) (b : Bool), xs = [.ref a, c] ∧ ErrAny H C a ∧ ErrC K C ∧ (∀ u, RelV c u → u = cv) ∧ PySem.W.kitOne K (.ref C) cv = some b ∧ Q (.bl b) H
theorem call_isA : CallR X (.builtin "isinstance") (rIsA X.K) := by
  intro pp t τ G xs us; intro Q J r h
  obtain ⟨a, C, c, cv, b, rfl, ea, T, hcv, e, q⟩ := h
  cases r with
  | cons rx rr =>
    cases rr with
    | cons rt rr =>
      cases rr; cases rx
      have ec := hcv _ rt; subst ec
      rcases ea with ⟨fs, ea⟩ | ea
      · obtain ⟨oe, od, _, W, _⟩ := errIs_inst J ea
        exact PySem.W.kia_one (PySem.W.kitx_exc T.cl T.ga T.gt T.be T.kc T.kg T.kt T.ob) J.kIn W e (fun z => nomatch z) fun tk => ⟨.bl b, G, J.kept (t' := tk) fun _ _ z => z, rfl, q⟩
      · obtain ⟨t0, g⟩ := exo_at J.hok ea
        have W : PySem.W.InstAt t.heap a _ C none := ⟨g, rfl, by unfold PySem.W.notCls; rfl, trivial⟩
        exact PySem.W.kia_one (PySem.W.kitx_exc T.cl T.ga T.gt T.be T.kc T.kg T.kt T.ob) J.kIn W e (fun z => nomatch z) fun tk => ⟨.bl b, G, J.kept (t' := tk) fun _ _ z => z, rfl, q⟩
end
end HX
set_option Elab.async false
set_option linter.all false
set_option maxRecDepth 100000
set_option maxHeartbeats 4400000
namespace HX
open L2 PyProof.Rows PySem.Spec PySem
section
variable {X : Cx} {e : Expr} {te : TE} {pos : Pos} {n : Str} {pins : List (Addr × Obj)} {σ : L2.St} {H : Hp} {s : Shared}
/-- e.n of an error of any such class -/
def tErrA (K : PySem.W.Frag) (n : Str) (te : TE) : TE := fun σ H Q => te σ H fun x H1 => ∃ (a C : Addr) (fs : List (Str × V)) (v : V), x = .ref a ∧ ErrIs H1 C a fs ∧ XfC K C ∧ PySem.W.findIn K (.ref C) n = some none ∧ fs.lookup n = some v ∧ Q v H1
theorem pe_errA (he : PE X e te) (hb : attributeBase e n X.env (eval e X.env) = eval e X.env := by rfl) : PE X (.Attribute e n pos) (tErrA X.K n te) := by
  refine ⟨fun pp t τ G R J w => attr_of hb (thn (he.run pp t τ G _ J w) fun u t1 ⟨x, G1, J1, rx, a, C, fs, v, ex, ea, T, hno, l, q⟩ => ?_)⟩
  subst ex
  have eu : u = Value.ref a := rx; subst eu
  obtain ⟨oe, od, mA, W, hl, hr⟩ := errIs_inst J1 ea
  obtain ⟨uv, hu, ru⟩ := RelO.some_of (v := v) (o := mA n) (by rw [← l]; exact hr n)
  exact HandSPX.exc_get J1.kIn W T.ga T.gg T.exC (PySem.W.findObj_own T.hdC hno rfl (by rw [hl, hu])) (handed_of ru) ⟨v, G1, J1.tok _, ru, q⟩
end
/-- errors of these classes, each with v under n -/
inductive Errs (H : Hp) (n : Str) (v : V) : List Addr → List V → Prop
  | nil : Errs H n v [] []
  | cons {C a : Addr} {Cs : List Addr} {xs : List V} : ErrIs H C a [(n, v)] → Errs H n v Cs xs → Errs H n v (C :: Cs) (.ref a :: xs)
theorem Errs.ex {H H' : Hp} {n : Str} {v : V} {Cs : List Addr} {xs : List V} (h : Errs H n v Cs xs) (e : Ex H H') : Errs H' n v Cs xs := by
  induction h with
  | nil => exact .nil
  | cons a _ ih => exact .cons (a.ex e) ih
theorem Errs.app {H : Hp} {n : Str} {v : V} {Cs Ds : List Addr} {xs ys : List V} (h : Errs H n v Cs xs) (k : Errs H n v Ds ys) : Errs H n v (Cs ++ Ds) (xs ++ ys) := by
  induction h with
  | nil => exact k
  | cons a _ ih => exact .cons a ih
theorem Errs.len {H : Hp} {n : Str} {v : V} {Cs : List Addr} {xs : List V} (h : Errs H n v Cs xs) : xs.length = Cs.length := by
  induction h with
  | nil => rfl
  | cons _ _ ih => simp [ih]
theorem Errs.get {H : Hp} {n : Str} {v : V} {Cs : List Addr} {xs : List V} (h : Errs H n v Cs xs) {i : Nat} {x : V} (e : xs[i]? = some x) : ∃ C a, Cs[i]? = some C ∧ x = .ref a ∧ ErrIs H C a [(n, v)] := by
  induction h generalizing i with -- the place moves
  | nil => simp at e
  | @cons C a Cs xs h1 _ ih =>
    cases i with
    | zero => simp at e; exact ⟨C, a, by simp, e.symm, h1⟩
    | succ i => simpa using ih (i := i) (by simpa using e)
/-- errors of these classes -/
inductive ErrsA (H : Hp) : List Addr → List V → Prop
  | nil : ErrsA H [] []
  | cons {C a : Addr} {Cs : List Addr} {xs : List V} : ErrAny H C a → ErrsA H Cs xs → ErrsA H (C :: Cs) (.ref a :: xs)
theorem ErrsA.ex {H H' : Hp} {Cs : List Addr} {xs : List V} (h : ErrsA H Cs xs) (e : Ex H H') : ErrsA H' Cs xs := by
  induction h with
  | nil => exact .nil
  | cons a _ ih => exact .cons (a.ex e) ih
theorem ErrsA.app {H : Hp} {Cs Ds : List Addr} {xs ys : List V} (h : ErrsA H Cs xs) (k : ErrsA H Ds ys) : ErrsA H (Cs ++ Ds) (xs ++ ys) := by
  induction h with
  | nil => exact k
  | cons a _ ih => exact .cons a ih
theorem ErrsA.len {H : Hp} {Cs : List Addr} {xs : List V} (h : ErrsA H Cs xs) : xs.length = Cs.length := by
  induction h with
  | nil => rfl
  | cons _ _ ih => simp [ih]
theorem ErrsA.get {H : Hp} {Cs : List Addr} {xs : List V} (h : ErrsA H Cs xs) {i : Nat} {x : V} (e : xs[i]? = some x) : ∃ C a, Cs[i]? = some C ∧ x = .ref a ∧ ErrAny H C a := by
  induction h generalizing i with -- the place moves
  | nil => simp at e
  | @cons C a Cs xs h1 _ ih =>
    cases i with
    | zero => simp at e; exact ⟨C, a, by simp, e.symm, h1⟩
    | succ i => simpa using ih (i := i) (by simpa using e)
theorem Errs.any {H : Hp} {n : Str} {v : V} {Cs : List Addr} {xs : List V} (h : Errs H n v Cs xs) : ErrsA H Cs xs := by
  induction h with
  | nil => exact .nil
  | cons a _ ih => exact .cons (.inl ⟨_, a⟩) ih
/-- lists of one text over and over -/
theorem dp_rep {K : PySem.W.Frag} {H : Hp} (x : Str) : ∀ n : Nat, DpAll K H (List.replicate n (.str x)) (List.replicate n (.str x))
  | 0 => .nil
  | n + 1 => .cons (.str x) (dp_rep x n)
theorem lay_rep (x : Str) (hx : PyData.strOk x = true) : ∀ n : Nat, PyData.canLayAll0 (List.replicate n (.str x)) = true ∧ PyData.depthAll (List.replicate n (PyData.str x)) ≤ 1
  | 0 => by simp [PyData.canLayAll0, PyData.depthAll]
  | n + 1 => by
    obtain ⟨a, b⟩ := lay_rep x hx n
    simp only [List.replicate_succ, PyData.canLayAll0, PyData.canLay0, PyData.depthAll, PyData.depth, a, hx]
    exact ⟨by first | rfl | trivial, by omega⟩
theorem shaped_rep (x : Str) (hx : PyData.strOk x = true) (n : Nat) : SeqAt.shaped (.list (List.replicate n (.str x))) = true := by
  obtain ⟨a, b⟩ := lay_rep x hx n
  unfold SeqAt.shaped
  rw [show PyData.canLay0 (.list (List.replicate n (.str x))) = PyData.canLayAll0 (List.replicate n (.str x)) from by simp only [PyData.canLay0], a]
  have d : (PyData.list (List.replicate n (.str x))).depth ≤ 64 := by simp only [PyData.depth]; omega
  rw [decide_eq_true d]; rfl
theorem eqv_rep (x : Str) (hx : PyData.strOk x = true) (n : Nat) : PyData.eqv (.list (List.replicate n (.str x))) (.list (List.replicate n (.str x))) = true := SeqAt.eqv_refl _ (by simp only [PyData.canLay0]; exact (lay_rep x hx n).1)
/-- a list of lists of one int each -/
def ones (lo n : Nat) : List PyData := (List.range' lo n).map fun i => PyData.list [.int (i : Nat)]
def Ones (H : Hp) (lo : Nat) (xs : List V) : Prop := ∀ (i : Nat) (x : V), xs[i]? = some x → ∃ q, x = .ref q ∧ H q = some (.lst [.int ((lo + i : Nat) : Int)])
theorem Ones.ex {H H' : Hp} {lo : Nat} {xs : List V} (h : Ones H lo xs) (e : Ex H H') : Ones H' lo xs := fun i x hx => let ⟨q, a, b⟩ := h i x hx; ⟨q, a, e _ _ b⟩
theorem Ones.nil {H : Hp} {lo : Nat} : Ones H lo [] := fun i x h => by simp at h
theorem Ones.snoc {H : Hp} {lo : Nat} {xs : List V} {q : Addr} (h : Ones H lo xs) (hq : H q = some (.lst [.int ((lo + xs.length : Nat) : Int)])) : Ones H lo (xs ++ [.ref q]) := fun i x hx => by
  rw [List.getElem?_append] at hx
  split at hx
  · exact h i x hx
  · have e : i - xs.length = 0 := by
      have z := (List.getElem?_eq_some_iff.mp hx).1
      simp at z; omega
    rw [e] at hx; simp at hx; subst hx
    have e2 : i = xs.length := by omega
    subst e2
    exact ⟨q, rfl, hq⟩
theorem dp_ones {K : PySem.W.Frag} {H : Hp} : ∀ {xs : List V} {lo : Nat}, Ones H lo xs → DpAll K H xs (ones lo xs.length)
  | [], lo, _ => .nil
  | x :: xs, lo, h => by
    obtain ⟨q, rfl, hq⟩ := h 0 x rfl
    unfold ones
    rw [List.length_cons, List.range'_succ, List.map_cons]
    refine .cons (.lst (SqL.of hq) (.cons (.int _) .nil)) ?_
    exact dp_ones (lo := lo + 1) (xs := xs) fun i y hy => by
      obtain ⟨q, a, b⟩ := h (i + 1) y (by simpa using hy)
      exact ⟨q, a, by rw [b, show lo + (i + 1) = lo + 1 + i by omega]⟩
theorem lay_ones : ∀ (n lo : Nat), PyData.canLayAll0 (ones lo n) = true ∧ PyData.depthAll (ones lo n) ≤ 2
  | 0, lo => by simp [ones, PyData.canLayAll0, PyData.depthAll]
  | n + 1, lo => by
    obtain ⟨a, b⟩ := lay_ones n (lo + 1)
    have e : ones lo (n + 1) = PyData.list [.int (lo : Nat)] :: ones (lo + 1) n := by simp [ones, List.range'_succ]
    rw [e]
    simp only [PyData.canLayAll0, PyData.canLay0, PyData.depthAll, PyData.depth, a]
    exact ⟨by first | rfl | trivial, by omega⟩
theorem shaped_ones (lo n : Nat) : SeqAt.shaped (.list (ones lo n)) = true := by
  obtain ⟨a, b⟩ := lay_ones n lo
  unfold SeqAt.shaped
  rw [show PyData.canLay0 (.list (ones lo n)) = PyData.canLayAll0 (ones lo n) from by simp only [PyData.canLay0], a]
  have d : (PyData.list (ones lo n)).depth ≤ 64 := by simp only [PyData.depth]; omega
  rw [decide_eq_true d]; rfl
theorem eqv_ones (lo n : Nat) : PyData.eqv (.list (ones lo n)) (.list (ones lo n)) = true := SeqAt.eqv_refl _ (by simp only [PyData.canLay0]; exact (lay_ones n lo).1)
theorem rep_snoc {α : Type} (n : Nat) (x : α) : List.replicate n x ++ [x] = List.replicate (n + 1) x := by rw [List.replicate_succ']
theorem flat_rep {α : Type} (x : α) (n : Nat) : (List.replicate n [x]).flatten = List.replicate n x := by
  induction n with
  | zero => rfl
  | succ n ih => rw [List.replicate_succ, List.flatten_cons, ih, List.replicate_succ]; rfl
end HX
set_option Elab.async false
set_option linter.all false
set_option maxRecDepth 100000
set_option maxHeartbeats 4400000
namespace HX
open L2 PyProof.Rows PySem.Spec PySem
section
variable {X : Cx}
/-- xs * k, the new list apart from the table of modules -/
def rRepN : R2 := fun x y H Q => ∃ l k xs, x = .ref l ∧ y = .int k ∧ H l = some (.lst xs) ∧ 0 ≤ k ∧ k < 1000 ∧ xs.length * k.toNat ≤ sizeLine ∧ ∀ p, H p = none → p ≠ sysModules → Q (.ref p) (upd H p (.lst (List.replicate k.toNat xs).flatten))
theorem op_repN : OpR X (binaryOp .Mult) rRepN := by
  intro pp t τ G x y u1 u2 Q J rx ry h
  obtain ⟨l, k, xs, rfl, rfl, hl, k0, k1, hz, q⟩ := h
  cases rx; obtain ⟨tk, rfl⟩ := ry
  obtain ⟨_, vs, n, rv, el, eo⟩ := J.lstM hl
  have z1 : vs.toArray.size * k.toNat ≤ sizeLine := by rw [List.size_toArray, ← el]; exact hz
  have z2 : (sizeLine : Nat) ≤ (2 ^ 63 - 1) / 8 := by decide
  have c1 : ¬ (!Builtin.List.listFitsIndex k) = true := by rw [fitsIndex_both (by omega) (by omega)]; exact Bool.false_ne_true
  have c2 : ¬ vs.toArray.size * k.toNat > (2 ^ 63 - 1) / 8 := by omega
  have c3 : ¬ Builtin.List.listTooLong (vs.toArray.size * k.toNat) = true := by rw [notLongL z1]; exact Bool.false_ne_true
  have ff : ∀ m : Nat, List.foldl (fun a b => a ++ b) #[] (List.replicate m vs.toArray) = (List.replicate m vs).flatten.toArray := fun m => (foldl_rep vs m []).trans (by rw [List.nil_append])
  have made : List.foldl (fun a b => a ++ b) #[] (List.replicate (if vs.toArray.isEmpty = true then 0 else k.toNat) vs.toArray) = (List.replicate k.toNat vs).flatten.toArray := by
    rw [ff]; cases vs <;> simp
  refine wpAny_binaryOp_repeat_ref (T := "list") (U := "int") (by decide) ⟨_, eo, rfl⟩ (fun s' => typeIs_int s' k tk) noFill_list_mul F.fills_int_mul F.slot_int_rmul repeat_list F.slot_int_index.lookup ?_
  refine call_meets F.slot_int_rmul (typeIs_int t k tk) F.entry_int_rmul (F.args_int_rmul_2 _ _) (int___rmul___int_list k tk l vs.toArray n) ⟨eo, rfl, ⟨_, eo, rfl⟩, ?_⟩
  refine call_meets F.slot_list_mul ⟨_, eo, rfl⟩ F.entry_list_mul (F.args_list_mul_2 _ _) (AutoListH.list___mul___list_int_3 l vs.toArray n k tk c1 c2 c3) ⟨eo, ?_⟩
  rw [made]
  exact ⟨.ref _, _, J.lnew (t' := t.toks) (rv.rep k.toNat) (by rw [PyProof.Rows.lm_len_rep_flat, Nat.mul_comm]; exact hz), rfl, q _ J.fresh (Nat.ne_of_gt J.big)⟩
end
/-- the same, the written part named (within comprehensions) -/
theorem pe_errK {X : Cx} {K : PySem.W.Frag} {e : Expr} {te : TE} {pos : Pos} {n : Str} (hK : X.K = K) (he : PE X e te) (hb : attributeBase e n X.env (eval e X.env) = eval e X.env := by rfl) : PE X (.Attribute e n pos) (tErrA K n te) := hK ▸ pe_errA he hb
theorem call_isK {X : Cx} {K : PySem.W.Frag} (hK : X.K = K) : CallR X (.builtin "isinstance") (rIsA K) := hK ▸ call_isA
theorem ix_tupK {X : Cx} {K : PySem.W.Frag} (hK : X.K = K) : IxR X (rIxT K) := hK ▸ ix_tup
theorem ix_listK {X : Cx} {K : PySem.W.Frag} (hK : X.K = K) : IxR X (rIxL K) := hK ▸ ix_list
theorem q_neb {z : Str} : (!decide (V.str z = V.str z)) = false := by rw [decide_eq_true rfl]; rfl
theorem rep_bl (n : Nat) : List.replicate n (V.bl true) = (List.replicate n true).map V.bl := by rw [List.map_replicate]
theorem rep_all (n : Nat) : (List.replicate n true).all id = true := by simp
/-- five of the same data -/
theorem Bd.five {d : PyData} (h : Bd 14 d) : (PyData.list (List.replicate 5 d)).showable = true ∧ (PyData.list (List.replicate 5 d)).depth ≤ 60 ∧ (PyData.list (List.replicate 5 d)).shown.length ≤ sizeLine := by
  have a := h.dp; have b := h.wt
  have e : List.replicate 5 d = [d, d, d, d, d] := rfl
  rw [e]
  have q := PyData.shown_le 24 (by decide) (.list [d, d, d, d, d]) (by simp only [PyData.leavesShort, PyData.leavesShortAll, h.lv, Bool.and_self])
  have w : (PyData.list [d, d, d, d, d]).weight ≤ 5 * (d.weight + 1) + 10 := by simp only [PyData.weight, PyData.weightAll]; omega
  have m : (24 + 2) * (PyData.list [d, d, d, d, d]).weight ≤ 26 * 6300 := Nat.mul_le_mul_left _ (by omega)
  have z := sizeLine_eq
  refine ⟨by simp only [PyData.showable, PyData.showableAll, h.sh, Bool.and_self], by simp only [PyData.depth, PyData.depthAll]; omega, by omega⟩
theorem Ones.ne {H : Hp} {lo : Nat} {ys : List V} {D q : Addr} {z : Int} (h : Ones H lo ys) (hD : H D = some (.lst ys)) (hq : H q = some (.lst [.int z])) : q ≠ D := fun e => by
  subst e
  rw [hq] at hD
  have e2 := HO.lst.inj (Option.some.inj hD)
  obtain ⟨a, b, _⟩ := h 0 (.int z) (by rw [← e2]; rfl)
  cases b
theorem Ones.put {H : Hp} {lo : Nat} {ys : List V} {D q : Addr} {o : HO} (h : Ones H lo ys) (hD : H D = some (.lst ys)) (hq : H q = some (.lst [.int ((lo + ys.length : Nat) : Int)])) : Ones (upd H D o) lo (ys ++ [.ref q]) := by
  refine Ones.snoc (fun i x hx => ?_) (by rw [upd_ne (h.ne hD hq)]; exact hq)
  obtain ⟨r, a, b⟩ := h i x hx
  exact ⟨r, a, by rw [upd_ne (h.ne hD b)]; exact b⟩
end HX
set_option Elab.async false
set_option linter.all false
set_option maxRecDepth 100000
set_option maxHeartbeats 4400000
namespace HX
open L2 PyProof.Rows PySem.Spec PySem LamX
/-- as okG0, the def's code object named -/
theorem okGT {P : Program} {w : World} {K : PySem.W.Frag} {mg : Str → Option Value} {base : Heap} {x qual : Str} {st : Stmt} {f c : Addr} {fd : FuncData} {N ps : List Str} {k : Nat} {sp : Sp} (F : Fun K x qual st f fd) (S : FnScope N ps (defScope st)) (hc : fd.code = .ref c) (len : ∀ vs H Q E, sp vs H Q E → vs.length = ps.length)
    (hbody : ∀ (A : Around) (outer : List Env) (s : Shared) (H : Hp) (vs : List V) (Q : VK) (E : XK), A.guards = some [] → Room k (A.deeper (envOfC qual (defScope st) s.heap.objs.size f (.ref c))) → sp vs H Q E →
      ∃ t, PSs (cxOf CX0 P w K mg base N qual (defScope st) f (.ref c) A outer s H E).nox (defBody st) t ∧ t { nx := fun _ H' => Q .non H', rt := Q } (L2.start N vs) H) : FnG P w K mg base CX0 (k + 1) f fd ps sp := by
  obtain ⟨oc, od, kV, doc, pm, an, cdv, ct, osl, rfl, lk, hcd⟩ := F.ex
  have e : cdv = .ref c := hc
  subst e
  exact ⟨len, fun A o s H args us vs Q E hg hr e0 hb r hsp => LamX.run_ofS lk hcd S hr e0 hb r (len _ _ _ _ hsp) fun hr' => let ⟨t, p, q⟩ := hbody A o s H vs Q E hg hr' hsp; ⟨t, p.nox, q⟩⟩
/-- f(lambda: body), f a def of the text -/
theorem pe_lamF {X : Cx} {K : PySem.W.Frag} {T : List (Addr × Str)} {TT : (XK → Hp → VK → Prop) → Hp → VK → Prop} {x a : Str} {g c P : Addr} {k : Nat} {st : Stmt} {fd : FuncData} {Ng : List Str} {params : Arguments} {body : Expr} {scope : Scope} {t : XK → TE} {p lpos pos : Pos}
    (hK : X.K = K) (F : Fun K x x st g fd) (b : Binds K fd [a] []) (hg : Gl X x) (hm : X.mg x = some (.ref g)) (Sg : FnScope Ng [a] (defScope st)) (hNg : Ng[0]? = some a) (hva : Vis (defScope st) a)
    (hG : ∀ cdv, GivesTo X Ng x (defScope st) g cdv (defBody st) a (X.env.qual ++ "<lambda>") TT) (TB : TabB X.base X.mg c P) (hcode : X.env.code = .ref c) (hmT : (P, X.env.qual ++ "<lambda>") ∈ T) (hu : ∀ p ∈ T, p.1 = P → p.2 = X.env.qual ++ "<lambda>") (hr : Room (k + 2) X.A)
    (L : LamS X.env.scope scope) (hdef : defaultsOf params X.env = ([], [])) (hbind : ∀ (q : Str) (cl : List (Str × Addr)) (pm cv ctv : Value), bindArgs (PySem.W.kla_fn "<lambda>" q params body scope cl pm cv ctv) ⟨[], []⟩ = pure [])
    (hbody : ∀ (A : Around) (outer : List Env) (s : Shared) (H : Hp) (E : XK) (f c' : Addr), Room k (A.deeper (lamEnv X scope s.heap.objs.size f c')) → PE (lamCx X A outer s H E scope f c') body (t E))
    (hdb : (x == ("__debug__" : Str)) = false := by decide) (hd : (a == ("__debug__" : Str)) = false := by decide) (hcd : (a == ("__classdict__" : Str)) = false := by decide) : PE X (.Call (.Name x p) [.Lambda params body scope lpos] [] pos) (tLam T TT t) := by
  subst hK
  obtain ⟨oc, od, kV, doc, pm, an, cdv, ct, osl, rfl, lk, hc⟩ := F.ex
  exact pe_lamcall hg hm F.kp lk hc b Sg hNg hva (hG cdv) TB hcode hmT hu hr L hdef hbind hbody hdb hd hcd
/-- the law's call, with tables of code objects -/
theorem lawT_core {P : Program} {w : World} {K : PySem.W.Frag} {mg mb : Str → Option Value} {CX : CXT} {k : Nat} {fa a : Addr} {cs : List (Addr × Addr)} {fd : FuncData} {x : Str} {sp : Sp} {s1 : Shared} {vs : List Value} {H : Hp}
    (KX : K.In s1.heap) (hns : s1.heap.Ns mainGlobals mg) (hb : s1.heap.Ns builtinsNs mb) (hbb : ∀ x : Str, x ≠ "__name__" → mb x = bootBuiltins x) (hlim : s1.heap.NoLimit) (hg : s1.gens = #[])
    (hT : ∀ p ∈ cs, PySem.W.CodeHd s1.heap p.1 p.2 ∧ s1.heap.get? p.2 = some (PySem.W.tabObj #[])) (nT : ∀ p ∈ cs, K.lookup p.2 = none)
    (hbm : ∃ (bm : Addr) (ob : Obj), mg "__builtins__" = some (.ref bm) ∧ bm ≠ builtinsNs ∧ s1.heap.get? bm = some ob ∧ ob.cls = .type "module" ∧ ob.dict = some builtinsNs ∧ ob.data = .plain)
    (ha : s1.heap.get? a = some { cls := .type "list", data := .seq vs.toArray }) (hr : Room k callerA)
    (F : ∀ base : Heap, K.In base → base.Ns mainGlobals mg → (∀ p ∈ cs, TabB base mg p.1 p.2) → FnG P w K mg base CX k fa fd [x] sp) (hbind : ∀ (s : Shared) (u : Value), BindsTo s fd ⟨[u], []⟩ [(x, u)])
    (hsp : sp [.ref a] H (fun v _ => v = .bl true) fun _ _ _ => False) (hCX : ∀ e s', CX [] H s1 (fun _ _ _ => False) e s' → False)
    (hH : ∀ p ∈ cs, H p.2 = some (.tbl #[]))
    (hO : ∀ b u, H b = some u → (b = a ∧ ∃ o xs, u = .frz o (.lst xs)) ∨ ∃ p ∈ cs, b = p.2 ∧ u = .tbl #[]) (hok : HOk P w H s1.heap) (hK : ∀ u, H a = some u → K.lookup a = none) :
    codeAny (model P w) callerA (.call (.ref fa) ⟨[.ref a], []⟩) (fun r s' => r = .ok (.ret (.bool true)) ∧ OldK s1.heap s'.heap ∧ s'.os = s1.os ∧ AllBare s'.gens) s1 := by
  have off : ∀ {b : Addr} {o : Obj}, s1.heap.get? b = some o → (∀ us n, o.data ≠ .seq us n) → o.data ≠ .fields #[] → H b = none := fun {b o} e h1 h2 => by
    cases q : H b with
    | none => rfl
    | some u =>
      rcases hO b u q with ⟨y, _⟩ | ⟨p, hp, y, _⟩
      · rw [y, ha] at e; cases e; exact absurd rfl (h1 _ _)
      · rw [y, (hT p hp).2] at e; cases e; exact absurd rfl h2
  have nsK : ∀ {b : Addr} {m : Str → Option Value}, s1.heap.Ns b m → (hidT s1.heap H).Ns b m := fun {b m} ⟨o, es, ep, e, d, r⟩ =>
    ⟨o, es, ep, hidT_get e (off e (fun us n z => by rw [d] at z; cases z) (fun z => by rw [d] at z; cases z)), d, r⟩
  have inB : K.In (hidT s1.heap H) := fun b o e => hidT_get (KX b o e) (by
    cases q : H b with
    | none => rfl
    | some u =>
      have e : K.lookup b = some o := e
      rcases hO b u q with ⟨y, _⟩ | ⟨p, hp, y, _⟩
      · subst y; rw [hK u q] at e; cases e
      · rw [y, nT p hp] at e; cases e)
  have TB : ∀ p ∈ cs, TabB (hidT s1.heap H) mg p.1 p.2 := fun p hp => by
    obtain ⟨hC, hP⟩ := hT p hp
    refine ⟨?_, ?_, fun z => ?_⟩
    · obtain ⟨o, us, r1, r2, r3, r4, r5, r6, r7, e1, dc, d1, q3, q⟩ := hC
      refine ⟨o, us, r1, r2, r3, r4, r5, r6, r7, hidT_get e1 (off e1 (fun us n z => by rw [d1] at z; cases z) (fun z => ?_)), dc, d1, q3, q⟩
      rw [d1] at z; cases z; simp at q3
    · obtain ⟨bm, ob, b1, b2, b3, b4, b5, b6⟩ := hbm
      refine ⟨bm, ob, b1, b2, fun y => ?_, fun y => ?_, hidT_get b3 (off b3 (fun us n z => by rw [b6] at z; cases z) (fun z => by rw [b6] at z; cases z)), b4, b5, b6⟩
      · obtain ⟨o, es, ep, e, d, _⟩ := hns
        rw [y, e] at b3; cases b3; rw [d] at b6; cases b6
      · rw [y, hP] at b3; cases b3; cases b6
    · obtain ⟨o, es, ep, e, d, _⟩ := hns
      rw [z, hP] at e; cases e; cases d
  obtain ⟨mc, l1, l2⟩ := hlim
  have e0 : Env0 P w K mg (hidT s1.heap H) callerA [] s1 H := ⟨rfl, ⟨inB, nsK hns, ⟨mb, nsK hb, hbb⟩, ⟨mc, nsK l1, l2⟩⟩, fun b o e => of_hidT e, Nat.le_of_eq (hidT_size _ _), trivial, fun b z => absurd (show b ∈ ([] : List Addr) from z) List.not_mem_nil, hok, .of_eq hg⟩
  refine codeAny_mono ((F _ inB (nsK hns) TB).go callerA [] s1 H ⟨[.ref a], []⟩ [.ref a] [.ref a] _ _ rfl hr e0 (hbind s1 (.ref a)) (.cons rfl .nil) hsp) fun r s' h => ?_
  match r, h with
  | .error e, h => exact (hCX e s' h).elim
  | .ok .next, h => exact False.elim h
  | .ok .brk, h => exact False.elim h
  | .ok .cont, h => exact False.elim h
  | .ok (.ret u), h =>
    obtain ⟨v, H', os, bare, U, hok', r', q⟩ := h
    obtain rfl : v = .bl true := q
    have ru : u = Value.bool true := r'; subst ru
    have kp : ∀ b o, s1.heap.get? b = some o → s'.heap.get? b = some o ∨ ∃ p ∈ cs, b = p.2 ∧ ∃ more : Array Value, s'.heap.get? b = some { cls := .none, data := .fields more } := fun b o e => by
      cases q : H b with
      | none => exact .inl (U.keep b o e q (fun z => absurd (show b ∈ ([] : List Addr) from z) List.not_mem_nil) List.not_mem_nil)
      | some u =>
        rcases hO b u q with ⟨_, ob, xs, z⟩ | ⟨p, hp, y, z⟩
        · subst z
          have y1 := (hok b _ q).1
          have y2 := (hok' b _ (U.frzs b ob _ q)).1
          rw [e] at y1; cases y1
          exact .inl y2
        · subst z
          obtain ⟨more, m⟩ := U.tbls b #[] q
          exact .inr ⟨p, hp, y, _, hok' b _ m⟩
    refine ⟨rfl, ⟨fun b o e => ?_, fun b o e => ?_⟩, os, bare⟩
    · rcases kp b o e with z | ⟨p, hp, y, more, z⟩
      · exact .inl z
      · have e2 := (hT p hp).2
        rw [← y, e] at e2; cases e2
        rw [y] at z ⊢
        exact .inr (.inl ⟨((hT p hp).1.tab (hT p hp).2).isCodeTable, rfl, #[], more, rfl, by rw [Array.empty_append]; exact z⟩)
    · rcases kp b o e with z | ⟨p, hp, y, more, z⟩
      · exact ⟨o, z⟩
      · exact ⟨_, z⟩
/-- the law's call from what is known at the head's heap; cs: code objects and their tables -/
theorem lawT_at {P q : Program} {loose : List Str} {mean : ExcName → Option Value} {w : World} {K : PySem.W.Frag} {mg mb : Str → Option Value} {CX : CXT} {k n : Nat} {fa a : Addr} {cs : List (Addr × Addr)} {fd : FuncData} {x : Str} {sp : Sp} {s1 : Shared} {vs : List Value} {ns : List Int}
    (T : PyProof.Rows.Top q loose mean mg mb s1.heap) (KX : K.In s1.heap) (hgen : s1.gens = #[]) (hn2 : n ≤ sizeLine) (hr : Room k callerA) (hobj : s1.heap.get? a = some { cls := .type "list", data := .seq vs.toArray }) (hints : IntsAre vs ns) (hlen : ns.length ≤ n)
    (hcs : ∀ p ∈ cs, ∃ y : Str, ((recsOf q).any fun e => e.name == y) = true ∧ PySem.W.tabIn K y = some p) (nT : ∀ p ∈ cs, K.lookup p.2 = none) (hb : ∀ (s : Shared) (u : Value), BindsTo s fd ⟨[u], []⟩ [(x, u)])
    (hF : ∀ base : Heap, K.In base → base.Ns mainGlobals mg → (∀ p ∈ cs, TabB base mg p.1 p.2) → FnG P w K mg base CX k fa fd [x] sp)
    (hsp : ∀ (H : Hp), SqL K H a (ns.map V.int) → (∀ p ∈ cs, H p.2 = some (.tbl #[])) → sp [.ref a] H (fun v _ => v = .bl true) fun _ _ _ => False)
    (hCX : ∀ (G : Hp) (e : Value) (s' : Shared), CX [] G s1 (fun _ _ _ => False) e s' → False) :
    codeAny (model P w) callerA (.call (.ref fa) ⟨[.ref a], []⟩) (fun r s' => r = .ok (.ret (.bool true)) ∧ OldK s1.heap s'.heap ∧ s'.os = s1.os ∧ AllBare s'.gens) s1 := by
  have rv := ints_vals hints; have lv := hints.length
  have hT : ∀ p ∈ cs, PySem.W.CodeHd s1.heap p.1 p.2 ∧ s1.heap.get? p.2 = some (PySem.W.tabObj #[]) := fun p hp => by
    obtain ⟨y, h1, h2⟩ := hcs p hp
    obtain ⟨e, he1, he2⟩ := List.any_eq_true.mp h1
    cases hf : (recsOf q).find? (fun e => e.name == y) with
    | none => exact absurd he2 (List.find?_eq_none.mp hf e he1)
    | some dd => exact PySem.W.tab_of T KX hf h2
  have aT : ∀ p ∈ cs, p.2 ≠ a := fun p hp z => by
    have e := (hT p hp).2
    rw [z, hobj] at e
    have e2 : Data.seq vs.toArray _ = Data.fields #[] := congrArg Obj.data (Option.some.inj e)
    cases e2
  have fz : HO.frz { cls := .type "list", data := .seq vs.toArray } (.lst (ns.map V.int)) = HO.frz { cls := .type "list", data := .seq vs.toArray } (.lst (ns.map V.int)) := rfl
  cases hk : K.lookup a with
  | some o' =>
    have e := KX a o' hk
    rw [hobj] at e
    cases e
    let H0 : Hp := fun b => if b ∈ cs.map (·.2) then some (.tbl #[]) else none
    have at_ : ∀ b u, H0 b = some u → ∃ p ∈ cs, b = p.2 ∧ u = .tbl #[] := fun b u z => by
      by_cases hm : b ∈ cs.map (·.2)
      · obtain ⟨p, hp, e⟩ := List.mem_map.mp hm
        exact ⟨p, hp, e.symm, (Option.some.inj ((if_pos hm).symm.trans z)).symm⟩
      · cases (if_neg hm).symm.trans z
    have hH : ∀ p ∈ cs, H0 p.2 = some (.tbl #[]) := fun p hp => if_pos (List.mem_map.mpr ⟨p, hp, rfl⟩)
    refine lawT_core (H := H0) KX T.g T.b T.builtins T.nolimit hgen hT nT T.bmain hobj hr hF hb (hsp _ (.inr ⟨_, vs.toArray, _, hk, rfl, rfl, rfl, by rw [List.size_toArray, lv]; exact Nat.le_trans hlen hn2, by simpa using rv⟩) hH) (fun e s' => hCX _ e s') hH (fun b u z => .inr (at_ b u z)) (fun b u z => ?_) (fun u z => ?_)
    · obtain ⟨p, hp, e1, e2⟩ := at_ b u z
      subst e2; rw [e1]; exact (hT p hp).2
    · obtain ⟨p, hp, e1, _⟩ := at_ a u z
      exact absurd e1.symm (aT p hp)
  | none =>
    let H0 : Hp := fun b => if b = a then some (.frz { cls := .type "list", data := .seq vs.toArray } (.lst (ns.map V.int))) else if b ∈ cs.map (·.2) then some (.tbl #[]) else none
    have at_ : ∀ b u, H0 b = some u → (b = a ∧ u = .frz { cls := .type "list", data := .seq vs.toArray } (.lst (ns.map V.int))) ∨ ∃ p ∈ cs, b = p.2 ∧ u = .tbl #[] := fun b u z => by
      by_cases hba : b = a
      · exact .inl ⟨hba, (Option.some.inj ((if_pos hba).symm.trans z)).symm⟩
      · have z := (if_neg hba).symm.trans z
        by_cases hm : b ∈ cs.map (·.2)
        · obtain ⟨p, hp, e⟩ := List.mem_map.mp hm
          exact .inr ⟨p, hp, e.symm, (Option.some.inj ((if_pos hm).symm.trans z)).symm⟩
        · cases (if_neg hm).symm.trans z
    have hH : ∀ p ∈ cs, H0 p.2 = some (.tbl #[]) := fun p hp => (if_neg (aT p hp)).trans (if_pos (List.mem_map.mpr ⟨p, hp, rfl⟩))
    refine lawT_core (H := H0) KX T.g T.b T.builtins T.nolimit hgen hT nT T.bmain hobj hr hF hb (hsp _ (.inl (.inr ⟨_, if_pos rfl⟩)) hH) (fun e s' => hCX _ e s') hH (fun b u z => ?_) (fun b u z => ?_) (fun _ _ => hk)
    · rcases at_ b u z with ⟨e1, e2⟩ | q
      · exact .inl ⟨e1, _, _, e2⟩
      · exact .inr q
    · rcases at_ b u z with ⟨e1, e2⟩ | ⟨p, hp, e1, e2⟩
      · subst e1; subst e2
        exact ⟨hobj, by rw [List.length_map]; exact Nat.le_trans hlen hn2, vs, _, rv, hobj⟩
      · subst e2; rw [e1]; exact (hT p hp).2
theorem walk_GX {l : PySem.W.OpenLaw} {n k : Nat} {q : Program} {loose : List Str} {XP : (Str → Option Value) → Heap → Prop} {YP : World → Heap → Prop} {d : DefRec} {CX : World → CXT} {x : Str}
    (hn : l.most = some n) (hn2 : n ≤ sizeLine) (hdf : d.params.defaults = []) (hr : Room k callerA)
    (F : ∀ (w : World) (m : Str → Option Value) (fa : Addr) (h : Heap), YP w h → h.Ns mainGlobals m → m d.name = some (.ref fa) →
      ∃ (K : PySem.W.Frag) (fd : FuncData) (cs : List (Addr × Addr)) (sp : Sp), K.In h ∧ (∀ p ∈ cs, ∃ y : Str, ((recsOf q).any fun e => e.name == y) = true ∧ PySem.W.tabIn K y = some p) ∧ (∀ p ∈ cs, K.lookup p.2 = none) ∧ (∀ (s : Shared) (u : Value), BindsTo s fd ⟨[u], []⟩ [(x, u)]) ∧
        (∀ (H : Hp) (a : Addr) (ns : List Int), ns.length ≤ n → SqL K H a (ns.map V.int) → (∀ p ∈ cs, H p.2 = some (.tbl #[])) → sp [.ref a] H (fun v _ => v = .bl true) fun _ _ _ => False) ∧
        ∀ base : Heap, K.In base → base.Ns mainGlobals m → (∀ p ∈ cs, TabB base m p.1 p.2) → FnG l.prog w K m base (CX w) k fa fd [x] sp)
    (hCX : ∀ (w : World) (G : Hp) (s : Shared) (e : Value) (s' : Shared), CX w [] G s (fun _ _ _ => False) e s' → False) : PySem.W.WalkO q loose XP YP l.row.toRowW d [] (fun f vs => PySem.call f vs) := by
  refine Att.attach_call hn hdf fun w s0 s1 mg mb fa o pm cd doc a vs ns G Y ho hd hcd hmg hobj hints hlen hgen => ?_
  obtain ⟨K, fd, cs, sp, KX, hcs, nT, hb, hsp, hF⟩ := F w mg fa _ Y G.T.g hmg
  exact lawT_at G.T KX hgen hn2 hr hobj hints hlen hcs nT hb hF (fun H h1 h2 => hsp H a ns hlen h1 h2) fun G e s' => hCX w G s1 e s'
end HX
set_option Elab.async false
set_option linter.all false
set_option maxRecDepth 100000
set_option maxHeartbeats 4400000
namespace HX
open L2 PyProof.Rows PySem.Spec PySem LamX
section
variable {X : Cx}
/-- xs.count(y), flat items -/
def rCntF (K : PySem.W.Frag) : V → List V → Hp → VK → Prop := fun x xs H Q => ∃ (p : Addr) (ys : List V) (y : V), x = .ref p ∧ xs = [y] ∧ SqL K H p ys ∧ flatV y = true ∧ ys.all flatV = true ∧ Q (.int (ys.countP (fun z => eqV z y) : Nat)) H
theorem count_flat {uy : Value} {y : V} : ∀ {ys : List V} {us : List Value}, Vals ys us → ys.all flatV = true → us.countP (eqU y) = ys.countP (fun z => eqV z y)
  | _, _, .nil, _ => rfl
  | _, _, .cons r t, f => by
    rw [List.all_cons, Bool.and_eq_true] at f
    rw [List.countP_cons, List.countP_cons, count_flat (uy := uy) t f.2, eqU_of r f.1]
theorem mt_countF : MtR X "list.count" (rCntF X.K) := by
  intro pp t τ G x xs v us Q J rx rxs h
  obtain ⟨p, ys, y, rfl, rfl, hs, fy, fys, q⟩ := h
  cases rx
  cases rxs with
  | cons ry rt =>
    rename_i uy ut
    cases rt
    obtain ⟨its, rv, ⟨⟨cls, dd, data, sl⟩, n, ho, hc, hdn, hd⟩, hlen⟩ := J.list hs
    simp only at hc hd
    subst hc hd
    refine call_meets PySem.F.slot_list_count ⟨_, ho, rfl⟩ PySem.F.entry_list_count (PySem.F.args_list_count_2 _ _) (SeqAt.list_countAt p its.toArray n dd sl uy (eqU y)) ⟨ho, fun u' hu' => mem_eqAt ry fy rv fys u' (by simpa using hu'), ?_⟩
    have ec : its.toArray.toList.countP (eqU y) = ys.countP (fun z => eqV z y) := count_flat (uy := uy) rv fys
    refine ⟨.int (ys.countP (fun z => eqV z y) : Nat), G, J.tok _, ⟨t.toks, ?_⟩, q⟩
    rw [← ec]
end
/-- a lambda handed in is called where what it lets out is wished for at the slots of the call -/
def GivesS (X : Cx) (k : Nat) (Ng : List Str) (x : Str) (sg : Scope) (g : Addr) (cdg : Value) (bg : List Stmt) (a : Str) (q : Str) (TT : (XK → Hp → VK → Prop) → Hp → VK → Prop) : Prop :=
  ∀ (f c' : Addr) (s : Shared) (H : Hp) (Q : VK) (tl : XK → Hp → VK → Prop),
    (∀ (W : WX) (pn : List (Addr × Obj)) (xe : Value → Shared → Prop) (p1 p2 : Pos), Takes ((cxOf C8.CX0 X.prog X.w X.K X.mg X.base Ng x sg g cdg X.A X.stack s H C8.E0).tr pn xe) W →
      PE ((cxOf C8.CX0 X.prog X.w X.K X.mg X.base Ng x sg g cdg X.A X.stack s H C8.E0).tr pn xe) (.Call (.Name a p1) [] [] p2) (fun σZ HZ Q => σZ[0]? = some (some (.ref f)) ∧ HZ c' = some (CodeO c' q) ∧ tl (fun cls d H' => W cls d σZ H') HZ Q)) →
    Room k (X.A.deeper (envOfC x sg s.heap.objs.size g cdg)) → H c' = some (CodeO c' q) → TT tl H Q →
    ∃ t, PSs (cxOf C8.CX0 X.prog X.w X.K X.mg X.base Ng x sg g cdg X.A X.stack s H C8.E0).nox bg t ∧ t { nx := fun _ H' => Q .non H', rt := Q } (L2.start Ng [.ref f]) H
section
variable {X : Cx} {pins : List (Addr × Obj)} {σ : L2.St} {H HZ : Hp} {s s1 : Shared}
theorem pe_actS {CXg : CXT} {Eg : XK} {Ng : List Str} {qg : Str} {sg : Scope} {g f c' : Addr} {cdg pm ctv : Value} {params : Arguments} {body : Expr} {scope : Scope} {k i : Nat} {a : Str} {pn : List (Addr × Obj)} {xe : Value → Shared → Prop} {W : WX} {tb : XK → TE} {p1 p2 : Pos}
    (I : Inv X pins σ H s) (L : LamS X.env.scope scope) (hf : s.heap.get? f = some (PySem.W.kla_obj "<lambda>" (X.env.qual ++ "<lambda>") params body scope (cloFrom X.env.cells scope.names []) pm c' ctv)) (hfn : H f = none) (hfr : f ∉ frs X.stack)
    (hbind : bindArgs (PySem.W.kla_fn "<lambda>" (X.env.qual ++ "<lambda>") params body scope (cloFrom X.env.cells scope.names []) pm (.ref c') ctv) ⟨[], []⟩ = pure [])
    (tk : Takes ((cxOf CXg X.prog X.w X.K X.mg X.base Ng qg sg g cdg X.A X.stack s H Eg).tr pn xe) W) (hr : Room (k + 1) (X.A.deeper (envOfC qg sg s.heap.objs.size g cdg)))
    (hbody : ∀ (A : Around) (outer : List Env) (s : Shared) (H : Hp) (E : XK), Room k (A.deeper (lamEnv X scope s.heap.objs.size f c')) → PE (lamCx X A outer s H E scope f c') body (tb E))
    (hN : Ng[i]? = some a) (hv : Vis sg a) (hd : (a == ("__debug__" : Str)) = false := by decide) (hcd : (a == ("__classdict__" : Str)) = false := by decide) :
    PE ((cxOf CXg X.prog X.w X.K X.mg X.base Ng qg sg g cdg X.A X.stack s H Eg).tr pn xe) (.Call (.Name a p1) [] [] p2)
      (fun σZ HZ Q => σZ[i]? = some (some (.ref f)) ∧ HZ c' = some (CodeO c' (X.env.qual ++ "<lambda>")) ∧ tb (fun cls d H' => W cls d σZ H') σ HZ Q) := by
  refine ⟨fun pz sz σz Hz Q Iz ⟨hs, hc, ht⟩ => wpAny_Call_Name_kw (thn ((pe_var (pos := p1) (i := i) hN hv hd hcd).run pz sz σz Hz (fun v H1 => v = .ref f ∧ H1 = Hz) Iz ⟨.ref f, hs, rfl, rfl⟩) fun u s2 ⟨v, H1, I1, r1, ev, eH⟩ => ?_)⟩
  subst ev; subst eH
  obtain rfl : u = Value.ref f := r1
  have at1 : s2.heap.get? f = some (PySem.W.kla_obj "<lambda>" (X.env.qual ++ "<lambda>") params body scope (cloFrom X.env.cells scope.names []) pm c' ctv) := I1.base.keep f _ hf hfn hfr (fun z => nomatch (show f ∈ ([] : List Addr) from z))
  refine PySem.W.callWith_F0 ⟨_, _, _, _, at1⟩ ?_
  have un : Un (frs X.stack) [] H H1 s.heap s2.heap := I1.base
  obtain ⟨⟨oc, vs, t, hoc, hdc, hvc⟩, _, _⟩ := I1.hok c' _ hc
  have run : codeAny (model X.prog X.w) (X.A.deeper (envOfC qg sg s.heap.objs.size g cdg)) (.call (.ref f) ⟨[], []⟩) (CR (L2.CX X.prog X.w) (envOfC qg sg s.heap.objs.size g cdg :: X.stack) X.prog X.w H1 s2 Q (fun cls d H' => W cls d σz H')) s2 := by
    refine PySem.W.kla_callFunE hr.depth at1 rfl L.co L.gen rfl ⟨c', oc, vs, t, rfl, hoc, hdc, hvc⟩ ?_
    rw [hbind]
    refine wpAny_pure (wpAny_newFunctionEnv (fun y hy => (L.own y hy).2) (fun y hy => absurd hy (by simp)) (fun h₁ hns hsb => ⟨I1.nolimit.fresh _ hsb, ?_⟩) L.kind)
    (show codeAny _ _ (.expr body (lamEnv X scope s2.heap.objs.size f c')) _ _)
    have kp : ∀ b o, s2.heap.get? b = some o → h₁.get? b = some o := fun b o e => hsb.extBut b o (Nat.ne_of_lt (Heap.lt_size e)) (Heap.get?_push_of_some _ e)
    have J : Inv (lamCx X (X.A.deeper (envOfC qg sg s.heap.objs.size g cdg)) (envOfC qg sg s.heap.objs.size g cdg :: X.stack) s2 H1 (fun cls d H' => W cls d σz H') scope f c') [] σ H1 { s2 with heap := h₁, toks := s2.toks + ([] : List (Str × Value)).length } := lam_start2 I L I1.env0 hr.hd un hns kp
    exact PySem.W.kla_codeExpr (wpAny_mono ((hbody _ _ s2 H1 _ (hr.deeper _)).run [] _ _ H1 Q J ht) (fun v s' ⟨w', H', J', rv, q⟩ => ⟨w', H', J'.os, J'.bare, J'.base, J'.hok, rv, q⟩) fun e s' hq => hq)
  refine wpAny_call (codeAny_mono run fun r s' hq => ?_)
  match r, hq with
  | .error e, hq => exact passAt tk σz pz H1 s2 e s' I1 hq
  | .ok (.ret u), hq => exact I1.after hq
  | .ok .next, hq | .ok .brk, hq | .ok .cont, hq => exact False.elim hq
theorem pe_lamS {K : PySem.W.Frag} {T : List (Addr × Str)} {TT : (XK → Hp → VK → Prop) → Hp → VK → Prop} {x a : Str} {g c P : Addr} {k : Nat} {st : Stmt} {fd : FuncData} {Ng : List Str} {params : Arguments} {body : Expr} {scope : Scope} {t : XK → TE} {p lpos pos : Pos}
    (hK : X.K = K) (F : Fun K x x st g fd) (b : Binds K fd [a] []) (hg : Gl X x) (hm : X.mg x = some (.ref g)) (Sg : FnScope Ng [a] (defScope st)) (hNg : Ng[0]? = some a) (hva : Vis (defScope st) a)
    (hG : ∀ cdv, GivesS X (k + 1) Ng x (defScope st) g cdv (defBody st) a (X.env.qual ++ "<lambda>") TT) (TB : TabB X.base X.mg c P) (hcode : X.env.code = .ref c) (hmT : (P, X.env.qual ++ "<lambda>") ∈ T) (hu : ∀ p ∈ T, p.1 = P → p.2 = X.env.qual ++ "<lambda>") (hr : Room (k + 2) X.A)
    (L : LamS X.env.scope scope) (hdef : defaultsOf params X.env = ([], [])) (hbind : ∀ (q : Str) (cl : List (Str × Addr)) (pm cv ctv : Value), bindArgs (PySem.W.kla_fn "<lambda>" q params body scope cl pm cv ctv) ⟨[], []⟩ = pure [])
    (hbody : ∀ (A : Around) (outer : List Env) (s : Shared) (H : Hp) (E : XK) (f c' : Addr), Room k (A.deeper (lamEnv X scope s.heap.objs.size f c')) → PE (lamCx X A outer s H E scope f c') body (t E))
    (hdb : (x == ("__debug__" : Str)) = false := by decide) (hd : (a == ("__debug__" : Str)) = false := by decide) (hcd : (a == ("__classdict__" : Str)) = false := by decide) : PE X (.Call (.Name x p) [.Lambda params body scope lpos] [] pos) (tLam T TT t) := by
  subst hK
  obtain ⟨oc, od, kV, doc, pm, an, cdv, ct, osl, rfl, lk, hc⟩ := F.ex
  refine ⟨fun pp t0 τ G R J ⟨hT, h⟩ => wpAny_Call_Name_kw (ld_glob J hg hm (PySem.W.callWith_K (h₀ := X.base) J.ok.mod.kin F.kp ?_ (by rfl) (by rfl)) hdb)⟩
  (show wpAny _ _ (spliced ((false, eval (.Lambda params body scope lpos) X.env) :: backTo pos (starEach [] X.env))) _ _ t0)
  refine Calls.spliced_cons (lam_make2 J TB hcode hmT hu hT hdef (L.has J.ok) fun f c' pm' ctv H1 s' I1 eN T1 hf hfn hfr hco => Calls.spliced_nil ⟨I1.kIn, ?_⟩)
  refine wpAny_call (codeAny_mono (LamX.run_ofS (N := Ng) (ps := [a]) (us := [.ref f]) (vs := [.ref f]) (CX := C8.CX0) (E := C8.E0) (Q := R) lk hc Sg hr I1.env0 (b s' [.ref f] I1.kIn rfl) (.cons rfl .nil) rfl fun hr' => ?_) fun r s2 hq => ?_)
  · obtain ⟨t', ht', hq'⟩ := hG cdv f c' s' H1 R (fun E H' Q' => t E τ H' Q') (fun W pn xe p1 p2 tk => pe_actS (i := 0) I1 L hf hfn hfr (hbind _ _ _ _ _) tk hr' (fun A outer s H E hr2 => hbody A outer s H E f c' hr2) hNg hva hd hcd) hr' hco (h H1 eN T1)
    exact ⟨t', ht'.nox, hq'⟩
  · match r, hq with
    | .error e, hq => exact (show False from hq).elim
    | .ok (.ret u), hq => exact I1.after hq
    | .ok .next, hq | .ok .brk, hq | .ok .cont, hq => exact False.elim hq
end
/-- what is no table stays -/
theorem _root_.LamX.ExtN.ex {H H' : Hp} (e : ExtN H H') : ∀ {a : Addr} {o : HO}, H a = some o → (∀ ps, o ≠ .tbl ps) → H' a = some o := fun h n => e _ _ h n
theorem Dz.en {p : Addr} {H H' : Hp} {v : V} {d : PyData} (h : Dz p H v d) (e : ExtN H H') : Dz p H' v d := by
  induction h with
  | non => exact .non
  | bl b => exact .bl b
  | int i => exact .int i
  | str x => exact .str x
  | lst h n m hl _ ih => exact .lst (e _ _ h (fun _ z => by cases z)) n m hl ih
  | tup h hl _ ih => exact .tup (e _ _ h (fun _ z => by cases z)) hl ih
  | dct h hl _ ih => exact .dct (e _ _ h (fun _ z => by cases z)) hl ih
/-- all but what stands at p, and tables -/
def XN (p : Addr) (H H' : Hp) : Prop := ∀ a o, a ≠ p → (∀ ps, o ≠ .tbl ps) → H a = some o → H' a = some o
theorem XB.xn {p : Addr} {H H' : Hp} (e : XB p H H') : XN p H H' := fun a o n _ h => e a o n h
theorem XN.tr {p : Addr} {H H1 H2 : Hp} (a : XN p H H1) (b : XN p H1 H2) : XN p H H2 := fun c o n t h => b c o n t (a c o n t h)
theorem en_xn {p : Addr} {H H' : Hp} (e : ExtN H H') : XN p H H' := fun a o _ t h => e a o h t
theorem tabs_xb {T : List (Addr × Str)} {p : Addr} {H H' : Hp} {xs : List V} (t : Tabs T H) (hp : H p = some (.lst xs)) (e : XB p H H') : Tabs T H' := fun q hq => by
  obtain ⟨ps, h1, h2, h3⟩ := t q hq
  refine ⟨ps, e _ _ (fun z => by rw [z, hp] at h1; cases h1) h1, h2, fun pos cv hc => ?_⟩
  obtain ⟨c, e1, e2⟩ := h3 pos cv hc
  exact ⟨c, e1, e _ _ (fun z => by rw [z, hp] at e2; unfold CodeO at e2; cases e2) e2⟩
/-- what isinstance says of any data -/
def isInt : V → Bool | .int _ => true | .bl _ => true | _ => false
def isBool : V → Bool | .bl _ => true | _ => false
def Kd (K : PySem.W.Frag) (H : Hp) (v : V) : Prop := ∃ t : String, TyX K H v (.type t) ∧ PySem.W.kitOne K (.type t) (.type "int") = some (isInt v) ∧ PySem.W.kitOne K (.type t) (.type "bool") = some (isBool v)
theorem kd_of {K : PySem.W.Frag} {p : Addr} {H : Hp} {v : V} {d : PyData} (h : Dz p H v d) : Kd K H v := by
  cases h with
  | non => exact ⟨_, .base .non, kit_ty (r := false) (by decide +kernel), kit_ty (r := false) (by decide +kernel)⟩
  | bl b => exact ⟨_, .base (.bl _), kit_ty (r := true) (by decide +kernel), kit_ty (r := true) (by decide +kernel)⟩
  | int i => exact ⟨_, .base (.int _), kit_ty (r := true) (by decide +kernel), kit_ty (r := false) (by decide +kernel)⟩
  | str x => exact ⟨_, .base (.str _), kit_ty (r := false) (by decide +kernel), kit_ty (r := false) (by decide +kernel)⟩
  | lst h => exact ⟨_, .base (.lst h), kit_ty (r := false) (by decide +kernel), kit_ty (r := false) (by decide +kernel)⟩
  | tup h => exact ⟨_, .base (.tup h), kit_ty (r := false) (by decide +kernel), kit_ty (r := false) (by decide +kernel)⟩
  | dct h => exact ⟨_, .base (.dK h), kit_ty (r := false) (by decide +kernel), kit_ty (r := false) (by decide +kernel)⟩
/-- an integer from lo on that is less than hi -/
def whole (v : V) (lo hi : Int) : Bool := match v with
  | .int i => decide (lo ≤ i) && decide (i < hi)
  | _ => false
theorem whole_int {v : V} {lo hi : Int} (h : whole v lo hi = true) : ∃ i, v = .int i ∧ lo ≤ i ∧ i < hi := by
  cases v with
  | int i => simp [whole] at h; exact ⟨i, rfl, h.1, h.2⟩
  | _ => simp [whole] at h
def spWholeA (K : PySem.W.Frag) : Sp := fun vs H Q _ => ∃ (v : V) (lo hi : Int), vs = [v, .int lo, .int hi] ∧ Kd K H v ∧ Q (.bl (whole v lo hi)) H
end HX
set_option Elab.async false
set_option linter.all false
set_option maxRecDepth 100000
set_option maxHeartbeats 4400000
namespace HX
open L2 PyProof.Rows PySem.Spec PySem
/-! ### a Hook by facts of one's own, and the defs as they stand -/
/-- what an object of the top leads to: a namespace to what it holds, a class to its namespace, a def to its code and defaults, a property to its defs -/
def nextO (o : Obj) : List Addr := match o.data with
  | .dict es _ => es.toList.flatMap fun e => He.refV e.val
  | .cls cd => [cd.ns]
  | .func fd => He.refV fd.code ++ (He.refV fd.defaults ++ He.refV fd.kwdefaults)
  | .fields vs => if o.cls == .type "code" then [] else vs.toList.flatMap He.refV
  | _ => []
def nextG (g : Addr → Option Obj) (as : List Addr) : List Addr := as.flatMap fun a => match g a with
  | some o => nextO o
  | none => []
def pathG (g : Addr → Option Obj) : Nat → List Addr → List Addr
  | 0, as => as
  | n + 1, as => as ++ pathG g n (nextG g as)

/-! ### defs by the address they stand at -/
structure DX where
  at_ : PySem.W.Frag → Addr
  name : Str
  qual : Str
  st : Stmt
/-- a def of the module -/
def glo (x : Str) (K : PySem.W.Frag) : Addr := He.ga K x
/-- a def of a class -/
def met (C m : Str) (K : PySem.W.Frag) : Addr := He.ma K (He.ga K C) m
/-- the getter of a property of a class -/
def prp (C f : Str) (K : PySem.W.Frag) : Addr := match PySem.W.recIn K (He.ma K (He.ga K C) f) "property" with
  | some (.ref g :: _) => g
  | _ => 0
def fnX (K : PySem.W.Frag) (a : Addr) : He.FnW := match K.lookup a with
  | some ⟨_, _, .func fd, _⟩ => some (fd.name, fd.qualname, fd.params, fd.body, fd.scope, fd.globals, fd.closure, fd.builtins)
  | _ => none
def DX.val (d : DX) : He.FnW := some (d.name, d.qual, defArgs d.st, .stmts (defBody d.st), defScope d.st, mainGlobals, [], builtinsNs)
def DX.ok (K : PySem.W.Frag) (d : DX) : Bool := PySem.W.keepIn K (.ref (d.at_ K)) && (match K.lookup (d.at_ K) with
  | some ⟨_, _, .func fd, _⟩ => PySem.W.codeIn K fd.code d.qual && decide (fd.defaults = .none)
  | _ => false)
theorem DX.fun_ {K : PySem.W.Frag} {d : DX} (e : fnX K (d.at_ K) = d.val) (c : d.ok K = true) : ∃ fd, Fun K d.name d.qual d.st (d.at_ K) fd := by
  obtain ⟨kp, c2⟩ := Bool.and_eq_true_iff.mp c
  unfold fnX at e
  cases q : K.lookup (d.at_ K) with
  | none => rw [q] at c2; cases c2
  | some o =>
    obtain ⟨oc, od, dt, osl⟩ := o
    rw [q] at c2 e
    cases dt with
    | func fd =>
      obtain ⟨n1, n2, n3, n4, n5, n6, n7, n8, n9, n10, n11, n12, n13, n14, n15⟩ := fd
      have e2 : (some (n1, n2, n3, n4, n5, n6, n7, n15) : He.FnW) = some (d.name, d.qual, defArgs d.st, .stmts (defBody d.st), defScope d.st, mainGlobals, [], builtinsNs) := e
      simp only [Option.some.injEq, Prod.mk.injEq] at e2
      obtain ⟨h1, h2, h3, h4, h5, h6, h7, h8⟩ := e2
      subst h1 h2 h3 h4 h5 h6 h7 h8
      obtain ⟨k1, k2⟩ := Bool.and_eq_true_iff.mp (show (PySem.W.codeIn K n13 d.qual && decide (n8 = .none)) = true from c2)
      have k3 : n8 = .none := of_decide_eq_true k2
      subst k3
      exact ⟨_, ⟨oc, od, n9, n10, n11, n12, n13, n14, osl, rfl, q, k1⟩, kp⟩
    | _ => cases c2
def obsX (n : Nat) (ex : PySem.W.Frag → Bool) (fn : List DX) (g : Addr → Option Obj) : He.AlD :=
  let K := He.frG g (pathG g n [mainGlobals])
  (ex K && fn.all fun d => d.ok K, fn.map fun d => fnX K (d.at_ K))
def valX (fn : List DX) : He.AlD := (true, fn.map DX.val)
def SaysX (ex : PySem.W.Frag → Bool) (fn : List DX) (K : PySem.W.Frag) : Prop := (ex K && fn.all fun d => d.ok K, fn.map fun d => fnX K (d.at_ K)) = valX fn
def hookX (n : Nat) (ex : PySem.W.Frag → Bool) (fn : List DX) : PySem.W.Hook where
  α := He.AlD
  obs := fun s => obsX n ex fn s.heap.get?
  val := fun _ => valX fn
  says := fun _ h => ∃ K : PySem.W.Frag, K.In h ∧ SaysX ex fn K
  of := fun _ _ e => ⟨_, He.frG_in, e⟩
  keeps := fun _ _ _ ⟨K, a, c⟩ k => ⟨K, PySem.W.Frag.In.keeps a k, c⟩
def obT (n : Nat) (ex : PySem.W.Frag → Bool) (fn : List DX) (s : PySem.W.SharedT) : He.AlD := obsX n ex fn (HandSHeadRun.getT s)
theorem obT_eq {n : Nat} {ex : PySem.W.Frag → Bool} {fn : List DX} (s : PySem.W.SharedT) : obT n ex fn s = (hookX n ex fn).obs s.abs := by
  have e : HandSHeadRun.getT s = s.abs.heap.get? := funext (HandSHeadRun.getT_eq s)
  unfold obT; rw [e]; rfl
theorem SaysX.facts {ex : PySem.W.Frag → Bool} {fn : List DX} {K : PySem.W.Frag} (c : SaysX ex fn K) : ex K = true := (Bool.and_eq_true_iff.mp (show (ex K && fn.all fun d => d.ok K) = true from congrArg (fun z : He.AlD => z.1) c)).1
theorem SaysX.def_ {ex : PySem.W.Frag → Bool} {fn : List DX} {K : PySem.W.Frag} (c : SaysX ex fn K) (i : Nat) {d : DX} (h : fn[i]? = some d) : ∃ fd, Fun K d.name d.qual d.st (d.at_ K) fd := by
  have c1 := (Bool.and_eq_true_iff.mp (show (ex K && fn.all fun d => d.ok K) = true from congrArg (fun z : He.AlD => z.1) c)).2
  have e : fn.map (fun d => fnX K (d.at_ K)) = fn.map DX.val := congrArg (fun z : He.AlD => z.2) c
  have e2 : (fn.map (fun d => fnX K (d.at_ K)))[i]? = (fn.map DX.val)[i]? := by rw [e]
  rw [List.getElem?_map, List.getElem?_map, h] at e2
  exact DX.fun_ (Option.some.inj e2) (List.all_eq_true.mp c1 d (List.mem_of_getElem? h))
/-! ### facts of own classes -/
def clsB (K : PySem.W.Frag) (C : Addr) : Bool := PySem.W.plainGet K C Str.empty && (PySem.W.hasDictIn K C && (PySem.W.plainOver K C && He.eqO (PySem.W.findIn K (.ref C) "__setattr__") (some (some (.builtin "object.__setattr__")))))
theorem clsB_ok {K : PySem.W.Frag} {C : Addr} (c : clsB K C = true) : Cls K C := by
  obtain ⟨c1, c⟩ := Bool.and_eq_true_iff.mp c
  obtain ⟨c2, c⟩ := Bool.and_eq_true_iff.mp c
  obtain ⟨c3, c4⟩ := Bool.and_eq_true_iff.mp c
  exact ⟨c1, c2, c3, He.eqO_ok c4⟩
def mkB (K : PySem.W.Frag) (C f : Addr) : Bool := PySem.W.makesIn K C && (He.eqO (PySem.W.findIn K (.ref C) "__init__") (some (some (.ref f))) && (PySem.W.isFn K (.ref f) && PySem.W.keepIn K (.ref C)))
theorem mkB_ok {K : PySem.W.Frag} {C f : Addr} (c : mkB K C f = true) : Mk K C f := by
  obtain ⟨c1, c⟩ := Bool.and_eq_true_iff.mp c
  obtain ⟨c2, c⟩ := Bool.and_eq_true_iff.mp c
  obtain ⟨c3, c4⟩ := Bool.and_eq_true_iff.mp c
  exact ⟨c1, He.eqO_ok c2, c3, c4⟩
def noatB (K : PySem.W.Frag) (C : Addr) (f : Str) : Bool := He.eqO (PySem.W.findIn K (.ref C) f) (some none)
theorem noatB_ok {K : PySem.W.Frag} {C : Addr} {f : Str} (c : noatB K C f = true) : NoAttr K C f := He.eqO_ok c
def propB (K : PySem.W.Frag) (C : Addr) (f : Str) (p g : Addr) : Bool := He.eqO (PySem.W.findIn K (.ref C) f) (some (some (.ref p))) && (He.eqO (PySem.W.specialIn K (.ref p) "__get__") (some (some (.builtin "property.__get__"))) &&
  (decide (PySem.W.takesIn K (.ref p) = some true) && (match PySem.W.recIn K p "property" with
    | some (.ref b :: _) => decide (b = g)
    | _ => false)))
theorem propB_ok {K : PySem.W.Frag} {C : Addr} {f : Str} {p g : Addr} (c : propB K C f p g = true) : PropOf K C f p g := by
  obtain ⟨c1, c⟩ := Bool.and_eq_true_iff.mp c
  obtain ⟨c2, c⟩ := Bool.and_eq_true_iff.mp c
  obtain ⟨c3, c4⟩ := Bool.and_eq_true_iff.mp c
  refine ⟨He.eqO_ok c1, He.eqO_ok c2, of_decide_eq_true c3, ?_⟩
  split at c4
  · rename_i b r e
    obtain rfl : b = g := of_decide_eq_true c4
    exact ⟨r, e⟩
  · cases c4
def methB (K : PySem.W.Frag) (C : Addr) (m : Str) (f : Addr) : Bool := He.eqO (PySem.W.findIn K (.ref C) m) (some (some (.ref f))) && (PySem.W.isFn K (.ref f) && PySem.W.keepIn K (.ref f))
theorem methB_ok {K : PySem.W.Frag} {C : Addr} {m : Str} {f : Addr} (c : methB K C m f = true) : Meth K C m f := by
  obtain ⟨c1, c⟩ := Bool.and_eq_true_iff.mp c
  obtain ⟨c2, c3⟩ := Bool.and_eq_true_iff.mp c
  exact ⟨He.eqO_ok c1, c2, c3⟩
/-- what isinstance and the class of an object ask -/
def isiB (K : PySem.W.Frag) (C : Addr) : Bool := He.eqO (PySem.W.findIn K (.ref C) "__class__") (some (some (.builtin "object.__class__"))) && decide (PySem.W.mroIn K C (.type "object") = some true)
theorem isiB_ok {K : PySem.W.Frag} {C : Addr} (c : isiB K C = true) : PySem.W.findIn K (.ref C) "__class__" = some (some (.builtin "object.__class__")) ∧ PySem.W.mroIn K C (.type "object") = some true := by
  obtain ⟨c1, c2⟩ := Bool.and_eq_true_iff.mp c
  exact ⟨He.eqO_ok c1, of_decide_eq_true c2⟩
/-! ### code objects and their tables -/
def cod (y : Str) (K : PySem.W.Frag) : Addr := match PySem.W.tabIn K y with
  | some p => p.1
  | none => 0
def tbl (y : Str) (K : PySem.W.Frag) : Addr := match PySem.W.tabIn K y with
  | some p => p.2
  | none => 0
def tabB (K : PySem.W.Frag) (y : Str) : Bool := decide (PySem.W.tabIn K y = some (cod y K, tbl y K)) && (K.lookup (tbl y K)).isNone
theorem tabB_ok {K : PySem.W.Frag} {y : Str} (c : tabB K y = true) : PySem.W.tabIn K y = some (cod y K, tbl y K) ∧ K.lookup (tbl y K) = none := by
  obtain ⟨c1, c2⟩ := Bool.and_eq_true_iff.mp c
  exact ⟨of_decide_eq_true c1, Option.isNone_iff_eq_none.mp c2⟩
theorem code_of {K : PySem.W.Frag} {x q y : Str} {st : Stmt} {fd : FuncData} {c P : Addr} (F : Fun K x q st (He.ga K y) fd) (h : PySem.W.tabIn K y = some (c, P)) : fd.code = .ref c := by
  obtain ⟨oc, od, kV, doc, pm, an, cdv, ct, osl, rfl, lk, hcd⟩ := F.ex
  unfold PySem.W.tabIn at h
  unfold He.ga at lk
  split at h
  · rename_i f hf
    rw [hf] at lk
    dsimp only at lk
    rw [lk] at h
    dsimp only at h
    split at h
    · split at h
      · split at h
        · cases h; first | rfl | assumption
        · cases h
      · cases h
    · cases h
  · cases h
end HX
set_option Elab.async false
set_option linter.all false
set_option maxRecDepth 100000
set_option maxHeartbeats 4400000
namespace HX
open L2 PyProof.Rows PySem.Spec PySem
open PySem.W (Frag)
/-! ### facts of own errors -/
def ExcObj (K : Frag) (C : Addr) : Prop := ∃ nm q N bs bm sn sub ab col dd k0 k1 k2 k3 k5, K.lookup C = some (excClassObj nm q C N bs bm true sn sub ab col dd k0 k1 k2 k3 k5 "ValueError.__new__") ∧ PySem.HandSPX.refsVE bm = true
theorem exc_mk {K : Frag} {C : Addr} {nm q : Str} {N : Addr} {bs bm : List Value} {sn : List Str} {sub : List Value} {ab : Bool} {col : Option Bool} {dd : Option Addr} {k0 k1 k2 k3 k5 : Option Value}
    (h : K.lookup C = some (excClassObj nm q C N bs bm true sn sub ab col dd k0 k1 k2 k3 k5 "ValueError.__new__")) (r : PySem.HandSPX.refsVE bm = true) : ExcObj K C := ⟨_, _, _, _, _, _, _, _, _, _, _, _, _, _, _, h, r⟩
/-- what an own error's class says, but for its __init__ -/
def errB0 (K : Frag) (C : Addr) : Bool :=
  (PySem.W.clsIn K C).isSome && PySem.W.findIn K (.ref C) "__getattribute__" == some (some (.builtin "BaseException.__getattribute__")) && PySem.W.findIn K (.ref C) "__getattr__" == some none
  && PySem.W.subIn K (.ref C) (.type "BaseException") == some true && PySem.W.findIn K (.ref C) "__class__" == some (some (.builtin "object.__class__"))
  && PySem.W.specialIn K (.builtin "object.__class__") "__get__" == some (some (.builtin "getset_descriptor.__get__")) && PySem.W.takesIn K (.builtin "object.__class__") == some true && PySem.W.mroIn K C (.type "object") == some true
  && PySem.W.keepIn K (.ref C)
theorem errB0_er {K : Frag} {C : Addr} (h : errB0 K C = true) : ErrC K C := by
  unfold errB0 at h
  simp only [Bool.and_eq_true, beq_iff_eq] at h
  obtain ⟨⟨⟨⟨⟨⟨⟨⟨h1, h2⟩, h3⟩, h4⟩, h5⟩, h6⟩, h7⟩, h8⟩, _⟩ := h
  exact ⟨h1, h2, h3, h4, h5, h6, h7, h8⟩
theorem errB0_keep {K : Frag} {C : Addr} (h : errB0 K C = true) : PySem.W.keepIn K (.ref C) = true := by
  unfold errB0 at h
  simp only [Bool.and_eq_true, beq_iff_eq] at h
  exact h.2
def errB (K : Frag) (C f : Addr) (n : Str) : Bool :=
  errB0 K C && PySem.W.hasDictIn K C && PySem.W.findIn K (.ref C) "__setattr__" == some (some (.builtin "object.__setattr__")) && PySem.W.typeIn K (.ref C) == some (.type "type") && PySem.W.findIn K (.ref C) n == some none
  && PySem.W.findIn K (.ref C) "__init__" == some (some (.ref f)) && PySem.W.typeIn K (.ref f) == some (.type "function")
theorem errT_mk_er {K : Frag} {C f : Addr} {n : Str} (h : errB K C f n = true) : ErrC K C := by
  unfold errB at h
  simp only [Bool.and_eq_true, beq_iff_eq] at h
  exact errB0_er h.1.1.1.1.1.1
theorem errT_mk {K : Frag} {mg : Str → Option Value} {x n : Str} {C f : Addr} {d : FuncData} (o : ExcObj K C) (h : errB K C f n = true) (b : Binds K d ["self", n] []) (kb : ∀ (s : Shared) (a u : Value), K.In s.heap → BindsTo s d ⟨[a], [(n, u)]⟩ [("self", a), (n, u)]) (m : mg x = some (.ref C)) : ErrT K mg x n C f d := by
  unfold errB at h
  simp only [Bool.and_eq_true, beq_iff_eq] at h
  obtain ⟨⟨⟨⟨⟨⟨h0, h1⟩, h2⟩, h3⟩, h4⟩, h5⟩, h6⟩ := h
  have e := errB0_er h0
  exact ⟨⟨o, h2, e.be, h3, errB0_keep h0⟩, ⟨e.ga, e.gt, e.be, h1⟩, e, h4, h5, h6, b, kb, m⟩
def mroOne (K : Frag) (T C : Addr) : Bool := (PySem.W.clsIn K C).any (fun cd => decide (cd.mro = [.ref C, .ref T, .type "ValueError", .type "Exception", .type "BaseException", .type "object"])) && decide (PySem.W.typeIn K (.ref C) = some (.type "type"))
/-- errors right below the class at T, all different -/
def mroB (K : Frag) (T : Addr) (l : List Addr) : Bool := (PySem.W.clsIn K T).isSome && (decide (PySem.W.typeIn K (.ref T) = some (.type "type")) && (l.all (mroOne K T) && (decide (l.Nodup) && l.all fun C => !(C == T))))
theorem mroOne_sub {K : Frag} {T C : Addr} {v : Value} (h : mroOne K T C = true) : PySem.W.subIn K (.ref C) v = some (([.ref C, .ref T, .type "ValueError", .type "Exception", .type "BaseException", .type "object"] : List Value).contains v) := by
  unfold mroOne at h
  rw [Bool.and_eq_true] at h
  cases e : PySem.W.clsIn K C with
  | none => rw [e] at h; cases h.1
  | some cd =>
    rw [e] at h
    have m : cd.mro = _ := of_decide_eq_true h.1
    show PySem.W.mroIn K C v = _
    unfold PySem.W.mroIn
    rw [e]
    show (if cd.mro.isEmpty = true then none else some (cd.mro.contains v)) = _
    rw [m]; rfl
theorem mroOne_cls {K : Frag} {T C : Addr} (h : mroOne K T C = true) : (PySem.W.clsIn K C).isSome = true ∧ PySem.W.typeIn K (.ref C) = some (.type "type") := by
  unfold mroOne at h
  rw [Bool.and_eq_true] at h
  refine ⟨?_, of_decide_eq_true h.2⟩
  cases e : PySem.W.clsIn K C with
  | none => rw [e] at h; cases h.1
  | some cd => rfl
theorem mroB_kit {K : Frag} {T : Addr} {l : List Addr} (h : mroB K T l = true) : ∀ C ∈ l, ∀ D ∈ l, PySem.W.kitOne K (.ref C) (.ref D) = some (C == D) := fun C hC D hD => by
  unfold mroB at h
  simp only [Bool.and_eq_true, List.all_eq_true, Bool.not_eq_true', beq_eq_false_iff_ne] at h
  obtain ⟨_, _, h1, _, h3⟩ := h
  obtain ⟨c1, c2⟩ := mroOne_cls (h1 D hD)
  have sb := mroOne_sub (v := .ref D) (h1 C hC)
  by_cases e : C = D
  · subst e; simp [PySem.W.kitOne]
  · have n1 : (C == D) = false := beq_eq_false_iff_ne.mpr e
    have n2 : ((Value.ref C) == (.ref D)) = false := by simp [e]
    rw [n1]
    have ct : ([.ref C, .ref T, .type "ValueError", .type "Exception", .type "BaseException", .type "object"] : List Value).contains (.ref D) = false := by
      have e2 : ¬ D = C := fun z => e z.symm
      have e3 : ¬ D = T := h3 D hD
      simp [e2, e3]
    rw [ct] at sb
    simp [PySem.W.kitOne, PySem.W.kitCls, n2, c1, c2, sb]
theorem mroB_te {K : Frag} {T : Addr} {l : List Addr} (h : mroB K T l = true) : ∀ C ∈ l, PySem.W.kitOne K (.ref C) (.ref T) = some true := fun C hC => by
  unfold mroB at h
  simp only [Bool.and_eq_true, List.all_eq_true, Bool.not_eq_true', beq_eq_false_iff_ne, decide_eq_true_eq] at h
  obtain ⟨t1, t2, h1, _, h3⟩ := h
  have sb := mroOne_sub (v := .ref T) (h1 C hC)
  have n2 : ((Value.ref C) == (.ref T)) = false := by simp [h3 C hC]
  have ct : ([.ref C, .ref T, .type "ValueError", .type "Exception", .type "BaseException", .type "object"] : List Value).contains (.ref T) = true := by simp
  rw [ct] at sb
  simp [PySem.W.kitOne, PySem.W.kitCls, n2, t1, t2, sb]
theorem mroB_ve {K : Frag} {T : Addr} {l : List Addr} (h : mroB K T l = true) : ∀ C ∈ l, PySem.W.kitOne K (.ref C) (.type "ValueError") = some true := fun C hC => by
  unfold mroB at h
  simp only [Bool.and_eq_true, List.all_eq_true, Bool.not_eq_true', beq_eq_false_iff_ne] at h
  obtain ⟨_, _, h1, _, _⟩ := h
  have sb := mroOne_sub (v := .type "ValueError") (h1 C hC)
  have ct : ([.ref C, .ref T, .type "ValueError", .type "Exception", .type "BaseException", .type "object"] : List Value).contains (.type "ValueError") = true := by simp
  rw [ct] at sb
  have km : PySem.W.kitMeta "ValueError" = true := by decide +kernel
  have n2 : ((Value.ref C) == (.type "ValueError")) = false := rfl
  simp [PySem.W.kitOne, PySem.W.kitCls, n2, km, sb]
theorem mroB_nd {K : Frag} {T : Addr} {l : List Addr} (h : mroB K T l = true) : l.Nodup := by
  unfold mroB at h
  simp only [Bool.and_eq_true, decide_eq_true_eq] at h
  exact h.2.2.2.1
def excB (K : Frag) (C : Addr) : Bool := match K.lookup C with
  | some ⟨.type "type", _, .cls cd, sl⟩ => (match cd.mro, sl.toList with
    | .ref D :: bm, [_, _, _, _, some (.builtin n), _] => D == C && (n == "ValueError.__new__" && (!cd.hasDel && (cd.hasDict && PySem.HandSPX.refsVE bm)))
    | _, _ => false)
  | _ => false
theorem excB_ok {K : Frag} {C : Addr} (q : excB K C = true) : ExcObj K C := by
  unfold excB at q
  split at q
  · rename_i dd cd sl ho
    split at q
    · rename_i D bm k0 k1 k2 k3 n k5 hm hs
      simp only [Bool.and_eq_true, beq_iff_eq, Bool.not_eq_true'] at q
      obtain ⟨rfl, rfl, hdel, hdi, hr⟩ := q
      obtain ⟨nm, bs, mro, ns, qn, hd, sn, sub, ab, col, del⟩ := cd
      dsimp only at hm hdel hdi
      subst hm hdel hdi
      obtain ⟨l⟩ := sl
      simp only at hs
      subst hs
      exact ⟨_, _, _, _, _, _, _, _, _, _, _, _, _, _, _, ho, hr⟩
    · cases q
  · cases q
theorem kb_of {K : Frag} {x q n : Str} {st : Stmt} {f : Addr} {fd : FuncData} (F : Fun K x q st f fd) (h : ∀ (kV doc pm : Value) (an : Option Addr) (cdv ct : Value) (a u : Value), bindArgs (PySem.W.fnOf x q (defArgs st) (defBody st) (defScope st) .none kV doc pm an cdv ct) ⟨[a], [(n, u)]⟩ = pure [(("self" : Str), a), (n, u)]) :
    ∀ (s : Shared) (a u : Value), K.In s.heap → BindsTo s fd ⟨[a], [(n, u)]⟩ [("self", a), (n, u)] := by
  obtain ⟨oc, od, kV, doc, pm, an, cdv, ct, osl, rfl, lk, hcd⟩ := F.ex
  exact fun s a u _ => .of_eq (h _ _ _ _ _ _ _ _)
theorem mroB_xte {K : Frag} {T : Addr} {l : List Addr} (h : mroB K T l = true) (hb : PySem.W.subIn K (.ref T) (.type "BaseException") = some true) : ∀ C ∈ l, PySem.W.exmOne K (.ref C) (.ref T) = some true := fun C hC => by
  have k := mroB_te h C hC
  have h2 := h
  unfold mroB at h2
  simp only [Bool.and_eq_true, List.all_eq_true, Bool.not_eq_true', beq_eq_false_iff_ne, decide_eq_true_eq] at h2
  have n2 : ((Value.ref C) == (.ref T)) = false := by simp [h2.2.2.2.2 C hC]
  unfold PySem.W.kitOne at k
  rw [n2] at k
  unfold PySem.W.exmOne
  rw [hb]
  exact k
end HX
set_option Elab.async false
set_option linter.all false
set_option maxRecDepth 100000
set_option maxHeartbeats 4400000
namespace HX
open L2 PyProof.Rows PySem.Spec PySem
open PySem.W (Frag)
/-! ### list(..) of a list or a tuple: the new list stands apart from the table of modules -/
def rListN (K : Frag) : List V → Hp → VK → Prop := fun xs H Q => ∃ p ys, xs = [.ref p] ∧ (SqL K H p ys ∨ SqT K H p ys) ∧ ∀ l, H l = none → l ≠ sysModules → Q (.ref l) (upd H l (.lst ys))
theorem call_listN {X : Cx} : CallR X (.type "list") (rListN X.K) := fun pp t τ G xs us R J r h => by
  obtain ⟨p, ys, e0, hs, q⟩ := h
  subst e0
  match us, r with
  | [_], .cons rx .nil =>
    cases rx
    have new : ∀ (vs : List Value) (g : Heap) (n : Nat), Vals ys vs → ys.length ≤ sizeLine → (∀ b o, t.heap.get? b = some o → g.get? b = some o) → g.get? t.heap.objs.size = some ⟨.type "list", none, .seq vs.toArray n, #[]⟩ → EP X pp τ R (.ref t.heap.objs.size) ⟨g, t.gens, t.drawn, t.toks, t.os⟩ :=
      fun vs g n rv z kp e => ⟨.ref t.heap.objs.size, _, J.laid (t' := t.toks) (o := .lst ys) kp (Nat.le_refl _) ⟨z, vs, n, rv, e⟩, rfl, q _ (J.hok.fresh (Nat.le_refl _)) (Nat.ne_of_gt J.big)⟩
    rcases hs with hs | hs
    · obtain ⟨vs, rv, pl, z⟩ := J.list hs
      have n63 := line63; have ln := rv.length
      obtain ⟨o, h1, h2, n, h3⟩ := pl.isList
      exact call_list_seq p (.inl rfl) h1 h2 h3 (fun g n' kp e => new vs g n' rv z kp e) (by rw [List.size_toArray]; omega)
    · obtain ⟨vs, rv, ⟨o, h1, h2, n, h3⟩, z⟩ := J.tuple hs
      have n63 := line63; have ln := rv.length
      exact call_list_seq p (.inr rfl) h1 h2 h3 (fun g n' kp e => new vs g n' rv z kp e) (by rw [List.size_toArray]; omega)
/-! ### short sequences of small ints -/
def bdB (d : PyData) : Bool := d.showable && decide (d.depth ≤ 4) && d.leavesShort 24 && decide (d.weight ≤ 400) && PyData.strOk d.shown
theorem bdB_ok {d : PyData} (h : bdB d = true) : Bd 0 d := .of h
def intsTo (m : Nat) : Nat → List (List Int)
  | 0 => [[]]
  | k + 1 => [] :: (intsTo m k).flatMap fun l => (List.range m).map (fun i : Nat => ((i : Int) :: l))
theorem mem_ints {m : Nat} : ∀ {k : Nat} {l : List Int}, l.length ≤ k → (∀ i ∈ l, 0 ≤ i ∧ i < (m : Int)) → l ∈ intsTo m k
  | 0, [], _, _ => .head _
  | 0, _ :: _, h, _ => by simp at h
  | k + 1, [], _, _ => .head _
  | k + 1, i :: l, h, b => by
    refine List.mem_cons.mpr (.inr (List.mem_flatMap.mpr ⟨l, mem_ints (by simpa using h) fun j hj => b j (.tail _ hj), List.mem_map.mpr ⟨i.toNat, List.mem_range.mpr ?_, ?_⟩⟩))
    · have := b i (.head _); omega
    · have := b i (.head _); rw [Int.toNat_of_nonneg this.1]
end HX
set_option Elab.async false
set_option linter.all false
set_option maxRecDepth 100000
set_option maxHeartbeats 4400000
namespace K03
open PySem PySem.Spec PyProof.Rows L2 HX
open PySem.W (Frag)

def topS (i : Nat) : Stmt := PySem.Challenge.pw_tapedonce_k03_what_makes_no_row_and_faul.main.body.getD i (.Pass ⟨0, 0, 0, 0⟩)
abbrev s_BadSize_init : Stmt := inClass (topS 2) 0
abbrev N_BadSize_init : List Str := ["self", "value"]
theorem sc_BadSize_init : FnScope N_BadSize_init ["self", "value"] (defScope s_BadSize_init) := ⟨rfl, rfl, rfl, by decide +kernel, rfl, by decide +kernel, by decide +kernel⟩
abbrev s_BadWorth_init : Stmt := inClass (topS 3) 0
abbrev N_BadWorth_init : List Str := ["self", "value"]
theorem sc_BadWorth_init : FnScope N_BadWorth_init ["self", "value"] (defScope s_BadWorth_init) := ⟨rfl, rfl, rfl, by decide +kernel, rfl, by decide +kernel, by decide +kernel⟩
abbrev s_BadMost_init : Stmt := inClass (topS 4) 0
abbrev N_BadMost_init : List Str := ["self", "value"]
theorem sc_BadMost_init : FnScope N_BadMost_init ["self", "value"] (defScope s_BadMost_init) := ⟨rfl, rfl, rfl, by decide +kernel, rfl, by decide +kernel, by decide +kernel⟩
abbrev s_BadItems_init : Stmt := inClass (topS 5) 0
abbrev N_BadItems_init : List Str := ["self", "value"]
theorem sc_BadItems_init : FnScope N_BadItems_init ["self", "value"] (defScope s_BadItems_init) := ⟨rfl, rfl, rfl, by decide +kernel, rfl, by decide +kernel, by decide +kernel⟩
abbrev s_Fault_init : Stmt := inClass (topS 6) 0
abbrev N_Fault_init : List Str := ["self", "words"]
theorem sc_Fault_init : FnScope N_Fault_init ["self", "words"] (defScope s_Fault_init) := ⟨rfl, rfl, rfl, by decide +kernel, rfl, by decide +kernel, by decide +kernel⟩
abbrev s_is_whole : Stmt := topS 8
abbrev N_is_whole : List Str := ["value", "low", "below"]
theorem sc_is_whole : FnScope N_is_whole ["value", "low", "below"] (defScope s_is_whole) := ⟨rfl, rfl, rfl, by decide +kernel, rfl, by decide +kernel, by decide +kernel⟩
abbrev s_is_size : Stmt := topS 9
abbrev N_is_size : List Str := ["value"]
theorem sc_is_size : FnScope N_is_size ["value"] (defScope s_is_size) := ⟨rfl, rfl, rfl, by decide +kernel, rfl, by decide +kernel, by decide +kernel⟩
abbrev s_is_most : Stmt := topS 10
abbrev N_is_most : List Str := ["value"]
theorem sc_is_most : FnScope N_is_most ["value"] (defScope s_is_most) := ⟨rfl, rfl, rfl, by decide +kernel, rfl, by decide +kernel, by decide +kernel⟩
abbrev s_are_items : Stmt := topS 11
abbrev N_are_items : List Str := ["value", "size", "most", "worth"]
theorem sc_are_items : FnScope N_are_items ["value", "size", "most"] (defScope s_are_items) := ⟨rfl, rfl, rfl, by decide +kernel, rfl, by decide +kernel, by decide +kernel⟩
abbrev s_Number_init : Stmt := inClass (topS 13) 0
abbrev N_Number_init : List Str := ["self", "size", "worth"]
theorem sc_Number_init : FnScope N_Number_init ["self", "size", "worth"] (defScope s_Number_init) := ⟨rfl, rfl, rfl, by decide +kernel, rfl, by decide +kernel, by decide +kernel⟩
abbrev s_Number_size : Stmt := inClass (topS 13) 1
abbrev N_Number_size : List Str := ["self"]
theorem sc_Number_size : FnScope N_Number_size ["self"] (defScope s_Number_size) := ⟨rfl, rfl, rfl, by decide +kernel, rfl, by decide +kernel, by decide +kernel⟩
abbrev s_Number_worth : Stmt := inClass (topS 13) 2
abbrev N_Number_worth : List Str := ["self"]
theorem sc_Number_worth : FnScope N_Number_worth ["self"] (defScope s_Number_worth) := ⟨rfl, rfl, rfl, by decide +kernel, rfl, by decide +kernel, by decide +kernel⟩
abbrev s_Number_add : Stmt := inClass (topS 13) 3
abbrev N_Number_add : List Str := ["self", "other"]
theorem sc_Number_add : FnScope N_Number_add ["self", "other"] (defScope s_Number_add) := ⟨rfl, rfl, rfl, by decide +kernel, rfl, by decide +kernel, by decide +kernel⟩
abbrev s_Number_radd : Stmt := inClass (topS 13) 4
abbrev N_Number_radd : List Str := ["self", "other"]
theorem sc_Number_radd : FnScope N_Number_radd ["self", "other"] (defScope s_Number_radd) := ⟨rfl, rfl, rfl, by decide +kernel, rfl, by decide +kernel, by decide +kernel⟩
abbrev s_Number_sub : Stmt := inClass (topS 13) 5
abbrev N_Number_sub : List Str := ["self", "other"]
theorem sc_Number_sub : FnScope N_Number_sub ["self", "other"] (defScope s_Number_sub) := ⟨rfl, rfl, rfl, by decide +kernel, rfl, by decide +kernel, by decide +kernel⟩
abbrev s_Number_rsub : Stmt := inClass (topS 13) 6
abbrev N_Number_rsub : List Str := ["self", "other"]
theorem sc_Number_rsub : FnScope N_Number_rsub ["self", "other"] (defScope s_Number_rsub) := ⟨rfl, rfl, rfl, by decide +kernel, rfl, by decide +kernel, by decide +kernel⟩
abbrev s_Number_mul : Stmt := inClass (topS 13) 7
abbrev N_Number_mul : List Str := ["self", "other"]
theorem sc_Number_mul : FnScope N_Number_mul ["self", "other"] (defScope s_Number_mul) := ⟨rfl, rfl, rfl, by decide +kernel, rfl, by decide +kernel, by decide +kernel⟩
abbrev s_Number_rmul : Stmt := inClass (topS 13) 8
abbrev N_Number_rmul : List Str := ["self", "other"]
theorem sc_Number_rmul : FnScope N_Number_rmul ["self", "other"] (defScope s_Number_rmul) := ⟨rfl, rfl, rfl, by decide +kernel, rfl, by decide +kernel, by decide +kernel⟩
abbrev s_Number_floordiv : Stmt := inClass (topS 13) 9
abbrev N_Number_floordiv : List Str := ["self", "other"]
theorem sc_Number_floordiv : FnScope N_Number_floordiv ["self", "other"] (defScope s_Number_floordiv) := ⟨rfl, rfl, rfl, by decide +kernel, rfl, by decide +kernel, by decide +kernel⟩
abbrev s_Number_rfloordiv : Stmt := inClass (topS 13) 10
abbrev N_Number_rfloordiv : List Str := ["self", "other"]
theorem sc_Number_rfloordiv : FnScope N_Number_rfloordiv ["self", "other"] (defScope s_Number_rfloordiv) := ⟨rfl, rfl, rfl, by decide +kernel, rfl, by decide +kernel, by decide +kernel⟩
abbrev s_Number_neg : Stmt := inClass (topS 13) 11
abbrev N_Number_neg : List Str := ["self"]
theorem sc_Number_neg : FnScope N_Number_neg ["self"] (defScope s_Number_neg) := ⟨rfl, rfl, rfl, by decide +kernel, rfl, by decide +kernel, by decide +kernel⟩
abbrev s_Number_eq : Stmt := inClass (topS 13) 12
abbrev N_Number_eq : List Str := ["self", "other"]
theorem sc_Number_eq : FnScope N_Number_eq ["self", "other"] (defScope s_Number_eq) := ⟨rfl, rfl, rfl, by decide +kernel, rfl, by decide +kernel, by decide +kernel⟩
abbrev s_Number_ne : Stmt := inClass (topS 13) 13
abbrev N_Number_ne : List Str := ["self", "other"]
theorem sc_Number_ne : FnScope N_Number_ne ["self", "other"] (defScope s_Number_ne) := ⟨rfl, rfl, rfl, by decide +kernel, rfl, by decide +kernel, by decide +kernel⟩
abbrev s_Number_lt : Stmt := inClass (topS 13) 14
abbrev N_Number_lt : List Str := ["self", "other"]
theorem sc_Number_lt : FnScope N_Number_lt ["self", "other"] (defScope s_Number_lt) := ⟨rfl, rfl, rfl, by decide +kernel, rfl, by decide +kernel, by decide +kernel⟩
abbrev s_Number_le : Stmt := inClass (topS 13) 15
abbrev N_Number_le : List Str := ["self", "other"]
theorem sc_Number_le : FnScope N_Number_le ["self", "other"] (defScope s_Number_le) := ⟨rfl, rfl, rfl, by decide +kernel, rfl, by decide +kernel, by decide +kernel⟩
abbrev s_Number_gt : Stmt := inClass (topS 13) 16
abbrev N_Number_gt : List Str := ["self", "other"]
theorem sc_Number_gt : FnScope N_Number_gt ["self", "other"] (defScope s_Number_gt) := ⟨rfl, rfl, rfl, by decide +kernel, rfl, by decide +kernel, by decide +kernel⟩
abbrev s_Number_ge : Stmt := inClass (topS 13) 17
abbrev N_Number_ge : List Str := ["self", "other"]
theorem sc_Number_ge : FnScope N_Number_ge ["self", "other"] (defScope s_Number_ge) := ⟨rfl, rfl, rfl, by decide +kernel, rfl, by decide +kernel, by decide +kernel⟩
abbrev s_worth_of : Stmt := topS 14
abbrev N_worth_of : List Str := ["number"]
theorem sc_worth_of : FnScope N_worth_of ["number"] (defScope s_worth_of) := ⟨rfl, rfl, rfl, by decide +kernel, rfl, by decide +kernel, by decide +kernel⟩
abbrev s_is_side : Stmt := topS 15
abbrev N_is_side : List Str := ["value"]
theorem sc_is_side : FnScope N_is_side ["value"] (defScope s_is_side) := ⟨rfl, rfl, rfl, by decide +kernel, rfl, by decide +kernel, by decide +kernel⟩
abbrev s_gone_round : Stmt := topS 16
abbrev N_gone_round : List Str := ["size", "plain"]
theorem sc_gone_round : FnScope N_gone_round ["size", "plain"] (defScope s_gone_round) := ⟨rfl, rfl, rfl, by decide +kernel, rfl, by decide +kernel, by decide +kernel⟩
abbrev s_quotient : Stmt := topS 17
abbrev N_quotient : List Str := ["size", "worth", "by"]
theorem sc_quotient : FnScope N_quotient ["size", "worth", "by"] (defScope s_quotient) := ⟨rfl, rfl, rfl, by decide +kernel, rfl, by decide +kernel, by decide +kernel⟩
abbrev s_Row_init : Stmt := inClass (topS 19) 0
abbrev N_Row_init : List Str := ["self", "size", "most", "items"]
theorem sc_Row_init : FnScope N_Row_init ["self", "size", "most", "items"] (defScope s_Row_init) := ⟨rfl, rfl, rfl, by decide +kernel, rfl, by decide +kernel, by decide +kernel⟩
abbrev s_Row_worths : Stmt := inClass (topS 19) 1
abbrev N_Row_worths : List Str := ["self"]
theorem sc_Row_worths : FnScope N_Row_worths ["self"] (defScope s_Row_worths) := ⟨rfl, rfl, rfl, by decide +kernel, rfl, by decide +kernel, by decide +kernel⟩
abbrev s_Row_has : Stmt := inClass (topS 19) 2
abbrev N_Row_has : List Str := ["self", "i"]
theorem sc_Row_has : FnScope N_Row_has ["self", "i"] (defScope s_Row_has) := ⟨rfl, rfl, rfl, by decide +kernel, rfl, by decide +kernel, by decide +kernel⟩
abbrev s_Row_len : Stmt := inClass (topS 19) 3
abbrev N_Row_len : List Str := ["self"]
theorem sc_Row_len : FnScope N_Row_len ["self"] (defScope s_Row_len) := ⟨rfl, rfl, rfl, by decide +kernel, rfl, by decide +kernel, by decide +kernel⟩
abbrev s_Row_getitem : Stmt := inClass (topS 19) 4
abbrev N_Row_getitem : List Str := ["self", "at"]
theorem sc_Row_getitem : FnScope N_Row_getitem ["self", "at"] (defScope s_Row_getitem) := ⟨rfl, rfl, rfl, by decide +kernel, rfl, by decide +kernel, by decide +kernel⟩
abbrev s_Row_setitem : Stmt := inClass (topS 19) 5
abbrev N_Row_setitem : List Str := ["self", "at", "worth"]
theorem sc_Row_setitem : FnScope N_Row_setitem ["self", "at", "worth"] (defScope s_Row_setitem) := ⟨rfl, rfl, rfl, by decide +kernel, rfl, by decide +kernel, by decide +kernel⟩
abbrev s_Row_iadd : Stmt := inClass (topS 19) 6
abbrev N_Row_iadd : List Str := ["self", "other"]
theorem sc_Row_iadd : FnScope N_Row_iadd ["self", "other"] (defScope s_Row_iadd) := ⟨rfl, rfl, rfl, by decide +kernel, rfl, by decide +kernel, by decide +kernel⟩
abbrev s_Row_set_item : Stmt := inClass (topS 19) 7
abbrev N_Row_set_item : List Str := ["self", "i", "x"]
theorem sc_Row_set_item : FnScope N_Row_set_item ["self", "i", "x"] (defScope s_Row_set_item) := ⟨rfl, rfl, rfl, by decide +kernel, rfl, by decide +kernel, by decide +kernel⟩
abbrev s_Row_push_item : Stmt := inClass (topS 19) 8
abbrev N_Row_push_item : List Str := ["self", "x"]
theorem sc_Row_push_item : FnScope N_Row_push_item ["self", "x"] (defScope s_Row_push_item) := ⟨rfl, rfl, rfl, by decide +kernel, rfl, by decide +kernel, by decide +kernel⟩
abbrev s_Row_iter : Stmt := inClass (topS 19) 9
abbrev N_Row_iter : List Str := ["self"]
theorem sc_Row_iter : FnScope N_Row_iter ["self"] (defScope s_Row_iter) := ⟨rfl, rfl, rfl, by decide +kernel, rfl, by decide +kernel, by decide +kernel⟩
abbrev s_pot : Stmt := topS 21
abbrev N_pot : List Str := ["_law_script", "_law_k", "_law_cell", "_law_own"]
theorem sc_pot : FnScope N_pot ["_law_script", "_law_k"] (defScope s_pot) := ⟨rfl, rfl, rfl, by decide +kernel, rfl, by decide +kernel, by decide +kernel⟩
abbrev s_take : Stmt := topS 22
abbrev N_take : List Str := ["_law_pot_here", "_law_upto", "_law_digit", "_law_prime", "_law_mixed"]
theorem sc_take : FnScope N_take ["_law_pot_here", "_law_upto"] (defScope s_take) := ⟨rfl, rfl, rfl, by decide +kernel, rfl, by decide +kernel, by decide +kernel⟩
abbrev s_of : Stmt := topS 23
abbrev N_of : List Str := ["_law_pot_here", "_law_some"]
theorem sc_of : FnScope N_of ["_law_pot_here", "_law_some"] (defScope s_of) := ⟨rfl, rfl, rfl, by decide +kernel, rfl, by decide +kernel, by decide +kernel⟩
abbrev s_any : Stmt := topS 24
abbrev N_any : List Str := ["_law_pot_here", "_law_some", "_law_found", "_law_turn"]
theorem sc_any : FnScope N_any ["_law_pot_here"] (defScope s_any) := ⟨rfl, rfl, rfl, by decide +kernel, rfl, by decide +kernel, by decide +kernel⟩
abbrev s_drawn : Stmt := topS 25
abbrev N_drawn : List Str := ["_law_pot_here", "_law_some"]
theorem sc_drawn : FnScope N_drawn ["_law_pot_here", "_law_some"] (defScope s_drawn) := ⟨rfl, rfl, rfl, by decide +kernel, rfl, by decide +kernel, by decide +kernel⟩
abbrev s_items : Stmt := topS 26
abbrev N_items : List Str := ["_law_pot_here", "_law_found", "_law_way", "_law_lap"]
theorem sc_items : FnScope N_items ["_law_pot_here"] (defScope s_items) := ⟨rfl, rfl, rfl, by decide +kernel, rfl, by decide +kernel, by decide +kernel⟩
abbrev s_is_from : Stmt := topS 27
abbrev N_is_from : List Str := ["_law_value", "_law_low", "_law_high"]
theorem sc_is_from : FnScope N_is_from ["_law_value", "_law_low", "_law_high"] (defScope s_is_from) := ⟨rfl, rfl, rfl, by decide +kernel, rfl, by decide +kernel, by decide +kernel⟩
abbrev s_due : Stmt := topS 28
abbrev N_due : List Str := ["_law_girth", "_law_cap", "_law_things", "_law_one"]
theorem sc_due : FnScope N_due ["_law_girth", "_law_cap", "_law_things"] (defScope s_due) := ⟨rfl, rfl, rfl, by decide +kernel, rfl, by decide +kernel, by decide +kernel⟩
abbrev s_heard : Stmt := topS 29
abbrev N_heard : List Str := ["_law_call", "_law_caught", "_law_found", "error", "_law_marks"]
theorem sc_heard : FnScope N_heard ["_law_call"] (defScope s_heard) := ⟨rfl, rfl, rfl, by decide +kernel, rfl, by decide +kernel, by decide +kernel⟩
abbrev s_right : Stmt := topS 30
abbrev N_right : List Str := ["_law_pot_here", "_law_turn", "_law_before", "_law_due_here", "_law_heard_here", "_law_fault", "_law_cap", "_law_girth", "_law_things", "_law_one"]
theorem sc_right : FnScope N_right ["_law_pot_here"] (defScope s_right) := ⟨rfl, rfl, rfl, by decide +kernel, rfl, by decide +kernel, by decide +kernel⟩
abbrev s_law : Stmt := topS 31
abbrev N_law : List Str := ["_law_script", "_law_k"]
theorem sc_law : FnScope N_law ["_law_script"] (defScope s_law) := ⟨rfl, rfl, rfl, by decide +kernel, rfl, by decide +kernel, by decide +kernel⟩
structure Ad where
  C_TapeError : Addr
  C_BadSize : Addr
  C_BadMost : Addr
  C_BadItems : Addr
  C_Fault : Addr
  C_Row : Addr
  f_BadSize_init : Addr
  d_BadSize_init : FuncData
  f_BadMost_init : Addr
  d_BadMost_init : FuncData
  f_BadItems_init : Addr
  d_BadItems_init : FuncData
  f_Fault_init : Addr
  d_Fault_init : FuncData
  f_is_whole : Addr
  d_is_whole : FuncData
  f_is_size : Addr
  d_is_size : FuncData
  f_is_most : Addr
  d_is_most : FuncData
  f_are_items : Addr
  d_are_items : FuncData
  f_Row_init : Addr
  d_Row_init : FuncData
  f_Row_worths : Addr
  d_Row_worths : FuncData
  f_pot : Addr
  d_pot : FuncData
  f_take : Addr
  d_take : FuncData
  f_of : Addr
  d_of : FuncData
  f_any : Addr
  d_any : FuncData
  f_drawn : Addr
  d_drawn : FuncData
  f_items : Addr
  d_items : FuncData
  f_is_from : Addr
  d_is_from : FuncData
  f_heard : Addr
  d_heard : FuncData
  f_due : Addr
  d_due : FuncData
  f_right : Addr
  d_right : FuncData
  f_law : Addr
  d_law : FuncData
  p_worths : Addr
  c_right : Addr
  P_right : Addr
structure Txt (K : Frag) (mg : Str → Option Value) (A : Ad) : Prop where
  F_BadSize_init : Fun K "__init__" "BadSize.__init__" s_BadSize_init A.f_BadSize_init A.d_BadSize_init
  F_BadMost_init : Fun K "__init__" "BadMost.__init__" s_BadMost_init A.f_BadMost_init A.d_BadMost_init
  F_BadItems_init : Fun K "__init__" "BadItems.__init__" s_BadItems_init A.f_BadItems_init A.d_BadItems_init
  F_Fault_init : Fun K "__init__" "Fault.__init__" s_Fault_init A.f_Fault_init A.d_Fault_init
  F_is_whole : Fun K "is_whole" "is_whole" s_is_whole A.f_is_whole A.d_is_whole
  b_is_whole : Binds K A.d_is_whole ["value", "low", "below"] []
  m_is_whole : mg "is_whole" = some (.ref A.f_is_whole)
  F_is_size : Fun K "is_size" "is_size" s_is_size A.f_is_size A.d_is_size
  b_is_size : Binds K A.d_is_size ["value"] []
  m_is_size : mg "is_size" = some (.ref A.f_is_size)
  F_is_most : Fun K "is_most" "is_most" s_is_most A.f_is_most A.d_is_most
  b_is_most : Binds K A.d_is_most ["value"] []
  m_is_most : mg "is_most" = some (.ref A.f_is_most)
  F_are_items : Fun K "are_items" "are_items" s_are_items A.f_are_items A.d_are_items
  b_are_items : Binds K A.d_are_items ["value", "size", "most"] []
  m_are_items : mg "are_items" = some (.ref A.f_are_items)
  F_Row_init : Fun K "__init__" "Row.__init__" s_Row_init A.f_Row_init A.d_Row_init
  b_Row_init : Binds K A.d_Row_init ["self", "size", "most", "items"] []
  F_Row_worths : Fun K "worths" "Row.worths" s_Row_worths A.f_Row_worths A.d_Row_worths
  b_Row_worths : Binds K A.d_Row_worths ["self"] []
  F_pot : Fun K "_law_pot" "_law_pot" s_pot A.f_pot A.d_pot
  b_pot : Binds K A.d_pot ["_law_script", "_law_k"] []
  m_pot : mg "_law_pot" = some (.ref A.f_pot)
  F_take : Fun K "_law_take" "_law_take" s_take A.f_take A.d_take
  b_take : Binds K A.d_take ["_law_pot_here", "_law_upto"] []
  m_take : mg "_law_take" = some (.ref A.f_take)
  F_of : Fun K "_law_of" "_law_of" s_of A.f_of A.d_of
  b_of : Binds K A.d_of ["_law_pot_here", "_law_some"] []
  m_of : mg "_law_of" = some (.ref A.f_of)
  F_any : Fun K "_law_any" "_law_any" s_any A.f_any A.d_any
  b_any : Binds K A.d_any ["_law_pot_here"] []
  m_any : mg "_law_any" = some (.ref A.f_any)
  F_drawn : Fun K "_law_drawn" "_law_drawn" s_drawn A.f_drawn A.d_drawn
  b_drawn : Binds K A.d_drawn ["_law_pot_here", "_law_some"] []
  m_drawn : mg "_law_drawn" = some (.ref A.f_drawn)
  F_items : Fun K "_law_items" "_law_items" s_items A.f_items A.d_items
  b_items : Binds K A.d_items ["_law_pot_here"] []
  m_items : mg "_law_items" = some (.ref A.f_items)
  F_is_from : Fun K "_law_is_from" "_law_is_from" s_is_from A.f_is_from A.d_is_from
  b_is_from : Binds K A.d_is_from ["_law_value", "_law_low", "_law_high"] []
  m_is_from : mg "_law_is_from" = some (.ref A.f_is_from)
  F_heard : Fun K "_law_heard" "_law_heard" s_heard A.f_heard A.d_heard
  b_heard : Binds K A.d_heard ["_law_call"] []
  m_heard : mg "_law_heard" = some (.ref A.f_heard)
  F_due : Fun K "_law_due" "_law_due" s_due A.f_due A.d_due
  b_due : Binds K A.d_due ["_law_girth", "_law_cap", "_law_things"] []
  m_due : mg "_law_due" = some (.ref A.f_due)
  F_right : Fun K "_law_right" "_law_right" s_right A.f_right A.d_right
  b_right : Binds K A.d_right ["_law_pot_here"] []
  m_right : mg "_law_right" = some (.ref A.f_right)
  F_law : Fun K "law" "law" s_law A.f_law A.d_law
  b_law : Binds K A.d_law ["_law_script"] []
  m_law : mg "law" = some (.ref A.f_law)
  E_BadSize : ErrT K mg "BadSize" "value" A.C_BadSize A.f_BadSize_init A.d_BadSize_init
  E_BadMost : ErrT K mg "BadMost" "value" A.C_BadMost A.f_BadMost_init A.d_BadMost_init
  E_BadItems : ErrT K mg "BadItems" "value" A.C_BadItems A.f_BadItems_init A.d_BadItems_init
  E_Fault : ErrT K mg "Fault" "words" A.C_Fault A.f_Fault_init A.d_Fault_init
  m_TapeError : mg "TapeError" = some (.ref A.C_TapeError)
  m_BadSize : mg "BadSize" = some (.ref A.C_BadSize)
  m_BadMost : mg "BadMost" = some (.ref A.C_BadMost)
  m_BadItems : mg "BadItems" = some (.ref A.C_BadItems)
  m_Fault : mg "Fault" = some (.ref A.C_Fault)
  m_Row : mg "Row" = some (.ref A.C_Row)
  g_isinstance : mg "isinstance" = none
  g_int : mg "int" = none
  g_bool : mg "bool" = none
  g_len : mg "len" = none
  g_abs : mg "abs" = none
  g_repr : mg "repr" = none
  g_all : mg "all" = none
  g_range : mg "range" = none
  g_tuple : mg "tuple" = none
  g_list : mg "list" = none
  g_ValueError : mg "ValueError" = none
  cls_Row : Cls K A.C_Row
  mk_Row : Mk K A.C_Row A.f_Row_init
  kb_Row : KBn K A.d_Row_init ["self", "size", "most", "items"] 1 ["items", "most", "size"] (fun us ws => match us, ws with | [a], [i, m, s] => [a, s, m, i] | _, _ => []) (fun us ws => match us, ws with | [a], [i, m, s] => [a, s, m, i] | _, _ => [])
  rS : NoAttr K A.C_Row "_size"
  rM : NoAttr K A.C_Row "_most"
  rI : NoAttr K A.C_Row "_items"
  P_worths : PropOf K A.C_Row "worths" A.p_worths A.f_Row_worths
  kcl : PySem.W.findIn K (.ref A.C_Row) "__class__" = some (some (.builtin "object.__class__"))
  kgs : PySem.W.specialIn K (.builtin "object.__class__") "__get__" = some (some (.builtin "getset_descriptor.__get__"))
  ktk : PySem.W.takesIn K (.builtin "object.__class__") = some true
  kob : PySem.W.mroIn K A.C_Row (.type "object") = some true
  kit : ∀ C ∈ [A.C_BadSize, A.C_BadMost, A.C_BadItems, A.C_Fault], ∀ D ∈ [A.C_BadSize, A.C_BadMost, A.C_BadItems, A.C_Fault], PySem.W.kitOne K (.ref C) (.ref D) = some (C == D)
  kte : ∀ C ∈ [A.C_BadSize, A.C_BadMost, A.C_BadItems, A.C_Fault], PySem.W.kitOne K (.ref C) (.ref A.C_TapeError) = some true
  kve : ∀ C ∈ [A.C_BadSize, A.C_BadMost, A.C_BadItems, A.C_Fault], PySem.W.kitOne K (.ref C) (.type "ValueError") = some true
  xte : ∀ C ∈ [A.C_BadSize, A.C_BadMost, A.C_BadItems, A.C_Fault], PySem.W.exmOne K (.ref C) (.ref A.C_TapeError) = some true
  nd : ([A.C_BadSize, A.C_BadMost, A.C_BadItems, A.C_Fault] : List Addr).Nodup
  dc : A.d_right.code = .ref A.c_right

theorem at_ints {ns : List Int} {i : Int} (h0 : 0 ≤ i) (h1 : i < (ns.length : Int)) : ∃ z : Int, atI (ns.map V.int) i = some (.int z) := by
  obtain ⟨jj, rfl⟩ := Int.eq_ofNat_of_zero_le h0
  have hj : jj < ns.length := by omega
  exact ⟨ns[jj], atI_nat (by rw [List.getElem?_map, List.getElem?_eq_getElem hj]; rfl)⟩
/-- a pot of draws stands at p; at most n were mixed -/
def PotAt (H : Hp) (p : Addr) (n : Int) : Prop := ∃ a b c : Int, H p = some (.lst [.int a, .int b, .int c]) ∧ 0 ≤ a ∧ 0 ≤ b ∧ b < 2305843009213693921 ∧ 0 ≤ c ∧ c ≤ n
theorem PotAt.mono {H : Hp} {p : Addr} {n m : Int} (h : PotAt H p n) (e : n ≤ m) : PotAt H p m := let ⟨a, b, c, h0, h1, h2, h3, h4, h5⟩ := h; ⟨a, b, c, h0, h1, h2, h3, h4, Int.le_trans h5 e⟩
theorem PotAt.ex {H H' : Hp} {p : Addr} {n : Int} (h : PotAt H p n) (e : Ex H H') : PotAt H' p n := let ⟨a, b, c, h0, hr⟩ := h; ⟨a, b, c, e _ _ h0, hr⟩
theorem PotAt.up {H : Hp} {p q : Addr} {o : HO} {N : Int} (h : PotAt H p N) (ne : p ≠ q) : PotAt (upd H q o) p N := let ⟨a, b, c, h0, hr⟩ := h; ⟨a, b, c, by rw [upd_ne ne]; exact h0, hr⟩
theorem pot_none {p l : Addr} {H : Hp} {N : Int} (q : PotAt H p N) (h : H l = none) : l ≠ p := by
  obtain ⟨a, b, c, z2, _⟩ := q
  exact Ne.symm (ne_of_none z2 h)
def spPot (K : Frag) : Sp := fun vs H Q _ => ∃ (a : Addr) (ns : List Int) (i : Int), vs = [.ref a, .int i] ∧ SqL K H a (ns.map V.int) ∧ 0 ≤ i ∧ i ≤ 3 ∧ ∀ (p : Addr) (H' : Hp), H p = none → Ex H H' → PotAt H' p 0 → Q (.ref p) H'
def spTake : Sp := fun vs H Q _ => ∃ (p : Addr) (n N : Int), vs = [.ref p, .int n] ∧ PotAt H p N ∧ 0 < n ∧ n < 1000 ∧ N ≤ 100000 ∧ ∀ (d : Int) (H' : Hp), 0 ≤ d → d < n → XB p H H' → PotAt H' p (N + 1) → Q (.int d) H'
/-- an item of a list is drawn -/
def spOf (K : Frag) : Sp := fun vs H Q _ => ∃ (p l : Addr) (xs : List V) (N : Int), vs = [.ref p, .ref l] ∧ PotAt H p N ∧ SqL K H l xs ∧ l ≠ p ∧ 0 < xs.length ∧ xs.length < 1000 ∧ N ≤ 100000 ∧
  ∀ (i : Nat) (v : V) (H' : Hp), xs[i]? = some v → XB p H H' → PotAt H' p (N + 1) → Q v H'
theorem sql_xb {K : Frag} {H H' : Hp} {a p : Addr} {xs : List V} (h : SqL K H a xs) (n : a ≠ p) (e : XB p H H') : SqL K H' a xs :=
  h.elim (fun z => z.elim (fun y => .inl (.inl (e _ _ n y))) fun ⟨o, y⟩ => .inl (.inr ⟨o, e _ _ n y⟩)) .inr
theorem sql_ex {K : Frag} {H H' : Hp} {a : Addr} {xs : List V} (h : SqL K H a xs) (e : Ex H H') : SqL K H' a xs :=
  h.elim (fun z => z.elim (fun y => .inl (.inl (e _ _ y))) fun ⟨o, y⟩ => .inl (.inr ⟨o, e _ _ y⟩)) .inr
theorem ite_b (b : Bool) : -(2 ^ 64) < (if b = true then (1 : Int) else 0) ∧ (if b = true then (1 : Int) else 0) < 2 ^ 64 := by cases b <;> decide
theorem ite_n (b : Bool) : 0 ≤ (if b = true then (1 : Int) else 0) := by cases b <;> decide
theorem at_prime (i : Int) : ∃ q : Int, atI [V.int 2147483647, .int 2147483629, .int 2147483587, .int 2147483579, .int 2147483563] (i % 5) = some (.int q) ∧ 0 < q ∧ q ≤ 2147483647 := by
  have h : i % 5 = 0 ∨ i % 5 = 1 ∨ i % 5 = 2 ∨ i % 5 = 3 ∨ i % 5 = 4 := by omega
  rcases h with h | h | h | h | h <;> rw [h]
  · exact ⟨2147483647, rfl, by decide, by decide⟩
  · exact ⟨2147483629, rfl, by decide, by decide⟩
  · exact ⟨2147483587, rfl, by decide, by decide⟩
  · exact ⟨2147483579, rfl, by decide, by decide⟩
  · exact ⟨2147483563, rfl, by decide, by decide⟩
theorem sq_le {c : Int} {m : Int} (h0 : 0 ≤ c) (h1 : c ≤ 1000000) (hm : 0 ≤ m) : 0 ≤ m * c * c ∧ m * c * c ≤ m * 1000000 * 1000000 := by
  have h2 : 0 ≤ m * c := Int.mul_nonneg hm h0
  have h3 : m * c ≤ m * 1000000 := Int.mul_le_mul_of_nonneg_left h1 hm
  exact ⟨Int.mul_nonneg h2 h0, Int.mul_le_mul h3 h1 h0 (by omega)⟩
theorem small {n : Nat} (h : n < 1000) : n < sizeLine := Nat.lt_of_lt_of_le h (by decide)
theorem Ex.mu {H H' : Hp} {p : Addr} {o : HO} (e : Ex H H') (h : H p = none) : Ex H (upd H' p o) := fun a u ha => by
  rw [upd_ne (ne_of_none ha h)]
  exact e a u ha
theorem XB.mu {H H' : Hp} {p q : Addr} {o : HO} (e : XB p H H') (h : H q = none) : XB p H (upd H' q o) := fun a u n ha => by
  rw [upd_ne (ne_of_none ha h)]
  exact e a u n ha
theorem ex_xb {H H1 H2 : Hp} {p : Addr} (e : Ex H H1) (x : XB p H1 H2) (h : H p = none) : Ex H H2 := fun c o z => x c o (ne_of_none z h) (e c o z)
theorem rep_next {i : Nat} : List.replicate i (V.bl true) ++ [V.bl true] = List.replicate (i + 1) (V.bl true) := by rw [List.replicate_succ']
theorem two_b (b c : Bool) : 0 ≤ 1 + (if b = true then (1 : Int) else 0) + (if c = true then 1 else 0) ∧ 1 + (if b = true then (1 : Int) else 0) + (if c = true then 1 else 0) ≤ 3 := by cases b <;> cases c <;> decide

theorem Dz.pot {p : Addr} {H H' : Hp} {v : V} {d : PyData} {N : Int} (h : Dz p H v d) (q : PotAt H p N) (e : XB p H H') : Dz p H' v d := let ⟨_, _, _, z, _⟩ := q; h.xb z e
theorem dz_l {p a : Addr} {H : Hp} {xs : List V} {ds : List PyData} (h : H a = some (.lst xs)) (n : a ≠ sysModules) (m : a ≠ p) (hl : xs.length = ds.length) (hi : ∀ q ∈ xs.zip ds, Dz p H q.1 q.2) : Dz p H (.ref a) (.list ds) := .lst h n m hl fun i v d e1 e2 => hi (v, d) (List.mem_of_getElem? (i := i) (by rw [List.getElem?_zip_eq_some]; exact ⟨e1, e2⟩))
theorem dz_t {p a : Addr} {H : Hp} {xs : List V} {ds : List PyData} (h : H a = some (.tup xs)) (hl : xs.length = ds.length) (hi : ∀ q ∈ xs.zip ds, Dz p H q.1 q.2) : Dz p H (.ref a) (.tuple ds) := .tup h hl fun i v d e1 e2 => hi (v, d) (List.mem_of_getElem? (i := i) (by rw [List.getElem?_zip_eq_some]; exact ⟨e1, e2⟩))
theorem dz_d {p a : Addr} {H : Hp} {k : Str} {v : V} {d : PyData} (h : H a = some (.dK [(Sum.inr k, v)])) (hv : Dz p H v d) : Dz p H (.ref a) (.dict [(.str k, d)]) := .dct (ks := [(k, v)]) (ds := [d]) h rfl fun i u e e1 e2 => by
  match i, e1, e2 with
  | 0, e1, e2 => cases e1; cases e2; exact hv
  | i + 1, e1, e2 => simp at e1
theorem dz_0 {p a : Addr} {H : Hp} (h : H a = some (.dK [])) : Dz p H (.ref a) (.dict []) := .dct (ks := []) (ds := []) h rfl fun i u e e1 e2 => by simp at e1
theorem merge_a {k : Str} {v : V} : mergeK [] [((Sum.inr k : Key), v)] = [((Sum.inr k : Key), v)] := by first | rfl | simp [mergeK] | (unfold mergeK; rfl)
/-- any value of bounded depth -/
def AnyV (p : Addr) (H : Hp) (n : Nat) (v : V) : Prop := ∃ d, Dz p H v d ∧ Bd n d
theorem AnyV.ex {p : Addr} {H H' : Hp} {n : Nat} {v : V} (h : AnyV p H n v) (e : Ex H H') : AnyV p H' n v := let ⟨d, a, b⟩ := h; ⟨d, a.ex e, b⟩
theorem AnyV.pot {p : Addr} {H H' : Hp} {n : Nat} {v : V} {N : Int} (h : AnyV p H n v) (q : PotAt H p N) (e : XB p H H') : AnyV p H' n v := let ⟨d, a, b⟩ := h; ⟨d, Dz.pot a q e, b⟩
def spAny : Sp := fun vs H Q _ => ∃ (p : Addr) (N : Int), vs = [.ref p] ∧ PotAt H p N ∧ N ≤ 90000 ∧ ∀ (v : V) (H' : Hp), XB p H H' → PotAt H' p (N + 20) → AnyV p H' 14 v → Q v H'


theorem Kd.ex {K : Frag} {p : Addr} {H H' : Hp} {v : V} {d : PyData} (h : Dz p H v d) (e : Ex H H') : Kd K H' v := kd_of (h.ex e)
def rf (s m : Int) (l : Addr) : List (Str × V) := putF "_items" (.ref l) (putF "_most" (.int m) (putF "_size" (.int s) []))
theorem rf_i (s m : Int) (l : Addr) : (rf s m l).lookup ("_items" : Str) = some (.ref l) := by unfold rf; rw [lookup_putF, if_pos rfl]
def wholeD (d : PyData) (lo hi : Int) : Bool := match d with
  | .int i => decide (lo ≤ i) && decide (i < hi)
  | _ => false
theorem whole_d {p : Addr} {H : Hp} {v : V} {d : PyData} (h : Dz p H v d) (lo hi : Int) : whole v lo hi = wholeD d lo hi := by cases h <;> rfl
theorem wholeD_int {d : PyData} {lo hi : Int} (h : wholeD d lo hi = true) : ∃ i, d = .int i ∧ lo ≤ i ∧ i < hi := by
  cases d with
  | int i => simp [wholeD] at h; exact ⟨i, rfl, h.1, h.2⟩
  | _ => simp [wholeD] at h
theorem dz_int {p : Addr} {H : Hp} {v : V} {i : Int} (h : Dz p H v (.int i)) : v = .int i := by cases h; rfl
def ivD : PyData → Int | .int i => i | _ => 0
def isTupD : PyData → Bool | .tuple _ => true | _ => false
def itemsOk (d : PyData) (s m : Int) : Bool := match d with
  | .tuple ds => decide ((ds.length : Int) ≤ m) && ds.all (fun x => wholeD x 0 s)
  | _ => false
/-- the ints of a tuple -/
def itV : PyData → List V
  | .tuple ds => ds.map fun x => V.int (ivD x)
  | _ => []
theorem itemsOk_tup {d : PyData} {s m : Int} (h : itemsOk d s m = true) : ∃ is : List Int, d = .tuple (is.map PyData.int) ∧ itV d = is.map V.int := by
  cases d with
  | tuple ds =>
    have h2 : ds.all (fun x => wholeD x 0 s) = true := (Bool.and_eq_true_iff.mp h).2
    have e : ds = (ds.map ivD).map PyData.int := by
      rw [List.map_map]
      refine (List.map_id ds).symm.trans (List.map_congr_left fun x hx => ?_)
      obtain ⟨i, rfl, _⟩ := wholeD_int (List.all_eq_true.mp h2 x hx)
      rfl
    refine ⟨ds.map ivD, by rw [← e], ?_⟩
    show ds.map _ = _
    rw [List.map_map]; rfl
  | _ => cases h
theorem tup_ints {p : Addr} {H : Hp} {v : V} {is : List Int} (h : Dz p H v (.tuple (is.map PyData.int))) : ∃ t, v = .ref t ∧ H t = some (.tup (is.map V.int)) := by
  cases h with
  | tup ht hl hi =>
    rename_i a xs
    refine ⟨a, rfl, ?_⟩
    rw [ht]
    have e : xs = is.map V.int := by
      refine List.ext_getElem? fun i => ?_
      rw [List.length_map] at hl
      by_cases hj : i < xs.length
      · have hj2 : i < is.length := by omega
        have e1 : xs[i]? = some xs[i] := List.getElem?_eq_getElem hj
        have e2 : (is.map PyData.int)[i]? = some (.int is[i]) := by rw [List.getElem?_map, List.getElem?_eq_getElem hj2]; rfl
        rw [e1, dz_int (hi i _ _ e1 e2), List.getElem?_map, List.getElem?_eq_getElem hj2]; rfl
      · rw [List.getElem?_eq_none (by omega), List.getElem?_eq_none (by rw [List.length_map]; omega)]
    rw [e]
/-- 0: the size is none; 1: the most is none; 2: the items are none; 3: all are let -/
def kk (d1 d2 d3 : PyData) : Nat := if wholeD d1 2 5 = true then (if wholeD d2 1 3 = true then (if itemsOk d3 (ivD d1) (ivD d2) = true then 3 else 2) else 1) else 0
/-- a row stands at p, with these items -/
def RowAt (C : Addr) (H : Hp) (p : Addr) (xs : List V) : Prop := ∃ (dx l : Addr) (s m : Int), H p = some (.ins C dx (rf s m l)) ∧ H l = some (.lst xs)
theorem RowAt.ex {C p : Addr} {H H' : Hp} {xs : List V} (h : RowAt C H p xs) (e : Ex H H') : RowAt C H' p xs := let ⟨dx, l, s, m, a, b⟩ := h; ⟨dx, l, s, m, e _ _ a, e _ _ b⟩
/-- an error of this class leaves, which keeps v -/
def Raise (C : Addr) (H : Hp) (E : XK) (v : V) : Prop := ∀ (d : Addr) (H' : Hp), Ex H H' → H' d = some (.xd [("value", v)]) → E (.ref C) (some d) H'
def spSizeA (K : Frag) (lo hi : Int) : Sp := fun vs H Q _ => ∃ v : V, vs = [v] ∧ Kd K H v ∧ Q (.bl (whole v lo hi)) H
def spFrom (K : Frag) : Sp := fun vs H Q _ => ∃ (v : V) (lo hi : Int), vs = [v, .int lo, .int hi] ∧ Kd K H v ∧ Q (.bl (whole v lo (hi + 1))) H
def spItems (K : Frag) : Sp := fun vs H Q _ => ∃ (p : Addr) (v : V) (d : PyData) (s m : Int), vs = [v, .int s, .int m] ∧ Dz p H v d ∧ m ≤ 1000 ∧ ∀ H', Ex H H' → Q (.bl (itemsOk d s m)) H'
def spRinit (K : Frag) (A : Ad) : Sp := fun vs H Q E => ∃ (x dx p : Addr) (v1 v2 v3 : V) (d1 d2 d3 : PyData), vs = [.ref x, v1, v2, v3] ∧ H x = some (.ins A.C_Row dx []) ∧ Dz p H v1 d1 ∧ Dz p H v2 d2 ∧ Dz p H v3 d3 ∧
  (kk d1 d2 d3 = 0 → Raise A.C_BadSize H E v1) ∧ (kk d1 d2 d3 = 1 → Raise A.C_BadMost H E v2) ∧ (kk d1 d2 d3 = 2 → Raise A.C_BadItems H E v3) ∧ (kk d1 d2 d3 = 3 → ∀ H', (∀ c o, c ≠ x → H c = some o → H' c = some o) → RowAt A.C_Row H' x (itV d3) → Q .non H')
def spWorths (C : Addr) : Sp := fun vs H Q _ => ∃ (p : Addr) (xs : List V), vs = [.ref p] ∧ RowAt C H p xs ∧ ∀ t, H t = none → Q (.ref t) (upd H t (.tup xs))
/-- what is told of v1, v2, v3 -/
def Told (H : Hp) (q : Addr) (v1 v2 v3 : V) (d3 : PyData) : Nat → Prop
  | 0 => H q = some (.tup [.str "size", v1])
  | 1 => H q = some (.tup [.str "most", v2])
  | 2 => H q = some (.tup [.str "items", v3])
  | _ => ∃ t, H t = some (.tup (itV d3)) ∧ H q = some (.tup [.str "told", .ref t])
def spDue (K : Frag) : Sp := fun vs H Q _ => ∃ (p : Addr) (v1 v2 v3 : V) (d1 d2 d3 : PyData), vs = [v1, v2, v3] ∧ Dz p H v1 d1 ∧ Dz p H v2 d2 ∧ Dz p H v3 d3 ∧ ∀ (q : Addr) (H' : Hp), Ex H H' → Told H' q v1 v2 v3 d3 (kk d1 d2 d3) → Q (.ref q) H'
def spDrawn (K : Frag) : Sp := fun vs H Q _ => ∃ (p l : Addr) (xs : List V) (N : Int), vs = [.ref p, .ref l] ∧ PotAt H p N ∧ SqL K H l xs ∧ l ≠ p ∧ 0 < xs.length ∧ xs.length < 1000 ∧ (∀ v ∈ xs, AnyV p H 0 v) ∧ N ≤ 85000 ∧
  ∀ (v : V) (H' : Hp), XB p H H' → PotAt H' p (N + 22) → AnyV p H' 14 v → Q v H'
def spItemsD : Sp := fun vs H Q _ => ∃ (p : Addr) (N : Int), vs = [.ref p] ∧ PotAt H p N ∧ N ≤ 85000 ∧ ∀ (v : V) (H' : Hp), XB p H H' → PotAt H' p (N + 22) → AnyV p H' 14 v → Q v H'
theorem kt_of {K : Frag} {p : Addr} {H : Hp} {v : V} {d : PyData} (h : Dz p H v d) : ∃ t : String, TyX K H v (.type t) ∧ PySem.W.kitOne K (.type t) (.type "tuple") = some (isTupD d) := by
  cases h with
  | non => exact ⟨_, .base .non, kit_ty (r := false) (by decide +kernel)⟩
  | bl b => exact ⟨_, .base (.bl _), kit_ty (r := false) (by decide +kernel)⟩
  | int i => exact ⟨_, .base (.int _), kit_ty (r := false) (by decide +kernel)⟩
  | str x => exact ⟨_, .base (.str _), kit_ty (r := false) (by decide +kernel)⟩
  | lst h => exact ⟨_, .base (.lst h), kit_ty (r := false) (by decide +kernel)⟩
  | tup h => exact ⟨_, .base (.tup h), kit_ty (r := true) (by decide +kernel)⟩
  | dct h => exact ⟨_, .base (.dK h), kit_ty (r := false) (by decide +kernel)⟩
/-- the truths of items, one behind the other -/
def tru (ds : List PyData) (s : Int) : List Bool := ds.map fun x => wholeD x 0 s
theorem tru_next {ds : List PyData} {s : Int} {j : Nat} {d : PyData} (h : ds[j]? = some d) : ((tru ds s).take j).map V.bl ++ [V.bl (wholeD d 0 s)] = ((tru ds s).take (j + 1)).map V.bl := by
  have e : (tru ds s)[j]? = some (wholeD d 0 s) := by unfold tru; rw [List.getElem?_map, h]; rfl
  rw [List.take_add_one, e, List.map_append]; rfl
theorem tru_all {ds : List PyData} {s : Int} : (tru ds s).all id = ds.all (fun x => wholeD x 0 s) := by unfold tru; rw [List.all_map]; rfl

section
variable {P : Program} {w : World} {K : Frag} {mg : Str → Option Value} {base : Heap} {A : Ad}

theorem ok_BadSize_init (T : Txt K mg A) : FnOk P w K mg base CX0 1 A.f_BadSize_init A.d_BadSize_init ["self", "value"] (spEI A.C_BadSize "value") := by
  refine T.F_BadSize_init.ok sc_BadSize_init (fun vs H Q E h => ?_) (fun cdv A0 outer s H vs Q E hr h => ?_)
  · obtain ⟨_, _, rfl, _⟩ := h
    rfl
  · obtain ⟨a, v, rfl, ha, k⟩ := h
    refine ⟨_, pss_one (ps_ost (pv 0) (pv 1)), ?_⟩
    exact ⟨_, rfl, _, rfl, a, A.C_BadSize, rfl, T.E_BadSize.oex, T.E_BadSize.no, .inl ⟨ha, k⟩⟩
theorem ok_BadMost_init (T : Txt K mg A) : FnOk P w K mg base CX0 1 A.f_BadMost_init A.d_BadMost_init ["self", "value"] (spEI A.C_BadMost "value") := by
  refine T.F_BadMost_init.ok sc_BadMost_init (fun vs H Q E h => ?_) (fun cdv A0 outer s H vs Q E hr h => ?_)
  · obtain ⟨_, _, rfl, _⟩ := h
    rfl
  · obtain ⟨a, v, rfl, ha, k⟩ := h
    refine ⟨_, pss_one (ps_ost (pv 0) (pv 1)), ?_⟩
    exact ⟨_, rfl, _, rfl, a, A.C_BadMost, rfl, T.E_BadMost.oex, T.E_BadMost.no, .inl ⟨ha, k⟩⟩
theorem ok_BadItems_init (T : Txt K mg A) : FnOk P w K mg base CX0 1 A.f_BadItems_init A.d_BadItems_init ["self", "value"] (spEI A.C_BadItems "value") := by
  refine T.F_BadItems_init.ok sc_BadItems_init (fun vs H Q E h => ?_) (fun cdv A0 outer s H vs Q E hr h => ?_)
  · obtain ⟨_, _, rfl, _⟩ := h
    rfl
  · obtain ⟨a, v, rfl, ha, k⟩ := h
    refine ⟨_, pss_one (ps_ost (pv 0) (pv 1)), ?_⟩
    exact ⟨_, rfl, _, rfl, a, A.C_BadItems, rfl, T.E_BadItems.oex, T.E_BadItems.no, .inl ⟨ha, k⟩⟩
theorem ok_Fault_init (T : Txt K mg A) : FnOk P w K mg base CX0 1 A.f_Fault_init A.d_Fault_init ["self", "words"] (spEI A.C_Fault "words") := by
  refine T.F_Fault_init.ok sc_Fault_init (fun vs H Q E h => ?_) (fun cdv A0 outer s H vs Q E hr h => ?_)
  · obtain ⟨_, _, rfl, _⟩ := h
    rfl
  · obtain ⟨a, v, rfl, ha, k⟩ := h
    refine ⟨_, pss_one (ps_ost (pv 0) (pv 1)), ?_⟩
    exact ⟨_, rfl, _, rfl, a, A.C_Fault, rfl, T.E_Fault.oex, T.E_Fault.no, .inl ⟨ha, k⟩⟩
theorem ok_is_whole (T : Txt K mg A) : FnOk P w K mg base CX0 1 A.f_is_whole A.d_is_whole ["value", "low", "below"] (spWholeA K) := by
  refine T.F_is_whole.ok sc_is_whole (fun vs H Q E h => ?_) (fun cdv A0 outer s H vs Q E hr h => ?_)
  · obtain ⟨_, _, _, rfl, _⟩ := h
    rfl
  · have hu := hu_of hr
    obtain ⟨v, lo, hi, rfl, hk, k⟩ := h
    refine ⟨_, (pss_one (ps_ret (pe_and (pe_callB call_isi (by rfl) T.g_isinstance (by decide +kernel) (pa_cons (pv 0) (pa_cons (pe_bltn (v := .ty "int") (by rfl) T.g_int (by decide +kernel) rfl) pa_nil))) (pe_and (pe_not (pe_callB call_isi (by rfl) T.g_isinstance (by decide +kernel) (pa_cons (pv 0) (pa_cons (pe_bltn (v := .ty "bool") (by rfl) T.g_bool (by decide +kernel) rfl) pa_nil)))) (pe_one (pe_chain op_le op_lt (pv 1) (pv 0) (pv 2))))))), ?_⟩
    obtain ⟨t, ty, ki, kb⟩ := hk
    cases v with
    | int i =>
      refine ⟨_, rfl, _, _, _, _, _, rfl, .ty _, ty, ki, true, rfl, iteT ?_⟩
      refine ⟨_, rfl, _, _, _, _, _, rfl, .ty _, ty, kb, false, rfl, true, rfl, iteT ?_⟩
      refine ⟨_, rfl, _, rfl, _, _, rfl, rfl, _, rfl, if_dec (fun h1 => ?_) (fun h1 => ?_)⟩
      · refine ⟨_, rfl, _, _, rfl, rfl, ?_⟩
        simp only [whole, decide_eq_true h1, Bool.true_and] at k
        exact k
      · simp only [whole, decide_eq_false h1, Bool.false_and] at k
        exact k
    | bl b =>
      refine ⟨_, rfl, _, _, _, _, _, rfl, .ty _, ty, ki, true, rfl, iteT ?_⟩
      exact ⟨_, rfl, _, _, _, _, _, rfl, .ty _, ty, kb, true, rfl, false, rfl, iteF k⟩
    | _ => exact ⟨_, rfl, _, _, _, _, _, rfl, .ty _, ty, ki, false, rfl, iteF k⟩
theorem ok_is_from (T : Txt K mg A) : FnOk P w K mg base CX0 1 A.f_is_from A.d_is_from ["_law_value", "_law_low", "_law_high"] (spFrom K) := by
  refine T.F_is_from.ok sc_is_from (fun vs H Q E h => ?_) (fun cdv A0 outer s H vs Q E hr h => ?_)
  · obtain ⟨_, _, _, rfl, _⟩ := h
    rfl
  · have hu := hu_of hr
    obtain ⟨v, lo, hi, rfl, hk, k⟩ := h
    refine ⟨_, (pss_one (ps_ret (pe_and (pe_callB call_isi (by rfl) T.g_isinstance (by decide +kernel) (pa_cons (pv 0) (pa_cons (pe_bltn (v := .ty "int") (by rfl) T.g_int (by decide +kernel) rfl) pa_nil))) (pe_and (pe_not (pe_callB call_isi (by rfl) T.g_isinstance (by decide +kernel) (pa_cons (pv 0) (pa_cons (pe_bltn (v := .ty "bool") (by rfl) T.g_bool (by decide +kernel) rfl) pa_nil)))) (pe_one (pe_chain op_le op_le (pv 1) (pv 0) (pv 2))))))), ?_⟩
    obtain ⟨t, ty, ki, kb⟩ := hk
    cases v with
    | int i =>
      refine ⟨_, rfl, _, _, _, _, _, rfl, .ty _, ty, ki, true, rfl, iteT ?_⟩
      refine ⟨_, rfl, _, _, _, _, _, rfl, .ty _, ty, kb, false, rfl, true, rfl, iteT ?_⟩
      refine ⟨_, rfl, _, rfl, _, _, rfl, rfl, _, rfl, if_dec (fun h1 => ?_) (fun h1 => ?_)⟩
      · refine ⟨_, rfl, _, _, rfl, rfl, ?_⟩
        simp only [whole, decide_eq_true h1, Bool.true_and] at k
        rw [show decide (i < hi + 1) = decide (i ≤ hi) from decide_eq_decide.mpr (by omega)] at k
        exact k
      · simp only [whole, decide_eq_false h1, Bool.false_and] at k
        exact k
    | bl b =>
      refine ⟨_, rfl, _, _, _, _, _, rfl, .ty _, ty, ki, true, rfl, iteT ?_⟩
      exact ⟨_, rfl, _, _, _, _, _, rfl, .ty _, ty, kb, true, rfl, false, rfl, iteF k⟩
    | _ => exact ⟨_, rfl, _, _, _, _, _, rfl, .ty _, ty, ki, false, rfl, iteF k⟩
theorem ok_is_size (T : Txt K mg A) : FnOk P w K mg base CX0 2 A.f_is_size A.d_is_size ["value"] (spSizeA K 2 5) := by
  refine T.F_is_size.ok sc_is_size (fun vs H Q E h => ?_) (fun cdv A0 outer s H vs Q E hr h => ?_)
  · obtain ⟨_, rfl, _⟩ := h
    rfl
  · have hu := hu_of hr
    obtain ⟨v, rfl, hk, k⟩ := h
    refine ⟨_, (pss_one (ps_ret (pe_call (ok_is_whole T) (hr.mono (by decide)) (by rfl) T.m_is_whole T.F_is_whole.kp T.b_is_whole .nil pass0 (pa_cons (pv 0) (pa_cons pe_int (pa_cons pe_int pa_nil)))))), ?_⟩
    exact ⟨_, rfl, _, _, _, rfl, hk, k⟩
theorem ok_is_most (T : Txt K mg A) : FnOk P w K mg base CX0 2 A.f_is_most A.d_is_most ["value"] (spSizeA K 1 3) := by
  refine T.F_is_most.ok sc_is_most (fun vs H Q E h => ?_) (fun cdv A0 outer s H vs Q E hr h => ?_)
  · obtain ⟨_, rfl, _⟩ := h
    rfl
  · have hu := hu_of hr
    obtain ⟨v, rfl, hk, k⟩ := h
    refine ⟨_, (pss_one (ps_ret (pe_call (ok_is_whole T) (hr.mono (by decide)) (by rfl) T.m_is_whole T.F_is_whole.kp T.b_is_whole .nil pass0 (pa_cons (pv 0) (pa_cons pe_int (pa_cons pe_int pa_nil)))))), ?_⟩
    exact ⟨_, rfl, _, _, _, rfl, hk, k⟩
theorem ok_are_items (T : Txt K mg A) : FnOk P w K mg base CX0 2 A.f_are_items A.d_are_items ["value", "size", "most"] (spItems K) := by
  refine T.F_are_items.ok sc_are_items (fun vs H Q E h => ?_) (fun cdv A0 outer s H vs Q E hr h => ?_)
  · obtain ⟨_, _, _, _, _, rfl, _⟩ := h
    rfl
  · have hu := hu_of hr
    obtain ⟨p, v, d, sz, mo, rfl, hz, hm, k⟩ := h
    refine ⟨_, (pss_cons (ps_if (PW.pt (pw_or (pt_not (pt_val (pe_callB call_isi (by rfl) T.g_isinstance (by decide +kernel) (pa_cons (pv 0) (pa_cons (pe_bltn (v := .ty "tuple") (by rfl) T.g_tuple (by decide +kernel) rfl) pa_nil))))) (pw_or1 (pt_cmpR op_gt (pe_callB call_len_seq (by rfl) T.g_len (by decide +kernel) (pa_cons (pv 0) pa_nil)) (pv 2) (nomark _))))) (pss_one (ps_ret pe_bl)) pss_nil)
      (pss_one (ps_ret (pe_callB (cr_all rfl) (by rfl) T.g_all (by decide +kernel) (pa_cons (pe_lc (own := [("worth", 3)]) (g := gName 3) (tt := tYes) rfl sc_are_items.nd (pi_tup (pv 0)) (blkOk_by (N := N_are_items) (sc := defScope s_are_items) (by decide +kernel)) (fun _ _ _ _ _ => pg_name (i := 3) sc_are_items.nd rfl (Or.inl rfl)) (fun _ _ _ _ _ => pts_nil) (fun _ _ _ _ _ => (pe_call (ok_is_whole T) (hr.mono (by decide)) (by rfl) T.m_is_whole T.F_is_whole.kp T.b_is_whole .nil pass0 (pa_cons (pv 3) (pa_cons pe_int (pa_cons (pv 1) pa_nil)))))) pa_nil))))), ?_⟩
    obtain ⟨ty, tx, kt⟩ := kt_of (K := K) hz
    refine ⟨_, rfl, _, _, _, _, _, rfl, .ty _, tx, kt, _, rfl, ?_⟩
    cases hz with
    | tup ht hl hi =>
      rename_i a xs ds
      refine HX.if_false rfl ?_
      refine ⟨_, rfl, a, _, rfl, .inr (SqT.of ht), _, rfl, _, _, rfl, rfl, _, rfl, if_dec (fun h1 => ?_) (fun h1 => ?_)⟩
      · have e : itemsOk (.tuple ds) sz mo = false := by
          show (decide ((ds.length : Int) ≤ mo) && _) = false
          rw [decide_eq_false (by omega), Bool.false_and]
        rw [e] at k
        exact k _ (Ex.rf _)
      · have e : itemsOk (.tuple ds) sz mo = ds.all (fun x => wholeD x 0 sz) := by
          show (decide ((ds.length : Int) ≤ mo) && _) = _
          rw [decide_eq_true (by omega), Bool.true_and]
        rw [e] at k
        refine ⟨_, rfl, a, rfl, ⟨_, SqT.of ht⟩, fun D nD => lc_tup (fun j H' => Ex H H' ∧ H' D = some (.lst (((tru ds sz).take j).map V.bl))) ⟨Ex.nw nD, upd_same⟩ (fun i H' _ h' => SqT.of (h'.1 _ _ ht)) ?_ ?_⟩
        · rintro i x H' hx ⟨e1, hD⟩
          have hj : i < xs.length := (List.getElem?_eq_some_iff.mp hx).1
          obtain ⟨dd, hdd⟩ : ∃ z, ds[i]? = some z := ⟨_, List.getElem?_eq_getElem (by omega)⟩
          have dzi := hi i x dd hx hdd
          refine ⟨rfl, _, rfl, _, rfl, x, 0, sz, rfl, kd_of (dzi.ex e1), ?_⟩
          rw [whole_d dzi]
          refine ⟨_, hD, Nat.lt_of_le_of_lt (by rw [List.length_map]; exact List.length_take_le _ _) (small (by omega)), Ex.mu e1 nD, ?_⟩
          rw [tru_next hdd]
          exact upd_same
        · rintro H' ⟨e1, hD⟩
          rw [List.take_of_length_le (by unfold tru; rw [List.length_map]; omega)] at hD
          refine ⟨D, tru ds sz, rfl, SqL.of hD, ?_⟩
          rw [tru_all]
          exact k _ e1
    | non => exact HX.if_true rfl (k _ (Ex.rf _))
    | bl b => exact HX.if_true rfl (k _ (Ex.rf _))
    | int i => exact HX.if_true rfl (k _ (Ex.rf _))
    | str x => exact HX.if_true rfl (k _ (Ex.rf _))
    | lst => exact HX.if_true rfl (k _ (Ex.rf _))
    | dct => exact HX.if_true rfl (k _ (Ex.rf _))
theorem ok_Row_init (T : Txt K mg A) : FnOk P w K mg base (L2.CX P w) 3 A.f_Row_init A.d_Row_init ["self", "size", "most", "items"] (spRinit K A) := by
  refine T.F_Row_init.okX sc_Row_init (fun vs H Q E h => ?_) (fun cdv A0 outer s H vs Q E hr h => ?_)
  · obtain ⟨_, _, _, _, _, _, _, _, _, rfl, _⟩ := h
    rfl
  · have hu := hu_of hr
    obtain ⟨x, dx, p, v1, v2, v3, d1, d2, d3, rfl, hx, z1, z2, z3, r0, r1, r2, k⟩ := h
    refine ⟨_, (pss_cons (ps_if (pt_not (pt_val (pe_call (ok_is_size T) (hr.mono (by decide)) (by rfl) T.m_is_size T.F_is_size.kp T.b_is_size .nil pass0 (pa_cons (pv 1) pa_nil)))) (pss_one (ps_raise rfl (takes_of rfl rfl rfl rfl) (pmk_oex T.E_BadSize.oex T.E_BadSize.ini T.E_BadSize.fn (ok_BadSize_init T) (hr.mono (by decide)) T.E_BadSize.b .nil pass0 (by rfl) T.m_BadSize (pa_cons (pv 1) pa_nil)))) pss_nil)
      (pss_cons (ps_if (pt_not (pt_val (pe_call (ok_is_most T) (hr.mono (by decide)) (by rfl) T.m_is_most T.F_is_most.kp T.b_is_most .nil pass0 (pa_cons (pv 2) pa_nil)))) (pss_one (ps_raise rfl (takes_of rfl rfl rfl rfl) (pmk_oex T.E_BadMost.oex T.E_BadMost.ini T.E_BadMost.fn (ok_BadMost_init T) (hr.mono (by decide)) T.E_BadMost.b .nil pass0 (by rfl) T.m_BadMost (pa_cons (pv 2) pa_nil)))) pss_nil)
      (pss_cons (ps_if (pt_not (pt_val (pe_call (ok_are_items T) (hr.mono (by decide)) (by rfl) T.m_are_items T.F_are_items.kp T.b_are_items .nil pass0 (pa_cons (pv 3) (pa_cons (pv 1) (pa_cons (pv 2) pa_nil)))))) (pss_one (ps_raise rfl (takes_of rfl rfl rfl rfl) (pmk_oex T.E_BadItems.oex T.E_BadItems.ini T.E_BadItems.fn (ok_BadItems_init T) (hr.mono (by decide)) T.E_BadItems.b .nil pass0 (by rfl) T.m_BadItems (pa_cons (pv 3) pa_nil)))) pss_nil)
      (pss_cons (ps_fld (pv 0) (pv 1) rfl)
      (pss_cons (ps_fld (pv 0) (pv 2) rfl)
      (pss_one (ps_fld (pv 0) (pe_callTy call_list_of (by rfl) T.g_list (by decide +kernel) (pa_cons (pv 3) pa_nil)) rfl))))))), ?_⟩
    refine ⟨_, rfl, v1, rfl, kd_of z1, _, rfl, ?_⟩
    rw [whole_d z1]
    by_cases h1 : wholeD d1 2 5 = true
    · obtain ⟨s', rfl, s0, s1⟩ := wholeD_int h1
      obtain rfl := dz_int z1
      refine HX.if_false (by rw [h1]; rfl) ?_
      refine ⟨_, rfl, v2, rfl, kd_of z2, _, rfl, ?_⟩
      rw [whole_d z2]
      by_cases h2 : wholeD d2 1 3 = true
      · obtain ⟨m', rfl, m0, m1⟩ := wholeD_int h2
        obtain rfl := dz_int z2
        refine HX.if_false (by rw [h2]; rfl) ?_
        refine ⟨_, rfl, _, rfl, _, rfl, p, v3, d3, s', m', rfl, z3, by omega, fun H1 e1 => ⟨_, rfl, ?_⟩⟩
        by_cases h3 : itemsOk d3 s' m' = true
        · refine HX.if_false (by rw [h3]; rfl) ?_
          have hk3 : kk (.int s') (.int m') d3 = 3 := by unfold kk; rw [if_pos h1, if_pos h2, if_pos (show itemsOk d3 (ivD (.int s')) (ivD (.int m')) = true from h3)]
          obtain ⟨is, rfl, hit⟩ := itemsOk_tup h3
          obtain ⟨t3, rfl, ht3⟩ := tup_ints z3
          rw [hit] at k
          have hx1 := e1 _ _ hx
          refine ⟨_, rfl, _, rfl, x, A.C_Row, dx, _, rfl, hx1, T.cls_Row, T.rS, (by show 0 < 1000; decide), _, rfl, _, rfl, x, A.C_Row, dx, _, rfl, upd_same, T.cls_Row, T.rM, (by show 1 < 1000; decide), _, rfl, ?_⟩
          obtain ⟨H2, E2⟩ : ∃ z, z = upd (upd H1 x (.ins A.C_Row dx (putF "_size" (.int s') []))) x (.ins A.C_Row dx (putF "_most" (.int m') (putF "_size" (.int s') []))) := ⟨_, rfl⟩
          rw [← E2]
          have hx2 : H2 x = some (.ins A.C_Row dx (putF "_most" (.int m') (putF "_size" (.int s') []))) := by rw [E2]; exact upd_same
          have o2 : ∀ c o, c ≠ x → H1 c = some o → H2 c = some o := fun c o n e => by rw [E2, upd_ne n, upd_ne n]; exact e
          have n3 : t3 ≠ x := fun z => by rw [z, hx] at ht3; cases ht3
          refine ⟨t3, _, rfl, .inr (SqT.of (o2 _ _ n3 (e1 _ _ ht3))), fun l nl => ⟨_, rfl, x, A.C_Row, dx, _, rfl, (by rw [upd_ne (ne_of_none hx2 nl)]; exact hx2), T.cls_Row, T.rI, (by show 2 < 1000; decide), ?_⟩⟩
          have nlx : l ≠ x := fun z => by rw [z, hx2] at nl; cases nl
          refine k hk3 _ (fun c o n e => ?_) ⟨dx, l, s', m', upd_same, by rw [upd_ne nlx]; exact upd_same⟩
          have e5 := o2 c o n (e1 _ _ e)
          rw [upd_ne n, upd_ne (ne_of_none e5 nl)]
          exact e5
        · refine HX.if_true (by rw [Bool.eq_false_iff.mpr h3]; rfl) ⟨_, rfl, ?_⟩
          have r2 := r2 (by unfold kk; rw [if_pos h1, if_pos h2, if_neg (show ¬ itemsOk d3 (ivD (.int s')) (ivD (.int m')) = true from h3)])
          refine ⟨(by show 1 ≤ 1000; decide), fun x2 nx2 => ⟨x2, _, rfl, upd_same, fun dx2 ndx ne => ⟨rfl, dx2, _, upd_same, (by rw [upd_ne ne, upd_same]), ?_, ?_⟩⟩⟩
          · rw [upd_ne ne] at ndx
            exact ndx
          · rw [upd_ne ne] at ndx
            refine r2 dx2 _ (fun c o e0 => ?_) upd_same
            have e := e1 c o e0
            have cx := ne_of_none e nx2
            have cd := ne_of_none e ndx
            rw [upd_ne cd, del_ne cx, upd_ne cx, upd_ne cd, upd_ne cx]
            exact e
      · refine HX.if_true (by rw [Bool.eq_false_iff.mpr h2]; rfl) ⟨_, rfl, ?_⟩
        have r1 := r1 (by unfold kk; rw [if_pos h1, if_neg h2])
        refine ⟨(by show 1 ≤ 1000; decide), fun x2 nx2 => ⟨x2, _, rfl, upd_same, fun dx2 ndx ne => ⟨rfl, dx2, _, upd_same, (by rw [upd_ne ne, upd_same]), ?_, ?_⟩⟩⟩
        · rw [upd_ne ne] at ndx
          exact ndx
        · rw [upd_ne ne] at ndx
          refine r1 dx2 _ (fun c o e0 => ?_) upd_same
          have e := Ex.rf H c o e0
          have cx := ne_of_none e nx2
          have cd := ne_of_none e ndx
          rw [upd_ne cd, del_ne cx, upd_ne cx, upd_ne cd, upd_ne cx]
          exact e
    · refine HX.if_true (by rw [Bool.eq_false_iff.mpr h1]; rfl) ⟨_, rfl, ?_⟩
      have r0 := r0 (by unfold kk; rw [if_neg h1])
      refine ⟨(by show 1 ≤ 1000; decide), fun x2 nx2 => ⟨x2, _, rfl, upd_same, fun dx2 ndx ne => ⟨rfl, dx2, _, upd_same, (by rw [upd_ne ne, upd_same]), ?_, ?_⟩⟩⟩
      · rw [upd_ne ne] at ndx
        exact ndx
      · rw [upd_ne ne] at ndx
        refine r0 dx2 _ (fun c o e0 => ?_) upd_same
        have e := Ex.rf H c o e0
        have cx := ne_of_none e nx2
        have cd := ne_of_none e ndx
        rw [upd_ne cd, del_ne cx, upd_ne cx, upd_ne cd, upd_ne cx]
        exact e
theorem ok_worths (T : Txt K mg A) : FnOk P w K mg base CX0 1 A.f_Row_worths A.d_Row_worths ["self"] (spWorths A.C_Row) := by
  refine T.F_Row_worths.ok sc_Row_worths (fun vs H Q E h => ?_) (fun cdv A0 outer s H vs Q E hr h => ?_)
  · obtain ⟨_, _, rfl, _⟩ := h
    rfl
  · have hu := hu_of hr
    obtain ⟨p, xs, rfl, ⟨dx, l, sz, mo, hp, hl⟩, k⟩ := h
    refine ⟨_, (pss_one (ps_ret (pe_callTy call_tuple_of (by rfl) T.g_tuple (by decide +kernel) (pa_cons (pe_fld (pv 0) rfl) pa_nil)))), ?_⟩
    exact ⟨_, rfl, p, A.C_Row, dx, _, _, rfl, hp, T.cls_Row, T.rI, rf_i _ _ _, l, _, rfl, .inl ⟨SqL.of hl, k⟩⟩
theorem ty_row (T : Txt K mg A) {H : Hp} {p : Addr} {xs : List V} (h : RowAt A.C_Row H p xs) : TyX K H (.ref p) (.ref A.C_Row) := let ⟨_, _, _, _, e, _⟩ := h; .base (.ins e T.cls_Row T.kcl T.kgs T.ktk T.kob)
theorem kit_self {K : PySem.W.Frag} {t : Value} : PySem.W.kitOne K t t = some true := if_pos (beq_iff_eq.mpr rfl)
theorem ok_pot (T : Txt K mg A) : FnOk P w K mg base CX0 1 A.f_pot A.d_pot ["_law_script", "_law_k"] (spPot K) := by
  refine T.F_pot.ok sc_pot (fun vs H Q E h => ?_) (fun cdv A0 outer s H vs Q E hr h => ?_)
  · obtain ⟨_, _, _, rfl, _⟩ := h
    rfl
  · have hu := hu_of hr
    obtain ⟨a, ns, i, rfl, hS, h0, h3, k⟩ := h
    refine ⟨_, (pss_cons (ps_set (i := 2) sc_pot.nd rfl (Or.inl rfl) (pe_ifExp (pt_cmpR op_lt (pv 1) (pe_callB call_len_seq (by rfl) T.g_len (by decide +kernel) (pa_cons (pv 0) pa_nil)) (nomark _)) (pe_ix ix_list (pv 0) (pv 1) (fun _ _ => rfl)) (pe_op op_add (pe_op op_mul pe_int (pv 1)) pe_int)))
      (pss_cons (ps_set (i := 3) sc_pot.nd rfl (Or.inl rfl) (pe_op op_mul (pe_op op_mod (pe_callTy call_int1 (by rfl) T.g_int (by decide +kernel) (pa_cons (pe_callB call_abs (by rfl) T.g_abs (by decide +kernel) (pa_cons (pv 2) pa_nil)) pa_nil)) (pe_op op_powW (pe_op op_pow pe_int pe_int) pe_int)) (pe_callTy call_int1 (by rfl) T.g_int (by decide +kernel) (pa_cons (pe_cmpR op_ge (pe_callB call_abs (by rfl) T.g_abs (by decide +kernel) (pa_cons (pv 2) pa_nil)) (pe_op op_pow pe_int pe_int) (nomark _)) pa_nil))))
      (pss_one (ps_ret (pe_lst (pa_cons (pv 3) (pa_cons (pe_op op_mod (pe_callTy call_int1 (by rfl) T.g_int (by decide +kernel) (pa_cons (pe_op op_add (pe_op op_add (pe_op op_mul (pe_op op_mod (pe_callTy call_int1 (by rfl) T.g_int (by decide +kernel) (pa_cons (pv 2) pa_nil)) pe_int) pe_int) (pe_op op_mul (pe_op op_mul pe_int (pv 1)) (pv 1))) pe_int) pa_nil)) pe_int) (pa_cons pe_int pa_nil)))))))), ?_⟩
    refine ⟨_, rfl, _, rfl, a, _, rfl, .inl hS, _, _, rfl, rfl, _, rfl, if_dec (fun h1 => ?_) (fun h1 => ?_)⟩
    · rw [List.length_map] at h1
      obtain ⟨z, hz⟩ := at_ints (ns := ns) h0 h1
      refine ⟨_, rfl, _, rfl, a, _, _, _, rfl, rfl, hS, hz, ?_⟩
      refine ⟨_, rfl, _, rfl, .inl ⟨_, rfl, ?_⟩⟩
      refine ⟨_, _, rfl, rfl, (by show CPow _ _; exact ⟨by decide, by decide, by decide⟩), _, _, rfl, rfl, (by show CPowW _ _; exact ⟨by decide +kernel, by decide, by decide +kernel⟩), _, _, rfl, rfl, (by show (0 : Int) < _; decide +kernel), _, rfl, _, rfl, _, _, rfl, rfl, (by show CPow _ _; exact ⟨by decide, by decide, by decide⟩), _, _, rfl, rfl, .inr ⟨_, rfl, ?_⟩⟩
      refine ⟨_, _, rfl, rfl, (.inr (ite_b _)), ?_⟩
      refine ⟨_, rfl, ?_⟩
      refine ⟨_, rfl, .inl ⟨_, rfl, ?_⟩⟩
      refine ⟨_, _, rfl, rfl, (by show (0 : Int) < _; decide), _, _, rfl, rfl, (.inl ⟨by omega, by omega⟩), _, rfl, _, _, rfl, rfl, (.inl ⟨by decide, by decide⟩), _, rfl, _, _, rfl, rfl, (.inl ⟨by omega, by omega⟩), _, _, rfl, rfl, _, _, rfl, rfl, .inl ⟨_, rfl, ?_⟩⟩
      refine ⟨_, _, rfl, rfl, (by show (0 : Int) < _; decide), ?_⟩
      refine ⟨(by show 3 ≤ sizeLine; decide), fun p hp => k p _ hp (Ex.nw hp) ⟨_, _, _, upd_same, Int.mul_nonneg (Int.emod_nonneg _ (by decide +kernel)) (ite_n _), Int.emod_nonneg _ (by decide), Int.emod_lt_of_pos _ (by decide), by decide, by decide⟩⟩
    · refine ⟨_, rfl, _, _, rfl, rfl, .inl ⟨by decide, by decide⟩, _, _, rfl, rfl, ?_⟩
      refine ⟨_, rfl, _, rfl, .inl ⟨_, rfl, ?_⟩⟩
      refine ⟨_, _, rfl, rfl, (by show CPow _ _; exact ⟨by decide, by decide, by decide⟩), _, _, rfl, rfl, (by show CPowW _ _; exact ⟨by decide +kernel, by decide, by decide +kernel⟩), _, _, rfl, rfl, (by show (0 : Int) < _; decide +kernel), _, rfl, _, rfl, _, _, rfl, rfl, (by show CPow _ _; exact ⟨by decide, by decide, by decide⟩), _, _, rfl, rfl, .inr ⟨_, rfl, ?_⟩⟩
      refine ⟨_, _, rfl, rfl, (.inr (ite_b _)), ?_⟩
      refine ⟨_, rfl, ?_⟩
      refine ⟨_, rfl, .inl ⟨_, rfl, ?_⟩⟩
      refine ⟨_, _, rfl, rfl, (by show (0 : Int) < _; decide), _, _, rfl, rfl, (.inl ⟨by omega, by omega⟩), _, rfl, _, _, rfl, rfl, (.inl ⟨by decide, by decide⟩), _, rfl, _, _, rfl, rfl, (.inl ⟨by omega, by omega⟩), _, _, rfl, rfl, _, _, rfl, rfl, .inl ⟨_, rfl, ?_⟩⟩
      refine ⟨_, _, rfl, rfl, (by show (0 : Int) < _; decide), ?_⟩
      refine ⟨(by show 3 ≤ sizeLine; decide), fun p hp => k p _ hp (Ex.nw hp) ⟨_, _, _, upd_same, Int.mul_nonneg (Int.emod_nonneg _ (by decide +kernel)) (ite_n _), Int.emod_nonneg _ (by decide), Int.emod_lt_of_pos _ (by decide), by decide, by decide⟩⟩
theorem ok_take (T : Txt K mg A) : FnOk P w K mg base CX0 1 A.f_take A.d_take ["_law_pot_here", "_law_upto"] (spTake) := by
  refine T.F_take.ok sc_take (fun vs H Q E h => ?_) (fun cdv A0 outer s H vs Q E hr h => ?_)
  · obtain ⟨_, _, _, rfl, _⟩ := h
    rfl
  · have hu := hu_of hr
    obtain ⟨p, n, N, rfl, ⟨a, b, c, hp, ha, hb, hb2, hc, hc2⟩, hn, hn2, hN, k⟩ := h
    refine ⟨_, (pss_cons (ps_if (pt_cmpR op_gt (pe_ix ix_list (pv 0) pe_int (fun _ _ => rfl)) pe_int (nomark _)) (pss_cons (ps_set (i := 2) sc_take.nd rfl (Or.inl rfl) (pe_op op_mod (pe_callTy call_int1 (by rfl) T.g_int (by decide +kernel) (pa_cons (pe_ix ix_list (pv 0) pe_int (fun _ _ => rfl)) pa_nil)) (pv 1)))
      (pss_cons (ps_asg (pe_op op_fdiv (pe_ix ix_list (pv 0) pe_int (fun _ _ => rfl)) (pv 1)) (pg_sub (pv 0) pe_int set_list))
      (pss_one (ps_ret (pv 2))))) pss_nil)
      (pss_cons (ps_asg (pe_op op_add (pe_ix ix_list (pv 0) pe_int (fun _ _ => rfl)) pe_int) (pg_sub (pv 0) pe_int set_list))
      (pss_cons (ps_set (i := 3) sc_take.nd rfl (Or.inl rfl) (pe_ix ix_list (pe_lst (pa_cons pe_int (pa_cons pe_int (pa_cons pe_int (pa_cons pe_int (pa_cons pe_int pa_nil)))))) (pe_op op_mod (pe_callTy call_int1 (by rfl) T.g_int (by decide +kernel) (pa_cons (pe_ix ix_list (pv 0) pe_int (fun _ _ => rfl)) pa_nil)) pe_int) (fun _ _ => rfl)))
      (pss_cons (ps_set (i := 4) sc_take.nd rfl (Or.inl rfl) (pe_op op_mod (pe_callTy call_int1 (by rfl) T.g_int (by decide +kernel) (pa_cons (pe_op op_pow (pe_callTy call_int1 (by rfl) T.g_int (by decide +kernel) (pa_cons (pe_op op_add (pe_op op_add (pe_ix ix_list (pv 0) pe_int (fun _ _ => rfl)) (pe_op op_mul (pe_op op_mul pe_int (pe_ix ix_list (pv 0) pe_int (fun _ _ => rfl))) (pe_ix ix_list (pv 0) pe_int (fun _ _ => rfl)))) pe_int) pa_nil)) pe_int) pa_nil)) (pv 3)))
      (pss_cons (ps_set (i := 4) sc_take.nd rfl (Or.inl rfl) (pe_op op_mod (pe_callTy call_int1 (by rfl) T.g_int (by decide +kernel) (pa_cons (pe_op op_mul (pv 4) (pe_op op_add (pe_op op_mod (pe_callTy call_int1 (by rfl) T.g_int (by decide +kernel) (pa_cons (pv 4) pa_nil)) pe_int) (pe_op op_mul pe_int (pe_ix ix_list (pv 0) pe_int (fun _ _ => rfl))))) pa_nil)) pe_int))
      (pss_one (ps_ret (pe_op op_mod (pe_callTy call_int1 (by rfl) T.g_int (by decide +kernel) (pa_cons (pe_op op_fdiv (pv 4) pe_int) pa_nil)) (pv 1))))))))), ?_⟩
    refine ⟨_, rfl, p, _, _, _, rfl, rfl, SqL.of hp, rfl, _, _, rfl, rfl, _, rfl, if_dec (fun h1 => ?_) (fun h1 => ?_)⟩
    · refine ⟨_, rfl, p, _, _, _, rfl, rfl, SqL.of hp, rfl, .inl ⟨_, rfl, _, rfl, _, _, rfl, rfl, (by show (0 : Int) < n; omega), ?_⟩⟩
      refine ⟨_, rfl, p, _, _, _, rfl, rfl, SqL.of hp, rfl, _, rfl, _, _, rfl, rfl, ⟨hn, by omega⟩, _, rfl, p, _, _, _, rfl, rfl, hp, rfl, ?_⟩
      refine ⟨_, rfl, k _ _ (Int.emod_nonneg _ (by omega)) (Int.emod_lt_of_pos _ hn) XB.wr ⟨_, _, _, upd_same, Int.ediv_nonneg ha (by omega), hb, hb2, hc, by omega⟩⟩
    · refine ⟨_, rfl, p, _, _, _, rfl, rfl, SqL.of hp, rfl, _, _, rfl, rfl, _, rfl, p, _, _, _, rfl, rfl, hp, rfl, ?_⟩
      refine ⟨(by show 5 ≤ sizeLine; decide), fun l hl => ?_⟩
      have hp1 : (upd H p (.lst [.int a, .int b, .int (c + 1)])) p = some (.lst [.int a, .int b, .int (c + 1)]) := upd_same
      have npl : p ≠ l := ne_of_none hp1 hl
      obtain ⟨q, hq, hq0, hq1⟩ := at_prime (c + 1)
      have hp2 : (upd (upd H p (.lst [.int a, .int b, .int (c + 1)])) l (.lst [V.int 2147483647, .int 2147483629, .int 2147483587, .int 2147483579, .int 2147483563])) p = some (.lst [.int a, .int b, .int (c + 1)]) := by rw [upd_ne npl]; exact hp1
      have hl2 : (upd (upd H p (.lst [.int a, .int b, .int (c + 1)])) l (.lst [V.int 2147483647, .int 2147483629, .int 2147483587, .int 2147483579, .int 2147483563])) l = some (.lst [V.int 2147483647, .int 2147483629, .int 2147483587, .int 2147483579, .int 2147483563]) := upd_same
      have hx2 : XB p H (upd (upd H p (.lst [.int a, .int b, .int (c + 1)])) l (.lst [V.int 2147483647, .int 2147483629, .int 2147483587, .int 2147483579, .int 2147483563])) := XB.tr XB.wr (Ex.xb (Ex.nw hl))
      refine ⟨_, rfl, p, _, _, _, rfl, rfl, SqL.of hp2, rfl, .inl ⟨_, rfl, _, _, rfl, rfl, (by show (0 : Int) < _; decide), l, _, _, _, rfl, rfl, SqL.of hl2, hq, ?_⟩⟩
      obtain ⟨s0, s1⟩ := sq_le (c := c + 1) (m := 98129) (by omega) (by omega) (by decide)
      refine ⟨_, rfl, p, _, _, _, rfl, rfl, SqL.of hp2, rfl, _, rfl, p, _, _, _, rfl, rfl, SqL.of hp2, rfl, _, _, rfl, rfl, (.inl ⟨by decide, by decide⟩), _, rfl, p, _, _, _, rfl, rfl, SqL.of hp2, rfl, _, _, rfl, rfl, (.inl ⟨by omega, by omega⟩), _, _, rfl, rfl, _, _, rfl, rfl, .inl ⟨_, rfl, ?_⟩⟩
      refine ⟨_, _, rfl, rfl, (by show CPow _ _; exact ⟨by decide, by decide, by omega⟩), .inl ⟨_, rfl, ?_⟩⟩
      refine ⟨_, rfl, _, _, rfl, rfl, (by show (0 : Int) < q; exact hq0), ?_⟩
      have m0 : ∀ z : Int, -(2 ^ 64) < z % q ∧ z % q < 2 ^ 64 := fun z => ⟨Int.lt_of_lt_of_le (by decide) (Int.emod_nonneg z (by omega)), Int.lt_of_lt_of_le (Int.lt_of_lt_of_le (Int.emod_lt_of_pos z hq0) hq1) (by decide)⟩
      refine ⟨_, rfl, _, rfl, .inl ⟨_, rfl, ?_⟩⟩
      refine ⟨_, _, rfl, rfl, (by show (0 : Int) < _; decide), _, rfl, p, _, _, _, rfl, rfl, SqL.of hp2, rfl, _, _, rfl, rfl, (.inl ⟨by decide, by decide⟩), _, _, rfl, rfl, _, _, rfl, rfl, (.inl (m0 _)), .inl ⟨_, rfl, ?_⟩⟩
      refine ⟨_, _, rfl, rfl, (by show (0 : Int) < _; decide), ?_⟩
      refine ⟨_, rfl, _, _, rfl, rfl, ⟨by decide, by decide⟩, .inl ⟨_, rfl, ?_⟩⟩
      refine ⟨_, rfl, _, _, rfl, rfl, (by show (0 : Int) < n; exact hn), ?_⟩
      exact k _ _ (Int.emod_nonneg _ (by omega)) (Int.emod_lt_of_pos _ hn) hx2 ⟨_, _, _, hp2, ha, hb, hb2, by omega, by omega⟩
theorem ok_of (T : Txt K mg A) : FnOk P w K mg base CX0 2 A.f_of A.d_of ["_law_pot_here", "_law_some"] (spOf K) := by
  refine T.F_of.ok sc_of (fun vs H Q E h => ?_) (fun cdv A0 outer s H vs Q E hr h => ?_)
  · obtain ⟨_, _, _, _, rfl, _⟩ := h
    rfl
  · have hu := hu_of hr
    obtain ⟨p, l, xs, N, rfl, hp, hl, nlp, h0, h1, hN, k⟩ := h
    refine ⟨_, (pss_one (ps_ret (pe_ix ix_list (pv 1) (pe_call (ok_take T) (hr.mono (by decide)) (by rfl) T.m_take T.F_take.kp T.b_take .nil pass0 (pa_cons (pv 0) (pa_cons (pe_callB call_len_seq (by rfl) T.g_len (by decide +kernel) (pa_cons (pv 1) pa_nil)) pa_nil))) (fun _ _ => rfl)))), ?_⟩
    refine ⟨_, rfl, _, rfl, _, rfl, l, _, rfl, .inl hl, p, _, N, rfl, hp, by omega, by omega, hN, fun d H1 d0 d1 e1 hp1 => ?_⟩
    obtain ⟨jj, rfl⟩ := Int.eq_ofNat_of_zero_le d0
    have hj : jj < xs.length := by omega
    have hgt : xs[jj]? = some xs[jj] := List.getElem?_eq_getElem hj
    exact ⟨l, _, _, _, rfl, rfl, sql_xb hl nlp e1, atI_nat hgt, k jj _ H1 hgt e1 hp1⟩
theorem ok_any (T : Txt K mg A) : FnOk P w K mg base CX0 3 A.f_any A.d_any ["_law_pot_here"] (spAny) := by
  refine T.F_any.ok sc_any (fun vs H Q E h => ?_) (fun cdv A0 outer s H vs Q E hr h => ?_)
  · obtain ⟨_, _, rfl, _⟩ := h
    rfl
  · have hu := hu_of hr
    obtain ⟨p, N, rfl, hp, hN, k⟩ := h
    refine ⟨_, (pss_cons (ps_set (i := 1) sc_any.nd rfl (Or.inl rfl) (pe_lstN (pa_cons pe_non (pa_cons pe_bl (pa_cons pe_bl (pa_cons (pe_un un_neg pe_int) (pa_cons pe_int (pa_cons pe_int (pa_cons pe_int (pa_cons pe_int (pa_cons pe_int (pa_cons (pe_op op_pow pe_int pe_int) (pa_cons pe_str (pa_cons pe_str (pa_cons (pe_tup pa_nil) (pa_cons (pe_lstN pa_nil) (pa_cons (pe_lstN (pa_cons pe_int pa_nil)) (pa_cons pe_dnewK (pa_cons (pe_disp (pps_cons pe_str pe_int pps_nil) (by rfl) (by rfl) (fun z => by cases z) (by decide)) (pa_cons (pe_tup (pa_cons pe_non pa_nil)) (pa_cons (pe_tup (pa_cons (pe_tup (pa_cons pe_int pa_nil)) pa_nil)) pa_nil)))))))))))))))))))))
      (pss_cons (ps_set (i := 2) sc_any.nd rfl (Or.inl rfl) (pe_call (ok_of T) (hr.mono (by decide)) (by rfl) T.m_of T.F_of.kp T.b_of .nil pass0 (pa_cons (pv 0) (pa_cons (pv 1) pa_nil))))
      (pss_cons (ps_for PassesOwn.never rfl (pi_range1 rfl T.g_range (pa_cons (pe_call (ok_of T) (hr.mono (by decide)) (by rfl) T.m_of T.F_of.kp T.b_of .nil pass0 (pa_cons (pv 0) (pa_cons (pe_lstN (pa_cons pe_int (pa_cons pe_int (pa_cons pe_int (pa_cons pe_int (pa_cons pe_int pa_nil)))))) pa_nil))) pa_nil)) (pg_name (i := 3) sc_any.nd rfl (Or.inl rfl)) (pss_one (ps_set (i := 2) sc_any.nd rfl (Or.inl rfl) (pe_call (ok_of T) (hr.mono (by decide)) (by rfl) T.m_of T.F_of.kp T.b_of .nil pass0 (pa_cons (pv 0) (pa_cons (pe_lstN (pa_cons (pe_tup (pa_cons (pv 2) pa_nil)) (pa_cons (pe_lstN (pa_cons (pv 2) pa_nil)) (pa_cons (pe_disp (pps_cons pe_str (pv 2) pps_nil) (by rfl) (by rfl) (fun z => by cases z) (by decide)) pa_nil)))) pa_nil))))))
      (pss_one (ps_ret (pv 2)))))), ?_⟩
    have hq : ∃ z, z = H := ⟨_, rfl⟩
    obtain ⟨G0, E0⟩ := hq
    rw [← E0] at hp ⊢
    refine ⟨_, rfl, ?_⟩
    refine ⟨_, _, rfl, rfl, (by show CPow _ _; exact ⟨by decide, by decide, by decide⟩), ?_⟩
    refine ⟨(by show 0 ≤ sizeLine; decide), fun t1 n1 => ?_⟩
    obtain ⟨G1, E1⟩ : ∃ z, z = upd G0 t1 (.tup []) := ⟨_, rfl⟩
    have e1 : Ex G0 G1 := by rw [E1]; exact Ex.nw n1
    have a1 : G1 t1 = some (.tup []) := by rw [E1]; exact upd_same
    rw [← E1]
    refine ⟨(by show 0 ≤ sizeLine; decide), fun t2 n2 s2 => ?_⟩
    obtain ⟨G2, E2⟩ : ∃ z, z = upd G1 t2 (.lst []) := ⟨_, rfl⟩
    have e2 : Ex G1 G2 := by rw [E2]; exact Ex.nw n2
    have a2 : G2 t2 = some (.lst []) := by rw [E2]; exact upd_same
    rw [← E2]
    refine ⟨(by show 1 ≤ sizeLine; decide), fun t3 n3 s3 => ?_⟩
    obtain ⟨G3, E3⟩ : ∃ z, z = upd G2 t3 (.lst [V.int 1]) := ⟨_, rfl⟩
    have e3 : Ex G2 G3 := by rw [E3]; exact Ex.nw n3
    have a3 : G3 t3 = some (.lst [V.int 1]) := by rw [E3]; exact upd_same
    rw [← E3]
    intro t4 n4
    obtain ⟨G4, E4⟩ : ∃ z, z = upd G3 t4 (.dK []) := ⟨_, rfl⟩
    have e4 : Ex G3 G4 := by rw [E4]; exact Ex.nw n4
    have a4 : G4 t4 = some (.dK []) := by rw [E4]; exact upd_same
    rw [← E4]
    intro t5 n5
    refine ⟨upd_same, [(Sum.inr "a", V.int 1)], rfl, by decide, ?_⟩
    rw [upd_upd, merge_a]
    obtain ⟨G5, E5⟩ : ∃ z, z = upd G4 t5 (.dK [(Sum.inr "a", V.int 1)]) := ⟨_, rfl⟩
    have e5 : Ex G4 G5 := by rw [E5]; exact Ex.nw n5
    have a5 : G5 t5 = some (.dK [(Sum.inr "a", V.int 1)]) := by rw [E5]; exact upd_same
    rw [← E5]
    refine ⟨(by show 1 ≤ sizeLine; decide), fun t6 n6 => ?_⟩
    obtain ⟨G6, E6⟩ : ∃ z, z = upd G5 t6 (.tup [V.non]) := ⟨_, rfl⟩
    have e6 : Ex G5 G6 := by rw [E6]; exact Ex.nw n6
    have a6 : G6 t6 = some (.tup [V.non]) := by rw [E6]; exact upd_same
    rw [← E6]
    refine ⟨(by show 1 ≤ sizeLine; decide), fun t7 n7 => ?_⟩
    obtain ⟨G7, E7⟩ : ∃ z, z = upd G6 t7 (.tup [V.int 1]) := ⟨_, rfl⟩
    have e7 : Ex G6 G7 := by rw [E7]; exact Ex.nw n7
    have a7 : G7 t7 = some (.tup [V.int 1]) := by rw [E7]; exact upd_same
    rw [← E7]
    refine ⟨(by show 1 ≤ sizeLine; decide), fun t8 n8 => ?_⟩
    obtain ⟨G8, E8⟩ : ∃ z, z = upd G7 t8 (.tup [V.ref t7]) := ⟨_, rfl⟩
    have e8 : Ex G7 G8 := by rw [E8]; exact Ex.nw n8
    have a8 : G8 t8 = some (.tup [V.ref t7]) := by rw [E8]; exact upd_same
    rw [← E8]
    refine ⟨(by show 19 ≤ sizeLine; decide), fun t9 n9 s9 => ?_⟩
    dsimp only
    obtain ⟨G9, E9⟩ : ∃ z, z = upd G8 t9 (.lst [V.non, V.bl true, V.bl false, V.int (-1), V.int 0, V.int 1, V.int 2, V.int 3, V.int 5, V.int (10 ^ (17 : Int).toNat), V.str "", V.str "1", V.ref t1, V.ref t2, V.ref t3, V.ref t4, V.ref t5, V.ref t6, V.ref t8]) := ⟨_, rfl⟩
    have e9 : Ex G8 G9 := by rw [E9]; exact Ex.nw n9
    have a9 : G9 t9 = some (.lst [V.non, V.bl true, V.bl false, V.int (-1), V.int 0, V.int 1, V.int 2, V.int 3, V.int 5, V.int (10 ^ (17 : Int).toNat), V.str "", V.str "1", V.ref t1, V.ref t2, V.ref t3, V.ref t4, V.ref t5, V.ref t6, V.ref t8]) := by rw [E9]; exact upd_same
    rw [← E9]
    have g0 : Ex G9 G9 := Ex.rf _
    have f9 : Ex G9 G9 := Ex.rf _
    have f8 : Ex G8 G9 := e9.tr f9
    have f7 : Ex G7 G9 := e8.tr f8
    have f6 : Ex G6 G9 := e7.tr f7
    have f5 : Ex G5 G9 := e6.tr f6
    have f4 : Ex G4 G9 := e5.tr f5
    have f3 : Ex G3 G9 := e4.tr f4
    have f2 : Ex G2 G9 := e3.tr f3
    have f1 : Ex G1 G9 := e2.tr f2
    have f0 : Ex G0 G9 := e1.tr f1
    have p1 : Ex G0 G1 := e1
    have p2 : Ex G0 G2 := p1.tr e2
    have p3 : Ex G0 G3 := p2.tr e3
    have p4 : Ex G0 G4 := p3.tr e4
    have p5 : Ex G0 G5 := p4.tr e5
    have p6 : Ex G0 G6 := p5.tr e6
    have p7 : Ex G0 G7 := p6.tr e7
    have p8 : Ex G0 G8 := p7.tr e8
    have p9 : Ex G0 G9 := p8.tr e9
    have m2 : t2 ≠ p := pot_none (hp.ex p1) n2
    have m3 : t3 ≠ p := pot_none (hp.ex p2) n3
    have m9 : t9 ≠ p := pot_none (hp.ex p8) n9
    have hpf := hp.ex f0
    have any0 : ∀ (i : Nat) (v : V), ([V.non, V.bl true, V.bl false, V.int (-1), V.int 0, V.int 1, V.int 2, V.int 3, V.int 5, V.int (10 ^ (17 : Int).toNat), V.str "", V.str "1", V.ref t1, V.ref t2, V.ref t3, V.ref t4, V.ref t5, V.ref t6, V.ref t8] : List V)[i]? = some v → AnyV p G9 0 v := fun i v h => by
      match i, h with
      | 0, h => cases h; exact ⟨.none, .non, .of (by decide +kernel)⟩
      | 1, h => cases h; exact ⟨.bool true, .bl _, .of (by decide +kernel)⟩
      | 2, h => cases h; exact ⟨.bool false, .bl _, .of (by decide +kernel)⟩
      | 3, h => cases h; exact ⟨.int (-1), .int _, .of (by decide +kernel)⟩
      | 4, h => cases h; exact ⟨.int 0, .int _, .of (by decide +kernel)⟩
      | 5, h => cases h; exact ⟨.int 1, .int _, .of (by decide +kernel)⟩
      | 6, h => cases h; exact ⟨.int 2, .int _, .of (by decide +kernel)⟩
      | 7, h => cases h; exact ⟨.int 3, .int _, .of (by decide +kernel)⟩
      | 8, h => cases h; exact ⟨.int 5, .int _, .of (by decide +kernel)⟩
      | 9, h => cases h; exact ⟨.int (10 ^ (17 : Int).toNat), .int _, .of (by decide +kernel)⟩
      | 10, h => cases h; exact ⟨.str "", .str _, .of (by decide +kernel)⟩
      | 11, h => cases h; exact ⟨.str "1", .str _, .of (by decide +kernel)⟩
      | 12, h => cases h; exact ⟨.tuple [], (dz_t (f1 _ _ a1) rfl (fun q hq => by cases hq)), .of (by decide +kernel)⟩
      | 13, h => cases h; exact ⟨.list [], (dz_l (f2 _ _ a2) s2 m2 rfl (fun q hq => by cases hq)), .of (by decide +kernel)⟩
      | 14, h => cases h; exact ⟨.list [.int 1], (dz_l (f3 _ _ a3) s3 m3 rfl (fun q hq => by rw [List.mem_singleton.mp hq]; exact .int _)), .of (by decide +kernel)⟩
      | 15, h => cases h; exact ⟨.dict [], (dz_0 (f4 _ _ a4)), .of (by decide +kernel)⟩
      | 16, h => cases h; exact ⟨.dict [(.str "a", .int 1)], (dz_d (f5 _ _ a5) (.int _)), .of (by decide +kernel)⟩
      | 17, h => cases h; exact ⟨.tuple [.none], (dz_t (f6 _ _ a6) rfl (fun q hq => by rw [List.mem_singleton.mp hq]; exact .non)), .of (by decide +kernel)⟩
      | 18, h => cases h; exact ⟨.tuple [.tuple [.int 1]], (dz_t (f8 _ _ a8) rfl (fun q hq => by rw [List.mem_singleton.mp hq]; exact (dz_t (f7 _ _ a7) rfl (fun q hq => by rw [List.mem_singleton.mp hq]; exact .int _)))), .of (by decide +kernel)⟩
      | i + 19, h => simp at h
    refine ⟨_, rfl, _, rfl, p, t9, _, N, rfl, hpf, SqL.of a9, m9, (by show 0 < 19; decide), (by show 19 < 1000; decide), by omega, fun i v H1 hi x1 hp1 => ?_⟩
    have hv : AnyV p H1 0 v := (any0 i v hi).pot hpf x1
    have y1 : XB p G0 H1 := XB.tr (Ex.xb f0) x1
    refine ⟨_, rfl, (by show 5 ≤ sizeLine; decide), fun l2 nl2 sl2 => ?_⟩
    have q2 := pot_none hp1 nl2
    refine ⟨p, l2, _, N + 1, rfl, hp1.ex (Ex.nw nl2), SqL.of upd_same, q2, (by show 0 < 5; decide), (by show 5 < 1000; decide), by omega, fun j u H2 hj x2 hp2 => ?_⟩
    obtain ⟨z, rfl, z0, z1⟩ : ∃ z : Int, u = .int z ∧ 0 ≤ z ∧ z ≤ 12 := by
      match j, hj with
      | 0, h => exact ⟨0, (Option.some.inj h).symm, by decide, by decide⟩
      | 1, h => exact ⟨0, (Option.some.inj h).symm, by decide, by decide⟩
      | 2, h => exact ⟨0, (Option.some.inj h).symm, by decide, by decide⟩
      | 3, h => exact ⟨1, (Option.some.inj h).symm, by decide, by decide⟩
      | 4, h => exact ⟨12, (Option.some.inj h).symm, by decide, by decide⟩
      | j + 5, h => simp at h
    have hv2 : AnyV p H2 0 v := (hv.ex (Ex.nw nl2)).pot (hp1.ex (Ex.nw nl2)) x2
    have y2 : XB p G0 H2 := y1.tr (XB.tr (Ex.xb (Ex.nw nl2)) x2)
    refine ⟨z, rfl, by omega, by omega, for_range (lo := 0) (n := z.toNat) (fun i σ H' => (∃ u v3, σ = [some (.ref p), some (.ref t9), some u, v3] ∧ AnyV p H' i u) ∧ XB p G0 H' ∧ PotAt H' p (N + 2 + i)) ⟨⟨v, _, rfl, hv2⟩, y2, hp2.mono (by omega)⟩ ?_ ?_⟩
    · rintro i σ H3 hi3 ⟨⟨u, v3, rfl, hu3⟩, y3, hp3⟩
      have hk : ∃ z, z = H3 := ⟨_, rfl⟩
      obtain ⟨K0, EK0⟩ := hk
      rw [← EK0] at hu3 y3 hp3 ⊢
      refine ⟨_, rfl, ?_⟩
      refine ⟨_, rfl, (by show 1 ≤ sizeLine; decide), fun c1 nc1 => ?_⟩
      obtain ⟨K1, EK1⟩ : ∃ z, z = upd K0 c1 (.tup [u]) := ⟨_, rfl⟩
      have ke1 : Ex K0 K1 := by rw [EK1]; exact Ex.nw nc1
      have ka1 : K1 c1 = some (.tup [u]) := by rw [EK1]; exact upd_same
      rw [← EK1]
      refine ⟨_, rfl, (by show 1 ≤ sizeLine; decide), fun c2 nc2 sc2 => ?_⟩
      obtain ⟨K2, EK2⟩ : ∃ z, z = upd K1 c2 (.lst [u]) := ⟨_, rfl⟩
      have ke2 : Ex K1 K2 := by rw [EK2]; exact Ex.nw nc2
      have ka2 : K2 c2 = some (.lst [u]) := by rw [EK2]; exact upd_same
      rw [← EK2]
      intro c3 nc3
      refine ⟨_, rfl, upd_same, [(Sum.inr "a", u)], rfl, (by show 1 ≤ 15; decide), ?_⟩
      rw [upd_upd, merge_a]
      obtain ⟨K3, EK3⟩ : ∃ z, z = upd K2 c3 (.dK [(Sum.inr "a", u)]) := ⟨_, rfl⟩
      have ke3 : Ex K2 K3 := by rw [EK3]; exact Ex.nw nc3
      have ka3 : K3 c3 = some (.dK [(Sum.inr "a", u)]) := by rw [EK3]; exact upd_same
      rw [← EK3]
      refine ⟨(by show 3 ≤ sizeLine; decide), fun c4 nc4 sc4 => ?_⟩
      obtain ⟨K4, EK4⟩ : ∃ z, z = upd K3 c4 (.lst [V.ref c1, V.ref c2, V.ref c3]) := ⟨_, rfl⟩
      have ke4 : Ex K3 K4 := by rw [EK4]; exact Ex.nw nc4
      have ka4 : K4 c4 = some (.lst [V.ref c1, V.ref c2, V.ref c3]) := by rw [EK4]; exact upd_same
      rw [← EK4]
      have kf4 : Ex K4 K4 := Ex.rf _
      have kf3 : Ex K3 K4 := ke4.tr kf4
      have kf2 : Ex K2 K4 := ke3.tr kf3
      have kf1 : Ex K1 K4 := ke2.tr kf2
      have kf0 : Ex K0 K4 := ke1.tr kf1
      have kp1 : Ex K0 K1 := ke1
      have kp2 : Ex K0 K2 := kp1.tr ke2
      have kp3 : Ex K0 K3 := kp2.tr ke3
      have kp4 : Ex K0 K4 := kp3.tr ke4
      have km2 : c2 ≠ p := pot_none (hp3.ex kp1) nc2
      have km4 : c4 ≠ p := pot_none (hp3.ex kp3) nc4
      have hpk := hp3.ex kf0
      obtain ⟨d, dz, bd⟩ := hu3.ex kf0
      have one : ∀ q ∈ ([u] : List V).zip [d], Dz p K4 q.1 q.2 := fun q hq => by rw [List.mem_singleton.mp hq]; exact dz
      refine ⟨p, c4, _, N + 2 + i, rfl, hpk, SqL.of ka4, km4, (by show 0 < 3; decide), (by show 3 < 1000; decide), by omega, fun j u' H6 hj x6 hp6 => ?_⟩
      have hu6 : AnyV p K4 (i + 1) u' := by
        match j, hj with
        | 0, h => cases h; exact ⟨.tuple [d], dz_t (kf1 _ _ ka1) rfl one, bd.t1⟩
        | 1, h => cases h; exact ⟨.list [d], dz_l (kf2 _ _ ka2) sc2 km2 rfl one, bd.l1⟩
        | 2, h => cases h; exact ⟨.dict [(.str "a", d)], dz_d (kf3 _ _ ka3) dz, bd.d1 (by decide +kernel) (by decide +kernel) (by decide +kernel)⟩
        | j + 3, h => simp at h
      exact ⟨⟨u', _, rfl, hu6.pot hpk x6⟩, y3.tr (XB.tr (Ex.xb kf0) x6), hp6.mono (by push_cast; omega)⟩
    · rintro σ H3 ⟨⟨u, v3, rfl, d, hz, bd⟩, y3, hp3⟩
      exact ⟨_, rfl, k u H3 (E0 ▸ y3) (hp3.mono (by omega)) ⟨d, hz, bd.up (by omega)⟩⟩
end
end K03
set_option Elab.async false
set_option linter.all false
set_option maxRecDepth 100000
set_option maxHeartbeats 4400000
namespace K03
open PySem PySem.Spec PyProof.Rows L2 HX
open PySem.W (Frag)


open LamX
/-- what the law hears of a call -/
def ErrCase (A : Ad) (Q : VK) (cls : Value) (d : Option Addr) (H' : Hp) : Prop := ∃ C dd n v, cls = .ref C ∧ d = some dd ∧ H' dd = some (.xd [("value", v)]) ∧ ((C = A.C_BadSize ∧ n = ("size" : Str)) ∨ (C = A.C_BadMost ∧ n = ("most" : Str)) ∨ (C = A.C_BadItems ∧ n = ("items" : Str))) ∧ ∀ (q : Addr) (H'' : Hp), Ex H' H'' → H'' q = some (.tup [.str n, v]) → Q (.ref q) H''
def ValCase (A : Ad) (Q : VK) (v : V) (H' : Hp) : Prop := ∃ p xs, v = .ref p ∧ RowAt A.C_Row H' p xs ∧ ∀ (q t : Addr) (H'' : Hp), Ex H' H'' → H'' t = some (.tup xs) → H'' q = some (.tup [.str "told", .ref t]) → Q (.ref q) H''
def TTh (A : Ad) : (XK → Hp → VK → Prop) → Hp → VK → Prop := fun tl H Q => ∀ (E : XK) (Qv : VK), (∀ cls d H', ErrCase A Q cls d H' → E cls d H') → (∀ v H', ValCase A Q v H' → Qv v H') → tl E H Qv
theorem bd_way0 : (intsTo 5 3).all (fun l => bdB (.list (l.map PyData.int))) = true := by decide +kernel
theorem bd_way2 : (intsTo 5 3).all (fun l => bdB (.tuple (l.map PyData.int))) = true := by decide +kernel
def tails : List PyData := [.bool true, .int (-1), .str "1", .none, .bool false]
theorem bd_way1 : (intsTo 5 3).all (fun l => tails.all fun t => bdB (.tuple (l.map PyData.int ++ [t]))) = true := by decide +kernel
theorem dz_ints {p : Addr} {H : Hp} (l : List Int) : (l.map V.int).length = (l.map PyData.int).length ∧ ∀ (i : Nat) (v : V) (d : PyData), (l.map V.int)[i]? = some v → (l.map PyData.int)[i]? = some d → Dz p H v d :=
  ⟨by simp, fun i v d e1 e2 => by
    rw [List.getElem?_map] at e1 e2
    obtain ⟨z, hz, rfl⟩ := Option.map_eq_some_iff.mp e1
    rw [hz] at e2
    cases e2
    exact .int _⟩
theorem dz_intsT {p : Addr} {H : Hp} (l : List Int) {v : V} {t : PyData} (hv : Dz p H v t) : (l.map V.int ++ [v]).length = (l.map PyData.int ++ [t]).length ∧ ∀ (i : Nat) (v' : V) (d : PyData), (l.map V.int ++ [v])[i]? = some v' → (l.map PyData.int ++ [t])[i]? = some d → Dz p H v' d :=
  ⟨by simp, fun i v' d e1 e2 => by
    by_cases h : i < l.length
    · rw [List.getElem?_append_left (by simpa using h)] at e1 e2
      exact (dz_ints l).2 i v' d e1 e2
    · rw [List.getElem?_append_right (by simpa using Nat.le_of_not_lt h)] at e1 e2
      rw [List.length_map] at e1 e2
      match hj : i - l.length, e1, e2 with
      | 0, e1, e2 => cases e1; cases e2; exact hv
      | n + 1, e1, e2 => simp at e1⟩
theorem none_back {p D : Addr} {H H1 : Hp} (x : XB p H H1) (n : D ≠ p) (h : H1 D = none) : H D = none := by
  cases e : H D with
  | none => rfl
  | some o => exact absurd (x D o n e) (by rw [h]; simp)
theorem kk0 {d1 d2 d3 : PyData} (h1 : ¬ wholeD d1 2 5 = true) : kk d1 d2 d3 = 0 := by unfold kk; rw [if_neg h1]
theorem kk1 {d1 d2 d3 : PyData} (h1 : wholeD d1 2 5 = true) (h2 : ¬ wholeD d2 1 3 = true) : kk d1 d2 d3 = 1 := by unfold kk; rw [if_pos h1, if_neg h2]
theorem kk2 {d1 d2 d3 : PyData} (h1 : wholeD d1 2 5 = true) (h2 : wholeD d2 1 3 = true) (h3 : ¬ itemsOk d3 (ivD d1) (ivD d2) = true) : kk d1 d2 d3 = 2 := by unfold kk; rw [if_pos h1, if_pos h2, if_neg h3]
theorem kk3 {d1 d2 d3 : PyData} (h1 : wholeD d1 2 5 = true) (h2 : wholeD d2 1 3 = true) (h3 : itemsOk d3 (ivD d1) (ivD d2) = true) : kk d1 d2 d3 = 3 := by unfold kk; rw [if_pos h1, if_pos h2, if_pos h3]

section
variable {P : Program} {w : World} {K : Frag} {mg : Str → Option Value} {base : Heap} {A : Ad}

theorem ok_due (T : Txt K mg A) : FnOk P w K mg base CX0 2 A.f_due A.d_due ["_law_girth", "_law_cap", "_law_things"] (spDue K) := by
  refine T.F_due.ok sc_due (fun vs H Q E h => ?_) (fun cdv A0 outer s H vs Q E hr h => ?_)
  · obtain ⟨_, _, _, _, _, _, _, rfl, _⟩ := h
    rfl
  · have hu := hu_of hr
    obtain ⟨p, v1, v2, v3, d1, d2, d3, rfl, z1, z2, z3, k⟩ := h
    refine ⟨_, (pss_cons (ps_if (pt_not (pt_val (pe_call (ok_is_from T) (hr.mono (by decide)) (by rfl) T.m_is_from T.F_is_from.kp T.b_is_from .nil pass0 (pa_cons (pv 0) (pa_cons pe_int (pa_cons pe_int pa_nil)))))) (pss_one (ps_ret (pe_tup (pa_cons pe_str (pa_cons (pv 0) pa_nil))))) pss_nil)
      (pss_cons (ps_if (pt_not (pt_val (pe_call (ok_is_from T) (hr.mono (by decide)) (by rfl) T.m_is_from T.F_is_from.kp T.b_is_from .nil pass0 (pa_cons (pv 1) (pa_cons pe_int (pa_cons pe_int pa_nil)))))) (pss_one (ps_ret (pe_tup (pa_cons pe_str (pa_cons (pv 1) pa_nil))))) pss_nil)
      (pss_cons (ps_if (PW.pt (pw_or (pt_not (pt_val (pe_callB call_isi (by rfl) T.g_isinstance (by decide +kernel) (pa_cons (pv 2) (pa_cons (pe_bltn (v := .ty "tuple") (by rfl) T.g_tuple (by decide +kernel) rfl) pa_nil))))) (pw_or1 (pt_cmpR op_gt (pe_callB call_len_seq (by rfl) T.g_len (by decide +kernel) (pa_cons (pv 2) pa_nil)) (pv 1) (nomark _))))) (pss_one (ps_ret (pe_tup (pa_cons pe_str (pa_cons (pv 2) pa_nil))))) pss_nil)
      (pss_one (ps_ret (pe_ifExp (pt_val (pe_callB (cr_all rfl) (by rfl) T.g_all (by decide +kernel) (pa_cons (pe_lc (own := [("_law_one", 3)]) (g := gName 3) (tt := tYes) rfl sc_due.nd (pi_tup (pv 2)) (blkOk_by (N := N_due) (sc := defScope s_due) (by decide +kernel)) (fun _ _ _ _ _ => pg_name (i := 3) sc_due.nd rfl (Or.inl rfl)) (fun _ _ _ _ _ => pts_nil) (fun _ _ _ _ _ => (pe_call (ok_is_from T) (hr.mono (by decide)) (by rfl) T.m_is_from T.F_is_from.kp T.b_is_from .nil pass0 (pa_cons (pv 3) (pa_cons pe_int (pa_cons (pe_op op_sub (pv 0) pe_int) pa_nil)))))) pa_nil))) (pe_tup (pa_cons pe_str (pa_cons (pv 2) pa_nil))) (pe_tup (pa_cons pe_str (pa_cons (pv 2) pa_nil))))))))), ?_⟩
    refine ⟨_, rfl, v1, 2, 4, rfl, kd_of z1, _, rfl, ?_⟩
    rw [whole_d z1]
    by_cases h1 : wholeD d1 2 5 = true
    · obtain ⟨s', rfl, s0, s1⟩ := wholeD_int h1
      obtain rfl := dz_int z1
      refine HX.if_false (by show (!wholeD (.int s') 2 5) = false; rw [h1]; rfl) ?_
      refine ⟨_, rfl, v2, 1, 2, rfl, kd_of z2, _, rfl, ?_⟩
      rw [whole_d z2]
      by_cases h2 : wholeD d2 1 3 = true
      · obtain ⟨m', rfl, m0, m1⟩ := wholeD_int h2
        obtain rfl := dz_int z2
        refine HX.if_false (by show (!wholeD (.int m') 1 3) = false; rw [h2]; rfl) ?_
        obtain ⟨ty, tx, kt⟩ := kt_of (K := K) z3
        refine ⟨_, rfl, _, _, _, _, _, rfl, .ty _, tx, kt, _, rfl, ?_⟩
        have no : isTupD d3 = false → itemsOk d3 s' m' = false := fun h => by cases d3 <;> first | rfl | cases h
        cases hd : d3 with
        | tuple ds =>
          subst hd
          have z3' := z3
          cases z3' with
          | tup ht hl hi =>
            rename_i a xs
            refine HX.if_false rfl ?_
            refine ⟨_, rfl, a, _, rfl, .inr (SqT.of ht), _, rfl, _, _, rfl, rfl, _, rfl, if_dec (fun h3 => ?_) (fun h3 => ?_)⟩
            · have e3 : itemsOk (.tuple ds) s' m' = false := by
                show (decide ((ds.length : Int) ≤ m') && _) = false
                rw [decide_eq_false (by omega), Bool.false_and]
              refine ⟨_, rfl, (by show 2 ≤ sizeLine; decide), fun q nq => ?_⟩
              refine k q _ (Ex.nw nq) ?_
              rw [kk2 h1 h2 (fun z => Bool.noConfusion (e3.symm.trans z))]
              exact upd_same
            · have e3 : itemsOk (.tuple ds) s' m' = ds.all (fun x => wholeD x 0 s') := by
                show (decide ((ds.length : Int) ≤ m') && _) = _
                rw [decide_eq_true (by omega), Bool.true_and]
              refine ⟨_, rfl, a, rfl, ⟨_, SqT.of ht⟩, fun D nD => lc_tup (fun j H' => Ex H H' ∧ H' D = some (.lst (((tru ds s').take j).map V.bl))) ⟨Ex.nw nD, upd_same⟩ (fun i H' _ h' => SqT.of (h'.1 _ _ ht)) ?_ ?_⟩
              · rintro i x H' hx ⟨e1, hD⟩
                have hj : i < xs.length := (List.getElem?_eq_some_iff.mp hx).1
                obtain ⟨dd, hdd⟩ : ∃ z, ds[i]? = some z := ⟨_, List.getElem?_eq_getElem (by omega)⟩
                have dzi := hi i x dd hx hdd
                refine ⟨rfl, _, rfl, _, rfl, _, _, rfl, rfl, x, 0, s' - 1, rfl, kd_of (dzi.ex e1), ?_⟩
                rw [show s' - 1 + 1 = s' by omega]
                rw [whole_d dzi]
                refine ⟨_, hD, Nat.lt_of_le_of_lt (by rw [List.length_map]; exact List.length_take_le _ _) (small (by omega)), Ex.mu e1 nD, ?_⟩
                rw [tru_next hdd]
                exact upd_same
              · rintro H' ⟨e1, hD⟩
                rw [List.take_of_length_le (by unfold tru; rw [List.length_map]; omega)] at hD
                refine ⟨D, tru ds s', rfl, SqL.of hD, ?_⟩
                rw [tru_all]
                rw [← e3]
                by_cases h4 : itemsOk (.tuple ds) s' m' = true
                · refine ⟨_, rfl, HX.if_true h4 ?_⟩
                  refine ⟨_, rfl, (by show 2 ≤ sizeLine; decide), fun q nq => ?_⟩
                  refine k q _ (e1.tr (Ex.nw nq)) ?_
                  rw [kk3 h1 h2 h4]
                  obtain ⟨is, e5, hit⟩ := itemsOk_tup h4
                  rw [e5] at z3 hit
                  obtain ⟨t, e6, e7⟩ := tup_ints z3
                  cases e6
                  refine ⟨a, ?_, upd_same⟩
                  rw [e5, hit]
                  exact (e1.tr (Ex.nw nq)) _ _ e7
                · refine ⟨_, rfl, HX.if_false (Bool.eq_false_iff.mpr h4) ?_⟩
                  refine ⟨_, rfl, (by show 2 ≤ sizeLine; decide), fun q nq => ?_⟩
                  refine k q _ (e1.tr (Ex.nw nq)) ?_
                  rw [kk2 h1 h2 h4]
                  exact upd_same
        | _ =>
          have e3 := no (by rw [hd]; rfl)
          rw [hd] at e3
          refine HX.if_true (by rfl) ?_
          rw [hd] at k
          refine ⟨_, rfl, (by show 2 ≤ sizeLine; decide), fun q nq => ?_⟩
          refine k q _ (Ex.nw nq) ?_
          rw [kk2 h1 h2 (fun z => Bool.noConfusion (e3.symm.trans z))]
          exact upd_same
      · refine HX.if_true (by show (!wholeD d2 1 3) = true; rw [Bool.eq_false_iff.mpr h2]; rfl) ?_
        refine ⟨_, rfl, (by show 2 ≤ sizeLine; decide), fun q nq => ?_⟩
        refine k q _ (Ex.nw nq) ?_
        rw [kk1 h1 h2]
        exact upd_same
    · refine HX.if_true (by show (!wholeD d1 2 5) = true; rw [Bool.eq_false_iff.mpr h1]; rfl) ?_
      refine ⟨_, rfl, (by show 2 ≤ sizeLine; decide), fun q nq => ?_⟩
      refine k q _ (Ex.nw nq) ?_
      rw [kk0 h1]
      exact upd_same
theorem ok_drawn (T : Txt K mg A) : FnOk P w K mg base CX0 4 A.f_drawn A.d_drawn ["_law_pot_here", "_law_some"] (spDrawn K) := by
  refine T.F_drawn.ok sc_drawn (fun vs H Q E h => ?_) (fun cdv A0 outer s H vs Q E hr h => ?_)
  · obtain ⟨_, _, _, _, rfl, _⟩ := h
    rfl
  · have hu := hu_of hr
    obtain ⟨p, l, xs, N, rfl, hp, hl, nlp, h0, h1, hx, hN, k⟩ := h
    refine ⟨_, (pss_one (ps_ret (pe_ifExp (pt_cmpR op_gt (pe_call (ok_take T) (hr.mono (by decide)) (by rfl) T.m_take T.F_take.kp T.b_take .nil pass0 (pa_cons (pv 0) (pa_cons pe_int pa_nil))) pe_int (nomark _)) (pe_call (ok_of T) (hr.mono (by decide)) (by rfl) T.m_of T.F_of.kp T.b_of .nil pass0 (pa_cons (pv 0) (pa_cons (pv 1) pa_nil))) (pe_call (ok_any T) (hr.mono (by decide)) (by rfl) T.m_any T.F_any.kp T.b_any .nil pass0 (pa_cons (pv 0) pa_nil))))), ?_⟩
    refine ⟨_, rfl, p, 4, N, rfl, hp, by decide, by decide, by omega, fun d H1 d0 d1 x1 hp1 => ⟨_, _, rfl, rfl, _, rfl, if_dec (fun h2 => ?_) (fun h2 => ?_)⟩⟩
    · refine ⟨_, rfl, _, rfl, p, l, xs, N + 1, rfl, hp1, sql_xb hl nlp x1, nlp, h0, h1, by omega, fun i v H2 hi x2 hp2 => k v H2 (x1.tr x2) (hp2.mono (by omega)) ?_⟩
      obtain ⟨d, z, b⟩ := ((hx v (List.mem_of_getElem? hi)).pot hp x1).pot hp1 x2
      exact ⟨d, z, b.up (by omega)⟩
    · exact ⟨_, rfl, p, N + 1, rfl, hp1, by omega, fun v H2 x2 hp2 hv => k v H2 (x1.tr x2) (hp2.mono (by omega)) hv⟩
theorem ok_items (T : Txt K mg A) : FnOk P w K mg base CX0 3 A.f_items A.d_items ["_law_pot_here"] (spItemsD) := by
  refine T.F_items.ok sc_items (fun vs H Q E h => ?_) (fun cdv A0 outer s H vs Q E hr h => ?_)
  · obtain ⟨_, _, rfl, _⟩ := h
    rfl
  · have hu := hu_of hr
    obtain ⟨p, N, rfl, hp, hN, k⟩ := h
    refine ⟨_, (pss_cons (ps_setLc (i := 1) (own := [("_law_lap", 3)]) (g := gName 3) (tt := tYes) (by rfl) sc_items.nd rfl rfl (sw_true rfl rfl rfl (by decide +kernel)) (pi_range1 rfl T.g_range (pa_cons (pe_call (ok_take T) (hr.mono (by decide)) (by rfl) T.m_take T.F_take.kp T.b_take .nil pass0 (pa_cons (pv 0) (pa_cons pe_int pa_nil))) pa_nil)) (blkOk_by (N := N_items) (sc := defScope s_items) (by decide +kernel)) (fun _ _ _ _ _ => pg_name (i := 3) sc_items.nd rfl (Or.inl rfl)) (fun _ _ _ _ _ => pts_nil) (fun _ _ _ _ _ => (pe_call (ok_take T) (hr.mono (by decide)) (by rfl) T.m_take T.F_take.kp T.b_take .nil pass0 (pa_cons (pv 0) (pa_cons pe_int pa_nil)))))
      (pss_cons (ps_set (i := 2) sc_items.nd rfl (Or.inl rfl) (pe_call (ok_take T) (hr.mono (by decide)) (by rfl) T.m_take T.F_take.kp T.b_take .nil pass0 (pa_cons (pv 0) (pa_cons pe_int pa_nil))))
      (pss_cons (ps_if (pt_cmpR op_eq (pv 2) pe_int (nomark _)) (pss_one (ps_ret (pe_callTy call_listN (by rfl) T.g_list (by decide +kernel) (pa_cons (pv 1) pa_nil)))) pss_nil)
      (pss_cons (ps_if (pt_cmpR op_eq (pv 2) pe_int (nomark _)) (pss_one (ps_ret (pe_callTy call_tuple_of (by rfl) T.g_tuple (by decide +kernel) (pa_cons (pe_op op_cat (pv 1) (pe_lstN (pa_cons (pe_call (ok_of T) (hr.mono (by decide)) (by rfl) T.m_of T.F_of.kp T.b_of .nil pass0 (pa_cons (pv 0) (pa_cons (pe_lstN (pa_cons pe_bl (pa_cons (pe_un un_neg pe_int) (pa_cons pe_str (pa_cons pe_non (pa_cons pe_bl pa_nil)))))) pa_nil))) pa_nil))) pa_nil)))) pss_nil)
      (pss_one (ps_ret (pe_callTy call_tuple_of (by rfl) T.g_tuple (by decide +kernel) (pa_cons (pv 1) pa_nil)))))))), ?_⟩
    refine ⟨_, rfl, p, 4, N, rfl, hp, by decide, by decide, by omega, fun m H1 m0 m1 x1 hp1 => ⟨m, rfl, by omega, by omega, fun D nD => ?_⟩⟩
    refine lc_range (lo := 0) (n := m.toNat) (fun j H' => ∃ ns : List Int, ns.length = j ∧ (∀ i ∈ ns, 0 ≤ i ∧ i < 5) ∧ H' D = some (.lst (ns.map V.int)) ∧ XB p H H' ∧ PotAt H' p (N + 1 + j)) ⟨[], rfl, (fun i h => by cases h), upd_same, XB.mu x1 (none_back x1 (pot_none hp1 nD) nD), (hp1.ex (Ex.nw nD)).mono (by omega)⟩ ?_ ?_
    · rintro j H' hj ⟨ns, hl, hb, hD, xb, hp'⟩
      refine ⟨rfl, _, rfl, p, 5, _, rfl, hp', by decide, by decide, by omega, fun d H2 d0 d1 x2 hp2 => ?_⟩
      have nDp : D ≠ p := pot_none hp1 nD
      refine ⟨_, x2 _ _ nDp hD, small (by rw [List.length_map]; omega), ns ++ [d], by rw [List.length_append, hl]; rfl, ?_, ?_, ?_, ?_⟩
      · intro i hi
        rcases List.mem_append.mp hi with h | h
        · exact hb i h
        · rw [List.mem_singleton.mp h]; exact ⟨d0, d1⟩
      · rw [upd_same, List.map_append]; rfl
      · intro a o na ha
        have n1 : a ≠ D := fun z => by rw [z] at ha; exact absurd (x1 _ _ nDp ha) (by rw [nD]; simp)
        rw [upd_ne n1]
        exact x2 _ _ na (xb _ _ na ha)
      · exact (hp2.up (Ne.symm nDp)).mono (by push_cast; omega)
    · rintro H2 ⟨ns, hl, hb, hD, xb, hp2⟩
      have hmem : ns ∈ intsTo 5 3 := mem_ints (by omega) hb
      have nDp : D ≠ p := pot_none hp1 nD
      refine ⟨_, rfl, p, 8, _, rfl, hp2, by decide, by decide, by omega, fun w H3 w0 w1 x3 hp3 => ?_⟩
      have hD3 := x3 _ _ nDp hD
      have xb3 := xb.tr x3
      refine ⟨_, rfl, rfl, _, rfl, if_dec (fun h0 => ?_) (fun h0 => ?_)⟩
      · refine ⟨_, rfl, D, _, rfl, .inl (SqL.of hD3), fun l nl sl => ?_⟩
        refine k _ _ (XB.mu xb3 (none_back xb3 (pot_none hp3 nl) nl)) ((hp3.ex (Ex.nw nl)).mono (by omega)) ⟨.list (ns.map PyData.int), .lst upd_same sl (pot_none hp3 nl) (dz_ints (p := p) (H := H) ns).1 (dz_ints ns).2, (bdB_ok (List.all_eq_true.mp bd_way0 ns hmem)).up (by omega)⟩
      refine ⟨_, rfl, rfl, _, rfl, if_dec (fun h0 => ?_) (fun h0 => ?_)⟩
      · refine ⟨_, rfl, _, rfl, _, rfl, ?_⟩
        refine ⟨(by show 5 ≤ sizeLine; decide), fun l nl sl => ?_⟩
        have nlp := pot_none hp3 nl
        refine ⟨p, l, _, _, rfl, hp3.ex (Ex.nw nl), SqL.of upd_same, nlp, (by decide), (by decide), by omega, fun i v H4 hi x4 hp4 => ?_⟩
        obtain ⟨t, ht, dzt⟩ : ∃ t, t ∈ tails ∧ ∀ G, Dz p G v t := by
          match i, hi with
          | 0, h => cases h; exact ⟨.bool true, .head _, fun _ => .bl _⟩
          | 1, h => cases h; exact ⟨.int (-1), .tail _ (.head _), fun _ => .int _⟩
          | 2, h => cases h; exact ⟨.str "1", .tail _ (.tail _ (.head _)), fun _ => .str _⟩
          | 3, h => cases h; exact ⟨.none, .tail _ (.tail _ (.tail _ (.head _))), fun _ => .non⟩
          | 4, h => cases h; exact ⟨.bool false, .tail _ (.tail _ (.tail _ (.tail _ (.head _)))), fun _ => .bl _⟩
          | i + 5, h => simp at h
        have xl : XB p H4 H4 := fun _ _ _ h => h
        have hD4 := x4 _ _ nDp ((Ex.nw nl) _ _ hD3)
        have x34 : XB p H H4 := (XB.mu xb3 (none_back xb3 (pot_none hp3 nl) nl)).tr x4
        refine ⟨(by show 1 ≤ sizeLine; decide), fun l2 nl2 sl2 => ?_⟩
        have e5 : Ex H4 (upd H4 l2 (.lst [v])) := Ex.nw nl2
        refine ⟨D, l2, _, _, rfl, rfl, e5 _ _ hD4, upd_same, (by rw [List.length_map]; exact Nat.le_of_lt (small (by show ns.length + 1 < 1000; omega))), fun l3 nl3 => ?_⟩
        have e6 : Ex (upd H4 l2 (.lst [v])) (upd (upd H4 l2 (.lst [v])) l3 (.lst (ns.map V.int ++ [v]))) := Ex.nw nl3
        refine ⟨l3, _, rfl, .inl ⟨SqL.of upd_same, fun t3 nt3 => ?_⟩⟩
        have e7 := e5.tr (e6.tr (Ex.nw (o := .tup (ns.map V.int ++ [v])) nt3))
        have dt := dz_intsT (p := p) (H := upd (upd (upd H4 l2 (.lst [v])) l3 (.lst (ns.map V.int ++ [v]))) t3 (.tup (ns.map V.int ++ [v]))) ns (dzt _)
        exact k _ _ (x34.tr (Ex.xb e7)) ((hp4.ex e7).mono (by omega)) ⟨.tuple (ns.map PyData.int ++ [t]), .tup upd_same dt.1 dt.2, (bdB_ok (List.all_eq_true.mp (List.all_eq_true.mp bd_way1 ns hmem) t ht)).up (by omega)⟩
      · refine ⟨_, rfl, D, _, rfl, .inl ⟨SqL.of hD3, fun t nt => ?_⟩⟩
        refine k _ _ (XB.mu xb3 (none_back xb3 (pot_none hp3 nt) nt)) ((hp3.ex (Ex.nw nt)).mono (by omega)) ⟨.tuple (ns.map PyData.int), .tup upd_same (dz_ints (p := p) (H := H) ns).1 (dz_ints ns).2, (bdB_ok (List.all_eq_true.mp bd_way2 ns hmem)).up (by omega)⟩
theorem heard_gives {X : Cx} {g : Addr} {q : Str} {k : Nat} (T : Txt X.K X.mg A) (cdv : Value) : GivesS X (k + 4) N_heard "_law_heard" (defScope s_heard) g cdv (defBody s_heard) "_law_call" q (TTh A) := by
  intro f c' s H Q tl act hr hc h
  refine ⟨_, (pss_cons (ps_set (i := 1) sc_heard.nd rfl (Or.inl rfl) pe_non)
      (pss_cons (ps_try_keep (i := 3) rfl rfl sc_heard.nd rfl rfl ⟨rfl, by decide, Or.inl T.m_TapeError⟩ L2.takes0 rfl
      (fun W pn xe tk _ => pss_one (ps_set (i := 2) sc_heard.nd rfl (Or.inl rfl) (act W pn xe _ _ tk)))
      (fun a oe cls d pn hz hf => pss_one (ps_set (i := 1) sc_heard.nd rfl (Or.inl rfl) (pv 3))))
      (pss_cons (ps_if (pt_cmpR op_isN (pv 1) pe_non (nomark _)) (pss_one (ps_ret (pe_ifExp (pt_val (pe_callB call_isi (by rfl) T.g_isinstance (by decide +kernel) (pa_cons (pv 2) (pa_cons (pe_glob (v := .ref A.C_Row) (by rfl) T.m_Row rfl) pa_nil)))) (pe_tup (pa_cons pe_str (pa_cons (pe_prop (pv 2) T.cls_Row T.P_worths (ok_worths T) (hr.mono (by omega)) T.b_Row_worths .nil pass0 rfl) pa_nil))) (pe_tup (pa_cons pe_str (pa_cons pe_non pa_nil)))))) pss_nil)
      (pss_cons (ps_set (i := 4) sc_heard.nd rfl (Or.inl rfl) (pe_lstN (pa_cons (pe_callB (call_isK (K := X.K) rfl) (by rfl) T.g_isinstance (by decide +kernel) (pa_cons (pv 1) (pa_cons (pe_glob (v := .ref A.C_BadSize) (by rfl) T.m_BadSize rfl) pa_nil))) (pa_cons (pe_callB (call_isK (K := X.K) rfl) (by rfl) T.g_isinstance (by decide +kernel) (pa_cons (pv 1) (pa_cons (pe_glob (v := .ref A.C_BadMost) (by rfl) T.m_BadMost rfl) pa_nil))) (pa_cons (pe_callB (call_isK (K := X.K) rfl) (by rfl) T.g_isinstance (by decide +kernel) (pa_cons (pv 1) (pa_cons (pe_glob (v := .ref A.C_BadItems) (by rfl) T.m_BadItems rfl) pa_nil))) pa_nil)))))
      (pss_cons (ps_if (PW.pt (pw_or (pt_cmpR op_ne (pe_bm PySem.F.plainAttrs_list PySem.F.slot_list_count PySem.F.type_list_count mt_countF (pv 4) (pa_cons pe_bl pa_nil)) pe_int (nomark _)) (pw_or1 (pt_not (pt_val (pe_callB (call_isK (K := X.K) rfl) (by rfl) T.g_isinstance (by decide +kernel) (pa_cons (pv 1) (pa_cons (pe_bltn (v := .ty "ValueError") (by rfl) T.g_ValueError (by decide +kernel) rfl) pa_nil)))))))) (pss_one (ps_ret (pe_tup (pa_cons pe_str (pa_cons pe_non pa_nil))))) pss_nil)
      (pss_one (ps_ret (pe_tup (pa_cons (pe_ix ix_list (pe_lstN (pa_cons pe_str (pa_cons pe_str (pa_cons pe_str pa_nil)))) (pe_bm PySem.F.plainAttrs_list PySem.F.slot_list_index PySem.F.type_list_index mt_index (pv 4) (pa_cons pe_bl pa_nil)) (fun _ _ => rfl)) (pa_cons (pe_errK (K := X.K) rfl (pv 1)) pa_nil)))))))))), ?_⟩
  refine ⟨rfl, hc, ?_⟩
  refine h _ _ (fun cls d H1 hE => ?_) (fun v H1 hV => ?_)
  · obtain ⟨C, dd, n, v, rfl, rfl, hd, hC, k⟩ := hE
    have hm : C ∈ [A.C_BadSize, A.C_BadMost, A.C_BadItems, A.C_Fault] := by
      rcases hC with ⟨rfl, _⟩ | ⟨rfl, _⟩ | ⟨rfl, _⟩
      · exact .head _
      · exact .tail _ (.head _)
      · exact .tail _ (.tail _ (.head _))
    have nn_BadSize_BadMost : (A.C_BadSize == A.C_BadMost) = false := by
      have z := T.nd
      simp at z
      refine beq_eq_false_iff_ne.mpr fun y => ?_
      simp [y] at z
    have nn_BadSize_BadItems : (A.C_BadSize == A.C_BadItems) = false := by
      have z := T.nd
      simp at z
      refine beq_eq_false_iff_ne.mpr fun y => ?_
      simp [y] at z
    have nn_BadMost_BadSize : (A.C_BadMost == A.C_BadSize) = false := by
      have z := T.nd
      simp at z
      refine beq_eq_false_iff_ne.mpr fun y => ?_
      simp [y] at z
    have nn_BadMost_BadItems : (A.C_BadMost == A.C_BadItems) = false := by
      have z := T.nd
      simp at z
      refine beq_eq_false_iff_ne.mpr fun y => ?_
      simp [y] at z
    have nn_BadItems_BadSize : (A.C_BadItems == A.C_BadSize) = false := by
      have z := T.nd
      simp at z
      refine beq_eq_false_iff_ne.mpr fun y => ?_
      simp [y] at z
    have nn_BadItems_BadMost : (A.C_BadItems == A.C_BadMost) = false := by
      have z := T.nd
      simp at z
      refine beq_eq_false_iff_ne.mpr fun y => ?_
      simp [y] at z
    refine ⟨true, T.xte C hm, (fun z => Bool.noConfusion z), fun _ => ⟨C, rfl, fun a na => ?_⟩⟩
    refine ⟨_, rfl, ?_⟩
    have x0 : Ex H1 (upd H1 a (ErrV C (some dd) a)) := Ex.nw na
    have ea : ErrIs (upd H1 a (ErrV C (some dd) a)) C a [("value", v)] := ⟨dd, .inl ⟨upd_same, x0 _ _ hd⟩⟩
    obtain ⟨H2, E2⟩ : ∃ z, z = upd H1 a (ErrV C (some dd) a) := ⟨_, rfl⟩
    rw [← E2] at x0 ea
    refine ⟨_, rfl, rfl, _, rfl, HX.if_false rfl ?_⟩
    rw [← E2]
    rcases hC with ⟨rfl, rfl⟩ | ⟨rfl, rfl⟩ | ⟨rfl, rfl⟩
    · have e0 : PySem.W.kitOne X.K (.ref A.C_BadSize) (.ref A.C_BadSize) = some true := by rw [T.kit _ (.head _) _ (.head _)]; simp
      have e1 : PySem.W.kitOne X.K (.ref A.C_BadSize) (.ref A.C_BadMost) = some false := by rw [T.kit _ (.head _) _ (.tail _ (.head _)), nn_BadSize_BadMost]
      have e2 : PySem.W.kitOne X.K (.ref A.C_BadSize) (.ref A.C_BadItems) = some false := by rw [T.kit _ (.head _) _ (.tail _ (.tail _ (.head _))), nn_BadSize_BadItems]
      refine ⟨_, rfl, a, A.C_BadSize, _, _, _, rfl, .inl ⟨_, ea⟩, T.E_BadSize.er, (fun u r => r), e0, ?_⟩
      refine ⟨_, rfl, a, A.C_BadSize, _, _, _, rfl, .inl ⟨_, ea⟩, T.E_BadSize.er, (fun u r => r), e1, ?_⟩
      refine ⟨_, rfl, a, A.C_BadSize, _, _, _, rfl, .inl ⟨_, ea⟩, T.E_BadSize.er, (fun u r => r), e2, ?_⟩
      refine ⟨(by show 3 ≤ sizeLine; decide), fun l nl sl => ?_⟩
      have x1 : Ex H2 (upd H2 l (.lst [.bl true, .bl false, .bl false])) := Ex.nw nl
      have hl : (upd H2 l (.lst [.bl true, .bl false, .bl false])) l = some (.lst [.bl true, .bl false, .bl false]) := upd_same
      obtain ⟨H3, E3⟩ : ∃ z, z = upd H2 l (.lst [.bl true, .bl false, .bl false]) := ⟨_, rfl⟩
      rw [← E3] at x1 hl ⊢
      refine ⟨_, rfl, .inl ⟨rfl, _, SqL.of hl⟩, l, _, _, rfl, rfl, SqL.of hl, rfl, rfl, rfl, _, rfl, HX.if_false (by decide +kernel) ?_⟩
      refine ⟨_, rfl, a, A.C_BadSize, _, _, _, rfl, .inl ⟨_, ea.ex x1⟩, T.E_BadSize.er, (fun u r => r), T.kve _ hm, _, rfl, HX.if_false rfl ?_⟩
      refine ⟨(by show 3 ≤ sizeLine; decide), fun l2 nl2 sl2 => ?_⟩
      have x2 : Ex H3 (upd H3 l2 (.lst [.str "size", .str "most", .str "items"])) := Ex.nw nl2
      refine ⟨_, rfl, .inl ⟨rfl, _, SqL.of (x2 _ _ hl)⟩, l, _, _, 0, _, rfl, rfl, SqL.of (x2 _ _ hl), rfl, rfl, rfl, rfl, (fun m z hmj hz => absurd hmj (Nat.not_lt_zero _)), ?_⟩
      refine ⟨l2, _, _, _, rfl, rfl, SqL.of upd_same, rfl, ?_⟩
      refine ⟨_, rfl, a, A.C_BadSize, _, v, rfl, (ea.ex x1).ex x2, T.E_BadSize.xf, T.E_BadSize.no, (by simp [List.lookup]), ?_⟩
      exact ⟨(by show 2 ≤ sizeLine; decide), fun q nq => k q _ (x0.tr (x1.tr (x2.tr (Ex.nw nq)))) upd_same⟩
    · have e0 : PySem.W.kitOne X.K (.ref A.C_BadMost) (.ref A.C_BadSize) = some false := by rw [T.kit _ (.tail _ (.head _)) _ (.head _), nn_BadMost_BadSize]
      have e1 : PySem.W.kitOne X.K (.ref A.C_BadMost) (.ref A.C_BadMost) = some true := by rw [T.kit _ (.tail _ (.head _)) _ (.tail _ (.head _))]; simp
      have e2 : PySem.W.kitOne X.K (.ref A.C_BadMost) (.ref A.C_BadItems) = some false := by rw [T.kit _ (.tail _ (.head _)) _ (.tail _ (.tail _ (.head _))), nn_BadMost_BadItems]
      refine ⟨_, rfl, a, A.C_BadMost, _, _, _, rfl, .inl ⟨_, ea⟩, T.E_BadMost.er, (fun u r => r), e0, ?_⟩
      refine ⟨_, rfl, a, A.C_BadMost, _, _, _, rfl, .inl ⟨_, ea⟩, T.E_BadMost.er, (fun u r => r), e1, ?_⟩
      refine ⟨_, rfl, a, A.C_BadMost, _, _, _, rfl, .inl ⟨_, ea⟩, T.E_BadMost.er, (fun u r => r), e2, ?_⟩
      refine ⟨(by show 3 ≤ sizeLine; decide), fun l nl sl => ?_⟩
      have x1 : Ex H2 (upd H2 l (.lst [.bl false, .bl true, .bl false])) := Ex.nw nl
      have hl : (upd H2 l (.lst [.bl false, .bl true, .bl false])) l = some (.lst [.bl false, .bl true, .bl false]) := upd_same
      obtain ⟨H3, E3⟩ : ∃ z, z = upd H2 l (.lst [.bl false, .bl true, .bl false]) := ⟨_, rfl⟩
      rw [← E3] at x1 hl ⊢
      refine ⟨_, rfl, .inl ⟨rfl, _, SqL.of hl⟩, l, _, _, rfl, rfl, SqL.of hl, rfl, rfl, rfl, _, rfl, HX.if_false (by decide +kernel) ?_⟩
      refine ⟨_, rfl, a, A.C_BadMost, _, _, _, rfl, .inl ⟨_, ea.ex x1⟩, T.E_BadMost.er, (fun u r => r), T.kve _ hm, _, rfl, HX.if_false rfl ?_⟩
      refine ⟨(by show 3 ≤ sizeLine; decide), fun l2 nl2 sl2 => ?_⟩
      have x2 : Ex H3 (upd H3 l2 (.lst [.str "size", .str "most", .str "items"])) := Ex.nw nl2
      refine ⟨_, rfl, .inl ⟨rfl, _, SqL.of (x2 _ _ hl)⟩, l, _, _, 1, _, rfl, rfl, SqL.of (x2 _ _ hl), rfl, rfl, rfl, rfl, (fun m z hmj hz => by match m, hmj, hz with | 0, _, hz => cases hz; rfl), ?_⟩
      refine ⟨l2, _, _, _, rfl, rfl, SqL.of upd_same, rfl, ?_⟩
      refine ⟨_, rfl, a, A.C_BadMost, _, v, rfl, (ea.ex x1).ex x2, T.E_BadMost.xf, T.E_BadMost.no, (by simp [List.lookup]), ?_⟩
      exact ⟨(by show 2 ≤ sizeLine; decide), fun q nq => k q _ (x0.tr (x1.tr (x2.tr (Ex.nw nq)))) upd_same⟩
    · have e0 : PySem.W.kitOne X.K (.ref A.C_BadItems) (.ref A.C_BadSize) = some false := by rw [T.kit _ (.tail _ (.tail _ (.head _))) _ (.head _), nn_BadItems_BadSize]
      have e1 : PySem.W.kitOne X.K (.ref A.C_BadItems) (.ref A.C_BadMost) = some false := by rw [T.kit _ (.tail _ (.tail _ (.head _))) _ (.tail _ (.head _)), nn_BadItems_BadMost]
      have e2 : PySem.W.kitOne X.K (.ref A.C_BadItems) (.ref A.C_BadItems) = some true := by rw [T.kit _ (.tail _ (.tail _ (.head _))) _ (.tail _ (.tail _ (.head _)))]; simp
      refine ⟨_, rfl, a, A.C_BadItems, _, _, _, rfl, .inl ⟨_, ea⟩, T.E_BadItems.er, (fun u r => r), e0, ?_⟩
      refine ⟨_, rfl, a, A.C_BadItems, _, _, _, rfl, .inl ⟨_, ea⟩, T.E_BadItems.er, (fun u r => r), e1, ?_⟩
      refine ⟨_, rfl, a, A.C_BadItems, _, _, _, rfl, .inl ⟨_, ea⟩, T.E_BadItems.er, (fun u r => r), e2, ?_⟩
      refine ⟨(by show 3 ≤ sizeLine; decide), fun l nl sl => ?_⟩
      have x1 : Ex H2 (upd H2 l (.lst [.bl false, .bl false, .bl true])) := Ex.nw nl
      have hl : (upd H2 l (.lst [.bl false, .bl false, .bl true])) l = some (.lst [.bl false, .bl false, .bl true]) := upd_same
      obtain ⟨H3, E3⟩ : ∃ z, z = upd H2 l (.lst [.bl false, .bl false, .bl true]) := ⟨_, rfl⟩
      rw [← E3] at x1 hl ⊢
      refine ⟨_, rfl, .inl ⟨rfl, _, SqL.of hl⟩, l, _, _, rfl, rfl, SqL.of hl, rfl, rfl, rfl, _, rfl, HX.if_false (by decide +kernel) ?_⟩
      refine ⟨_, rfl, a, A.C_BadItems, _, _, _, rfl, .inl ⟨_, ea.ex x1⟩, T.E_BadItems.er, (fun u r => r), T.kve _ hm, _, rfl, HX.if_false rfl ?_⟩
      refine ⟨(by show 3 ≤ sizeLine; decide), fun l2 nl2 sl2 => ?_⟩
      have x2 : Ex H3 (upd H3 l2 (.lst [.str "size", .str "most", .str "items"])) := Ex.nw nl2
      refine ⟨_, rfl, .inl ⟨rfl, _, SqL.of (x2 _ _ hl)⟩, l, _, _, 2, _, rfl, rfl, SqL.of (x2 _ _ hl), rfl, rfl, rfl, rfl, (fun m z hmj hz => by
        match m, hmj, hz with
        | 0, _, hz => cases hz; rfl
        | 1, _, hz => cases hz; rfl), ?_⟩
      refine ⟨l2, _, _, _, rfl, rfl, SqL.of upd_same, rfl, ?_⟩
      refine ⟨_, rfl, a, A.C_BadItems, _, v, rfl, (ea.ex x1).ex x2, T.E_BadItems.xf, T.E_BadItems.no, (by simp [List.lookup]), ?_⟩
      exact ⟨(by show 2 ≤ sizeLine; decide), fun q nq => k q _ (x0.tr (x1.tr (x2.tr (Ex.nw nq)))) upd_same⟩
  · obtain ⟨p, xs, rfl, num, k⟩ := hV
    refine ⟨_, rfl, rfl, _, rfl, HX.if_true rfl ?_⟩
    refine ⟨_, rfl, _, _, _, _, _, rfl, .own _, ty_row T num, kit_self, _, rfl, iteT ?_⟩
    obtain ⟨dx, l, sz, mo, hi, hl⟩ := id num
    refine ⟨_, rfl, p, dx, _, rfl, hi, p, xs, rfl, num, fun t nt => ⟨(by show 2 ≤ sizeLine; decide), fun q nq => ?_⟩⟩
    exact k q t _ ((Ex.nw nt).tr (Ex.nw nq)) (by rw [upd_ne (ne_of_none upd_same nq)]; exact upd_same) upd_same
end
end K03
set_option Elab.async false
set_option linter.all false
set_option maxRecDepth 100000
set_option maxHeartbeats 4400000
namespace K03
open PySem PySem.Spec PyProof.Rows L2 HX
open PySem.W (Frag)


open LamX
structure Fz (d : PyData) : Prop where
  sh : d.showable = true
  dp : d.depth ≤ 60
  ln : d.shown.length ≤ sizeLine
  ok : PyData.strOk d.shown = true
theorem fz_mk {d : PyData} (sh : d.showable = true) (dp : d.depth ≤ 60) (lv : d.leavesShort 24 = true) (wt : d.weight ≤ 5000) (ok : PyData.strOk d.shown = true) : Fz d := ⟨sh, dp, by
  have q := PyData.shown_le 24 (by decide) d lv
  have e := sizeLine_eq
  have m : (24 + 2) * d.weight ≤ 26 * 5000 := Nat.mul_le_mul_left _ wt
  omega, ok⟩
theorem ok_list2 {a b : Str} (h : PyData.strOk a = true) (k : PyData.strOk b = true) : PyData.strOk (listText [a, b]) = true := by
  show PyData.strOk ((((("[" : Str) ++ (("" : String) : Str)) ++ a) ++ ((", " : String) : Str) ++ b) ++ "]") = true
  exact ok_app (ok_app (ok_app (ok_app (by decide +kernel) h) (by decide +kernel)) k) (by decide +kernel)
theorem fz_two {d1 d2 : PyData} (h1 : Bd 14 d1) (h2 : Bd 14 d2) : Fz (.tuple [d1, d2]) := by
  have a1 := h1.dp; have a2 := h1.wt; have b1 := h2.dp; have b2 := h2.wt
  refine fz_mk (by simp only [PyData.showable, PyData.showableAll, h1.sh, h2.sh, Bool.and_self]) ?_ (by simp only [PyData.leavesShort, PyData.leavesShortAll, h1.lv, h2.lv, Bool.and_self]) ?_ (by show PyData.strOk (tupleText [d1.shown, d2.shown]) = true; exact ok_tup2 h1.ok h2.ok)
  · simp only [PyData.depth, PyData.depthAll]; omega
  · simp only [PyData.weight, PyData.weightAll]; omega
theorem fz_tag {d : PyData} {x : Str} (h : Bd 14 d) (hx : Bd 0 (.str x)) : Fz (.tuple [.str x, d]) := fz_two (hx.up (by omega)) h
theorem ok_tup3 {a b c : Str} (h : PyData.strOk a = true) (k : PyData.strOk b = true) (m : PyData.strOk c = true) : PyData.strOk (tupleText [a, b, c]) = true := by
  show PyData.strOk ((("(" : Str) ++ (a ++ ", " ++ (b ++ ", " ++ c))) ++ ((")" : String) : Str)) = true
  exact ok_app (ok_app (by decide +kernel) (ok_app (ok_app h (by decide +kernel)) (ok_app (ok_app k (by decide +kernel)) m))) (by decide +kernel)
theorem fz_three {d1 d2 d3 : PyData} (h1 : Bd 14 d1) (h2 : Bd 14 d2) (h3 : Bd 14 d3) : Fz (.tuple [d1, d2, d3]) := by
  have a1 := h1.dp; have a2 := h1.wt; have b1 := h2.dp; have b2 := h2.wt; have c1 := h3.dp; have c2 := h3.wt
  refine fz_mk (by simp only [PyData.showable, PyData.showableAll, h1.sh, h2.sh, h3.sh, Bool.and_self]) ?_ (by simp only [PyData.leavesShort, PyData.leavesShortAll, h1.lv, h2.lv, h3.lv, Bool.and_self]) ?_ (by show PyData.strOk (tupleText [d1.shown, d2.shown, d3.shown]) = true; exact ok_tup3 h1.ok h2.ok h3.ok)
  · simp only [PyData.depth, PyData.depthAll]; omega
  · simp only [PyData.weight, PyData.weightAll]; omega
theorem fz_l2 {d1 d2 : PyData} (h1 : Bd 14 d1) (h2 : Bd 14 d2) : Fz (.list [d1, d2]) := by
  have a1 := h1.dp; have a2 := h1.wt; have b1 := h2.dp; have b2 := h2.wt
  refine fz_mk (by simp only [PyData.showable, PyData.showableAll, h1.sh, h2.sh, Bool.and_self]) ?_ (by simp only [PyData.leavesShort, PyData.leavesShortAll, h1.lv, h2.lv, Bool.and_self]) ?_ (by show PyData.strOk (listText [d1.shown, d2.shown]) = true; exact ok_list2 h1.ok h2.ok)
  · simp only [PyData.depth, PyData.depthAll]; omega
  · simp only [PyData.weight, PyData.weightAll]; omega
def toldD (d1 d2 d3 : PyData) : Nat → PyData
  | 0 => .tuple [.str "size", d1]
  | 1 => .tuple [.str "most", d2]
  | 2 => .tuple [.str "items", d3]
  | _ => .tuple [.str "told", d3]
theorem fz_told {d1 d2 d3 : PyData} (h1 : Bd 14 d1) (h2 : Bd 14 d2) (h3 : Bd 14 d3) : ∀ k, Fz (toldD d1 d2 d3 k)
  | 0 => fz_tag h1 (.of (by decide +kernel))
  | 1 => fz_tag h2 (.of (by decide +kernel))
  | 2 => fz_tag h3 (.of (by decide +kernel))
  | n + 3 => fz_tag h3 (.of (by decide +kernel))
theorem mem2 {p : Addr} {H : Hp} {v w : V} {d e : PyData} (h : Dz p H v d) (k : Dz p H w e) : ∀ q ∈ ([v, w] : List V).zip [d, e], Dz p H q.1 q.2 := fun q hq => by
  rcases List.mem_cons.mp hq with h1 | h1
  · rw [h1]; exact h
  · rw [List.mem_singleton.mp h1]; exact k
theorem mem3 {p : Addr} {H : Hp} {v w x : V} {d e f : PyData} (h : Dz p H v d) (k : Dz p H w e) (m : Dz p H x f) : ∀ q ∈ ([v, w, x] : List V).zip [d, e, f], Dz p H q.1 q.2 := fun q hq => by
  rcases List.mem_cons.mp hq with h1 | h1
  · rw [h1]; exact h
  · exact mem2 k m q h1
theorem dz_two {p t : Addr} {H : Hp} {v w : V} {d e : PyData} (ht : H t = some (.tup [v, w])) (h : Dz p H v d) (k : Dz p H w e) : Dz p H (.ref t) (.tuple [d, e]) := dz_t ht rfl (mem2 h k)
theorem dz_three {p t : Addr} {H : Hp} {v w x : V} {d e f : PyData} (ht : H t = some (.tup [v, w, x])) (h : Dz p H v d) (k : Dz p H w e) (m : Dz p H x f) : Dz p H (.ref t) (.tuple [d, e, f]) := dz_t ht rfl (mem3 h k m)
theorem kk_three {d1 d2 d3 : PyData} {n : Nat} (e : kk d1 d2 d3 = n) (h : 3 ≤ n) : ∃ is : List Int, d3 = .tuple (is.map PyData.int) ∧ itV d3 = is.map V.int := by
  subst e
  unfold kk at h
  split at h
  · split at h
    · split at h
      · rename_i h3; exact itemsOk_tup h3
      · omega
    · omega
  · omega
theorem dz_told {p q : Addr} {H : Hp} {v1 v2 v3 : V} {d1 d2 d3 : PyData} {n : Nat} (e : kk d1 d2 d3 = n) (h : Dz p H v1 d1) (k : Dz p H v2 d2) (m : Dz p H v3 d3) (ht : Told H q v1 v2 v3 d3 n) : Dz p H (.ref q) (toldD d1 d2 d3 n) := by
  match n, ht, e with
  | 0, ht, _ => exact dz_two ht (.str _) h
  | 1, ht, _ => exact dz_two ht (.str _) k
  | 2, ht, _ => exact dz_two ht (.str _) m
  | n + 3, ⟨t, h1, h2⟩, e =>
    obtain ⟨is, e3, e4⟩ := kk_three e (by omega)
    rw [e4] at h1
    subst e3
    exact dz_two h2 (.str _) (.tup h1 (dz_ints (p := p) (H := H) is).1 (dz_ints is).2)
theorem PotAt.en {H H' : Hp} {p : Addr} {n : Int} (h : PotAt H p n) (e : ExtN H H') : PotAt H' p n := let ⟨a, b, c, h0, hr⟩ := h; ⟨a, b, c, e _ _ h0 (fun _ z => by cases z), hr⟩
theorem Told.ex {H H' : Hp} {q : Addr} {v w x : V} {d : PyData} {n : Nat} (h : Told H q v w x d n) (e : Ex H H') : Told H' q v w x d n := by
  match n, h with
  | 0, h => exact e _ _ h
  | 1, h => exact e _ _ h
  | 2, h => exact e _ _ h
  | n + 3, ⟨l, b, c⟩ => exact ⟨l, e _ _ b, e _ _ c⟩
theorem Told.en {H H' : Hp} {q : Addr} {v w x : V} {d : PyData} {n : Nat} (h : Told H q v w x d n) (e : ExtN H H') : Told H' q v w x d n := by
  match n, h with
  | 0, h => exact e _ _ h (fun _ z => by cases z)
  | 1, h => exact e _ _ h (fun _ z => by cases z)
  | 2, h => exact e _ _ h (fun _ z => by cases z)
  | n + 3, ⟨l, b, c⟩ => exact ⟨l, e _ _ b (fun _ z => by cases z), e _ _ c (fun _ z => by cases z)⟩
theorem Told.xb {H H' : Hp} {q l : Addr} {v w x u : V} {d : PyData} {n : Nat} (h : Told H q v w x d n) (hl : H l = some (.lst [u])) (e : XB l H H') : Told H' q v w x d n := by
  match n, h with
  | 0, h => exact e _ _ (ne_of h hl (by intro y; cases y)) h
  | 1, h => exact e _ _ (ne_of h hl (by intro y; cases y)) h
  | 2, h => exact e _ _ (ne_of h hl (by intro y; cases y)) h
  | n + 3, ⟨l', b, c⟩ => exact ⟨l', e _ _ (ne_of b hl (by intro y; cases y)) b, e _ _ (ne_of c hl (by intro y; cases y)) c⟩
theorem TTh.mono {A : Ad} {tl : XK → Hp → VK → Prop} {H : Hp} {Q Q' : VK} (h : TTh A tl H Q) (m : ∀ v H', Q v H' → Q' v H') : TTh A tl H Q' := fun E Qv h1 h2 =>
  h E Qv (fun cls d H' ⟨C, dd, n, v, a, b, c, e, k⟩ => h1 cls d H' ⟨C, dd, n, v, a, b, c, e, fun q H'' x y => m _ _ (k q H'' x y)⟩) fun v H' ⟨p, xs, a, b, k⟩ => h2 v H' ⟨p, xs, a, b, fun q l H'' x y z => m _ _ (k q l H'' x y z)⟩
theorem tabs_pot {T : List (Addr × Str)} {p : Addr} {H H' : Hp} {n : Int} (t : Tabs T H) (hp : PotAt H p n) (e : XB p H H') : Tabs T H' := let ⟨_, _, _, z, _⟩ := hp; tabs_xb t z e
theorem any_ints {p : Addr} {H : Hp} (l : List Int) (h : (l.all fun i => bdB (.int i)) = true) : ∀ v ∈ l.map V.int, AnyV p H 0 v := fun v hv => by
  obtain ⟨i, hi, rfl⟩ := List.mem_map.mp hv
  exact ⟨_, .int _, bdB_ok (List.all_eq_true.mp h i hi)⟩
theorem both {b : Bool} {R : V → Hp → Prop} {Pq : V → Hp → Prop} {A B : Prop} (hA : (∀ v G, R v G → Pq v G) → A) (hB : (∀ v G, R v G → Pq v G) → B) (h : ∀ v G, R v G → Pq v G) : if b = true then A else B := by
  cases b
  · exact hB h
  · exact hA h
abbrev lamQ (A : Ad) : Str := (envOfC ("_law_right" : Str) (defScope s_right) 0 A.f_right (.ref A.c_right)).qual ++ "<lambda>"
abbrev Tb (A : Ad) : List (Addr × Str) := [(A.P_right, lamQ A)]
def spRight (A : Ad) : Sp := fun vs H Q _ => ∃ (p : Addr) (N : Int), vs = [.ref p] ∧ PotAt H p N ∧ N ≤ 80000 ∧ Tabs (Tb A) H ∧ ∀ H', XN p H H' → Tabs (Tb A) H' → PotAt H' p (N + 2000) → Q (.bl true) H'
def spLaw (K : Frag) (A : Ad) : Sp := fun vs H Q _ => ∃ (a : Addr) (ns : List Int), vs = [.ref a] ∧ SqL K H a (ns.map V.int) ∧ ns.length ≤ 63 ∧ Tabs (Tb A) H ∧ ∀ H', Q (.bl true) H'

section
variable {P : Program} {w : World} {K : Frag} {mg : Str → Option Value} {base : Heap} {A : Ad}

theorem ok_right (T : Txt K mg A) (TB : TabB base mg A.c_right A.P_right) : FnG P w K mg base CX0 7 A.f_right A.d_right ["_law_pot_here"] (spRight A) := by
  refine okGT T.F_right sc_right T.dc (fun vs H Q E h => ?_) (fun A0 outer s H vs Q E hgd0 hr h => ?_)
  · obtain ⟨_, _, rfl, _⟩ := h
    rfl
  · have hu := hu_of hr
    have hgd : (A0.deeper (envOfC "_law_right" (defScope s_right) s.heap.objs.size A.f_right (.ref A.c_right))).guards = some [] := hgd0
    obtain ⟨p, N, rfl, hp, hN, hT, k⟩ := h
    refine ⟨_, (pss_cons (ps_for PassesOwn.never rfl (pi_range1 rfl T.g_range (pa_cons pe_int pa_nil)) (pg_name (i := 1) sc_right.nd rfl (Or.inl rfl)) (pss_cons (ps_asg (pe_tup (pa_cons (pe_call (ok_drawn T) (hr.mono (by decide)) (by rfl) T.m_drawn T.F_drawn.kp T.b_drawn .nil pass0 (pa_cons (pv 0) (pa_cons (pe_lstN (pa_cons pe_int (pa_cons pe_int (pa_cons pe_int (pa_cons pe_int pa_nil))))) pa_nil))) (pa_cons (pe_call (ok_drawn T) (hr.mono (by decide)) (by rfl) T.m_drawn T.F_drawn.kp T.b_drawn .nil pass0 (pa_cons (pv 0) (pa_cons (pe_lstN (pa_cons pe_int (pa_cons pe_int (pa_cons pe_int pa_nil)))) pa_nil))) pa_nil))) (pg_tup rfl (pgs_cons (pg_name (i := 7) sc_right.nd rfl (Or.inr rfl)) (pgs_cons (pg_name (i := 6) sc_right.nd rfl (Or.inr rfl)) pgs_nil))))
      (pss_cons (ps_set (i := 8) sc_right.nd rfl (Or.inr rfl) (pe_ifExp (pt_cmpR op_gt (pe_call (ok_take T) (hr.mono (by decide)) (by rfl) T.m_take T.F_take.kp T.b_take .nil pass0 (pa_cons (pv 0) (pa_cons pe_int pa_nil))) pe_int (nomark _)) (pe_call (ok_items T) (hr.mono (by decide)) (by rfl) T.m_items T.F_items.kp T.b_items .nil pass0 (pa_cons (pv 0) pa_nil)) (pe_call (ok_any T) (hr.mono (by decide)) (by rfl) T.m_any T.F_any.kp T.b_any .nil pass0 (pa_cons (pv 0) pa_nil))))
      (pss_cons (ps_par (i := 2) (j := 3) (by rfl) sc_right.nd rfl rfl (by decide) rfl rfl (pa_cons (pe_callB (call_reprZ (by exact hgd) (by exact hr.units)) (by rfl) T.g_repr (by decide +kernel) (pa_cons (pe_tup (pa_cons (pv 7) (pa_cons (pv 6) (pa_cons (pv 8) pa_nil)))) pa_nil)) (pa_cons (pe_callB (call_reprZ (by exact hgd) (by exact hr.units)) (by rfl) T.g_repr (by decide +kernel) (pa_cons (pe_call (ok_due T) (hr.mono (by decide)) (by rfl) T.m_due T.F_due.kp T.b_due .nil pass0 (pa_cons (pv 7) (pa_cons (pv 6) (pa_cons (pv 8) pa_nil)))) pa_nil)) pa_nil)) (by rfl))
      (pss_cons (ps_set (i := 4) sc_right.nd rfl (Or.inl rfl) (pe_lstN (pa_cons (pe_lamS (T := Tb A) (TT := TTh A) (K := K) (k := 4) (Ng := N_heard) rfl T.F_heard T.b_heard (by rfl) T.m_heard sc_heard rfl (Or.inl rfl) (fun cdv => heard_gives (k := 1) T cdv) TB rfl (List.mem_singleton.mpr rfl) (fun p hp _ => by have e := List.mem_singleton.mp hp; subst e; rfl) (hr.mono (by decide)) (lamS_by (sc := defScope s_right) (by decide +kernel)) rfl (fun _ _ _ _ _ => rfl)
        (fun A1 outer1 s1 H1 E1 f1 c1 hr1 => (pe_make T.mk_Row (ok_Row_init T) (hr1.mono (by decide)) (by rfl) T.m_Row T.b_Row_init .nil (passes_call (takes_of rfl rfl rfl rfl) (fun _ _ _ _ h => h)) (pa_cons (pv 7) (pa_cons (pv 6) (pa_cons (pv 8) pa_nil)))))) pa_nil)))
      (pss_cons (ps_expr (pe_bm PySem.F.plainAttrs_list PySem.F.slot_list_append PySem.F.type_list_append mt_append (pv 4) (pa_cons (pe_lamS (T := Tb A) (TT := TTh A) (K := K) (k := 4) (Ng := N_heard) rfl T.F_heard T.b_heard (by rfl) T.m_heard sc_heard rfl (Or.inl rfl) (fun cdv => heard_gives (k := 1) T cdv) TB rfl (List.mem_singleton.mpr rfl) (fun p hp _ => by have e := List.mem_singleton.mp hp; subst e; rfl) (hr.mono (by decide)) (lamS_by (sc := defScope s_right) (by decide +kernel)) rfl (fun _ _ _ _ _ => rfl)
        (fun A1 outer1 s1 H1 E1 f1 c1 hr1 => (pe_makeK0 T.mk_Row (ok_Row_init T) (hr1.mono (by decide)) (by rfl) T.m_Row T.kb_Row (passes_call (takes_of rfl rfl rfl rfl) (fun _ _ _ _ h => h)) (pk_cons (pv 8) (pk_cons (pv 6) (pk_cons (pv 7) pk_nil)))))) pa_nil)))
      (pss_cons (ps_if (PW.pt (pw_or (pt_cmpR (op_neD hr.units) (pe_lc (own := [("_law_one", 9)]) (g := gName 9) (tt := tYes) rfl sc_right.nd (pi_list (pv 4)) (blkOk_by (N := N_right) (sc := defScope s_right) (by decide +kernel)) (fun _ _ _ _ _ => pg_name (i := 9) sc_right.nd rfl (Or.inl rfl)) (fun _ _ _ _ _ => pts_nil) (fun _ _ _ _ _ => (pe_callB (call_reprZ (by exact hgd) (by exact hr.units)) (by rfl) T.g_repr (by decide +kernel) (pa_cons (pv 9) pa_nil)))) (pe_lstN (pa_cons (pv 3) (pa_cons (pv 3) pa_nil))) (nomark _)) (pw_or1 (pt_cmpR op_ne (pe_callB (call_reprZ (by exact hgd) (by exact hr.units)) (by rfl) T.g_repr (by decide +kernel) (pa_cons (pe_tup (pa_cons (pv 7) (pa_cons (pv 6) (pa_cons (pv 8) pa_nil)))) pa_nil)) (pv 2) (nomark _))))) (pss_one (ps_ret pe_bl)) pss_nil)
      (pss_cons (ps_set (i := 5) sc_right.nd rfl (Or.inl rfl) (pe_mkE T.E_Fault (ok_Fault_init T) (hr.mono (by decide)) (by rfl) (pv 8)))
      (pss_one (ps_if (PW.pt (pw_or (pt_cmpR op_ne (pe_callB (call_reprZ (by exact hgd) (by exact hr.units)) (by rfl) T.g_repr (by decide +kernel) (pa_cons (pe_lstN (pa_cons (pe_errK (K := K) rfl (pv 5)) (pa_cons (pe_errK (K := K) rfl (pe_mkEK T.E_Fault (ok_Fault_init T) (hr.mono (by decide)) (by rfl) (pv 6))) pa_nil))) pa_nil)) (pe_callB (call_reprZ (by exact hgd) (by exact hr.units)) (by rfl) T.g_repr (by decide +kernel) (pa_cons (pe_lstN (pa_cons (pv 8) (pa_cons (pv 6) pa_nil))) pa_nil)) (nomark _)) (pw_or1 (pt_not (pt_val (pe_callB (call_isK (K := K) rfl) (by rfl) T.g_isinstance (by decide +kernel) (pa_cons (pv 5) (pa_cons (pe_glob (v := .ref A.C_TapeError) (by rfl) T.m_TapeError rfl) pa_nil)))))))) (pss_one (ps_ret pe_bl)) pss_nil))))))))))
      (pss_one (ps_ret pe_bl))), ?_⟩
    refine ⟨20, rfl, by decide, by decide, for_range (lo := 0) (n := 20) (fun i σ H' => (∃ u1 u2 u3 u4 u5 u6 u7 u8 u9, σ = [some (.ref p), u1, u2, u3, u4, u5, u6, u7, u8, u9]) ∧ XN p H H' ∧ Tabs (Tb A) H' ∧ PotAt H' p (N + 80 * i)) ⟨⟨_, _, _, _, _, _, _, _, _, rfl⟩, (fun _ _ _ _ h => h), hT, hp.mono (by omega)⟩ ?_ ?_⟩
    · rintro i σ H1 hi ⟨⟨u1, u2, u3, u4, u5, u6, u7, u8, u9, rfl⟩, xn, t1, hp1⟩
      refine ⟨_, rfl, (by show 4 ≤ sizeLine; decide), fun l1 nl1 sl1 => ?_⟩
      refine ⟨p, l1, _, N + 80 * i, rfl, hp1.ex (Ex.nw nl1), SqL.of upd_same, pot_none hp1 nl1, (by decide), (by decide), any_ints [2, 3, 4, 4] (by decide +kernel), by omega, fun v1 H2 x2 hp2 a1 => ?_⟩
      have y2 : XB p H1 H2 := (Ex.xb (Ex.nw nl1)).tr x2
      refine ⟨_, rfl, (by show 3 ≤ sizeLine; decide), fun l2 nl2 sl2 => ?_⟩
      refine ⟨p, l2, _, _, rfl, hp2.ex (Ex.nw nl2), SqL.of upd_same, pot_none hp2 nl2, (by decide), (by decide), any_ints [1, 2, 2] (by decide +kernel), by omega, fun v2 H3 x3 hp3 a2 => ?_⟩
      have y3 : XB p H2 H3 := (Ex.xb (Ex.nw nl2)).tr x3
      refine ⟨(by show 2 ≤ sizeLine; decide), fun t nt => ⟨t, _, rfl, SqT.of upd_same, rfl, _, _, rfl, _, _, rfl, rfl, ?_⟩⟩
      dsimp only
      obtain ⟨G0, EG0⟩ : ∃ z, z = upd H3 t (.tup [v1, v2]) := ⟨_, rfl⟩
      have e0 : Ex H3 G0 := by rw [EG0]; exact Ex.nw nt
      rw [← EG0]
      have b1 := (a1.pot hp2 y3).ex e0
      have b2 := a2.ex e0
      have pG0 := hp3.ex e0
      have tG0 : Tabs (Tb A) G0 := (tabs_pot (tabs_pot t1 hp1 y2) hp2 y3).ext e0
      have xG0 : XN p H G0 := xn.tr (y2.xn.tr (y3.xn.tr (Ex.xb e0).xn))
      clear EG0 e0 x2 x3 y2 y3 nt nl1 nl2 sl1 sl2 t1 xn hp1 hp2 hp3 a1 a2
      refine ⟨_, rfl, p, 6, _, rfl, pG0, by decide, by decide, by omega, fun w4 G1 w40 w41 x4 hp4 => ⟨_, _, rfl, rfl, _, rfl, ?_⟩⟩
      refine both (R := fun v G' => XB p G1 G' ∧ PotAt G' p (N + 80 * i + 70) ∧ AnyV p G' 14 v) (fun k' => ⟨_, rfl, p, _, rfl, hp4, by omega, fun v G2 x5 hp5 a3 => k' v G2 ⟨x5, hp5.mono (by omega), a3⟩⟩) (fun k' => ⟨_, rfl, p, _, rfl, hp4, by omega, fun v G2 x5 hp5 a3 => k' v G2 ⟨x5, hp5.mono (by omega), a3⟩⟩) ?_
      rintro v3 G ⟨x5, pG, d3, z3, b3⟩
      obtain ⟨d1, z1, b1⟩ := (b1.pot pG0 x4).pot hp4 x5
      obtain ⟨d2, z2, b2⟩ := (b2.pot pG0 x4).pot hp4 x5
      have tG : Tabs (Tb A) G := tabs_pot (tabs_pot tG0 pG0 x4) hp4 x5
      have xG : XN p H G := xG0.tr (x4.xn.tr x5.xn)
      clear x4 x5 pG0 hp4 tG0 xG0 w40 w41
      have f2 := fz_three b1 b2 b3
      have ft := fz_told b1 b2 b3 (kk d1 d2 d3)
      refine ⟨_, rfl, _, rfl, _, rfl, (by show 3 ≤ sizeLine; decide), fun t2 nt2 => ?_⟩
      have e2 : Ex G (upd G t2 (.tup [v1, v2, v3])) := Ex.nw nt2
      obtain ⟨G2, EG2⟩ : ∃ z, z = upd G t2 (.tup [v1, v2, v3]) := ⟨_, rfl⟩
      have h2 : G2 t2 = some (.tup [v1, v2, v3]) := by rw [EG2]; exact upd_same
      rw [← EG2] at e2 ⊢
      refine ⟨_, _, p, rfl, dz_three h2 (z1.ex e2) (z2.ex e2) (z3.ex e2), f2.sh, f2.dp, f2.ln, ?_⟩
      refine ⟨_, rfl, _, rfl, _, rfl, p, v1, v2, v3, d1, d2, d3, rfl, z1.ex e2, z2.ex e2, z3.ex e2, fun q3 G3 e3 td3 => ?_⟩
      have e23 := e2.tr e3
      refine ⟨_, _, p, rfl, dz_told rfl (z1.ex e23) (z2.ex e23) (z3.ex e23) td3, ft.sh, ft.dp, ft.ln, _, _, rfl, ?_⟩
      refine ⟨tG.ext e23, fun G4 en4 t4 => TTh.mono (Q := fun v H9 => ∃ q, v = .ref q ∧ Ex G4 H9 ∧ Told H9 q v1 v2 v3 d3 (kk d1 d2 d3)) ?_ ?_⟩
      · have z1h := (z1.ex e23).en en4
        have z2h := (z2.ex e23).en en4
        have z3h := (z3.ex e23).en en4
        intro Eh Qh hE hQ
        refine ⟨_, rfl, _, rfl, _, rfl, fun x dx nx ndx nxd => ?_⟩
        obtain ⟨HM, EM⟩ : ∃ z, z = upd (upd G4 dx (.own x)) x (.ins A.C_Row dx []) := ⟨_, rfl⟩
        have eM : Ex G4 HM := by rw [EM]; exact fun c o e => by rw [upd_ne (ne_of_none e nx), upd_ne (ne_of_none e ndx)]; exact e
        refine ⟨x, dx, p, v1, v2, v3, d1, d2, d3, rfl, upd_same, ?_, ?_, ?_, fun h0 => ?_, fun h0 => ?_, fun h0 => ?_, fun h0 HN oN rN => ⟨rfl, ?_⟩⟩
        · rw [← EM]; exact z1h.ex eM
        · rw [← EM]; exact z2h.ex eM
        · rw [← EM]; exact z3h.ex eM
        · rw [← EM]
          exact fun d H8 e8 hd => hE _ _ _ ⟨A.C_BadSize, d, "size", v1, rfl, rfl, hd, .inl ⟨rfl, rfl⟩, fun q H9 e9 hq => ⟨q, rfl, eM.tr (e8.tr e9), by rw [h0]; exact hq⟩⟩
        · rw [← EM]
          exact fun d H8 e8 hd => hE _ _ _ ⟨A.C_BadMost, d, "most", v2, rfl, rfl, hd, .inr (.inl ⟨rfl, rfl⟩), fun q H9 e9 hq => ⟨q, rfl, eM.tr (e8.tr e9), by rw [h0]; exact hq⟩⟩
        · rw [← EM]
          exact fun d H8 e8 hd => hE _ _ _ ⟨A.C_BadItems, d, "items", v3, rfl, rfl, hd, .inr (.inr ⟨rfl, rfl⟩), fun q H9 e9 hq => ⟨q, rfl, eM.tr (e8.tr e9), by rw [h0]; exact hq⟩⟩
        · rw [← EM] at oN
          have eN : Ex G4 HN := fun c o e => oN c o (ne_of_none e nx) (eM _ _ e)
          refine hQ _ _ ⟨x, itV d3, rfl, rN, fun q t H9 e9 ht hq => ⟨q, rfl, eN.tr e9, ?_⟩⟩
          rw [h0]
          exact ⟨t, ht, hq⟩
      rintro _ G5 ⟨q5, rfl, e5, td5⟩
      refine ⟨(by show 1 ≤ sizeLine; decide), fun l nl sl => ?_⟩
      have e6 : Ex G5 (upd G5 l (.lst [.ref q5])) := Ex.nw nl
      obtain ⟨G6, EG6⟩ : ∃ z, z = upd G5 l (.lst [.ref q5]) := ⟨_, rfl⟩
      have h6 : G6 l = some (.lst [.ref q5]) := by rw [EG6]; exact upd_same
      rw [← EG6] at e6 ⊢
      have e46 := e5.tr e6
      refine ⟨_, rfl, .inl ⟨rfl, _, SqL.of h6⟩, ?_⟩
      refine ⟨t4.ext e46, fun G7 en7 t7 => TTh.mono (Q := fun v H9 => ∃ q, v = .ref q ∧ Ex G7 H9 ∧ Told H9 q v1 v2 v3 d3 (kk d1 d2 d3)) ?_ ?_⟩
      · have z1h := (((z1.ex e23).en en4).ex e46).en en7
        have z2h := (((z2.ex e23).en en4).ex e46).en en7
        have z3h := (((z3.ex e23).en en4).ex e46).en en7
        intro Eh Qh hE hQ
        refine ⟨_, rfl, _, rfl, _, rfl, rfl, rfl, fun x dx nx ndx nxd => ?_⟩
        obtain ⟨HM, EM⟩ : ∃ z, z = upd (upd G7 dx (.own x)) x (.ins A.C_Row dx []) := ⟨_, rfl⟩
        have eM : Ex G7 HM := by rw [EM]; exact fun c o e => by rw [upd_ne (ne_of_none e nx), upd_ne (ne_of_none e ndx)]; exact e
        refine ⟨x, dx, p, v1, v2, v3, d1, d2, d3, rfl, upd_same, ?_, ?_, ?_, fun h0 => ?_, fun h0 => ?_, fun h0 => ?_, fun h0 HN oN rN => ⟨rfl, ?_⟩⟩
        · rw [← EM]; exact z1h.ex eM
        · rw [← EM]; exact z2h.ex eM
        · rw [← EM]; exact z3h.ex eM
        · rw [← EM]
          exact fun d H8 e8 hd => hE _ _ _ ⟨A.C_BadSize, d, "size", v1, rfl, rfl, hd, .inl ⟨rfl, rfl⟩, fun q H9 e9 hq => ⟨q, rfl, eM.tr (e8.tr e9), by rw [h0]; exact hq⟩⟩
        · rw [← EM]
          exact fun d H8 e8 hd => hE _ _ _ ⟨A.C_BadMost, d, "most", v2, rfl, rfl, hd, .inr (.inl ⟨rfl, rfl⟩), fun q H9 e9 hq => ⟨q, rfl, eM.tr (e8.tr e9), by rw [h0]; exact hq⟩⟩
        · rw [← EM]
          exact fun d H8 e8 hd => hE _ _ _ ⟨A.C_BadItems, d, "items", v3, rfl, rfl, hd, .inr (.inr ⟨rfl, rfl⟩), fun q H9 e9 hq => ⟨q, rfl, eM.tr (e8.tr e9), by rw [h0]; exact hq⟩⟩
        · rw [← EM] at oN
          have eN : Ex G7 HN := fun c o e => oN c o (ne_of_none e nx) (eM _ _ e)
          refine hQ _ _ ⟨x, itV d3, rfl, rN, fun q t H9 e9 ht hq => ⟨q, rfl, eN.tr e9, ?_⟩⟩
          rw [h0]
          exact ⟨t, ht, hq⟩
      rintro _ G8 ⟨q8, rfl, e8, td8⟩
      have h8 : G8 l = some (.lst [.ref q5]) := e8 _ _ (en7 _ _ h6 (fun _ z => by cases z))
      refine ⟨l, _, _, rfl, rfl, h8, (by show 1 < sizeLine; decide), ?_⟩
      obtain ⟨G9, EG9⟩ : ∃ z, z = upd G8 l (.lst ([.ref q5] ++ [.ref q8])) := ⟨_, rfl⟩
      have h9 : G9 l = some (.lst [.ref q5, .ref q8]) := by rw [EG9]; exact upd_same
      rw [← EG9]
      have x9 : XB l G8 G9 := by rw [EG9]; exact XB.wr
      have put : ∀ {a : Addr} {o : HO} {Hs : Hp}, (∀ ps, o ≠ .tbl ps) → Hs a = some o → ExtN Hs G5 → G9 a = some o := fun {a o Hs} nt ha en => by
        have h5 := en _ _ ha nt
        have na : a ≠ l := ne_of_none h5 nl
        exact x9 _ _ na (e8 _ _ (en7 _ _ (e6 _ _ h5) nt))
      have en9 : ExtN G G9 := fun a o ha nt => put nt ha ((ExtN.of e23).trans (en4.trans (ExtN.of e5)))
      have en59 : ExtN G5 G9 := fun a o ha nt => put nt ha (ExtN.refl _)
      have td5' : Told G9 q5 v1 v2 v3 d3 (kk d1 d2 d3) := td5.en en59
      have td8' : Told G9 q8 v1 v2 v3 d3 (kk d1 d2 d3) := td8.xb h8 x9
      have pG9 := pG.en en9
      have z19 := z1.en en9
      have z29 := z2.en en9
      have z39 := z3.en en9
      have t9 : Tabs (Tb A) G9 := tabs_xb (t7.ext e8) h8 x9
      clear en59 put td5 td8 en7 e8 e6 e5 en4 t4 t7 e23 e46 td3 e3 e2 h6 h8 x9 nl sl h2
      have cas : ∀ (j : Nat) (y : V), ([V.ref q5, V.ref q8] : List V)[j]? = some y → ∃ q, y = .ref q ∧ Told G9 q v1 v2 v3 d3 (kk d1 d2 d3) := fun j y hy => by
        match j, hy with
        | 0, hy => cases hy; exact ⟨q5, rfl, td5'⟩
        | 1, hy => cases hy; exact ⟨q8, rfl, td8'⟩
        | j + 2, hy => simp at hy
      have et : ∃ S, S = (toldD d1 d2 d3 (kk d1 d2 d3)).shown := ⟨_, rfl⟩
      obtain ⟨S, ES⟩ := et
      refine ⟨_, rfl, l, rfl, ⟨_, SqL.of h9⟩, fun D nD => lc_list (xs := [V.ref q5, V.ref q8]) (fun j H' => Ex G9 H' ∧ H' D = some (.lst (List.replicate j (V.str S)))) ⟨Ex.nw nD, upd_same⟩ (fun i H' _ h' => SqL.of (h'.1 _ _ h9)) ?_ ?_⟩
      · rintro j y H5 hy ⟨e5, hD⟩
        obtain ⟨q, rfl, td⟩ := cas j y hy
        have hj : j < 2 := (List.getElem?_eq_some_iff.mp hy).1
        refine ⟨rfl, _, rfl, _, _, p, rfl, dz_told rfl (z19.ex e5) (z29.ex e5) (z39.ex e5) (td.ex e5), ft.sh, ft.dp, ft.ln, ?_⟩
        refine ⟨_, hD, small (by rw [List.length_replicate]; omega), Ex.mu e5 nD, ?_⟩
        rw [← ES, rep_snoc]; exact upd_same
      rintro H5 ⟨e5, hD⟩
      rw [← ES]
      have oS : PyData.strOk S = true := by rw [ES]; exact ft.ok
      refine ⟨_, rfl, _, rfl, (by show 2 ≤ sizeLine; decide), fun lb nlb slb => ?_⟩
      have e6 : Ex H5 (upd H5 lb (.lst [V.str S, V.str S])) := Ex.nw nlb
      refine ⟨.list (List.replicate 2 (.str S)), .list (List.replicate 2 (.str S)), .lst (SqL.of (e6 _ _ hD)) (dp_rep _ 2), .lst (SqL.of upd_same) (dp_rep _ 2), shaped_rep _ oS 2, shaped_rep _ oS 2, _, rfl, HX.if_false (by rw [eqv_rep _ oS]; rfl) ?_⟩
      refine ⟨_, rfl, _, rfl, _, rfl, (by show 3 ≤ sizeLine; decide), fun t4 nt4 => ?_⟩
      have e7 : Ex (upd H5 lb (.lst [V.str S, V.str S])) (upd (upd H5 lb (.lst [V.str S, V.str S])) t4 (.tup [v1, v2, v3])) := Ex.nw nt4
      have ee := e5.tr (e6.tr e7)
      refine ⟨_, _, p, rfl, dz_three upd_same (z19.ex ee) (z29.ex ee) (z39.ex ee), f2.sh, f2.dp, f2.ln, _, rfl, rfl, _, rfl, HX.if_false q_neb ?_⟩
      obtain ⟨J, EJ⟩ : ∃ z, z = upd (upd H5 lb (.lst [V.str S, V.str S])) t4 (.tup [v1, v2, v3]) := ⟨_, rfl⟩
      rw [← EJ] at ee ⊢
      have y1 := z19.ex ee
      have y2 := z29.ex ee
      have y3 := z39.ex ee
      refine ⟨_, rfl, fun a6 J1 na6 x6 r6 => ?_⟩
      refine ⟨_, rfl, a6, A.C_Fault, _, v3, rfl, r6, T.E_Fault.xf, T.E_Fault.no, (by simp [List.lookup]), ?_⟩
      refine ⟨_, rfl, fun a7 J2 na7 x7 r7 => ?_⟩
      refine ⟨a7, A.C_Fault, _, v2, rfl, r7, T.E_Fault.xf, T.E_Fault.no, (by simp [List.lookup]), (by show 2 ≤ sizeLine; decide), fun l8 nl8 sl8 => ?_⟩
      have x8 : Ex J2 (upd J2 l8 (.lst [v3, v2])) := Ex.nw nl8
      have fl := fz_l2 b3 b2
      have pJ2 := ((pG9.ex ee).ex x6).ex x7
      have w1 := ((y3.ex x6).ex x7).ex x8
      have w2 := ((y2.ex x6).ex x7).ex x8
      refine ⟨_, _, p, rfl, dz_l upd_same sl8 (pot_none pJ2 nl8) rfl (mem2 w1 w2), fl.sh, fl.dp, fl.ln, ?_⟩
      refine ⟨_, rfl, _, rfl, (by show 2 ≤ sizeLine; decide), fun l9 nl9 sl9 => ?_⟩
      have x9 : Ex (upd J2 l8 (.lst [v3, v2])) (upd (upd J2 l8 (.lst [v3, v2])) l9 (.lst [v3, v2])) := Ex.nw nl9
      refine ⟨_, _, p, rfl, dz_l upd_same sl9 (pot_none (pJ2.ex x8) nl9) rfl (mem2 (w1.ex x9) (w2.ex x9)), fl.sh, fl.dp, fl.ln, rfl, _, rfl, HX.if_false q_neb ?_⟩
      have xx := x6.tr (x7.tr (x8.tr x9))
      refine ⟨_, rfl, a6, A.C_Fault, _, _, _, rfl, .inl ⟨_, r6.ex (x7.tr (x8.tr x9))⟩, T.E_Fault.er, (fun u r => r), T.kte _ (.tail _ (.tail _ (.tail _ (.head _)))), _, rfl, HX.if_false rfl ?_⟩
      have e9 := ee.tr xx
      exact ⟨⟨_, _, _, _, _, _, _, _, _, rfl⟩, (xG.tr (en_xn en9)).tr (Ex.xb e9).xn, t9.ext e9, (pG9.ex e9).mono (by push_cast; omega)⟩
    · rintro σ H1 ⟨_, xn, t1, hp1⟩
      exact k _ xn t1 (hp1.mono (by omega))
theorem sql_en {K : Frag} {H H' : Hp} {a : Addr} {xs : List V} (h : SqL K H a xs) (e : ExtN H H') : SqL K H' a xs :=
  h.elim (fun z => z.elim (fun y => .inl (.inl (e _ _ y (fun _ z => by cases z)))) fun ⟨o, y⟩ => .inl (.inr ⟨o, e _ _ y (fun _ z => by cases z)⟩)) .inr
theorem ok_law (T : Txt K mg A) (TB : TabB base mg A.c_right A.P_right) : FnG P w K mg base CX0 8 A.f_law A.d_law ["_law_script"] (spLaw K A) := by
  refine okG0 T.F_law sc_law (fun vs H Q E h => ?_) (fun cdv A0 outer s H vs Q E hgd0 hr h => ?_)
  · obtain ⟨_, _, rfl, _⟩ := h
    rfl
  · have hu := hu_of hr
    have hgd : (A0.deeper (envOfC "law" (defScope s_law) s.heap.objs.size A.f_law cdv)).guards = some [] := hgd0
    obtain ⟨a, ns, rfl, hS, hl, hT, k⟩ := h
    refine ⟨_, (pss_one (ps_ret (pe_callB (cr_all rfl) (by rfl) T.g_all (by decide +kernel) (pa_cons (pe_lc (own := [("_law_k", 1)]) (g := gName 1) (tt := tYes) rfl sc_law.nd (pi_range1 rfl T.g_range (pa_cons (pe_op op_add (pe_op op_add pe_int (pe_callTy call_int1 (by rfl) T.g_int (by decide +kernel) (pa_cons (pe_cmpR op_gt (pe_callB call_len_seq (by rfl) T.g_len (by decide +kernel) (pa_cons (pv 0) pa_nil)) pe_int (nomark _)) pa_nil))) (pe_callTy call_int1 (by rfl) T.g_int (by decide +kernel) (pa_cons (pe_cmpR op_gt (pe_callB call_len_seq (by rfl) T.g_len (by decide +kernel) (pa_cons (pv 0) pa_nil)) pe_int (nomark _)) pa_nil))) pa_nil)) (blkOk_by (N := N_law) (sc := defScope s_law) (by decide +kernel)) (fun _ _ _ _ _ => pg_name (i := 1) sc_law.nd rfl (Or.inl rfl)) (fun _ _ _ _ _ => pts_nil) (fun _ _ _ _ _ => (pe_callG hgd (ok_right T TB) (hr.mono (by decide)) (by rfl) T.m_right T.F_right.kp T.b_right .nil pass0 (pa_cons (pe_call (ok_pot T) (hr.mono (by decide)) (by rfl) T.m_pot T.F_pot.kp T.b_pot .nil pass0 (pa_cons (pv 0) (pa_cons (pv 1) pa_nil))) pa_nil)))) pa_nil)))), ?_⟩
    refine ⟨_, rfl, a, _, rfl, .inl hS, _, _, rfl, rfl, .inr ⟨_, rfl, _, _, rfl, rfl, ?_⟩⟩
    refine ⟨_, rfl, a, _, rfl, .inl hS, _, _, rfl, rfl, .inr ⟨_, rfl, _, _, rfl, rfl, ?_⟩⟩
    have hb := two_b (decide ((1 : Int) < ((ns.map V.int).length : Int))) (decide ((2 : Int) < ((ns.map V.int).length : Int)))
    refine ⟨_, rfl, by omega, by omega, fun D nD => lc_range (lo := 0) (n := (1 + (if (decide ((1 : Int) < ((ns.map V.int).length : Int))) = true then (1 : Int) else 0) + (if (decide ((2 : Int) < ((ns.map V.int).length : Int))) = true then (1 : Int) else 0)).toNat) (fun j H' => ExtN H H' ∧ Tabs (Tb A) H' ∧ H' D = some (.lst (List.replicate j (.bl true)))) ⟨ExtN.of (Ex.nw nD), hT.ext (Ex.nw nD), upd_same⟩ ?_ ?_⟩
    · rintro j H4 hj ⟨e4, t4, hD⟩
      refine ⟨rfl, _, rfl, _, rfl, a, ns, 0 + j, rfl, sql_en hS e4, by omega, by omega, fun p H5 hp e5 pot => ?_⟩
      refine ⟨p, 0, rfl, pot, by decide, t4.ext e5, fun H6 x6 t6 _ => ?_⟩
      have nDp : D ≠ p := ne_of_none hD hp
      have hD6 : H6 D = some (.lst (List.replicate j (.bl true))) := x6 _ _ nDp (fun _ z => by cases z) (e5 _ _ hD)
      have eN : ExtN H4 H6 := fun b o hb nt => x6 _ _ (ne_of_none hb hp) nt (e5 _ _ hb)
      have nHD : H D = none := nD
      refine ⟨_, hD6, small (by rw [List.length_replicate]; omega), fun b o hb nt => ?_, ?_, ?_⟩
      · rw [upd_ne (ne_of_none hb nHD)]; exact eN _ _ (e4 _ _ hb nt) nt
      · exact tabs_xb (p := D) t6 hD6 XB.wr
      · rw [rep_next]; exact upd_same
    · rintro H4 ⟨e4, t4, hD⟩
      refine ⟨D, List.replicate _ true, rfl, SqL.of (by rw [hD, rep_bl]), ?_⟩
      rw [rep_all]
      exact k _
end
end K03
set_option Elab.async false
set_option linter.all false
set_option maxRecDepth 100000
set_option maxHeartbeats 4400000
namespace K03
open PySem PySem.Spec PyProof.Rows L2 HX
open PySem.W (Frag)
open LamX
def fnl : List DX := ([⟨met "BadSize" "__init__", "__init__", "BadSize.__init__", s_BadSize_init⟩, ⟨met "BadMost" "__init__", "__init__", "BadMost.__init__", s_BadMost_init⟩, ⟨met "BadItems" "__init__", "__init__", "BadItems.__init__", s_BadItems_init⟩, ⟨met "Fault" "__init__", "__init__", "Fault.__init__", s_Fault_init⟩, ⟨glo "is_whole", "is_whole", "is_whole", s_is_whole⟩, ⟨glo "is_size", "is_size", "is_size", s_is_size⟩, ⟨glo "is_most", "is_most", "is_most", s_is_most⟩, ⟨glo "are_items", "are_items", "are_items", s_are_items⟩, ⟨met "Row" "__init__", "__init__", "Row.__init__", s_Row_init⟩, ⟨prp "Row" "worths", "worths", "Row.worths", s_Row_worths⟩, ⟨glo "_law_pot", "_law_pot", "_law_pot", s_pot⟩, ⟨glo "_law_take", "_law_take", "_law_take", s_take⟩, ⟨glo "_law_of", "_law_of", "_law_of", s_of⟩, ⟨glo "_law_any", "_law_any", "_law_any", s_any⟩, ⟨glo "_law_drawn", "_law_drawn", "_law_drawn", s_drawn⟩, ⟨glo "_law_items", "_law_items", "_law_items", s_items⟩, ⟨glo "_law_is_from", "_law_is_from", "_law_is_from", s_is_from⟩, ⟨glo "_law_heard", "_law_heard", "_law_heard", s_heard⟩, ⟨glo "_law_due", "_law_due", "_law_due", s_due⟩, ⟨glo "_law_right", "_law_right", "_law_right", s_right⟩] : List DX) ++ ([⟨glo "law", "law", "law", s_law⟩] : List DX)
def nmG : List Str := ((["is_whole", "is_size", "is_most", "are_items", "_law_pot", "_law_take", "_law_of", "_law_any", "_law_drawn", "_law_items", "_law_is_from", "_law_heard", "_law_due", "_law_right", "law", "TapeError"] : List Str) ++ (["BadSize", "BadMost", "BadItems", "Fault", "Row"] : List Str))
def nmF : List Str := ((["isinstance", "int", "bool", "len", "abs", "repr", "all", "range", "tuple", "list", "ValueError"] : List Str))
def b_errs (K : Frag) : Bool := (([("BadSize", "value"), ("BadMost", "value"), ("BadItems", "value"), ("Fault", "words")] : List (Str × Str))).all fun c => excB K (He.ga K c.1) && errB K (He.ga K c.1) (He.ma K (He.ga K c.1) "__init__") c.2
def b_mro (K : Frag) : Bool := mroB K (He.ga K "TapeError") (((["BadSize", "BadMost", "BadItems", "Fault"] : List Str)).map (He.ga K)) && decide (PySem.W.subIn K (.ref (He.ga K "TapeError")) (.type "BaseException") = some true)
def b_row (K : Frag) : Bool := (clsB K (He.ga K "Row") && mkB K (He.ga K "Row") (met "Row" "__init__" K)) && ((noatB K (He.ga K "Row") "_size" && (noatB K (He.ga K "Row") "_most" && noatB K (He.ga K "Row") "_items")) && propB K (He.ga K "Row") "worths" (met "Row" "worths" K) (prp "Row" "worths" K))
def b_isi (K : Frag) : Bool := isiB K (He.ga K "Row") && (He.eqO (PySem.W.specialIn K (.builtin "object.__class__") "__get__") (some (some (.builtin "getset_descriptor.__get__"))) && decide (PySem.W.takesIn K (.builtin "object.__class__") = some true))
def b_tab (K : Frag) : Bool := tabB K "_law_right"
def ex (K : Frag) : Bool := nmG.all (fun x => He.eqO (PySem.W.nsIn K mainGlobals x) (some (some (.ref (He.ga K x))))) && (nmF.all (fun x => He.eqO (PySem.W.nsIn K mainGlobals x) (some none)) && (b_errs K && (b_mro K && (b_row K && (b_isi K && (b_tab K))))))
theorem ex_glob {K : Frag} {h : Heap} {mg : Str → Option Value} (X : K.In h) (G : h.Ns mainGlobals mg) (c : ex K = true) {x : Str} (hx : x ∈ nmG) : mg x = some (.ref (He.ga K x)) := by
  unfold ex at c
  simp only [Bool.and_eq_true] at c
  exact PySem.W.mg_of X G (He.eqO_ok (List.all_eq_true.mp c.1 x hx))
theorem ex_free {K : Frag} {h : Heap} {mg : Str → Option Value} (X : K.In h) (G : h.Ns mainGlobals mg) (c : ex K = true) {x : Str} (hx : x ∈ nmF) : mg x = none := by
  unfold ex at c
  simp only [Bool.and_eq_true] at c
  exact PySem.W.mg_none_of X G (He.eqO_ok (List.all_eq_true.mp c.2.1 x hx))
theorem ex_errs {K : Frag} (c : ex K = true) : b_errs K = true := by
  unfold ex at c
  simp only [Bool.and_eq_true] at c
  exact c.2.2.1
theorem ex_mro {K : Frag} (c : ex K = true) : b_mro K = true := by
  unfold ex at c
  simp only [Bool.and_eq_true] at c
  exact c.2.2.2.1
theorem ex_row {K : Frag} (c : ex K = true) : b_row K = true := by
  unfold ex at c
  simp only [Bool.and_eq_true] at c
  exact c.2.2.2.2.1
theorem ex_isi {K : Frag} (c : ex K = true) : b_isi K = true := by
  unfold ex at c
  simp only [Bool.and_eq_true] at c
  exact c.2.2.2.2.2.1
theorem ex_tab {K : Frag} (c : ex K = true) : b_tab K = true := by
  unfold ex at c
  simp only [Bool.and_eq_true] at c
  exact c.2.2.2.2.2.2
abbrev R : PySem.W.OpenRow := PySem.W.OpenLaw.row PySem.Challenge.rw_tapedonce_k03_what_makes_no_row_and_faul
def names : List Str := ((["TapeError", "BadSize", "BadWorth", "BadMost", "BadItems", "Fault", "is_whole", "is_size", "is_most", "are_items", "Number", "worth_of", "_is_side", "_gone_round", "_quotient", "Row"] : List Str) ++ (["_law_pot", "_law_take", "_law_of", "_law_any", "_law_drawn", "_law_items", "_law_is_from", "_law_due", "_law_heard"] : List Str))
theorem run (w : World) : HandSHeadRun.RunEq R (PySem.W.view R.prog [30, 31]) (hookX 5 ex fnl) (obT 5 ex fnl) 9400 names w := by
  intro os
  kernel_rfl
theorem er_at {K : Frag} (ce : ex K = true) {c : Str × Str} (hc : c ∈ (([("BadSize", "value"), ("BadMost", "value"), ("BadItems", "value"), ("Fault", "words")] : List (Str × Str)))) : excB K (He.ga K c.1) = true ∧ errB K (He.ga K c.1) (He.ma K (He.ga K c.1) "__init__") c.2 = true := Bool.and_eq_true_iff.mp (List.all_eq_true.mp (ex_errs ce) c hc)
theorem kbR {K : Frag} {f : Addr} {fd : FuncData} (F : Fun K "__init__" "Row.__init__" s_Row_init f fd) : KBn K fd ["self", "size", "most", "items"] 1 ["items", "most", "size"] (fun us ws => match us, ws with | [a], [i, m, s] => [a, s, m, i] | _, _ => []) (fun us ws => match us, ws with | [a], [i, m, s] => [a, s, m, i] | _, _ => []) := by
  obtain ⟨oc, od, kV, doc, pm, an, cdv, ct, osl, rfl, lk, hcd⟩ := F.ex
  refine ⟨fun s us ws _ h1 h2 => ?_, fun {vs us zs ws} r1 r2 => ?_⟩
  · match us, ws, h1, h2 with
    | [a], [b, c, d], _, _ => exact .of_eq rfl
  · match r1, r2 with
    | .cons a .nil, .cons b (.cons c (.cons d .nil)) => exact .cons a (.cons d (.cons c (.cons b .nil)))
    | .nil, _ => exact .nil
    | .cons _ (.cons _ _), _ => exact .nil
    | .cons _ .nil, .nil => exact .nil
    | .cons _ .nil, .cons _ .nil => exact .nil
    | .cons _ .nil, .cons _ (.cons _ .nil) => exact .nil
    | .cons _ .nil, .cons _ (.cons _ (.cons _ (.cons _ _))) => exact .nil
theorem facts {P : Program} {w : World} {K : Frag} {h : Heap} {mg : Str → Option Value} {f : Addr} (X : K.In h) (G : h.Ns mainGlobals mg) (hfa : mg ("law" : Str) = some (.ref f)) (c : SaysX ex fnl K) :
    ∃ (fd : FuncData) (A : Ad), A.c_right = cod "_law_right" K ∧ A.P_right = tbl "_law_right" K ∧ (∀ (s : Shared) (v : Value), BindsTo s fd ⟨[v], []⟩ [("_law_script", v)]) ∧ ∀ base : Heap, K.In base → base.Ns mainGlobals mg → TabB base mg A.c_right A.P_right → FnG P w K mg base CX0 8 f fd ["_law_script"] (spLaw K A) := by
  have ce := c.facts
  have nm := ex_row ce
  unfold b_row at nm
  simp only [Bool.and_eq_true] at nm
  have is := ex_isi ce
  unfold b_isi at is
  simp only [Bool.and_eq_true] at is
  have mr := ex_mro ce
  unfold b_mro at mr
  simp only [Bool.and_eq_true] at mr
  obtain ⟨d0, F0⟩ := c.def_ 0 (d := (⟨met "BadSize" "__init__", "__init__", "BadSize.__init__", s_BadSize_init⟩ : DX)) rfl
  obtain ⟨d1, F1⟩ := c.def_ 1 (d := (⟨met "BadMost" "__init__", "__init__", "BadMost.__init__", s_BadMost_init⟩ : DX)) rfl
  obtain ⟨d2, F2⟩ := c.def_ 2 (d := (⟨met "BadItems" "__init__", "__init__", "BadItems.__init__", s_BadItems_init⟩ : DX)) rfl
  obtain ⟨d3, F3⟩ := c.def_ 3 (d := (⟨met "Fault" "__init__", "__init__", "Fault.__init__", s_Fault_init⟩ : DX)) rfl
  obtain ⟨d4, F4⟩ := c.def_ 4 (d := (⟨glo "is_whole", "is_whole", "is_whole", s_is_whole⟩ : DX)) rfl
  obtain ⟨d5, F5⟩ := c.def_ 5 (d := (⟨glo "is_size", "is_size", "is_size", s_is_size⟩ : DX)) rfl
  obtain ⟨d6, F6⟩ := c.def_ 6 (d := (⟨glo "is_most", "is_most", "is_most", s_is_most⟩ : DX)) rfl
  obtain ⟨d7, F7⟩ := c.def_ 7 (d := (⟨glo "are_items", "are_items", "are_items", s_are_items⟩ : DX)) rfl
  obtain ⟨d8, F8⟩ := c.def_ 8 (d := (⟨met "Row" "__init__", "__init__", "Row.__init__", s_Row_init⟩ : DX)) rfl
  obtain ⟨d9, F9⟩ := c.def_ 9 (d := (⟨prp "Row" "worths", "worths", "Row.worths", s_Row_worths⟩ : DX)) rfl
  obtain ⟨d10, F10⟩ := c.def_ 10 (d := (⟨glo "_law_pot", "_law_pot", "_law_pot", s_pot⟩ : DX)) rfl
  obtain ⟨d11, F11⟩ := c.def_ 11 (d := (⟨glo "_law_take", "_law_take", "_law_take", s_take⟩ : DX)) rfl
  obtain ⟨d12, F12⟩ := c.def_ 12 (d := (⟨glo "_law_of", "_law_of", "_law_of", s_of⟩ : DX)) rfl
  obtain ⟨d13, F13⟩ := c.def_ 13 (d := (⟨glo "_law_any", "_law_any", "_law_any", s_any⟩ : DX)) rfl
  obtain ⟨d14, F14⟩ := c.def_ 14 (d := (⟨glo "_law_drawn", "_law_drawn", "_law_drawn", s_drawn⟩ : DX)) rfl
  obtain ⟨d15, F15⟩ := c.def_ 15 (d := (⟨glo "_law_items", "_law_items", "_law_items", s_items⟩ : DX)) rfl
  obtain ⟨d16, F16⟩ := c.def_ 16 (d := (⟨glo "_law_is_from", "_law_is_from", "_law_is_from", s_is_from⟩ : DX)) rfl
  obtain ⟨d17, F17⟩ := c.def_ 17 (d := (⟨glo "_law_heard", "_law_heard", "_law_heard", s_heard⟩ : DX)) rfl
  obtain ⟨d18, F18⟩ := c.def_ 18 (d := (⟨glo "_law_due", "_law_due", "_law_due", s_due⟩ : DX)) rfl
  obtain ⟨d19, F19⟩ := c.def_ 19 (d := (⟨glo "_law_right", "_law_right", "_law_right", s_right⟩ : DX)) rfl
  obtain ⟨d20, F20⟩ := c.def_ 20 (d := (⟨glo "law", "law", "law", s_law⟩ : DX)) rfl
  have e := hfa.symm.trans (ex_glob X G ce (x := "law") (by decide +kernel))
  cases e
  have T : Txt K mg { C_TapeError := He.ga K "TapeError", C_BadSize := He.ga K "BadSize", C_BadMost := He.ga K "BadMost", C_BadItems := He.ga K "BadItems", C_Fault := He.ga K "Fault", C_Row := He.ga K "Row", f_BadSize_init := (met "BadSize" "__init__" K), f_BadMost_init := (met "BadMost" "__init__" K), f_BadItems_init := (met "BadItems" "__init__" K), f_Fault_init := (met "Fault" "__init__" K), f_is_whole := (glo "is_whole" K), f_is_size := (glo "is_size" K), f_is_most := (glo "is_most" K), f_are_items := (glo "are_items" K), f_Row_init := (met "Row" "__init__" K), f_Row_worths := (prp "Row" "worths" K), f_pot := (glo "_law_pot" K), f_take := (glo "_law_take" K), f_of := (glo "_law_of" K), f_any := (glo "_law_any" K), f_drawn := (glo "_law_drawn" K), f_items := (glo "_law_items" K), f_is_from := (glo "_law_is_from" K), f_heard := (glo "_law_heard" K), f_due := (glo "_law_due" K), f_right := (glo "_law_right" K), f_law := (glo "law" K), d_BadSize_init := d0, d_BadMost_init := d1, d_BadItems_init := d2, d_Fault_init := d3, d_is_whole := d4, d_is_size := d5, d_is_most := d6, d_are_items := d7, d_Row_init := d8, d_Row_worths := d9, d_pot := d10, d_take := d11, d_of := d12, d_any := d13, d_drawn := d14, d_items := d15, d_is_from := d16, d_heard := d17, d_due := d18, d_right := d19, d_law := d20, p_worths := met "Row" "worths" K, c_right := cod "_law_right" K, P_right := tbl "_law_right" K : Ad } := {
    F_BadSize_init := F0
    F_BadMost_init := F1
    F_BadItems_init := F2
    F_Fault_init := F3
    F_is_whole := F4
    b_is_whole := F4.binds (ps := ["value", "low", "below"]) fun _ _ _ _ _ _ us hl => match us, hl with | [_, _, _], _ => rfl
    m_is_whole := (ex_glob X G ce (x := "is_whole") (by decide +kernel))
    F_is_size := F5
    b_is_size := F5.binds (ps := ["value"]) fun _ _ _ _ _ _ us hl => match us, hl with | [_], _ => rfl
    m_is_size := (ex_glob X G ce (x := "is_size") (by decide +kernel))
    F_is_most := F6
    b_is_most := F6.binds (ps := ["value"]) fun _ _ _ _ _ _ us hl => match us, hl with | [_], _ => rfl
    m_is_most := (ex_glob X G ce (x := "is_most") (by decide +kernel))
    F_are_items := F7
    b_are_items := F7.binds (ps := ["value", "size", "most"]) fun _ _ _ _ _ _ us hl => match us, hl with | [_, _, _], _ => rfl
    m_are_items := (ex_glob X G ce (x := "are_items") (by decide +kernel))
    F_Row_init := F8
    b_Row_init := F8.binds (ps := ["self", "size", "most", "items"]) fun _ _ _ _ _ _ us hl => match us, hl with | [_, _, _, _], _ => rfl
    F_Row_worths := F9
    b_Row_worths := F9.binds (ps := ["self"]) fun _ _ _ _ _ _ us hl => match us, hl with | [_], _ => rfl
    F_pot := F10
    b_pot := F10.binds (ps := ["_law_script", "_law_k"]) fun _ _ _ _ _ _ us hl => match us, hl with | [_, _], _ => rfl
    m_pot := (ex_glob X G ce (x := "_law_pot") (by decide +kernel))
    F_take := F11
    b_take := F11.binds (ps := ["_law_pot_here", "_law_upto"]) fun _ _ _ _ _ _ us hl => match us, hl with | [_, _], _ => rfl
    m_take := (ex_glob X G ce (x := "_law_take") (by decide +kernel))
    F_of := F12
    b_of := F12.binds (ps := ["_law_pot_here", "_law_some"]) fun _ _ _ _ _ _ us hl => match us, hl with | [_, _], _ => rfl
    m_of := (ex_glob X G ce (x := "_law_of") (by decide +kernel))
    F_any := F13
    b_any := F13.binds (ps := ["_law_pot_here"]) fun _ _ _ _ _ _ us hl => match us, hl with | [_], _ => rfl
    m_any := (ex_glob X G ce (x := "_law_any") (by decide +kernel))
    F_drawn := F14
    b_drawn := F14.binds (ps := ["_law_pot_here", "_law_some"]) fun _ _ _ _ _ _ us hl => match us, hl with | [_, _], _ => rfl
    m_drawn := (ex_glob X G ce (x := "_law_drawn") (by decide +kernel))
    F_items := F15
    b_items := F15.binds (ps := ["_law_pot_here"]) fun _ _ _ _ _ _ us hl => match us, hl with | [_], _ => rfl
    m_items := (ex_glob X G ce (x := "_law_items") (by decide +kernel))
    F_is_from := F16
    b_is_from := F16.binds (ps := ["_law_value", "_law_low", "_law_high"]) fun _ _ _ _ _ _ us hl => match us, hl with | [_, _, _], _ => rfl
    m_is_from := (ex_glob X G ce (x := "_law_is_from") (by decide +kernel))
    F_heard := F17
    b_heard := F17.binds (ps := ["_law_call"]) fun _ _ _ _ _ _ us hl => match us, hl with | [_], _ => rfl
    m_heard := (ex_glob X G ce (x := "_law_heard") (by decide +kernel))
    F_due := F18
    b_due := F18.binds (ps := ["_law_girth", "_law_cap", "_law_things"]) fun _ _ _ _ _ _ us hl => match us, hl with | [_, _, _], _ => rfl
    m_due := (ex_glob X G ce (x := "_law_due") (by decide +kernel))
    F_right := F19
    b_right := F19.binds (ps := ["_law_pot_here"]) fun _ _ _ _ _ _ us hl => match us, hl with | [_], _ => rfl
    m_right := (ex_glob X G ce (x := "_law_right") (by decide +kernel))
    F_law := F20
    b_law := F20.binds (ps := ["_law_script"]) fun _ _ _ _ _ _ us hl => match us, hl with | [_], _ => rfl
    m_law := (ex_glob X G ce (x := "law") (by decide +kernel))
    m_TapeError := (ex_glob X G ce (x := "TapeError") (by decide +kernel))
    m_BadSize := (ex_glob X G ce (x := "BadSize") (by decide +kernel))
    m_BadMost := (ex_glob X G ce (x := "BadMost") (by decide +kernel))
    m_BadItems := (ex_glob X G ce (x := "BadItems") (by decide +kernel))
    m_Fault := (ex_glob X G ce (x := "Fault") (by decide +kernel))
    m_Row := (ex_glob X G ce (x := "Row") (by decide +kernel))
    g_isinstance := ex_free X G ce (x := "isinstance") (by decide +kernel)
    g_int := ex_free X G ce (x := "int") (by decide +kernel)
    g_bool := ex_free X G ce (x := "bool") (by decide +kernel)
    g_len := ex_free X G ce (x := "len") (by decide +kernel)
    g_abs := ex_free X G ce (x := "abs") (by decide +kernel)
    g_repr := ex_free X G ce (x := "repr") (by decide +kernel)
    g_all := ex_free X G ce (x := "all") (by decide +kernel)
    g_range := ex_free X G ce (x := "range") (by decide +kernel)
    g_tuple := ex_free X G ce (x := "tuple") (by decide +kernel)
    g_list := ex_free X G ce (x := "list") (by decide +kernel)
    g_ValueError := ex_free X G ce (x := "ValueError") (by decide +kernel)
    E_BadSize := errT_mk (excB_ok (er_at ce (c := ("BadSize", "value")) (by decide +kernel)).1) (er_at ce (c := ("BadSize", "value")) (by decide +kernel)).2 (F0.binds (ps := ["self", "value"]) fun _ _ _ _ _ _ us hl => match us, hl with | [_, _], _ => rfl) (kb_of F0 (fun _ _ _ _ _ _ _ _ => rfl)) (ex_glob X G ce (x := "BadSize") (by decide +kernel))
    E_BadMost := errT_mk (excB_ok (er_at ce (c := ("BadMost", "value")) (by decide +kernel)).1) (er_at ce (c := ("BadMost", "value")) (by decide +kernel)).2 (F1.binds (ps := ["self", "value"]) fun _ _ _ _ _ _ us hl => match us, hl with | [_, _], _ => rfl) (kb_of F1 (fun _ _ _ _ _ _ _ _ => rfl)) (ex_glob X G ce (x := "BadMost") (by decide +kernel))
    E_BadItems := errT_mk (excB_ok (er_at ce (c := ("BadItems", "value")) (by decide +kernel)).1) (er_at ce (c := ("BadItems", "value")) (by decide +kernel)).2 (F2.binds (ps := ["self", "value"]) fun _ _ _ _ _ _ us hl => match us, hl with | [_, _], _ => rfl) (kb_of F2 (fun _ _ _ _ _ _ _ _ => rfl)) (ex_glob X G ce (x := "BadItems") (by decide +kernel))
    E_Fault := errT_mk (excB_ok (er_at ce (c := ("Fault", "words")) (by decide +kernel)).1) (er_at ce (c := ("Fault", "words")) (by decide +kernel)).2 (F3.binds (ps := ["self", "words"]) fun _ _ _ _ _ _ us hl => match us, hl with | [_, _], _ => rfl) (kb_of F3 (fun _ _ _ _ _ _ _ _ => rfl)) (ex_glob X G ce (x := "Fault") (by decide +kernel))
    cls_Row := clsB_ok nm.1.1
    mk_Row := mkB_ok nm.1.2
    kb_Row := kbR F8
    rS := noatB_ok nm.2.1.1
    rM := noatB_ok nm.2.1.2.1
    rI := noatB_ok nm.2.1.2.2
    P_worths := propB_ok nm.2.2
    kcl := (isiB_ok is.1).1
    kgs := He.eqO_ok is.2.1
    ktk := of_decide_eq_true is.2.2
    kob := (isiB_ok is.1).2
    kit := mroB_kit mr.1
    kte := mroB_te mr.1
    kve := mroB_ve mr.1
    xte := mroB_xte mr.1 (of_decide_eq_true mr.2)
    nd := mroB_nd mr.1
    dc := code_of F19 (tabB_ok (ex_tab ce)).1 }
  refine ⟨_, _, rfl, rfl, fun s v => ?_, fun base _ _ TB => ok_law T TB⟩
  obtain ⟨oc, od, kV, doc, pm, an, cdv, ct, osl, e2, lk, hcd⟩ := F20.ex
  rw [e2]
  exact .of_eq rfl
end K03
open PySem PySem.W PyProof.Rows
set_option maxRecDepth 100000 in
set_option maxHeartbeats 0 in
theorem PySem.Challenge.cw_tapedonce_k03_what_makes_no_row_and_faul_holds : PySem.Challenge.rw_tapedonce_k03_what_makes_no_row_and_faul.Holds := by
  w_on; o_law
  refine HandSHeadRun.head_any (r := OpenLaw.row PySem.Challenge.rw_tapedonce_k03_what_makes_no_row_and_faul) (q := view (OpenLaw.row PySem.Challenge.rw_tapedonce_k03_what_makes_no_row_and_faul).prog [30, 31]) (H := HX.hookX 5 K03.ex K03.fnl) (ob := HX.obT 5 K03.ex K03.fnl) (M := 9400) (loose := K03.names) (d := HandSHeadRun.topDef (OpenLaw.row PySem.Challenge.rw_tapedonce_k03_what_makes_no_row_and_faul).prog 31) (kwd := []) HX.obT_eq
    (by kernel_rfl) (fun s => by kernel_rfl) K03.run (by kernel_rfl) (by kernel_rfl) (by kernel_rfl) (by rfl) (by first | assumption | decide +kernel) (by decide +kernel) ⟨rfl, rfl, rfl, rfl, rfl, by decide +kernel⟩ ?hw ?hc
  case hw => w_witness2
  case hc =>
    refine HX.walk_GX (l := PySem.Challenge.rw_tapedonce_k03_what_makes_no_row_and_faul) (n := 63) (k := 8) (x := "_law_script") (CX := fun _ => L2.CX0) rfl (by decide) (by kernel_rfl) ⟨rfl, by decide, by decide⟩ ?F (fun _ _ _ _ _ z => z)
    intro w mg fa h Y G hmg0
    obtain ⟨K, KX, c⟩ := Y
    have hmg : mg ("law" : PySem.Str) = some (.ref fa) := by
      have e : (HandSHeadRun.topDef (OpenLaw.row PySem.Challenge.rw_tapedonce_k03_what_makes_no_row_and_faul).prog 31).name = ("law" : PySem.Str) := by kernel_rfl
      rw [← e]
      exact hmg0
    have ct := HX.tabB_ok (K03.ex_tab c.facts)
    obtain ⟨fd, A, e1, e2, hb, hF⟩ := K03.facts (P := (PySem.Challenge.rw_tapedonce_k03_what_makes_no_row_and_faul).prog) (w := w) KX G hmg c
    have e12 : (A.c_right, A.P_right) = (HX.cod "_law_right" K, HX.tbl "_law_right" K) := by rw [e1, e2]
    refine ⟨K, fd, [(A.c_right, A.P_right)], K03.spLaw K A, KX, List.forall_mem_singleton.mpr ⟨"_law_right", by kernel_rfl, ?_⟩, List.forall_mem_singleton.mpr ?_, hb, fun H a ns hl hS ht => ⟨a, ns, rfl, hS, hl, ?_, fun _ => rfl⟩, fun base hK hN tb => hF base hK hN (tb _ (List.mem_singleton.mpr rfl))⟩
    · rw [e12]; exact ct.1
    · rw [e2]; exact ct.2
    · exact fun p hp => by
        have e : p = _ := List.mem_singleton.mp hp
        rw [e]
        exact LamX.TabS.nil (ht _ (List.mem_singleton.mpr rfl))


