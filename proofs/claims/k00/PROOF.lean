import PyProof.Rows.All
import Wide.All
import OpenK.AllK
import Wide.FinOn
import PyProof.EqAt
import PyProof.EqKinds
import PyProof.TupleCall
import PyProof.NeKinds
import PyProof.TwoTypesSub
import HandS.Base
import HandS.Call
import HandS.List
import KE.KOpsOwn
import PyProof.ReprRoads
import PyProof.AutoIntOps
import HandS.Words
import HandS.Ends
import HandS.Comp
import HandS.Lambda
import HandS.Exc
import HandS.ExcInit
import HandS.ExcOwn
import HandS.ExcField
import HandS.IsInst
import HandS.Property
import HandS.Dict
import HandS.Iter
import HandS.WordsExc
import HandS.WordsDict
import HandS.WordsList
import HandS.MakeKw
import PyProof.ReprLen
import HandS.ExcIs
import PySem.Challenge.RW_tapedonce_k00_signs_and_comparisons_of_n
set_option Elab.async false
set_option linter.all false
set_option maxRecDepth 100000
set_option maxHeartbeats 4400000
/-! operators between instances of an own class and ints, both ways -/
namespace HX
open PySem PySem.W PySem.Spec PySem.Calls PyProof.Rows
/-- the builtin declines the plain object at x -/
def Decl (B : Builtin) : Prop := ∀ (i : Int) (t : Tok) (x : Addr) (c : Value) (dd : Option Addr) (sl : Array (Option Value)),
  Meets (B ⟨[.int i t, .ref x], []⟩) (fun _ R s => s.heap.get? x = some { cls := c, dict := dd, data := .plain, slots := sl } ∧ R (.ok (.ret .notImplemented)) s)
theorem decl_add : Decl Builtin.«int.__add__» := fun i t x c dd sl => .of_wp fun prog w A R s h => by obtain ⟨hp, g, d, tk, os⟩ := s; obtain ⟨hl, h⟩ := h; wp_walk using AutoSeq1.wpAny_loadPart' hl, wpAny_load hl; exact ⟨_, rfl, h⟩
theorem decl_sub : Decl Builtin.«int.__sub__» := fun i t x c dd sl => .of_wp fun prog w A R s h => by obtain ⟨hp, g, d, tk, os⟩ := s; obtain ⟨hl, h⟩ := h; wp_walk using AutoSeq1.wpAny_loadPart' hl, wpAny_load hl; exact ⟨_, rfl, h⟩
theorem decl_mul : Decl Builtin.«int.__mul__» := fun i t x c dd sl => .of_wp fun prog w A R s h => by obtain ⟨hp, g, d, tk, os⟩ := s; obtain ⟨hl, h⟩ := h; wp_walk using AutoSeq1.wpAny_loadPart' hl, wpAny_load hl; exact ⟨_, rfl, h⟩
theorem decl_floordiv : Decl Builtin.«int.__floordiv__» := fun i t x c dd sl => .of_wp fun prog w A R s h => by obtain ⟨hp, g, d, tk, os⟩ := s; obtain ⟨hl, h⟩ := h; wp_walk using AutoSeq1.wpAny_loadPart' hl, wpAny_load hl; exact ⟨_, rfl, h⟩
theorem decl_eq : Decl Builtin.«int.__eq__» := fun i t x c dd sl => .of_wp fun prog w A R s h => by obtain ⟨hp, g, d, tk, os⟩ := s; obtain ⟨hl, h⟩ := h; wp_walk using AutoSeq1.wpAny_loadPart' hl, wpAny_load hl; exact ⟨_, rfl, h⟩
theorem decl_ne : Decl Builtin.«int.__ne__» := fun i t x c dd sl => .of_wp fun prog w A R s h => by obtain ⟨hp, g, d, tk, os⟩ := s; obtain ⟨hl, h⟩ := h; wp_walk using AutoSeq1.wpAny_loadPart' hl, wpAny_load hl; exact ⟨_, rfl, h⟩
theorem decl_lt : Decl Builtin.«int.__lt__» := fun i t x c dd sl => .of_wp fun prog w A R s h => by obtain ⟨hp, g, d, tk, os⟩ := s; obtain ⟨hl, h⟩ := h; wp_walk using AutoSeq1.wpAny_loadPart' hl, wpAny_load hl; exact ⟨_, rfl, h⟩
theorem decl_le : Decl Builtin.«int.__le__» := fun i t x c dd sl => .of_wp fun prog w A R s h => by obtain ⟨hp, g, d, tk, os⟩ := s; obtain ⟨hl, h⟩ := h; wp_walk using AutoSeq1.wpAny_loadPart' hl, wpAny_load hl; exact ⟨_, rfl, h⟩
theorem decl_gt : Decl Builtin.«int.__gt__» := fun i t x c dd sl => .of_wp fun prog w A R s h => by obtain ⟨hp, g, d, tk, os⟩ := s; obtain ⟨hl, h⟩ := h; wp_walk using AutoSeq1.wpAny_loadPart' hl, wpAny_load hl; exact ⟨_, rfl, h⟩
theorem decl_ge : Decl Builtin.«int.__ge__» := fun i t x c dd sl => .of_wp fun prog w A R s h => by obtain ⟨hp, g, d, tk, os⟩ := s; obtain ⟨hl, h⟩ := h; wp_walk using AutoSeq1.wpAny_loadPart' hl, wpAny_load hl; exact ⟨_, rfl, h⟩
end HX
set_option Elab.async false
set_option linter.all false
set_option maxRecDepth 100000
set_option maxHeartbeats 4400000
namespace HX
open PySem PySem.W PySem.Spec PySem.Calls PyProof.Rows
section
variable {prog : Program} {w : World} {A : Around} {E : Value → Shared → Prop} {s : Shared} {K : Frag} {x C L f g : Addr} {h₀ : Heap} {m : Str → Option Value} {ox : Obj} {od : Option Obj}
theorem looks_nip {M : Model} {h : Heap} {nm : String} (X : K.In h) (hs : findIn K (.ref C) (PySem.dunder nm) = some (some (.ref f))) (hr : findIn K (.ref C) (dunderR nm) = some (some (.ref g))) : Looks M h (numberSlotInPython (.ref C) nm) true := by
  intro A Q E s k q
  unfold numberSlotInPython
  refine wpAny_bind (looks_findIn X hs A _ E s k (wpAny_bind (wpAny_pure ?_)))
  refine wpAny_bind (looks_findIn X hr A _ E s k (wpAny_bind (wpAny_pure ?_)))
  simp only [Bool.or_true, if_true]
  exact wpAny_pure q
theorem binop1_KI {nm : String} {i : Int} {t : Tok} {idr : String} {Q : Option Value → Shared → Prop} (F : Fr h₀ L s.heap m) (X₀ : K.In h₀) (I : InstAt s.heap x ox C od) (hc : selfFirst K C = true)
    (hs : findIn K (.ref C) (PySem.dunder nm) = some (some (.ref f))) (hf : isFn K (.ref f) = true) (hr : findIn K (.ref C) (dunderR nm) = some (some (.ref g)))
    (hfi : fillsNumberSlot (.type "int") nm = pure true) (hni : subIn K (.type "int") (.ref C) = some false) (hri : typeLookup (.type "int") (dunderR nm) = pure (some (.builtin idr)))
    (h : wpAny (model prog w) A (call (.ref f) [.ref x, .int i t]) (W.CmpBack fun v s' => Q (some v) s') E s) : wpAny (model prog w) A (binaryOp1 nm (.ref x) (.int i t)) Q E s := by
  have X := X₀.keeps F.keep
  obtain ⟨cd, rest, hcd, hm⟩ := ksp_first hc
  have hpy : numberSlotInPython (.type "int") nm = pure false := rfl
  have hne : (Value.ref C == Value.type "int") = false := by simp
  unfold binaryOp1
  refine wpAny_bind (I.type.here (wpAny_bind (wpAny_typeOf (typeIs_int s i t) (wpAny_bind ((fills_K X hcd hm hs).here ?_))))); simp only [hne, Bool.false_eq_true, if_false]
  refine wpAny_bind (wpAny_of_eq hfi ?_); simp only [Bool.and_self, if_true]
  refine wpAny_bind ((looks_subIn X hni).here ?_)
  simp only [Bool.false_eq_true, if_false, pure_bind, Bool.not_false, Bool.and_self, if_true]
  refine wpAny_bind ((looks_nip X hs hr).here ?_)
  simp only [hpy, pure_bind, if_true, Bool.not_false]
  refine wpAny_bind (wpAny_of_eq hri ?_)
  unfold tryMethod
  refine wpAny_bind (wpAny_bind (special_fn X I hs (beq_iff_eq.mp hf) (wpAny_mono h (fun v s' hv => ?_) fun _ _ e => e)))
  cases v <;> first | exact hv.elim | exact wpAny_pure (wpAny_pure hv)
theorem binop_KI {op : Operator} {i : Int} {t : Tok} {idr : String} {Q : Value → Shared → Prop} (F : Fr h₀ L s.heap m) (X₀ : K.In h₀) (I : InstAt s.heap x ox C od) (hc : selfFirst K C = true)
    (hs : findIn K (.ref C) (PySem.dunder op.info.2) = some (some (.ref f))) (hf : isFn K (.ref f) = true) (hr : findIn K (.ref C) (dunderR op.info.2) = some (some (.ref g)))
    (hfi : fillsNumberSlot (.type "int") op.info.2 = pure true) (hni : subIn K (.type "int") (.ref C) = some false) (hri : typeLookup (.type "int") (dunderR op.info.2) = pure (some (.builtin idr)))
    (h : wpAny (model prog w) A (call (.ref f) [.ref x, .int i t]) (W.CmpBack Q) E s) : wpAny (model prog w) A (binaryOp op (.ref x) (.int i t)) Q E s := by
  unfold binaryOp; refine wpAny_holding (wpAny_bind ?_)
  refine binop1_KI F X₀ I hc hs hf hr hfi hni hri (wpAny_mono h (fun v s' hv => ?_) fun _ _ e => e)
  cases v <;> first | exact hv.elim | exact wpAny_pure hv
/-- int op instance: the reflected method -/
theorem binop1_IK {nm : String} {i : Int} {t : Tok} {id : String} {B : Builtin} {Q : Option Value → Shared → Prop} (F : Fr h₀ L s.heap m) (X₀ : K.In h₀) (I : InstAt s.heap x ox C od) (hp : ox.data = .plain) (hc : selfFirst K C = true)
    (hs : findIn K (.ref C) (PySem.dunder nm) = some (some (.ref g))) (hr : findIn K (.ref C) (dunderR nm) = some (some (.ref f))) (hf : isFn K (.ref f) = true)
    (hfi : fillsNumberSlot (.type "int") nm = pure true) (hni : subIn K (.ref C) (.type "int") = some false) (slot : Slot "int" (PySem.dunder nm) id) (entry : entryFor table id = some B) (args : ∀ a b, argsOk id ⟨[a, b], []⟩) (D : Decl B)
    (h : wpAny (model prog w) A (call (.ref f) [.ref x, .int i t]) (W.CmpBack fun v s' => Q (some v) s') E s) : wpAny (model prog w) A (binaryOp1 nm (.int i t) (.ref x)) Q E s := by
  have X := X₀.keeps F.keep
  obtain ⟨cd, rest, hcd, hm⟩ := ksp_first hc
  have hpy : numberSlotInPython (.type "int") nm = pure false := rfl
  have hne : (Value.type "int" == Value.ref C) = false := by simp
  obtain ⟨oc, odd, odt, osl⟩ := ox
  simp only at hp
  subst hp
  have hx := I.at_
  unfold binaryOp1
  refine wpAny_bind (wpAny_typeOf (typeIs_int s i t) (wpAny_bind (I.type.here (wpAny_bind (wpAny_of_eq hfi ?_))))); simp only [hne, Bool.false_eq_true, if_false]
  refine wpAny_bind ((fills_K X hcd hm hs).here ?_); simp only [Bool.and_self, if_true]
  refine wpAny_bind ((looks_subIn X hni).here ?_); simp only [hpy, Bool.false_eq_true, if_false, pure_bind, Bool.not_false, Bool.and_self, if_true]
  refine wpAny_bind (wpAny_tryMethod_declines (typeIs_int s i t) slot (call_meets slot (typeIs_int s i t) entry (args _ _) (D i t x _ _ _) ⟨hx, ?_⟩))
  refine ⟨rfl, ?_⟩
  unfold tryMethod
  refine wpAny_bind (wpAny_bind (special_fn X I hr (beq_iff_eq.mp hf) (wpAny_mono h (fun v s' hv => ?_) fun _ _ e => e)))
  cases v <;> first | exact hv.elim | exact wpAny_pure (wpAny_bind (wpAny_rule (wpAny_pure hv)))
theorem binop_IK {op : Operator} {i : Int} {t : Tok} {id : String} {B : Builtin} {Q : Value → Shared → Prop} (F : Fr h₀ L s.heap m) (X₀ : K.In h₀) (I : InstAt s.heap x ox C od) (hp : ox.data = .plain) (hc : selfFirst K C = true)
    (hs : findIn K (.ref C) (PySem.dunder op.info.2) = some (some (.ref g))) (hr : findIn K (.ref C) (dunderR op.info.2) = some (some (.ref f))) (hf : isFn K (.ref f) = true)
    (hfi : fillsNumberSlot (.type "int") op.info.2 = pure true) (hni : subIn K (.ref C) (.type "int") = some false) (slot : Slot "int" (PySem.dunder op.info.2) id) (entry : entryFor table id = some B) (args : ∀ a b, argsOk id ⟨[a, b], []⟩) (D : Decl B)
    (h : wpAny (model prog w) A (call (.ref f) [.ref x, .int i t]) (W.CmpBack Q) E s) : wpAny (model prog w) A (binaryOp op (.int i t) (.ref x)) Q E s := by
  unfold binaryOp; refine wpAny_holding (wpAny_bind ?_)
  refine binop1_IK F X₀ I hp hc hs hr hf hfi hni slot entry args D (wpAny_mono h (fun v s' hv => ?_) fun _ _ e => e)
  cases v <;> first | exact hv.elim | exact wpAny_pure hv
/-- int < instance: the reflected comparison -/
theorem cmp_IK {op : CmpOp} {i : Int} {t : Tok} {id : String} {B : Builtin} {Q : Value → Shared → Prop} (hu : A.units < cLine) (F : Fr h₀ L s.heap m) (X₀ : K.In h₀) (I : InstAt s.heap x ox C od) (hp : ox.data = .plain)
    (hr : findIn K (.ref C) (cmpInfo op).2.2 = some (some (.ref f))) (hf : isFn K (.ref f) = true) (hni : subIn K (.ref C) (.type "int") = some false)
    (slot : Slot "int" (cmpInfo op).2.1 id) (entry : entryFor table id = some B) (args : ∀ a b, argsOk id ⟨[a, b], []⟩) (D : Decl B)
    (h : wpAny (model prog w) A (call (.ref f) [.ref x, .int i t]) (W.CmpBack Q) E s) : wpAny (model prog w) A (richCompare op (.int i t) (.ref x)) Q E s := by
  have X := X₀.keeps F.keep
  have hne : (Value.type "int" != Value.ref C) = true := by simp
  obtain ⟨oc, odd, odt, osl⟩ := ox
  simp only at hp
  subst hp
  have hx := I.at_
  have one : wpAny (model prog w) A (tryCompare (.ref x) (cmpInfo op).2.2 (.int i t)) (fun r s' => ∃ v, r = some v ∧ Q v s') E s := by
    unfold tryCompare
    refine wpAny_bind (ifBound_K X I hr hf (wpAny_mono h (fun v s' hv => ?_) fun _ _ e => e)); cases v <;> first | exact hv.elim | exact wpAny_pure ⟨_, rfl, hv⟩
  unfold richCompare
  have ho : oneThing? op (.int i t) (.ref x) = none := by cases op <;> rfl
  simp only [ho]; refine wpAny_holding (wpAny_bind (wpAny_cRoomFor hu ?_))
  refine wpAny_bind (wpAny_typeOf (typeIs_int s i t) (wpAny_bind (I.type.here ?_)))
  rw [if_pos hne]
  refine wpAny_bind ((looks_subIn X hni).here ?_); simp only [Bool.false_eq_true, if_false, Bool.not_false, if_true]
  refine wpAny_bind (wpAny_tryCompare_declines (typeIs_int s i t) slot (call_meets slot (typeIs_int s i t) entry (args _ _) (D i t x _ _ _) ⟨hx, ?_⟩))
  refine ⟨rfl, wpAny_bind (wpAny_mono one (fun r s' z => ?_) fun _ _ e => e)⟩
  obtain ⟨v, rfl, hq⟩ := z
  exact wpAny_pure hq
end
end HX
set_option Elab.async false
set_option linter.all false
set_option maxRecDepth 100000
set_option maxHeartbeats 4400000
namespace HX
open L2 PyProof.Rows PySem.Spec PySem
section
variable {X : Cx}
/-- what stands behind a method's call is never NotImplemented -/
theorem ep_back {pins : List (Addr × Obj)} {σ : L2.St} {Q : VK} {u : Value} {s' : Shared} (h : EP X pins σ Q u s') : PySem.W.CmpBack (EP X pins σ Q) u s' := by
  have h' := h
  obtain ⟨v, H', I', r, q⟩ := h
  have ne : u ≠ .notImplemented := by
    intro z
    subst z
    cases v <;> first | (obtain ⟨t, z⟩ := r; cases z; done) | cases r
  cases u <;> first | exact absurd rfl ne | exact h'
/-- the facts of an int's operator -/
structure IntOp (op : Operator) : Prop where
  fi : fillsNumberSlot (.type "int") op.info.2 = pure true
  ri : ∃ idr, typeLookup (.type "int") (dunderR op.info.2) = pure (some (.builtin idr))
  le : ∃ (id : String) (B : Builtin), Slot "int" (PySem.dunder op.info.2) id ∧ entryFor table id = some B ∧ (∀ a b, argsOk id ⟨[a, b], []⟩) ∧ Decl B
theorem io_add : IntOp .Add := ⟨F.fills_int_add, ⟨_, F.slot_int_radd.lookup⟩, _, _, F.slot_int_add, F.entry_int_add, F.args_int_add_2, decl_add⟩
theorem io_sub : IntOp .Sub := ⟨F.fills_int_sub, ⟨_, F.slot_int_rsub.lookup⟩, _, _, F.slot_int_sub, F.entry_int_sub, F.args_int_sub_2, decl_sub⟩
theorem io_mul : IntOp .Mult := ⟨F.fills_int_mul, ⟨_, F.slot_int_rmul.lookup⟩, _, _, F.slot_int_mul, F.entry_int_mul, F.args_int_mul_2, decl_mul⟩
theorem io_fdv : IntOp .FloorDiv := ⟨F.fills_int_floordiv, ⟨_, F.slot_int_rfloordiv.lookup⟩, _, _, F.slot_int_floordiv, F.entry_int_floordiv, F.args_int_floordiv_2, decl_floordiv⟩
structure IntCmp (op : CmpOp) : Prop where
  le : ∃ (id : String) (B : Builtin), Slot "int" (cmpInfo op).2.1 id ∧ entryFor table id = some B ∧ (∀ a b, argsOk id ⟨[a, b], []⟩) ∧ Decl B
theorem ic_eq : IntCmp .Eq := ⟨_, _, F.slot_int_eq, F.entry_int_eq, F.args_int_eq_2, decl_eq⟩
theorem ic_ne : IntCmp .NotEq := ⟨_, _, F.slot_int_ne, F.entry_int_ne, F.args_int_ne_2, decl_ne⟩
theorem ic_lt : IntCmp .Lt := ⟨_, _, F.slot_int_lt, F.entry_int_lt, F.args_int_lt_2, decl_lt⟩
theorem ic_le : IntCmp .LtE := ⟨_, _, F.slot_int_le, F.entry_int_le, F.args_int_le_2, decl_le⟩
theorem ic_gt : IntCmp .Gt := ⟨_, _, F.slot_int_gt, F.entry_int_gt, F.args_int_gt_2, decl_gt⟩
theorem ic_ge : IntCmp .GtE := ⟨_, _, F.slot_int_ge, F.entry_int_ge, F.args_int_ge_2, decl_ge⟩
/-- the class's own operator and its reflected one -/
structure ArC (K : PySem.W.Frag) (C : Addr) (op : Operator) (f g : Addr) : Prop where
  sf : PySem.W.selfFirst K C = true
  hs : PySem.W.findIn K (.ref C) (PySem.dunder op.info.2) = some (some (.ref f))
  hf : PySem.W.isFn K (.ref f) = true
  hr : PySem.W.findIn K (.ref C) (dunderR op.info.2) = some (some (.ref g))
  hg : PySem.W.isFn K (.ref g) = true
  n1 : PySem.W.subIn K (.type "int") (.ref C) = some false
  n2 : PySem.W.subIn K (.ref C) (.type "int") = some false
def isI (C : Addr) (H : Hp) (x : V) : Prop := ∃ a dx fs, x = .ref a ∧ H a = some (.ins C dx fs)
theorem isI_inst {pins : List (Addr × Obj)} {σ : L2.St} {H : Hp} {s : Shared} {C a dx : Addr} {fs : List (Str × V)} (I : Inv X pins σ H s) (e : H a = some (.ins C dx fs)) : ∃ od, PySem.W.InstAt s.heap a (PySem.W.instObj C dx) C od := by
  obtain ⟨mA, O, _⟩ := ins_get I.hok e
  obtain ⟨od, J, _⟩ := O.look
  exact ⟨_, J⟩
/-- x op y, one of the two at least an instance of the class at C, the other one too, or an int -/
def rOwn (C : Addr) (sp spR : Sp) (E : XK) : R2 := fun x y H Q => (isI C H x ∧ (isI C H y ∨ ∃ i, y = .int i) ∧ sp [x, y] H Q E) ∨ (isI C H y ∧ (∃ i, x = .int i) ∧ spR [y, x] H Q E)
theorem op_own {op : Operator} {CX : CXT} {C f g : Addr} {k : Nat} {fd gd : FuncData} {ps ps' : List Str} {sp spR : Sp} {E : XK} (IO : IntOp op) (T : ArC X.K C op f g) (F1 : FnOk X.prog X.w X.K X.mg X.base CX k f fd ps sp) (b1 : Binds X.K fd ps [])
    (F2 : FnOk X.prog X.w X.K X.mg X.base CX k g gd ps' spR) (b2 : Binds X.K gd ps' []) (hr : Room k X.A) (hx : Passes CX X E) : OpR X (binaryOp op) (rOwn C sp spR E) := by
  intro pins s σ H x y v u; intro Q I rx ry h
  obtain ⟨m, hF⟩ := I.fr
  rcases h with ⟨⟨a, dx, fs, rfl, ea⟩, hy, q⟩ | ⟨⟨b, dx, fs, rfl, eb⟩, ⟨i, rfl⟩, q⟩
  · obtain ⟨od, J⟩ := isI_inst I ea
    cases (id rx : v = Value.ref a)
    rcases hy with ⟨b, dy, gs, rfl, eb⟩ | ⟨i, rfl⟩
    · obtain ⟨od', J'⟩ := isI_inst I eb
      cases (id ry : u = Value.ref b)
      exact PySem.W.binop_K hF I.ok.mod.kin J J'.type T.sf T.hs T.hf (thn (run_fn (us := [.ref a, .ref b]) (vs := [.ref a, .ref b]) F1 hr b1 .nil hx I (.cons rfl (.cons rfl .nil)) q) fun u s' z => ep_back z)
    · obtain ⟨t, e⟩ := (show ∃ t, u = Value.int i t from ry)
      subst e
      obtain ⟨idr, ri⟩ := IO.ri
      exact binop_KI hF I.ok.mod.kin J T.sf T.hs T.hf T.hr IO.fi T.n1 ri (thn (run_fn (us := [.ref a, .int i t]) (vs := [.ref a, .int i]) F1 hr b1 .nil hx I (.cons rfl (.cons ⟨t, rfl⟩ .nil)) q) fun u s' z => ep_back z)
  · obtain ⟨od, J⟩ := isI_inst I eb
    cases (id ry : u = Value.ref b)
    obtain ⟨t, e⟩ := (show ∃ t, v = Value.int i t from rx)
    subst e
    obtain ⟨id, B, sl, en, ar, D⟩ := IO.le
    exact binop_IK hF I.ok.mod.kin J rfl T.sf T.hs T.hr T.hg IO.fi T.n2 sl en ar D (thn (run_fn (us := [.ref b, .int i t]) (vs := [.ref b, .int i]) F2 hr b2 .nil hx I (.cons rfl (.cons ⟨t, rfl⟩ .nil)) q) fun u s' z => ep_back z)
structure CmC (K : PySem.W.Frag) (C : Addr) (op : CmpOp) (f g : Addr) : Prop where
  hs : PySem.W.findIn K (.ref C) (cmpInfo op).2.1 = some (some (.ref f))
  hf : PySem.W.isFn K (.ref f) = true
  hr : PySem.W.findIn K (.ref C) (cmpInfo op).2.2 = some (some (.ref g))
  hg : PySem.W.isFn K (.ref g) = true
  nc : PySem.W.notFirst K C (.ref C) = true
  n1 : PySem.W.notFirst K C (.type "int") = true
  n2 : PySem.W.subIn K (.ref C) (.type "int") = some false
theorem op_cmpW {op : CmpOp} {CX : CXT} {C f g : Addr} {k : Nat} {fd gd : FuncData} {ps ps' : List Str} {sp spR : Sp} {E : XK} (IO : IntCmp op) (T : CmC X.K C op f g) (F1 : FnOk X.prog X.w X.K X.mg X.base CX k f fd ps sp) (b1 : Binds X.K fd ps [])
    (F2 : FnOk X.prog X.w X.K X.mg X.base CX k g gd ps' spR) (b2 : Binds X.K gd ps' []) (hr : Room k X.A) (hx : Passes CX X E) : OpR X (richCompare op) (rOwn C sp spR E) := by
  intro pins s σ H x y v u; intro Q I rx ry h
  obtain ⟨m, hF⟩ := I.fr
  have hu := hr.units0
  rcases h with ⟨⟨a, dx, fs, rfl, ea⟩, hy, q⟩ | ⟨⟨b, dx, fs, rfl, eb⟩, ⟨i, rfl⟩, q⟩
  · obtain ⟨od, J⟩ := isI_inst I ea
    cases (id rx : v = Value.ref a)
    rcases hy with ⟨b, dy, gs, rfl, eb⟩ | ⟨i, rfl⟩
    · obtain ⟨od', J'⟩ := isI_inst I eb
      cases (id ry : u = Value.ref b)
      exact PySem.W.cmp_K hu hF I.ok.mod.kin J J'.type T.nc T.hs T.hf (thn (run_fn (us := [.ref a, .ref b]) (vs := [.ref a, .ref b]) F1 hr b1 .nil hx I (.cons rfl (.cons rfl .nil)) q) fun u s' z => ep_back z)
    · obtain ⟨t, e⟩ := (show ∃ t, u = Value.int i t from ry)
      subst e
      exact PySem.W.cmp_K hu hF I.ok.mod.kin J (fun A Q E s k q => wpAny_typeOf (typeIs_int s i t) q) T.n1 T.hs T.hf (thn (run_fn (us := [.ref a, .int i t]) (vs := [.ref a, .int i]) F1 hr b1 .nil hx I (.cons rfl (.cons ⟨t, rfl⟩ .nil)) q) fun u s' z => ep_back z)
  · obtain ⟨od, J⟩ := isI_inst I eb
    cases (id ry : u = Value.ref b)
    obtain ⟨t, e⟩ := (show ∃ t, v = Value.int i t from rx)
    subst e
    obtain ⟨id, B, sl, en, ar, D⟩ := IO.le
    exact cmp_IK hu hF I.ok.mod.kin J rfl T.hr T.hg T.n2 sl en ar D (thn (run_fn (us := [.ref b, .int i t]) (vs := [.ref b, .int i]) F2 hr b2 .nil hx I (.cons rfl (.cons ⟨t, rfl⟩ .nil)) q) fun u s' z => ep_back z)
/-- -x of an own class -/
def rNegO (C : Addr) (sp : Sp) (E : XK) : V → Hp → VK → Prop := fun x H Q => isI C H x ∧ sp [x] H Q E
theorem un_negO {CX : CXT} {C f : Addr} {k : Nat} {fd : FuncData} {ps : List Str} {sp : Sp} {E : XK} (hs : PySem.W.findIn X.K (.ref C) "__neg__" = some (some (.ref f))) (hf : PySem.W.isFn X.K (.ref f) = true) (F1 : FnOk X.prog X.w X.K X.mg X.base CX k f fd ps sp)
    (b1 : Binds X.K fd ps []) (hr : Room k X.A) (hx : Passes CX X E) : UnR X (unaryOp .USub) (rNegO C sp E) := by
  intro pins s σ H x v Q I rx h
  obtain ⟨m, hF⟩ := I.fr
  obtain ⟨⟨a, dx, fs, rfl, ea⟩, q⟩ := h
  obtain ⟨od, J⟩ := isI_inst I ea
  cases (id rx : v = Value.ref a)
  exact PySem.W.ksp_neg hF I.ok.mod.kin J hs hf (run_fn (us := [.ref a]) (vs := [.ref a]) F1 hr b1 .nil hx I (.cons rfl .nil) q)
end
end HX
set_option Elab.async false
set_option linter.all false
set_option maxRecDepth 100000
set_option maxHeartbeats 4400000
namespace HX
open L2 PyProof.Rows PySem.Spec PySem
/-- a def's promise where no repr is under way around the call -/
structure FnG (P : Program) (w : World) (K : PySem.W.Frag) (mg : Str → Option Value) (base : Heap) (CX : CXT) (k : Nat) (f : Addr) (fd : FuncData) (ps : List Str) (sp : Sp) : Prop where
  ln : ∀ vs H Q E, sp vs H Q E → vs.length = ps.length
  go : ∀ (A : Around) (outer : List Env) (s : Shared) (H : Hp) (args : Args) (us : List Value) (vs : List V) (Q : VK) (E : XK), A.guards = some [] → Room k A → Env0 P w K mg base A outer s H → BindsTo s fd args (ps.zip us) → Vals vs us →
    sp vs H Q E → codeAny (model P w) A (.call (.ref f) args) (CR CX outer P w H s Q E) s
theorem FnG.of {P : Program} {w : World} {K : PySem.W.Frag} {mg : Str → Option Value} {base : Heap} {CX : CXT} {k : Nat} {f : Addr} {fd : FuncData} {ps : List Str} {sp : Sp} (F : FnOk P w K mg base CX k f fd ps sp) : FnG P w K mg base CX k f fd ps sp :=
  ⟨F.len, fun A o s H args us vs Q E _ => F.run A o s H args us vs Q E⟩
/-- a def by its body, for FnG; exceptions may leave -/
theorem okG {CX : CXT} {P : Program} {w : World} {K : PySem.W.Frag} {mg : Str → Option Value} {base : Heap} {x qual : Str} {st : Stmt} {f : Addr} {fd : FuncData} {N ps : List Str} {k : Nat} {sp : Sp} (F : Fun K x qual st f fd) (S : FnScope N ps (defScope st)) (len : ∀ vs H Q E, sp vs H Q E → vs.length = ps.length)
    (hbody : ∀ (cdv : Value) (A : Around) (outer : List Env) (s : Shared) (H : Hp) (vs : List V) (Q : VK) (E : XK), A.guards = some [] → Room k (A.deeper (envOfC qual (defScope st) s.heap.objs.size f cdv)) → sp vs H Q E →
      ∃ t, PSs (cxOf CX P w K mg base N qual (defScope st) f cdv A outer s H E) (defBody st) t ∧ t { nx := fun _ H' => Q .non H', rt := Q } (L2.start N vs) H) : FnG P w K mg base CX (k + 1) f fd ps sp := by
  let ⟨oc, od, kV, doc, pm, an, cdv, ct, osl, e0, lk, hcd⟩ := F.ex; subst e0
  exact ⟨len, fun A o s H args us vs Q E hg hr e0 hb r hsp => LamX.run_ofS lk hcd S hr e0 hb r (len _ _ _ _ hsp) fun hr' => hbody cdv A o s H vs Q E hg hr' hsp⟩
/-- .. no exception leaves -/
theorem okG0 {P : Program} {w : World} {K : PySem.W.Frag} {mg : Str → Option Value} {base : Heap} {x qual : Str} {st : Stmt} {f : Addr} {fd : FuncData} {N ps : List Str} {k : Nat} {sp : Sp} (F : Fun K x qual st f fd) (S : FnScope N ps (defScope st)) (len : ∀ vs H Q E, sp vs H Q E → vs.length = ps.length)
    (hbody : ∀ (cdv : Value) (A : Around) (outer : List Env) (s : Shared) (H : Hp) (vs : List V) (Q : VK) (E : XK), A.guards = some [] → Room k (A.deeper (envOfC qual (defScope st) s.heap.objs.size f cdv)) → sp vs H Q E →
      ∃ t, PSs (cxOf CX0 P w K mg base N qual (defScope st) f cdv A outer s H E).nox (defBody st) t ∧ t { nx := fun _ H' => Q .non H', rt := Q } (L2.start N vs) H) : FnG P w K mg base CX0 (k + 1) f fd ps sp :=
  okG F S len fun cdv A outer s H vs Q E hg hr h => let ⟨t, p, q⟩ := hbody cdv A outer s H vs Q E hg hr h; ⟨t, p.nox, q⟩
section
variable {sp : Sp} {CX : CXT} {X : Cx} {k : Nat} {f C : Addr} {fd : FuncData} {ps : List Str} {dvs : List V} {ds : List Value} {E : XK} {x m : Str} {p pos apos : Pos} {e o : Expr} {es : List Expr} {ta : TE} {t : TA}
theorem run_g {pins : List (Addr × Obj)} {σ : L2.St} {H : Hp} {s : Shared} {Q : VK} {us : List Value} {vs : List V} (hgd : X.A.guards = some []) (F : FnG X.prog X.w X.K X.mg X.base CX k f fd ps sp) (hr : Room k X.A) (hb : Binds X.K fd ps ds) (hd : Vals dvs ds) (hx : Passes CX X E)
    (I : L2.Inv X pins σ H s) (r : Vals vs us) (h : sp (vs ++ dvs) H Q E) : wpAny (model X.prog X.w) X.A (call (.ref f) us) (EP X pins σ Q) X.xe s := by
  have rr : Vals (vs ++ dvs) (us ++ ds) := r.append hd; have hl : (us ++ ds).length = ps.length := rr.length.symm.trans (F.ln _ _ _ _ h)
  refine wpAny_call (codeAny_mono (F.go X.A X.stack s H ⟨us, []⟩ (us ++ ds) (vs ++ dvs) Q E hgd hr I.env0 (hb s us I.kIn hl) rr h) fun z s' hq => ?_)
  match z, hq with
  | .error er, hq => exact hx pins σ H s er s' I hq
  | .ok (.ret u), hq => exact I.after hq
  | .ok .next, hq => exact False.elim hq
  | .ok .brk, hq => exact False.elim hq
  | .ok .cont, hq => exact False.elim hq
theorem pe_callG (hgd : X.A.guards = some []) (F : FnG X.prog X.w X.K X.mg X.base CX k f fd ps sp) (hr : Room k X.A) (hg : Gl X x) (hm : X.mg x = some (.ref f)) (hk : PySem.W.keepIn X.K (.ref f) = true) (hb : Binds X.K fd ps ds) (hd : Vals dvs ds) (hx : Passes CX X E) (ha : PA X (e :: es) t)
    (hdb : (x == ("__debug__" : Str)) = false := by decide) (he : starEach (e :: es) X.env = (false, eval e X.env) :: starEach es X.env := by rfl) (hpl : (backTo pos (starEach es X.env)).any (·.1) = false := by rfl) :
    PE X (.Call (.Name x p) (e :: es) [] pos) (tCall sp dvs E t) := ⟨fun pins s σ H Q I h => wpAny_Call_Name_kw (ld_glob I hg hm (PySem.W.callWith_K (h₀ := X.base) I.ok.mod.kin hk (thn (ha.run pos pins s σ H _ I h) fun us s1 z => by
      obtain ⟨vs, H1, I1, r, q⟩ := z; exact ⟨I1.kIn, run_g hgd F hr hb hd hx I1 r q⟩) he hpl) hdb)⟩
end
/-- data at any depth, dicts too -/
inductive Dq (K : PySem.W.Frag) (H : Hp) : V → PyData → Prop
  | non : Dq K H .non .none
  | bl (b : Bool) : Dq K H (.bl b) (.bool b)
  | int (i : Int) : Dq K H (.int i) (.int i)
  | str (x : Str) : Dq K H (.str x) (.str x)
  | lst {a : Addr} {xs : List V} {ds : List PyData} : SqL K H a xs → xs.length = ds.length → (∀ (i : Nat) (v : V) (d : PyData), xs[i]? = some v → ds[i]? = some d → Dq K H v d) → Dq K H (.ref a) (.list ds)
  | tup {a : Addr} {xs : List V} {ds : List PyData} : SqT K H a xs → xs.length = ds.length → (∀ (i : Nat) (v : V) (d : PyData), xs[i]? = some v → ds[i]? = some d → Dq K H v d) → Dq K H (.ref a) (.tuple ds)
section
variable {H : Hp} {X : Cx} {σ : L2.St} {pins : List (Addr × Obj)} {s : Shared}
theorem readsAll_of {h : Heap} : ∀ {us : List Value} {ds : List PyData}, us.length = ds.length → (∀ (i : Nat) (u : Value) (d : PyData), us[i]? = some u → ds[i]? = some d → ∃ as, Reads h u d as) → ∃ as, ReadsAll h us ds as
  | [], [], _, _ => ⟨_, .nil⟩
  | [], _ :: _, z, _ | _ :: _, [], z, _ => by simp at z
  | u :: us, d :: ds, hl, h => by
    obtain ⟨as, q1⟩ := h 0 u d rfl rfl
    obtain ⟨bs, q2⟩ := readsAll_of (us := us) (ds := ds) (by simpa using hl) fun i u d e1 e2 => h (i + 1) u d (by simpa using e1) (by simpa using e2)
    exact ⟨_, .cons q1 q2⟩
theorem Dq.reads (I : L2.Inv X pins σ H s) {v : V} {d : PyData} (h : Dq X.K H v d) : ∀ u, RelV v u → ∃ as, Reads s.heap u d as := by
  induction h with
  | non => intro u r; cases r; exact ⟨_, .none⟩
  | bl b => intro u r; cases r; exact ⟨_, .bool b⟩
  | int i => intro u r; obtain ⟨t, rfl⟩ := r; exact ⟨_, .int i t⟩
  | str x => intro u r; obtain ⟨t, rfl⟩ := r; exact ⟨_, .str x t⟩
  | @lst a xs ds hs hl hi ih =>
    intro u r
    cases r
    obtain ⟨its, rv, ⟨o, m, ho, hc, _, hd⟩, _⟩ := I.list hs
    obtain ⟨as, q⟩ := readsAll_of (h := s.heap) (us := its) (ds := ds) (rv.length.symm.trans hl) fun i u d e1 e2 => by
      obtain ⟨v, hv⟩ : ∃ v, xs[i]? = some v := ⟨_, List.getElem?_eq_getElem (by have := (List.getElem?_eq_some_iff.mp e1).1; rw [rv.length]; exact this)⟩
      obtain ⟨u', hu, ru⟩ := rv.get hv; rw [e1] at hu; cases hu
      exact ih i v d hv e2 u ru
    exact ⟨_, .list ho hc hd q⟩
  | @tup a xs ds hs hl hi ih =>
    intro u r
    cases r
    obtain ⟨its, rv, ⟨o, ho, hc, m, hd⟩, _⟩ := I.tuple hs
    obtain ⟨as, q⟩ := readsAll_of (h := s.heap) (us := its) (ds := ds) (rv.length.symm.trans hl) fun i u d e1 e2 => by
      obtain ⟨v, hv⟩ : ∃ v, xs[i]? = some v := ⟨_, List.getElem?_eq_getElem (by have := (List.getElem?_eq_some_iff.mp e1).1; rw [rv.length]; exact this)⟩
      obtain ⟨u', hu, ru⟩ := rv.get hv; rw [e1] at hu; cases hu
      exact ih i v d hv e2 u ru
    exact ⟨_, .tuple ho hc hd q⟩
end
section
variable {X : Cx}
/-- repr of such data -/
def rRepr (K : PySem.W.Frag) : List V → Hp → VK → Prop := fun xs H Q => ∃ v d, xs = [v] ∧ Dq K H v d ∧ d.showable = true ∧ d.hasDict = false ∧ d.depth ≤ 60 ∧ d.shown.length ≤ sizeLine ∧ Q (.str d.shown) H
theorem call_reprD (hgd : X.A.guards = some []) (hu : X.A.units + 64 < cLine) : CallR X (.builtin "repr") (rRepr X.K) := by
  intro pins s σ H xs us; intro Q I r h
  obtain ⟨v, d, rfl, hd, hs, hn, hp, hz, q⟩ := h
  cases r with
  | cons r1 r2 =>
    cases r2
    rename_i u
    obtain ⟨as, hr⟩ := hd.reads I u r1
    have fin : ∀ h' t tk, (∀ b o, s.heap.get? b = some o → h'.get? b = some o) → EP X pins σ Q (.str d.shown t) { s with heap := h', toks := tk } := fun h' t tk k => ⟨.str d.shown, H, I.kept k, ⟨_, rfl⟩, q⟩
    cases hr with
    | none => exact PySem.P.repr_of_none (fin _ _ _ fun _ _ z => z)
    | bool b => exact PySem.P.repr_of_bool (fin _ _ _ fun _ _ z => z)
    | int i t => exact PySem.P.repr_of_int (by simpa [PyData.showable] using hs) (fin _ _ _ fun _ _ z => z)
    | str x t => exact PySem.P.repr_of_str (fin _ _ _ fun _ _ z => z)
    | list h1 h2 h3 h4 => exact repr_of_reads' (.list h1 h2 h3 h4) hs (fun z => by rw [hn] at z; cases z) hgd (by omega) (fun _ _ z => z) (fun h' u tk k => fin h' u tk k) hz
    | tuple h1 h2 h3 h4 => exact repr_of_reads' (.tuple h1 h2 h3 h4) hs (fun z => by rw [hn] at z; cases z) hgd (by omega) (fun _ _ z => z) (fun h' u tk k => fin h' u tk k) hz
    | dict h1 h2 h3 h4 h5 => simp [PyData.hasDict] at hn
end
end HX
set_option Elab.async false
set_option linter.all false
set_option maxRecDepth 100000
set_option maxHeartbeats 4400000
namespace HX
open L2 PyProof.Rows PySem.Spec PySem
theorem ints_vals : ∀ {vs : List Value} {ns : List Int}, IntsAre vs ns → Vals (ns.map V.int) vs
  | _, _, .nil => Paired.nil
  | _, _, .cons n t h => Paired.cons ⟨t, rfl⟩ (ints_vals h)
/-- the law's call from its promise (a def that may be called where no repr is under way); H: the script alone, or nothing -/
theorem lawG_core {P : Program} {w : World} {K : PySem.W.Frag} {mg mb : Str → Option Value} {CX : CXT} {k : Nat} {fa a : Addr} {fd : FuncData} {x : Str} {sp : Sp} {s1 : Shared} {vs : List Value} {H : Hp}
    (KX : K.In s1.heap) (hns : s1.heap.Ns mainGlobals mg) (hb : s1.heap.Ns builtinsNs mb) (hbb : ∀ x : Str, x ≠ "__name__" → mb x = bootBuiltins x) (hlim : s1.heap.NoLimit) (hg : s1.gens = #[])
    (ha : s1.heap.get? a = some { cls := .type "list", data := .seq vs.toArray }) (hr : Room k callerA)
    (F : ∀ base : Heap, K.In base → base.Ns mainGlobals mg → FnG P w K mg base CX k fa fd [x] sp) (hbind : ∀ (s : Shared) (u : Value), BindsTo s fd ⟨[u], []⟩ [(x, u)])
    (hsp : sp [.ref a] H (fun v _ => v = .bl true) fun _ _ _ => False) (hCX : ∀ e s', CX [] H s1 (fun _ _ _ => False) e s' → False)
    (hO : ∀ b u, H b = some u → b = a ∧ ∃ o xs, u = .frz o (.lst xs)) (hok : HOk P w H s1.heap) (hK : ∀ u, H a = some u → K.lookup a = none) :
    codeAny (model P w) callerA (.call (.ref fa) ⟨[.ref a], []⟩) (fun r s' => r = .ok (.ret (.bool true)) ∧ OldK s1.heap s'.heap ∧ s'.os = s1.os ∧ AllBare s'.gens) s1 := by
  have un : ∀ {b : Addr}, b ≠ a → H b = none := fun {b} z => by
    cases q : H b with
    | none => rfl
    | some u => exact absurd (hO b u q).1 z
  have nsK : ∀ {b : Addr} {m : Str → Option Value}, s1.heap.Ns b m → (hidT s1.heap H).Ns b m := fun {b m} ⟨o, es, ep, e, d, r⟩ => by
    refine ⟨o, es, ep, hidT_get e (un fun z => ?_), d, r⟩
    rw [z, ha] at e
    cases e
    cases d
  have inB : K.In (hidT s1.heap H) := fun b o e => hidT_get (KX b o e) (by
    cases q : H b with
    | none => rfl
    | some u =>
      have y := (hO b u q).1
      subst y
      have y2 : K.lookup b = none := hK u q
      rw [show K.lookup b = some o from e] at y2
      cases y2)
  obtain ⟨mc, l1, l2⟩ := hlim
  have e0 : Env0 P w K mg (hidT s1.heap H) callerA [] s1 H := ⟨rfl, ⟨inB, nsK hns, ⟨mb, nsK hb, hbb⟩, ⟨mc, nsK l1, l2⟩⟩, fun b o e => of_hidT e, Nat.le_of_eq (hidT_size _ _), trivial, fun b z => absurd (show b ∈ ([] : List Addr) from z) List.not_mem_nil, hok, .of_eq hg⟩
  refine codeAny_mono ((F _ inB (nsK hns)).go callerA [] s1 H ⟨[.ref a], []⟩ [.ref a] [.ref a] _ _ rfl hr e0 (hbind s1 (.ref a)) (.cons rfl .nil) hsp) fun r s' h => ?_
  match r, h with
  | .error e, h => exact (hCX e s' h).elim
  | .ok .next, h => exact False.elim h
  | .ok .brk, h => exact False.elim h
  | .ok .cont, h => exact False.elim h
  | .ok (.ret u), h =>
    obtain ⟨v, H', os, bare, U, hok', r', q⟩ := h
    obtain rfl : v = .bl true := q
    have ru : u = Value.bool true := r'; subst ru; refine ⟨rfl, OldK.of_keep fun b o e => ?_, os, bare⟩
    cases q : H b with
    | none => exact U.keep b o e q (fun z => absurd (show b ∈ ([] : List Addr) from z) List.not_mem_nil) List.not_mem_nil
    | some u =>
      obtain ⟨_, ob, xs, z⟩ := hO b u q
      subst z
      have y1 := (hok b _ q).1
      have y2 := (hok' b _ (U.frzs b ob _ q)).1
      rw [e] at y1
      cases y1
      exact y2
theorem walk_G {l : PySem.W.OpenLaw} {n k : Nat} {q : Program} {loose : List Str} {XP : (Str → Option Value) → Heap → Prop} {YP : World → Heap → Prop} {d : DefRec} {K : Params → PySem.W.Frag} {CX : World → CXT} {sp : World → Sp} {x : Str}
    (hn : l.most = some n) (hn2 : n ≤ sizeLine) (hdf : d.params.defaults = []) (hr : Room k callerA) (hY : ∀ (v : World) (h : Heap), YP v h → (K v.params).In h)
    (F : ∀ (w : World) (m : Str → Option Value) (fa : Addr) (h : Heap), (K w.params).In h → h.Ns mainGlobals m → m d.name = some (.ref fa) →
      ∃ fd : FuncData, (∀ (s : Shared) (u : Value), BindsTo s fd ⟨[u], []⟩ [(x, u)]) ∧ ∀ base : Heap, (K w.params).In base → base.Ns mainGlobals m → FnG l.prog w (K w.params) m base (CX w) k fa fd [x] (sp w))
    (hsp : ∀ (w : World) (H : Hp) (a : Addr) (ns : List Int), ns.length ≤ n → SqL (K w.params) H a (ns.map V.int) → (∀ b u, H b = some u → b = a) → sp w [.ref a] H (fun v _ => v = .bl true) fun _ _ _ => False)
    (hCX : ∀ (w : World) (G : Hp) (s : Shared) (e : Value) (s' : Shared), CX w [] G s (fun _ _ _ => False) e s' → False) : PySem.W.WalkO q loose XP YP l.row.toRowW d [] (fun f vs => PySem.call f vs) := by
  refine Att.attach_call hn hdf fun w s0 s1 mg mb fa o pm cd doc a vs ns G Y ho hd hcd hmg hobj hints hlen hgen => ?_
  have KX := hY w _ Y; obtain ⟨fd, hb, hF⟩ := F w mg fa _ KX G.T.g hmg
  have rv := ints_vals hints; have lv := hints.length
  cases hk : (K w.params).lookup a with
  | some o' =>
    have e := KX a o' hk
    rw [hobj] at e
    cases e
    exact lawG_core (H := fun _ => none) KX G.T.g G.T.b G.T.builtins G.T.nolimit hgen hobj hr hF hb (hsp w _ a ns hlen (.inr ⟨_, vs.toArray, _, hk, rfl, rfl, rfl, by rw [List.size_toArray, lv]; exact Nat.le_trans hlen hn2, by simpa using rv⟩) fun b u z => by cases z)
      (fun e s' => hCX w _ s1 e s') (fun b u z => by cases z) (fun b u z => by cases z) fun u z => by cases z
  | none =>
    have at_ : ∀ {b u}, (fun b => if b = a then some (HO.frz { cls := .type "list", data := .seq vs.toArray } (.lst (ns.map V.int))) else none) b = some u → b = a ∧ u = HO.frz { cls := .type "list", data := .seq vs.toArray } (.lst (ns.map V.int)) := fun {b u} z => by
      by_cases hba : b = a
      · exact ⟨hba, (Option.some.inj ((if_pos hba).symm.trans z)).symm⟩
      · exact absurd ((if_neg hba).symm.trans z) (fun y => nomatch y)
    refine lawG_core (H := fun b => if b = a then some (.frz { cls := .type "list", data := .seq vs.toArray } (.lst (ns.map V.int))) else none) KX G.T.g G.T.b G.T.builtins G.T.nolimit hgen hobj hr hF hb
      (hsp w _ a ns hlen (.inl (.inr ⟨_, if_pos rfl⟩)) fun b u z => (at_ z).1) (fun e s' => hCX w _ s1 e s') (fun b u z => ⟨(at_ z).1, _, _, (at_ z).2⟩) (fun b u z => ?_) fun _ _ => hk
    obtain ⟨e1, e2⟩ := at_ z
    subst e1
    subst e2
    exact ⟨hobj, by rw [List.length_map]; exact Nat.le_trans hlen hn2, vs, _, rv, hobj⟩
end HX
set_option Elab.async false
set_option linter.all false
set_option maxRecDepth 100000
set_option maxHeartbeats 4400000
namespace HX
open L2 PyProof.Rows PySem.Spec PySem
section
variable {X : Cx} {CX : CXT} {C f g : Addr} {k : Nat} {fd gd : FuncData} {ps ps' : List Str} {sp spR : Sp} {E : XK}
theorem op_eqN (T : CmC X.K C .Eq f g) (F1 : FnOk X.prog X.w X.K X.mg X.base CX k f fd ps sp) (b1 : Binds X.K fd ps []) (F2 : FnOk X.prog X.w X.K X.mg X.base CX k g gd ps' spR) (b2 : Binds X.K gd ps' []) (hr : Room k X.A) (hx : Passes CX X E) :
    OpR X (compareOp .Eq) (rOwn C sp spR E) := fun pins s σ H x y v u Q I rx ry h => op_cmpW ic_eq T F1 b1 F2 b2 hr hx pins s σ H x y v u Q I rx ry h
theorem op_neN (T : CmC X.K C .NotEq f g) (F1 : FnOk X.prog X.w X.K X.mg X.base CX k f fd ps sp) (b1 : Binds X.K fd ps []) (F2 : FnOk X.prog X.w X.K X.mg X.base CX k g gd ps' spR) (b2 : Binds X.K gd ps' []) (hr : Room k X.A) (hx : Passes CX X E) :
    OpR X (compareOp .NotEq) (rOwn C sp spR E) := fun pins s σ H x y v u Q I rx ry h => op_cmpW ic_ne T F1 b1 F2 b2 hr hx pins s σ H x y v u Q I rx ry h
theorem op_ltN (T : CmC X.K C .Lt f g) (F1 : FnOk X.prog X.w X.K X.mg X.base CX k f fd ps sp) (b1 : Binds X.K fd ps []) (F2 : FnOk X.prog X.w X.K X.mg X.base CX k g gd ps' spR) (b2 : Binds X.K gd ps' []) (hr : Room k X.A) (hx : Passes CX X E) :
    OpR X (compareOp .Lt) (rOwn C sp spR E) := fun pins s σ H x y v u Q I rx ry h => op_cmpW ic_lt T F1 b1 F2 b2 hr hx pins s σ H x y v u Q I rx ry h
theorem op_leN (T : CmC X.K C .LtE f g) (F1 : FnOk X.prog X.w X.K X.mg X.base CX k f fd ps sp) (b1 : Binds X.K fd ps []) (F2 : FnOk X.prog X.w X.K X.mg X.base CX k g gd ps' spR) (b2 : Binds X.K gd ps' []) (hr : Room k X.A) (hx : Passes CX X E) :
    OpR X (compareOp .LtE) (rOwn C sp spR E) := fun pins s σ H x y v u Q I rx ry h => op_cmpW ic_le T F1 b1 F2 b2 hr hx pins s σ H x y v u Q I rx ry h
theorem op_gtN (T : CmC X.K C .Gt f g) (F1 : FnOk X.prog X.w X.K X.mg X.base CX k f fd ps sp) (b1 : Binds X.K fd ps []) (F2 : FnOk X.prog X.w X.K X.mg X.base CX k g gd ps' spR) (b2 : Binds X.K gd ps' []) (hr : Room k X.A) (hx : Passes CX X E) :
    OpR X (compareOp .Gt) (rOwn C sp spR E) := fun pins s σ H x y v u Q I rx ry h => op_cmpW ic_gt T F1 b1 F2 b2 hr hx pins s σ H x y v u Q I rx ry h
theorem op_geN (T : CmC X.K C .GtE f g) (F1 : FnOk X.prog X.w X.K X.mg X.base CX k f fd ps sp) (b1 : Binds X.K fd ps []) (F2 : FnOk X.prog X.w X.K X.mg X.base CX k g gd ps' spR) (b2 : Binds X.K gd ps' []) (hr : Room k X.A) (hx : Passes CX X E) :
    OpR X (compareOp .GtE) (rOwn C sp spR E) := fun pins s σ H x y v u Q I rx ry h => op_cmpW ic_ge T F1 b1 F2 b2 hr hx pins s σ H x y v u Q I rx ry h
/-- i ** j, of an i that is neither -1, 0 nor 1, the result below 2 ^ 100000 -/
def CPowW (i j : Int) : Prop := 2 ≤ i ∧ 0 < j ∧ Builtin.Int.intTooBig (((Builtin.Int.intBits i : Nat) : Int) * j) = false
theorem op_powW : OpR X (binaryOp .Pow) (rI CPowW fun i j => .int (i ^ j.toNat)) := opI fun i j t u s Q E hc q => by
  obtain ⟨h1, h2, h3⟩ := hc
  have h4 : ¬ ((i == 0 || i == 1) = true) := by simp; omega
  have h5 : ¬ ((i == -1) = true) := by simp; omega
  exact AutoIntOps.pow_4 (by omega) (by simp; omega) h4 h5 (by rw [h3]; decide) q
end
/-- all that was known is known -/
abbrev Ex (H H' : Hp) : Prop := ∀ a o, H a = some o → H' a = some o
/-- .. but what stood at p -/
abbrev XB (p : Addr) (H H' : Hp) : Prop := ∀ a o, a ≠ p → H a = some o → H' a = some o
theorem Ex.rf (H : Hp) : Ex H H := fun _ _ h => h
theorem Ex.tr {H H1 H2 : Hp} (a : Ex H H1) (b : Ex H1 H2) : Ex H H2 := fun c o h => b c o (a c o h)
theorem Ex.nw {H : Hp} {p : Addr} {o : HO} (h : H p = none) : Ex H (upd H p o) := fun a u e => by rw [upd_ne (ne_of_none e h)]; exact e
theorem Ex.fr {H H' : Hp} {p : Addr} (e : Ex H H') (h : H' p = none) : H p = none := by
  cases q : H p with
  | none => rfl
  | some o => rw [e p o q] at h; cases h
theorem Ex.xb {H H' : Hp} {p : Addr} (e : Ex H H') : XB p H H' := fun a o _ h => e a o h
theorem XB.tr {H H1 H2 : Hp} {p : Addr} (a : XB p H H1) (b : XB p H1 H2) : XB p H H2 := fun c o n h => b c o n (a c o n h)
theorem XB.wr {H : Hp} {p : Addr} {o : HO} : XB p H (upd H p o) := fun a u n e => by rw [upd_ne n]; exact e
theorem XB.fr {H H' : Hp} {p q : Addr} {o : HO} (e : XB p H H') (hp : H' p = some o) (h : H' q = none) : H q = none := by
  cases z : H q with
  | none => rfl
  | some u =>
    by_cases y : q = p
    · rw [y, hp] at h; cases h
    · rw [e q u y z] at h; cases h
theorem if_dec {p : Prop} [Decidable p] {A B : Prop} (h1 : p → A) (h2 : ¬ p → B) : if decide p = true then A else B := by
  by_cases h : p
  · rw [decide_eq_true h]; exact iteT (h1 h)
  · rw [decide_eq_false h]; exact iteF (h2 h)
theorem if_eq {b c : Bool} {A B : Prop} (e : b = c) (h : if c = true then A else B) : if b = true then A else B := by rw [e]; exact h
theorem if_true {b : Bool} {A B : Prop} (e : b = true) (h : A) : if b = true then A else B := by rw [e]; exact iteT h
theorem if_false {b : Bool} {A B : Prop} (e : b = false) (h : B) : if b = true then A else B := by rw [e]; exact iteF h
end HX
set_option Elab.async false
set_option linter.all false
set_option maxRecDepth 100000
set_option maxHeartbeats 4400000
namespace HX
open L2 PyProof.Rows PySem.Spec PySem
/-- data whose repr is asked -/
structure Fine (d : PyData) : Prop where
  sh : d.showable = true
  nd : d.hasDict = false
  dp : d.depth ≤ 60
  ln : d.shown.length ≤ sizeLine
theorem sh_int {i : Int} (h0 : -1000000 ≤ i) (h1 : i ≤ 1000000) : (PyData.int i).showable = true := by
  unfold PyData.showable
  have h : i.natAbs < 2 ^ 64 := by omega
  have h2 : i.natAbs.log2 < 64 := PySem.Flt.log2_lt_of (by decide) h
  first | exact decide_eq_true (by omega)
theorem ls_int {i : Int} (h0 : -1000000 ≤ i) (h1 : i ≤ 1000000) : (PyData.int i).leavesShort 13 = true := by
  have h := PyData.shown_int_le (i := i) (by omega)
  unfold PyData.leavesShort
  simpa [PyData.shown] using h
/-- a flat item -/
inductive Flat : PyData → Prop
  | non : Flat .none
  | bl (b : Bool) : Flat (.bool b)
  | int (i : Int) (h0 : -1000000 ≤ i) (h1 : i ≤ 1000000) : Flat (.int i)
  | str (x : Str) (h : x.cps.size ≤ 60) (hc : (x.cps.toList.all fun c => decide (c < 16 ^ 8)) = true) : Flat (.str x)
theorem Flat.all {ds : List PyData} (h : ∀ d ∈ ds, Flat d) : PyData.showableAll ds = true ∧ PyData.hasDictAll ds = false ∧ PyData.leavesShortAll 13 ds = true ∧ PyData.depthAll ds ≤ 1 ∧ PyData.weightAll ds ≤ 70 * ds.length := by
  induction ds with
  | nil => simp [PyData.showableAll, PyData.hasDictAll, PyData.leavesShortAll, PyData.depthAll, PyData.weightAll]
  | cons d ds ih =>
    obtain ⟨i1, i2, i3, i4, i5⟩ := ih fun x hx => h x (List.mem_cons_of_mem _ hx)
    have hd := h d List.mem_cons_self
    simp only [PyData.showableAll, PyData.hasDictAll, PyData.leavesShortAll, PyData.depthAll, PyData.weightAll, i1, i2, i3, Bool.and_true, Bool.or_false, List.length_cons]
    cases hd with
    | non => simp [PyData.showable, PyData.hasDict, PyData.leavesShort, PyData.depth, PyData.weight]; omega
    | bl b => simp [PyData.showable, PyData.hasDict, PyData.leavesShort, PyData.depth, PyData.weight]; omega
    | int i h0 h1 =>
      have h2 : i.natAbs.log2 < 64 := PySem.Flt.log2_lt_of (by decide) (by omega : i.natAbs < 2 ^ 64)
      simp only [sh_int h0 h1, PyData.hasDict, ls_int h0 h1, PyData.depth, PyData.weight]
      refine ⟨by first | rfl | trivial, by first | rfl | trivial, by first | rfl | trivial, by omega, ?_⟩
      split <;> omega
    | str x hx hc =>
      simp only [PyData.showable, PyData.hasDict, PyData.leavesShort, PyData.depth, PyData.weight, hc]
      refine ⟨by first | rfl | trivial, by first | rfl | trivial, by first | rfl | trivial, by omega, by omega⟩
theorem fine_list {ds : List PyData} (h : ∀ d ∈ ds, Flat d) (hl : ds.length ≤ 1000) : Fine (.list ds) := by
  obtain ⟨h1, h2, h3, h4, h5⟩ := Flat.all h
  refine ⟨by simp only [PyData.showable, h1], by simp only [PyData.hasDict, h2], by simp only [PyData.depth]; omega, PyData.shown_fits (B := 13) (by decide) (by decide) (by simp only [PyData.leavesShort, h3]) (by simp only [PyData.weight]; omega)⟩
theorem fine_tup {ds : List PyData} (h : ∀ d ∈ ds, Flat d) (hl : ds.length ≤ 1000) : Fine (.tuple ds) := by
  obtain ⟨h1, h2, h3, h4, h5⟩ := Flat.all h
  refine ⟨by simp only [PyData.showable, h1], by simp only [PyData.hasDict, h2], by simp only [PyData.depth]; omega, PyData.shown_fits (B := 13) (by decide) (by decide) (by simp only [PyData.leavesShort, h3]) (by simp only [PyData.weight]; omega)⟩
theorem fine_non : Fine .none := ⟨rfl, rfl, by decide, by simp only [PyData.shown]; decide +kernel⟩
theorem fine_bl (b : Bool) : Fine (.bool b) := ⟨rfl, rfl, by simp [PyData.depth], by cases b <;> simp only [PyData.shown] <;> decide +kernel⟩
theorem flat_zero : Flat (.str "zero") := .str _ (by decide +kernel) (by decide +kernel)
/-- flat values and their data -/
def fl : V → PyData
  | .non => .none
  | .bl b => .bool b
  | .int i => .int i
  | .str x => .str x
  | _ => .none
def isFl : V → Bool
  | .non | .bl _ | .int _ | .str _ => true
  | _ => false
theorem dq_fl {K : PySem.W.Frag} {H : Hp} {v : V} (h : isFl v = true) : Dq K H v (fl v) := by
  cases v <;> first | exact .non | exact .bl _ | exact .int _ | exact .str _ | cases h
theorem dq_items {K : PySem.W.Frag} {H : Hp} {xs : List V} (h : xs.all isFl = true) : ∀ (i : Nat) (v : V) (d : PyData), xs[i]? = some v → (xs.map fl)[i]? = some d → Dq K H v d := fun i v d e1 e2 => by
  rw [List.getElem?_map, e1] at e2
  cases e2
  exact dq_fl (List.all_eq_true.mp h v (List.mem_of_getElem? e1))
theorem dq_lst {K : PySem.W.Frag} {H : Hp} {a : Addr} {xs : List V} (e : H a = some (.lst xs)) (h : xs.all isFl = true) : Dq K H (.ref a) (.list (xs.map fl)) := .lst (SqL.of e) (by rw [List.length_map]) (dq_items h)
theorem dq_tup {K : PySem.W.Frag} {H : Hp} {a : Addr} {xs : List V} (e : H a = some (.tup xs)) (h : xs.all isFl = true) : Dq K H (.ref a) (.tuple (xs.map fl)) := .tup (SqT.of e) (by rw [List.length_map]) (dq_items h)
end HX
set_option Elab.async false
set_option linter.all false
set_option maxRecDepth 100000
set_option maxHeartbeats 4400000
namespace K00
open PySem PySem.Spec PyProof.Rows L2 HX
open PySem.W (Frag)

def topS (i : Nat) : Stmt := PySem.Challenge.pw_tapedonce_k00_signs_and_comparisons_of_n.main.body.getD i (.Pass ⟨0, 0, 0, 0⟩)
abbrev s_BadSize_init : Stmt := inClass (topS 2) 0
abbrev N_BadSize_init : List Str := ["self", "value"]
theorem sc_BadSize_init : FnScope N_BadSize_init ["self", "value"] (defScope s_BadSize_init) := ⟨rfl, rfl, rfl, by decide +kernel, rfl, by decide +kernel, by decide +kernel⟩
abbrev s_BadWorth_init : Stmt := inClass (topS 3) 0
abbrev N_BadWorth_init : List Str := ["self", "value"]
theorem sc_BadWorth_init : FnScope N_BadWorth_init ["self", "value"] (defScope s_BadWorth_init) := ⟨rfl, rfl, rfl, by decide +kernel, rfl, by decide +kernel, by decide +kernel⟩
abbrev s_Fault_init : Stmt := inClass (topS 4) 0
abbrev N_Fault_init : List Str := ["self", "words"]
theorem sc_Fault_init : FnScope N_Fault_init ["self", "words"] (defScope s_Fault_init) := ⟨rfl, rfl, rfl, by decide +kernel, rfl, by decide +kernel, by decide +kernel⟩
abbrev s_is_whole : Stmt := topS 6
abbrev N_is_whole : List Str := ["value", "low", "below"]
theorem sc_is_whole : FnScope N_is_whole ["value", "low", "below"] (defScope s_is_whole) := ⟨rfl, rfl, rfl, by decide +kernel, rfl, by decide +kernel, by decide +kernel⟩
abbrev s_is_size : Stmt := topS 7
abbrev N_is_size : List Str := ["value"]
theorem sc_is_size : FnScope N_is_size ["value"] (defScope s_is_size) := ⟨rfl, rfl, rfl, by decide +kernel, rfl, by decide +kernel, by decide +kernel⟩
abbrev s_Number_init : Stmt := inClass (topS 9) 0
abbrev N_Number_init : List Str := ["self", "size", "worth"]
theorem sc_Number_init : FnScope N_Number_init ["self", "size", "worth"] (defScope s_Number_init) := ⟨rfl, rfl, rfl, by decide +kernel, rfl, by decide +kernel, by decide +kernel⟩
abbrev s_Number_size : Stmt := inClass (topS 9) 1
abbrev N_Number_size : List Str := ["self"]
theorem sc_Number_size : FnScope N_Number_size ["self"] (defScope s_Number_size) := ⟨rfl, rfl, rfl, by decide +kernel, rfl, by decide +kernel, by decide +kernel⟩
abbrev s_Number_worth : Stmt := inClass (topS 9) 2
abbrev N_Number_worth : List Str := ["self"]
theorem sc_Number_worth : FnScope N_Number_worth ["self"] (defScope s_Number_worth) := ⟨rfl, rfl, rfl, by decide +kernel, rfl, by decide +kernel, by decide +kernel⟩
abbrev s_Number_add : Stmt := inClass (topS 9) 3
abbrev N_Number_add : List Str := ["self", "other"]
theorem sc_Number_add : FnScope N_Number_add ["self", "other"] (defScope s_Number_add) := ⟨rfl, rfl, rfl, by decide +kernel, rfl, by decide +kernel, by decide +kernel⟩
abbrev s_Number_radd : Stmt := inClass (topS 9) 4
abbrev N_Number_radd : List Str := ["self", "other"]
theorem sc_Number_radd : FnScope N_Number_radd ["self", "other"] (defScope s_Number_radd) := ⟨rfl, rfl, rfl, by decide +kernel, rfl, by decide +kernel, by decide +kernel⟩
abbrev s_Number_sub : Stmt := inClass (topS 9) 5
abbrev N_Number_sub : List Str := ["self", "other"]
theorem sc_Number_sub : FnScope N_Number_sub ["self", "other"] (defScope s_Number_sub) := ⟨rfl, rfl, rfl, by decide +kernel, rfl, by decide +kernel, by decide +kernel⟩
abbrev s_Number_rsub : Stmt := inClass (topS 9) 6
abbrev N_Number_rsub : List Str := ["self", "other"]
theorem sc_Number_rsub : FnScope N_Number_rsub ["self", "other"] (defScope s_Number_rsub) := ⟨rfl, rfl, rfl, by decide +kernel, rfl, by decide +kernel, by decide +kernel⟩
abbrev s_Number_mul : Stmt := inClass (topS 9) 7
abbrev N_Number_mul : List Str := ["self", "other"]
theorem sc_Number_mul : FnScope N_Number_mul ["self", "other"] (defScope s_Number_mul) := ⟨rfl, rfl, rfl, by decide +kernel, rfl, by decide +kernel, by decide +kernel⟩
abbrev s_Number_rmul : Stmt := inClass (topS 9) 8
abbrev N_Number_rmul : List Str := ["self", "other"]
theorem sc_Number_rmul : FnScope N_Number_rmul ["self", "other"] (defScope s_Number_rmul) := ⟨rfl, rfl, rfl, by decide +kernel, rfl, by decide +kernel, by decide +kernel⟩
abbrev s_Number_floordiv : Stmt := inClass (topS 9) 9
abbrev N_Number_floordiv : List Str := ["self", "other"]
theorem sc_Number_floordiv : FnScope N_Number_floordiv ["self", "other"] (defScope s_Number_floordiv) := ⟨rfl, rfl, rfl, by decide +kernel, rfl, by decide +kernel, by decide +kernel⟩
abbrev s_Number_rfloordiv : Stmt := inClass (topS 9) 10
abbrev N_Number_rfloordiv : List Str := ["self", "other"]
theorem sc_Number_rfloordiv : FnScope N_Number_rfloordiv ["self", "other"] (defScope s_Number_rfloordiv) := ⟨rfl, rfl, rfl, by decide +kernel, rfl, by decide +kernel, by decide +kernel⟩
abbrev s_Number_neg : Stmt := inClass (topS 9) 11
abbrev N_Number_neg : List Str := ["self"]
theorem sc_Number_neg : FnScope N_Number_neg ["self"] (defScope s_Number_neg) := ⟨rfl, rfl, rfl, by decide +kernel, rfl, by decide +kernel, by decide +kernel⟩
abbrev s_Number_eq : Stmt := inClass (topS 9) 12
abbrev N_Number_eq : List Str := ["self", "other"]
theorem sc_Number_eq : FnScope N_Number_eq ["self", "other"] (defScope s_Number_eq) := ⟨rfl, rfl, rfl, by decide +kernel, rfl, by decide +kernel, by decide +kernel⟩
abbrev s_Number_ne : Stmt := inClass (topS 9) 13
abbrev N_Number_ne : List Str := ["self", "other"]
theorem sc_Number_ne : FnScope N_Number_ne ["self", "other"] (defScope s_Number_ne) := ⟨rfl, rfl, rfl, by decide +kernel, rfl, by decide +kernel, by decide +kernel⟩
abbrev s_Number_lt : Stmt := inClass (topS 9) 14
abbrev N_Number_lt : List Str := ["self", "other"]
theorem sc_Number_lt : FnScope N_Number_lt ["self", "other"] (defScope s_Number_lt) := ⟨rfl, rfl, rfl, by decide +kernel, rfl, by decide +kernel, by decide +kernel⟩
abbrev s_Number_le : Stmt := inClass (topS 9) 15
abbrev N_Number_le : List Str := ["self", "other"]
theorem sc_Number_le : FnScope N_Number_le ["self", "other"] (defScope s_Number_le) := ⟨rfl, rfl, rfl, by decide +kernel, rfl, by decide +kernel, by decide +kernel⟩
abbrev s_Number_gt : Stmt := inClass (topS 9) 16
abbrev N_Number_gt : List Str := ["self", "other"]
theorem sc_Number_gt : FnScope N_Number_gt ["self", "other"] (defScope s_Number_gt) := ⟨rfl, rfl, rfl, by decide +kernel, rfl, by decide +kernel, by decide +kernel⟩
abbrev s_Number_ge : Stmt := inClass (topS 9) 17
abbrev N_Number_ge : List Str := ["self", "other"]
theorem sc_Number_ge : FnScope N_Number_ge ["self", "other"] (defScope s_Number_ge) := ⟨rfl, rfl, rfl, by decide +kernel, rfl, by decide +kernel, by decide +kernel⟩
abbrev s_worth_of : Stmt := topS 10
abbrev N_worth_of : List Str := ["number"]
theorem sc_worth_of : FnScope N_worth_of ["number"] (defScope s_worth_of) := ⟨rfl, rfl, rfl, by decide +kernel, rfl, by decide +kernel, by decide +kernel⟩
abbrev s_is_side : Stmt := topS 11
abbrev N_is_side : List Str := ["value"]
theorem sc_is_side : FnScope N_is_side ["value"] (defScope s_is_side) := ⟨rfl, rfl, rfl, by decide +kernel, rfl, by decide +kernel, by decide +kernel⟩
abbrev s_gone_round : Stmt := topS 12
abbrev N_gone_round : List Str := ["size", "plain"]
theorem sc_gone_round : FnScope N_gone_round ["size", "plain"] (defScope s_gone_round) := ⟨rfl, rfl, rfl, by decide +kernel, rfl, by decide +kernel, by decide +kernel⟩
abbrev s_quotient : Stmt := topS 13
abbrev N_quotient : List Str := ["size", "worth", "by"]
theorem sc_quotient : FnScope N_quotient ["size", "worth", "by"] (defScope s_quotient) := ⟨rfl, rfl, rfl, by decide +kernel, rfl, by decide +kernel, by decide +kernel⟩
abbrev s_pot : Stmt := topS 15
abbrev N_pot : List Str := ["_law_script", "_law_k", "_law_cell", "_law_own"]
theorem sc_pot : FnScope N_pot ["_law_script", "_law_k"] (defScope s_pot) := ⟨rfl, rfl, rfl, by decide +kernel, rfl, by decide +kernel, by decide +kernel⟩
abbrev s_take : Stmt := topS 16
abbrev N_take : List Str := ["_law_pot_here", "_law_upto", "_law_digit", "_law_prime", "_law_mixed"]
theorem sc_take : FnScope N_take ["_law_pot_here", "_law_upto"] (defScope s_take) := ⟨rfl, rfl, rfl, by decide +kernel, rfl, by decide +kernel, by decide +kernel⟩
abbrev s_of : Stmt := topS 17
abbrev N_of : List Str := ["_law_pot_here", "_law_some"]
theorem sc_of : FnScope N_of ["_law_pot_here", "_law_some"] (defScope s_of) := ⟨rfl, rfl, rfl, by decide +kernel, rfl, by decide +kernel, by decide +kernel⟩
abbrev s_due : Stmt := topS 18
abbrev N_due : List Str := ["_law_sign", "_law_size", "_law_a", "_law_b", "_law_whole"]
theorem sc_due : FnScope N_due ["_law_sign", "_law_size", "_law_a", "_law_b"] (defScope s_due) := ⟨rfl, rfl, rfl, by decide +kernel, rfl, by decide +kernel, by decide +kernel⟩
abbrev s_signed : Stmt := topS 19
abbrev N_signed : List Str := ["_law_sign", "_law_one", "_law_other"]
theorem sc_signed : FnScope N_signed ["_law_sign", "_law_one", "_law_other"] (defScope s_signed) := ⟨rfl, rfl, rfl, by decide +kernel, rfl, by decide +kernel, by decide +kernel⟩
abbrev s_heard : Stmt := topS 20
abbrev N_heard : List Str := ["_law_sign", "_law_one", "_law_other", "_law_told", "fault"]
theorem sc_heard : FnScope N_heard ["_law_sign", "_law_one", "_law_other"] (defScope s_heard) := ⟨rfl, rfl, rfl, by decide +kernel, rfl, by decide +kernel, by decide +kernel⟩
abbrev s_sign_right : Stmt := topS 21
abbrev N_sign_right : List Str := ["_law_sign", "_law_size", "_law_a", "_law_b", "_law_pair", "_law_due_here"]
theorem sc_sign_right : FnScope N_sign_right ["_law_sign", "_law_size", "_law_a", "_law_b", "_law_pair"] (defScope s_sign_right) := ⟨rfl, rfl, rfl, by decide +kernel, rfl, by decide +kernel, by decide +kernel⟩
abbrev s_compared : Stmt := topS 22
abbrev N_compared : List Str := ["_law_one", "_law_other"]
theorem sc_compared : FnScope N_compared ["_law_one", "_law_other"] (defScope s_compared) := ⟨rfl, rfl, rfl, by decide +kernel, rfl, by decide +kernel, by decide +kernel⟩
abbrev s_pair_right : Stmt := topS 23
abbrev N_pair_right : List Str := ["_law_size", "_law_a", "_law_b", "_law_one", "_law_other", "_law_pair", "_law_below", "_law_sign"]
theorem sc_pair_right : FnScope N_pair_right ["_law_size", "_law_a", "_law_b"] (defScope s_pair_right) := ⟨rfl, rfl, rfl, by decide +kernel, rfl, by decide +kernel, by decide +kernel⟩
abbrev s_chain_right : Stmt := topS 24
abbrev N_chain_right : List Str := ["_law_pot_here", "_law_size", "_law_worth", "_law_told", "_law_turn", "_law_b", "_law_way", "_law_sign", "_law_other", "_law_pair", "_law_worths", "_law_due_here"]
theorem sc_chain_right : FnScope N_chain_right ["_law_pot_here", "_law_size"] (defScope s_chain_right) := ⟨rfl, rfl, rfl, by decide +kernel, rfl, by decide +kernel, by decide +kernel⟩
abbrev s_right : Stmt := topS 25
abbrev N_right : List Str := ["_law_pot_here", "_law_size", "_law_a", "_law_turn", "_law_b"]
theorem sc_right : FnScope N_right ["_law_pot_here"] (defScope s_right) := ⟨rfl, rfl, rfl, by decide +kernel, rfl, by decide +kernel, by decide +kernel⟩
abbrev s_law : Stmt := topS 26
abbrev N_law : List Str := ["_law_script", "_law_k"]
theorem sc_law : FnScope N_law ["_law_script"] (defScope s_law) := ⟨rfl, rfl, rfl, by decide +kernel, rfl, by decide +kernel, by decide +kernel⟩
structure Ad where
  C_Fault : Addr
  C_Number : Addr
  f_Fault_init : Addr
  d_Fault_init : FuncData
  f_is_whole : Addr
  d_is_whole : FuncData
  f_is_size : Addr
  d_is_size : FuncData
  f_Number_init : Addr
  d_Number_init : FuncData
  f_Number_size : Addr
  d_Number_size : FuncData
  f_Number_worth : Addr
  d_Number_worth : FuncData
  f_Number_add : Addr
  d_Number_add : FuncData
  f_Number_radd : Addr
  d_Number_radd : FuncData
  f_Number_sub : Addr
  d_Number_sub : FuncData
  f_Number_rsub : Addr
  d_Number_rsub : FuncData
  f_Number_mul : Addr
  d_Number_mul : FuncData
  f_Number_rmul : Addr
  d_Number_rmul : FuncData
  f_Number_floordiv : Addr
  d_Number_floordiv : FuncData
  f_Number_rfloordiv : Addr
  d_Number_rfloordiv : FuncData
  f_Number_neg : Addr
  d_Number_neg : FuncData
  f_Number_eq : Addr
  d_Number_eq : FuncData
  f_Number_ne : Addr
  d_Number_ne : FuncData
  f_Number_lt : Addr
  d_Number_lt : FuncData
  f_Number_le : Addr
  d_Number_le : FuncData
  f_Number_gt : Addr
  d_Number_gt : FuncData
  f_Number_ge : Addr
  d_Number_ge : FuncData
  f_worth_of : Addr
  d_worth_of : FuncData
  f_is_side : Addr
  d_is_side : FuncData
  f_gone_round : Addr
  d_gone_round : FuncData
  f_quotient : Addr
  d_quotient : FuncData
  f_pot : Addr
  d_pot : FuncData
  f_take : Addr
  d_take : FuncData
  f_of : Addr
  d_of : FuncData
  f_due : Addr
  d_due : FuncData
  f_signed : Addr
  d_signed : FuncData
  f_heard : Addr
  d_heard : FuncData
  f_sign_right : Addr
  d_sign_right : FuncData
  f_compared : Addr
  d_compared : FuncData
  f_pair_right : Addr
  d_pair_right : FuncData
  f_chain_right : Addr
  d_chain_right : FuncData
  f_right : Addr
  d_right : FuncData
  f_law : Addr
  d_law : FuncData
  p_size : Addr
  p_worth : Addr
structure Txt (K : Frag) (mg : Str → Option Value) (A : Ad) : Prop where
  F_Fault_init : Fun K "__init__" "Fault.__init__" s_Fault_init A.f_Fault_init A.d_Fault_init
  b_Fault_init : Binds K A.d_Fault_init ["self", "words"] []
  F_is_whole : Fun K "is_whole" "is_whole" s_is_whole A.f_is_whole A.d_is_whole
  b_is_whole : Binds K A.d_is_whole ["value", "low", "below"] []
  m_is_whole : mg "is_whole" = some (.ref A.f_is_whole)
  F_is_size : Fun K "is_size" "is_size" s_is_size A.f_is_size A.d_is_size
  b_is_size : Binds K A.d_is_size ["value"] []
  m_is_size : mg "is_size" = some (.ref A.f_is_size)
  F_Number_init : Fun K "__init__" "Number.__init__" s_Number_init A.f_Number_init A.d_Number_init
  b_Number_init : Binds K A.d_Number_init ["self", "size", "worth"] []
  F_Number_size : Fun K "size" "Number.size" s_Number_size A.f_Number_size A.d_Number_size
  b_Number_size : Binds K A.d_Number_size ["self"] []
  F_Number_worth : Fun K "worth" "Number.worth" s_Number_worth A.f_Number_worth A.d_Number_worth
  b_Number_worth : Binds K A.d_Number_worth ["self"] []
  F_Number_add : Fun K "__add__" "Number.__add__" s_Number_add A.f_Number_add A.d_Number_add
  b_Number_add : Binds K A.d_Number_add ["self", "other"] []
  F_Number_radd : Fun K "__radd__" "Number.__radd__" s_Number_radd A.f_Number_radd A.d_Number_radd
  b_Number_radd : Binds K A.d_Number_radd ["self", "other"] []
  F_Number_sub : Fun K "__sub__" "Number.__sub__" s_Number_sub A.f_Number_sub A.d_Number_sub
  b_Number_sub : Binds K A.d_Number_sub ["self", "other"] []
  F_Number_rsub : Fun K "__rsub__" "Number.__rsub__" s_Number_rsub A.f_Number_rsub A.d_Number_rsub
  b_Number_rsub : Binds K A.d_Number_rsub ["self", "other"] []
  F_Number_mul : Fun K "__mul__" "Number.__mul__" s_Number_mul A.f_Number_mul A.d_Number_mul
  b_Number_mul : Binds K A.d_Number_mul ["self", "other"] []
  F_Number_rmul : Fun K "__rmul__" "Number.__rmul__" s_Number_rmul A.f_Number_rmul A.d_Number_rmul
  b_Number_rmul : Binds K A.d_Number_rmul ["self", "other"] []
  F_Number_floordiv : Fun K "__floordiv__" "Number.__floordiv__" s_Number_floordiv A.f_Number_floordiv A.d_Number_floordiv
  b_Number_floordiv : Binds K A.d_Number_floordiv ["self", "other"] []
  F_Number_rfloordiv : Fun K "__rfloordiv__" "Number.__rfloordiv__" s_Number_rfloordiv A.f_Number_rfloordiv A.d_Number_rfloordiv
  b_Number_rfloordiv : Binds K A.d_Number_rfloordiv ["self", "other"] []
  F_Number_neg : Fun K "__neg__" "Number.__neg__" s_Number_neg A.f_Number_neg A.d_Number_neg
  b_Number_neg : Binds K A.d_Number_neg ["self"] []
  F_Number_eq : Fun K "__eq__" "Number.__eq__" s_Number_eq A.f_Number_eq A.d_Number_eq
  b_Number_eq : Binds K A.d_Number_eq ["self", "other"] []
  F_Number_ne : Fun K "__ne__" "Number.__ne__" s_Number_ne A.f_Number_ne A.d_Number_ne
  b_Number_ne : Binds K A.d_Number_ne ["self", "other"] []
  F_Number_lt : Fun K "__lt__" "Number.__lt__" s_Number_lt A.f_Number_lt A.d_Number_lt
  b_Number_lt : Binds K A.d_Number_lt ["self", "other"] []
  F_Number_le : Fun K "__le__" "Number.__le__" s_Number_le A.f_Number_le A.d_Number_le
  b_Number_le : Binds K A.d_Number_le ["self", "other"] []
  F_Number_gt : Fun K "__gt__" "Number.__gt__" s_Number_gt A.f_Number_gt A.d_Number_gt
  b_Number_gt : Binds K A.d_Number_gt ["self", "other"] []
  F_Number_ge : Fun K "__ge__" "Number.__ge__" s_Number_ge A.f_Number_ge A.d_Number_ge
  b_Number_ge : Binds K A.d_Number_ge ["self", "other"] []
  F_worth_of : Fun K "worth_of" "worth_of" s_worth_of A.f_worth_of A.d_worth_of
  b_worth_of : Binds K A.d_worth_of ["number"] []
  m_worth_of : mg "worth_of" = some (.ref A.f_worth_of)
  F_is_side : Fun K "_is_side" "_is_side" s_is_side A.f_is_side A.d_is_side
  b_is_side : Binds K A.d_is_side ["value"] []
  m_is_side : mg "_is_side" = some (.ref A.f_is_side)
  F_gone_round : Fun K "_gone_round" "_gone_round" s_gone_round A.f_gone_round A.d_gone_round
  b_gone_round : Binds K A.d_gone_round ["size", "plain"] []
  m_gone_round : mg "_gone_round" = some (.ref A.f_gone_round)
  F_quotient : Fun K "_quotient" "_quotient" s_quotient A.f_quotient A.d_quotient
  b_quotient : Binds K A.d_quotient ["size", "worth", "by"] []
  m_quotient : mg "_quotient" = some (.ref A.f_quotient)
  F_pot : Fun K "_law_pot" "_law_pot" s_pot A.f_pot A.d_pot
  b_pot : Binds K A.d_pot ["_law_script", "_law_k"] []
  m_pot : mg "_law_pot" = some (.ref A.f_pot)
  F_take : Fun K "_law_take" "_law_take" s_take A.f_take A.d_take
  b_take : Binds K A.d_take ["_law_pot_here", "_law_upto"] []
  m_take : mg "_law_take" = some (.ref A.f_take)
  F_of : Fun K "_law_of" "_law_of" s_of A.f_of A.d_of
  b_of : Binds K A.d_of ["_law_pot_here", "_law_some"] []
  m_of : mg "_law_of" = some (.ref A.f_of)
  F_due : Fun K "_law_due" "_law_due" s_due A.f_due A.d_due
  b_due : Binds K A.d_due ["_law_sign", "_law_size", "_law_a", "_law_b"] []
  m_due : mg "_law_due" = some (.ref A.f_due)
  F_signed : Fun K "_law_signed" "_law_signed" s_signed A.f_signed A.d_signed
  b_signed : Binds K A.d_signed ["_law_sign", "_law_one", "_law_other"] []
  m_signed : mg "_law_signed" = some (.ref A.f_signed)
  F_heard : Fun K "_law_heard" "_law_heard" s_heard A.f_heard A.d_heard
  b_heard : Binds K A.d_heard ["_law_sign", "_law_one", "_law_other"] []
  m_heard : mg "_law_heard" = some (.ref A.f_heard)
  F_sign_right : Fun K "_law_sign_right" "_law_sign_right" s_sign_right A.f_sign_right A.d_sign_right
  b_sign_right : Binds K A.d_sign_right ["_law_sign", "_law_size", "_law_a", "_law_b", "_law_pair"] []
  m_sign_right : mg "_law_sign_right" = some (.ref A.f_sign_right)
  F_compared : Fun K "_law_compared" "_law_compared" s_compared A.f_compared A.d_compared
  b_compared : Binds K A.d_compared ["_law_one", "_law_other"] []
  m_compared : mg "_law_compared" = some (.ref A.f_compared)
  F_pair_right : Fun K "_law_pair_right" "_law_pair_right" s_pair_right A.f_pair_right A.d_pair_right
  b_pair_right : Binds K A.d_pair_right ["_law_size", "_law_a", "_law_b"] []
  m_pair_right : mg "_law_pair_right" = some (.ref A.f_pair_right)
  F_chain_right : Fun K "_law_chain_right" "_law_chain_right" s_chain_right A.f_chain_right A.d_chain_right
  b_chain_right : Binds K A.d_chain_right ["_law_pot_here", "_law_size"] []
  m_chain_right : mg "_law_chain_right" = some (.ref A.f_chain_right)
  F_right : Fun K "_law_right" "_law_right" s_right A.f_right A.d_right
  b_right : Binds K A.d_right ["_law_pot_here"] []
  m_right : mg "_law_right" = some (.ref A.f_right)
  F_law : Fun K "law" "law" s_law A.f_law A.d_law
  b_law : Binds K A.d_law ["_law_script"] []
  m_law : mg "law" = some (.ref A.f_law)
  m_Number : mg "Number" = some (.ref A.C_Number)
  m_Fault : mg "Fault" = some (.ref A.C_Fault)
  g_isinstance : mg "isinstance" = none
  g_int : mg "int" = none
  g_bool : mg "bool" = none
  g_len : mg "len" = none
  g_abs : mg "abs" = none
  g_repr : mg "repr" = none
  g_all : mg "all" = none
  g_range : mg "range" = none
  cls_Number : Cls K A.C_Number
  mk_Number : Mk K A.C_Number A.f_Number_init
  nS : NoAttr K A.C_Number "_size"
  nW : NoAttr K A.C_Number "_worth"
  P_size : PropOf K A.C_Number "size" A.p_size A.f_Number_size
  P_worth : PropOf K A.C_Number "worth" A.p_worth A.f_Number_worth
  ar_add : ArC K A.C_Number .Add A.f_Number_add A.f_Number_radd
  ar_sub : ArC K A.C_Number .Sub A.f_Number_sub A.f_Number_rsub
  ar_mul : ArC K A.C_Number .Mult A.f_Number_mul A.f_Number_rmul
  ar_floordiv : ArC K A.C_Number .FloorDiv A.f_Number_floordiv A.f_Number_rfloordiv
  cm_eq : CmC K A.C_Number .Eq A.f_Number_eq A.f_Number_eq
  cm_ne : CmC K A.C_Number .NotEq A.f_Number_ne A.f_Number_ne
  cm_lt : CmC K A.C_Number .Lt A.f_Number_lt A.f_Number_gt
  cm_le : CmC K A.C_Number .LtE A.f_Number_le A.f_Number_ge
  cm_gt : CmC K A.C_Number .Gt A.f_Number_gt A.f_Number_lt
  cm_ge : CmC K A.C_Number .GtE A.f_Number_ge A.f_Number_le
  h_neg : PySem.W.findIn K (.ref A.C_Number) "__neg__" = some (some (.ref A.f_Number_neg))
  i_neg : PySem.W.isFn K (.ref A.f_Number_neg) = true
  kcl : PySem.W.findIn K (.ref A.C_Number) "__class__" = some (some (.builtin "object.__class__"))
  kgs : PySem.W.specialIn K (.builtin "object.__class__") "__get__" = some (some (.builtin "getset_descriptor.__get__"))
  ktk : PySem.W.takesIn K (.builtin "object.__class__") = some true
  kob : PySem.W.mroIn K A.C_Number (.type "object") = some true
  nn : PySem.W.kitOne K (.ref A.C_Number) (.ref A.C_Number) = some true
  ni : PySem.W.kitOne K (.type "int") (.ref A.C_Number) = some false
  nnt : PySem.W.kitOne K (.type "NoneType") (.ref A.C_Number) = some false
  nb : PySem.W.kitOne K (.ref A.C_Number) (.type "bool") = some false
  nint : PySem.W.kitOne K (.ref A.C_Number) (.type "int") = some false
  oex : OexC K A.C_Fault
  xf : XfC K A.C_Fault
  xno : PySem.W.findIn K (.ref A.C_Fault) "words" = some none
  xin : PySem.W.findIn K (.ref A.C_Fault) "__init__" = some (some (.ref A.f_Fault_init))
  xfn : PySem.W.typeIn K (.ref A.f_Fault_init) = some (.type "function")
  xme : PySem.W.exmOne K (.ref A.C_Fault) (.ref A.C_Fault) = some true

/-! ### promises -/
def nf (s w : Int) : List (Str × V) := putF "_worth" (.int w) (putF "_size" (.int s) [])
theorem nf_s (s w : Int) : (nf s w).lookup ("_size" : Str) = some (.int s) := by unfold nf; rw [lookup_putF, if_neg (by decide +kernel), lookup_putF, if_pos rfl]
theorem nf_w (s w : Int) : (nf s w).lookup ("_worth" : Str) = some (.int w) := by unfold nf; rw [lookup_putF, if_pos rfl]
/-- a Number of the size s, of the worth w, stands at p -/
def NumAt (C : Addr) (H : Hp) (p : Addr) (s w : Int) : Prop := ∃ dx, H p = some (.ins C dx (nf s w))
theorem NumAt.ex {C p : Addr} {H H' : Hp} {s w : Int} (h : NumAt C H p s w) (e : Ex H H') : NumAt C H' p s w := let ⟨dx, z⟩ := h; ⟨dx, e _ _ z⟩
/-- a side of a sign: a Number, or an int -/
def Sd (C : Addr) (H : Hp) (v : V) (s w : Int) : Prop := v = .int w ∨ ∃ p, v = .ref p ∧ NumAt C H p s w
theorem Sd.ex {C : Addr} {H H' : Hp} {v : V} {s w : Int} (h : Sd C H v s w) (e : Ex H H') : Sd C H' v s w := h.elim .inl fun ⟨p, a, b⟩ => .inr ⟨p, a, b.ex e⟩
def spWhole : Sp := fun vs H Q _ => ∃ v lo hi : Int, vs = [.int v, .int lo, .int hi] ∧ Q (.bl (decide (lo ≤ v) && decide (v < hi))) H
def spSize : Sp := fun vs H Q _ => ∃ v : Int, vs = [.int v] ∧ Q (.bl (decide (2 ≤ v) && decide (v < 5))) H
def spNinit (C : Addr) : Sp := fun vs H Q _ => ∃ (x dx : Addr) (s w : Int), vs = [.ref x, .int s, .int w] ∧ H x = some (.ins C dx []) ∧ 2 ≤ s ∧ s < 5 ∧ 0 ≤ w ∧ w < s ∧ Q .non (upd H x (.ins C dx (nf s w)))
def spProp (C : Addr) (f : Int → Int → Int) : Sp := fun vs H Q _ => ∃ (p : Addr) (s w : Int), vs = [.ref p] ∧ NumAt C H p s w ∧ Q (.int (f s w)) H
def spWorthOf (C : Addr) : Sp := fun vs H Q _ => ∃ (v : V) (s w : Int), vs = [v] ∧ Sd C H v s w ∧ Q (.int w) H
def spSide (C : Addr) : Sp := fun vs H Q _ => ∃ (v : V) (s w : Int), vs = [v] ∧ Sd C H v s w ∧ ∀ H', Ex H H' → Q (.bl true) H'
/-- a new Number is handed back -/
def NewN (C : Addr) (H : Hp) (Q : VK) (s w : Int) : Prop := ∀ (p : Addr) (H' : Hp), H p = none → Ex H H' → NumAt C H' p s w → Q (.ref p) H'
def spRound (C : Addr) : Sp := fun vs H Q _ => ∃ (s pl : Int), vs = [.int s, .int pl] ∧ 2 ≤ s ∧ s < 5 ∧ NewN C H Q s (pl % s)
def spQuot (C CF : Addr) : Sp := fun vs H Q E => ∃ (s a b : Int), vs = [.int s, .int a, .int b] ∧ 2 ≤ s ∧ s < 5 ∧ 0 ≤ a ∧ a < s ∧ 0 ≤ b ∧ b < s ∧ (b ≠ 0 → NewN C H Q s (a / b)) ∧
  (b = 0 → ∀ (t d : Addr) (H' : Hp), Ex H H' → H' t = some (.tup [.str "zero"]) → H' d = some (.xd [("words", .ref t)]) → E (.ref CF) (some d) H')

section
variable {P : Program} {w : World} {K : Frag} {mg : Str → Option Value} {base : Heap} {A : Ad}

theorem ok_is_whole (T : Txt K mg A) : FnOk P w K mg base CX0 1 A.f_is_whole A.d_is_whole ["value", "low", "below"] (spWhole) := by
  refine T.F_is_whole.ok sc_is_whole (fun vs H Q E h => ?_) (fun cdv A0 outer s H vs Q E hr h => ?_)
  · obtain ⟨_, _, _, rfl, _⟩ := h
    rfl
  · have hu := hu_of hr
    obtain ⟨v, lo, hi, rfl, k⟩ := h
    refine ⟨_, (pss_one (ps_ret (pe_and (pe_callB call_isi (by rfl) T.g_isinstance (by decide +kernel) (pa_cons (pv 0) (pa_cons (pe_bltn (v := .ty "int") (by rfl) T.g_int (by decide +kernel) rfl) pa_nil))) (pe_and (pe_not (pe_callB call_isi (by rfl) T.g_isinstance (by decide +kernel) (pa_cons (pv 0) (pa_cons (pe_bltn (v := .ty "bool") (by rfl) T.g_bool (by decide +kernel) rfl) pa_nil)))) (pe_one (pe_chain op_le op_lt (pv 1) (pv 0) (pv 2))))))), ?_⟩
    refine ⟨_, rfl, _, _, _, _, _, rfl, .ty _, .base (.int _), kit_ty (by decide +kernel), true, rfl, iteT ?_⟩
    refine ⟨_, rfl, _, _, _, _, _, rfl, .ty _, .base (.int _), kit_ty (by decide +kernel), false, rfl, true, rfl, iteT ?_⟩
    refine ⟨_, rfl, _, rfl, _, _, rfl, rfl, _, rfl, if_dec (fun h1 => ?_) (fun h1 => ?_)⟩
    · refine ⟨_, rfl, _, _, rfl, rfl, ?_⟩
      rw [decide_eq_true h1] at k
      exact k
    · rw [decide_eq_false h1] at k
      exact k
theorem ok_is_size (T : Txt K mg A) : FnOk P w K mg base CX0 2 A.f_is_size A.d_is_size ["value"] (spSize) := by
  refine T.F_is_size.ok sc_is_size (fun vs H Q E h => ?_) (fun cdv A0 outer s H vs Q E hr h => ?_)
  · obtain ⟨_, rfl, _⟩ := h
    rfl
  · have hu := hu_of hr
    obtain ⟨v, rfl, k⟩ := h
    refine ⟨_, (pss_one (ps_ret (pe_call (ok_is_whole T) (hr.mono (by decide)) (by rfl) T.m_is_whole T.F_is_whole.kp T.b_is_whole .nil pass0 (pa_cons (pv 0) (pa_cons pe_int (pa_cons pe_int pa_nil)))))), ?_⟩
    exact ⟨_, rfl, _, _, _, rfl, k⟩
theorem ok_Number_init (T : Txt K mg A) : FnOk P w K mg base CX0 3 A.f_Number_init A.d_Number_init ["self", "size", "worth"] (spNinit A.C_Number) := by
  refine T.F_Number_init.ok sc_Number_init (fun vs H Q E h => ?_) (fun cdv A0 outer s H vs Q E hr h => ?_)
  · obtain ⟨_, _, _, _, rfl, _⟩ := h
    rfl
  · have hu := hu_of hr
    obtain ⟨x, dx, sz, wo, rfl, hx, h1, h2, h3, h4, k⟩ := h
    refine ⟨_, (pss_cons (ps_if (pt_not (pt_val (pe_call (ok_is_size T) (hr.mono (by decide)) (by rfl) T.m_is_size T.F_is_size.kp T.b_is_size .nil pass0 (pa_cons (pv 1) pa_nil)))) (pss_one ps_never) pss_nil)
      (pss_cons (ps_if (pt_not (pt_val (pe_call (ok_is_whole T) (hr.mono (by decide)) (by rfl) T.m_is_whole T.F_is_whole.kp T.b_is_whole .nil pass0 (pa_cons (pv 2) (pa_cons pe_int (pa_cons (pv 1) pa_nil)))))) (pss_one ps_never) pss_nil)
      (pss_cons (ps_fld (pv 0) (pv 1) rfl)
      (pss_one (ps_fld (pv 0) (pv 2) rfl))))), ?_⟩
    refine ⟨_, rfl, _, rfl, _, rfl, ?_⟩
    refine if_false (by rw [decide_eq_true h1, decide_eq_true h2]; rfl) ?_
    refine ⟨_, rfl, _, rfl, _, _, _, rfl, _, rfl, ?_⟩
    refine if_false (by rw [decide_eq_true h3, decide_eq_true h4]; rfl) ?_
    refine ⟨_, rfl, _, rfl, x, A.C_Number, dx, _, rfl, hx, T.cls_Number, T.nS, (by show 0 < 1000; decide), _, rfl, _, rfl, x, A.C_Number, dx, _, rfl, upd_same, T.cls_Number, T.nW, (by show 1 < 1000; decide), ?_⟩
    rw [upd_upd]
    exact k
theorem ok_size (T : Txt K mg A) : FnOk P w K mg base CX0 1 A.f_Number_size A.d_Number_size ["self"] (spProp A.C_Number (fun s _ => s)) := by
  refine T.F_Number_size.ok sc_Number_size (fun vs H Q E h => ?_) (fun cdv A0 outer s H vs Q E hr h => ?_)
  · obtain ⟨_, _, _, rfl, _⟩ := h
    rfl
  · have hu := hu_of hr
    obtain ⟨p, sz, wo, rfl, ⟨dx, hp⟩, k⟩ := h
    refine ⟨_, (pss_one (ps_ret (pe_fld (pv 0) rfl))), ?_⟩
    exact ⟨_, rfl, p, A.C_Number, dx, _, _, rfl, hp, T.cls_Number, T.nS, nf_s _ _, k⟩
theorem ok_worth (T : Txt K mg A) : FnOk P w K mg base CX0 1 A.f_Number_worth A.d_Number_worth ["self"] (spProp A.C_Number (fun _ w => w)) := by
  refine T.F_Number_worth.ok sc_Number_worth (fun vs H Q E h => ?_) (fun cdv A0 outer s H vs Q E hr h => ?_)
  · obtain ⟨_, _, _, rfl, _⟩ := h
    rfl
  · have hu := hu_of hr
    obtain ⟨p, sz, wo, rfl, ⟨dx, hp⟩, k⟩ := h
    refine ⟨_, (pss_one (ps_ret (pe_fld (pv 0) rfl))), ?_⟩
    exact ⟨_, rfl, p, A.C_Number, dx, _, _, rfl, hp, T.cls_Number, T.nW, nf_w _ _, k⟩
theorem ty_num (T : Txt K mg A) {H : Hp} {p : Addr} {s w : Int} (h : NumAt A.C_Number H p s w) : TyX K H (.ref p) (.ref A.C_Number) := let ⟨_, e⟩ := h; .base (.ins e T.cls_Number T.kcl T.kgs T.ktk T.kob)
theorem ok_worth_of (T : Txt K mg A) : FnOk P w K mg base CX0 3 A.f_worth_of A.d_worth_of ["number"] (spWorthOf A.C_Number) := by
  refine T.F_worth_of.ok sc_worth_of (fun vs H Q E h => ?_) (fun cdv A0 outer s H vs Q E hr h => ?_)
  · obtain ⟨_, _, _, rfl, _⟩ := h
    rfl
  · have hu := hu_of hr
    obtain ⟨v, sz, wo, rfl, hv, k⟩ := h
    refine ⟨_, (pss_cons (ps_if (pt_val (pe_callB call_isi (by rfl) T.g_isinstance (by decide +kernel) (pa_cons (pv 0) (pa_cons (pe_glob (v := .ref A.C_Number) (by rfl) T.m_Number rfl) pa_nil)))) (pss_one (ps_ret (pe_prop (pv 0) T.cls_Number T.P_worth (ok_worth T) (hr.mono (by decide)) T.b_Number_worth .nil pass0 rfl))) pss_nil)
      (pss_one (ps_ret (pv 0)))), ?_⟩
    rcases hv with rfl | ⟨p, rfl, hp⟩
    · refine ⟨_, rfl, _, _, _, _, _, rfl, .own _, .base (.int _), T.ni, _, rfl, iteF ?_⟩
      exact ⟨_, rfl, k⟩
    · refine ⟨_, rfl, _, _, _, _, _, rfl, .own _, ty_num T hp, T.nn, _, rfl, iteT ?_⟩
      obtain ⟨dx, z⟩ := id hp
      exact ⟨_, rfl, p, dx, _, rfl, z, p, sz, wo, rfl, hp, k⟩
theorem ok_is_side (T : Txt K mg A) : FnOk P w K mg base CX0 1 A.f_is_side A.d_is_side ["value"] (spSide A.C_Number) := by
  refine T.F_is_side.ok sc_is_side (fun vs H Q E h => ?_) (fun cdv A0 outer s H vs Q E hr h => ?_)
  · obtain ⟨_, _, _, rfl, _⟩ := h
    rfl
  · have hu := hu_of hr
    obtain ⟨v, sz, wo, rfl, hv, k⟩ := h
    refine ⟨_, (pss_cons (ps_if (pt_val (pe_callB call_isi (by rfl) T.g_isinstance (by decide +kernel) (pa_cons (pv 0) (pa_cons (pe_bltn (v := .ty "bool") (by rfl) T.g_bool (by decide +kernel) rfl) pa_nil)))) (pss_one (ps_ret pe_bl)) pss_nil)
      (pss_one (ps_ret (pe_callB call_isiT (by rfl) T.g_isinstance (by decide +kernel) (pa_cons (pv 0) (pa_cons (pe_tup (pa_cons (pe_bltn (v := .ty "int") (by rfl) T.g_int (by decide +kernel) rfl) (pa_cons (pe_glob (v := .ref A.C_Number) (by rfl) T.m_Number rfl) pa_nil))) pa_nil)))))), ?_⟩
    rcases hv with rfl | ⟨p, rfl, hp⟩
    · refine ⟨_, rfl, _, _, _, _, _, rfl, .ty _, .base (.int _), kit_ty (by decide +kernel), _, rfl, iteF ?_⟩
      exact ⟨_, rfl, (by show 2 ≤ sizeLine; decide), fun t ht => ⟨_, t, _, _, _, _, rfl, upd_same, .cons (.ty _) (.cons (.own _) .nil), .base (.int _), kitAny_cons (b := true) (kit_ty (by decide +kernel)) (fun z => by cases z) (fun _ => rfl), k _ (Ex.nw ht)⟩⟩
    · refine ⟨_, rfl, _, _, _, _, _, rfl, .ty _, ty_num T hp, T.nb, _, rfl, iteF ?_⟩
      refine ⟨_, rfl, (by show 2 ≤ sizeLine; decide), fun t ht => ?_⟩
      exact ⟨_, t, _, _, _, _, rfl, upd_same, .cons (.ty _) (.cons (.own _) .nil), ty_num T (hp.ex (Ex.nw ht)), kitAny_cons (b := false) T.nint (fun _ => kitAny_cons (b := true) T.nn (fun z => by cases z) (fun _ => rfl)) (fun z => by cases z), k _ (Ex.nw ht)⟩
theorem ok_gone_round (T : Txt K mg A) : FnOk P w K mg base CX0 5 A.f_gone_round A.d_gone_round ["size", "plain"] (spRound A.C_Number) := by
  refine T.F_gone_round.ok sc_gone_round (fun vs H Q E h => ?_) (fun cdv A0 outer s H vs Q E hr h => ?_)
  · obtain ⟨_, _, rfl, _⟩ := h
    rfl
  · have hu := hu_of hr
    obtain ⟨sz, pl, rfl, h1, h2, k⟩ := h
    refine ⟨_, (pss_one (ps_ret (pe_make T.mk_Number (ok_Number_init T) (hr.mono (by decide)) (by rfl) T.m_Number T.b_Number_init .nil pass0 (pa_cons (pv 0) (pa_cons (pe_op op_mod (pe_callTy call_int1 (by rfl) T.g_int (by decide +kernel) (pa_cons (pv 1) pa_nil)) (pv 0)) pa_nil))))), ?_⟩
    refine ⟨_, rfl, _, rfl, .inl ⟨_, rfl, _, rfl, _, _, rfl, rfl, (by show (0 : Int) < sz; omega), fun x dx nx ndx ne => ?_⟩⟩
    refine ⟨x, dx, _, _, rfl, upd_same, h1, h2, Int.emod_nonneg _ (by omega), Int.emod_lt_of_pos _ (by omega), rfl, ?_⟩
    refine k x _ nx (fun a o e => ?_) ⟨dx, upd_same⟩
    rw [upd_ne (ne_of_none e nx), upd_ne (ne_of_none e nx), upd_ne (ne_of_none e ndx)]
    exact e
def spFinit (C : Addr) : Sp := fun vs H Q _ => ∃ (a : Addr) (v : V), vs = [.ref a, v] ∧ H a = some (exo a C none) ∧ ∀ dx, H dx = none → dx ≠ a → Q .non (upd (upd H dx (exd dx [("words", v)])) a (exo a C (some dx)))
theorem ok_Fault_init (T : Txt K mg A) : FnOk P w K mg base CX0 1 A.f_Fault_init A.d_Fault_init ["self", "words"] (spFinit A.C_Fault) := by
  refine T.F_Fault_init.ok sc_Fault_init (fun vs H Q E h => ?_) (fun cdv A0 outer s H vs Q E hr h => ?_)
  · obtain ⟨_, _, rfl, _⟩ := h
    rfl
  · have hu := hu_of hr
    obtain ⟨a, v, rfl, ha, k⟩ := h
    refine ⟨_, pss_one (ps_ost (pv 0) (pv 1)), ?_⟩
    exact ⟨_, rfl, _, rfl, a, A.C_Fault, rfl, T.oex, T.xno, .inl ⟨ha, k⟩⟩
theorem ok_quotient (T : Txt K mg A) : FnOk P w K mg base (L2.CX P w) 5 A.f_quotient A.d_quotient ["size", "worth", "by"] (spQuot A.C_Number A.C_Fault) := by
  refine T.F_quotient.okX sc_quotient (fun vs H Q E h => ?_) (fun cdv A0 outer s H vs Q E hr h => ?_)
  · obtain ⟨_, _, _, rfl, _⟩ := h
    rfl
  · have hu := hu_of hr
    obtain ⟨sz, a, b, rfl, h1, h2, h3, h4, h5, h6, k, kE⟩ := h
    refine ⟨_, (pss_cons (ps_if (pt_cmpR op_eq (pv 2) pe_int (nomark _)) (pss_one (ps_raise rfl (takes_of rfl rfl rfl rfl) (pmk_oex T.oex T.xin T.xfn (ok_Fault_init T) (hr.mono (by decide)) T.b_Fault_init .nil pass0 rfl T.m_Fault (pa_cons (pe_tup (pa_cons pe_str pa_nil)) pa_nil)))) pss_nil)
      (pss_one (ps_ret (pe_make T.mk_Number (ok_Number_init T) (hr.mono (by decide)) (by rfl) T.m_Number T.b_Number_init .nil pass0 (pa_cons (pv 0) (pa_cons (pe_op op_fdiv (pv 1) (pv 2)) pa_nil)))))), ?_⟩
    refine ⟨_, rfl, rfl, _, rfl, ?_⟩
    by_cases hb : b = 0
    · subst hb
      refine if_true (by simp) ?_
      refine ⟨(by show 1 ≤ sizeLine; decide), fun t ht => ?_⟩
      refine ⟨(by show 1 ≤ 1000; decide), fun x nx => ⟨x, _, rfl, upd_same, fun dx ndx ne => ⟨rfl, dx, _, upd_same, (by rw [upd_ne ne, upd_same]), ?_, ?_⟩⟩⟩
      · rw [upd_ne ne] at ndx
        exact ndx
      · rw [upd_ne ne] at ndx
        have tx : t ≠ x := ne_of_none (o := .tup [.str "zero"]) upd_same nx
        have td : t ≠ dx := ne_of_none (o := .tup [.str "zero"]) upd_same ndx
        refine kE rfl t dx _ (fun c o e => ?_) ?_ upd_same
        · have ct := ne_of_none e ht
          have e' : upd H t (.tup [.str "zero"]) c = some o := by rw [upd_ne ct]; exact e
          have cx := ne_of_none e' nx
          have cd := ne_of_none e' ndx
          rw [upd_ne cd, del_ne cx, upd_ne cx, upd_ne cd, upd_ne cx]
          exact e'
        · rw [upd_ne td, del_ne tx, upd_ne tx, upd_ne td, upd_ne tx]
          exact upd_same
    · refine if_false (by simp [hb]) ?_
      refine ⟨_, rfl, _, rfl, _, rfl, _, _, rfl, rfl, ⟨by omega, by omega⟩, fun x dx nx ndx ne => ?_⟩
      have q0 : 0 ≤ a / b := Int.ediv_nonneg h3 h5
      have q1 : a / b ≤ a := Int.ediv_le_self _ h3
      refine ⟨x, dx, _, _, rfl, upd_same, h1, h2, q0, (by omega), rfl, ?_⟩
      refine k hb x _ nx (fun c o e => ?_) ⟨dx, upd_same⟩
      rw [upd_ne (ne_of_none e nx), upd_ne (ne_of_none e nx), upd_ne (ne_of_none e ndx)]
      exact e
def spBin (C : Addr) (f : Int → Int → Int) : Sp := fun vs H Q _ => ∃ (p : Addr) (v : V) (s w u : Int), vs = [.ref p, v] ∧ NumAt C H p s w ∧ Sd C H v s u ∧ 2 ≤ s ∧ s < 5 ∧ 0 ≤ w ∧ w < s ∧ 0 ≤ u ∧ u < s ∧ NewN C H Q s (f w u % s)
def spCmp (C : Addr) (f : Int → Int → Bool) : Sp := fun vs H Q _ => ∃ (p : Addr) (v : V) (s w u : Int), vs = [.ref p, v] ∧ NumAt C H p s w ∧ Sd C H v s u ∧ ∀ H', Ex H H' → Q (.bl (f w u)) H'
def spQBin (C CF : Addr) (r : Bool) : Sp := fun vs H Q E => ∃ (p : Addr) (v : V) (s w u : Int), vs = [.ref p, v] ∧ NumAt C H p s w ∧ Sd C H v s u ∧ 2 ≤ s ∧ s < 5 ∧ 0 ≤ w ∧ w < s ∧ 0 ≤ u ∧ u < s ∧
  ((bif r then w else u) ≠ 0 → NewN C H Q s ((bif r then u else w) / (bif r then w else u))) ∧
  ((bif r then w else u) = 0 → ∀ (t d : Addr) (H' : Hp), Ex H H' → H' t = some (.tup [.str "zero"]) → H' d = some (.xd [("words", .ref t)]) → E (.ref CF) (some d) H')
def spNeg (C : Addr) : Sp := fun vs H Q _ => ∃ (p : Addr) (s w : Int), vs = [.ref p] ∧ NumAt C H p s w ∧ 2 ≤ s ∧ s < 5 ∧ NewN C H Q s (-w % s)
theorem ok_add (T : Txt K mg A) : FnOk P w K mg base CX0 6 A.f_Number_add A.d_Number_add ["self", "other"] (spBin A.C_Number (fun w u => w + u)) := by
  refine T.F_Number_add.ok sc_Number_add (fun vs H Q E h => ?_) (fun cdv A0 outer s H vs Q E hr h => ?_)
  · obtain ⟨_, _, _, _, _, rfl, _⟩ := h
    rfl
  · have hu := hu_of hr
    obtain ⟨p, v, sz, w, u, rfl, hn, hv, h1, h2, h3, h4, h5, h6, k⟩ := h
    refine ⟨_, (pss_cons (ps_if (pt_not (pt_val (pe_call (ok_is_side T) (hr.mono (by decide)) (by rfl) T.m_is_side T.F_is_side.kp T.b_is_side .nil pass0 (pa_cons (pv 1) pa_nil)))) (pss_one ps_never) pss_nil)
      (pss_one (ps_ret (pe_call (ok_gone_round T) (hr.mono (by decide)) (by rfl) T.m_gone_round T.F_gone_round.kp T.b_gone_round .nil pass0 (pa_cons (pe_fld (pv 0) rfl) (pa_cons (pe_op op_add (pe_fld (pv 0) rfl) (pe_call (ok_worth_of T) (hr.mono (by decide)) (by rfl) T.m_worth_of T.F_worth_of.kp T.b_worth_of .nil pass0 (pa_cons (pv 1) pa_nil))) pa_nil)))))), ?_⟩
    refine ⟨_, rfl, v, sz, u, rfl, hv, fun H1 e1 => ⟨_, rfl, iteF ?_⟩⟩
    obtain ⟨dx, hp⟩ := id hn
    exact ⟨_, rfl, p, A.C_Number, dx, _, _, rfl, e1 _ _ hp, T.cls_Number, T.nS, nf_s _ _, _, rfl, p, A.C_Number, dx, _, _, rfl, e1 _ _ hp, T.cls_Number, T.nW, nf_w _ _, _, rfl, v, sz, u, rfl, hv.ex e1, _, _, rfl, rfl, sz, _, rfl, h1, h2, fun q H' hn e n => k q H' (e1.fr hn) (e1.tr e) n⟩
theorem ok_radd (T : Txt K mg A) : FnOk P w K mg base CX0 6 A.f_Number_radd A.d_Number_radd ["self", "other"] (spBin A.C_Number (fun w u => u + w)) := by
  refine T.F_Number_radd.ok sc_Number_radd (fun vs H Q E h => ?_) (fun cdv A0 outer s H vs Q E hr h => ?_)
  · obtain ⟨_, _, _, _, _, rfl, _⟩ := h
    rfl
  · have hu := hu_of hr
    obtain ⟨p, v, sz, w, u, rfl, hn, hv, h1, h2, h3, h4, h5, h6, k⟩ := h
    refine ⟨_, (pss_cons (ps_if (pt_not (pt_val (pe_call (ok_is_side T) (hr.mono (by decide)) (by rfl) T.m_is_side T.F_is_side.kp T.b_is_side .nil pass0 (pa_cons (pv 1) pa_nil)))) (pss_one ps_never) pss_nil)
      (pss_one (ps_ret (pe_call (ok_gone_round T) (hr.mono (by decide)) (by rfl) T.m_gone_round T.F_gone_round.kp T.b_gone_round .nil pass0 (pa_cons (pe_fld (pv 0) rfl) (pa_cons (pe_op op_add (pe_call (ok_worth_of T) (hr.mono (by decide)) (by rfl) T.m_worth_of T.F_worth_of.kp T.b_worth_of .nil pass0 (pa_cons (pv 1) pa_nil)) (pe_fld (pv 0) rfl)) pa_nil)))))), ?_⟩
    refine ⟨_, rfl, v, sz, u, rfl, hv, fun H1 e1 => ⟨_, rfl, iteF ?_⟩⟩
    obtain ⟨dx, hp⟩ := id hn
    exact ⟨_, rfl, p, A.C_Number, dx, _, _, rfl, e1 _ _ hp, T.cls_Number, T.nS, nf_s _ _, _, rfl, v, sz, u, rfl, hv.ex e1, _, rfl, p, A.C_Number, dx, _, _, rfl, e1 _ _ hp, T.cls_Number, T.nW, nf_w _ _, _, _, rfl, rfl, sz, _, rfl, h1, h2, fun q H' hn e n => k q H' (e1.fr hn) (e1.tr e) n⟩
theorem ok_sub (T : Txt K mg A) : FnOk P w K mg base CX0 6 A.f_Number_sub A.d_Number_sub ["self", "other"] (spBin A.C_Number (fun w u => w - u)) := by
  refine T.F_Number_sub.ok sc_Number_sub (fun vs H Q E h => ?_) (fun cdv A0 outer s H vs Q E hr h => ?_)
  · obtain ⟨_, _, _, _, _, rfl, _⟩ := h
    rfl
  · have hu := hu_of hr
    obtain ⟨p, v, sz, w, u, rfl, hn, hv, h1, h2, h3, h4, h5, h6, k⟩ := h
    refine ⟨_, (pss_cons (ps_if (pt_not (pt_val (pe_call (ok_is_side T) (hr.mono (by decide)) (by rfl) T.m_is_side T.F_is_side.kp T.b_is_side .nil pass0 (pa_cons (pv 1) pa_nil)))) (pss_one ps_never) pss_nil)
      (pss_one (ps_ret (pe_call (ok_gone_round T) (hr.mono (by decide)) (by rfl) T.m_gone_round T.F_gone_round.kp T.b_gone_round .nil pass0 (pa_cons (pe_fld (pv 0) rfl) (pa_cons (pe_op op_sub (pe_fld (pv 0) rfl) (pe_call (ok_worth_of T) (hr.mono (by decide)) (by rfl) T.m_worth_of T.F_worth_of.kp T.b_worth_of .nil pass0 (pa_cons (pv 1) pa_nil))) pa_nil)))))), ?_⟩
    refine ⟨_, rfl, v, sz, u, rfl, hv, fun H1 e1 => ⟨_, rfl, iteF ?_⟩⟩
    obtain ⟨dx, hp⟩ := id hn
    exact ⟨_, rfl, p, A.C_Number, dx, _, _, rfl, e1 _ _ hp, T.cls_Number, T.nS, nf_s _ _, _, rfl, p, A.C_Number, dx, _, _, rfl, e1 _ _ hp, T.cls_Number, T.nW, nf_w _ _, _, rfl, v, sz, u, rfl, hv.ex e1, _, _, rfl, rfl, sz, _, rfl, h1, h2, fun q H' hn e n => k q H' (e1.fr hn) (e1.tr e) n⟩
theorem ok_rsub (T : Txt K mg A) : FnOk P w K mg base CX0 6 A.f_Number_rsub A.d_Number_rsub ["self", "other"] (spBin A.C_Number (fun w u => u - w)) := by
  refine T.F_Number_rsub.ok sc_Number_rsub (fun vs H Q E h => ?_) (fun cdv A0 outer s H vs Q E hr h => ?_)
  · obtain ⟨_, _, _, _, _, rfl, _⟩ := h
    rfl
  · have hu := hu_of hr
    obtain ⟨p, v, sz, w, u, rfl, hn, hv, h1, h2, h3, h4, h5, h6, k⟩ := h
    refine ⟨_, (pss_cons (ps_if (pt_not (pt_val (pe_call (ok_is_side T) (hr.mono (by decide)) (by rfl) T.m_is_side T.F_is_side.kp T.b_is_side .nil pass0 (pa_cons (pv 1) pa_nil)))) (pss_one ps_never) pss_nil)
      (pss_one (ps_ret (pe_call (ok_gone_round T) (hr.mono (by decide)) (by rfl) T.m_gone_round T.F_gone_round.kp T.b_gone_round .nil pass0 (pa_cons (pe_fld (pv 0) rfl) (pa_cons (pe_op op_sub (pe_call (ok_worth_of T) (hr.mono (by decide)) (by rfl) T.m_worth_of T.F_worth_of.kp T.b_worth_of .nil pass0 (pa_cons (pv 1) pa_nil)) (pe_fld (pv 0) rfl)) pa_nil)))))), ?_⟩
    refine ⟨_, rfl, v, sz, u, rfl, hv, fun H1 e1 => ⟨_, rfl, iteF ?_⟩⟩
    obtain ⟨dx, hp⟩ := id hn
    exact ⟨_, rfl, p, A.C_Number, dx, _, _, rfl, e1 _ _ hp, T.cls_Number, T.nS, nf_s _ _, _, rfl, v, sz, u, rfl, hv.ex e1, _, rfl, p, A.C_Number, dx, _, _, rfl, e1 _ _ hp, T.cls_Number, T.nW, nf_w _ _, _, _, rfl, rfl, sz, _, rfl, h1, h2, fun q H' hn e n => k q H' (e1.fr hn) (e1.tr e) n⟩
theorem ok_mul (T : Txt K mg A) : FnOk P w K mg base CX0 6 A.f_Number_mul A.d_Number_mul ["self", "other"] (spBin A.C_Number (fun w u => w * u)) := by
  refine T.F_Number_mul.ok sc_Number_mul (fun vs H Q E h => ?_) (fun cdv A0 outer s H vs Q E hr h => ?_)
  · obtain ⟨_, _, _, _, _, rfl, _⟩ := h
    rfl
  · have hu := hu_of hr
    obtain ⟨p, v, sz, w, u, rfl, hn, hv, h1, h2, h3, h4, h5, h6, k⟩ := h
    refine ⟨_, (pss_cons (ps_if (pt_not (pt_val (pe_call (ok_is_side T) (hr.mono (by decide)) (by rfl) T.m_is_side T.F_is_side.kp T.b_is_side .nil pass0 (pa_cons (pv 1) pa_nil)))) (pss_one ps_never) pss_nil)
      (pss_one (ps_ret (pe_call (ok_gone_round T) (hr.mono (by decide)) (by rfl) T.m_gone_round T.F_gone_round.kp T.b_gone_round .nil pass0 (pa_cons (pe_fld (pv 0) rfl) (pa_cons (pe_op op_mul (pe_fld (pv 0) rfl) (pe_call (ok_worth_of T) (hr.mono (by decide)) (by rfl) T.m_worth_of T.F_worth_of.kp T.b_worth_of .nil pass0 (pa_cons (pv 1) pa_nil))) pa_nil)))))), ?_⟩
    refine ⟨_, rfl, v, sz, u, rfl, hv, fun H1 e1 => ⟨_, rfl, iteF ?_⟩⟩
    obtain ⟨dx, hp⟩ := id hn
    exact ⟨_, rfl, p, A.C_Number, dx, _, _, rfl, e1 _ _ hp, T.cls_Number, T.nS, nf_s _ _, _, rfl, p, A.C_Number, dx, _, _, rfl, e1 _ _ hp, T.cls_Number, T.nW, nf_w _ _, _, rfl, v, sz, u, rfl, hv.ex e1, _, _, rfl, rfl, (.inl ⟨by omega, by omega⟩), sz, _, rfl, h1, h2, fun q H' hn e n => k q H' (e1.fr hn) (e1.tr e) n⟩
theorem ok_rmul (T : Txt K mg A) : FnOk P w K mg base CX0 6 A.f_Number_rmul A.d_Number_rmul ["self", "other"] (spBin A.C_Number (fun w u => u * w)) := by
  refine T.F_Number_rmul.ok sc_Number_rmul (fun vs H Q E h => ?_) (fun cdv A0 outer s H vs Q E hr h => ?_)
  · obtain ⟨_, _, _, _, _, rfl, _⟩ := h
    rfl
  · have hu := hu_of hr
    obtain ⟨p, v, sz, w, u, rfl, hn, hv, h1, h2, h3, h4, h5, h6, k⟩ := h
    refine ⟨_, (pss_cons (ps_if (pt_not (pt_val (pe_call (ok_is_side T) (hr.mono (by decide)) (by rfl) T.m_is_side T.F_is_side.kp T.b_is_side .nil pass0 (pa_cons (pv 1) pa_nil)))) (pss_one ps_never) pss_nil)
      (pss_one (ps_ret (pe_call (ok_gone_round T) (hr.mono (by decide)) (by rfl) T.m_gone_round T.F_gone_round.kp T.b_gone_round .nil pass0 (pa_cons (pe_fld (pv 0) rfl) (pa_cons (pe_op op_mul (pe_call (ok_worth_of T) (hr.mono (by decide)) (by rfl) T.m_worth_of T.F_worth_of.kp T.b_worth_of .nil pass0 (pa_cons (pv 1) pa_nil)) (pe_fld (pv 0) rfl)) pa_nil)))))), ?_⟩
    refine ⟨_, rfl, v, sz, u, rfl, hv, fun H1 e1 => ⟨_, rfl, iteF ?_⟩⟩
    obtain ⟨dx, hp⟩ := id hn
    exact ⟨_, rfl, p, A.C_Number, dx, _, _, rfl, e1 _ _ hp, T.cls_Number, T.nS, nf_s _ _, _, rfl, v, sz, u, rfl, hv.ex e1, _, rfl, p, A.C_Number, dx, _, _, rfl, e1 _ _ hp, T.cls_Number, T.nW, nf_w _ _, _, _, rfl, rfl, (.inl ⟨by omega, by omega⟩), sz, _, rfl, h1, h2, fun q H' hn e n => k q H' (e1.fr hn) (e1.tr e) n⟩
theorem ok_floordiv (T : Txt K mg A) : FnOk P w K mg base (L2.CX P w) 6 A.f_Number_floordiv A.d_Number_floordiv ["self", "other"] (spQBin A.C_Number A.C_Fault false) := by
  refine T.F_Number_floordiv.okX sc_Number_floordiv (fun vs H Q E h => ?_) (fun cdv A0 outer s H vs Q E hr h => ?_)
  · obtain ⟨_, _, _, _, _, rfl, _⟩ := h
    rfl
  · have hu := hu_of hr
    obtain ⟨p, v, sz, w, u, rfl, hn, hv, h1, h2, h3, h4, h5, h6, k, kE⟩ := h
    refine ⟨_, (pss_cons (ps_if (pt_not (pt_val (pe_call (ok_is_side T) (hr.mono (by decide)) (by rfl) T.m_is_side T.F_is_side.kp T.b_is_side .nil pass0 (pa_cons (pv 1) pa_nil)))) (pss_one ps_never) pss_nil)
      (pss_one (ps_ret (pe_call (ok_quotient T) (hr.mono (by decide)) (by rfl) T.m_quotient T.F_quotient.kp T.b_quotient .nil (passes_call (takes_of rfl rfl rfl rfl) (fun _ _ _ _ h => h)) (pa_cons (pe_fld (pv 0) rfl) (pa_cons (pe_fld (pv 0) rfl) (pa_cons (pe_call (ok_worth_of T) (hr.mono (by decide)) (by rfl) T.m_worth_of T.F_worth_of.kp T.b_worth_of .nil pass0 (pa_cons (pv 1) pa_nil)) pa_nil))))))), ?_⟩
    refine ⟨_, rfl, v, sz, u, rfl, hv, fun H1 e1 => ⟨_, rfl, iteF ?_⟩⟩
    obtain ⟨dx, hp⟩ := id hn
    exact ⟨_, rfl, p, A.C_Number, dx, _, _, rfl, e1 _ _ hp, T.cls_Number, T.nS, nf_s _ _, _, rfl, p, A.C_Number, dx, _, _, rfl, e1 _ _ hp, T.cls_Number, T.nW, nf_w _ _, _, rfl, v, sz, u, rfl, hv.ex e1, sz, _, _, rfl, h1, h2, h3, h4, h5, h6, fun z q H' hn e n => k z q H' (e1.fr hn) (e1.tr e) n, fun z t d H' e a b => kE z t d H' (e1.tr e) a b⟩
theorem ok_rfloordiv (T : Txt K mg A) : FnOk P w K mg base (L2.CX P w) 6 A.f_Number_rfloordiv A.d_Number_rfloordiv ["self", "other"] (spQBin A.C_Number A.C_Fault true) := by
  refine T.F_Number_rfloordiv.okX sc_Number_rfloordiv (fun vs H Q E h => ?_) (fun cdv A0 outer s H vs Q E hr h => ?_)
  · obtain ⟨_, _, _, _, _, rfl, _⟩ := h
    rfl
  · have hu := hu_of hr
    obtain ⟨p, v, sz, w, u, rfl, hn, hv, h1, h2, h3, h4, h5, h6, k, kE⟩ := h
    refine ⟨_, (pss_cons (ps_if (pt_not (pt_val (pe_call (ok_is_side T) (hr.mono (by decide)) (by rfl) T.m_is_side T.F_is_side.kp T.b_is_side .nil pass0 (pa_cons (pv 1) pa_nil)))) (pss_one ps_never) pss_nil)
      (pss_one (ps_ret (pe_call (ok_quotient T) (hr.mono (by decide)) (by rfl) T.m_quotient T.F_quotient.kp T.b_quotient .nil (passes_call (takes_of rfl rfl rfl rfl) (fun _ _ _ _ h => h)) (pa_cons (pe_fld (pv 0) rfl) (pa_cons (pe_call (ok_worth_of T) (hr.mono (by decide)) (by rfl) T.m_worth_of T.F_worth_of.kp T.b_worth_of .nil pass0 (pa_cons (pv 1) pa_nil)) (pa_cons (pe_fld (pv 0) rfl) pa_nil))))))), ?_⟩
    refine ⟨_, rfl, v, sz, u, rfl, hv, fun H1 e1 => ⟨_, rfl, iteF ?_⟩⟩
    obtain ⟨dx, hp⟩ := id hn
    exact ⟨_, rfl, p, A.C_Number, dx, _, _, rfl, e1 _ _ hp, T.cls_Number, T.nS, nf_s _ _, _, rfl, v, sz, u, rfl, hv.ex e1, _, rfl, p, A.C_Number, dx, _, _, rfl, e1 _ _ hp, T.cls_Number, T.nW, nf_w _ _, sz, _, _, rfl, h1, h2, h5, h6, h3, h4, fun z q H' hn e n => k z q H' (e1.fr hn) (e1.tr e) n, fun z t d H' e a b => kE z t d H' (e1.tr e) a b⟩
theorem ok_neg (T : Txt K mg A) : FnOk P w K mg base CX0 6 A.f_Number_neg A.d_Number_neg ["self"] (spNeg A.C_Number) := by
  refine T.F_Number_neg.ok sc_Number_neg (fun vs H Q E h => ?_) (fun cdv A0 outer s H vs Q E hr h => ?_)
  · obtain ⟨_, _, _, rfl, _⟩ := h
    rfl
  · have hu := hu_of hr
    obtain ⟨p, sz, w, rfl, hn, h1, h2, k⟩ := h
    refine ⟨_, (pss_one (ps_ret (pe_call (ok_gone_round T) (hr.mono (by decide)) (by rfl) T.m_gone_round T.F_gone_round.kp T.b_gone_round .nil pass0 (pa_cons (pe_fld (pv 0) rfl) (pa_cons (pe_un un_neg (pe_fld (pv 0) rfl)) pa_nil))))), ?_⟩
    obtain ⟨dx, hp⟩ := id hn
    exact ⟨_, rfl, p, A.C_Number, dx, _, _, rfl, hp, T.cls_Number, T.nS, nf_s _ _, _, rfl, p, A.C_Number, dx, _, _, rfl, hp, T.cls_Number, T.nW, nf_w _ _, _, rfl, sz, _, rfl, h1, h2, k⟩
theorem ok_eq (T : Txt K mg A) : FnOk P w K mg base CX0 6 A.f_Number_eq A.d_Number_eq ["self", "other"] (spCmp A.C_Number (fun w u => decide (V.int w = V.int u))) := by
  refine T.F_Number_eq.ok sc_Number_eq (fun vs H Q E h => ?_) (fun cdv A0 outer s H vs Q E hr h => ?_)
  · obtain ⟨_, _, _, _, _, rfl, _⟩ := h
    rfl
  · have hu := hu_of hr
    obtain ⟨p, v, sz, w, u, rfl, hn, hv, k⟩ := h
    refine ⟨_, (pss_cons (ps_if (pt_not (pt_val (pe_call (ok_is_side T) (hr.mono (by decide)) (by rfl) T.m_is_side T.F_is_side.kp T.b_is_side .nil pass0 (pa_cons (pv 1) pa_nil)))) (pss_one ps_never) pss_nil)
      (pss_one (ps_ret (pe_cmpR op_eq (pe_fld (pv 0) rfl) (pe_call (ok_worth_of T) (hr.mono (by decide)) (by rfl) T.m_worth_of T.F_worth_of.kp T.b_worth_of .nil pass0 (pa_cons (pv 1) pa_nil)) (nomark _))))), ?_⟩
    refine ⟨_, rfl, v, sz, u, rfl, hv, fun H1 e1 => ⟨_, rfl, iteF ?_⟩⟩
    obtain ⟨dx, hp⟩ := id hn
    exact ⟨_, rfl, p, A.C_Number, dx, _, _, rfl, e1 _ _ hp, T.cls_Number, T.nW, nf_w _ _, _, rfl, v, sz, u, rfl, hv.ex e1, rfl, k _ e1⟩
theorem ok_ne (T : Txt K mg A) : FnOk P w K mg base CX0 6 A.f_Number_ne A.d_Number_ne ["self", "other"] (spCmp A.C_Number (fun w u => !decide (V.int w = V.int u))) := by
  refine T.F_Number_ne.ok sc_Number_ne (fun vs H Q E h => ?_) (fun cdv A0 outer s H vs Q E hr h => ?_)
  · obtain ⟨_, _, _, _, _, rfl, _⟩ := h
    rfl
  · have hu := hu_of hr
    obtain ⟨p, v, sz, w, u, rfl, hn, hv, k⟩ := h
    refine ⟨_, (pss_cons (ps_if (pt_not (pt_val (pe_call (ok_is_side T) (hr.mono (by decide)) (by rfl) T.m_is_side T.F_is_side.kp T.b_is_side .nil pass0 (pa_cons (pv 1) pa_nil)))) (pss_one ps_never) pss_nil)
      (pss_one (ps_ret (pe_cmpR op_ne (pe_fld (pv 0) rfl) (pe_call (ok_worth_of T) (hr.mono (by decide)) (by rfl) T.m_worth_of T.F_worth_of.kp T.b_worth_of .nil pass0 (pa_cons (pv 1) pa_nil)) (nomark _))))), ?_⟩
    refine ⟨_, rfl, v, sz, u, rfl, hv, fun H1 e1 => ⟨_, rfl, iteF ?_⟩⟩
    obtain ⟨dx, hp⟩ := id hn
    exact ⟨_, rfl, p, A.C_Number, dx, _, _, rfl, e1 _ _ hp, T.cls_Number, T.nW, nf_w _ _, _, rfl, v, sz, u, rfl, hv.ex e1, rfl, k _ e1⟩
theorem ok_lt (T : Txt K mg A) : FnOk P w K mg base CX0 6 A.f_Number_lt A.d_Number_lt ["self", "other"] (spCmp A.C_Number (fun w u => decide (w < u))) := by
  refine T.F_Number_lt.ok sc_Number_lt (fun vs H Q E h => ?_) (fun cdv A0 outer s H vs Q E hr h => ?_)
  · obtain ⟨_, _, _, _, _, rfl, _⟩ := h
    rfl
  · have hu := hu_of hr
    obtain ⟨p, v, sz, w, u, rfl, hn, hv, k⟩ := h
    refine ⟨_, (pss_cons (ps_if (pt_not (pt_val (pe_call (ok_is_side T) (hr.mono (by decide)) (by rfl) T.m_is_side T.F_is_side.kp T.b_is_side .nil pass0 (pa_cons (pv 1) pa_nil)))) (pss_one ps_never) pss_nil)
      (pss_one (ps_ret (pe_cmpR op_lt (pe_fld (pv 0) rfl) (pe_call (ok_worth_of T) (hr.mono (by decide)) (by rfl) T.m_worth_of T.F_worth_of.kp T.b_worth_of .nil pass0 (pa_cons (pv 1) pa_nil)) (nomark _))))), ?_⟩
    refine ⟨_, rfl, v, sz, u, rfl, hv, fun H1 e1 => ⟨_, rfl, iteF ?_⟩⟩
    obtain ⟨dx, hp⟩ := id hn
    exact ⟨_, rfl, p, A.C_Number, dx, _, _, rfl, e1 _ _ hp, T.cls_Number, T.nW, nf_w _ _, _, rfl, v, sz, u, rfl, hv.ex e1, _, _, rfl, rfl, k _ e1⟩
theorem ok_le (T : Txt K mg A) : FnOk P w K mg base CX0 6 A.f_Number_le A.d_Number_le ["self", "other"] (spCmp A.C_Number (fun w u => decide (w ≤ u))) := by
  refine T.F_Number_le.ok sc_Number_le (fun vs H Q E h => ?_) (fun cdv A0 outer s H vs Q E hr h => ?_)
  · obtain ⟨_, _, _, _, _, rfl, _⟩ := h
    rfl
  · have hu := hu_of hr
    obtain ⟨p, v, sz, w, u, rfl, hn, hv, k⟩ := h
    refine ⟨_, (pss_cons (ps_if (pt_not (pt_val (pe_call (ok_is_side T) (hr.mono (by decide)) (by rfl) T.m_is_side T.F_is_side.kp T.b_is_side .nil pass0 (pa_cons (pv 1) pa_nil)))) (pss_one ps_never) pss_nil)
      (pss_one (ps_ret (pe_cmpR op_le (pe_fld (pv 0) rfl) (pe_call (ok_worth_of T) (hr.mono (by decide)) (by rfl) T.m_worth_of T.F_worth_of.kp T.b_worth_of .nil pass0 (pa_cons (pv 1) pa_nil)) (nomark _))))), ?_⟩
    refine ⟨_, rfl, v, sz, u, rfl, hv, fun H1 e1 => ⟨_, rfl, iteF ?_⟩⟩
    obtain ⟨dx, hp⟩ := id hn
    exact ⟨_, rfl, p, A.C_Number, dx, _, _, rfl, e1 _ _ hp, T.cls_Number, T.nW, nf_w _ _, _, rfl, v, sz, u, rfl, hv.ex e1, _, _, rfl, rfl, k _ e1⟩
theorem ok_gt (T : Txt K mg A) : FnOk P w K mg base CX0 6 A.f_Number_gt A.d_Number_gt ["self", "other"] (spCmp A.C_Number (fun w u => decide (u < w))) := by
  refine T.F_Number_gt.ok sc_Number_gt (fun vs H Q E h => ?_) (fun cdv A0 outer s H vs Q E hr h => ?_)
  · obtain ⟨_, _, _, _, _, rfl, _⟩ := h
    rfl
  · have hu := hu_of hr
    obtain ⟨p, v, sz, w, u, rfl, hn, hv, k⟩ := h
    refine ⟨_, (pss_cons (ps_if (pt_not (pt_val (pe_call (ok_is_side T) (hr.mono (by decide)) (by rfl) T.m_is_side T.F_is_side.kp T.b_is_side .nil pass0 (pa_cons (pv 1) pa_nil)))) (pss_one ps_never) pss_nil)
      (pss_one (ps_ret (pe_cmpR op_gt (pe_fld (pv 0) rfl) (pe_call (ok_worth_of T) (hr.mono (by decide)) (by rfl) T.m_worth_of T.F_worth_of.kp T.b_worth_of .nil pass0 (pa_cons (pv 1) pa_nil)) (nomark _))))), ?_⟩
    refine ⟨_, rfl, v, sz, u, rfl, hv, fun H1 e1 => ⟨_, rfl, iteF ?_⟩⟩
    obtain ⟨dx, hp⟩ := id hn
    exact ⟨_, rfl, p, A.C_Number, dx, _, _, rfl, e1 _ _ hp, T.cls_Number, T.nW, nf_w _ _, _, rfl, v, sz, u, rfl, hv.ex e1, _, _, rfl, rfl, k _ e1⟩
theorem ok_ge (T : Txt K mg A) : FnOk P w K mg base CX0 6 A.f_Number_ge A.d_Number_ge ["self", "other"] (spCmp A.C_Number (fun w u => decide (u ≤ w))) := by
  refine T.F_Number_ge.ok sc_Number_ge (fun vs H Q E h => ?_) (fun cdv A0 outer s H vs Q E hr h => ?_)
  · obtain ⟨_, _, _, _, _, rfl, _⟩ := h
    rfl
  · have hu := hu_of hr
    obtain ⟨p, v, sz, w, u, rfl, hn, hv, k⟩ := h
    refine ⟨_, (pss_cons (ps_if (pt_not (pt_val (pe_call (ok_is_side T) (hr.mono (by decide)) (by rfl) T.m_is_side T.F_is_side.kp T.b_is_side .nil pass0 (pa_cons (pv 1) pa_nil)))) (pss_one ps_never) pss_nil)
      (pss_one (ps_ret (pe_cmpR op_ge (pe_fld (pv 0) rfl) (pe_call (ok_worth_of T) (hr.mono (by decide)) (by rfl) T.m_worth_of T.F_worth_of.kp T.b_worth_of .nil pass0 (pa_cons (pv 1) pa_nil)) (nomark _))))), ?_⟩
    refine ⟨_, rfl, v, sz, u, rfl, hv, fun H1 e1 => ⟨_, rfl, iteF ?_⟩⟩
    obtain ⟨dx, hp⟩ := id hn
    exact ⟨_, rfl, p, A.C_Number, dx, _, _, rfl, e1 _ _ hp, T.cls_Number, T.nW, nf_w _ _, _, rfl, v, sz, u, rfl, hv.ex e1, _, _, rfl, rfl, k _ e1⟩
end
end K00
set_option Elab.async false
set_option linter.all false
set_option maxRecDepth 100000
set_option maxHeartbeats 4400000
namespace K00
open PySem PySem.Spec PyProof.Rows L2 HX
open PySem.W (Frag)


theorem at_ints {ns : List Int} {i : Int} (h0 : 0 ≤ i) (h1 : i < (ns.length : Int)) : ∃ z : Int, atI (ns.map V.int) i = some (.int z) := by
  obtain ⟨j, rfl⟩ := Int.eq_ofNat_of_zero_le h0
  have hj : j < ns.length := by omega
  exact ⟨ns[j], atI_nat (by rw [List.getElem?_map, List.getElem?_eq_getElem hj]; rfl)⟩
/-- a pot of draws stands at p; at most n were mixed -/
def PotAt (H : Hp) (p : Addr) (n : Int) : Prop := ∃ a b c : Int, H p = some (.lst [.int a, .int b, .int c]) ∧ 0 ≤ a ∧ 0 ≤ b ∧ b < 2305843009213693921 ∧ 0 ≤ c ∧ c ≤ n
theorem PotAt.mono {H : Hp} {p : Addr} {n m : Int} (h : PotAt H p n) (e : n ≤ m) : PotAt H p m := let ⟨a, b, c, h0, h1, h2, h3, h4, h5⟩ := h; ⟨a, b, c, h0, h1, h2, h3, h4, Int.le_trans h5 e⟩
theorem PotAt.some {H : Hp} {p : Addr} {n : Int} (h : PotAt H p n) : ∃ o, H p = some o := let ⟨_, _, _, h0, _⟩ := h; ⟨_, h0⟩
theorem PotAt.ex {H H' : Hp} {p : Addr} {n : Int} (h : PotAt H p n) (e : Ex H H') : PotAt H' p n := let ⟨a, b, c, h0, hr⟩ := h; ⟨a, b, c, e _ _ h0, hr⟩
def spPot (K : Frag) : Sp := fun vs H Q _ => ∃ (a : Addr) (ns : List Int) (i : Int), vs = [.ref a, .int i] ∧ SqL K H a (ns.map V.int) ∧ 0 ≤ i ∧ i ≤ 3 ∧ ∀ (p : Addr) (H' : Hp), H p = none → Ex H H' → PotAt H' p 0 → Q (.ref p) H'
def spTake : Sp := fun vs H Q _ => ∃ (p : Addr) (n N : Int), vs = [.ref p, .int n] ∧ PotAt H p N ∧ 0 < n ∧ n < 1000 ∧ N ≤ 100000 ∧ ∀ (d : Int) (H' : Hp), 0 ≤ d → d < n → XB p H H' → PotAt H' p (N + 1) → Q (.int d) H'
/-- an item of a list is drawn -/
def spOf (K : Frag) : Sp := fun vs H Q _ => ∃ (p l : Addr) (xs : List V) (N : Int), vs = [.ref p, .ref l] ∧ PotAt H p N ∧ SqL K H l xs ∧ l ≠ p ∧ 0 < xs.length ∧ xs.length < 1000 ∧ N ≤ 100000 ∧
  ∀ (i : Nat) (v : V) (H' : Hp), xs[i]? = some v → XB p H H' → PotAt H' p (N + 1) → Q v H'
theorem sql_xb {K : Frag} {H H' : Hp} {a p : Addr} {xs : List V} (h : SqL K H a xs) (n : a ≠ p) (e : XB p H H') : SqL K H' a xs := by
  rcases h with (h | ⟨o, h⟩) | h
  · exact .inl (.inl (e _ _ n h))
  · exact .inl (.inr ⟨o, e _ _ n h⟩)
  · exact .inr h
theorem sql_ex {K : Frag} {H H' : Hp} {a : Addr} {xs : List V} (h : SqL K H a xs) (e : Ex H H') : SqL K H' a xs := by
  rcases h with (h | ⟨o, h⟩) | h
  · exact .inl (.inl (e _ _ h))
  · exact .inl (.inr ⟨o, e _ _ h⟩)
  · exact .inr h
theorem ite_b (b : Bool) : -(2 ^ 64) < (if b = true then (1 : Int) else 0) ∧ (if b = true then (1 : Int) else 0) < 2 ^ 64 := by cases b <;> decide
theorem ite_n (b : Bool) : 0 ≤ (if b = true then (1 : Int) else 0) := by cases b <;> decide
theorem at_prime (i : Int) : ∃ q : Int, atI [V.int 2147483647, .int 2147483629, .int 2147483587, .int 2147483579, .int 2147483563] (i % 5) = some (.int q) ∧ 0 < q ∧ q ≤ 2147483647 := by
  have h : i % 5 = 0 ∨ i % 5 = 1 ∨ i % 5 = 2 ∨ i % 5 = 3 ∨ i % 5 = 4 := by omega
  rcases h with h | h | h | h | h <;> rw [h]
  · exact ⟨2147483647, rfl, by decide, by decide⟩
  · exact ⟨2147483629, rfl, by decide, by decide⟩
  · exact ⟨2147483587, rfl, by decide, by decide⟩
  · exact ⟨2147483579, rfl, by decide, by decide⟩
  · exact ⟨2147483563, rfl, by decide, by decide⟩
theorem sq_le {c : Int} {m : Int} (h0 : 0 ≤ c) (h1 : c ≤ 1000000) (hm : 0 ≤ m) : 0 ≤ m * c * c ∧ m * c * c ≤ m * 1000000 * 1000000 := by
  have h2 : 0 ≤ m * c := Int.mul_nonneg hm h0
  have h3 : m * c ≤ m * 1000000 := Int.mul_le_mul_of_nonneg_left h1 hm
  exact ⟨Int.mul_nonneg h2 h0, Int.mul_le_mul h3 h1 h0 (by omega)⟩

section
variable {P : Program} {w : World} {K : Frag} {mg : Str → Option Value} {base : Heap} {A : Ad}

theorem ok_pot (T : Txt K mg A) : FnOk P w K mg base CX0 1 A.f_pot A.d_pot ["_law_script", "_law_k"] (spPot K) := by
  refine T.F_pot.ok sc_pot (fun vs H Q E h => ?_) (fun cdv A0 outer s H vs Q E hr h => ?_)
  · obtain ⟨_, _, _, rfl, _⟩ := h
    rfl
  · have hu := hu_of hr
    obtain ⟨a, ns, i, rfl, hS, h0, h3, k⟩ := h
    refine ⟨_, (pss_cons (ps_set (i := 2) sc_pot.nd rfl (Or.inl rfl) (pe_ifExp (pt_cmpR op_lt (pv 1) (pe_callB call_len_seq (by rfl) T.g_len (by decide +kernel) (pa_cons (pv 0) pa_nil)) (nomark _)) (pe_ix ix_list (pv 0) (pv 1) (fun _ _ => rfl)) (pe_op op_add (pe_op op_mul pe_int (pv 1)) pe_int)))
      (pss_cons (ps_set (i := 3) sc_pot.nd rfl (Or.inl rfl) (pe_op op_mul (pe_op op_mod (pe_callTy call_int1 (by rfl) T.g_int (by decide +kernel) (pa_cons (pe_callB call_abs (by rfl) T.g_abs (by decide +kernel) (pa_cons (pv 2) pa_nil)) pa_nil)) (pe_op op_powW (pe_op op_pow pe_int pe_int) pe_int)) (pe_callTy call_int1 (by rfl) T.g_int (by decide +kernel) (pa_cons (pe_cmpR op_ge (pe_callB call_abs (by rfl) T.g_abs (by decide +kernel) (pa_cons (pv 2) pa_nil)) (pe_op op_pow pe_int pe_int) (nomark _)) pa_nil))))
      (pss_one (ps_ret (pe_lst (pa_cons (pv 3) (pa_cons (pe_op op_mod (pe_callTy call_int1 (by rfl) T.g_int (by decide +kernel) (pa_cons (pe_op op_add (pe_op op_add (pe_op op_mul (pe_op op_mod (pe_callTy call_int1 (by rfl) T.g_int (by decide +kernel) (pa_cons (pv 2) pa_nil)) pe_int) pe_int) (pe_op op_mul (pe_op op_mul pe_int (pv 1)) (pv 1))) pe_int) pa_nil)) pe_int) (pa_cons pe_int pa_nil)))))))), ?_⟩
    refine ⟨_, rfl, _, rfl, a, _, rfl, .inl hS, _, _, rfl, rfl, _, rfl, if_dec (fun h1 => ?_) (fun h1 => ?_)⟩
    · rw [List.length_map] at h1
      obtain ⟨z, hz⟩ := at_ints (ns := ns) h0 h1
      refine ⟨_, rfl, _, rfl, a, _, _, _, rfl, rfl, hS, hz, ?_⟩
      refine ⟨_, rfl, _, rfl, .inl ⟨_, rfl, ?_⟩⟩
      refine ⟨_, _, rfl, rfl, (by show CPow _ _; exact ⟨by decide, by decide, by decide⟩), _, _, rfl, rfl, (by show CPowW _ _; exact ⟨by decide +kernel, by decide, by decide +kernel⟩), _, _, rfl, rfl, (by show (0 : Int) < _; decide +kernel), _, rfl, _, rfl, _, _, rfl, rfl, (by show CPow _ _; exact ⟨by decide, by decide, by decide⟩), _, _, rfl, rfl, .inr ⟨_, rfl, ?_⟩⟩
      refine ⟨_, _, rfl, rfl, (.inr (ite_b _)), ?_⟩
      refine ⟨_, rfl, ?_⟩
      refine ⟨_, rfl, .inl ⟨_, rfl, ?_⟩⟩
      refine ⟨_, _, rfl, rfl, (by show (0 : Int) < _; decide), _, _, rfl, rfl, (.inl ⟨by omega, by omega⟩), _, rfl, _, _, rfl, rfl, (.inl ⟨by decide, by decide⟩), _, rfl, _, _, rfl, rfl, (.inl ⟨by omega, by omega⟩), _, _, rfl, rfl, _, _, rfl, rfl, .inl ⟨_, rfl, ?_⟩⟩
      refine ⟨_, _, rfl, rfl, (by show (0 : Int) < _; decide), ?_⟩
      refine ⟨(by show 3 ≤ sizeLine; decide), fun p hp => k p _ hp (Ex.nw hp) ⟨_, _, _, upd_same, Int.mul_nonneg (Int.emod_nonneg _ (by decide +kernel)) (ite_n _), Int.emod_nonneg _ (by decide), Int.emod_lt_of_pos _ (by decide), by decide, by decide⟩⟩
    · refine ⟨_, rfl, _, _, rfl, rfl, .inl ⟨by decide, by decide⟩, _, _, rfl, rfl, ?_⟩
      refine ⟨_, rfl, _, rfl, .inl ⟨_, rfl, ?_⟩⟩
      refine ⟨_, _, rfl, rfl, (by show CPow _ _; exact ⟨by decide, by decide, by decide⟩), _, _, rfl, rfl, (by show CPowW _ _; exact ⟨by decide +kernel, by decide, by decide +kernel⟩), _, _, rfl, rfl, (by show (0 : Int) < _; decide +kernel), _, rfl, _, rfl, _, _, rfl, rfl, (by show CPow _ _; exact ⟨by decide, by decide, by decide⟩), _, _, rfl, rfl, .inr ⟨_, rfl, ?_⟩⟩
      refine ⟨_, _, rfl, rfl, (.inr (ite_b _)), ?_⟩
      refine ⟨_, rfl, ?_⟩
      refine ⟨_, rfl, .inl ⟨_, rfl, ?_⟩⟩
      refine ⟨_, _, rfl, rfl, (by show (0 : Int) < _; decide), _, _, rfl, rfl, (.inl ⟨by omega, by omega⟩), _, rfl, _, _, rfl, rfl, (.inl ⟨by decide, by decide⟩), _, rfl, _, _, rfl, rfl, (.inl ⟨by omega, by omega⟩), _, _, rfl, rfl, _, _, rfl, rfl, .inl ⟨_, rfl, ?_⟩⟩
      refine ⟨_, _, rfl, rfl, (by show (0 : Int) < _; decide), ?_⟩
      refine ⟨(by show 3 ≤ sizeLine; decide), fun p hp => k p _ hp (Ex.nw hp) ⟨_, _, _, upd_same, Int.mul_nonneg (Int.emod_nonneg _ (by decide +kernel)) (ite_n _), Int.emod_nonneg _ (by decide), Int.emod_lt_of_pos _ (by decide), by decide, by decide⟩⟩
theorem ok_take (T : Txt K mg A) : FnOk P w K mg base CX0 1 A.f_take A.d_take ["_law_pot_here", "_law_upto"] (spTake) := by
  refine T.F_take.ok sc_take (fun vs H Q E h => ?_) (fun cdv A0 outer s H vs Q E hr h => ?_)
  · obtain ⟨_, _, _, rfl, _⟩ := h
    rfl
  · have hu := hu_of hr
    obtain ⟨p, n, N, rfl, ⟨a, b, c, hp, ha, hb, hb2, hc, hc2⟩, hn, hn2, hN, k⟩ := h
    refine ⟨_, (pss_cons (ps_if (pt_cmpR op_gt (pe_ix ix_list (pv 0) pe_int (fun _ _ => rfl)) pe_int (nomark _)) (pss_cons (ps_set (i := 2) sc_take.nd rfl (Or.inl rfl) (pe_op op_mod (pe_callTy call_int1 (by rfl) T.g_int (by decide +kernel) (pa_cons (pe_ix ix_list (pv 0) pe_int (fun _ _ => rfl)) pa_nil)) (pv 1)))
      (pss_cons (ps_asg (pe_op op_fdiv (pe_ix ix_list (pv 0) pe_int (fun _ _ => rfl)) (pv 1)) (pg_sub (pv 0) pe_int set_list))
      (pss_one (ps_ret (pv 2))))) pss_nil)
      (pss_cons (ps_asg (pe_op op_add (pe_ix ix_list (pv 0) pe_int (fun _ _ => rfl)) pe_int) (pg_sub (pv 0) pe_int set_list))
      (pss_cons (ps_set (i := 3) sc_take.nd rfl (Or.inl rfl) (pe_ix ix_list (pe_lst (pa_cons pe_int (pa_cons pe_int (pa_cons pe_int (pa_cons pe_int (pa_cons pe_int pa_nil)))))) (pe_op op_mod (pe_callTy call_int1 (by rfl) T.g_int (by decide +kernel) (pa_cons (pe_ix ix_list (pv 0) pe_int (fun _ _ => rfl)) pa_nil)) pe_int) (fun _ _ => rfl)))
      (pss_cons (ps_set (i := 4) sc_take.nd rfl (Or.inl rfl) (pe_op op_mod (pe_callTy call_int1 (by rfl) T.g_int (by decide +kernel) (pa_cons (pe_op op_pow (pe_callTy call_int1 (by rfl) T.g_int (by decide +kernel) (pa_cons (pe_op op_add (pe_op op_add (pe_ix ix_list (pv 0) pe_int (fun _ _ => rfl)) (pe_op op_mul (pe_op op_mul pe_int (pe_ix ix_list (pv 0) pe_int (fun _ _ => rfl))) (pe_ix ix_list (pv 0) pe_int (fun _ _ => rfl)))) pe_int) pa_nil)) pe_int) pa_nil)) (pv 3)))
      (pss_cons (ps_set (i := 4) sc_take.nd rfl (Or.inl rfl) (pe_op op_mod (pe_callTy call_int1 (by rfl) T.g_int (by decide +kernel) (pa_cons (pe_op op_mul (pv 4) (pe_op op_add (pe_op op_mod (pe_callTy call_int1 (by rfl) T.g_int (by decide +kernel) (pa_cons (pv 4) pa_nil)) pe_int) (pe_op op_mul pe_int (pe_ix ix_list (pv 0) pe_int (fun _ _ => rfl))))) pa_nil)) pe_int))
      (pss_one (ps_ret (pe_op op_mod (pe_callTy call_int1 (by rfl) T.g_int (by decide +kernel) (pa_cons (pe_op op_fdiv (pv 4) pe_int) pa_nil)) (pv 1))))))))), ?_⟩
    refine ⟨_, rfl, p, _, _, _, rfl, rfl, SqL.of hp, rfl, _, _, rfl, rfl, _, rfl, if_dec (fun h1 => ?_) (fun h1 => ?_)⟩
    · refine ⟨_, rfl, p, _, _, _, rfl, rfl, SqL.of hp, rfl, .inl ⟨_, rfl, _, rfl, _, _, rfl, rfl, (by show (0 : Int) < n; omega), ?_⟩⟩
      refine ⟨_, rfl, p, _, _, _, rfl, rfl, SqL.of hp, rfl, _, rfl, _, _, rfl, rfl, ⟨hn, by omega⟩, _, rfl, p, _, _, _, rfl, rfl, hp, rfl, ?_⟩
      refine ⟨_, rfl, k _ _ (Int.emod_nonneg _ (by omega)) (Int.emod_lt_of_pos _ hn) XB.wr ⟨_, _, _, upd_same, Int.ediv_nonneg ha (by omega), hb, hb2, hc, by omega⟩⟩
    · refine ⟨_, rfl, p, _, _, _, rfl, rfl, SqL.of hp, rfl, _, _, rfl, rfl, _, rfl, p, _, _, _, rfl, rfl, hp, rfl, ?_⟩
      refine ⟨(by show 5 ≤ sizeLine; decide), fun l hl => ?_⟩
      have hp1 : (upd H p (.lst [.int a, .int b, .int (c + 1)])) p = some (.lst [.int a, .int b, .int (c + 1)]) := upd_same
      have npl : p ≠ l := ne_of_none hp1 hl
      obtain ⟨q, hq, hq0, hq1⟩ := at_prime (c + 1)
      have hp2 : (upd (upd H p (.lst [.int a, .int b, .int (c + 1)])) l (.lst [V.int 2147483647, .int 2147483629, .int 2147483587, .int 2147483579, .int 2147483563])) p = some (.lst [.int a, .int b, .int (c + 1)]) := by rw [upd_ne npl]; exact hp1
      have hl2 : (upd (upd H p (.lst [.int a, .int b, .int (c + 1)])) l (.lst [V.int 2147483647, .int 2147483629, .int 2147483587, .int 2147483579, .int 2147483563])) l = some (.lst [V.int 2147483647, .int 2147483629, .int 2147483587, .int 2147483579, .int 2147483563]) := upd_same
      have hx2 : XB p H (upd (upd H p (.lst [.int a, .int b, .int (c + 1)])) l (.lst [V.int 2147483647, .int 2147483629, .int 2147483587, .int 2147483579, .int 2147483563])) := XB.tr XB.wr (Ex.xb (Ex.nw hl))
      refine ⟨_, rfl, p, _, _, _, rfl, rfl, SqL.of hp2, rfl, .inl ⟨_, rfl, _, _, rfl, rfl, (by show (0 : Int) < _; decide), l, _, _, _, rfl, rfl, SqL.of hl2, hq, ?_⟩⟩
      obtain ⟨s0, s1⟩ := sq_le (c := c + 1) (m := 98081) (by omega) (by omega) (by decide)
      refine ⟨_, rfl, p, _, _, _, rfl, rfl, SqL.of hp2, rfl, _, rfl, p, _, _, _, rfl, rfl, SqL.of hp2, rfl, _, _, rfl, rfl, (.inl ⟨by decide, by decide⟩), _, rfl, p, _, _, _, rfl, rfl, SqL.of hp2, rfl, _, _, rfl, rfl, (.inl ⟨by omega, by omega⟩), _, _, rfl, rfl, _, _, rfl, rfl, .inl ⟨_, rfl, ?_⟩⟩
      refine ⟨_, _, rfl, rfl, (by show CPow _ _; exact ⟨by decide, by decide, by omega⟩), .inl ⟨_, rfl, ?_⟩⟩
      refine ⟨_, rfl, _, _, rfl, rfl, (by show (0 : Int) < q; exact hq0), ?_⟩
      have m0 : ∀ z : Int, -(2 ^ 64) < z % q ∧ z % q < 2 ^ 64 := fun z => ⟨Int.lt_of_lt_of_le (by decide) (Int.emod_nonneg z (by omega)), Int.lt_of_lt_of_le (Int.lt_of_lt_of_le (Int.emod_lt_of_pos z hq0) hq1) (by decide)⟩
      refine ⟨_, rfl, _, rfl, .inl ⟨_, rfl, ?_⟩⟩
      refine ⟨_, _, rfl, rfl, (by show (0 : Int) < _; decide), _, rfl, p, _, _, _, rfl, rfl, SqL.of hp2, rfl, _, _, rfl, rfl, (.inl ⟨by decide, by decide⟩), _, _, rfl, rfl, _, _, rfl, rfl, (.inl (m0 _)), .inl ⟨_, rfl, ?_⟩⟩
      refine ⟨_, _, rfl, rfl, (by show (0 : Int) < _; decide), ?_⟩
      refine ⟨_, rfl, _, _, rfl, rfl, ⟨by decide, by decide⟩, .inl ⟨_, rfl, ?_⟩⟩
      refine ⟨_, rfl, _, _, rfl, rfl, (by show (0 : Int) < n; exact hn), ?_⟩
      exact k _ _ (Int.emod_nonneg _ (by omega)) (Int.emod_lt_of_pos _ hn) hx2 ⟨_, _, _, hp2, ha, hb, hb2, by omega, by omega⟩
theorem ok_of (T : Txt K mg A) : FnOk P w K mg base CX0 2 A.f_of A.d_of ["_law_pot_here", "_law_some"] (spOf K) := by
  refine T.F_of.ok sc_of (fun vs H Q E h => ?_) (fun cdv A0 outer s H vs Q E hr h => ?_)
  · obtain ⟨_, _, _, _, rfl, _⟩ := h
    rfl
  · have hu := hu_of hr
    obtain ⟨p, l, xs, N, rfl, hp, hl, nlp, h0, h1, hN, k⟩ := h
    refine ⟨_, (pss_one (ps_ret (pe_ix ix_list (pv 1) (pe_call (ok_take T) (hr.mono (by decide)) (by rfl) T.m_take T.F_take.kp T.b_take .nil pass0 (pa_cons (pv 0) (pa_cons (pe_callB call_len_seq (by rfl) T.g_len (by decide +kernel) (pa_cons (pv 1) pa_nil)) pa_nil))) (fun _ _ => rfl)))), ?_⟩
    refine ⟨_, rfl, _, rfl, _, rfl, l, _, rfl, .inl hl, p, _, N, rfl, hp, by omega, by omega, hN, fun d H1 d0 d1 e1 hp1 => ?_⟩
    obtain ⟨i, rfl⟩ := Int.eq_ofNat_of_zero_le d0
    have hi : i < xs.length := by omega
    have hg : xs[i]? = some xs[i] := List.getElem?_eq_getElem hi
    exact ⟨l, _, _, _, rfl, rfl, sql_xb hl nlp e1, atI_nat hg, k i _ H1 hg e1 hp1⟩
end
end K00
set_option Elab.async false
set_option linter.all false
set_option maxRecDepth 100000
set_option maxHeartbeats 4400000
namespace K00
open PySem PySem.Spec PyProof.Rows L2 HX
open PySem.W (Frag)


inductive Sg | add | sub | mul | dv
  deriving DecidableEq
def Sg.s : Sg → Str | .add => "+" | .sub => "-" | .mul => "*" | .dv => "//"
/-- the worth that is due -/
def Sg.res (n a b : Int) : Sg → Int | .add => (a + b) % n | .sub => (a - b) % n | .mul => (a * b) % n | .dv => a / b
def Sg.bad (b : Int) : Sg → Bool | .dv => decide (b = 0) | _ => false
theorem Sg.res_ok {n a b : Int} (g : Sg) (h1 : 2 ≤ n) (h3 : 0 ≤ a) (h4 : a < n) (h5 : 0 ≤ b) : 0 ≤ g.res n a b ∧ g.res n a b < n := by
  cases g with
  | dv => exact ⟨Int.ediv_nonneg h3 h5, Int.lt_of_le_of_lt (Int.ediv_le_self _ h3) h4⟩
  | _ => exact ⟨Int.emod_nonneg _ (by omega), Int.emod_lt_of_pos _ (by omega)⟩
def spDue : Sp := fun vs H Q _ => ∃ (g : Sg) (n a b : Int), vs = [.str g.s, .int n, .int a, .int b] ∧ 2 ≤ n ∧ n < 5 ∧ 0 ≤ a ∧ a < n ∧ 0 ≤ b ∧ b < n ∧ ∀ H', Ex H H' → Q (if g.bad b = true then .non else .int (g.res n a b)) H'
/-- one of the two is a Number -/
def OneN (x y : V) : Prop := (∃ p, x = .ref p) ∨ ∃ p, y = .ref p
/-- the fault zero, behind H -/
def ZeroE (CF : Addr) (H : Hp) (E : XK) : Prop := ∀ (t d : Addr) (H' : Hp), Ex H H' → H' t = some (.tup [.str "zero"]) → H' d = some (.xd [("words", .ref t)]) → E (.ref CF) (some d) H'
def spSigned (C CF : Addr) : Sp := fun vs H Q E => ∃ (g : Sg) (x y : V) (n a b : Int), vs = [.str g.s, x, y] ∧ Sd C H x n a ∧ Sd C H y n b ∧ OneN x y ∧ 2 ≤ n ∧ n < 5 ∧ 0 ≤ a ∧ a < n ∧ 0 ≤ b ∧ b < n ∧
  (g.bad b = false → NewN C H Q n (g.res n a b)) ∧ (g.bad b = true → ZeroE CF H E)
theorem use_bin {C : Addr} {H : Hp} {x y : V} {n a b : Int} {f fr : Int → Int → Int} {E : XK} {Q : VK} (hx : Sd C H x n a) (hy : Sd C H y n b) (o : OneN x y) (h1 : 2 ≤ n) (h2 : n < 5) (h3 : 0 ≤ a) (h4 : a < n) (h5 : 0 ≤ b) (h6 : b < n) (hf : fr b a = f a b)
    (k : NewN C H Q n (f a b % n)) : rOwn C (spBin C f) (spBin C fr) E x y H Q := by
  rcases hx with rfl | ⟨p, rfl, hp⟩
  · rcases o with ⟨q, z⟩ | ⟨q, rfl⟩
    · cases z
    · rcases hy with z | ⟨q', z, hq⟩
      · cases z
      · cases z
        obtain ⟨dx, e⟩ := id hq
        exact .inr ⟨⟨q, dx, _, rfl, e⟩, ⟨a, rfl⟩, q, _, n, b, a, rfl, hq, .inl rfl, h1, h2, h5, h6, h3, h4, by rw [hf]; exact k⟩
  · obtain ⟨dx, e⟩ := id hp
    refine .inl ⟨⟨p, dx, _, rfl, e⟩, ?_, p, y, n, a, b, rfl, hp, hy, h1, h2, h3, h4, h5, h6, k⟩
    rcases hy with rfl | ⟨q, rfl, dy, e2⟩
    · exact .inr ⟨_, rfl⟩
    · exact .inl ⟨q, dy, _, rfl, e2⟩
theorem use_div {C CF : Addr} {H : Hp} {x y : V} {n a b : Int} {E : XK} {Q : VK} (hx : Sd C H x n a) (hy : Sd C H y n b) (o : OneN x y) (h1 : 2 ≤ n) (h2 : n < 5) (h3 : 0 ≤ a) (h4 : a < n) (h5 : 0 ≤ b) (h6 : b < n)
    (k : b ≠ 0 → NewN C H Q n (a / b)) (kE : b = 0 → ZeroE CF H E) : rOwn C (spQBin C CF false) (spQBin C CF true) E x y H Q := by
  rcases hx with rfl | ⟨p, rfl, hp⟩
  · rcases o with ⟨q, z⟩ | ⟨q, rfl⟩
    · cases z
    · rcases hy with z | ⟨q', z, hq⟩
      · cases z
      · cases z
        obtain ⟨dx, e⟩ := id hq
        exact .inr ⟨⟨q, dx, _, rfl, e⟩, ⟨a, rfl⟩, q, _, n, b, a, rfl, hq, .inl rfl, h1, h2, h5, h6, h3, h4, k, kE⟩
  · obtain ⟨dx, e⟩ := id hp
    refine .inl ⟨⟨p, dx, _, rfl, e⟩, ?_, p, y, n, a, b, rfl, hp, hy, h1, h2, h3, h4, h5, h6, k, kE⟩
    rcases hy with rfl | ⟨q, rfl, dy, e2⟩
    · exact .inr ⟨_, rfl⟩
    · exact .inl ⟨q, dy, _, rfl, e2⟩
theorem use_cmp {C : Addr} {H : Hp} {x y : V} {n a b : Int} {f fr : Int → Int → Bool} {E : XK} {Q : VK} (hx : Sd C H x n a) (hy : Sd C H y n b) (o : OneN x y) (hf : fr b a = f a b) (k : ∀ H', Ex H H' → Q (.bl (f a b)) H') : rOwn C (spCmp C f) (spCmp C fr) E x y H Q := by
  rcases hx with rfl | ⟨p, rfl, hp⟩
  · rcases o with ⟨q, z⟩ | ⟨q, rfl⟩
    · cases z
    · rcases hy with z | ⟨q', z, hq⟩
      · cases z
      · cases z
        obtain ⟨dx, e⟩ := id hq
        exact .inr ⟨⟨q, dx, _, rfl, e⟩, ⟨a, rfl⟩, q, _, n, b, a, rfl, hq, .inl rfl, by rw [hf]; exact k⟩
  · obtain ⟨dx, e⟩ := id hp
    refine .inl ⟨⟨p, dx, _, rfl, e⟩, ?_, p, y, n, a, b, rfl, hp, hy, k⟩
    rcases hy with rfl | ⟨q, rfl, dy, e2⟩
    · exact .inr ⟨_, rfl⟩
    · exact .inl ⟨q, dy, _, rfl, e2⟩
def spHeard (C : Addr) : Sp := fun vs H Q _ => ∃ (g : Sg) (x y : V) (n a b : Int), vs = [.str g.s, x, y] ∧ Sd C H x n a ∧ Sd C H y n b ∧ OneN x y ∧ 2 ≤ n ∧ n < 5 ∧ 0 ≤ a ∧ a < n ∧ 0 ≤ b ∧ b < n ∧
  ∀ (p : Addr) (H' : Hp), Ex H H' → H' p = some (.tup (if g.bad b = true then [.str "zero"] else [.int n, .int (g.res n a b)])) → Q (.ref p) H'
def spSignR (C : Addr) : Sp := fun vs H Q _ => ∃ (g : Sg) (t : Addr) (x y : V) (n a b : Int), vs = [.str g.s, .int n, .int a, .int b, .ref t] ∧ H t = some (.tup [x, y]) ∧ Sd C H x n a ∧ Sd C H y n b ∧ OneN x y ∧ 2 ≤ n ∧ n < 5 ∧ 0 ≤ a ∧ a < n ∧ 0 ≤ b ∧ b < n ∧ ∀ H', Ex H H' → Q (.bl true) H'
def cmps (a b : Int) : List V := [.bl (decide (V.int a = V.int b)), .bl (!decide (V.int a = V.int b)), .bl (decide (a < b)), .bl (decide (a ≤ b)), .bl (decide (b < a)), .bl (decide (b ≤ a))]
def spCompd (C : Addr) : Sp := fun vs H Q _ => ∃ (x y : V) (n a b : Int), vs = [x, y] ∧ Sd C H x n a ∧ Sd C H y n b ∧ OneN x y ∧ ∀ (p : Addr) (H' : Hp), Ex H H' → H' p = some (.lst (cmps a b)) → Q (.ref p) H'

section
variable {P : Program} {w : World} {K : Frag} {mg : Str → Option Value} {base : Heap} {A : Ad}

theorem ok_due (T : Txt K mg A) : FnOk P w K mg base CX0 1 A.f_due A.d_due ["_law_sign", "_law_size", "_law_a", "_law_b"] (spDue) := by
  refine T.F_due.ok sc_due (fun vs H Q E h => ?_) (fun cdv A0 outer s H vs Q E hr h => ?_)
  · obtain ⟨_, _, _, _, rfl, _⟩ := h
    rfl
  · have hu := hu_of hr
    obtain ⟨g, n, a, b, rfl, h1, h2, h3, h4, h5, h6, k⟩ := h
    refine ⟨_, (pss_cons (ps_if (pt_cmpR op_eq (pv 0) pe_str (nomark _)) (pss_one (ps_ret (pe_ifExp (pt_cmpR op_gt (pv 3) pe_int (nomark _)) (pe_op op_fdiv (pv 2) (pv 3)) pe_non))) pss_nil)
      (pss_cons (ps_set (i := 4) sc_due.nd rfl (Or.inl rfl) (pe_dget hu (pe_disp (pps_cons pe_str (pe_op op_add (pv 2) (pv 3)) (pps_cons pe_str (pe_op op_sub (pv 2) (pv 3)) (pps_cons pe_str (pe_op op_mul (pv 2) (pv 3)) pps_nil))) (by rfl) (by rfl) (fun z => by cases z) (by decide)) (pv 0) (fun _ _ => rfl)))
      (pss_one (ps_ret (pe_op op_mod (pe_callTy call_int1 (by rfl) T.g_int (by decide +kernel) (pa_cons (pv 4) pa_nil)) (pv 1)))))), ?_⟩
    cases g with
    | dv =>
      refine ⟨_, rfl, rfl, _, rfl, if_true (by decide +kernel) ?_⟩
      refine ⟨_, rfl, _, _, rfl, rfl, _, rfl, if_dec (fun hb => ?_) (fun hb => ?_)⟩
      · refine ⟨_, rfl, _, rfl, _, _, rfl, rfl, ⟨hb, by omega⟩, ?_⟩
        have q := k H (Ex.rf H)
        rw [if_neg (by simp [Sg.bad]; omega)] at q
        exact q
      · have q := k H (Ex.rf H)
        rw [if_pos (by simp [Sg.bad]; omega)] at q
        exact q
    | add =>
      refine ⟨_, rfl, rfl, _, rfl, if_false (by decide +kernel) ?_⟩
      refine fun p hp => ?_
      refine ⟨_, rfl, _, rfl, _, _, rfl, rfl, _, rfl, _, rfl, _, _, rfl, rfl, _, rfl, _, rfl, _, _, rfl, rfl, (.inl ⟨by omega, by omega⟩), upd_same, [(Sum.inr "+", .int (a + b)), (Sum.inr "-", .int (a - b)), (Sum.inr "*", .int (a * b))], rfl, (by show 3 ≤ 15; decide), ?_⟩
      refine ⟨_, rfl, p, .int (a + b), rfl, DGet.k (k := Sum.inr "+") upd_same, ?_⟩
      refine ⟨_, rfl, .inl ⟨_, rfl, _, rfl, _, _, rfl, rfl, (by show (0 : Int) < n; omega), k _ ?_⟩⟩
      exact fun c o e => by rw [upd_ne (ne_of_none e hp), upd_ne (ne_of_none e hp)]; exact e
    | sub =>
      refine ⟨_, rfl, rfl, _, rfl, if_false (by decide +kernel) ?_⟩
      refine fun p hp => ?_
      refine ⟨_, rfl, _, rfl, _, _, rfl, rfl, _, rfl, _, rfl, _, _, rfl, rfl, _, rfl, _, rfl, _, _, rfl, rfl, (.inl ⟨by omega, by omega⟩), upd_same, [(Sum.inr "+", .int (a + b)), (Sum.inr "-", .int (a - b)), (Sum.inr "*", .int (a * b))], rfl, (by show 3 ≤ 15; decide), ?_⟩
      refine ⟨_, rfl, p, .int (a - b), rfl, DGet.k (k := Sum.inr "-") upd_same, ?_⟩
      refine ⟨_, rfl, .inl ⟨_, rfl, _, rfl, _, _, rfl, rfl, (by show (0 : Int) < n; omega), k _ ?_⟩⟩
      exact fun c o e => by rw [upd_ne (ne_of_none e hp), upd_ne (ne_of_none e hp)]; exact e
    | mul =>
      refine ⟨_, rfl, rfl, _, rfl, if_false (by decide +kernel) ?_⟩
      refine fun p hp => ?_
      refine ⟨_, rfl, _, rfl, _, _, rfl, rfl, _, rfl, _, rfl, _, _, rfl, rfl, _, rfl, _, rfl, _, _, rfl, rfl, (.inl ⟨by omega, by omega⟩), upd_same, [(Sum.inr "+", .int (a + b)), (Sum.inr "-", .int (a - b)), (Sum.inr "*", .int (a * b))], rfl, (by show 3 ≤ 15; decide), ?_⟩
      refine ⟨_, rfl, p, .int (a * b), rfl, DGet.k (k := Sum.inr "*") upd_same, ?_⟩
      refine ⟨_, rfl, .inl ⟨_, rfl, _, rfl, _, _, rfl, rfl, (by show (0 : Int) < n; omega), k _ ?_⟩⟩
      exact fun c o e => by rw [upd_ne (ne_of_none e hp), upd_ne (ne_of_none e hp)]; exact e
theorem ok_signed (T : Txt K mg A) : FnOk P w K mg base (L2.CX P w) 7 A.f_signed A.d_signed ["_law_sign", "_law_one", "_law_other"] (spSigned A.C_Number A.C_Fault) := by
  refine T.F_signed.okX sc_signed (fun vs H Q E h => ?_) (fun cdv A0 outer s H vs Q E hr h => ?_)
  · obtain ⟨_, _, _, _, _, _, rfl, _⟩ := h
    rfl
  · have hu := hu_of hr
    obtain ⟨g, x, y, n, a, b, rfl, hx, hy, o, h1, h2, h3, h4, h5, h6, k, kE⟩ := h
    refine ⟨_, (pss_cons (ps_if (pt_cmpR op_eq (pv 0) pe_str (nomark _)) (pss_one (ps_ret (pe_op (op_own io_add T.ar_add (ok_add T) T.b_Number_add (ok_radd T) T.b_Number_radd (hr.mono (by decide)) pass0) (pv 1) (pv 2)))) pss_nil)
      (pss_cons (ps_if (pt_cmpR op_eq (pv 0) pe_str (nomark _)) (pss_one (ps_ret (pe_op (op_own io_sub T.ar_sub (ok_sub T) T.b_Number_sub (ok_rsub T) T.b_Number_rsub (hr.mono (by decide)) pass0) (pv 1) (pv 2)))) pss_nil)
      (pss_one (ps_ret (pe_ifExp (pt_cmpR op_eq (pv 0) pe_str (nomark _)) (pe_op (op_own io_mul T.ar_mul (ok_mul T) T.b_Number_mul (ok_rmul T) T.b_Number_rmul (hr.mono (by decide)) pass0) (pv 1) (pv 2)) (pe_op (op_own io_fdv T.ar_floordiv (ok_floordiv T) T.b_Number_floordiv (ok_rfloordiv T) T.b_Number_rfloordiv (hr.mono (by decide)) (passes_call (takes_of rfl rfl rfl rfl) (fun _ _ _ _ h => h))) (pv 1) (pv 2))))))), ?_⟩
    cases g with
    | add =>
      refine ⟨_, rfl, rfl, _, rfl, if_true (by decide +kernel) ?_⟩
      exact ⟨_, rfl, _, rfl, use_bin hx hy o h1 h2 h3 h4 h5 h6 rfl (k rfl)⟩
    | sub =>
      refine ⟨_, rfl, rfl, _, rfl, if_false (by decide +kernel) ?_⟩
      refine ⟨_, rfl, rfl, _, rfl, if_true (by decide +kernel) ?_⟩
      exact ⟨_, rfl, _, rfl, use_bin hx hy o h1 h2 h3 h4 h5 h6 rfl (k rfl)⟩
    | mul =>
      refine ⟨_, rfl, rfl, _, rfl, if_false (by decide +kernel) ?_⟩
      refine ⟨_, rfl, rfl, _, rfl, if_false (by decide +kernel) ?_⟩
      refine ⟨_, rfl, rfl, _, rfl, if_true (by decide +kernel) ?_⟩
      exact ⟨_, rfl, _, rfl, use_bin hx hy o h1 h2 h3 h4 h5 h6 rfl (k rfl)⟩
    | dv =>
      refine ⟨_, rfl, rfl, _, rfl, if_false (by decide +kernel) ?_⟩
      refine ⟨_, rfl, rfl, _, rfl, if_false (by decide +kernel) ?_⟩
      refine ⟨_, rfl, rfl, _, rfl, if_false (by decide +kernel) ?_⟩
      exact ⟨_, rfl, _, rfl, use_div hx hy o h1 h2 h3 h4 h5 h6 (fun z => k (by simp [Sg.bad, z])) (fun z => kE (by simp [Sg.bad, z]))⟩
end
end K00
set_option Elab.async false
set_option linter.all false
set_option maxRecDepth 100000
set_option maxHeartbeats 4400000
namespace K00
open PySem PySem.Spec PyProof.Rows L2 HX
open PySem.W (Frag)


theorem q_eq {Q : VK} {z : Str} {H : Hp} (h : Q (.bl true) H) : Q (.bl (decide (V.str z = V.str z))) H := by
  rw [decide_eq_true rfl]
  exact h
theorem fine_zero : Fine (.tuple (([V.str "zero"] : List V).map fl)) := fine_tup (fun d hd => by rw [show d = .str "zero" from by simpa [fl] using hd]; exact flat_zero) (by decide)
theorem flat_i {i : Int} (h0 : -1000 ≤ i) (h1 : i ≤ 1000) : Flat (.int i) := .int i (by omega) (by omega)
theorem flats {xs : List V} (h : ∀ v ∈ xs, ∃ i : Int, v = .int i ∧ -1000 ≤ i ∧ i ≤ 1000) : ∀ d ∈ xs.map fl, Flat d := fun d hd => by
  obtain ⟨v, hv, rfl⟩ := List.mem_map.mp hd
  obtain ⟨i, rfl, h0, h1⟩ := h v hv
  exact flat_i h0 h1
theorem fine_2 {a b : Int} (h0 : 0 ≤ a) (h1 : a ≤ 1000) (h2 : 0 ≤ b) (h3 : b ≤ 1000) : Fine (.tuple (([V.int a, V.int b] : List V).map fl)) :=
  fine_tup (flats fun v hv => by
    simp only [List.mem_cons, List.not_mem_nil, or_false] at hv
    rcases hv with rfl | rfl
    · exact ⟨a, rfl, by omega, h1⟩
    · exact ⟨b, rfl, by omega, h3⟩) (by show 2 ≤ 1000; decide)
theorem use_make {C : Addr} {H : Hp} {Q : VK} {E : XK} {s w : Int} (h1 : 2 ≤ s) (h2 : s < 5) (h3 : 0 ≤ w) (h4 : w < s) (k : NewN C H Q s w) :
    ∀ x dx, H x = none → H dx = none → dx ≠ x → spNinit C [.ref x, .int s, .int w] (upd (upd H dx (.own x)) x (.ins C dx [])) (fun v H2 => v = .non ∧ Q (.ref x) H2) E := fun x dx nx ndx ne => by
  refine ⟨x, dx, s, w, rfl, upd_same, h1, h2, h3, h4, rfl, k x _ nx (fun c o e => ?_) ⟨dx, upd_same⟩⟩
  rw [upd_ne (ne_of_none e nx), upd_ne (ne_of_none e nx), upd_ne (ne_of_none e ndx)]
  exact e

section
variable {P : Program} {w : World} {K : Frag} {mg : Str → Option Value} {base : Heap} {A : Ad}

theorem ok_heard (T : Txt K mg A) : FnOk P w K mg base CX0 8 A.f_heard A.d_heard ["_law_sign", "_law_one", "_law_other"] (spHeard A.C_Number) := by
  refine T.F_heard.ok sc_heard (fun vs H Q E h => ?_) (fun cdv A0 outer s H vs Q E hr h => ?_)
  · obtain ⟨_, _, _, _, _, _, rfl, _⟩ := h
    rfl
  · have hu := hu_of hr
    obtain ⟨g, x, y, n, a, b, rfl, hx, hy, o, h1, h2, h3, h4, h5, h6, k⟩ := h
    refine ⟨_, (pss_cons (ps_try_as (i := 4) (tb := fun W => tAsg (tCallS (spSigned A.C_Number A.C_Fault) (WE W) (tCons (tVar 0) (tCons (tVar 1) (tCons (tVar 2) tNil)))) (gName 3)) (ts := fun a cls d => tRet (tXf a cls d A.C_Fault "words" (tVar 4))) (Wout := fun _ _ _ _ => False) rfl rfl sc_heard.nd rfl rfl ⟨rfl, by decide, Or.inl T.m_Fault⟩ L2.takes0
      (fun W pn xe tk _ => pss_one (ps_set (i := 3) sc_heard.nd rfl (Or.inl rfl) (by exact (pe_callS (ok_signed T) (hr.mono (by decide)) rfl T.m_signed T.F_signed.kp T.b_signed (fun σ => passAt tk σ) (by exact (pa_cons (pv 0) (pa_cons (pv 1) (pa_cons (pv 2) pa_nil))))))))
      (fun a oe cls d pn hz hf => pss_one (ps_ret (by exact (pe_xf T.xf T.xno hz hf (pv 4))))))
      (pss_one (ps_ret (pe_ifExp (pt_val (pe_callB call_isi (by rfl) T.g_isinstance (by decide +kernel) (pa_cons (pv 3) (pa_cons (pe_glob (v := .ref A.C_Number) (by rfl) T.m_Number rfl) pa_nil)))) (pe_tup (pa_cons (pe_prop (pv 3) T.cls_Number T.P_size (ok_size T) (hr.mono (by decide)) T.b_Number_size .nil pass0 rfl) (pa_cons (pe_prop (pv 3) T.cls_Number T.P_worth (ok_worth T) (hr.mono (by decide)) T.b_Number_worth .nil pass0 rfl) pa_nil))) pe_non)))), ?_⟩
    have hres := g.res_ok h1 h3 h4 h5
    refine ⟨_, rfl, _, rfl, _, rfl, g, x, y, n, a, b, rfl, hx, hy, o, h1, h2, h3, h4, h5, h6, (fun hb p H1 hn e1 num => ?_), (fun hb t d H1 e1 ht hd => ?_)⟩
    · obtain ⟨dx, z⟩ := id num
      refine ⟨_, rfl, _, _, _, _, _, rfl, .own _, ty_num T num, T.nn, _, rfl, iteT ?_⟩
      refine ⟨_, rfl, p, dx, _, rfl, z, p, n, _, rfl, num, _, rfl, p, dx, _, rfl, z, p, n, _, rfl, num, (by show 2 ≤ sizeLine; decide), fun q hq => k q _ (e1.tr (Ex.nw hq)) ?_⟩
      rw [if_neg (by rw [hb]; decide)]
      exact upd_same
    · refine ⟨true, T.xme, fun _ c hc => ?_, fun q => Bool.noConfusion q⟩
      refine ⟨_, rfl, rfl, rfl, d, _, .ref t, rfl, hd, by simp [List.lookup], k t H1 e1 ?_⟩
      rw [if_pos hb]
      exact ht
theorem ok_sign_right (T : Txt K mg A) : FnG P w K mg base CX0 9 A.f_sign_right A.d_sign_right ["_law_sign", "_law_size", "_law_a", "_law_b", "_law_pair"] (spSignR A.C_Number) := by
  refine okG0 T.F_sign_right sc_sign_right (fun vs H Q E h => ?_) (fun cdv A0 outer s H vs Q E hgd0 hr h => ?_)
  · obtain ⟨_, _, _, _, _, _, _, rfl, _⟩ := h
    rfl
  · have hu := hu_of hr
    have hgd : (A0.deeper (envOfC "_law_sign_right" (defScope s_sign_right) s.heap.objs.size A.f_sign_right cdv)).guards = some [] := hgd0
    obtain ⟨g, t, x, y, n, a, b, rfl, ht, hx, hy, o, h1, h2, h3, h4, h5, h6, k⟩ := h
    refine ⟨_, (pss_cons (ps_set (i := 5) sc_sign_right.nd rfl (Or.inl rfl) (pe_call (ok_due T) (hr.mono (by decide)) (by rfl) T.m_due T.F_due.kp T.b_due .nil pass0 (pa_cons (pv 0) (pa_cons (pv 1) (pa_cons (pv 2) (pa_cons (pv 3) pa_nil))))))
      (pss_one (ps_ret (pe_cmpR op_eq (pe_callB (call_reprD hgd hr.units) (by rfl) T.g_repr (by decide +kernel) (pa_cons (pe_call (ok_heard T) (hr.mono (by decide)) (by rfl) T.m_heard T.F_heard.kp T.b_heard .nil pass0 (pa_cons (pv 0) (pa_cons (pe_ix ix_tup (pv 4) pe_int (fun _ _ => rfl)) (pa_cons (pe_ix ix_tup (pv 4) pe_int (fun _ _ => rfl)) pa_nil)))) pa_nil)) (pe_callB (call_reprD hgd hr.units) (by rfl) T.g_repr (by decide +kernel) (pa_cons (pe_ifExp (pt_cmpR op_isN (pv 5) pe_non (nomark _)) (pe_tup (pa_cons pe_str pa_nil)) (pe_tup (pa_cons (pv 1) (pa_cons (pv 5) pa_nil)))) pa_nil)) (nomark _))))), ?_⟩
    have hres := g.res_ok h1 h3 h4 h5
    refine ⟨_, rfl, _, rfl, _, rfl, _, rfl, g, n, a, b, rfl, h1, h2, h3, h4, h5, h6, fun H1 e1 => ?_⟩
    refine ⟨_, rfl, _, rfl, t, _, _, _, rfl, rfl, SqT.of (e1 _ _ ht), rfl, _, rfl, t, _, _, _, rfl, rfl, SqT.of (e1 _ _ ht), rfl, ?_⟩
    refine ⟨g, x, y, n, a, b, rfl, hx.ex e1, hy.ex e1, o, h1, h2, h3, h4, h5, h6, fun p H2 e2 hp => ?_⟩
    cases hb : g.bad b with
    | true =>
      rw [hb] at hp
      rw [if_pos rfl] at hp
      have f := fine_zero
      refine ⟨_, _, rfl, dq_tup hp rfl, f.sh, f.nd, f.dp, f.ln, ?_⟩
      refine ⟨_, rfl, rfl, _, rfl, if_true (by rfl) ?_⟩
      refine ⟨(by show 1 ≤ sizeLine; decide), fun q hq => ⟨_, _, rfl, dq_tup upd_same rfl, f.sh, f.nd, f.dp, f.ln, rfl, q_eq (k _ (e1.tr (e2.tr (Ex.nw hq))))⟩⟩
    | false =>
      rw [hb] at hp
      rw [if_neg (by decide)] at hp
      have f := fine_2 (a := n) (b := g.res n a b) (by omega) (by omega) hres.1 (by omega)
      refine ⟨_, _, rfl, dq_tup hp rfl, f.sh, f.nd, f.dp, f.ln, ?_⟩
      refine ⟨_, rfl, rfl, _, rfl, if_false (by rfl) ?_⟩
      refine ⟨_, rfl, _, rfl, (by show 2 ≤ sizeLine; decide), fun q hq => ⟨_, _, rfl, dq_tup upd_same rfl, f.sh, f.nd, f.dp, f.ln, rfl, q_eq (k _ (e1.tr (e2.tr (Ex.nw hq))))⟩⟩
theorem ok_compared (T : Txt K mg A) : FnOk P w K mg base CX0 8 A.f_compared A.d_compared ["_law_one", "_law_other"] (spCompd A.C_Number) := by
  refine T.F_compared.ok sc_compared (fun vs H Q E h => ?_) (fun cdv A0 outer s H vs Q E hr h => ?_)
  · obtain ⟨_, _, _, _, _, rfl, _⟩ := h
    rfl
  · have hu := hu_of hr
    obtain ⟨x, y, n, a, b, rfl, hx, hy, o, k⟩ := h
    refine ⟨_, (pss_one (ps_ret (pe_lst (pa_cons (pe_cmpR (op_eqN T.cm_eq (ok_eq T) T.b_Number_eq (ok_eq T) T.b_Number_eq (hr.mono (by decide)) pass0) (pv 0) (pv 1) (nomark _)) (pa_cons (pe_cmpR (op_neN T.cm_ne (ok_ne T) T.b_Number_ne (ok_ne T) T.b_Number_ne (hr.mono (by decide)) pass0) (pv 0) (pv 1) (nomark _)) (pa_cons (pe_cmpR (op_ltN T.cm_lt (ok_lt T) T.b_Number_lt (ok_gt T) T.b_Number_gt (hr.mono (by decide)) pass0) (pv 0) (pv 1) (nomark _)) (pa_cons (pe_cmpR (op_leN T.cm_le (ok_le T) T.b_Number_le (ok_ge T) T.b_Number_ge (hr.mono (by decide)) pass0) (pv 0) (pv 1) (nomark _)) (pa_cons (pe_cmpR (op_gtN T.cm_gt (ok_gt T) T.b_Number_gt (ok_lt T) T.b_Number_lt (hr.mono (by decide)) pass0) (pv 0) (pv 1) (nomark _)) (pa_cons (pe_cmpR (op_geN T.cm_ge (ok_ge T) T.b_Number_ge (ok_le T) T.b_Number_le (hr.mono (by decide)) pass0) (pv 0) (pv 1) (nomark _)) pa_nil))))))))), ?_⟩
    refine ⟨_, rfl, _, rfl, use_cmp hx hy o (by simp [eq_comm]) fun H1 e1 => ?_⟩
    refine ⟨_, rfl, _, rfl, use_cmp (hx.ex e1) (hy.ex e1) o (by simp [eq_comm]) fun H2 e2 => ?_⟩
    have f2 := e1.tr e2
    refine ⟨_, rfl, _, rfl, use_cmp (hx.ex f2) (hy.ex f2) o rfl fun H3 e3 => ?_⟩
    have f3 := f2.tr e3
    refine ⟨_, rfl, _, rfl, use_cmp (hx.ex f3) (hy.ex f3) o rfl fun H4 e4 => ?_⟩
    have f4 := f3.tr e4
    refine ⟨_, rfl, _, rfl, use_cmp (hx.ex f4) (hy.ex f4) o rfl fun H5 e5 => ?_⟩
    have f5 := f4.tr e5
    refine ⟨_, rfl, _, rfl, use_cmp (hx.ex f5) (hy.ex f5) o rfl fun H6 e6 => ?_⟩
    exact ⟨(by show 6 ≤ sizeLine; decide), fun p hp => k p _ ((f5.tr e6).tr (Ex.nw hp)) upd_same⟩
end
end K00
set_option Elab.async false
set_option linter.all false
set_option maxRecDepth 100000
set_option maxHeartbeats 4400000
namespace K00
open PySem PySem.Spec PyProof.Rows L2 HX
open PySem.W (Frag)


def spPairR : Sp := fun vs H Q _ => ∃ n a b : Int, vs = [.int n, .int a, .int b] ∧ 2 ≤ n ∧ n < 5 ∧ 0 ≤ a ∧ a < n ∧ 0 ≤ b ∧ b < n ∧ ∀ H', Ex H H' → Q (.bl true) H'
theorem made {C x dx : Addr} {H : Hp} {s w : Int} (nx : H x = none) (ndx : H dx = none) : ∃ H1, H1 = upd (upd (upd H dx (.own x)) x (.ins C dx [])) x (.ins C dx (nf s w)) ∧ Ex H H1 ∧ NumAt C H1 x s w :=
  ⟨_, rfl, fun c o e => by rw [upd_ne (ne_of_none e nx), upd_ne (ne_of_none e nx), upd_ne (ne_of_none e ndx)]; exact e, ⟨dx, upd_same⟩⟩
def sgs : List V := [.str "+", .str "-", .str "*", .str "//"]
theorem sg_at {i : Nat} {x : V} (h : sgs[i]? = some x) : ∃ g : Sg, x = .str g.s ∧ i < 4 := by
  match i, h with
  | 0, h => exact ⟨.add, (Option.some.inj h).symm, by decide⟩
  | 1, h => exact ⟨.sub, (Option.some.inj h).symm, by decide⟩
  | 2, h => exact ⟨.mul, (Option.some.inj h).symm, by decide⟩
  | 3, h => exact ⟨.dv, (Option.some.inj h).symm, by decide⟩
  | i + 4, h => simp [sgs] at h
theorem rep_next {i : Nat} : List.replicate i (V.bl true) ++ [V.bl true] = List.replicate (i + 1) (V.bl true) := by rw [List.replicate_succ']
theorem Ex.mu {H H' : Hp} {p : Addr} {o : HO} (e : Ex H H') (h : H p = none) : Ex H (upd H' p o) := fun a u ha => by
  rw [upd_ne (ne_of_none ha h)]
  exact e a u ha
theorem rep_bl (n : Nat) : List.replicate n (V.bl true) = (List.replicate n true).map V.bl := by rw [List.map_replicate]
theorem rep_all (n : Nat) : (List.replicate n true).all id = true := by simp
theorem fine_cmps (a b : Int) : Fine (.list ((cmps a b).map fl)) := fine_list (fun d hd => by
  obtain ⟨v, hv, rfl⟩ := List.mem_map.mp hd
  simp only [cmps, List.mem_cons, List.not_mem_nil, or_false] at hv
  rcases hv with rfl | rfl | rfl | rfl | rfl | rfl <;> exact .bl _) (by show 6 ≤ 1000; decide)
theorem q_ne {Q : VK} {z : Str} {H : Hp} (h : Q (.bl false) H) : Q (.bl (!decide (V.str z = V.str z))) H := by
  rw [decide_eq_true rfl]
  exact h
theorem fine_2l {a b : Int} (h0 : 0 ≤ a) (h1 : a ≤ 1000) (h2 : 0 ≤ b) (h3 : b ≤ 1000) : Fine (.list (([V.int a, V.int b] : List V).map fl)) :=
  fine_list (flats fun v hv => by
    simp only [List.mem_cons, List.not_mem_nil, or_false] at hv
    rcases hv with rfl | rfl
    · exact ⟨a, rfl, by omega, h1⟩
    · exact ⟨b, rfl, by omega, h3⟩) (by show 2 ≤ 1000; decide)
theorem fine_4l {a b c d : Int} (h0 : 0 ≤ a) (h1 : a ≤ 1000) (h2 : 0 ≤ b) (h3 : b ≤ 1000) (h4 : 0 ≤ c) (h5 : c ≤ 1000) (h6 : 0 ≤ d) (h7 : d ≤ 1000) : Fine (.list (([V.int a, V.int b, V.int c, V.int d] : List V).map fl)) :=
  fine_list (flats fun v hv => by
    simp only [List.mem_cons, List.not_mem_nil, or_false] at hv
    rcases hv with rfl | rfl | rfl | rfl
    · exact ⟨a, rfl, by omega, h1⟩
    · exact ⟨b, rfl, by omega, h3⟩
    · exact ⟨c, rfl, by omega, h5⟩
    · exact ⟨d, rfl, by omega, h7⟩) (by show 4 ≤ 1000; decide)

section
variable {P : Program} {w : World} {K : Frag} {mg : Str → Option Value} {base : Heap} {A : Ad}

theorem ok_pair_right (T : Txt K mg A) : FnG P w K mg base CX0 10 A.f_pair_right A.d_pair_right ["_law_size", "_law_a", "_law_b"] (spPairR) := by
  refine okG0 T.F_pair_right sc_pair_right (fun vs H Q E h => ?_) (fun cdv A0 outer s H vs Q E hgd0 hr h => ?_)
  · obtain ⟨_, _, _, rfl, _⟩ := h
    rfl
  · have hu := hu_of hr
    have hgd : (A0.deeper (envOfC "_law_pair_right" (defScope s_pair_right) s.heap.objs.size A.f_pair_right cdv)).guards = some [] := hgd0
    obtain ⟨n, a, b, rfl, h1, h2, h3, h4, h5, h6, k⟩ := h
    refine ⟨_, (pss_cons (ps_par (i := 3) (j := 4) (by rfl) sc_pair_right.nd rfl rfl (by decide) rfl rfl (pa_cons (pe_make T.mk_Number (ok_Number_init T) (hr.mono (by decide)) (by rfl) T.m_Number T.b_Number_init .nil pass0 (pa_cons (pv 0) (pa_cons (pv 1) pa_nil))) (pa_cons (pe_make T.mk_Number (ok_Number_init T) (hr.mono (by decide)) (by rfl) T.m_Number T.b_Number_init .nil pass0 (pa_cons (pv 0) (pa_cons (pv 2) pa_nil))) pa_nil)) (by rfl))
      (pss_cons (ps_for PassesOwn.never rfl (pi_list (pe_lst (pa_cons (pe_tup (pa_cons (pv 3) (pa_cons (pv 4) pa_nil))) (pa_cons (pe_tup (pa_cons (pv 3) (pa_cons (pv 2) pa_nil))) (pa_cons (pe_tup (pa_cons (pv 1) (pa_cons (pv 4) pa_nil))) pa_nil))))) (pg_name (i := 5) sc_pair_right.nd rfl (Or.inr rfl)) (pss_cons (ps_if (pt_not (pt_val (pe_callB (cr_all rfl) (by rfl) T.g_all (by decide +kernel) (pa_cons (pe_lc (own := [("_law_sign", 7)]) (g := gName 7) (tt := tYes) rfl sc_pair_right.nd (pi_list (pe_lst (pa_cons pe_str (pa_cons pe_str (pa_cons pe_str (pa_cons pe_str pa_nil)))))) (blkOk_by (N := N_pair_right) (sc := defScope s_pair_right) (by decide +kernel)) (fun _ _ _ _ _ => pg_name (i := 7) sc_pair_right.nd rfl (Or.inl rfl)) (fun _ _ _ _ _ => pts_nil) (fun _ _ _ _ _ => (pe_callG hgd (ok_sign_right T) (hr.mono (by decide)) (by rfl) T.m_sign_right T.F_sign_right.kp T.b_sign_right .nil pass0 (pa_cons (pv 7) (pa_cons (pv 0) (pa_cons (pv 1) (pa_cons (pv 2) (pa_cons (pv 5) pa_nil)))))))) pa_nil)))) (pss_one (ps_ret pe_bl)) pss_nil)
      (pss_one (ps_if (pt_cmpR op_ne (pe_callB (call_reprD hgd hr.units) (by rfl) T.g_repr (by decide +kernel) (pa_cons (pe_call (ok_compared T) (hr.mono (by decide)) (by rfl) T.m_compared T.F_compared.kp T.b_compared .nil pass0 (pa_cons (pe_ix ix_tup (pv 5) pe_int (fun _ _ => rfl)) (pa_cons (pe_ix ix_tup (pv 5) pe_int (fun _ _ => rfl)) pa_nil))) pa_nil)) (pe_callB (call_reprD hgd hr.units) (by rfl) T.g_repr (by decide +kernel) (pa_cons (pe_lst (pa_cons (pe_cmpR op_eq (pv 1) (pv 2) (nomark _)) (pa_cons (pe_cmpR op_ne (pv 1) (pv 2) (nomark _)) (pa_cons (pe_cmpR op_lt (pv 1) (pv 2) (nomark _)) (pa_cons (pe_cmpR op_le (pv 1) (pv 2) (nomark _)) (pa_cons (pe_cmpR op_gt (pv 1) (pv 2) (nomark _)) (pa_cons (pe_cmpR op_ge (pv 1) (pv 2) (nomark _)) pa_nil))))))) pa_nil)) (nomark _)) (pss_one (ps_ret pe_bl)) pss_nil))))
      (pss_cons (ps_set (i := 6) sc_pair_right.nd rfl (Or.inl rfl) (pe_un (un_negO T.h_neg T.i_neg (ok_neg T) T.b_Number_neg (hr.mono (by decide)) pass0) (pv 3)))
      (pss_cons (ps_if (PW.pt (pw_or (pt_not (pt_val (pe_callB call_isi (by rfl) T.g_isinstance (by decide +kernel) (pa_cons (pv 6) (pa_cons (pe_glob (v := .ref A.C_Number) (by rfl) T.m_Number rfl) pa_nil))))) (pw_or1 (pt_cmpR op_ne (pe_callB (call_reprD hgd hr.units) (by rfl) T.g_repr (by decide +kernel) (pa_cons (pe_lst (pa_cons (pe_prop (pv 6) T.cls_Number T.P_size (ok_size T) (hr.mono (by decide)) T.b_Number_size .nil pass0 rfl) (pa_cons (pe_prop (pv 6) T.cls_Number T.P_worth (ok_worth T) (hr.mono (by decide)) T.b_Number_worth .nil pass0 rfl) pa_nil))) pa_nil)) (pe_callB (call_reprD hgd hr.units) (by rfl) T.g_repr (by decide +kernel) (pa_cons (pe_lst (pa_cons (pv 0) (pa_cons (pe_op op_mod (pe_callTy call_int1 (by rfl) T.g_int (by decide +kernel) (pa_cons (pe_un un_neg (pv 1)) pa_nil)) (pv 0)) pa_nil))) pa_nil)) (nomark _))))) (pss_one (ps_ret pe_bl)) pss_nil)
      (pss_one (ps_ret (pe_cmpR op_eq (pe_callB (call_reprD hgd hr.units) (by rfl) T.g_repr (by decide +kernel) (pa_cons (pe_lst (pa_cons (pe_prop (pv 3) T.cls_Number T.P_size (ok_size T) (hr.mono (by decide)) T.b_Number_size .nil pass0 rfl) (pa_cons (pe_prop (pv 3) T.cls_Number T.P_worth (ok_worth T) (hr.mono (by decide)) T.b_Number_worth .nil pass0 rfl) (pa_cons (pe_prop (pv 4) T.cls_Number T.P_size (ok_size T) (hr.mono (by decide)) T.b_Number_size .nil pass0 rfl) (pa_cons (pe_prop (pv 4) T.cls_Number T.P_worth (ok_worth T) (hr.mono (by decide)) T.b_Number_worth .nil pass0 rfl) pa_nil))))) pa_nil)) (pe_callB (call_reprD hgd hr.units) (by rfl) T.g_repr (by decide +kernel) (pa_cons (pe_lst (pa_cons (pv 0) (pa_cons (pv 1) (pa_cons (pv 0) (pa_cons (pv 2) pa_nil))))) pa_nil)) (nomark _)))))))), ?_⟩
    refine ⟨_, rfl, _, rfl, fun p dp hp hdp nep => ⟨p, dp, n, a, rfl, upd_same, h1, h2, h3, h4, rfl, ?_⟩⟩
    obtain ⟨H1, E1, e1, num1⟩ := made (C := A.C_Number) (s := n) (w := a) hp hdp
    rw [← E1]
    refine ⟨_, rfl, _, rfl, fun q dq hq hdq neq => ⟨q, dq, n, b, rfl, upd_same, h1, h2, h5, h6, rfl, ?_⟩⟩
    obtain ⟨H2, E2, e2, num2⟩ := made (C := A.C_Number) (s := n) (w := b) hq hdq
    rw [← E2]
    have num1' := num1.ex e2
    refine ⟨_, _, rfl, ?_⟩
    -- the three pairs
    refine ⟨_, rfl, _, rfl, (by show 2 ≤ sizeLine; decide), fun t1 nt1 => ?_⟩
    refine ⟨_, rfl, _, rfl, (by show 2 ≤ sizeLine; decide), fun t2 nt2 => ?_⟩
    refine ⟨_, rfl, _, rfl, (by show 2 ≤ sizeLine; decide), fun t3 nt3 => ?_⟩
    refine ⟨(by show 3 ≤ sizeLine; decide), fun l nl => ?_⟩
    obtain ⟨H3, E3⟩ : ∃ H3, H3 = upd (upd (upd (upd H2 t1 (.tup [V.ref p, .ref q])) t2 (.tup [V.ref p, .int b])) t3 (.tup [V.int a, .ref q])) l (.lst [V.ref t1, .ref t2, .ref t3]) := ⟨_, rfl⟩
    have x1 : Ex H2 (upd H2 t1 (.tup [V.ref p, .ref q])) := Ex.nw nt1
    have x2 : Ex (upd H2 t1 (.tup [V.ref p, .ref q])) (upd (upd H2 t1 (.tup [V.ref p, .ref q])) t2 (.tup [V.ref p, .int b])) := Ex.nw nt2
    have x3 : Ex (upd (upd H2 t1 (.tup [V.ref p, .ref q])) t2 (.tup [V.ref p, .int b])) (upd (upd (upd H2 t1 (.tup [V.ref p, .ref q])) t2 (.tup [V.ref p, .int b])) t3 (.tup [V.int a, .ref q])) := Ex.nw nt3
    have x4 : Ex (upd (upd (upd H2 t1 (.tup [V.ref p, .ref q])) t2 (.tup [V.ref p, .int b])) t3 (.tup [V.int a, .ref q])) H3 := by rw [E3]; exact Ex.nw nl
    have g1 : H3 t1 = some (.tup [V.ref p, .ref q]) := x4 _ _ (x3 _ _ (x2 _ _ upd_same))
    have g2 : H3 t2 = some (.tup [V.ref p, .int b]) := x4 _ _ (x3 _ _ upd_same)
    have g3 : H3 t3 = some (.tup [V.int a, .ref q]) := x4 _ _ upd_same
    have gl : H3 l = some (.lst [V.ref t1, .ref t2, .ref t3]) := by rw [E3]; exact upd_same
    have e3 : Ex H2 H3 := x1.tr (x2.tr (x3.tr x4))
    have n1 : NumAt A.C_Number H3 p n a := num1'.ex e3
    have n2 : NumAt A.C_Number H3 q n b := num2.ex e3
    have e03 : Ex H H3 := e1.tr (e2.tr e3)
    refine ⟨l, rfl, ⟨_, SqL.of upd_same⟩, ?_⟩
    rw [← E3]
    refine for_list (K := K) (a := l) (xs := [V.ref t1, .ref t2, .ref t3]) (fun i σ H' => (∃ v w u, σ = [some (.int n), some (.int a), some (.int b), some (.ref p), some (.ref q), v, w, u]) ∧ Ex H3 H')
      ⟨⟨_, _, _, rfl⟩, Ex.rf H3⟩ (fun i σ H' _ z => SqL.of (z.2 _ _ gl)) ?_ ?_
    · rintro i x σ H4 hi ⟨⟨v, w', u', rfl⟩, e4⟩
      -- the pair: its sides
      obtain ⟨t, y, z, rfl, ht, hy, hz, ho⟩ : ∃ (t : Addr) (y z : V), x = .ref t ∧ H3 t = some (.tup [y, z]) ∧ Sd A.C_Number H3 y n a ∧ Sd A.C_Number H3 z n b ∧ OneN y z := by
        match i, hi with
        | 0, hi => exact ⟨t1, _, _, (Option.some.inj hi).symm, g1, .inr ⟨p, rfl, n1⟩, .inr ⟨q, rfl, n2⟩, .inl ⟨p, rfl⟩⟩
        | 1, hi => exact ⟨t2, _, _, (Option.some.inj hi).symm, g2, .inr ⟨p, rfl, n1⟩, .inl rfl, .inl ⟨p, rfl⟩⟩
        | 2, hi => exact ⟨t3, _, _, (Option.some.inj hi).symm, g3, .inl rfl, .inr ⟨q, rfl, n2⟩, .inr ⟨q, rfl⟩⟩
        | i + 3, hi => simp at hi
      have ht4 := e4 _ _ ht
      have hy4 := hy.ex e4
      have hz4 := hz.ex e4
      -- all signs
      refine ⟨(by show 4 ≤ sizeLine; decide), fun l2 nl2 => ?_⟩
      have f2 : Ex H4 (upd H4 l2 (.lst sgs)) := Ex.nw nl2
      refine ⟨l2, rfl, ⟨_, SqL.of upd_same⟩, fun D nD => ?_⟩
      refine lc_list (K := K) (a := l2) (xs := sgs) (fun i H' => Ex (upd H4 l2 (.lst sgs)) H' ∧ H' D = some (.lst (List.replicate i (.bl true)))) ⟨Ex.nw nD, upd_same⟩ (fun i H' _ z => SqL.of (z.1 _ _ upd_same)) ?_ ?_
      · rintro j c H5 hj ⟨e5, hD⟩
        obtain ⟨g, rfl, hj4⟩ := sg_at hj
        have e45 := f2.tr e5
        refine ⟨rfl, _, rfl, _, rfl, _, rfl, _, rfl, _, rfl, g, t, y, z, n, a, b, rfl, e45 _ _ ht4, hy4.ex e45, hz4.ex e45, ho, h1, h2, h3, h4, h5, h6, fun H6 e6 => ?_⟩
        refine ⟨_, e6 _ _ hD, (by rw [List.length_replicate]; exact Nat.lt_of_lt_of_le hj4 (by decide)), Ex.mu (e5.tr e6) nD, ?_⟩
        rw [rep_next]
        exact upd_same
      · rintro H5 ⟨e5, hD⟩
        have e45 := f2.tr e5
        refine ⟨D, List.replicate 4 true, rfl, SqL.of (by rw [hD]; rfl), _, rfl, if_false (by rfl) ?_⟩
        -- the comparisons
        refine ⟨_, rfl, t, _, _, _, rfl, rfl, SqT.of (e45 _ _ ht4), rfl, _, rfl, t, _, _, _, rfl, rfl, SqT.of (e45 _ _ ht4), rfl, y, z, n, a, b, rfl, hy4.ex e45, hz4.ex e45, ho, fun r H6 e6 hr6 => ?_⟩
        have f := fine_cmps a b
        refine ⟨_, _, rfl, dq_lst hr6 rfl, f.sh, f.nd, f.dp, f.ln, ?_⟩
        refine ⟨_, rfl, _, rfl, rfl, _, rfl, _, rfl, rfl, _, rfl, _, rfl, _, _, rfl, rfl, _, rfl, _, rfl, _, _, rfl, rfl, _, rfl, _, rfl, _, _, rfl, rfl, _, rfl, _, rfl, _, _, rfl, rfl, (by show 6 ≤ sizeLine; decide), fun s hs => ?_⟩
        refine ⟨_, _, rfl, dq_lst (xs := cmps a b) upd_same rfl, f.sh, f.nd, f.dp, f.ln, rfl, _, rfl, if_false (by simp) ?_⟩
        exact ⟨⟨_, _, _, rfl⟩, e4.tr (e45.tr (e6.tr (Ex.nw hs)))⟩
    · rintro σ H4 ⟨⟨v, w', u', rfl⟩, e4⟩
      obtain ⟨dx, z1⟩ := id (n1.ex e4)
      refine ⟨_, rfl, ⟨p, dx, _, rfl, z1⟩, p, n, a, rfl, n1.ex e4, h1, h2, fun r H5 hr5 e5 num5 => ?_⟩
      obtain ⟨dr, zr⟩ := id num5
      have m0 : 0 ≤ -a % n := Int.emod_nonneg _ (by omega)
      have m1 : -a % n < n := Int.emod_lt_of_pos _ (by omega)
      have f := fine_2l (a := n) (b := -a % n) (by omega) (by omega) m0 (by omega)
      refine ⟨_, rfl, _, _, _, _, _, rfl, .own _, ty_num T num5, T.nn, _, rfl, if_false (by rfl) ?_⟩
      refine ⟨_, rfl, r, dr, _, rfl, zr, r, n, _, rfl, num5, _, rfl, r, dr, _, rfl, zr, r, n, _, rfl, num5, (by show 2 ≤ sizeLine; decide), fun s hs => ?_⟩
      refine ⟨_, _, rfl, dq_lst upd_same rfl, f.sh, f.nd, f.dp, f.ln, ?_⟩
      refine ⟨_, rfl, _, rfl, _, rfl, .inl ⟨_, rfl, _, rfl, _, _, rfl, rfl, (by show (0 : Int) < n; omega), (by show 2 ≤ sizeLine; decide), fun s2 hs2 => ?_⟩⟩
      refine ⟨_, _, rfl, dq_lst upd_same rfl, f.sh, f.nd, f.dp, f.ln, rfl, _, rfl, if_false (by simp) ?_⟩
      have e6 : Ex H5 (upd (upd H5 s (.lst [V.int n, V.int (-a % n)])) s2 (.lst [V.int n, V.int (-a % n)])) := (Ex.nw hs).tr (Ex.nw hs2)
      have k1 := ((n1.ex e4).ex e5).ex e6
      have k2 := ((n2.ex e4).ex e5).ex e6
      obtain ⟨d1, y1⟩ := id k1
      obtain ⟨d2, y2⟩ := id k2
      have f4 := fine_4l (a := n) (b := a) (c := n) (d := b) (by omega) (by omega) (by omega) (by omega) (by omega) (by omega) (by omega) (by omega)
      refine ⟨_, rfl, p, d1, _, rfl, y1, p, n, a, rfl, k1, _, rfl, p, d1, _, rfl, y1, p, n, a, rfl, k1, _, rfl, q, d2, _, rfl, y2, q, n, b, rfl, k2, _, rfl, q, d2, _, rfl, y2, q, n, b, rfl, k2, (by show 4 ≤ sizeLine; decide), fun s3 hs3 => ?_⟩
      refine ⟨_, _, rfl, dq_lst upd_same rfl, f4.sh, f4.nd, f4.dp, f4.ln, ?_⟩
      refine ⟨_, rfl, _, rfl, _, rfl, _, rfl, (by show 4 ≤ sizeLine; decide), fun s4 hs4 => ?_⟩
      exact ⟨_, _, rfl, dq_lst upd_same rfl, f4.sh, f4.nd, f4.dp, f4.ln, rfl, q_eq (k _ (e03.tr (e4.tr (e5.tr (e6.tr ((Ex.nw hs3).tr (Ex.nw hs4)))))))⟩
end
end K00
set_option Elab.async false
set_option linter.all false
set_option maxRecDepth 100000
set_option maxHeartbeats 4400000
namespace K00
open PySem PySem.Spec PyProof.Rows L2 HX
open PySem.W (Frag)


def spChainR : Sp := fun vs H Q _ => ∃ (p : Addr) (n N : Int), vs = [.ref p, .int n] ∧ PotAt H p N ∧ N ≤ 90000 ∧ 2 ≤ n ∧ n < 5 ∧ ∀ H', XB p H H' → PotAt H' p (N + 60) → Q (.bl true) H'
theorem NumAt.xb {C t p : Addr} {H H' : Hp} {s w : Int} (h : NumAt C H t s w) (ne : t ≠ p) (e : XB p H H') : NumAt C H' t s w := let ⟨dx, z⟩ := h; ⟨dx, e _ _ ne z⟩
theorem num_ne_pot {C t p : Addr} {H : Hp} {s w N : Int} (h : NumAt C H t s w) (q : PotAt H p N) : t ≠ p := by
  obtain ⟨dx, z⟩ := h
  obtain ⟨a, b, c, z2, _⟩ := q
  exact ne_of z z2 (by intro y; cases y)
theorem pot_none {p l : Addr} {H : Hp} {N : Int} (q : PotAt H p N) (h : H l = none) : l ≠ p := by
  obtain ⟨a, b, c, z2, _⟩ := q
  exact Ne.symm (ne_of_none z2 h)

section
variable {P : Program} {w : World} {K : Frag} {mg : Str → Option Value} {base : Heap} {A : Ad}

theorem ok_chain_right (T : Txt K mg A) : FnG P w K mg base CX0 10 A.f_chain_right A.d_chain_right ["_law_pot_here", "_law_size"] (spChainR) := by
  refine okG0 T.F_chain_right sc_chain_right (fun vs H Q E h => ?_) (fun cdv A0 outer s H vs Q E hgd0 hr h => ?_)
  · obtain ⟨_, _, _, rfl, _⟩ := h
    rfl
  · have hu := hu_of hr
    have hgd : (A0.deeper (envOfC "_law_chain_right" (defScope s_chain_right) s.heap.objs.size A.f_chain_right cdv)).guards = some [] := hgd0
    obtain ⟨p, n, N, rfl, hp, hN, h1, h2, k⟩ := h
    refine ⟨_, (pss_cons (ps_set (i := 2) sc_chain_right.nd rfl (Or.inl rfl) (pe_call (ok_take T) (hr.mono (by decide)) (by rfl) T.m_take T.F_take.kp T.b_take .nil pass0 (pa_cons (pv 0) (pa_cons (pv 1) pa_nil))))
      (pss_cons (ps_set (i := 3) sc_chain_right.nd rfl (Or.inl rfl) (pe_make T.mk_Number (ok_Number_init T) (hr.mono (by decide)) (by rfl) T.m_Number T.b_Number_init .nil pass0 (pa_cons (pv 1) (pa_cons (pv 2) pa_nil))))
      (pss_cons (ps_for PassesOwn.never rfl (pi_range1 rfl T.g_range (pa_cons (pe_call (ok_take T) (hr.mono (by decide)) (by rfl) T.m_take T.F_take.kp T.b_take .nil pass0 (pa_cons (pv 0) (pa_cons pe_int pa_nil))) pa_nil)) (pg_name (i := 4) sc_chain_right.nd rfl (Or.inl rfl)) (pss_cons (ps_par (i := 5) (j := 6) (by rfl) sc_chain_right.nd rfl rfl (by decide) rfl rfl (pa_cons (pe_call (ok_take T) (hr.mono (by decide)) (by rfl) T.m_take T.F_take.kp T.b_take .nil pass0 (pa_cons (pv 0) (pa_cons (pv 1) pa_nil))) (pa_cons (pe_call (ok_take T) (hr.mono (by decide)) (by rfl) T.m_take T.F_take.kp T.b_take .nil pass0 (pa_cons (pv 0) (pa_cons pe_int pa_nil))) pa_nil)) (by rfl))
      (pss_cons (ps_if (pt_cmpR op_eq (pv 6) pe_int (nomark _)) (pss_cons (ps_par (i := 3) (j := 2) (by rfl) sc_chain_right.nd rfl rfl (by decide) rfl rfl (pa_cons (pe_un (un_negO T.h_neg T.i_neg (ok_neg T) T.b_Number_neg (hr.mono (by decide)) pass0) (pv 3)) (pa_cons (pe_op op_mod (pe_callTy call_int1 (by rfl) T.g_int (by decide +kernel) (pa_cons (pe_un un_neg (pv 2)) pa_nil)) (pv 1)) pa_nil)) (by rfl))
      (pss_one ps_continue)) pss_nil)
      (pss_cons (ps_set (i := 7) sc_chain_right.nd rfl (Or.inl rfl) (pe_call (ok_of T) (hr.mono (by decide)) (by rfl) T.m_of T.F_of.kp T.b_of .nil pass0 (pa_cons (pv 0) (pa_cons (pe_lst (pa_cons pe_str (pa_cons pe_str (pa_cons pe_str (pa_cons pe_str pa_nil))))) pa_nil))))
      (pss_cons (ps_asg (pe_ix ix_list (pe_lst (pa_cons (pe_tup (pa_cons (pe_make T.mk_Number (ok_Number_init T) (hr.mono (by decide)) (by rfl) T.m_Number T.b_Number_init .nil pass0 (pa_cons (pv 1) (pa_cons (pv 5) pa_nil))) (pa_cons (pv 5) pa_nil))) (pa_cons (pe_tup (pa_cons (pv 5) (pa_cons (pv 5) pa_nil))) (pa_cons (pe_tup (pa_cons (pv 3) (pa_cons (pv 2) pa_nil))) (pa_cons (pe_tup (pa_cons (pv 5) (pa_cons (pv 5) pa_nil))) pa_nil))))) (pv 6) (fun _ _ => rfl)) (pg_tup rfl (pgs_cons (pg_name (i := 8) sc_chain_right.nd rfl (Or.inl rfl)) (pgs_cons (pg_name (i := 5) sc_chain_right.nd rfl (Or.inl rfl)) pgs_nil))))
      (pss_cons (ps_asg (pe_ifExp (pt_cmpR op_lt (pv 6) pe_int (nomark _)) (pe_tup (pa_cons (pe_tup (pa_cons (pv 3) (pa_cons (pv 8) pa_nil))) (pa_cons (pe_tup (pa_cons (pv 2) (pa_cons (pv 5) pa_nil))) pa_nil))) (pe_tup (pa_cons (pe_tup (pa_cons (pv 8) (pa_cons (pv 3) pa_nil))) (pa_cons (pe_tup (pa_cons (pv 5) (pa_cons (pv 2) pa_nil))) pa_nil)))) (pg_tup rfl (pgs_cons (pg_name (i := 9) sc_chain_right.nd rfl (Or.inl rfl)) (pgs_cons (pg_name (i := 10) sc_chain_right.nd rfl (Or.inl rfl)) pgs_nil))))
      (pss_cons (ps_set (i := 11) sc_chain_right.nd rfl (Or.inl rfl) (pe_call (ok_due T) (hr.mono (by decide)) (by rfl) T.m_due T.F_due.kp T.b_due .nil pass0 (pa_cons (pv 7) (pa_cons (pv 1) (pa_cons (pe_ix ix_tup (pv 10) pe_int (fun _ _ => rfl)) (pa_cons (pe_ix ix_tup (pv 10) pe_int (fun _ _ => rfl)) pa_nil))))))
      (pss_cons (ps_if (pt_not (pt_val (pe_callG hgd (ok_sign_right T) (hr.mono (by decide)) (by rfl) T.m_sign_right T.F_sign_right.kp T.b_sign_right .nil pass0 (pa_cons (pv 7) (pa_cons (pv 1) (pa_cons (pe_ix ix_tup (pv 10) pe_int (fun _ _ => rfl)) (pa_cons (pe_ix ix_tup (pv 10) pe_int (fun _ _ => rfl)) (pa_cons (pv 9) pa_nil)))))))) (pss_one (ps_ret pe_bl)) pss_nil)
      (pss_one (ps_if (pt_cmpR op_notN (pv 11) pe_non (nomark _)) (pss_one (ps_par (i := 3) (j := 2) (by rfl) sc_chain_right.nd rfl rfl (by decide) rfl rfl (pa_cons (pe_call (ok_signed T) (hr.mono (by decide)) (by rfl) T.m_signed T.F_signed.kp T.b_signed .nil L2.passL (pa_cons (pv 7) (pa_cons (pe_ix ix_tup (pv 9) pe_int (fun _ _ => rfl)) (pa_cons (pe_ix ix_tup (pv 9) pe_int (fun _ _ => rfl)) pa_nil)))) (pa_cons (pv 11) pa_nil)) (by rfl))) pss_nil))))))))))
      (pss_one (ps_ret (pe_cmpR op_eq (pe_callB (call_reprD hgd hr.units) (by rfl) T.g_repr (by decide +kernel) (pa_cons (pe_lst (pa_cons (pe_prop (pv 3) T.cls_Number T.P_size (ok_size T) (hr.mono (by decide)) T.b_Number_size .nil pass0 rfl) (pa_cons (pe_prop (pv 3) T.cls_Number T.P_worth (ok_worth T) (hr.mono (by decide)) T.b_Number_worth .nil pass0 rfl) pa_nil))) pa_nil)) (pe_callB (call_reprD hgd hr.units) (by rfl) T.g_repr (by decide +kernel) (pa_cons (pe_lst (pa_cons (pv 1) (pa_cons (pv 2) pa_nil))) pa_nil)) (nomark _))))))), ?_⟩
    refine ⟨_, rfl, _, rfl, p, n, N, rfl, hp, by omega, by omega, by omega, fun w Ha wa0 wa1 xa hpa => ?_⟩
    refine ⟨_, rfl, _, rfl, fun t0 dt hnt hdt net => ⟨t0, dt, n, w, rfl, upd_same, h1, h2, wa0, wa1, rfl, ?_⟩⟩
    obtain ⟨Hb, Eb, eb, numb⟩ := made (C := A.C_Number) (s := n) (w := w) hnt hdt
    rw [← Eb]
    refine ⟨_, rfl, p, 13, N + 1, rfl, hpa.ex eb, by decide, by decide, by omega, fun d Hc d0 d1 xc hpc => ?_⟩
    have nt0 : t0 ≠ p := num_ne_pot numb (hpa.ex eb)
    refine ⟨d, rfl, by omega, by omega, for_range (n := d.toNat) (fun i σ H' => ∃ (t : Addr) (w : Int) (v4 v5 v6 v7 v8 v9 v10 v11 : Option V), σ = [some (.ref p), some (.int n), some (.int w), some (.ref t), v4, v5, v6, v7, v8, v9, v10, v11] ∧ XB p H H' ∧ PotAt H' p (N + 2 + 3 * i) ∧ NumAt A.C_Number H' t n w ∧ 0 ≤ w ∧ w < n)
      ⟨t0, w, none, none, none, none, none, none, none, none, rfl, xa.tr ((Ex.xb eb).tr xc), hpc.mono (by omega), numb.xb nt0 xc, wa0, wa1⟩ ?_ ?_⟩
    · rintro i σ H' hi ⟨t, w', v4, v5, v6, v7, v8, v9, v10, v11, rfl, x0, hp0, num0, w0, w1⟩
      have hiN : (i : Int) < 13 := by omega
      have ntp : t ≠ p := num_ne_pot num0 hp0
      refine ⟨_, rfl, _, rfl, p, n, _, rfl, hp0, by omega, by omega, by omega, fun b H1 b0 b1 x1 hp1 => ?_⟩
      refine ⟨_, rfl, p, 5, _, rfl, hp1, by decide, by decide, by omega, fun way H2 y0 y1 x2 hp2 => ?_⟩
      refine ⟨_, _, rfl, ?_⟩
      have num2 := (num0.xb ntp x1).xb ntp x2
      refine ⟨_, rfl, rfl, _, rfl, ?_⟩
      by_cases h4 : way = 4
      · refine if_true (by simp [h4]) ?_
        obtain ⟨dx, zt⟩ := id num2
        refine ⟨_, rfl, ⟨t, dx, _, rfl, zt⟩, t, n, w', rfl, num2, h1, h2, fun r H3 hr3 e3 num3 => ?_⟩
        refine ⟨_, rfl, _, rfl, .inl ⟨_, rfl, _, rfl, _, _, rfl, rfl, (by show (0 : Int) < n; omega), _, _, rfl, ?_⟩⟩
        exact ⟨r, _, _, _, _, _, _, _, _, _, rfl, x0.tr (x1.tr (x2.tr (Ex.xb e3))), (hp2.ex e3).mono (by omega), num3, Int.emod_nonneg _ (by omega), Int.emod_lt_of_pos _ (by omega)⟩
      refine if_false (by simp [h4]) ?_
      -- the sign
      refine ⟨_, rfl, (by show 4 ≤ sizeLine; decide), fun l nl => ?_⟩
      have el : Ex H2 (upd H2 l (.lst sgs)) := Ex.nw nl
      refine ⟨p, l, sgs, _, rfl, hp2.ex el, SqL.of upd_same, pot_none hp2 nl, by decide, by decide, by omega, fun ig vg H4 hvg x4 hp4 => ?_⟩
      obtain ⟨g, rfl, _⟩ := sg_at hvg
      have num4 := (num2.ex el).xb ntp x4
      have xx4 : XB p H H4 := x0.tr (x1.tr (x2.tr ((Ex.xb el).tr x4)))
      -- the other side
      refine ⟨_, rfl, _, rfl, fun q dq hq hdq neq => ⟨q, dq, n, b, rfl, upd_same, h1, h2, b0, b1, rfl, ?_⟩⟩
      obtain ⟨Hm, Em, em, numq⟩ := made (C := A.C_Number) (s := n) (w := b) hq hdq
      rw [← Em]
      refine ⟨_, rfl, (by show 2 ≤ sizeLine; decide), fun t1 nt1 => ?_⟩
      refine ⟨_, rfl, _, rfl, (by show 2 ≤ sizeLine; decide), fun t2 nt2 => ?_⟩
      refine ⟨_, rfl, _, rfl, (by show 2 ≤ sizeLine; decide), fun t3 nt3 => ?_⟩
      refine ⟨_, rfl, _, rfl, (by show 2 ≤ sizeLine; decide), fun t4 nt4 => ?_⟩
      refine ⟨(by show 4 ≤ sizeLine; decide), fun l2 nl2 => ?_⟩
      have q1 : Ex Hm (upd Hm t1 (.tup [V.ref q, .int b])) := Ex.nw nt1
      have q2 : Ex (upd Hm t1 (.tup [V.ref q, .int b])) (upd (upd Hm t1 (.tup [V.ref q, .int b])) t2 (.tup [V.int b, .int b])) := Ex.nw nt2
      have q3 : Ex (upd (upd Hm t1 (.tup [V.ref q, .int b])) t2 (.tup [V.int b, .int b])) (upd (upd (upd Hm t1 (.tup [V.ref q, .int b])) t2 (.tup [V.int b, .int b])) t3 (.tup [V.ref t, .int w'])) := Ex.nw nt3
      have q4 : Ex (upd (upd (upd Hm t1 (.tup [V.ref q, .int b])) t2 (.tup [V.int b, .int b])) t3 (.tup [V.ref t, .int w'])) (upd (upd (upd (upd Hm t1 (.tup [V.ref q, .int b])) t2 (.tup [V.int b, .int b])) t3 (.tup [V.ref t, .int w'])) t4 (.tup [V.int b, .int b])) := Ex.nw nt4
      obtain ⟨H5, E5⟩ : ∃ H5, H5 = upd (upd (upd (upd (upd Hm t1 (.tup [V.ref q, .int b])) t2 (.tup [V.int b, .int b])) t3 (.tup [V.ref t, .int w'])) t4 (.tup [V.int b, .int b])) l2 (.lst [V.ref t1, .ref t2, .ref t3, .ref t4]) := ⟨_, rfl⟩
      have q5 : Ex (upd (upd (upd (upd Hm t1 (.tup [V.ref q, .int b])) t2 (.tup [V.int b, .int b])) t3 (.tup [V.ref t, .int w'])) t4 (.tup [V.int b, .int b])) H5 := by rw [E5]; exact Ex.nw nl2
      have g1 : H5 t1 = some (.tup [V.ref q, .int b]) := q5 _ _ (q4 _ _ (q3 _ _ (q2 _ _ upd_same)))
      have g2 : H5 t2 = some (.tup [V.int b, .int b]) := q5 _ _ (q4 _ _ (q3 _ _ upd_same))
      have g3 : H5 t3 = some (.tup [V.ref t, .int w']) := q5 _ _ (q4 _ _ upd_same)
      have g4 : H5 t4 = some (.tup [V.int b, .int b]) := q5 _ _ upd_same
      have gl : H5 l2 = some (.lst [V.ref t1, .ref t2, .ref t3, .ref t4]) := by rw [E5]; exact upd_same
      have e5 : Ex H4 H5 := em.tr (q1.tr (q2.tr (q3.tr (q4.tr q5))))
      have num5 := num4.ex e5
      have x5 : XB p H H5 := xx4.tr (Ex.xb e5)
      have hp5 := hp4.ex e5
      have numq5 := numq.ex (q1.tr (q2.tr (q3.tr (q4.tr q5))))
      rw [← E5]
      obtain ⟨tw, y, bb, hat, htw, hy, b0, b1⟩ : ∃ (tw : Addr) (y : V) (bb : Int), atI [V.ref t1, .ref t2, .ref t3, .ref t4] way = some (.ref tw) ∧ H5 tw = some (.tup [y, .int bb]) ∧ Sd A.C_Number H5 y n bb ∧ 0 ≤ bb ∧ bb < n := by
        have hw : way = 0 ∨ way = 1 ∨ way = 2 ∨ way = 3 := by omega
        rcases hw with rfl | rfl | rfl | rfl
        · exact ⟨t1, _, b, rfl, g1, .inr ⟨q, rfl, numq5⟩, b0, b1⟩
        · exact ⟨t2, _, b, rfl, g2, .inl rfl, b0, b1⟩
        · exact ⟨t3, _, w', rfl, g3, .inr ⟨t, rfl, num5⟩, w0, w1⟩
        · exact ⟨t4, _, b, rfl, g4, .inl rfl, b0, b1⟩
      refine ⟨_, rfl, l2, _, _, _, rfl, rfl, SqL.of gl, hat, tw, _, rfl, SqT.of htw, rfl, _, _, rfl, _, _, rfl, rfl, ?_⟩
      refine ⟨_, rfl, _, _, rfl, rfl, _, rfl, if_dec (fun hw3 => ?_) (fun hw3 => ?_)⟩
      · refine ⟨_, rfl, _, rfl, (by show 2 ≤ sizeLine; decide), fun u1 nu1 => ?_⟩
        refine ⟨_, rfl, _, rfl, (by show 2 ≤ sizeLine; decide), fun u2 nu2 => ?_⟩
        refine ⟨(by show 2 ≤ sizeLine; decide), fun u3 nu3 => ?_⟩
        have z1 : Ex H5 (upd H5 u1 (.tup [V.ref t, y])) := Ex.nw nu1
        have z2 : Ex (upd H5 u1 (.tup [V.ref t, y])) (upd (upd H5 u1 (.tup [V.ref t, y])) u2 (.tup [V.int w', V.int bb])) := Ex.nw nu2
        obtain ⟨H6, E6⟩ : ∃ H6, H6 = upd (upd (upd H5 u1 (.tup [V.ref t, y])) u2 (.tup [V.int w', V.int bb])) u3 (.tup [V.ref u1, V.ref u2]) := ⟨_, rfl⟩
        have z3 : Ex (upd (upd H5 u1 (.tup [V.ref t, y])) u2 (.tup [V.int w', V.int bb])) H6 := by rw [E6]; exact Ex.nw nu3
        have hu1 : H6 u1 = some (.tup [V.ref t, y]) := z3 _ _ (z2 _ _ upd_same)
        have hu2 : H6 u2 = some (.tup [V.int w', V.int bb]) := z3 _ _ upd_same
        have e6 : Ex H5 H6 := z1.tr (z2.tr z3)
        refine ⟨u3, _, rfl, SqT.of upd_same, rfl, _, _, rfl, _, _, rfl, rfl, ?_⟩
        rw [← E6]
        have num6 := num5.ex e6
        have hy6 := hy.ex e6
        have x6 := x5.tr (Ex.xb e6)
        have hp6 := hp5.ex e6
        have ht6 : Sd A.C_Number H6 (V.ref t) n w' := .inr ⟨t, rfl, num6⟩
        refine ⟨_, rfl, _, rfl, _, rfl, u2, _, _, _, rfl, rfl, SqT.of hu2, rfl, _, rfl, u2, _, _, _, rfl, rfl, SqT.of hu2, rfl, g, n, w', bb, rfl, h1, h2, w0, w1, b0, b1, fun H7 e7 => ?_⟩
        refine ⟨_, rfl, _, rfl, _, rfl, u2, _, _, _, rfl, rfl, SqT.of (e7 _ _ hu2), rfl, _, rfl, u2, _, _, _, rfl, rfl, SqT.of (e7 _ _ hu2), rfl, _, rfl, g, u1, (V.ref t), y, n, w', bb, rfl, e7 _ _ hu1, ht6.ex e7, hy6.ex e7, (.inl ⟨t, rfl⟩), h1, h2, w0, w1, b0, b1, fun H8 e8 => ⟨_, rfl, if_false (by rfl) ?_⟩⟩
        have e78 := e7.tr e8
        have hres := g.res_ok (a := w') (b := bb) h1 w0 w1 (by omega)
        cases hb : g.bad bb with
        | true =>
          refine ⟨_, rfl, rfl, _, rfl, if_false (by simp) ?_⟩
          exact ⟨t, w', _, _, _, _, _, _, _, _, rfl, x6.tr (Ex.xb e78), (hp6.ex e78).mono (by omega), num6.ex e78, w0, w1⟩
        | false =>
          refine ⟨_, rfl, rfl, _, rfl, if_true (by simp) ?_⟩
          refine ⟨_, rfl, _, rfl, u1, _, _, _, rfl, rfl, SqT.of (e78 _ _ hu1), rfl, _, rfl, u1, _, _, _, rfl, rfl, SqT.of (e78 _ _ hu1), rfl, g, (V.ref t), y, n, w', bb, rfl, ht6.ex e78, hy6.ex e78, (.inl ⟨t, rfl⟩), h1, h2, w0, w1, b0, b1, (fun _ r H9 hr9 e9 num9 => ?_), (fun hb' => by rw [hb] at hb'; cases hb')⟩
          refine ⟨_, rfl, _, _, rfl, ?_⟩
          exact ⟨r, _, _, _, _, _, _, _, _, _, rfl, x6.tr (Ex.xb (e78.tr e9)), (hp6.ex (e78.tr e9)).mono (by omega), num9, hres.1, hres.2⟩
      · refine ⟨_, rfl, _, rfl, (by show 2 ≤ sizeLine; decide), fun u1 nu1 => ?_⟩
        refine ⟨_, rfl, _, rfl, (by show 2 ≤ sizeLine; decide), fun u2 nu2 => ?_⟩
        refine ⟨(by show 2 ≤ sizeLine; decide), fun u3 nu3 => ?_⟩
        have z1 : Ex H5 (upd H5 u1 (.tup [y, V.ref t])) := Ex.nw nu1
        have z2 : Ex (upd H5 u1 (.tup [y, V.ref t])) (upd (upd H5 u1 (.tup [y, V.ref t])) u2 (.tup [V.int bb, V.int w'])) := Ex.nw nu2
        obtain ⟨H6, E6⟩ : ∃ H6, H6 = upd (upd (upd H5 u1 (.tup [y, V.ref t])) u2 (.tup [V.int bb, V.int w'])) u3 (.tup [V.ref u1, V.ref u2]) := ⟨_, rfl⟩
        have z3 : Ex (upd (upd H5 u1 (.tup [y, V.ref t])) u2 (.tup [V.int bb, V.int w'])) H6 := by rw [E6]; exact Ex.nw nu3
        have hu1 : H6 u1 = some (.tup [y, V.ref t]) := z3 _ _ (z2 _ _ upd_same)
        have hu2 : H6 u2 = some (.tup [V.int bb, V.int w']) := z3 _ _ upd_same
        have e6 : Ex H5 H6 := z1.tr (z2.tr z3)
        refine ⟨u3, _, rfl, SqT.of upd_same, rfl, _, _, rfl, _, _, rfl, rfl, ?_⟩
        rw [← E6]
        have num6 := num5.ex e6
        have hy6 := hy.ex e6
        have x6 := x5.tr (Ex.xb e6)
        have hp6 := hp5.ex e6
        have ht6 : Sd A.C_Number H6 (V.ref t) n w' := .inr ⟨t, rfl, num6⟩
        refine ⟨_, rfl, _, rfl, _, rfl, u2, _, _, _, rfl, rfl, SqT.of hu2, rfl, _, rfl, u2, _, _, _, rfl, rfl, SqT.of hu2, rfl, g, n, bb, w', rfl, h1, h2, b0, b1, w0, w1, fun H7 e7 => ?_⟩
        refine ⟨_, rfl, _, rfl, _, rfl, u2, _, _, _, rfl, rfl, SqT.of (e7 _ _ hu2), rfl, _, rfl, u2, _, _, _, rfl, rfl, SqT.of (e7 _ _ hu2), rfl, _, rfl, g, u1, y, (V.ref t), n, bb, w', rfl, e7 _ _ hu1, hy6.ex e7, ht6.ex e7, (.inr ⟨t, rfl⟩), h1, h2, b0, b1, w0, w1, fun H8 e8 => ⟨_, rfl, if_false (by rfl) ?_⟩⟩
        have e78 := e7.tr e8
        have hres := g.res_ok (a := bb) (b := w') h1 b0 b1 (by omega)
        cases hb : g.bad w' with
        | true =>
          refine ⟨_, rfl, rfl, _, rfl, if_false (by simp) ?_⟩
          exact ⟨t, w', _, _, _, _, _, _, _, _, rfl, x6.tr (Ex.xb e78), (hp6.ex e78).mono (by omega), num6.ex e78, w0, w1⟩
        | false =>
          refine ⟨_, rfl, rfl, _, rfl, if_true (by simp) ?_⟩
          refine ⟨_, rfl, _, rfl, u1, _, _, _, rfl, rfl, SqT.of (e78 _ _ hu1), rfl, _, rfl, u1, _, _, _, rfl, rfl, SqT.of (e78 _ _ hu1), rfl, g, y, (V.ref t), n, bb, w', rfl, hy6.ex e78, ht6.ex e78, (.inr ⟨t, rfl⟩), h1, h2, b0, b1, w0, w1, (fun _ r H9 hr9 e9 num9 => ?_), (fun hb' => by rw [hb] at hb'; cases hb')⟩
          refine ⟨_, rfl, _, _, rfl, ?_⟩
          exact ⟨r, _, _, _, _, _, _, _, _, _, rfl, x6.tr (Ex.xb (e78.tr e9)), (hp6.ex (e78.tr e9)).mono (by omega), num9, hres.1, hres.2⟩
    · rintro σ H' ⟨t, w', v4, v5, v6, v7, v8, v9, v10, v11, rfl, x0, hp0, num0, w0, w1⟩
      obtain ⟨dx, zt⟩ := id num0
      have f := fine_2l (a := n) (b := w') (by omega) (by omega) w0 (by omega)
      refine ⟨_, rfl, t, dx, _, rfl, zt, t, n, w', rfl, num0, _, rfl, t, dx, _, rfl, zt, t, n, w', rfl, num0, (by show 2 ≤ sizeLine; decide), fun s hs => ?_⟩
      refine ⟨_, _, rfl, dq_lst upd_same rfl, f.sh, f.nd, f.dp, f.ln, ?_⟩
      refine ⟨_, rfl, _, rfl, (by show 2 ≤ sizeLine; decide), fun s2 hs2 => ?_⟩
      have ee := (Ex.nw hs (o := .lst [V.int n, V.int w'])).tr (Ex.nw hs2 (o := .lst [V.int n, V.int w']))
      exact ⟨_, _, rfl, dq_lst upd_same rfl, f.sh, f.nd, f.dp, f.ln, rfl, q_eq (k _ (x0.tr (Ex.xb ee)) ((hp0.ex ee).mono (by omega)))⟩
end
end K00
set_option Elab.async false
set_option linter.all false
set_option maxRecDepth 100000
set_option maxHeartbeats 4400000
namespace K00
open PySem PySem.Spec PyProof.Rows L2 HX
open PySem.W (Frag)


def spRight : Sp := fun vs H Q _ => ∃ (p : Addr) (N : Int), vs = [.ref p] ∧ PotAt H p N ∧ N ≤ 80000 ∧ ∀ H', XB p H H' → Q (.bl true) H'
def spLaw (K : Frag) : Sp := fun vs H Q _ => ∃ (a : Addr) (ns : List Int), vs = [.ref a] ∧ SqL K H a (ns.map V.int) ∧ ns.length ≤ 63 ∧ ∀ H', Q (.bl true) H'
theorem XB.mu {H H' : Hp} {p q : Addr} {o : HO} (e : XB p H H') (h : H q = none) : XB p H (upd H' q o) := fun a u n ha => by
  rw [upd_ne (ne_of_none ha h)]
  exact e a u n ha
theorem PotAt.up {H : Hp} {p q : Addr} {o : HO} {N : Int} (h : PotAt H p N) (ne : p ≠ q) : PotAt (upd H q o) p N := let ⟨a, b, c, h0, hr⟩ := h; ⟨a, b, c, by rw [upd_ne ne]; exact h0, hr⟩
theorem ex_xb {H H1 H2 : Hp} {p : Addr} (e : Ex H H1) (x : XB p H1 H2) (h : H p = none) : Ex H H2 := fun c o z => x c o (ne_of_none z h) (e c o z)
theorem two_b (b c : Bool) : 0 ≤ 1 + (if b = true then (1 : Int) else 0) + (if c = true then 1 else 0) ∧ 1 + (if b = true then (1 : Int) else 0) + (if c = true then 1 else 0) ≤ 3 := by cases b <;> cases c <;> decide

section
variable {P : Program} {w : World} {K : Frag} {mg : Str → Option Value} {base : Heap} {A : Ad}

theorem ok_right (T : Txt K mg A) : FnG P w K mg base CX0 11 A.f_right A.d_right ["_law_pot_here"] (spRight) := by
  refine okG0 T.F_right sc_right (fun vs H Q E h => ?_) (fun cdv A0 outer s H vs Q E hgd0 hr h => ?_)
  · obtain ⟨_, _, rfl, _⟩ := h
    rfl
  · have hu := hu_of hr
    have hgd : (A0.deeper (envOfC "_law_right" (defScope s_right) s.heap.objs.size A.f_right cdv)).guards = some [] := hgd0
    obtain ⟨p, N, rfl, hp, hN, k⟩ := h
    refine ⟨_, (pss_cons (ps_set (i := 1) sc_right.nd rfl (Or.inr rfl) (pe_op op_add pe_int (pe_call (ok_take T) (hr.mono (by decide)) (by rfl) T.m_take T.F_take.kp T.b_take .nil pass0 (pa_cons (pv 0) (pa_cons pe_int pa_nil)))))
      (pss_cons (ps_for PassesOwn.never rfl (pi_range1 rfl T.g_range (pa_cons (pv 1) pa_nil)) (pg_name (i := 2) sc_right.nd rfl (Or.inr rfl)) (pss_one (ps_if (pt_not (pt_val (pe_callB (cr_all rfl) (by rfl) T.g_all (by decide +kernel) (pa_cons (pe_lc (own := [("_law_b", 4)]) (g := gName 4) (tt := tYes) rfl sc_right.nd (pi_range1 rfl T.g_range (pa_cons (pv 1) pa_nil)) (blkOk_by (N := N_right) (sc := defScope s_right) (by decide +kernel)) (fun _ _ _ _ _ => pg_name (i := 4) sc_right.nd rfl (Or.inl rfl)) (fun _ _ _ _ _ => pts_nil) (fun _ _ _ _ _ => (pe_callG hgd (ok_pair_right T) (hr.mono (by decide)) (by rfl) T.m_pair_right T.F_pair_right.kp T.b_pair_right .nil pass0 (pa_cons (pv 1) (pa_cons (pv 2) (pa_cons (pv 4) pa_nil)))))) pa_nil)))) (pss_one (ps_ret pe_bl)) pss_nil)))
      (pss_one (ps_ret (pe_callB (cr_all rfl) (by rfl) T.g_all (by decide +kernel) (pa_cons (pe_lc (own := [("_law_turn", 3)]) (g := gName 3) (tt := tYes) rfl sc_right.nd (pi_range1 rfl T.g_range (pa_cons pe_int pa_nil)) (blkOk_by (N := N_right) (sc := defScope s_right) (by decide +kernel)) (fun _ _ _ _ _ => pg_name (i := 3) sc_right.nd rfl (Or.inl rfl)) (fun _ _ _ _ _ => pts_nil) (fun _ _ _ _ _ => (pe_callG hgd (ok_chain_right T) (hr.mono (by decide)) (by rfl) T.m_chain_right T.F_chain_right.kp T.b_chain_right .nil pass0 (pa_cons (pv 0) (pa_cons (pv 1) pa_nil))))) pa_nil)))))), ?_⟩
    refine ⟨_, rfl, p, 3, N, rfl, hp, by decide, by decide, by omega, fun d H1 d0 d1 x1 hp1 => ?_⟩
    refine ⟨_, _, rfl, rfl, ?_⟩
    refine ⟨_, rfl, 2 + d, rfl, by omega, by omega, for_range (n := (2 + d).toNat) (fun i σ H' => (∃ v2 v3 v4, σ = [some (.ref p), some (.int (2 + d)), v2, v3, v4]) ∧ Ex H1 H') ⟨⟨_, _, _, rfl⟩, Ex.rf H1⟩ ?_ ?_⟩
    · rintro i σ H2 hi ⟨⟨v2, v3, v4, rfl⟩, e2⟩
      refine ⟨_, rfl, 2 + d, rfl, by omega, by omega, fun D nD => lc_range (lo := 0) (n := (2 + d).toNat) (fun j H' => Ex H2 H' ∧ H' D = some (.lst (List.replicate j (.bl true)))) ⟨Ex.nw nD, upd_same⟩ ?_ ?_⟩
      · rintro j H3 hj ⟨e3, hD⟩
        refine ⟨rfl, _, rfl, _, rfl, _, rfl, 2 + d, 0 + i, 0 + j, rfl, by omega, by omega, by omega, by omega, by omega, by omega, fun H4 e4 => ?_⟩
        refine ⟨_, e4 _ _ hD, (by rw [List.length_replicate]; exact Nat.lt_of_lt_of_le (show j < 5 by omega) (by decide)), Ex.mu (e3.tr e4) nD, ?_⟩
        rw [rep_next]
        exact upd_same
      · rintro H3 ⟨e3, hD⟩
        refine ⟨D, List.replicate (2 + d).toNat true, rfl, SqL.of (by rw [hD, rep_bl]), _, rfl, if_false (by rw [rep_all]; rfl) ?_⟩
        exact ⟨⟨_, _, _, rfl⟩, e2.tr e3⟩
    · rintro σ H2 ⟨⟨v2, v3, v4, rfl⟩, e2⟩
      have hp2 := hp1.ex e2
      refine ⟨6, rfl, by decide, by decide, fun D nD => lc_range (lo := 0) (n := 6) (fun j H' => XB p H2 H' ∧ PotAt H' p (N + 1 + 60 * j) ∧ H' D = some (.lst (List.replicate j (.bl true)))) ⟨Ex.xb (Ex.nw nD), (hp2.mono (by omega)).up (Ne.symm (pot_none hp2 nD)), upd_same⟩ ?_ ?_⟩
      · rintro j H3 hj ⟨e3, hp3, hD⟩
        have nDp : D ≠ p := pot_none hp2 nD
        refine ⟨rfl, _, rfl, _, rfl, p, 2 + d, _, rfl, hp3, by omega, by omega, by omega, fun H4 x4 hp4 => ?_⟩
        refine ⟨_, x4 _ _ nDp hD, (by rw [List.length_replicate]; exact Nat.lt_of_lt_of_le hj (by decide)), XB.mu (e3.tr x4) nD, (hp4.mono (by omega)).up (Ne.symm nDp), ?_⟩
        rw [rep_next]
        exact upd_same
      · rintro H3 ⟨e3, hp3, hD⟩
        refine ⟨D, List.replicate 6 true, rfl, SqL.of (by rw [hD, rep_bl]), ?_⟩
        rw [rep_all]
        exact k _ (x1.tr ((Ex.xb e2).tr e3))
theorem ok_law (T : Txt K mg A) : FnG P w K mg base CX0 12 A.f_law A.d_law ["_law_script"] (spLaw K) := by
  refine okG0 T.F_law sc_law (fun vs H Q E h => ?_) (fun cdv A0 outer s H vs Q E hgd0 hr h => ?_)
  · obtain ⟨_, _, rfl, _⟩ := h
    rfl
  · have hu := hu_of hr
    have hgd : (A0.deeper (envOfC "law" (defScope s_law) s.heap.objs.size A.f_law cdv)).guards = some [] := hgd0
    obtain ⟨a, ns, rfl, hS, hl, k⟩ := h
    refine ⟨_, (pss_one (ps_ret (pe_callB (cr_all rfl) (by rfl) T.g_all (by decide +kernel) (pa_cons (pe_lc (own := [("_law_k", 1)]) (g := gName 1) (tt := tYes) rfl sc_law.nd (pi_range1 rfl T.g_range (pa_cons (pe_op op_add (pe_op op_add pe_int (pe_callTy call_int1 (by rfl) T.g_int (by decide +kernel) (pa_cons (pe_cmpR op_gt (pe_callB call_len_seq (by rfl) T.g_len (by decide +kernel) (pa_cons (pv 0) pa_nil)) pe_int (nomark _)) pa_nil))) (pe_callTy call_int1 (by rfl) T.g_int (by decide +kernel) (pa_cons (pe_cmpR op_gt (pe_callB call_len_seq (by rfl) T.g_len (by decide +kernel) (pa_cons (pv 0) pa_nil)) pe_int (nomark _)) pa_nil))) pa_nil)) (blkOk_by (N := N_law) (sc := defScope s_law) (by decide +kernel)) (fun _ _ _ _ _ => pg_name (i := 1) sc_law.nd rfl (Or.inl rfl)) (fun _ _ _ _ _ => pts_nil) (fun _ _ _ _ _ => (pe_callG hgd (ok_right T) (hr.mono (by decide)) (by rfl) T.m_right T.F_right.kp T.b_right .nil pass0 (pa_cons (pe_call (ok_pot T) (hr.mono (by decide)) (by rfl) T.m_pot T.F_pot.kp T.b_pot .nil pass0 (pa_cons (pv 0) (pa_cons (pv 1) pa_nil))) pa_nil)))) pa_nil)))), ?_⟩
    refine ⟨_, rfl, a, _, rfl, .inl hS, _, _, rfl, rfl, .inr ⟨_, rfl, _, _, rfl, rfl, ?_⟩⟩
    refine ⟨_, rfl, a, _, rfl, .inl hS, _, _, rfl, rfl, .inr ⟨_, rfl, _, _, rfl, rfl, ?_⟩⟩
    have hb := two_b (decide ((1 : Int) < ((ns.map V.int).length : Int))) (decide ((2 : Int) < ((ns.map V.int).length : Int)))
    refine ⟨_, rfl, by omega, by omega, fun D nD => lc_range (lo := 0) (n := (1 + (if (decide ((1 : Int) < ((ns.map V.int).length : Int))) = true then (1 : Int) else 0) + (if (decide ((2 : Int) < ((ns.map V.int).length : Int))) = true then (1 : Int) else 0)).toNat) (fun j H' => Ex H H' ∧ H' D = some (.lst (List.replicate j (.bl true)))) ⟨Ex.nw nD, upd_same⟩ ?_ ?_⟩
    · rintro j H3 hj ⟨e3, hD⟩
      refine ⟨rfl, _, rfl, _, rfl, a, ns, 0 + j, rfl, sql_ex hS e3, by omega, by omega, fun p H4 hp e4 pot => ?_⟩
      refine ⟨p, 0, rfl, pot, by decide, fun H5 x5 => ?_⟩
      have eD : Ex H3 H5 := ex_xb e4 x5 hp
      refine ⟨_, eD _ _ hD, (by rw [List.length_replicate]; exact Nat.lt_of_lt_of_le (show j < 5 by omega) (by decide)), Ex.mu (e3.tr eD) nD, ?_⟩
      rw [rep_next]
      exact upd_same
    · rintro H3 ⟨e3, hD⟩
      refine ⟨D, List.replicate _ true, rfl, SqL.of (by rw [hD, rep_bl]), ?_⟩
      rw [rep_all]
      exact k _
end
end K00
set_option Elab.async false
set_option linter.all false
set_option maxRecDepth 100000
set_option maxHeartbeats 4400000
namespace K00
open PySem PySem.Spec PyProof.Rows L2 HX
open PySem.W (Frag)
theorem exm_self {K : PySem.W.Frag} {S : Addr} (h1 : PySem.W.subIn K (.ref S) (.type "BaseException") = some true) (h2 : PySem.W.isClsIn K S = true) (h3 : PySem.W.typeIn K (.ref S) = some (.type "type")) (h4 : PySem.W.subIn K (.ref S) (.ref S) = some true) : PySem.W.exmOne K (.ref S) (.ref S) = some true := by
  have c1 : (PySem.W.clsIn K S).isSome = true := h2
  simp [PySem.W.exmOne, PySem.W.kitCls, h1, h3, h4, c1]
theorem kit_self {K : PySem.W.Frag} {t : Value} : PySem.W.kitOne K t t = some true := if_pos (beq_iff_eq.mpr rfl)
theorem kit_no {K : PySem.W.Frag} {t : Value} {C : Addr} {b : Bool} (hne : (t == .ref C) = false) (h2 : PySem.W.isClsIn K C = true) (h3 : PySem.W.typeIn K (.ref C) = some (.type "type")) (h : PySem.W.subIn K t (.ref C) = some b) : PySem.W.kitOne K t (.ref C) = some b := by
  have c1 : (PySem.W.clsIn K C).isSome = true := h2
  simp [PySem.W.kitOne, PySem.W.kitCls, hne, c1, h3, h]
theorem kit_noT {K : PySem.W.Frag} {C : Addr} {T : String} {b : Bool} (hm : PySem.W.kitMeta T = true) (h : PySem.W.subIn K (.ref C) (.type T) = some b) : PySem.W.kitOne K (.ref C) (.type T) = some b := by
  have e : ((Value.ref C) == (.type T)) = false := rfl
  simp [PySem.W.kitOne, PySem.W.kitCls, e, hm, h]
theorem all_mk {l : PySem.W.OpenLaw} {w : World} {K : Frag} {h : Heap} {mg : Str → Option Value} {fa : Addr} (X : K.In h) (G : h.Ns mainGlobals mg) (hfa : mg "law" = some (.ref fa))
    {xnm xq : Str} {xN : Addr} {xbs xbm : List Value} {xsn : List Str} {xsub : List Value} {xab : Bool} {xcol : Option Bool} {xdd : Option Addr} {xk0 xk1 xk2 xk3 xk5 : Option Value}
    {C_Fault C_Number f_Fault_init f_is_whole f_is_size f_Number_init f_Number_size p_size f_Number_worth p_worth f_Number_add f_Number_radd f_Number_sub f_Number_rsub f_Number_mul f_Number_rmul f_Number_floordiv f_Number_rfloordiv f_Number_neg f_Number_eq f_Number_ne f_Number_lt f_Number_le f_Number_gt f_Number_ge f_worth_of f_is_side f_gone_round f_quotient f_pot f_take f_of f_due f_signed f_heard f_sign_right f_compared f_pair_right f_chain_right f_right f_law : Addr}
    {od_Fault_init an_Fault_init od_is_whole an_is_whole od_is_size an_is_size od_Number_init an_Number_init od_Number_size an_Number_size od_Number_worth an_Number_worth od_Number_add an_Number_add od_Number_radd an_Number_radd od_Number_sub an_Number_sub od_Number_rsub an_Number_rsub od_Number_mul an_Number_mul od_Number_rmul an_Number_rmul od_Number_floordiv an_Number_floordiv od_Number_rfloordiv an_Number_rfloordiv od_Number_neg an_Number_neg od_Number_eq an_Number_eq od_Number_ne an_Number_ne od_Number_lt an_Number_lt od_Number_le an_Number_le od_Number_gt an_Number_gt od_Number_ge an_Number_ge od_worth_of an_worth_of od_is_side an_is_side od_gone_round an_gone_round od_quotient an_quotient od_pot an_pot od_take an_take od_of an_of od_due an_due od_signed an_signed od_heard an_heard od_sign_right an_sign_right od_compared an_compared od_pair_right an_pair_right od_chain_right an_chain_right od_right an_right od_law an_law : Option Addr}
    {sl_Fault_init sl_is_whole sl_is_size sl_Number_init sl_Number_size sl_Number_worth sl_Number_add sl_Number_radd sl_Number_sub sl_Number_rsub sl_Number_mul sl_Number_rmul sl_Number_floordiv sl_Number_rfloordiv sl_Number_neg sl_Number_eq sl_Number_ne sl_Number_lt sl_Number_le sl_Number_gt sl_Number_ge sl_worth_of sl_is_side sl_gone_round sl_quotient sl_pot sl_take sl_of sl_due sl_signed sl_heard sl_sign_right sl_compared sl_pair_right sl_chain_right sl_right sl_law : Array (Option Value)}
    {oc_Fault_init kV_Fault_init dc_Fault_init pm_Fault_init cd_Fault_init ct_Fault_init oc_is_whole kV_is_whole dc_is_whole pm_is_whole cd_is_whole ct_is_whole oc_is_size kV_is_size dc_is_size pm_is_size cd_is_size ct_is_size oc_Number_init kV_Number_init dc_Number_init pm_Number_init cd_Number_init ct_Number_init oc_Number_size kV_Number_size dc_Number_size pm_Number_size cd_Number_size ct_Number_size oc_Number_worth kV_Number_worth dc_Number_worth pm_Number_worth cd_Number_worth ct_Number_worth oc_Number_add kV_Number_add dc_Number_add pm_Number_add cd_Number_add ct_Number_add oc_Number_radd kV_Number_radd dc_Number_radd pm_Number_radd cd_Number_radd ct_Number_radd oc_Number_sub kV_Number_sub dc_Number_sub pm_Number_sub cd_Number_sub ct_Number_sub oc_Number_rsub kV_Number_rsub dc_Number_rsub pm_Number_rsub cd_Number_rsub ct_Number_rsub oc_Number_mul kV_Number_mul dc_Number_mul pm_Number_mul cd_Number_mul ct_Number_mul oc_Number_rmul kV_Number_rmul dc_Number_rmul pm_Number_rmul cd_Number_rmul ct_Number_rmul oc_Number_floordiv kV_Number_floordiv dc_Number_floordiv pm_Number_floordiv cd_Number_floordiv ct_Number_floordiv oc_Number_rfloordiv kV_Number_rfloordiv dc_Number_rfloordiv pm_Number_rfloordiv cd_Number_rfloordiv ct_Number_rfloordiv oc_Number_neg kV_Number_neg dc_Number_neg pm_Number_neg cd_Number_neg ct_Number_neg oc_Number_eq kV_Number_eq dc_Number_eq pm_Number_eq cd_Number_eq ct_Number_eq oc_Number_ne kV_Number_ne dc_Number_ne pm_Number_ne cd_Number_ne ct_Number_ne oc_Number_lt kV_Number_lt dc_Number_lt pm_Number_lt cd_Number_lt ct_Number_lt oc_Number_le kV_Number_le dc_Number_le pm_Number_le cd_Number_le ct_Number_le oc_Number_gt kV_Number_gt dc_Number_gt pm_Number_gt cd_Number_gt ct_Number_gt oc_Number_ge kV_Number_ge dc_Number_ge pm_Number_ge cd_Number_ge ct_Number_ge oc_worth_of kV_worth_of dc_worth_of pm_worth_of cd_worth_of ct_worth_of oc_is_side kV_is_side dc_is_side pm_is_side cd_is_side ct_is_side oc_gone_round kV_gone_round dc_gone_round pm_gone_round cd_gone_round ct_gone_round oc_quotient kV_quotient dc_quotient pm_quotient cd_quotient ct_quotient oc_pot kV_pot dc_pot pm_pot cd_pot ct_pot oc_take kV_take dc_take pm_take cd_take ct_take oc_of kV_of dc_of pm_of cd_of ct_of oc_due kV_due dc_due pm_due cd_due ct_due oc_signed kV_signed dc_signed pm_signed cd_signed ct_signed oc_heard kV_heard dc_heard pm_heard cd_heard ct_heard oc_sign_right kV_sign_right dc_sign_right pm_sign_right cd_sign_right ct_sign_right oc_compared kV_compared dc_compared pm_compared cd_compared ct_compared oc_pair_right kV_pair_right dc_pair_right pm_pair_right cd_pair_right ct_pair_right oc_chain_right kV_chain_right dc_chain_right pm_chain_right cd_chain_right ct_chain_right oc_right kV_right dc_right pm_right cd_right ct_right oc_law kV_law dc_law pm_law cd_law ct_law : Value}
    {rest_Number_size rest_Number_worth : List Value}
    (a_Fault : PySem.W.nsIn K mainGlobals "Fault" = some (some (.ref C_Fault)))
    (a_Number : PySem.W.nsIn K mainGlobals "Number" = some (some (.ref C_Number)))
    (a_Fault_init : PySem.W.findIn K (.ref C_Fault) "__init__" = some (some (.ref f_Fault_init)))
    (i_Fault_init : PySem.W.isFn K (.ref f_Fault_init) = true)
    (l_Fault_init : K.lookup f_Fault_init = some ⟨oc_Fault_init, od_Fault_init, .func (PySem.W.fnOf "__init__" "Fault.__init__" (defArgs s_Fault_init) (defBody s_Fault_init) (defScope s_Fault_init) .none kV_Fault_init dc_Fault_init pm_Fault_init an_Fault_init cd_Fault_init ct_Fault_init), sl_Fault_init⟩)
    (c_Fault_init : PySem.W.codeIn K cd_Fault_init "Fault.__init__" = true)
    (k_Fault_init : PySem.W.keepIn K (.ref f_Fault_init) = true)
    (a_is_whole : PySem.W.nsIn K mainGlobals "is_whole" = some (some (.ref f_is_whole)))
    (l_is_whole : K.lookup f_is_whole = some ⟨oc_is_whole, od_is_whole, .func (PySem.W.fnOf "is_whole" "is_whole" (defArgs s_is_whole) (defBody s_is_whole) (defScope s_is_whole) .none kV_is_whole dc_is_whole pm_is_whole an_is_whole cd_is_whole ct_is_whole), sl_is_whole⟩)
    (c_is_whole : PySem.W.codeIn K cd_is_whole "is_whole" = true)
    (k_is_whole : PySem.W.keepIn K (.ref f_is_whole) = true)
    (a_is_size : PySem.W.nsIn K mainGlobals "is_size" = some (some (.ref f_is_size)))
    (l_is_size : K.lookup f_is_size = some ⟨oc_is_size, od_is_size, .func (PySem.W.fnOf "is_size" "is_size" (defArgs s_is_size) (defBody s_is_size) (defScope s_is_size) .none kV_is_size dc_is_size pm_is_size an_is_size cd_is_size ct_is_size), sl_is_size⟩)
    (c_is_size : PySem.W.codeIn K cd_is_size "is_size" = true)
    (k_is_size : PySem.W.keepIn K (.ref f_is_size) = true)
    (a_Number_init : PySem.W.findIn K (.ref C_Number) "__init__" = some (some (.ref f_Number_init)))
    (i_Number_init : PySem.W.isFn K (.ref f_Number_init) = true)
    (l_Number_init : K.lookup f_Number_init = some ⟨oc_Number_init, od_Number_init, .func (PySem.W.fnOf "__init__" "Number.__init__" (defArgs s_Number_init) (defBody s_Number_init) (defScope s_Number_init) .none kV_Number_init dc_Number_init pm_Number_init an_Number_init cd_Number_init ct_Number_init), sl_Number_init⟩)
    (c_Number_init : PySem.W.codeIn K cd_Number_init "Number.__init__" = true)
    (k_Number_init : PySem.W.keepIn K (.ref f_Number_init) = true)
    (a_Number_size : PySem.W.findIn K (.ref C_Number) "size" = some (some (.ref p_size)))
    (g_Number_size : PySem.W.specialIn K (.ref p_size) "__get__" = some (some (.builtin "property.__get__")))
    (t_Number_size : PySem.W.takesIn K (.ref p_size) = some true)
    (r_Number_size : PySem.W.recIn K p_size "property" = some (.ref f_Number_size :: rest_Number_size))
    (l_Number_size : K.lookup f_Number_size = some ⟨oc_Number_size, od_Number_size, .func (PySem.W.fnOf "size" "Number.size" (defArgs s_Number_size) (defBody s_Number_size) (defScope s_Number_size) .none kV_Number_size dc_Number_size pm_Number_size an_Number_size cd_Number_size ct_Number_size), sl_Number_size⟩)
    (c_Number_size : PySem.W.codeIn K cd_Number_size "Number.size" = true)
    (k_Number_size : PySem.W.keepIn K (.ref f_Number_size) = true)
    (a_Number_worth : PySem.W.findIn K (.ref C_Number) "worth" = some (some (.ref p_worth)))
    (g_Number_worth : PySem.W.specialIn K (.ref p_worth) "__get__" = some (some (.builtin "property.__get__")))
    (t_Number_worth : PySem.W.takesIn K (.ref p_worth) = some true)
    (r_Number_worth : PySem.W.recIn K p_worth "property" = some (.ref f_Number_worth :: rest_Number_worth))
    (l_Number_worth : K.lookup f_Number_worth = some ⟨oc_Number_worth, od_Number_worth, .func (PySem.W.fnOf "worth" "Number.worth" (defArgs s_Number_worth) (defBody s_Number_worth) (defScope s_Number_worth) .none kV_Number_worth dc_Number_worth pm_Number_worth an_Number_worth cd_Number_worth ct_Number_worth), sl_Number_worth⟩)
    (c_Number_worth : PySem.W.codeIn K cd_Number_worth "Number.worth" = true)
    (k_Number_worth : PySem.W.keepIn K (.ref f_Number_worth) = true)
    (a_Number_add : PySem.W.findIn K (.ref C_Number) "__add__" = some (some (.ref f_Number_add)))
    (i_Number_add : PySem.W.isFn K (.ref f_Number_add) = true)
    (l_Number_add : K.lookup f_Number_add = some ⟨oc_Number_add, od_Number_add, .func (PySem.W.fnOf "__add__" "Number.__add__" (defArgs s_Number_add) (defBody s_Number_add) (defScope s_Number_add) .none kV_Number_add dc_Number_add pm_Number_add an_Number_add cd_Number_add ct_Number_add), sl_Number_add⟩)
    (c_Number_add : PySem.W.codeIn K cd_Number_add "Number.__add__" = true)
    (k_Number_add : PySem.W.keepIn K (.ref f_Number_add) = true)
    (a_Number_radd : PySem.W.findIn K (.ref C_Number) "__radd__" = some (some (.ref f_Number_radd)))
    (i_Number_radd : PySem.W.isFn K (.ref f_Number_radd) = true)
    (l_Number_radd : K.lookup f_Number_radd = some ⟨oc_Number_radd, od_Number_radd, .func (PySem.W.fnOf "__radd__" "Number.__radd__" (defArgs s_Number_radd) (defBody s_Number_radd) (defScope s_Number_radd) .none kV_Number_radd dc_Number_radd pm_Number_radd an_Number_radd cd_Number_radd ct_Number_radd), sl_Number_radd⟩)
    (c_Number_radd : PySem.W.codeIn K cd_Number_radd "Number.__radd__" = true)
    (k_Number_radd : PySem.W.keepIn K (.ref f_Number_radd) = true)
    (a_Number_sub : PySem.W.findIn K (.ref C_Number) "__sub__" = some (some (.ref f_Number_sub)))
    (i_Number_sub : PySem.W.isFn K (.ref f_Number_sub) = true)
    (l_Number_sub : K.lookup f_Number_sub = some ⟨oc_Number_sub, od_Number_sub, .func (PySem.W.fnOf "__sub__" "Number.__sub__" (defArgs s_Number_sub) (defBody s_Number_sub) (defScope s_Number_sub) .none kV_Number_sub dc_Number_sub pm_Number_sub an_Number_sub cd_Number_sub ct_Number_sub), sl_Number_sub⟩)
    (c_Number_sub : PySem.W.codeIn K cd_Number_sub "Number.__sub__" = true)
    (k_Number_sub : PySem.W.keepIn K (.ref f_Number_sub) = true)
    (a_Number_rsub : PySem.W.findIn K (.ref C_Number) "__rsub__" = some (some (.ref f_Number_rsub)))
    (i_Number_rsub : PySem.W.isFn K (.ref f_Number_rsub) = true)
    (l_Number_rsub : K.lookup f_Number_rsub = some ⟨oc_Number_rsub, od_Number_rsub, .func (PySem.W.fnOf "__rsub__" "Number.__rsub__" (defArgs s_Number_rsub) (defBody s_Number_rsub) (defScope s_Number_rsub) .none kV_Number_rsub dc_Number_rsub pm_Number_rsub an_Number_rsub cd_Number_rsub ct_Number_rsub), sl_Number_rsub⟩)
    (c_Number_rsub : PySem.W.codeIn K cd_Number_rsub "Number.__rsub__" = true)
    (k_Number_rsub : PySem.W.keepIn K (.ref f_Number_rsub) = true)
    (a_Number_mul : PySem.W.findIn K (.ref C_Number) "__mul__" = some (some (.ref f_Number_mul)))
    (i_Number_mul : PySem.W.isFn K (.ref f_Number_mul) = true)
    (l_Number_mul : K.lookup f_Number_mul = some ⟨oc_Number_mul, od_Number_mul, .func (PySem.W.fnOf "__mul__" "Number.__mul__" (defArgs s_Number_mul) (defBody s_Number_mul) (defScope s_Number_mul) .none kV_Number_mul dc_Number_mul pm_Number_mul an_Number_mul cd_Number_mul ct_Number_mul), sl_Number_mul⟩)
    (c_Number_mul : PySem.W.codeIn K cd_Number_mul "Number.__mul__" = true)
    (k_Number_mul : PySem.W.keepIn K (.ref f_Number_mul) = true)
    (a_Number_rmul : PySem.W.findIn K (.ref C_Number) "__rmul__" = some (some (.ref f_Number_rmul)))
    (i_Number_rmul : PySem.W.isFn K (.ref f_Number_rmul) = true)
    (l_Number_rmul : K.lookup f_Number_rmul = some ⟨oc_Number_rmul, od_Number_rmul, .func (PySem.W.fnOf "__rmul__" "Number.__rmul__" (defArgs s_Number_rmul) (defBody s_Number_rmul) (defScope s_Number_rmul) .none kV_Number_rmul dc_Number_rmul pm_Number_rmul an_Number_rmul cd_Number_rmul ct_Number_rmul), sl_Number_rmul⟩)
    (c_Number_rmul : PySem.W.codeIn K cd_Number_rmul "Number.__rmul__" = true)
    (k_Number_rmul : PySem.W.keepIn K (.ref f_Number_rmul) = true)
    (a_Number_floordiv : PySem.W.findIn K (.ref C_Number) "__floordiv__" = some (some (.ref f_Number_floordiv)))
    (i_Number_floordiv : PySem.W.isFn K (.ref f_Number_floordiv) = true)
    (l_Number_floordiv : K.lookup f_Number_floordiv = some ⟨oc_Number_floordiv, od_Number_floordiv, .func (PySem.W.fnOf "__floordiv__" "Number.__floordiv__" (defArgs s_Number_floordiv) (defBody s_Number_floordiv) (defScope s_Number_floordiv) .none kV_Number_floordiv dc_Number_floordiv pm_Number_floordiv an_Number_floordiv cd_Number_floordiv ct_Number_floordiv), sl_Number_floordiv⟩)
    (c_Number_floordiv : PySem.W.codeIn K cd_Number_floordiv "Number.__floordiv__" = true)
    (k_Number_floordiv : PySem.W.keepIn K (.ref f_Number_floordiv) = true)
    (a_Number_rfloordiv : PySem.W.findIn K (.ref C_Number) "__rfloordiv__" = some (some (.ref f_Number_rfloordiv)))
    (i_Number_rfloordiv : PySem.W.isFn K (.ref f_Number_rfloordiv) = true)
    (l_Number_rfloordiv : K.lookup f_Number_rfloordiv = some ⟨oc_Number_rfloordiv, od_Number_rfloordiv, .func (PySem.W.fnOf "__rfloordiv__" "Number.__rfloordiv__" (defArgs s_Number_rfloordiv) (defBody s_Number_rfloordiv) (defScope s_Number_rfloordiv) .none kV_Number_rfloordiv dc_Number_rfloordiv pm_Number_rfloordiv an_Number_rfloordiv cd_Number_rfloordiv ct_Number_rfloordiv), sl_Number_rfloordiv⟩)
    (c_Number_rfloordiv : PySem.W.codeIn K cd_Number_rfloordiv "Number.__rfloordiv__" = true)
    (k_Number_rfloordiv : PySem.W.keepIn K (.ref f_Number_rfloordiv) = true)
    (a_Number_neg : PySem.W.findIn K (.ref C_Number) "__neg__" = some (some (.ref f_Number_neg)))
    (i_Number_neg : PySem.W.isFn K (.ref f_Number_neg) = true)
    (l_Number_neg : K.lookup f_Number_neg = some ⟨oc_Number_neg, od_Number_neg, .func (PySem.W.fnOf "__neg__" "Number.__neg__" (defArgs s_Number_neg) (defBody s_Number_neg) (defScope s_Number_neg) .none kV_Number_neg dc_Number_neg pm_Number_neg an_Number_neg cd_Number_neg ct_Number_neg), sl_Number_neg⟩)
    (c_Number_neg : PySem.W.codeIn K cd_Number_neg "Number.__neg__" = true)
    (k_Number_neg : PySem.W.keepIn K (.ref f_Number_neg) = true)
    (a_Number_eq : PySem.W.findIn K (.ref C_Number) "__eq__" = some (some (.ref f_Number_eq)))
    (i_Number_eq : PySem.W.isFn K (.ref f_Number_eq) = true)
    (l_Number_eq : K.lookup f_Number_eq = some ⟨oc_Number_eq, od_Number_eq, .func (PySem.W.fnOf "__eq__" "Number.__eq__" (defArgs s_Number_eq) (defBody s_Number_eq) (defScope s_Number_eq) .none kV_Number_eq dc_Number_eq pm_Number_eq an_Number_eq cd_Number_eq ct_Number_eq), sl_Number_eq⟩)
    (c_Number_eq : PySem.W.codeIn K cd_Number_eq "Number.__eq__" = true)
    (k_Number_eq : PySem.W.keepIn K (.ref f_Number_eq) = true)
    (a_Number_ne : PySem.W.findIn K (.ref C_Number) "__ne__" = some (some (.ref f_Number_ne)))
    (i_Number_ne : PySem.W.isFn K (.ref f_Number_ne) = true)
    (l_Number_ne : K.lookup f_Number_ne = some ⟨oc_Number_ne, od_Number_ne, .func (PySem.W.fnOf "__ne__" "Number.__ne__" (defArgs s_Number_ne) (defBody s_Number_ne) (defScope s_Number_ne) .none kV_Number_ne dc_Number_ne pm_Number_ne an_Number_ne cd_Number_ne ct_Number_ne), sl_Number_ne⟩)
    (c_Number_ne : PySem.W.codeIn K cd_Number_ne "Number.__ne__" = true)
    (k_Number_ne : PySem.W.keepIn K (.ref f_Number_ne) = true)
    (a_Number_lt : PySem.W.findIn K (.ref C_Number) "__lt__" = some (some (.ref f_Number_lt)))
    (i_Number_lt : PySem.W.isFn K (.ref f_Number_lt) = true)
    (l_Number_lt : K.lookup f_Number_lt = some ⟨oc_Number_lt, od_Number_lt, .func (PySem.W.fnOf "__lt__" "Number.__lt__" (defArgs s_Number_lt) (defBody s_Number_lt) (defScope s_Number_lt) .none kV_Number_lt dc_Number_lt pm_Number_lt an_Number_lt cd_Number_lt ct_Number_lt), sl_Number_lt⟩)
    (c_Number_lt : PySem.W.codeIn K cd_Number_lt "Number.__lt__" = true)
    (k_Number_lt : PySem.W.keepIn K (.ref f_Number_lt) = true)
    (a_Number_le : PySem.W.findIn K (.ref C_Number) "__le__" = some (some (.ref f_Number_le)))
    (i_Number_le : PySem.W.isFn K (.ref f_Number_le) = true)
    (l_Number_le : K.lookup f_Number_le = some ⟨oc_Number_le, od_Number_le, .func (PySem.W.fnOf "__le__" "Number.__le__" (defArgs s_Number_le) (defBody s_Number_le) (defScope s_Number_le) .none kV_Number_le dc_Number_le pm_Number_le an_Number_le cd_Number_le ct_Number_le), sl_Number_le⟩)
    (c_Number_le : PySem.W.codeIn K cd_Number_le "Number.__le__" = true)
    (k_Number_le : PySem.W.keepIn K (.ref f_Number_le) = true)
    (a_Number_gt : PySem.W.findIn K (.ref C_Number) "__gt__" = some (some (.ref f_Number_gt)))
    (i_Number_gt : PySem.W.isFn K (.ref f_Number_gt) = true)
    (l_Number_gt : K.lookup f_Number_gt = some ⟨oc_Number_gt, od_Number_gt, .func (PySem.W.fnOf "__gt__" "Number.__gt__" (defArgs s_Number_gt) (defBody s_Number_gt) (defScope s_Number_gt) .none kV_Number_gt dc_Number_gt pm_Number_gt an_Number_gt cd_Number_gt ct_Number_gt), sl_Number_gt⟩)
    (c_Number_gt : PySem.W.codeIn K cd_Number_gt "Number.__gt__" = true)
    (k_Number_gt : PySem.W.keepIn K (.ref f_Number_gt) = true)
    (a_Number_ge : PySem.W.findIn K (.ref C_Number) "__ge__" = some (some (.ref f_Number_ge)))
    (i_Number_ge : PySem.W.isFn K (.ref f_Number_ge) = true)
    (l_Number_ge : K.lookup f_Number_ge = some ⟨oc_Number_ge, od_Number_ge, .func (PySem.W.fnOf "__ge__" "Number.__ge__" (defArgs s_Number_ge) (defBody s_Number_ge) (defScope s_Number_ge) .none kV_Number_ge dc_Number_ge pm_Number_ge an_Number_ge cd_Number_ge ct_Number_ge), sl_Number_ge⟩)
    (c_Number_ge : PySem.W.codeIn K cd_Number_ge "Number.__ge__" = true)
    (k_Number_ge : PySem.W.keepIn K (.ref f_Number_ge) = true)
    (a_worth_of : PySem.W.nsIn K mainGlobals "worth_of" = some (some (.ref f_worth_of)))
    (l_worth_of : K.lookup f_worth_of = some ⟨oc_worth_of, od_worth_of, .func (PySem.W.fnOf "worth_of" "worth_of" (defArgs s_worth_of) (defBody s_worth_of) (defScope s_worth_of) .none kV_worth_of dc_worth_of pm_worth_of an_worth_of cd_worth_of ct_worth_of), sl_worth_of⟩)
    (c_worth_of : PySem.W.codeIn K cd_worth_of "worth_of" = true)
    (k_worth_of : PySem.W.keepIn K (.ref f_worth_of) = true)
    (a_is_side : PySem.W.nsIn K mainGlobals "_is_side" = some (some (.ref f_is_side)))
    (l_is_side : K.lookup f_is_side = some ⟨oc_is_side, od_is_side, .func (PySem.W.fnOf "_is_side" "_is_side" (defArgs s_is_side) (defBody s_is_side) (defScope s_is_side) .none kV_is_side dc_is_side pm_is_side an_is_side cd_is_side ct_is_side), sl_is_side⟩)
    (c_is_side : PySem.W.codeIn K cd_is_side "_is_side" = true)
    (k_is_side : PySem.W.keepIn K (.ref f_is_side) = true)
    (a_gone_round : PySem.W.nsIn K mainGlobals "_gone_round" = some (some (.ref f_gone_round)))
    (l_gone_round : K.lookup f_gone_round = some ⟨oc_gone_round, od_gone_round, .func (PySem.W.fnOf "_gone_round" "_gone_round" (defArgs s_gone_round) (defBody s_gone_round) (defScope s_gone_round) .none kV_gone_round dc_gone_round pm_gone_round an_gone_round cd_gone_round ct_gone_round), sl_gone_round⟩)
    (c_gone_round : PySem.W.codeIn K cd_gone_round "_gone_round" = true)
    (k_gone_round : PySem.W.keepIn K (.ref f_gone_round) = true)
    (a_quotient : PySem.W.nsIn K mainGlobals "_quotient" = some (some (.ref f_quotient)))
    (l_quotient : K.lookup f_quotient = some ⟨oc_quotient, od_quotient, .func (PySem.W.fnOf "_quotient" "_quotient" (defArgs s_quotient) (defBody s_quotient) (defScope s_quotient) .none kV_quotient dc_quotient pm_quotient an_quotient cd_quotient ct_quotient), sl_quotient⟩)
    (c_quotient : PySem.W.codeIn K cd_quotient "_quotient" = true)
    (k_quotient : PySem.W.keepIn K (.ref f_quotient) = true)
    (a_pot : PySem.W.nsIn K mainGlobals "_law_pot" = some (some (.ref f_pot)))
    (l_pot : K.lookup f_pot = some ⟨oc_pot, od_pot, .func (PySem.W.fnOf "_law_pot" "_law_pot" (defArgs s_pot) (defBody s_pot) (defScope s_pot) .none kV_pot dc_pot pm_pot an_pot cd_pot ct_pot), sl_pot⟩)
    (c_pot : PySem.W.codeIn K cd_pot "_law_pot" = true)
    (k_pot : PySem.W.keepIn K (.ref f_pot) = true)
    (a_take : PySem.W.nsIn K mainGlobals "_law_take" = some (some (.ref f_take)))
    (l_take : K.lookup f_take = some ⟨oc_take, od_take, .func (PySem.W.fnOf "_law_take" "_law_take" (defArgs s_take) (defBody s_take) (defScope s_take) .none kV_take dc_take pm_take an_take cd_take ct_take), sl_take⟩)
    (c_take : PySem.W.codeIn K cd_take "_law_take" = true)
    (k_take : PySem.W.keepIn K (.ref f_take) = true)
    (a_of : PySem.W.nsIn K mainGlobals "_law_of" = some (some (.ref f_of)))
    (l_of : K.lookup f_of = some ⟨oc_of, od_of, .func (PySem.W.fnOf "_law_of" "_law_of" (defArgs s_of) (defBody s_of) (defScope s_of) .none kV_of dc_of pm_of an_of cd_of ct_of), sl_of⟩)
    (c_of : PySem.W.codeIn K cd_of "_law_of" = true)
    (k_of : PySem.W.keepIn K (.ref f_of) = true)
    (a_due : PySem.W.nsIn K mainGlobals "_law_due" = some (some (.ref f_due)))
    (l_due : K.lookup f_due = some ⟨oc_due, od_due, .func (PySem.W.fnOf "_law_due" "_law_due" (defArgs s_due) (defBody s_due) (defScope s_due) .none kV_due dc_due pm_due an_due cd_due ct_due), sl_due⟩)
    (c_due : PySem.W.codeIn K cd_due "_law_due" = true)
    (k_due : PySem.W.keepIn K (.ref f_due) = true)
    (a_signed : PySem.W.nsIn K mainGlobals "_law_signed" = some (some (.ref f_signed)))
    (l_signed : K.lookup f_signed = some ⟨oc_signed, od_signed, .func (PySem.W.fnOf "_law_signed" "_law_signed" (defArgs s_signed) (defBody s_signed) (defScope s_signed) .none kV_signed dc_signed pm_signed an_signed cd_signed ct_signed), sl_signed⟩)
    (c_signed : PySem.W.codeIn K cd_signed "_law_signed" = true)
    (k_signed : PySem.W.keepIn K (.ref f_signed) = true)
    (a_heard : PySem.W.nsIn K mainGlobals "_law_heard" = some (some (.ref f_heard)))
    (l_heard : K.lookup f_heard = some ⟨oc_heard, od_heard, .func (PySem.W.fnOf "_law_heard" "_law_heard" (defArgs s_heard) (defBody s_heard) (defScope s_heard) .none kV_heard dc_heard pm_heard an_heard cd_heard ct_heard), sl_heard⟩)
    (c_heard : PySem.W.codeIn K cd_heard "_law_heard" = true)
    (k_heard : PySem.W.keepIn K (.ref f_heard) = true)
    (a_sign_right : PySem.W.nsIn K mainGlobals "_law_sign_right" = some (some (.ref f_sign_right)))
    (l_sign_right : K.lookup f_sign_right = some ⟨oc_sign_right, od_sign_right, .func (PySem.W.fnOf "_law_sign_right" "_law_sign_right" (defArgs s_sign_right) (defBody s_sign_right) (defScope s_sign_right) .none kV_sign_right dc_sign_right pm_sign_right an_sign_right cd_sign_right ct_sign_right), sl_sign_right⟩)
    (c_sign_right : PySem.W.codeIn K cd_sign_right "_law_sign_right" = true)
    (k_sign_right : PySem.W.keepIn K (.ref f_sign_right) = true)
    (a_compared : PySem.W.nsIn K mainGlobals "_law_compared" = some (some (.ref f_compared)))
    (l_compared : K.lookup f_compared = some ⟨oc_compared, od_compared, .func (PySem.W.fnOf "_law_compared" "_law_compared" (defArgs s_compared) (defBody s_compared) (defScope s_compared) .none kV_compared dc_compared pm_compared an_compared cd_compared ct_compared), sl_compared⟩)
    (c_compared : PySem.W.codeIn K cd_compared "_law_compared" = true)
    (k_compared : PySem.W.keepIn K (.ref f_compared) = true)
    (a_pair_right : PySem.W.nsIn K mainGlobals "_law_pair_right" = some (some (.ref f_pair_right)))
    (l_pair_right : K.lookup f_pair_right = some ⟨oc_pair_right, od_pair_right, .func (PySem.W.fnOf "_law_pair_right" "_law_pair_right" (defArgs s_pair_right) (defBody s_pair_right) (defScope s_pair_right) .none kV_pair_right dc_pair_right pm_pair_right an_pair_right cd_pair_right ct_pair_right), sl_pair_right⟩)
    (c_pair_right : PySem.W.codeIn K cd_pair_right "_law_pair_right" = true)
    (k_pair_right : PySem.W.keepIn K (.ref f_pair_right) = true)
    (a_chain_right : PySem.W.nsIn K mainGlobals "_law_chain_right" = some (some (.ref f_chain_right)))
    (l_chain_right : K.lookup f_chain_right = some ⟨oc_chain_right, od_chain_right, .func (PySem.W.fnOf "_law_chain_right" "_law_chain_right" (defArgs s_chain_right) (defBody s_chain_right) (defScope s_chain_right) .none kV_chain_right dc_chain_right pm_chain_right an_chain_right cd_chain_right ct_chain_right), sl_chain_right⟩)
    (c_chain_right : PySem.W.codeIn K cd_chain_right "_law_chain_right" = true)
    (k_chain_right : PySem.W.keepIn K (.ref f_chain_right) = true)
    (a_right : PySem.W.nsIn K mainGlobals "_law_right" = some (some (.ref f_right)))
    (l_right : K.lookup f_right = some ⟨oc_right, od_right, .func (PySem.W.fnOf "_law_right" "_law_right" (defArgs s_right) (defBody s_right) (defScope s_right) .none kV_right dc_right pm_right an_right cd_right ct_right), sl_right⟩)
    (c_right : PySem.W.codeIn K cd_right "_law_right" = true)
    (k_right : PySem.W.keepIn K (.ref f_right) = true)
    (a_law : PySem.W.nsIn K mainGlobals "law" = some (some (.ref f_law)))
    (l_law : K.lookup f_law = some ⟨oc_law, od_law, .func (PySem.W.fnOf "law" "law" (defArgs s_law) (defBody s_law) (defScope s_law) .none kV_law dc_law pm_law an_law cd_law ct_law), sl_law⟩)
    (c_law : PySem.W.codeIn K cd_law "law" = true)
    (k_law : PySem.W.keepIn K (.ref f_law) = true)
    (z_isinstance : PySem.W.nsIn K mainGlobals "isinstance" = some none)
    (z_int : PySem.W.nsIn K mainGlobals "int" = some none)
    (z_bool : PySem.W.nsIn K mainGlobals "bool" = some none)
    (z_len : PySem.W.nsIn K mainGlobals "len" = some none)
    (z_abs : PySem.W.nsIn K mainGlobals "abs" = some none)
    (z_repr : PySem.W.nsIn K mainGlobals "repr" = some none)
    (z_all : PySem.W.nsIn K mainGlobals "all" = some none)
    (z_range : PySem.W.nsIn K mainGlobals "range" = some none)
    (x_pg : PySem.W.plainGet K C_Number Str.empty = true)
    (x_hd : PySem.W.hasDictIn K C_Number = true)
    (x_po : PySem.W.plainOver K C_Number = true)
    (x_sa : PySem.W.findIn K (.ref C_Number) "__setattr__" = some (some (.builtin "object.__setattr__")))
    (x_mk : PySem.W.makesIn K C_Number = true)
    (x_kc : PySem.W.keepIn K (.ref C_Number) = true)
    (x_nS : PySem.W.findIn K (.ref C_Number) "_size" = some none)
    (x_nW : PySem.W.findIn K (.ref C_Number) "_worth" = some none)
    (x_sf : PySem.W.selfFirst K C_Number = true)
    (x_n1 : PySem.W.subIn K (.type "int") (.ref C_Number) = some false)
    (x_n2 : PySem.W.subIn K (.ref C_Number) (.type "int") = some false)
    (x_nc : PySem.W.notFirst K C_Number (.ref C_Number) = true)
    (x_ni : PySem.W.notFirst K C_Number (.type "int") = true)
    (x_kcl : PySem.W.findIn K (.ref C_Number) "__class__" = some (some (.builtin "object.__class__")))
    (x_kgs : PySem.W.specialIn K (.builtin "object.__class__") "__get__" = some (some (.builtin "getset_descriptor.__get__")))
    (x_ktk : PySem.W.takesIn K (.builtin "object.__class__") = some true)
    (x_kob : PySem.W.mroIn K C_Number (.type "object") = some true)
    (x_nic : PySem.W.isClsIn K C_Number = true)
    (x_nty : PySem.W.typeIn K (.ref C_Number) = some (.type "type"))
    (x_nnt : PySem.W.subIn K (.type "NoneType") (.ref C_Number) = some false)
    (x_nbo : PySem.W.subIn K (.ref C_Number) (.type "bool") = some false)
    (x_fl : K.lookup C_Fault = some (excClassObj xnm xq C_Fault xN xbs xbm true xsn xsub xab xcol xdd xk0 xk1 xk2 xk3 xk5 "ValueError.__new__"))
    (x_fr : PySem.HandSPX.refsVE xbm = true)
    (x_fs : PySem.W.findIn K (.ref C_Fault) "__setattr__" = some (some (.builtin "object.__setattr__")))
    (x_fe : PySem.W.subIn K (.ref C_Fault) (.type "BaseException") = some true)
    (x_ft : PySem.W.typeIn K (.ref C_Fault) = some (.type "type"))
    (x_fk : PySem.W.keepIn K (.ref C_Fault) = true)
    (x_fg : PySem.W.findIn K (.ref C_Fault) "__getattribute__" = some (some (.builtin "BaseException.__getattribute__")))
    (x_fh : PySem.W.findIn K (.ref C_Fault) "__getattr__" = some none)
    (x_fd : PySem.W.hasDictIn K C_Fault = true)
    (x_fno : PySem.W.findIn K (.ref C_Fault) "words" = some none)
    (x_ffn : PySem.W.typeIn K (.ref f_Fault_init) = some (.type "function"))
    (x_fic : PySem.W.isClsIn K C_Fault = true)
    (x_fsu : PySem.W.subIn K (.ref C_Fault) (.ref C_Fault) = some true) :
    ∃ fd : FuncData, (∀ (s : Shared) (v : Value), BindsTo s fd ⟨[v], []⟩ [("_law_script", v)]) ∧ ∀ base : Heap, K.In base → base.Ns mainGlobals mg → FnG l.prog w K mg base CX0 12 fa fd ["_law_script"] (spLaw K) := by
  have e := hfa.symm.trans (PySem.W.mg_of X G a_law)
  cases e
  have T : Txt K mg { C_Fault := C_Fault, C_Number := C_Number, f_Fault_init := f_Fault_init, f_is_whole := f_is_whole, f_is_size := f_is_size, f_Number_init := f_Number_init, f_Number_size := f_Number_size, f_Number_worth := f_Number_worth, f_Number_add := f_Number_add, f_Number_radd := f_Number_radd, f_Number_sub := f_Number_sub, f_Number_rsub := f_Number_rsub, f_Number_mul := f_Number_mul, f_Number_rmul := f_Number_rmul, f_Number_floordiv := f_Number_floordiv, f_Number_rfloordiv := f_Number_rfloordiv, f_Number_neg := f_Number_neg, f_Number_eq := f_Number_eq, f_Number_ne := f_Number_ne, f_Number_lt := f_Number_lt, f_Number_le := f_Number_le, f_Number_gt := f_Number_gt, f_Number_ge := f_Number_ge, f_worth_of := f_worth_of, f_is_side := f_is_side, f_gone_round := f_gone_round, f_quotient := f_quotient, f_pot := f_pot, f_take := f_take, f_of := f_of, f_due := f_due, f_signed := f_signed, f_heard := f_heard, f_sign_right := f_sign_right, f_compared := f_compared, f_pair_right := f_pair_right, f_chain_right := f_chain_right, f_right := f_right, f_law := fa, p_size := p_size, p_worth := p_worth, d_Fault_init := PySem.W.fnOf "__init__" "Fault.__init__" (defArgs s_Fault_init) (defBody s_Fault_init) (defScope s_Fault_init) .none kV_Fault_init dc_Fault_init pm_Fault_init an_Fault_init cd_Fault_init ct_Fault_init, d_is_whole := PySem.W.fnOf "is_whole" "is_whole" (defArgs s_is_whole) (defBody s_is_whole) (defScope s_is_whole) .none kV_is_whole dc_is_whole pm_is_whole an_is_whole cd_is_whole ct_is_whole, d_is_size := PySem.W.fnOf "is_size" "is_size" (defArgs s_is_size) (defBody s_is_size) (defScope s_is_size) .none kV_is_size dc_is_size pm_is_size an_is_size cd_is_size ct_is_size, d_Number_init := PySem.W.fnOf "__init__" "Number.__init__" (defArgs s_Number_init) (defBody s_Number_init) (defScope s_Number_init) .none kV_Number_init dc_Number_init pm_Number_init an_Number_init cd_Number_init ct_Number_init, d_Number_size := PySem.W.fnOf "size" "Number.size" (defArgs s_Number_size) (defBody s_Number_size) (defScope s_Number_size) .none kV_Number_size dc_Number_size pm_Number_size an_Number_size cd_Number_size ct_Number_size, d_Number_worth := PySem.W.fnOf "worth" "Number.worth" (defArgs s_Number_worth) (defBody s_Number_worth) (defScope s_Number_worth) .none kV_Number_worth dc_Number_worth pm_Number_worth an_Number_worth cd_Number_worth ct_Number_worth, d_Number_add := PySem.W.fnOf "__add__" "Number.__add__" (defArgs s_Number_add) (defBody s_Number_add) (defScope s_Number_add) .none kV_Number_add dc_Number_add pm_Number_add an_Number_add cd_Number_add ct_Number_add, d_Number_radd := PySem.W.fnOf "__radd__" "Number.__radd__" (defArgs s_Number_radd) (defBody s_Number_radd) (defScope s_Number_radd) .none kV_Number_radd dc_Number_radd pm_Number_radd an_Number_radd cd_Number_radd ct_Number_radd, d_Number_sub := PySem.W.fnOf "__sub__" "Number.__sub__" (defArgs s_Number_sub) (defBody s_Number_sub) (defScope s_Number_sub) .none kV_Number_sub dc_Number_sub pm_Number_sub an_Number_sub cd_Number_sub ct_Number_sub, d_Number_rsub := PySem.W.fnOf "__rsub__" "Number.__rsub__" (defArgs s_Number_rsub) (defBody s_Number_rsub) (defScope s_Number_rsub) .none kV_Number_rsub dc_Number_rsub pm_Number_rsub an_Number_rsub cd_Number_rsub ct_Number_rsub, d_Number_mul := PySem.W.fnOf "__mul__" "Number.__mul__" (defArgs s_Number_mul) (defBody s_Number_mul) (defScope s_Number_mul) .none kV_Number_mul dc_Number_mul pm_Number_mul an_Number_mul cd_Number_mul ct_Number_mul, d_Number_rmul := PySem.W.fnOf "__rmul__" "Number.__rmul__" (defArgs s_Number_rmul) (defBody s_Number_rmul) (defScope s_Number_rmul) .none kV_Number_rmul dc_Number_rmul pm_Number_rmul an_Number_rmul cd_Number_rmul ct_Number_rmul, d_Number_floordiv := PySem.W.fnOf "__floordiv__" "Number.__floordiv__" (defArgs s_Number_floordiv) (defBody s_Number_floordiv) (defScope s_Number_floordiv) .none kV_Number_floordiv dc_Number_floordiv pm_Number_floordiv an_Number_floordiv cd_Number_floordiv ct_Number_floordiv, d_Number_rfloordiv := PySem.W.fnOf "__rfloordiv__" "Number.__rfloordiv__" (defArgs s_Number_rfloordiv) (defBody s_Number_rfloordiv) (defScope s_Number_rfloordiv) .none kV_Number_rfloordiv dc_Number_rfloordiv pm_Number_rfloordiv an_Number_rfloordiv cd_Number_rfloordiv ct_Number_rfloordiv, d_Number_neg := PySem.W.fnOf "__neg__" "Number.__neg__" (defArgs s_Number_neg) (defBody s_Number_neg) (defScope s_Number_neg) .none kV_Number_neg dc_Number_neg pm_Number_neg an_Number_neg cd_Number_neg ct_Number_neg, d_Number_eq := PySem.W.fnOf "__eq__" "Number.__eq__" (defArgs s_Number_eq) (defBody s_Number_eq) (defScope s_Number_eq) .none kV_Number_eq dc_Number_eq pm_Number_eq an_Number_eq cd_Number_eq ct_Number_eq, d_Number_ne := PySem.W.fnOf "__ne__" "Number.__ne__" (defArgs s_Number_ne) (defBody s_Number_ne) (defScope s_Number_ne) .none kV_Number_ne dc_Number_ne pm_Number_ne an_Number_ne cd_Number_ne ct_Number_ne, d_Number_lt := PySem.W.fnOf "__lt__" "Number.__lt__" (defArgs s_Number_lt) (defBody s_Number_lt) (defScope s_Number_lt) .none kV_Number_lt dc_Number_lt pm_Number_lt an_Number_lt cd_Number_lt ct_Number_lt, d_Number_le := PySem.W.fnOf "__le__" "Number.__le__" (defArgs s_Number_le) (defBody s_Number_le) (defScope s_Number_le) .none kV_Number_le dc_Number_le pm_Number_le an_Number_le cd_Number_le ct_Number_le, d_Number_gt := PySem.W.fnOf "__gt__" "Number.__gt__" (defArgs s_Number_gt) (defBody s_Number_gt) (defScope s_Number_gt) .none kV_Number_gt dc_Number_gt pm_Number_gt an_Number_gt cd_Number_gt ct_Number_gt, d_Number_ge := PySem.W.fnOf "__ge__" "Number.__ge__" (defArgs s_Number_ge) (defBody s_Number_ge) (defScope s_Number_ge) .none kV_Number_ge dc_Number_ge pm_Number_ge an_Number_ge cd_Number_ge ct_Number_ge, d_worth_of := PySem.W.fnOf "worth_of" "worth_of" (defArgs s_worth_of) (defBody s_worth_of) (defScope s_worth_of) .none kV_worth_of dc_worth_of pm_worth_of an_worth_of cd_worth_of ct_worth_of, d_is_side := PySem.W.fnOf "_is_side" "_is_side" (defArgs s_is_side) (defBody s_is_side) (defScope s_is_side) .none kV_is_side dc_is_side pm_is_side an_is_side cd_is_side ct_is_side, d_gone_round := PySem.W.fnOf "_gone_round" "_gone_round" (defArgs s_gone_round) (defBody s_gone_round) (defScope s_gone_round) .none kV_gone_round dc_gone_round pm_gone_round an_gone_round cd_gone_round ct_gone_round, d_quotient := PySem.W.fnOf "_quotient" "_quotient" (defArgs s_quotient) (defBody s_quotient) (defScope s_quotient) .none kV_quotient dc_quotient pm_quotient an_quotient cd_quotient ct_quotient, d_pot := PySem.W.fnOf "_law_pot" "_law_pot" (defArgs s_pot) (defBody s_pot) (defScope s_pot) .none kV_pot dc_pot pm_pot an_pot cd_pot ct_pot, d_take := PySem.W.fnOf "_law_take" "_law_take" (defArgs s_take) (defBody s_take) (defScope s_take) .none kV_take dc_take pm_take an_take cd_take ct_take, d_of := PySem.W.fnOf "_law_of" "_law_of" (defArgs s_of) (defBody s_of) (defScope s_of) .none kV_of dc_of pm_of an_of cd_of ct_of, d_due := PySem.W.fnOf "_law_due" "_law_due" (defArgs s_due) (defBody s_due) (defScope s_due) .none kV_due dc_due pm_due an_due cd_due ct_due, d_signed := PySem.W.fnOf "_law_signed" "_law_signed" (defArgs s_signed) (defBody s_signed) (defScope s_signed) .none kV_signed dc_signed pm_signed an_signed cd_signed ct_signed, d_heard := PySem.W.fnOf "_law_heard" "_law_heard" (defArgs s_heard) (defBody s_heard) (defScope s_heard) .none kV_heard dc_heard pm_heard an_heard cd_heard ct_heard, d_sign_right := PySem.W.fnOf "_law_sign_right" "_law_sign_right" (defArgs s_sign_right) (defBody s_sign_right) (defScope s_sign_right) .none kV_sign_right dc_sign_right pm_sign_right an_sign_right cd_sign_right ct_sign_right, d_compared := PySem.W.fnOf "_law_compared" "_law_compared" (defArgs s_compared) (defBody s_compared) (defScope s_compared) .none kV_compared dc_compared pm_compared an_compared cd_compared ct_compared, d_pair_right := PySem.W.fnOf "_law_pair_right" "_law_pair_right" (defArgs s_pair_right) (defBody s_pair_right) (defScope s_pair_right) .none kV_pair_right dc_pair_right pm_pair_right an_pair_right cd_pair_right ct_pair_right, d_chain_right := PySem.W.fnOf "_law_chain_right" "_law_chain_right" (defArgs s_chain_right) (defBody s_chain_right) (defScope s_chain_right) .none kV_chain_right dc_chain_right pm_chain_right an_chain_right cd_chain_right ct_chain_right, d_right := PySem.W.fnOf "_law_right" "_law_right" (defArgs s_right) (defBody s_right) (defScope s_right) .none kV_right dc_right pm_right an_right cd_right ct_right, d_law := PySem.W.fnOf "law" "law" (defArgs s_law) (defBody s_law) (defScope s_law) .none kV_law dc_law pm_law an_law cd_law ct_law : Ad } := {
    F_Fault_init := fun_mk (st := s_Fault_init) l_Fault_init c_Fault_init k_Fault_init
    b_Fault_init := (fun_mk (st := s_Fault_init) l_Fault_init c_Fault_init k_Fault_init).binds (ps := ["self", "words"]) fun _ _ _ _ _ _ us hl => match us, hl with | [_, _], _ => rfl
    F_is_whole := fun_mk (st := s_is_whole) l_is_whole c_is_whole k_is_whole
    b_is_whole := (fun_mk (st := s_is_whole) l_is_whole c_is_whole k_is_whole).binds (ps := ["value", "low", "below"]) fun _ _ _ _ _ _ us hl => match us, hl with | [_, _, _], _ => rfl
    m_is_whole := PySem.W.mg_of X G a_is_whole
    F_is_size := fun_mk (st := s_is_size) l_is_size c_is_size k_is_size
    b_is_size := (fun_mk (st := s_is_size) l_is_size c_is_size k_is_size).binds (ps := ["value"]) fun _ _ _ _ _ _ us hl => match us, hl with | [_], _ => rfl
    m_is_size := PySem.W.mg_of X G a_is_size
    F_Number_init := fun_mk (st := s_Number_init) l_Number_init c_Number_init k_Number_init
    b_Number_init := (fun_mk (st := s_Number_init) l_Number_init c_Number_init k_Number_init).binds (ps := ["self", "size", "worth"]) fun _ _ _ _ _ _ us hl => match us, hl with | [_, _, _], _ => rfl
    F_Number_size := fun_mk (st := s_Number_size) l_Number_size c_Number_size k_Number_size
    b_Number_size := (fun_mk (st := s_Number_size) l_Number_size c_Number_size k_Number_size).binds (ps := ["self"]) fun _ _ _ _ _ _ us hl => match us, hl with | [_], _ => rfl
    F_Number_worth := fun_mk (st := s_Number_worth) l_Number_worth c_Number_worth k_Number_worth
    b_Number_worth := (fun_mk (st := s_Number_worth) l_Number_worth c_Number_worth k_Number_worth).binds (ps := ["self"]) fun _ _ _ _ _ _ us hl => match us, hl with | [_], _ => rfl
    F_Number_add := fun_mk (st := s_Number_add) l_Number_add c_Number_add k_Number_add
    b_Number_add := (fun_mk (st := s_Number_add) l_Number_add c_Number_add k_Number_add).binds (ps := ["self", "other"]) fun _ _ _ _ _ _ us hl => match us, hl with | [_, _], _ => rfl
    F_Number_radd := fun_mk (st := s_Number_radd) l_Number_radd c_Number_radd k_Number_radd
    b_Number_radd := (fun_mk (st := s_Number_radd) l_Number_radd c_Number_radd k_Number_radd).binds (ps := ["self", "other"]) fun _ _ _ _ _ _ us hl => match us, hl with | [_, _], _ => rfl
    F_Number_sub := fun_mk (st := s_Number_sub) l_Number_sub c_Number_sub k_Number_sub
    b_Number_sub := (fun_mk (st := s_Number_sub) l_Number_sub c_Number_sub k_Number_sub).binds (ps := ["self", "other"]) fun _ _ _ _ _ _ us hl => match us, hl with | [_, _], _ => rfl
    F_Number_rsub := fun_mk (st := s_Number_rsub) l_Number_rsub c_Number_rsub k_Number_rsub
    b_Number_rsub := (fun_mk (st := s_Number_rsub) l_Number_rsub c_Number_rsub k_Number_rsub).binds (ps := ["self", "other"]) fun _ _ _ _ _ _ us hl => match us, hl with | [_, _], _ => rfl
    F_Number_mul := fun_mk (st := s_Number_mul) l_Number_mul c_Number_mul k_Number_mul
    b_Number_mul := (fun_mk (st := s_Number_mul) l_Number_mul c_Number_mul k_Number_mul).binds (ps := ["self", "other"]) fun _ _ _ _ _ _ us hl => match us, hl with | [_, _], _ => rfl
    F_Number_rmul := fun_mk (st := s_Number_rmul) l_Number_rmul c_Number_rmul k_Number_rmul
    b_Number_rmul := (fun_mk (st := s_Number_rmul) l_Number_rmul c_Number_rmul k_Number_rmul).binds (ps := ["self", "other"]) fun _ _ _ _ _ _ us hl => match us, hl with | [_, _], _ => rfl
    F_Number_floordiv := fun_mk (st := s_Number_floordiv) l_Number_floordiv c_Number_floordiv k_Number_floordiv
    b_Number_floordiv := (fun_mk (st := s_Number_floordiv) l_Number_floordiv c_Number_floordiv k_Number_floordiv).binds (ps := ["self", "other"]) fun _ _ _ _ _ _ us hl => match us, hl with | [_, _], _ => rfl
    F_Number_rfloordiv := fun_mk (st := s_Number_rfloordiv) l_Number_rfloordiv c_Number_rfloordiv k_Number_rfloordiv
    b_Number_rfloordiv := (fun_mk (st := s_Number_rfloordiv) l_Number_rfloordiv c_Number_rfloordiv k_Number_rfloordiv).binds (ps := ["self", "other"]) fun _ _ _ _ _ _ us hl => match us, hl with | [_, _], _ => rfl
    F_Number_neg := fun_mk (st := s_Number_neg) l_Number_neg c_Number_neg k_Number_neg
    b_Number_neg := (fun_mk (st := s_Number_neg) l_Number_neg c_Number_neg k_Number_neg).binds (ps := ["self"]) fun _ _ _ _ _ _ us hl => match us, hl with | [_], _ => rfl
    F_Number_eq := fun_mk (st := s_Number_eq) l_Number_eq c_Number_eq k_Number_eq
    b_Number_eq := (fun_mk (st := s_Number_eq) l_Number_eq c_Number_eq k_Number_eq).binds (ps := ["self", "other"]) fun _ _ _ _ _ _ us hl => match us, hl with | [_, _], _ => rfl
    F_Number_ne := fun_mk (st := s_Number_ne) l_Number_ne c_Number_ne k_Number_ne
    b_Number_ne := (fun_mk (st := s_Number_ne) l_Number_ne c_Number_ne k_Number_ne).binds (ps := ["self", "other"]) fun _ _ _ _ _ _ us hl => match us, hl with | [_, _], _ => rfl
    F_Number_lt := fun_mk (st := s_Number_lt) l_Number_lt c_Number_lt k_Number_lt
    b_Number_lt := (fun_mk (st := s_Number_lt) l_Number_lt c_Number_lt k_Number_lt).binds (ps := ["self", "other"]) fun _ _ _ _ _ _ us hl => match us, hl with | [_, _], _ => rfl
    F_Number_le := fun_mk (st := s_Number_le) l_Number_le c_Number_le k_Number_le
    b_Number_le := (fun_mk (st := s_Number_le) l_Number_le c_Number_le k_Number_le).binds (ps := ["self", "other"]) fun _ _ _ _ _ _ us hl => match us, hl with | [_, _], _ => rfl
    F_Number_gt := fun_mk (st := s_Number_gt) l_Number_gt c_Number_gt k_Number_gt
    b_Number_gt := (fun_mk (st := s_Number_gt) l_Number_gt c_Number_gt k_Number_gt).binds (ps := ["self", "other"]) fun _ _ _ _ _ _ us hl => match us, hl with | [_, _], _ => rfl
    F_Number_ge := fun_mk (st := s_Number_ge) l_Number_ge c_Number_ge k_Number_ge
    b_Number_ge := (fun_mk (st := s_Number_ge) l_Number_ge c_Number_ge k_Number_ge).binds (ps := ["self", "other"]) fun _ _ _ _ _ _ us hl => match us, hl with | [_, _], _ => rfl
    F_worth_of := fun_mk (st := s_worth_of) l_worth_of c_worth_of k_worth_of
    b_worth_of := (fun_mk (st := s_worth_of) l_worth_of c_worth_of k_worth_of).binds (ps := ["number"]) fun _ _ _ _ _ _ us hl => match us, hl with | [_], _ => rfl
    m_worth_of := PySem.W.mg_of X G a_worth_of
    F_is_side := fun_mk (st := s_is_side) l_is_side c_is_side k_is_side
    b_is_side := (fun_mk (st := s_is_side) l_is_side c_is_side k_is_side).binds (ps := ["value"]) fun _ _ _ _ _ _ us hl => match us, hl with | [_], _ => rfl
    m_is_side := PySem.W.mg_of X G a_is_side
    F_gone_round := fun_mk (st := s_gone_round) l_gone_round c_gone_round k_gone_round
    b_gone_round := (fun_mk (st := s_gone_round) l_gone_round c_gone_round k_gone_round).binds (ps := ["size", "plain"]) fun _ _ _ _ _ _ us hl => match us, hl with | [_, _], _ => rfl
    m_gone_round := PySem.W.mg_of X G a_gone_round
    F_quotient := fun_mk (st := s_quotient) l_quotient c_quotient k_quotient
    b_quotient := (fun_mk (st := s_quotient) l_quotient c_quotient k_quotient).binds (ps := ["size", "worth", "by"]) fun _ _ _ _ _ _ us hl => match us, hl with | [_, _, _], _ => rfl
    m_quotient := PySem.W.mg_of X G a_quotient
    F_pot := fun_mk (st := s_pot) l_pot c_pot k_pot
    b_pot := (fun_mk (st := s_pot) l_pot c_pot k_pot).binds (ps := ["_law_script", "_law_k"]) fun _ _ _ _ _ _ us hl => match us, hl with | [_, _], _ => rfl
    m_pot := PySem.W.mg_of X G a_pot
    F_take := fun_mk (st := s_take) l_take c_take k_take
    b_take := (fun_mk (st := s_take) l_take c_take k_take).binds (ps := ["_law_pot_here", "_law_upto"]) fun _ _ _ _ _ _ us hl => match us, hl with | [_, _], _ => rfl
    m_take := PySem.W.mg_of X G a_take
    F_of := fun_mk (st := s_of) l_of c_of k_of
    b_of := (fun_mk (st := s_of) l_of c_of k_of).binds (ps := ["_law_pot_here", "_law_some"]) fun _ _ _ _ _ _ us hl => match us, hl with | [_, _], _ => rfl
    m_of := PySem.W.mg_of X G a_of
    F_due := fun_mk (st := s_due) l_due c_due k_due
    b_due := (fun_mk (st := s_due) l_due c_due k_due).binds (ps := ["_law_sign", "_law_size", "_law_a", "_law_b"]) fun _ _ _ _ _ _ us hl => match us, hl with | [_, _, _, _], _ => rfl
    m_due := PySem.W.mg_of X G a_due
    F_signed := fun_mk (st := s_signed) l_signed c_signed k_signed
    b_signed := (fun_mk (st := s_signed) l_signed c_signed k_signed).binds (ps := ["_law_sign", "_law_one", "_law_other"]) fun _ _ _ _ _ _ us hl => match us, hl with | [_, _, _], _ => rfl
    m_signed := PySem.W.mg_of X G a_signed
    F_heard := fun_mk (st := s_heard) l_heard c_heard k_heard
    b_heard := (fun_mk (st := s_heard) l_heard c_heard k_heard).binds (ps := ["_law_sign", "_law_one", "_law_other"]) fun _ _ _ _ _ _ us hl => match us, hl with | [_, _, _], _ => rfl
    m_heard := PySem.W.mg_of X G a_heard
    F_sign_right := fun_mk (st := s_sign_right) l_sign_right c_sign_right k_sign_right
    b_sign_right := (fun_mk (st := s_sign_right) l_sign_right c_sign_right k_sign_right).binds (ps := ["_law_sign", "_law_size", "_law_a", "_law_b", "_law_pair"]) fun _ _ _ _ _ _ us hl => match us, hl with | [_, _, _, _, _], _ => rfl
    m_sign_right := PySem.W.mg_of X G a_sign_right
    F_compared := fun_mk (st := s_compared) l_compared c_compared k_compared
    b_compared := (fun_mk (st := s_compared) l_compared c_compared k_compared).binds (ps := ["_law_one", "_law_other"]) fun _ _ _ _ _ _ us hl => match us, hl with | [_, _], _ => rfl
    m_compared := PySem.W.mg_of X G a_compared
    F_pair_right := fun_mk (st := s_pair_right) l_pair_right c_pair_right k_pair_right
    b_pair_right := (fun_mk (st := s_pair_right) l_pair_right c_pair_right k_pair_right).binds (ps := ["_law_size", "_law_a", "_law_b"]) fun _ _ _ _ _ _ us hl => match us, hl with | [_, _, _], _ => rfl
    m_pair_right := PySem.W.mg_of X G a_pair_right
    F_chain_right := fun_mk (st := s_chain_right) l_chain_right c_chain_right k_chain_right
    b_chain_right := (fun_mk (st := s_chain_right) l_chain_right c_chain_right k_chain_right).binds (ps := ["_law_pot_here", "_law_size"]) fun _ _ _ _ _ _ us hl => match us, hl with | [_, _], _ => rfl
    m_chain_right := PySem.W.mg_of X G a_chain_right
    F_right := fun_mk (st := s_right) l_right c_right k_right
    b_right := (fun_mk (st := s_right) l_right c_right k_right).binds (ps := ["_law_pot_here"]) fun _ _ _ _ _ _ us hl => match us, hl with | [_], _ => rfl
    m_right := PySem.W.mg_of X G a_right
    F_law := fun_mk (st := s_law) l_law c_law k_law
    b_law := (fun_mk (st := s_law) l_law c_law k_law).binds (ps := ["_law_script"]) fun _ _ _ _ _ _ us hl => match us, hl with | [_], _ => rfl
    m_law := PySem.W.mg_of X G a_law
    m_Fault := PySem.W.mg_of X G a_Fault
    m_Number := PySem.W.mg_of X G a_Number
    g_isinstance := PySem.W.mg_none_of X G z_isinstance
    g_int := PySem.W.mg_none_of X G z_int
    g_bool := PySem.W.mg_none_of X G z_bool
    g_len := PySem.W.mg_none_of X G z_len
    g_abs := PySem.W.mg_none_of X G z_abs
    g_repr := PySem.W.mg_none_of X G z_repr
    g_all := PySem.W.mg_none_of X G z_all
    g_range := PySem.W.mg_none_of X G z_range
    P_size := ⟨a_Number_size, g_Number_size, t_Number_size, ⟨_, r_Number_size⟩⟩
    P_worth := ⟨a_Number_worth, g_Number_worth, t_Number_worth, ⟨_, r_Number_worth⟩⟩
    cls_Number := ⟨x_pg, x_hd, x_po, x_sa⟩
    mk_Number := ⟨x_mk, a_Number_init, i_Number_init, x_kc⟩
    nS := x_nS
    nW := x_nW
    ar_add := ⟨x_sf, a_Number_add, i_Number_add, a_Number_radd, i_Number_radd, x_n1, x_n2⟩
    ar_sub := ⟨x_sf, a_Number_sub, i_Number_sub, a_Number_rsub, i_Number_rsub, x_n1, x_n2⟩
    ar_mul := ⟨x_sf, a_Number_mul, i_Number_mul, a_Number_rmul, i_Number_rmul, x_n1, x_n2⟩
    ar_floordiv := ⟨x_sf, a_Number_floordiv, i_Number_floordiv, a_Number_rfloordiv, i_Number_rfloordiv, x_n1, x_n2⟩
    cm_eq := ⟨a_Number_eq, i_Number_eq, a_Number_eq, i_Number_eq, x_nc, x_ni, x_n2⟩
    cm_ne := ⟨a_Number_ne, i_Number_ne, a_Number_ne, i_Number_ne, x_nc, x_ni, x_n2⟩
    cm_lt := ⟨a_Number_lt, i_Number_lt, a_Number_gt, i_Number_gt, x_nc, x_ni, x_n2⟩
    cm_le := ⟨a_Number_le, i_Number_le, a_Number_ge, i_Number_ge, x_nc, x_ni, x_n2⟩
    cm_gt := ⟨a_Number_gt, i_Number_gt, a_Number_lt, i_Number_lt, x_nc, x_ni, x_n2⟩
    cm_ge := ⟨a_Number_ge, i_Number_ge, a_Number_le, i_Number_le, x_nc, x_ni, x_n2⟩
    h_neg := a_Number_neg
    i_neg := i_Number_neg
    kcl := x_kcl
    kgs := x_kgs
    ktk := x_ktk
    kob := x_kob
    nn := kit_self
    ni := kit_no rfl x_nic x_nty x_n1
    nnt := kit_no rfl x_nic x_nty x_nnt
    nb := kit_noT (by decide) x_nbo
    nint := kit_noT (by decide) x_n2
    oex := ⟨⟨_, _, _, _, _, _, _, _, _, _, _, _, _, _, _, x_fl, x_fr⟩, x_fs, x_fe, x_ft, x_fk⟩
    xf := ⟨x_fg, x_fh, x_fe, x_fd⟩
    xno := x_fno
    xin := a_Fault_init
    xfn := x_ffn
    xme := exm_self x_fe x_fic x_ft x_fsu }
  exact ⟨PySem.W.fnOf "law" "law" (defArgs s_law) (defBody s_law) (defScope s_law) .none kV_law dc_law pm_law an_law cd_law ct_law, fun s v => .of_eq rfl, fun base _ _ => ok_law T⟩
theorem walk {l : PySem.W.OpenLaw} {q : Program} {loose : List Str} {XP : (Str → Option Value) → Heap → Prop} {YP : World → Heap → Prop} {d : DefRec} {K : Params → Frag} (hn : l.most = some 63) (hdf : d.params.defaults = [])
    (hY : ∀ (v : World) (h : Heap), YP v h → (K v.params).In h)
    (F : ∀ (w : World) (m : Str → Option Value) (fa : Addr) (h : Heap), (K w.params).In h → h.Ns mainGlobals m → m d.name = some (.ref fa) →
      ∃ fd : FuncData, (∀ (s : Shared) (u : Value), BindsTo s fd ⟨[u], []⟩ [("_law_script", u)]) ∧ ∀ base : Heap, (K w.params).In base → base.Ns mainGlobals m → FnG l.prog w (K w.params) m base CX0 12 fa fd ["_law_script"] (spLaw (K w.params))) : PySem.W.WalkO q loose XP YP l.row.toRowW d [] (fun f vs => PySem.call f vs) :=
  walk_G (n := 63) (k := 12) (x := "_law_script") (CX := fun _ => CX0) (sp := fun w => spLaw (K w.params)) hn (by decide) hdf ⟨rfl, by decide, by decide⟩ hY F (fun _ _ a ns hl hS _ => ⟨a, ns, rfl, hS, hl, fun _ => rfl⟩) fun _ _ _ _ _ z => z
end K00
open PySem PySem.W PyProof.Rows
set_option maxRecDepth 100000 in
set_option maxHeartbeats 0 in
theorem PySem.Challenge.cw_tapedonce_k00_signs_and_comparisons_of_n_holds : PySem.Challenge.rw_tapedonce_k00_signs_and_comparisons_of_n.Holds := by
  w_on; o_law; k_head; (case hw => w_witness2)
  k_fill
  refine K00.walk (l := PySem.Challenge.rw_tapedonce_k00_signs_and_comparisons_of_n) rfl rfl (fun w h Y => PySem.W.kIn_of Y) ?F
  case F =>
    intro w mg fa h KX G hmg
    refine' K00.all_mk KX G hmg ?a_Fault ?a_Number ?a_Fault_init ?i_Fault_init ?l_Fault_init ?c_Fault_init ?k_Fault_init ?a_is_whole ?l_is_whole ?c_is_whole ?k_is_whole ?a_is_size ?l_is_size ?c_is_size ?k_is_size ?a_Number_init ?i_Number_init ?l_Number_init ?c_Number_init ?k_Number_init ?a_Number_size ?g_Number_size ?t_Number_size ?r_Number_size ?l_Number_size ?c_Number_size ?k_Number_size ?a_Number_worth ?g_Number_worth ?t_Number_worth ?r_Number_worth ?l_Number_worth ?c_Number_worth ?k_Number_worth ?a_Number_add ?i_Number_add ?l_Number_add ?c_Number_add ?k_Number_add ?a_Number_radd ?i_Number_radd ?l_Number_radd ?c_Number_radd ?k_Number_radd ?a_Number_sub ?i_Number_sub ?l_Number_sub ?c_Number_sub ?k_Number_sub ?a_Number_rsub ?i_Number_rsub ?l_Number_rsub ?c_Number_rsub ?k_Number_rsub ?a_Number_mul ?i_Number_mul ?l_Number_mul ?c_Number_mul ?k_Number_mul ?a_Number_rmul ?i_Number_rmul ?l_Number_rmul ?c_Number_rmul ?k_Number_rmul ?a_Number_floordiv ?i_Number_floordiv ?l_Number_floordiv ?c_Number_floordiv ?k_Number_floordiv ?a_Number_rfloordiv ?i_Number_rfloordiv ?l_Number_rfloordiv ?c_Number_rfloordiv ?k_Number_rfloordiv ?a_Number_neg ?i_Number_neg ?l_Number_neg ?c_Number_neg ?k_Number_neg ?a_Number_eq ?i_Number_eq ?l_Number_eq ?c_Number_eq ?k_Number_eq ?a_Number_ne ?i_Number_ne ?l_Number_ne ?c_Number_ne ?k_Number_ne ?a_Number_lt ?i_Number_lt ?l_Number_lt ?c_Number_lt ?k_Number_lt ?a_Number_le ?i_Number_le ?l_Number_le ?c_Number_le ?k_Number_le ?a_Number_gt ?i_Number_gt ?l_Number_gt ?c_Number_gt ?k_Number_gt ?a_Number_ge ?i_Number_ge ?l_Number_ge ?c_Number_ge ?k_Number_ge ?a_worth_of ?l_worth_of ?c_worth_of ?k_worth_of ?a_is_side ?l_is_side ?c_is_side ?k_is_side ?a_gone_round ?l_gone_round ?c_gone_round ?k_gone_round ?a_quotient ?l_quotient ?c_quotient ?k_quotient ?a_pot ?l_pot ?c_pot ?k_pot ?a_take ?l_take ?c_take ?k_take ?a_of ?l_of ?c_of ?k_of ?a_due ?l_due ?c_due ?k_due ?a_signed ?l_signed ?c_signed ?k_signed ?a_heard ?l_heard ?c_heard ?k_heard ?a_sign_right ?l_sign_right ?c_sign_right ?k_sign_right ?a_compared ?l_compared ?c_compared ?k_compared ?a_pair_right ?l_pair_right ?c_pair_right ?k_pair_right ?a_chain_right ?l_chain_right ?c_chain_right ?k_chain_right ?a_right ?l_right ?c_right ?k_right ?a_law ?l_law ?c_law ?k_law ?z_isinstance ?z_int ?z_bool ?z_len ?z_abs ?z_repr ?z_all ?z_range ?x_pg ?x_hd ?x_po ?x_sa ?x_mk ?x_kc ?x_nS ?x_nW ?x_sf ?x_n1 ?x_n2 ?x_nc ?x_ni ?x_kcl ?x_kgs ?x_ktk ?x_kob ?x_nic ?x_nty ?x_nnt ?x_nbo ?x_fl ?x_fr ?x_fs ?x_fe ?x_ft ?x_fk ?x_fg ?x_fh ?x_fd ?x_fno ?x_ffn ?x_fic ?x_fsu
    (case a_Fault => k_is)
    (case a_Number => k_is)
    (case a_Fault_init => k_is)
    (case i_Fault_init => k_is)
    (case l_Fault_init => k_is)
    (case c_Fault_init => k_is)
    (case k_Fault_init => k_is)
    (case a_is_whole => k_is)
    (case l_is_whole => k_is)
    (case c_is_whole => k_is)
    (case k_is_whole => k_is)
    (case a_is_size => k_is)
    (case l_is_size => k_is)
    (case c_is_size => k_is)
    (case k_is_size => k_is)
    (case a_Number_init => k_is)
    (case i_Number_init => k_is)
    (case l_Number_init => k_is)
    (case c_Number_init => k_is)
    (case k_Number_init => k_is)
    (case a_Number_size => k_is)
    (case g_Number_size => k_is)
    (case t_Number_size => k_is)
    (case r_Number_size => k_is)
    (case l_Number_size => k_is)
    (case c_Number_size => k_is)
    (case k_Number_size => k_is)
    (case a_Number_worth => k_is)
    (case g_Number_worth => k_is)
    (case t_Number_worth => k_is)
    (case r_Number_worth => k_is)
    (case l_Number_worth => k_is)
    (case c_Number_worth => k_is)
    (case k_Number_worth => k_is)
    (case a_Number_add => k_is)
    (case i_Number_add => k_is)
    (case l_Number_add => k_is)
    (case c_Number_add => k_is)
    (case k_Number_add => k_is)
    (case a_Number_radd => k_is)
    (case i_Number_radd => k_is)
    (case l_Number_radd => k_is)
    (case c_Number_radd => k_is)
    (case k_Number_radd => k_is)
    (case a_Number_sub => k_is)
    (case i_Number_sub => k_is)
    (case l_Number_sub => k_is)
    (case c_Number_sub => k_is)
    (case k_Number_sub => k_is)
    (case a_Number_rsub => k_is)
    (case i_Number_rsub => k_is)
    (case l_Number_rsub => k_is)
    (case c_Number_rsub => k_is)
    (case k_Number_rsub => k_is)
    (case a_Number_mul => k_is)
    (case i_Number_mul => k_is)
    (case l_Number_mul => k_is)
    (case c_Number_mul => k_is)
    (case k_Number_mul => k_is)
    (case a_Number_rmul => k_is)
    (case i_Number_rmul => k_is)
    (case l_Number_rmul => k_is)
    (case c_Number_rmul => k_is)
    (case k_Number_rmul => k_is)
    (case a_Number_floordiv => k_is)
    (case i_Number_floordiv => k_is)
    (case l_Number_floordiv => k_is)
    (case c_Number_floordiv => k_is)
    (case k_Number_floordiv => k_is)
    (case a_Number_rfloordiv => k_is)
    (case i_Number_rfloordiv => k_is)
    (case l_Number_rfloordiv => k_is)
    (case c_Number_rfloordiv => k_is)
    (case k_Number_rfloordiv => k_is)
    (case a_Number_neg => k_is)
    (case i_Number_neg => k_is)
    (case l_Number_neg => k_is)
    (case c_Number_neg => k_is)
    (case k_Number_neg => k_is)
    (case a_Number_eq => k_is)
    (case i_Number_eq => k_is)
    (case l_Number_eq => k_is)
    (case c_Number_eq => k_is)
    (case k_Number_eq => k_is)
    (case a_Number_ne => k_is)
    (case i_Number_ne => k_is)
    (case l_Number_ne => k_is)
    (case c_Number_ne => k_is)
    (case k_Number_ne => k_is)
    (case a_Number_lt => k_is)
    (case i_Number_lt => k_is)
    (case l_Number_lt => k_is)
    (case c_Number_lt => k_is)
    (case k_Number_lt => k_is)
    (case a_Number_le => k_is)
    (case i_Number_le => k_is)
    (case l_Number_le => k_is)
    (case c_Number_le => k_is)
    (case k_Number_le => k_is)
    (case a_Number_gt => k_is)
    (case i_Number_gt => k_is)
    (case l_Number_gt => k_is)
    (case c_Number_gt => k_is)
    (case k_Number_gt => k_is)
    (case a_Number_ge => k_is)
    (case i_Number_ge => k_is)
    (case l_Number_ge => k_is)
    (case c_Number_ge => k_is)
    (case k_Number_ge => k_is)
    (case a_worth_of => k_is)
    (case l_worth_of => k_is)
    (case c_worth_of => k_is)
    (case k_worth_of => k_is)
    (case a_is_side => k_is)
    (case l_is_side => k_is)
    (case c_is_side => k_is)
    (case k_is_side => k_is)
    (case a_gone_round => k_is)
    (case l_gone_round => k_is)
    (case c_gone_round => k_is)
    (case k_gone_round => k_is)
    (case a_quotient => k_is)
    (case l_quotient => k_is)
    (case c_quotient => k_is)
    (case k_quotient => k_is)
    (case a_pot => k_is)
    (case l_pot => k_is)
    (case c_pot => k_is)
    (case k_pot => k_is)
    (case a_take => k_is)
    (case l_take => k_is)
    (case c_take => k_is)
    (case k_take => k_is)
    (case a_of => k_is)
    (case l_of => k_is)
    (case c_of => k_is)
    (case k_of => k_is)
    (case a_due => k_is)
    (case l_due => k_is)
    (case c_due => k_is)
    (case k_due => k_is)
    (case a_signed => k_is)
    (case l_signed => k_is)
    (case c_signed => k_is)
    (case k_signed => k_is)
    (case a_heard => k_is)
    (case l_heard => k_is)
    (case c_heard => k_is)
    (case k_heard => k_is)
    (case a_sign_right => k_is)
    (case l_sign_right => k_is)
    (case c_sign_right => k_is)
    (case k_sign_right => k_is)
    (case a_compared => k_is)
    (case l_compared => k_is)
    (case c_compared => k_is)
    (case k_compared => k_is)
    (case a_pair_right => k_is)
    (case l_pair_right => k_is)
    (case c_pair_right => k_is)
    (case k_pair_right => k_is)
    (case a_chain_right => k_is)
    (case l_chain_right => k_is)
    (case c_chain_right => k_is)
    (case k_chain_right => k_is)
    (case a_right => k_is)
    (case l_right => k_is)
    (case c_right => k_is)
    (case k_right => k_is)
    (case a_law => k_is)
    (case l_law => k_is)
    (case c_law => k_is)
    (case k_law => k_is)
    (case z_isinstance => k_is)
    (case z_int => k_is)
    (case z_bool => k_is)
    (case z_len => k_is)
    (case z_abs => k_is)
    (case z_repr => k_is)
    (case z_all => k_is)
    (case z_range => k_is)
    (case x_pg => k_is)
    (case x_hd => k_is)
    (case x_po => k_is)
    (case x_sa => k_is)
    (case x_mk => k_is)
    (case x_kc => k_is)
    (case x_nS => k_is)
    (case x_nW => k_is)
    (case x_sf => k_is)
    (case x_n1 => k_is)
    (case x_n2 => k_is)
    (case x_nc => k_is)
    (case x_ni => k_is)
    (case x_kcl => k_is)
    (case x_kgs => k_is)
    (case x_ktk => k_is)
    (case x_kob => k_is)
    (case x_nic => k_is)
    (case x_nty => k_is)
    (case x_nnt => k_is)
    (case x_nbo => k_is)
    (case x_fl => k_is)
    (case x_fr => decide +kernel)
    (case x_fs => k_is)
    (case x_fe => k_is)
    (case x_ft => k_is)
    (case x_fk => k_is)
    (case x_fg => k_is)
    (case x_fh => k_is)
    (case x_fd => k_is)
    (case x_fno => k_is)
    (case x_ffn => k_is)
    (case x_fic => k_is)
    (case x_fsu => k_is)

