import PyProof.Rows.All
import Wide.All
import OpenK.AllK
import Wide.FinOn
import PyProof.EqAt
import PyProof.EqKinds
import PyProof.TupleCall
import HandS.Base
import HandS.Call
import HandS.List
import HandS.Exc
import HandS.IsInst
import HandS.ExcOwn
import HandS.ExcInit
import HandS.ExcField
import HandS.ExcIs
import HandS.TryOnly
import HandS.CallSlots
import HandS.Words
import HandS.WordsExc
import KE.KExcIs
import HandS.Sort
import PyProof.Rows.RuleN_abs
import HandS.OwnEq
import HandS.IterNext
import PyProof.FactsSeq
import PyProof.TupleIter
import PyProof.WalksMore
import HandS.Star
import HandS.Zip
import HandS.Walk
import HandS.ClsMeth
import HandS.MakeKw
import HandS.Dict
import KE.KParD
import HandS.Comp
import HandS.Conv
import HandS.EndBits
import HandS.Wide
import PySem.Challenge.RW_gangbooks_k05_amounts_times
set_option Elab.async false
set_option linter.all false
set_option maxRecDepth 100000
set_option maxHeartbeats 4000000
/-! own operators over the layer -/
namespace L2
open PySem PySem.Spec PyProof.Rows
theorem cmpBack_of {Q : Value → Shared → Prop} {v : V} {u : Value} {s : Shared} (r : RelV v u) (q : Q u s) : PySem.W.CmpBack Q u s := by
  cases v with
  | non => cases (show u = Value.none from r); exact q
  | bl b => cases (show u = Value.bool b from r); exact q
  | int i => obtain ⟨t, e⟩ := (show ∃ t, u = Value.int i t from r); cases e; exact q
  | str x => obtain ⟨t, e⟩ := (show ∃ t, u = Value.str x t from r); cases e; exact q
  | byt x => obtain ⟨t, e⟩ := (show ∃ t, u = Value.bytes x t from r); cases e; exact q
  | flt x => obtain ⟨t, e⟩ := (show ∃ t, u = Value.float x t from r); cases e; exact q
  | ref a => cases (show u = Value.ref a from r); exact q
  | ty n => cases (show u = Value.type n from r); exact q
section
variable {X : Cx} {pins : List (Addr × Obj)} {σ : St} {H : Hp} {s : Shared} {a C dx : Addr} {fs : List (Str × V)}
theorem Inv.instAt (I : Inv X pins σ H s) (e : H a = some (.ins C dx fs)) : ∃ od, PySem.W.InstAt s.heap a (PySem.W.instObj C dx) C (some od) := by
  obtain ⟨mA, J, _⟩ := ins_get I.hok e
  obtain ⟨od, h, _⟩ := J.look
  exact ⟨od, h⟩
end
section
variable {X : Cx} {CX : CXT} {k : Nat} {f C : Addr} {fd : FuncData} {ps : List Str} {sp : Sp} {dvs : List V} {ds : List Value} {E : XK}
/-- the callee runs, within some units of the C stack -/
theorem run_fnA {A : Around} {pins : List (Addr × Obj)} {σ : St} {H : Hp} {s : Shared} {Q : VK} {us : List Value} {vs : List V} (hfA : A.frames = X.A.frames) (F : FnOk X.prog X.w X.K X.mg X.base CX k f fd ps sp) (hr : Room k A) (hb : Binds X.K fd ps ds) (hd : Vals dvs ds) (hx : Passes CX X E)
    (I : Inv X pins σ H s) (r : Vals vs us) (h : sp (vs ++ dvs) H Q E) : wpAny (model X.prog X.w) A (call (.ref f) us) (EP X pins σ Q) X.xe s := by
  have r2 : Vals (vs ++ dvs) (us ++ ds) := r.append hd
  have hl : (us ++ ds).length = ps.length := by rw [← r2.length]; exact F.len _ _ _ _ h
  have e0 := I.env0
  have e1 : Env0 X.prog X.w X.K X.mg X.base A X.stack s H := ⟨hfA.trans e0.frames, e0.mod, e0.bs, e0.bsz, e0.funs, e0.frf, e0.hok, e0.bare⟩
  refine wpAny_call (codeAny_mono (F.run A X.stack s H ⟨us, []⟩ (us ++ ds) (vs ++ dvs) Q E hr e1 (hb s us I.kIn hl) r2 h) fun r s' hq => ?_)
  cases r with
  | error e => exact hx pins σ H s e s' I hq
  | ok fl =>
    cases fl with
    | ret u => exact I.after hq
    | next => exact False.elim hq
    | brk => exact False.elim hq
    | cont => exact False.elim hq
/-- x op y, both of the class at C -/
def rOwn (C : Addr) (sp : Sp) (E : XK) : R2 := fun x y H Q => ∃ a dx fs b dy gs, x = .ref a ∧ H a = some (.ins C dx fs) ∧ y = .ref b ∧ H b = some (.ins C dy gs) ∧ sp [x, y] H Q E
theorem op_own {op : Operator} (hm : Meth X.K C (PySem.dunder op.info.2) f) (hc : PySem.W.selfFirst X.K C = true) (F : FnOk X.prog X.w X.K X.mg X.base CX k f fd ps sp) (hr : Room k X.A) (hb : Binds X.K fd ps []) (hx : Passes CX X E) :
    OpR X (binaryOp op) (rOwn C sp E) := by
  intro pins s σ H x y v u Q I rx ry h
  obtain ⟨a, dx, fs, b, dy, gs, rfl, ea, rfl, eb, h⟩ := h
  obtain rfl : v = Value.ref a := rx
  obtain rfl : u = Value.ref b := ry
  obtain ⟨od, J⟩ := I.instAt ea
  obtain ⟨od', J'⟩ := I.instAt eb
  obtain ⟨m, fr⟩ := I.fr
  refine PySem.W.binop_K fr I.ok.mod.kin J J'.type hc hm.at_ hm.fn (thn (run_fnA (us := [.ref a, .ref b]) (vs := [.ref a, .ref b]) (dvs := []) rfl F hr hb .nil hx I (.cons rfl (.cons rfl .nil)) h) fun w s' q => ?_)
  obtain ⟨v', H', I', rv, q⟩ := q
  exact cmpBack_of rv ⟨v', H', I', rv, q⟩
/-- x op i, an int on the right -/
def rOwnI (C : Addr) (sp : Sp) (E : XK) : R2 := fun x y H Q => ∃ a dx fs i, x = .ref a ∧ H a = some (.ins C dx fs) ∧ y = .int i ∧ sp [x, y] H Q E
structure OwnI (K : PySem.W.Frag) (C : Addr) (op : Operator) : Prop where
  r : ∃ rc, PySem.W.findIn K (.ref C) (dunderR op.info.2) = some rc ∧ (rc = none ∨ ∃ g : Addr, rc = some (.ref g))
  i1 : ∃ fo, PySem.W.findIn K (.type "int") (PySem.dunder op.info.2) = some fo
  i2 : ∃ ro, PySem.W.findIn K (.type "int") (dunderR op.info.2) = some ro
  sub : PySem.W.subIn K (.type "int") (.ref C) = some false
theorem op_ownI {op : Operator} (hm : Meth X.K C (PySem.dunder op.info.2) f) (hc : PySem.W.selfFirst X.K C = true) (hi : OwnI X.K C op) (F : FnOk X.prog X.w X.K X.mg X.base CX k f fd ps sp) (hr : Room k X.A) (hb : Binds X.K fd ps []) (hx : Passes CX X E) :
    OpR X (binaryOp op) (rOwnI C sp E) := by
  intro pins s σ H x y v u Q I rx ry h
  obtain ⟨a, dx, fs, i, rfl, ea, rfl, h⟩ := h
  obtain rfl : v = Value.ref a := rx
  obtain ⟨t, rfl⟩ := (show ∃ t, u = Value.int i t from ry)
  obtain ⟨od, J⟩ := I.instAt ea
  obtain ⟨m, fr⟩ := I.fr
  obtain ⟨⟨rc, h1, h2⟩, ⟨fo, h3⟩, ⟨ro, h4⟩, h5⟩ := hi
  refine PySem.W.ksp_binT (T := "int") fr I.ok.mod.kin J rfl hc hm.at_ hm.fn h1 h2 h3 h4 h5 (thn (run_fnA (us := [.ref a, .int i t]) (vs := [.ref a, .int i]) (dvs := []) rfl F hr hb .nil hx I (.cons rfl (.cons ⟨t, rfl⟩ .nil)) h) fun w s' q => ?_)
  obtain ⟨v', H', I', rv, q⟩ := q
  exact cmpBack_of rv ⟨v', H', I', rv, q⟩
/-- -x -/
def rOwn1 (C : Addr) (sp : Sp) (E : XK) : V → Hp → VK → Prop := fun x H Q => ∃ a dx fs, x = .ref a ∧ H a = some (.ins C dx fs) ∧ sp [x] H Q E
theorem un_own (hm : Meth X.K C "__neg__" f) (F : FnOk X.prog X.w X.K X.mg X.base CX k f fd ps sp) (hr : Room k X.A) (hb : Binds X.K fd ps []) (hx : Passes CX X E) :
    UnR X (unaryOp .USub) (rOwn1 C sp E) := by
  intro pins s σ H x v Q I rx h
  obtain ⟨a, dx, fs, rfl, ea, h⟩ := h
  obtain rfl : v = Value.ref a := rx
  obtain ⟨od, J⟩ := I.instAt ea
  obtain ⟨m, fr⟩ := I.fr
  exact PySem.W.ksp_neg fr I.ok.mod.kin J hm.at_ hm.fn (run_fnA (us := [.ref a]) (vs := [.ref a]) (dvs := []) rfl F hr hb .nil hx I (.cons rfl .nil) h)
/-- truth by an own __bool__ -/
def rOwnT (C : Addr) (sp : Sp) (E : XK) : V → Hp → (Bool → Hp → Prop) → Prop := fun x H Q => ∃ a dx fs, x = .ref a ∧ H a = some (.ins C dx fs) ∧ sp [x] H (fun v H' => ∃ b, v = .bl b ∧ Q b H') E
theorem tru_ownA {A : Around} (hfA : A.frames = X.A.frames) (hm : Meth X.K C "__bool__" f) (F : FnOk X.prog X.w X.K X.mg X.base CX k f fd ps sp) (hr : Room k A) (hb : Binds X.K fd ps []) (hx : Passes CX X E) {pins : List (Addr × Obj)} {s : Shared} {σ : St} {H : Hp} {x : V} {v : Value} {Q : Bool → Hp → Prop}
    (I : Inv X pins σ H s) (rx : RelV x v) (h : rOwnT C sp E x H Q) : wpAny (model X.prog X.w) A (truthy v) (TP X pins σ Q) X.xe s := by
  obtain ⟨a, dx, fs, rfl, ea, h⟩ := h
  obtain rfl : v = Value.ref a := rx
  obtain ⟨od, J⟩ := I.instAt ea
  obtain ⟨m, fr⟩ := I.fr
  refine PySem.W.truthy_K fr I.ok.mod.kin J hm.at_ hm.fn (thn (run_fnA (us := [.ref a]) (vs := [.ref a]) (dvs := []) hfA F hr hb .nil hx I (.cons rfl .nil) h) fun w s' q => ?_)
  obtain ⟨v', H', I', rv, b, rfl, q⟩ := q
  obtain rfl : w = Value.bool b := rv
  exact ⟨H', I', q⟩
theorem tru_own (hm : Meth X.K C "__bool__" f) (F : FnOk X.prog X.w X.K X.mg X.base CX k f fd ps sp) (hr : Room k X.A) (hb : Binds X.K fd ps []) (hx : Passes CX X E) : TruR X (rOwnT C sp E) :=
  fun _ _ _ _ _ _ _ I rx h => tru_ownA rfl hm F hr hb hx I rx h
/-- v in x, by an own __contains__ that hands back a bool -/
def rOwnIn (C : Addr) (sp : Sp) (E : XK) : R2 := fun y x H Q => ∃ a dx fs, x = .ref a ∧ H a = some (.ins C dx fs) ∧ sp [x, y] H (fun v H' => ∃ b, v = .bl b ∧ Q (.bl b) H') E
theorem op_inOwn (hm : Meth X.K C "__contains__" f) (F : FnOk X.prog X.w X.K X.mg X.base CX k f fd ps sp) (hr : Room k X.A) (hb : Binds X.K fd ps []) (hx : Passes CX X E) : OpR X (compareOp .In) (rOwnIn C sp E) := by
  intro pins s σ H y x v u Q I ry rx h
  obtain ⟨a, dx, fs, rfl, ea, h⟩ := h
  obtain rfl : u = Value.ref a := rx
  obtain ⟨od, J⟩ := I.instAt ea
  obtain ⟨m, fr⟩ := I.fr
  refine PySem.W.in_K fr I.ok.mod.kin J hm.at_ hm.fn (thn (run_fnA (us := [.ref a, v]) (vs := [.ref a, y]) (dvs := []) rfl F hr hb .nil hx I (.cons rfl (.cons ry .nil)) h) fun w s' q => ?_)
  obtain ⟨v', H', I', rv, b, rfl, q⟩ := q
  obtain rfl : w = Value.bool b := rv
  exact wpAny_truthy_bool ⟨.bl b, H', I', rfl, q⟩
/-- len(x) by an own __len__ -/
def rOwnLen (C : Addr) (sp : Sp) (E : XK) : List V → Hp → VK → Prop := fun xs H Q => ∃ a dx fs, xs = [.ref a] ∧ H a = some (.ins C dx fs) ∧ sp [.ref a] H (fun v H' => ∃ n : Int, v = .int n ∧ 0 ≤ n ∧ n < 2 ^ 63 ∧ Q (.int n) H') E
theorem call_lenOwn (hm : Meth X.K C "__len__" f) (F : FnOk X.prog X.w X.K X.mg X.base CX k f fd ps sp) (hr : Room (k + 1) X.A) (hb : Binds X.K fd ps []) (hx : Passes CX X E) : CallR X (.builtin "len") (rOwnLen C sp E) := by
  intro pins s σ H xs us Q I r h
  obtain ⟨a, dx, fs, rfl, ea, h⟩ := h
  obtain ⟨u, rfl, ru⟩ := vals1 r
  obtain rfl : u = Value.ref a := ru
  obtain ⟨od, J⟩ := I.instAt ea
  obtain ⟨m, fr⟩ := I.fr
  refine PySem.W.len_K fr I.ok.mod.kin J hm.at_ hm.fn (thn (run_fnA (A := X.A.in1) (us := [.ref a]) (vs := [.ref a]) (dvs := []) rfl F hr.in1 hb .nil hx I (.cons rfl .nil) h) fun w s' q => ?_)
  obtain ⟨v', H', I', rv, n, rfl, h0, h1, q⟩ := q
  obtain ⟨t, rfl⟩ := (show ∃ t, w = Value.int n t from rv)
  exact ⟨⟨h0, h1⟩, .int n, H', I'.tok _, ⟨_, rfl⟩, q⟩
end
end L2

namespace L2
open PySem PySem.Spec PyProof.Rows
section
variable {X : Cx} {CX : CXT} {k : Nat} {f C : Addr} {fd : FuncData} {ps : List Str} {sp : Sp} {E : XK}
theorem meets_bool_any {prog : Program} {w : World} (x : Value) : MeetsIn prog w (Builtin.«bool.__new__» ⟨[.type "bool", x], []⟩) (fun A R s => wpAny (model prog w) A.in1 (truthy x) (fun b s' => R (.ok (.ret (.bool b))) s') (fun e s' => R (.error e) s') s) :=
  MeetsIn.of_wp fun A R s hs => by
    have f1 := F.conv_sub_bool
    obtain ⟨hp, g, d, tk, os⟩ := s
    repeat (any_goals (first | assumption | (with_reducible refine wpAny_bind (wpAny_mono hs (fun b s' q => ?_) fun _ _ z => z)) | (with_reducible refine wpAny_mono hs (fun b s' q => ?_) fun _ _ z => z) | wp_step))
    all_goals first | exact ⟨_, rfl, q⟩ | exact q | skip
/-- bool(x), by an own __bool__ -/
def rBoolOwn (C : Addr) (sp : Sp) (E : XK) : List V → Hp → VK → Prop := fun xs H Q => ∃ x, xs = [x] ∧ rOwnT C sp E x H fun b H' => Q (.bl b) H'
theorem call_boolOwn (hm : Meth X.K C "__bool__" f) (Fk : FnOk X.prog X.w X.K X.mg X.base CX k f fd ps sp) (hr : Room (k + 2) X.A) (hb : Binds X.K fd ps []) (hx : Passes CX X E) : CallR X (.type "bool") (rBoolOwn C sp E) := by
  intro pins s σ H xs us Q I r h
  obtain ⟨x, rfl, h⟩ := h
  obtain ⟨u, rfl, ru⟩ := vals1 r
  refine callType_newIn PySem.F.called_bool PySem.F.newNe_bool (PySem.F.typeCall_bool_1 u) (PySem.F.newCall_bool_1 u) (fun obj => PySem.F.args_object_init_2 obj u) PySem.F.entry_bool_new (meets_bool_any u) ?_
  refine thn (tru_ownA (A := X.A.in1.in1) rfl hm Fk hr.in1.in1 hb hx I ru h) fun b s' ⟨H', I', q⟩ => ?_
  exact ⟨rfl, .bl b, H', I', rfl, q⟩
end
end L2
namespace L2
open PySem PySem.Spec PyProof.Rows
section
variable {X : Cx} {CX : CXT} {k : Nat} {f C : Addr} {fd : FuncData} {ps : List Str} {sp : Sp} {E : XK}
/-- x == y by an own __eq__, y of the class or of a kind that is no subclass of it -/
def rEqOwn (K : PySem.W.Frag) (C : Addr) (sp : Sp) (E : XK) : R2 := fun x y H Q => ∃ a dx fs t, x = .ref a ∧ H a = some (.ins C dx fs) ∧ TyX K H y t ∧ PySem.W.notFirst K C t = true ∧ sp [x, y] H Q E
theorem op_eqOwn (hm : Meth X.K C "__eq__" f) (F : FnOk X.prog X.w X.K X.mg X.base CX k f fd ps sp) (hr : Room k X.A) (hb : Binds X.K fd ps []) (hx : Passes CX X E) : OpR X (compareOp .Eq) (rEqOwn X.K C sp E) := by
  intro pins s σ H x y v u Q I rx ry h
  obtain ⟨a, dx, fs, t, rfl, ea, ty, hn, h⟩ := h
  obtain rfl : v = Value.ref a := rx
  obtain ⟨od, J⟩ := I.instAt ea
  obtain ⟨m, fr⟩ := I.fr
  obtain ⟨P, Z, p, _⟩ := kit_of I ry ty
  have hb' := Z.ty (model X.prog X.w) _ I.kIn p
  show wpAny _ _ (richCompare .Eq (.ref a) u) _ _ _
  refine PySem.W.cmp_K (op := .Eq) hr.units0 fr I.ok.mod.kin J hb' hn hm.at_ hm.fn (thn (run_fnA (us := [.ref a, u]) (vs := [.ref a, y]) (dvs := []) rfl F hr hb .nil hx I (.cons rfl (.cons ry .nil)) h) fun w s' q => ?_)
  obtain ⟨v', H', I', rv, q⟩ := q
  exact cmpBack_of rv ⟨v', H', I', rv, q⟩
end
end L2
namespace PySem.W
open PySem PySem.Spec PySem.Calls PyProof.Rows
section
variable {prog : Program} {w : World} {A : Around} {E : Value → Shared → Prop} {s : Shared} {K : Frag} {x D : Addr} {ox : Obj}
theorem gb_kitx_exc {od : Option Obj} (hga : findIn K (.ref D) "__getattribute__" = some (some (.builtin "BaseException.__getattribute__"))) (hgt : findIn K (.ref D) "__getattr__" = some none) (hsub : subIn K (.ref D) (.type "BaseException") = some true) (hdct : hasDictIn K D = true) (ha : findIn K (.ref D) "__class__" = some (some (.builtin "object.__class__")))
    (hn : specialIn K (.builtin "object.__class__") "__get__" = some (some (.builtin "getset_descriptor.__get__"))) (htk : takesIn K (.builtin "object.__class__") = some true) (hm : mroIn K D (.type "object") = some true) :
    KitX K (.ref x) (.ref D) (fun h => InstAt h x ox D od) where
  ty := fun _ _ _ I => I.type
  it := fun _ _ X _ => by
    obtain ⟨cdD, hcD, _⟩ := any_some hdct
    unfold clsIn at hcD
    split at hcD
    · rename_i c' d' cd' sl' ho
      intro A' Q' E' s' k q
      unfold isType loadHead
      exact wpAny_bind (wpAny_loadPart (k _ _ (X _ _ ho)) (wpAny_pure q))
    · cases hcD
  ne := fun h tp dd its n sl X htp => by
    obtain ⟨cdD, hcD, _⟩ := any_some hdct
    refine Bool.eq_false_iff.mpr fun q => ?_
    have e : D = tp := Value.ref.inj (beq_iff_eq.mp q)
    subst e
    unfold clsIn at hcD
    split at hcD
    · rename_i c' d' cd' sl' ho
      have z := (X _ _ ho).symm.trans htp
      cases z
    · cases hcD
  ca := fun X I k => kx_classE X I hga hgt hsub (findObj_dataE (by obtain ⟨cd, hc, _⟩ := any_some hdct; rw [hc]; rfl) ha hn htk) hm k
end
end PySem.W
namespace L2
open PySem PySem.Spec PyProof.Rows
/-- isinstance(e, c), e the exception that the suite holds, with its own dict -/
def rIsX (K : PySem.W.Frag) (a : Addr) (cls : Value) (d : Option Addr) : List V → Hp → VK → Prop := fun xs H Q => ∃ (c : V) (cv : Value) (b : Bool) (D dd : Addr) (fs : List (Str × V)), xs = [.ref a, c] ∧ (∀ u, RelV c u → u = cv) ∧ cls = .ref D ∧ ExcC K D ∧ d = some dd ∧ H dd = some (.xd fs) ∧ PySem.W.kitOne K (.ref D) cv = some b ∧ Q (.bl b) H
theorem instX {X : Cx} {pins : List (Addr × Obj)} {σ : St} {H : Hp} {s : Shared} {a D dd : Addr} {oe : Obj} {pn : List (Addr × Obj)} {fs : List (Str × V)} (I : Inv (X.suite a ((a, oe) :: pn)) pins σ H s) (hz : Zc (.ref D) (some dd) oe) (hf : ∃ vs, oe.data = .fields vs) (he : H dd = some (.xd fs)) : ∃ od, PySem.W.InstAt s.heap a oe D (some od) := by
  obtain ⟨hget, _⟩ := I.pin (a, oe) (List.mem_append.mpr (.inl List.mem_cons_self))
  obtain ⟨vs, hv⟩ := hf
  obtain ⟨mA, ⟨od, es, ep, e1, e2, e3⟩, r⟩ := (show ObjOk X.prog X.w H s.heap dd (.xd fs) from I.hok dd _ he)
  exact ⟨od, hget, hz.1, by unfold PySem.W.notCls; rw [hv] <;> rfl, by rw [hz.2]; exact e1⟩
theorem call_isX {X : Cx} {a : Addr} {cls : Value} {d : Option Addr} {oe : Obj} {pn : List (Addr × Obj)} (hz : Zc cls d oe) (hf : ∃ vs, oe.data = .fields vs) : CallR (X.suite a ((a, oe) :: pn)) (.builtin "isinstance") (rIsX X.K a cls d) := by
  intro pins s σ H xs us Q I r h
  obtain ⟨c, cv, b, D, dd, fs, rfl, hcv, rfl, C, rfl, hd, e, q⟩ := h
  obtain ⟨u1, u2, rfl, rx, rt⟩ := vals2 r
  cases rx
  have ec := hcv _ rt
  subst ec
  obtain ⟨od, J⟩ := instX I hz hf hd
  exact PySem.W.kia_one (PySem.W.gb_kitx_exc C.hg C.hk C.hs C.hd C.ha C.hn C.ht C.hm) I.kIn J e (fun z => nomatch z) fun tk => ⟨.bl b, H, I.kept (t' := tk) fun _ _ z => z, rfl, q⟩
/-- isinstance(e, (c1, c2, ..)) -/
def rIsXT (K : PySem.W.Frag) (a : Addr) (cls : Value) (d : Option Addr) : List V → Hp → VK → Prop := fun xs H Q => ∃ (tp : Addr) (cs : List V) (us : List Value) (b : Bool) (D dd : Addr) (fs : List (Str × V)), xs = [.ref a, .ref tp] ∧ H tp = some (.tup cs) ∧ Paired ClsV cs us ∧ cls = .ref D ∧ ExcC K D ∧ d = some dd ∧ H dd = some (.xd fs) ∧ PySem.W.kitAny K (.ref D) us = some b ∧ Q (.bl b) H
theorem call_isXT {X : Cx} {a : Addr} {cls : Value} {d : Option Addr} {oe : Obj} {pn : List (Addr × Obj)} (hz : Zc cls d oe) (hf : ∃ vs, oe.data = .fields vs) : CallR (X.suite a ((a, oe) :: pn)) (.builtin "isinstance") (rIsXT X.K a cls d) := by
  intro pins s σ H xs us Q I r h
  obtain ⟨tp, cs, ws, b, D, dd, fs, rfl, hT, k, rfl, C, rfl, hd, e, q⟩ := h
  obtain ⟨u1, u2, rfl, rx, rt⟩ := vals2 r
  cases rx
  cases (show u2 = Value.ref tp from rt)
  obtain ⟨od, J⟩ := instX I hz hf hd
  obtain ⟨_, its, rv, o, h1, h2, n, h3⟩ := (show ObjOk X.prog X.w H s.heap tp (.tup cs) from I.hok tp _ hT)
  have e3 := ClsV.all k rv
  subst e3
  obtain ⟨oc, od, dt, sl⟩ := o
  simp only at h2 h3
  subst h2 h3
  exact PySem.W.kia_tup (PySem.W.gb_kitx_exc C.hg C.hk C.hs C.hd C.ha C.hn C.ht C.hm) I.kIn J h1 e (fun z => nomatch z) fun tk => ⟨.bl b, H, I.kept (t' := tk) fun _ _ z => z, rfl, q⟩
theorem exc_heap {H : Hp} {a d : Addr} {o1 o2 o3 u : HO} (h : H a = none) : upd (del (upd (upd (upd H a o1) d o2) a o3) a) d u = upd H d u := by
  funext b
  by_cases hd : b = d
  · subst hd; rw [upd_same, upd_same]
  · rw [upd_ne hd, upd_ne hd]
    by_cases ha : b = a
    · subst ha; rw [del_same, h]
    · rw [del_ne ha, upd_ne ha, upd_ne hd, upd_ne ha]
/-- what the classes of errors are, over one base with __init__(self, subject) -/
structure GExc (K : PySem.W.Frag) (C fI : Addr) : Prop where
  oex : OexC K C
  iC : PySem.W.findIn K (.ref C) "__init__" = some (some (.ref fI))
  tI : PySem.W.typeIn K (.ref fI) = some (.type "function")
  noS : PySem.W.findIn K (.ref C) "subject" = some none
/-- __init__(self, subject): self.subject = subject -/
def spGI (K : PySem.W.Frag) : Sp := fun vs H Q _ => ∃ (a C : Addr) (v : V), vs = [.ref a, v] ∧ OexC K C ∧ PySem.W.findIn K (.ref C) "subject" = some none ∧ H a = some (exo a C none) ∧
  ∀ dx, H dx = none → dx ≠ a → Q .non (upd (upd H dx (exd dx [(("subject" : Str), v)])) a (exo a C (some dx)))
/-- raise X(e): what it wants of e's value and the heap behind it -/
def RaiseG (K : PySem.W.Frag) (C : Addr) (W : WX) (σ : St) (v : V) (H1 : Hp) : Prop := ([v] : List V).length ≤ 1000 ∧ ∀ a, H1 a = none → spGI K (.ref a :: ([v] ++ [])) (upd H1 a (exo a C none))
  (fun v' H2 => v' = .non ∧ ∃ (d : Addr) (fs : List (Str × V)), H2 a = some (exo a C (some d)) ∧ H2 d = some (exd d fs) ∧ H1 d = none ∧ W (.ref C) (some d) σ (upd (del H2 a) d (.xd fs))) (fun _ _ _ => False)
theorem raiseG_in {K : PySem.W.Frag} {C fI : Addr} {W : WX} {σ : St} {v : V} {H1 : Hp} (T : GExc K C fI) (h : ∀ d, H1 d = none → W (.ref C) (some d) σ (upd H1 d (.xd [(("subject" : Str), v)]))) : RaiseG K C W σ v H1 := by
  refine ⟨by show 1 ≤ 1000; decide, fun a ha => ⟨a, C, v, rfl, T.oex, T.noS, upd_same, fun dx hdx hne => ⟨rfl, dx, [(("subject" : Str), v)], upd_same, ?_, ?_, ?_⟩⟩⟩
  · rw [upd_ne hne, upd_same]
  · rw [upd_ne hne] at hdx; exact hdx
  · rw [exc_heap ha]
    rw [upd_ne hne] at hdx
    exact h dx hdx
def tRaiseG (K : PySem.W.Frag) (C : Addr) (W : WX) (te : TE) : TS := fun _ σ H => te σ H fun v H1 => RaiseG K C W σ v H1
theorem ps_raiseG {X : Cx} {x : Str} {C fI : Addr} {k : Nat} {fd : FuncData} {ps : List Str} {W : WX} {e : Expr} {te : TE} {p pos pos2 : Pos} (hc : X.calm = true) (T : GExc X.K C fI)
    (F1 : FnOk X.prog X.w X.K X.mg X.base CX0 k fI fd ps (spGI X.K)) (hr : Room (k + 1) X.A) (hb : Binds X.K fd ps []) (hg : Gl X x) (hm : X.mg x = some (.ref C)) (tk : Takes X W) (ha : PE X e te)
    (hdb : (x == ("__debug__" : Str)) = false := by decide) (he : starEach [e] X.env = (false, eval e X.env) :: starEach [] X.env := by rfl) (hpl : (backTo pos (starEach [] X.env)).any (·.1) = false := by rfl) :
    PS X (.Raise (some (.Call (.Name x p) [e] [] pos)) none pos2) (tRaiseG X.K C W te) :=
  ps_raise (pos := pos2) hc tk (pmk_oex (p := p) (pos := pos) (dvs := []) T.oex T.iC T.tI F1 hr hb .nil (fun _ _ _ _ _ _ _ h => h.elim) hg hm (pa_cons ha pa_nil he) hdb he hpl)
/-- C(e, ..) of an own class in a try's body -/
def tMakeS (C : Addr) (sp : Sp) (E : St → XK) (t : TA) : TE := fun σ H Q => t σ H fun vs H1 => ∀ x dx, H1 x = none → H1 dx = none → dx ≠ x →
  sp (.ref x :: vs) (upd (upd H1 dx (.own x)) x (.ins C dx [])) (fun v H2 => v = .non ∧ Q (.ref x) H2) (E σ)
section
variable {X : Cx} {CX : CXT} {k : Nat} {f C : Addr} {fd : FuncData} {ps : List Str} {sp : Sp} {E : St → XK} {x : Str} {p pos : Pos} {e : Expr} {es : List Expr} {t : TA} {ta tb : TE}
theorem run_makeS {pins : List (Addr × Obj)} {σ : St} {H : Hp} {s : Shared} {Q : VK} {us : List Value} {vs : List V} (M : Mk X.K C f) (F : FnOk X.prog X.w X.K X.mg X.base CX k f fd ps sp) (hr : Room (k + 1) X.A) (hb : Binds X.K fd ps [])
    (hx : PassesAt CX X σ (E σ)) (I : Inv X pins σ H s) (r : Vals vs us)
    (h : ∀ x dx, H x = none → H dx = none → dx ≠ x → sp (.ref x :: vs) (upd (upd H dx (.own x)) x (.ins C dx [])) (fun v H2 => v = .non ∧ Q (.ref x) H2) (E σ)) :
    wpAny (model X.prog X.w) X.A (call (.ref C) us) (EP X pins σ Q) X.xe s := by
  have hq := h (s.heap.objs.size + 1) s.heap.objs.size (I.hok.fresh (Nat.le_succ _)) (I.hok.fresh (Nat.le_refl _)) (Nat.ne_of_lt (Nat.lt_succ_self _))
  have I2 := Inv.made (C := C) I
  have r2 : Vals (V.ref (s.heap.objs.size + 1) :: vs) (Value.ref (s.heap.objs.size + 1) :: us) := .cons rfl r
  have hl : (Value.ref (s.heap.objs.size + 1) :: us).length = ps.length := by
    have e := r2.length
    rw [F.len _ _ _ _ hq] at e
    exact e.symm
  have hb' := hb
  refine wpAny_call (make_map (f := f) I.kIn M.makes M.init (beq_iff_eq.mp M.fn) (codeAny_mono (F.run _ X.stack _ _ ⟨Value.ref (s.heap.objs.size + 1) :: us, []⟩ (Value.ref (s.heap.objs.size + 1) :: us) _ _ (E σ) (hr.make C us [])
    (I2.env0.make C us []) (by have z := hb _ (Value.ref (s.heap.objs.size + 1) :: us) I2.kIn (by rw [List.append_nil]; exact hl); rw [List.append_nil] at z; exact z) r2 hq) fun r s' hq' => ?_))
  cases r with
  | error e => exact hx pins _ _ e s' I2 hq'
  | ok fl =>
    cases fl with
    | ret u =>
      obtain ⟨v, H', I3, rv, ev, q3⟩ := I2.after hq'
      subst ev
      exact ⟨rv, ⟨V.ref (s.heap.objs.size + 1), H', I3, rfl, q3⟩⟩
    | next => exact False.elim hq'
    | brk => exact False.elim hq'
    | cont => exact False.elim hq'
theorem pe_makeS (M : Mk X.K C f) (F : FnOk X.prog X.w X.K X.mg X.base CX k f fd ps sp) (hr : Room (k + 1) X.A) (hg : Gl X x) (hm : X.mg x = some (.ref C)) (hb : Binds X.K fd ps []) (hx : ∀ σ, PassesAt CX X σ (E σ))
    (ha : PA X (e :: es) t) (hdb : (x == ("__debug__" : Str)) = false := by decide) (he : starEach (e :: es) X.env = (false, eval e X.env) :: starEach es X.env := by rfl) (hpl : (backTo pos (starEach es X.env)).any (·.1) = false := by rfl) :
    PE X (.Call (.Name x p) (e :: es) [] pos) (tMakeS C sp E t) := by
  refine ⟨fun pins s σ H Q I h => ?_⟩
  refine wpAny_Call_Name_kw (ld_glob I hg hm ?_ hdb)
  refine PySem.W.callWith_K (h₀ := X.base) I.ok.mod.kin M.kp (thn (ha.run pos pins s σ H _ I h) fun us s1 ⟨vs, H1, I1, r, q⟩ => ⟨I1.kIn, ?_⟩) he hpl
  exact run_makeS M F hr hb (hx σ) I1 r q
theorem run_fnS2 {pins : List (Addr × Obj)} {σ : St} {H : Hp} {s : Shared} {Q : VK} {us : List Value} {vs : List V} (F : FnOk X.prog X.w X.K X.mg X.base CX k f fd ps sp) (hr : Room k X.A) (hb : Binds X.K fd ps []) (hx : PassesAt CX X σ (E σ))
    (I : Inv X pins σ H s) (r : Vals vs us) (h : sp vs H Q (E σ)) : wpAny (model X.prog X.w) X.A (call (.ref f) us) (EP X pins σ Q) X.xe s :=
  run_fnSD (dvs := []) (ds := []) F hr hb .nil hx I r (by rw [List.append_nil]; exact h)
/-- x op y in a try's body: y of the class, or an int -/
def tOpS (C : Addr) (sp : Sp) (E : St → XK) (ta tb : TE) : TE := fun σ H Q => ta σ H fun x H1 => tb σ H1 fun y H2 => ∃ a dx fs, x = .ref a ∧ H2 a = some (.ins C dx fs) ∧ ((∃ b dy gs, y = .ref b ∧ H2 b = some (.ins C dy gs)) ∨ ∃ i, y = .int i) ∧ sp [x, y] H2 Q (E σ)
theorem pe_opS {op : Operator} (hm : Meth X.K C (PySem.dunder op.info.2) f) (hc : PySem.W.selfFirst X.K C = true) (hi : OwnI X.K C op) (F : FnOk X.prog X.w X.K X.mg X.base CX k f fd ps sp) (hr : Room k X.A) (hb : Binds X.K fd ps []) (hx : ∀ σ, PassesAt CX X σ (E σ))
    {l r : Expr} (ha : PE X l ta) (hb' : PE X r tb) : PE X (.BinOp l op r pos) (tOpS C sp E ta tb) := by
  refine ⟨fun pins s σ H Q I h => ?_⟩
  refine wpAny_BinOp (binT ha hb' I h fun v u s2 x y H2 I2 rx ry q => ?_)
  obtain ⟨a, dx, fs, rfl, ea, hy, q⟩ := q
  obtain rfl : v = Value.ref a := rx
  obtain ⟨od, J⟩ := I2.instAt ea
  obtain ⟨m, fr⟩ := I2.fr
  have run := run_fnS2 F hr hb (hx σ) I2 (.cons (show RelV (.ref a) (Value.ref a) from rfl) (.cons ry .nil)) q
  rcases hy with ⟨b, dy, gs, rfl, eb⟩ | ⟨i, rfl⟩
  · obtain rfl : u = Value.ref b := ry
    obtain ⟨od', J'⟩ := I2.instAt eb
    refine PySem.W.binop_K fr I2.ok.mod.kin J J'.type hc hm.at_ hm.fn (thn run fun w s' q => ?_)
    obtain ⟨v', H', I', rv, q⟩ := q
    exact cmpBack_of rv ⟨v', H', I', rv, q⟩
  · obtain ⟨t, rfl⟩ := (show ∃ t, u = Value.int i t from ry)
    obtain ⟨⟨rc, h1, h2⟩, ⟨fo, h3⟩, ⟨ro, h4⟩, h5⟩ := hi
    refine PySem.W.ksp_binT (T := "int") fr I2.ok.mod.kin J rfl hc hm.at_ hm.fn h1 h2 h3 h4 h5 (thn run fun w s' q => ?_)
    obtain ⟨v', H', I', rv, q⟩ := q
    exact cmpBack_of rv ⟨v', H', I', rv, q⟩
end
end L2
namespace L2
open PySem PySem.Spec PyProof.Rows
section
variable {X : Cx}
theorem rangeSize1 (a b : Int) : Builtin.Range.rangeSize a b 1 = if a < b then b - a else 0 := by
  unfold Builtin.Range.rangeSize
  rw [if_pos (by decide)]
  by_cases h : a < b
  · rw [if_pos h, if_pos h]; omega
  · rw [if_neg h, if_neg h]
theorem q_rlen (r : Addr) (a b : Int) (t u v : Tok) (hz : b - a < 2 ^ 63) :
    Meets (Builtin.«range.__len__» ⟨[.ref r], []⟩) (fun _ R s => s.heap.get? r = some { cls := .type "range", dict := none, data := .fields #[.int a t, .int b u, .int 1 v], slots := #[] } ∧ R (.ok (.ret (.int (if a < b then b - a else 0) s.toks))) { s with toks := s.toks + 1 }) :=
  .of_wp fun prog w A R s h => by
    obtain ⟨hp, g, d, tk, os⟩ := s
    obtain ⟨hl, h⟩ := h
    have hn : ¬ (Builtin.Range.rangeSize a b 1 ≥ 2 ^ 63) := by rw [rangeSize1]; split <;> omega
    wp_walk
    rw [rangeSize1] at hn ⊢
    rw [if_neg hn]
    wp_walk
    exact ⟨_, rfl, h⟩
/-- len(r), r a range with step 1 -/
def rLenRng : List V → Hp → VK → Prop := fun xs H Q => ∃ a lo hi, xs = [.ref a] ∧ H a = some (.rng lo hi) ∧ hi - lo < 2 ^ 63 ∧ Q (.int (if lo < hi then hi - lo else 0)) H
theorem call_lenRng : CallR X (.builtin "len") rLenRng := by
  intro pins s σ H xs us Q I r h
  obtain ⟨a, lo, hi, rfl, ea, hz, q⟩ := h
  obtain ⟨u, rfl, ru⟩ := vals1 r
  obtain rfl : u = Value.ref a := ru
  obtain ⟨t1, t2, t3, ho⟩ := I.hok a _ ea
  refine call_len_slot (T := "range") (n := if lo < hi then hi - lo else 0) ⟨_, ho, rfl⟩ PySem.F.slot_range_len (fun Q' q' => ?_) (by split <;> omega) (by split <;> omega) ⟨.int (if lo < hi then hi - lo else 0), H, (I.tok _), ⟨_, rfl⟩, q⟩
  exact call_meets PySem.F.slot_range_len ⟨_, ho, rfl⟩ PySem.F.entry_range_len (PySem.F.args_range_len_1 _) (q_rlen a lo hi t1 t2 t3 hz) ⟨ho, q'⟩
end
end L2
namespace L2
open PySem PySem.Spec PyProof.Rows
section
variable {X : Cx} {a : Expr} {ta : TE}
/-- * of any two ints whose product the machine takes -/
theorem op_mulX : OpR X (binaryOp .Mult) (rI IntMulOk fun i j => .int (i * j)) := opI fun _ _ _ _ _ _ _ hc q => mul_int q hc
theorem mulL {i j : Int} (h : -(2 ^ 64) < i ∧ i < 2 ^ 64) : IntMulOk i j := CMul.ok (.inl h)
theorem mulR {i j : Int} (h : -(2 ^ 64) < j ∧ j < 2 ^ 64) : IntMulOk i j := CMul.ok (.inr h)
/-- a test by an own truth -/
theorem pt_own {r : V → Hp → (Bool → Hp → Prop) → Prop} (ht : TruR X r) (ha : PE X a ta) (he : ∀ whole, isTrue a X.env whole = (do let v ← whole; standAt a.pos; holding [v] (truthy v)) := by intro _; rfl) :
    PT X a (fun σ H Q => ta σ H fun x H' => r x H' Q) := by
  refine ⟨fun pins s σ H Q I h => ?_⟩
  rw [he]
  refine wpAny_bind (thn (ha.run pins s σ H _ I h) fun v s1 ⟨x, H1, I1, r1, q1⟩ => ?_)
  exact wpAny_bind (wpAny_standAt (wpAny_holding (ht pins s1 σ H1 x v Q I1 r1 q1)))
end
/-- what was tracked stays, but for what stands at p -/
def SameBut (p : Addr) (H H' : Hp) : Prop := ∀ b o, b ≠ p → H b = some o → H' b = some o
theorem SameBut.refl {p : Addr} {H : Hp} : SameBut p H H := fun _ _ _ h => h
theorem SameBut.trans {p : Addr} {H H1 H2 : Hp} (a : SameBut p H H1) (b : SameBut p H1 H2) : SameBut p H H2 := fun c o n h => b c o n (a c o n h)
theorem Same.but {p : Addr} {H H' : Hp} (a : Same H H') : SameBut p H H' := fun c o _ h => a c o h
theorem same_new {H : Hp} {p : Addr} {o : HO} (h : H p = none) : Same H (upd H p o) := fun b u e => by rw [upd_ne (ne_of_none e h)]; exact e
theorem sameBut_upd {H : Hp} {p : Addr} {o : HO} : SameBut p H (upd H p o) := fun b u n e => by rw [upd_ne n]; exact e
theorem Same.seqT {K : PySem.W.Frag} {H H' : Hp} {a : Addr} {xs : List V} (e : Same H H') (h : SqT K H a xs) : SqT K H' a xs := by
  rcases h with (h | ⟨o, h⟩) | h
  · exact .inl (.inl (e _ _ h))
  · exact .inl (.inr ⟨o, e _ _ h⟩)
  · exact .inr h
theorem getMap {xs : List Int} {i : Nat} {y : V} (h : (xs.map V.int)[i]? = some y) : ∃ z, xs[i]? = some z ∧ y = V.int z := by
  rw [List.getElem?_map] at h
  cases e : xs[i]? with
  | none => rw [e] at h; cases h
  | some z => rw [e] at h; exact ⟨z, rfl, (Option.some.inj h).symm⟩
theorem bitsMul {i j : Int} (hi : Builtin.Int.intBits i ≤ 1048576) (hj : Builtin.Int.intBits j ≤ 1048576) : IntMulOk i j := IntMulOk.of_le hi hj (by decide)

theorem iteD {p : Prop} [Decidable p] {A B : Prop} (h1 : p → A) (h2 : ¬ p → B) : if decide p = true then A else B := by
  by_cases h : p
  · rw [decide_eq_true h, if_pos rfl]; exact h1 h
  · rw [decide_eq_false h, if_neg Bool.false_ne_true]; exact h2 h
theorem iteDN {p : Prop} [Decidable p] {A B : Prop} (h1 : p → B) (h2 : ¬ p → A) : if (!decide p) = true then A else B := by
  by_cases h : p
  · rw [decide_eq_true h]; exact iteF (h1 h)
  · rw [decide_eq_false h]; exact iteT (h2 h)
theorem qd {Q : VK} {H : Hp} {p q : Prop} [Decidable p] [Decidable q] (e : p ↔ q) (h : Q (.bl (decide p)) H) : Q (.bl (decide q)) H := by
  have z : decide p = decide q := by
    by_cases c : p
    · rw [decide_eq_true c, decide_eq_true (e.mp c)]
    · rw [decide_eq_false c, decide_eq_false fun y => c (e.mpr y)]
  rw [← z]; exact h
theorem qt {Q : VK} {H : Hp} {p : Prop} [Decidable p] (c : p) (h : Q (.bl (decide p)) H) : Q (.bl true) H := by
  rw [decide_eq_true c] at h; exact h
theorem qf {Q : VK} {H : Hp} {p : Prop} [Decidable p] (c : ¬ p) (h : Q (.bl (decide p)) H) : Q (.bl false) H := by
  rw [decide_eq_false c] at h; exact h

/-! ### the pool of draws -/
/-- the list of the pool: four ints, then ints of at least 1 -/
def poolL (a b c n : Int) (bs : List Int) : List V := [.int a, .int b, .int c, .int n] ++ bs.map V.int
def PoolAt (H : Hp) (p : Addr) : Prop := ∃ a b c n bs, H p = some (.lst (poolL a b c n bs)) ∧ bs.length ≤ 63 ∧ ∀ z ∈ bs, 1 ≤ z
theorem pool_len (a b c n : Int) (bs : List Int) : (poolL a b c n bs).length = 4 + bs.length := by
  unfold poolL; rw [List.length_append, List.length_map]; rfl
theorem pool_at0 {a b c n : Int} {bs : List Int} : atI (poolL a b c n bs) 0 = some (.int a) := atI_nat (j := 0) rfl
theorem pool_at1 {a b c n : Int} {bs : List Int} : atI (poolL a b c n bs) 1 = some (.int b) := atI_nat (j := 1) rfl
theorem pool_at2 {a b c n : Int} {bs : List Int} : atI (poolL a b c n bs) 2 = some (.int c) := atI_nat (j := 2) rfl
theorem pool_at3 {a b c n : Int} {bs : List Int} : atI (poolL a b c n bs) 3 = some (.int n) := atI_nat (j := 3) rfl
theorem pool_at4 {a b c n z : Int} {bs : List Int} : atI (poolL a b c n (z :: bs)) 4 = some (.int z) := atI_nat (j := 4) rfl
theorem ixN_of {n : Nat} {j : Nat} (h : j < n) : ixN n (j : Int) = some j := by
  unfold ixN
  rw [if_pos (by omega), if_pos (by omega)]
  simp
theorem pool_ix {a b c n : Int} {bs : List Int} (j : Nat) (h : j < 4) : ixN (poolL a b c n bs).length (j : Int) = some j := ixN_of (by rw [pool_len]; omega)
theorem pool_ix4 {a b c n z : Int} {bs : List Int} : ixN (poolL a b c n (z :: bs)).length 4 = some 4 := ixN_of (j := 4) (by rw [pool_len, List.length_cons]; omega)
theorem pool_seq4 {a b c n z : Int} {bs : List Int} : seqIndex? 4 (poolL a b c n (z :: bs)).length = some 4 := (ixN_seq pool_ix4).1
theorem PoolAt.of {H : Hp} {p : Addr} {a b c n : Int} {bs : List Int} (h : H p = some (.lst (poolL a b c n bs))) (hl : bs.length ≤ 63) (hz : ∀ z ∈ bs, 1 ≤ z) : PoolAt H p := ⟨a, b, c, n, bs, h, hl, hz⟩
theorem PoolAt.mono {H H' : Hp} {p : Addr} (h : PoolAt H p) (e : Same H H') : PoolAt H' p := let ⟨a, b, c, n, bs, q, hl, hz⟩ := h; ⟨a, b, c, n, bs, e _ _ q, hl, hz⟩
theorem PoolAt.ne {H : Hp} {p q : Addr} (h : PoolAt H p) (hq : H q = none) : p ≠ q := let ⟨_, _, _, _, _, e, _, _⟩ := h; ne_of_none e hq
theorem same_of_but {H H' : Hp} {p : Addr} (hp : H p = none) (s : SameBut p H H') : Same H H' := fun b o e => s b o (ne_of_none e hp) e
theorem dp2 {K : PySem.W.Frag} {H : Hp} {t : Addr} {a b : Int} (h : SqT K H t [.int a, .int b]) : Dp K H (.ref t) (.tuple [.int a, .int b]) := .tup h (.cons (.int a) (.cons (.int b) .nil))
theorem eqv2 (a b : Int) : PyData.eqv (.tuple [.int a, .int b]) (.tuple [.int a, .int b]) = true := by simp [PyData.eqv, PyData.eqvAll]
theorem eqv22 (a b c d : Int) : PyData.eqv (.tuple [.int a, .int b]) (.tuple [.int c, .int d]) = decide (a = c ∧ b = d) := by
  simp [PyData.eqv, PyData.eqvAll, Bool.decide_and]
  try rfl
theorem andV_two {p q : Prop} [Decidable p] [Decidable q] {Qk : VK} {σ : L2.St} {H : Hp} {tb : TE} (h1 : Qk (.bl (decide q)) H → tb σ H Qk) (h : Qk (.bl (decide p && decide q)) H) : if decide p = true then tb σ H Qk else Qk (.bl false) H := by
  by_cases c : p
  · rw [decide_eq_true c] at h ⊢; exact h1 h
  · rw [decide_eq_false c] at h ⊢; rw [if_neg Bool.false_ne_true]; exact h
theorem notFirst_self {K : PySem.W.Frag} {C : Addr} : PySem.W.notFirst K C (.ref C) = true := by unfold PySem.W.notFirst; simp
def spPool (K : PySem.W.Frag) : Sp := fun vs H Q _ => ∃ (a : Addr) (ns : List Int), vs = [.ref a] ∧ SqL K H a (ns.map V.int) ∧ ns.length ≤ 63 ∧ (∀ z ∈ ns, Builtin.Int.intBits z ≤ 1048576) ∧
  ∀ p H', H p = none → PoolAt H' p → SameBut p H H' → Q (.ref p) H'
def spDraw : Sp := fun vs H Q _ => ∃ (p : Addr) (m : Int), vs = [.ref p, .int m] ∧ PoolAt H p ∧ 1 ≤ m ∧ m < 1073741824 ∧ ∀ r H', 0 ≤ r → r < m → PoolAt H' p → SameBut p H H' → Q (.int r) H'

/-! ### the rules that speak of K, by the K at hand -/
section
variable {X : Cx} {o e : Expr} {ta tl : TE} {tg : Expr} {f : Str} {pos : Pos}
theorem op_eqDK (K : PySem.W.Frag) (hu : X.A.units + 64 < cLine) (hK : X.K = K := by rfl) : OpR X (compareOp .Eq) (rEqD K) := hK ▸ op_eqD hu
theorem op_neDK (K : PySem.W.Frag) (hu : X.A.units + 64 < cLine) (hK : X.K = K := by rfl) : OpR X (compareOp .NotEq) (rNeD K) := hK ▸ op_neD hu
theorem ix_tupK (K : PySem.W.Frag) (hK : X.K = K := by rfl) : IxR X (rIxT K) := hK ▸ ix_tup
theorem ix_listK (K : PySem.W.Frag) (hK : X.K = K := by rfl) : IxR X (rIxL K) := hK ▸ ix_list
theorem pe_fldK (K : PySem.W.Frag) (he : PE X e ta) (hb : attributeBase e f X.env (eval e X.env) = eval e X.env) (hK : X.K = K := by rfl) : PE X (.Attribute e f pos) (tFld K ta f) := hK ▸ pe_fld he hb
theorem op_in_seqK (K : PySem.W.Frag) (hK : X.K = K := by rfl) : OpR X (compareOp .In) (rIn K false) := hK ▸ op_in_seq
theorem op_notIn_seqK (K : PySem.W.Frag) (hK : X.K = K := by rfl) : OpR X (compareOp .NotIn) (rIn K true) := hK ▸ op_notIn_seq
theorem call_isiK' (K : PySem.W.Frag) (hK : X.K = K := by rfl) : CallR X (.builtin "isinstance") (rIsi K) := hK ▸ call_isi
theorem pi_listK (K : PySem.W.Frag) (hl : PE X o tl) (hK : X.K = K := by rfl) : PI X tg o (iList K tl) := hK ▸ pi_list hl
theorem pi_tupK (K : PySem.W.Frag) (hl : PE X o tl) (hK : X.K = K := by rfl) : PI X tg o (iTup K tl) := hK ▸ pi_tup hl
def rLenSq (K : PySem.W.Frag) : List V → Hp → VK → Prop := fun xs H Q => ∃ p ys, xs = [.ref p] ∧ (SqL K H p ys ∨ SqT K H p ys) ∧ Q (.int ys.length) H
theorem call_len_seqK (K : PySem.W.Frag) (hK : X.K = K := by rfl) : CallR X (.builtin "len") (rLenSq K) := hK ▸ call_len_seq
end
theorem kit_same {K : PySem.W.Frag} {t : Value} : PySem.W.kitOne K t t = some true := by
  unfold PySem.W.kitOne
  rw [if_pos (by simp)]
theorem kit_sub {K : PySem.W.Frag} {t C : Addr} {b : Bool} (hd : PySem.W.hasDictIn K C = true) (ty : PySem.W.typeIn K (.ref C) = some (.type "type")) (self : PySem.W.subIn K (.ref C) (.ref C) = some true) (h : PySem.W.subIn K (.ref t) (.ref C) = some b) :
    PySem.W.kitOne K (.ref t) (.ref C) = some b := by
  unfold PySem.W.kitOne
  by_cases e : t = C
  · subst e
    rw [if_pos (by simp)]
    exact self.symm.trans h
  · rw [if_neg (by simpa using e)]
    obtain ⟨cd, hc, _⟩ := PySem.W.any_some hd
    have e2 : ((PySem.W.clsIn K C).isSome && PySem.W.typeIn K (.ref C) == some (.type "type")) = true := by rw [hc, ty] <;> rfl
    show (if ((PySem.W.clsIn K C).isSome && PySem.W.typeIn K (.ref C) == some (.type "type")) = true then PySem.W.subIn K (.ref t) (.ref C) else none) = some b
    rw [if_pos e2]
    exact h
theorem kit_base {K : PySem.W.Frag} {t : Addr} {T : String} {b : Bool} (hm : PySem.W.kitMeta T = true) (h : PySem.W.subIn K (.ref t) (.type T) = some b) : PySem.W.kitOne K (.ref t) (.type T) = some b := by
  unfold PySem.W.kitOne
  rw [if_neg (by simp)]
  show (if PySem.W.kitMeta T = true then PySem.W.subIn K (.ref t) (.type T) else none) = some b
  rw [if_pos hm]
  exact h
end L2
namespace L2
open PySem PySem.Spec PyProof.Rows
theorem dec_add (i : Int) (t : Tok) (a C dx : Addr) : Meets (Builtin.«int.__add__» ⟨[.int i t, .ref a], []⟩) (fun _ R s => s.heap.get? a = some (PySem.W.instObj C dx) ∧ R (.ok (.ret .notImplemented)) s) :=
  .of_wp fun prog w A R s h => by obtain ⟨hp, g, d, tk, os⟩ := s; obtain ⟨hl, h⟩ := h; unfold PySem.W.instObj at hl; wp_walk; exact ⟨_, rfl, h⟩
theorem dec_sub (i : Int) (t : Tok) (a C dx : Addr) : Meets (Builtin.«int.__sub__» ⟨[.int i t, .ref a], []⟩) (fun _ R s => s.heap.get? a = some (PySem.W.instObj C dx) ∧ R (.ok (.ret .notImplemented)) s) :=
  .of_wp fun prog w A R s h => by obtain ⟨hp, g, d, tk, os⟩ := s; obtain ⟨hl, h⟩ := h; unfold PySem.W.instObj at hl; wp_walk; exact ⟨_, rfl, h⟩
theorem dec_mul (i : Int) (t : Tok) (a C dx : Addr) : Meets (Builtin.«int.__mul__» ⟨[.int i t, .ref a], []⟩) (fun _ R s => s.heap.get? a = some (PySem.W.instObj C dx) ∧ R (.ok (.ret .notImplemented)) s) :=
  .of_wp fun prog w A R s h => by obtain ⟨hp, g, d, tk, os⟩ := s; obtain ⟨hl, h⟩ := h; unfold PySem.W.instObj at hl; wp_walk; exact ⟨_, rfl, h⟩
theorem dec_eq (i : Int) (t : Tok) (a C dx : Addr) : Meets (Builtin.«int.__eq__» ⟨[.int i t, .ref a], []⟩) (fun _ R s => s.heap.get? a = some (PySem.W.instObj C dx) ∧ R (.ok (.ret .notImplemented)) s) :=
  .of_wp fun prog w A R s h => by obtain ⟨hp, g, d, tk, os⟩ := s; obtain ⟨hl, h⟩ := h; unfold PySem.W.instObj at hl; wp_walk; exact ⟨_, rfl, h⟩

/-- what the classes say of an operator with an int on the left -/
structure IntOp (op : Operator) (B : Builtin) (id : String) : Prop where
  fills : fillsNumberSlot (.type "int") op.info.2 = pure true
  slot : Slot "int" (PySem.dunder op.info.2) id
  entry : entryFor table id = some B
  args : ∀ a b, argsOk id ⟨[a, b], []⟩
  dec : ∀ (i : Int) (t : Tok) (a C dx : Addr), Meets (B ⟨[.int i t, .ref a], []⟩) (fun _ R s => s.heap.get? a = some (PySem.W.instObj C dx) ∧ R (.ok (.ret .notImplemented)) s)
theorem intAdd : IntOp .Add Builtin.«int.__add__» "int.__add__" := ⟨F.fills_int_add, F.slot_int_add, F.entry_int_add, F.args_int_add_2, dec_add⟩
theorem intSub : IntOp .Sub Builtin.«int.__sub__» "int.__sub__" := ⟨F.fills_int_sub, F.slot_int_sub, F.entry_int_sub, F.args_int_sub_2, dec_sub⟩
theorem intMul : IntOp .Mult Builtin.«int.__mul__» "int.__mul__" := ⟨F.fills_int_mul, F.slot_int_mul, F.entry_int_mul, F.args_int_mul_2, dec_mul⟩
open PySem.W in
theorem binop_IK {prog : Program} {w : World} {A : Around} {E : Value → Shared → Prop} {s : Shared} {K : Frag} {x C L f f0 dx : Addr} {h₀ : Heap} {m : Str → Option Value} {od : Option Obj} {op : Operator} {B : Builtin} {id : String} {i : Int} {t : Tok} {Q : Value → Shared → Prop} (J : IntOp op B id)
    (Fr0 : Fr h₀ L s.heap m) (X₀ : K.In h₀) (I : PySem.W.InstAt s.heap x (PySem.W.instObj C dx) C od) (hc : selfFirst K C = true) (hs : findIn K (.ref C) (PySem.dunder op.info.2) = some (some (.ref f0)))
    (hr : findIn K (.ref C) (dunderR op.info.2) = some (some (.ref f))) (hf : isFn K (.ref f) = true) (hsub : subIn K (.ref C) (.type "int") = some false)
    (h : wpAny (model prog w) A (call (.ref f) [.ref x, .int i t]) (PySem.W.CmpBack Q) E s) : wpAny (model prog w) A (binaryOp op (.int i t) (.ref x)) Q E s := by
  have X := X₀.keeps Fr0.keep
  obtain ⟨cd, rest, hcd, hm⟩ := ksp_first hc
  obtain ⟨hfT, slot, entry, args, dec⟩ := J
  rcases hi : op.info with ⟨sym, nm⟩
  rw [hi] at hs hr hfT slot
  dsimp only at hs hr hfT slot
  have hne : (Value.type "int" == Value.ref C) = false := Bool.eq_false_iff.mpr fun q => by cases beq_iff_eq.mp q
  simp only [binaryOp, hi]
  refine wpAny_holding (wpAny_bind ?_)
  unfold binaryOp1
  refine wpAny_bind (wpAny_typeOf (show s.TypeIs (.int i t) "int" from rfl) (wpAny_bind (I.type.here (wpAny_bind (wpAny_of_eq hfT ?_)))))
  simp only [hne, Bool.false_eq_true, if_false]
  refine wpAny_bind ((fills_K X hcd hm hs).here ?_)
  simp only [Bool.and_self, if_true]
  refine wpAny_bind ((looks_subIn X hsub).here ?_)
  have hpy : numberSlotInPython (.type "int") nm = pure false := rfl
  simp only [Bool.false_eq_true, if_false, pure_bind, Bool.not_false, Bool.and_self, if_true, hpy]
  refine wpAny_bind (wpAny_tryMethod_declines (T := "int") rfl slot (call_meets slot rfl entry (args _ _) (dec i t x C dx) ⟨I.at_, rfl, ?_⟩))
  show wpAny _ _ (tryMethod (.ref x) (dunderR nm) (.int i t) >>= _) _ _ _
  refine wpAny_bind (wpAny_mono (ksp_try X I hr hf h) (fun r s' hq => ?_) fun _ _ z => z)
  obtain ⟨v, rfl, q⟩ := hq
  first | exact wpAny_bind (wpAny_rule (wpAny_pure (wpAny_pure q))) | exact wpAny_rule (wpAny_pure (wpAny_pure q)) | exact wpAny_bind (wpAny_rule (wpAny_pure q))
open PySem.W in
theorem eq_IK {prog : Program} {w : World} {A : Around} {E : Value → Shared → Prop} {s : Shared} {K : Frag} {x C L f dx : Addr} {h₀ : Heap} {m : Str → Option Value} {od : Option Obj} {i : Int} {t : Tok} {Q : Value → Shared → Prop} (hu : A.units < cLine)
    (Fr0 : Fr h₀ L s.heap m) (X₀ : K.In h₀) (I : PySem.W.InstAt s.heap x (PySem.W.instObj C dx) C od) (hs : findIn K (.ref C) "__eq__" = some (some (.ref f))) (hf : isFn K (.ref f) = true) (hsub : subIn K (.ref C) (.type "int") = some false)
    (h : wpAny (model prog w) A (call (.ref f) [.ref x, .int i t]) (PySem.W.CmpBack Q) E s) : wpAny (model prog w) A (richCompare .Eq (.int i t) (.ref x)) Q E s := by
  have X := X₀.keeps Fr0.keep
  have one : wpAny (model prog w) A (tryCompare (.ref x) "__eq__" (.int i t)) (fun r s' => ∃ v, r = some v ∧ Q v s') E s := by
    unfold tryCompare
    refine wpAny_bind (ifBound_K X I hs hf (wpAny_mono h (fun v s' hv => ?_) fun _ _ e => e))
    cases v <;> first | exact hv.elim | exact wpAny_pure ⟨_, rfl, hv⟩
  have hne : (Value.type "int" != Value.ref C) = true := by
    have : (Value.type "int" == Value.ref C) = false := Bool.eq_false_iff.mpr fun q => by cases beq_iff_eq.mp q
    simp [bne, this]
  unfold richCompare
  refine wpAny_holding (wpAny_bind (wpAny_cRoomFor hu ?_))
  have ho : oneThing? .Eq (.int i t) (.ref x) = none := rfl
  rw [ho]
  refine wpAny_bind (wpAny_typeOf (show s.TypeIs (.int i t) "int" from rfl) (wpAny_bind (I.type.here ?_)))
  rw [if_pos hne]
  refine wpAny_bind ((looks_subIn X hsub).here ?_)
  simp only [Bool.false_eq_true, if_false]
  refine wpAny_bind (wpAny_tryCompare_declines (T := "int") rfl PySem.F.slot_int_eq (call_meets PySem.F.slot_int_eq rfl PySem.F.entry_int_eq (PySem.F.args_int_eq_2 _ _) (dec_eq i t x C dx) ⟨I.at_, rfl, ?_⟩))
  simp only [Bool.not_false, if_true]
  refine wpAny_bind (wpAny_mono one (fun r s' hq => ?_) fun _ _ z => z)
  obtain ⟨v, rfl, q⟩ := hq
  exact wpAny_pure q
section
variable {X : Cx} {CX : CXT} {k : Nat} {f f0 C : Addr} {fd : FuncData} {ps : List Str} {sp : Sp} {E : XK}
/-- i op x, an int on the left: x's reflected method at (x, i) -/
def rIOwn (C : Addr) (sp : Sp) (E : XK) : R2 := fun y x H Q => ∃ a dx fs i, x = .ref a ∧ H a = some (.ins C dx fs) ∧ y = .int i ∧ sp [x, y] H Q E
theorem op_iown {op : Operator} {B : Builtin} {id : String} (J : IntOp op B id) (hm0 : Meth X.K C (PySem.dunder op.info.2) f0) (hm : Meth X.K C (dunderR op.info.2) f) (hc : PySem.W.selfFirst X.K C = true) (hsub : PySem.W.subIn X.K (.ref C) (.type "int") = some false)
    (F : FnOk X.prog X.w X.K X.mg X.base CX k f fd ps sp) (hr : Room k X.A) (hb : Binds X.K fd ps []) (hx : Passes CX X E) : OpR X (binaryOp op) (rIOwn C sp E) := by
  intro pins s σ H y x v u Q I ry rx h
  obtain ⟨a, dx, fs, i, rfl, ea, rfl, h⟩ := h
  obtain rfl : u = Value.ref a := rx
  obtain ⟨t, rfl⟩ := (show ∃ t, v = Value.int i t from ry)
  obtain ⟨od, Ia⟩ := I.instAt ea
  obtain ⟨m, fr⟩ := I.fr
  refine binop_IK J fr I.ok.mod.kin Ia hc hm0.at_ hm.at_ hm.fn hsub (thn (run_fnA (us := [.ref a, .int i t]) (vs := [.ref a, .int i]) (dvs := []) rfl F hr hb .nil hx I (.cons rfl (.cons ⟨t, rfl⟩ .nil)) h) fun w s' q => ?_)
  obtain ⟨v', H', I', rv, q⟩ := q
  exact cmpBack_of rv ⟨v', H', I', rv, q⟩
theorem op_ieq (hm : Meth X.K C "__eq__" f) (hsub : PySem.W.subIn X.K (.ref C) (.type "int") = some false)
    (F : FnOk X.prog X.w X.K X.mg X.base CX k f fd ps sp) (hr : Room k X.A) (hb : Binds X.K fd ps []) (hx : Passes CX X E) : OpR X (compareOp .Eq) (rIOwn C sp E) := by
  intro pins s σ H y x v u Q I ry rx h
  obtain ⟨a, dx, fs, i, rfl, ea, rfl, h⟩ := h
  obtain rfl : u = Value.ref a := rx
  obtain ⟨t, rfl⟩ := (show ∃ t, v = Value.int i t from ry)
  obtain ⟨od, Ia⟩ := I.instAt ea
  obtain ⟨m, fr⟩ := I.fr
  show wpAny _ _ (richCompare .Eq (.int i t) (.ref a)) _ _ _
  refine eq_IK hr.units0 fr I.ok.mod.kin Ia hm.at_ hm.fn hsub (thn (run_fnA (us := [.ref a, .int i t]) (vs := [.ref a, .int i]) (dvs := []) rfl F hr hb .nil hx I (.cons rfl (.cons ⟨t, rfl⟩ .nil)) h) fun w s' q => ?_)
  obtain ⟨v', H', I', rv, q⟩ := q
  exact cmpBack_of rv ⟨v', H', I', rv, q⟩
end
/-- // by any divisor but 0, of less than 9000 bits -/
theorem op_fdivX {X : Cx} : OpR X (binaryOp .FloorDiv) (rI (fun _ j => j ≠ 0 ∧ j.natAbs.log2 < 9000) fun i j => .int (i.fdiv j)) := opI fun i j _ _ _ _ _ hc q => floordiv_int hc.1 q (.inl (PyProof.noPylong_of_log2 hc.2))
section
variable {X : Cx} {CX : CXT} {k : Nat} {f C : Addr} {fd : FuncData} {ps : List Str} {sp : Sp} {E : XK}
/-- abs(x), by an own __abs__ -/
def rAbsOwn (C : Addr) (sp : Sp) (E : XK) : List V → Hp → VK → Prop := fun xs H Q => ∃ a dx fs, xs = [.ref a] ∧ H a = some (.ins C dx fs) ∧ sp [.ref a] H Q E
theorem call_absOwn (hm : Meth X.K C "__abs__" f) (Fk : FnOk X.prog X.w X.K X.mg X.base CX k f fd ps sp) (hr : Room (k + 1) X.A) (hb : Binds X.K fd ps []) (hx : Passes CX X E) : CallR X (.builtin "abs") (rAbsOwn C sp E) := by
  intro pins s σ H xs us Q I r h
  obtain ⟨a, dx, fs, rfl, ea, h⟩ := h
  obtain ⟨u, rfl, ru⟩ := vals1 r
  obtain rfl : u = Value.ref a := ru
  obtain ⟨od, J⟩ := I.instAt ea
  refine PySem.Calls.call_function_entry kind_abs plain_abs entry_abs (args_abs _) ?_
  unfold Builtin.«abs»
  refine wpAny_bind (m := oneArg "abs" _) (wpAny_pure ?_)
  refine wpAny_bind (m := callSpecial? (.ref a) (Str.ofString "__abs__")) (PySem.W.special_fn I.kIn J hm.at_ (beq_iff_eq.mp hm.fn) (thn (run_fnA (A := X.A.in1) (us := [.ref a]) (vs := [.ref a]) (dvs := []) rfl Fk hr.in1 hb .nil hx I (.cons rfl .nil) h) fun w s' q => ?_))
  exact wpAny_pure ⟨_, rfl, q⟩
end
theorem kit_tb {K : PySem.W.Frag} {C : Addr} {T : String} {b : Bool} (hd : PySem.W.hasDictIn K C = true) (ty : PySem.W.typeIn K (.ref C) = some (.type "type")) (h : PySem.W.subIn K (.type T) (.ref C) = some b) : PySem.W.kitOne K (.type T) (.ref C) = some b := by
  unfold PySem.W.kitOne
  rw [if_neg (by simp)]
  obtain ⟨cd, hc, _⟩ := PySem.W.any_some hd
  have e2 : ((PySem.W.clsIn K C).isSome && PySem.W.typeIn K (.ref C) == some (.type "type")) = true := by rw [hc, ty] <;> rfl
  show (if ((PySem.W.clsIn K C).isSome && PySem.W.typeIn K (.ref C) == some (.type "type")) = true then PySem.W.subIn K (.type T) (.ref C) else none) = some b
  rw [if_pos e2]
  exact h
theorem notFirst_ty {K : PySem.W.Frag} {C : Addr} {T : String} (h : PySem.W.subIn K (.type T) (.ref C) = some false) : PySem.W.notFirst K C (.type T) = true := by unfold PySem.W.notFirst; rw [h]; simp
theorem binds_none {K : PySem.W.Frag} {fd : FuncData} {ps : List Str} (h : ∃ ds, Vals ([] : List V) ds ∧ Binds K fd ps ds) : Binds K fd ps [] := by
  obtain ⟨ds, r, b⟩ := h
  cases r
  exact b
end L2
namespace L2
open PySem PySem.Spec PyProof.Rows
section
variable {X : Cx} {CX : CXT} {k : Nat} {f C : Addr} {fd : FuncData} {ps : List Str} {sp : Sp} {E : St → XK} {m : Str} {pos apos : Pos} {e o : Expr} {es : List Expr} {ta : TE} {t : TA}
/-- o.m(e, ..) in a try's body -/
def tMethT (C : Addr) (m : Str) (sp : Sp) (E : St → XK) (ta : TE) (t : TA) : TE := fun σ H Q => ta σ H fun x H1 => ∃ a dx fs, x = .ref a ∧ H1 a = some (.ins C dx fs) ∧ fs.lookup m = none ∧ t σ H1 fun vs H2 => sp (x :: vs) H2 Q (E σ)
theorem pe_methT {pl : Sem Bool} (he : PE X o ta) (c : Cls X.K C) (hm : Meth X.K C m f) (F : FnOk X.prog X.w X.K X.mg X.base CX k f fd ps sp) (hr : Room k X.A) (hb : Binds X.K fd ps []) (hx : ∀ σ, PassesAt CX X σ (E σ)) (ha : PA X (e :: es) t)
    (hst : starEach (e :: es) X.env = (false, eval e X.env) :: starEach es X.env := by rfl) (hpl : (backTo pos (starEach es X.env)).any (·.1) = false := by rfl)
    (ht : eval (.Call (.Attribute o m apos) (e :: es) [] pos) X.env = (do
      let ov ← eval o X.env
      standAt apos.atName
      let (f, first) ← holding [ov] (getMethod ov m pl)
      callWith pos f first (backTo pos (starEach (e :: es) X.env)) (backToKw pos (keywordEach [] X.env))) := by rfl) :
    PE X (.Call (.Attribute o m apos) (e :: es) [] pos) (tMethT C m sp E ta t) := by
  refine ⟨fun pins s σ H Q I h => ?_⟩
  refine PySem.W.methodCall_KW (pl := pl) (thn (he.run pins s σ H _ I h) fun u s1 ⟨x, H1, I1, rx, a, dx, fs, ex, ea, l, q⟩ => ?_) ht
  subst ex
  obtain rfl : u = Value.ref a := rx
  refine getmeth_ok I1 ea c hm l ?_
  refine PySem.W.callWith_K (first := [.ref a]) (h₀ := X.base) I.ok.mod.kin hm.kp (thn (ha.run pos pins s1 σ H1 _ I1 q) fun us s2 ⟨vs, H2, I2, r, q2⟩ => ⟨I2.kIn, ?_⟩) hst hpl
  exact run_fnS2 (us := .ref a :: us) (vs := .ref a :: vs) F hr hb (hx σ) I2 (.cons rfl r) q2
end
theorem op_two {X : Cx} {op : Operator} {r1 r2 : R2} (h1 : OpR X (binaryOp op) r1) (h2 : OpR X (binaryOp op) r2) : OpR X (binaryOp op) (fun x y H Q => r1 x y H Q ∨ r2 x y H Q) := by
  intro pins s σ H x y v u Q I rx ry h
  rcases h with h | h
  · exact h1 _ _ _ _ _ _ _ _ _ I rx ry h
  · exact h2 _ _ _ _ _ _ _ _ _ I rx ry h
end L2
/-! iter of a tuple; list(x) of an own class whose __iter__ gives a tuple's iterator and that has an own __len__ -/
namespace L2
open PySem PySem.Spec PyProof.Rows
section
variable {prog : Program} {w : World} {A : Around} {E : Value → Shared → Prop} {s : Shared}
theorem gb_iter_tuple {t : Addr} {items : Array Value} {Q : Value → Shared → Prop} (ht : s.heap.IsTuple t items) (h : Q (.ref s.heap.objs.size) { s with heap := s.heap.push { cls := .type "tuple_iterator", data := .fields #[.ref t, .int 0 0] } }) : wpAny (model prog w) A (call (.builtin "iter") [.ref t]) Q E s := by
  refine Calls.call_function_entry (by decide +kernel) (by decide +kernel) PySem.W.kdk_entry_iter (PySem.W.kdk_args_iter _) ?_
  unfold Builtin.«iter»
  refine wpAny_bind (m := someArgs "iter" 1 2 _) (wpAny_of_eq (a := [Value.ref t]) (by first | rfl | kernel_rfl!) ?_)
  show wpAny _ _ (pyIter (.ref t) >>= _) _ _ _
  refine wpAny_bind (wpAny_pyIter_tuple ht ?_)
  exact wpAny_pure ⟨_, rfl, h⟩
/-- the end of a tuple's iterator; the iterator stays an object -/
theorem gb_tuple_end {it t : Addr} {i : Nat} {items : Array Value} {Q : Option Value → Shared → Prop} (hh : A.handled = none)
    (hit : s.heap.IsTupleIter it t i) (ht : s.heap.IsTuple t items) (hx : items[i]? = none)
    (hQ : ∀ h', Heap.ExtBut it s.heap h' → (∃ u, h'.get? it = some u) → Q none { s with heap := h' }) : wpAny (model prog w) A (pyNext (.ref it)) Q E s := by
  obtain ⟨o, ho, hc, hd⟩ := id hit
  obtain ⟨ol, hol, _, nl, hdl⟩ := ht
  unfold pyNext
  refine wpAny_bind (wpAny_attempt (wpAny_callSpecial?_slot (name := Str.ofString "__next__") hit.typeIs F.slot_tuple_iterator_next
    (wpAny_call_entry F.slot_tuple_iterator_next hit.typeIs F.entry_tuple_iterator_next ?_ (F.args_tuple_iterator_next_1 _))))
  show wpAny _ _ (field (.ref it) 0 >>= _) _ _ s
  refine wpAny_bind (wpAny_field ho hd (x := .ref t) rfl ?_)
  show wpAny _ _ (if (Value.ref t == Value.none) = true then _ else _) _ _ s
  rw [if_neg (show ¬ ((Value.ref t == Value.none) = true) from Bool.false_ne_true)]
  show wpAny _ _ (field (.ref it) 1 >>= _) _ _ s
  refine wpAny_bind (wpAny_field ho hd (x := .int i 0) rfl ?_)
  show wpAny _ _ (seqItems? (.ref t) >>= _) _ _ s
  refine wpAny_bind (wpAny_seqItems hol hdl ?_)
  simp only [Int.toNat_natCast, hx]
  refine wpAny_bind (wpAny_rule (wpAny_bind (wpAny_setField ho hd (by simp) ?_)))
  show wpAny _ _ (newExc (.type "StopIteration") [] >>= _) _ _ _
  refine wpAny_bind ?_
  simp only [newExc, newTuple]
  refine wpAny_bind (wpAny_newObj_type ?_ (by size_fits))
  refine wpAny_bind (m := firstArgMember _ _) (wpAny_of_eq (a := Value.none) (by first | rfl | (simp only [firstArgMember]; rfl)) ?_)
  refine wpAny_newObj_type ?_ (by size_fits)
  simp only [raiseNew]
  refine wpAny_bind (wpAny_handled ?_)
  first | rw [show A.in1.handled = none from hh] | rw [hh]
  refine wpAny_bind (wpAny_pure (wpAny_throw ?_))
  refine wpAny_bind (wpAny_isInstance (T := "StopIteration") (b := true) ⟨_, Heap.get?_push_size _ rfl, rfl⟩ isSubtype_stop ?_)
  exact wpAny_pure (hQ _ (((Heap.SameBut.update ..).extBut.push _).push _) ⟨_, Heap.get?_push_of_some _ (Heap.get?_push_of_some _ (Heap.get?_update_self _ ho (Obj.isFreed_of_fields (Obj.data_mapFields hd _))))⟩)
theorem gb_hint {Q : Bool → Shared → Prop} {K : PySem.W.Frag} {a C fl : Addr} {ox : Obj} {od : Option Obj} (hl : PySem.W.findIn K (.ref C) "__len__" = some (some (.ref fl))) (hK : K.In s.heap) (J : PySem.W.InstAt s.heap a ox C od)
    (h : wpAny (model prog w) A (call (.builtin "len") [.ref a]) (fun v s' => ∃ n t, v = .int n t ∧ Builtin.List.listTooLong n.toNat = false ∧ Q (n != 0) s') (fun _ _ => False) s) : wpAny (model prog w) A (Builtin.List.listLengthHint (.ref a)) Q E s := by
  unfold Builtin.List.listLengthHint
  refine wpAny_bind (wpAny_bind (J.type.here ((PySem.W.looks_findIn hK hl).here ?_)))
  refine PySem.W.KFB.if_not rfl ?_
  show wpAny _ _ (rule _ >>= _) _ _ _
  refine wpAny_bind (wpAny_rule ?_)
  refine wpAny_bind (wpAny_attempt (wpAny_mono h (fun v s' hv => ?_) fun _ _ z => ?_))
  · obtain ⟨n, t, rfl, h1, q⟩ := hv
    show wpAny _ _ (if Builtin.List.listTooLong n.toNat = true then _ else pure (n != 0)) _ _ _
    rw [if_neg (by rw [h1]; decide)]
    exact wpAny_pure q
  · exact z.elim
end
/-- at it an iterator over the tuple at t, the next place is i -/
def ItT (t it : Addr) (i : Nat) : HO := .ext fun h => h.IsTupleIter it t i
/-- at it something that is no longer of use -/
def ItX (it : Addr) : HO := .ext fun h => ∃ o, h.get? it = some o
theorem itT_ok {P : Program} {w : World} {H : Hp} {h : Heap} {t it : Addr} {i : Nat} (e : h.IsTupleIter it t i) : ObjOk P w H h it (ItT t it i) := ⟨e, let ⟨o, ho, _⟩ := e; ⟨o, ho⟩, fun h1 h2 q k => Heap.IsTupleIter.at q k⟩
theorem itX_ok {P : Program} {w : World} {H : Hp} {h : Heap} {it : Addr} (e : ∃ o, h.get? it = some o) : ObjOk P w H h it (ItX it) := ⟨e, e, fun h1 h2 q k => let ⟨o, ho⟩ := q; ⟨o, k o ho⟩⟩
section
variable {X : Cx} {pins : List (Addr × Obj)} {σ : St} {H : Hp} {s : Shared} {t it l : Addr} {i : Nat} {zs : List V}
theorem itT_get (I : Inv X pins σ H s) (e : H it = some (ItT t it i)) : s.heap.IsTupleIter it t i := (I.hok it _ e).1
def rIterT (K : PySem.W.Frag) : List V → Hp → VK → Prop := fun xs H Q => ∃ (t : Addr) (zs : List V), xs = [.ref t] ∧ SqT K H t zs ∧ ∀ it, H it = none → Q (.ref it) (upd H it (ItT t it 0))
theorem call_iterT : CallR X (.builtin "iter") (rIterT X.K) := by
  intro pins s σ H xs us Q I r h
  obtain ⟨t, zs, rfl, hq, q⟩ := h
  obtain rfl := Vals.ref1 r
  obtain ⟨its, rv, pl, hz⟩ := I.tuple hq
  refine gb_iter_tuple (show s.heap.IsTuple t its.toArray from pl) ?_
  exact ⟨.ref s.heap.objs.size, _, I.laid (t' := s.toks) (fun b u e => Heap.get?_push_of_some _ e) (Nat.le_refl _) (itT_ok ⟨_, Heap.get?_push_size _ rfl, rfl, rfl⟩), rfl, q _ (I.hok.fresh (Nat.le_refl _))⟩
theorem upd_swap {a b : Addr} {o u : HO} (h : a ≠ b) : upd (upd H a o) b u = upd (upd H b u) a o := by
  funext c
  by_cases ha : c = a
  · subst ha; rw [upd_ne h, upd_same, upd_same]
  · rw [upd_ne ha]
    by_cases hb : c = b
    · subst hb; rw [upd_same, upd_same]
    · rw [upd_ne hb, upd_ne hb, upd_ne ha]
/-- the loop over a tuple's iterator, the list at l filled -/
theorem gb_loop {A1 : Around} {Rs : Result → Shared → Prop} (hh : A1.handled = none) (hne : it ≠ l) (hT : SqT X.K H t zs) (hz : zs.length < sizeLine) (hlt : H l = none) (hit : H it = none)
    (hdone : ∀ s, Inv X pins σ (upd (upd H l (.lst zs)) it (ItX it)) s → Rs (.ok (.ret .none)) s) :
    ∀ (k i : Nat) (s : Shared), zs.length - i = k → i ≤ zs.length → Inv X pins σ (upd (upd H l (.lst (zs.take i))) it (ItT t it i)) s → codeAny (model X.prog X.w) A1 (.builtin "list.extend.loop" ⟨[.ref l, .ref it, .none], []⟩) Rs s := by
  have sT : ∀ {o1 o2 : HO}, SqT X.K (upd (upd H l o1) it o2) t zs := fun {o1 o2} => Same.seqT ((same_new hlt).trans (same_new (by rw [upd_ne hne]; exact hit))) hT
  intro k
  induction k with
  | zero =>
    intro i s hk hi I
    have hin : i = zs.length := by omega
    subst hin
    obtain ⟨its, rv, pl, _⟩ := I.tuple (sT (o1 := _) (o2 := _))
    refine codeAny_builtin PySem.F.entry_extend_loop ?_
    rw [Around.under_plainId PySem.F.plain_extend_loop _]
    show wpAny _ A1.in1 (pyNext (.ref it) >>= _) _ _ s
    refine wpAny_bind (gb_tuple_end (A := A1.in1) hh (itT_get I upd_same) (show s.heap.IsTuple t its.toArray from pl) (by have := rv.length; simp; omega) fun h' hb hu => ?_)
    refine wpAny_pure (hdone _ ?_)
    have I2 := I.write (x := it) (e := it) (o := ItX it) (h' := h') (t' := s.toks) (by rw [upd_same]; exact True.intro) (.inl rfl) (fun b u nb z => hb b u nb z) hu (itX_ok hu)
    rw [upd_upd, List.take_length] at I2
    exact I2
  | succ k ih =>
    intro i s hk hi I
    have hlt2 : i < zs.length := by omega
    obtain ⟨its, rv, pl, _⟩ := I.tuple (sT (o1 := _) (o2 := _))
    obtain ⟨u, hu, ru⟩ := rv.get (List.getElem?_eq_getElem hlt2)
    refine codeAny_builtin PySem.F.entry_extend_loop ?_
    rw [Around.under_plainId PySem.F.plain_extend_loop _]
    show wpAny _ A1.in1 (pyNext (.ref it) >>= _) _ _ s
    refine wpAny_bind (wpAny_pyNext_tuple_item (itT_get I upd_same) (show s.heap.IsTuple t its.toArray from pl) (x := u) (by simpa using hu) fun h' hi' sb => ?_)
    have I2 := I.write (x := it) (e := it) (o := ItT t it (i + 1)) (h' := h') (t' := s.toks) (by rw [upd_same]; exact True.intro) (.inl rfl) (fun b o nb z => (sb.2 b nb).trans z) (let ⟨o, ho, _⟩ := hi'; ⟨o, ho⟩) (itT_ok hi')
    rw [upd_upd, upd_swap hne.symm] at I2
    show wpAny _ A1.in1 (updateSeq l (·.push u) >>= _) _ _ _
    obtain ⟨z, its2, c, r2, hl, e⟩ := I2.lstM upd_same
    have hl2 : its2.length = i := by rw [← r2.length, List.length_take]; omega
    refine wpAny_bind (wpAny_updateSeq e rfl (wpAny_pure ⟨plainId_quiet PySem.F.plain_extend_loop _, ?_⟩) (by rw [List.size_toArray]; omega) (by show (its2.toArray.push u).size ≤ sizeLine + 1; rw [Array.size_push, List.size_toArray]; omega))
    have I3 := I2.lset (its' := its2 ++ [u]) (ys := zs.take (i + 1)) (t' := s.toks) (f := (·.push u)) upd_same e (by simp) (by rw [List.take_succ, List.getElem?_eq_getElem hlt2]; exact r2.append (.cons ru .nil)) (by rw [List.length_take]; omega)
    rw [upd_upd, upd_swap hne] at I3
    exact ih (i + 1) _ (by omega) hlt2 I3
end
section
variable {X : Cx} {k k2 : Nat} {fi fl C : Addr} {fd fd2 : FuncData} {ps ps2 : List Str} {spI spL : Sp}
/-- list(x) -/
def rListIt (K : PySem.W.Frag) (C : Addr) (spI spL : Sp) : List V → Hp → VK → Prop := fun xs H Q => ∃ (a dx t : Addr) (fs : List (Str × V)) (zs : List V), xs = [.ref a] ∧ H a = some (.ins C dx fs) ∧ SqT K H t zs ∧ zs.length < 1000 ∧
  ∀ l, H l = none →
    spI [.ref a] (upd H l (.lst [])) (fun v H' => ∃ it, v = .ref it ∧ upd H l (.lst []) it = none ∧ H' = upd (upd H l (.lst [])) it (ItT t it 0)) (fun _ _ _ => False) ∧
    (∀ it, H it = none → it ≠ l → spL [.ref a] (upd (upd H l (.lst [])) it (ItT t it 0)) (fun v H' => v = .int zs.length ∧ H' = upd (upd H l (.lst [])) it (ItT t it 0)) (fun _ _ _ => False)) ∧
    ∀ it, H it = none → it ≠ l → Q (.ref l) (upd (upd H l (.lst zs)) it (ItX it))
theorem call_listIt (hmI : Meth X.K C "__iter__" fi) (hmL : Meth X.K C "__len__" fl) (FI : FnOk X.prog X.w X.K X.mg X.base CX0 k fi fd ps spI) (FL : FnOk X.prog X.w X.K X.mg X.base CX0 k2 fl fd2 ps2 spL)
    (bI : Binds X.K fd ps []) (bL : Binds X.K fd2 ps2 []) (hr : Room (k + 2) X.A) (hr2 : Room (k2 + 3) X.A) : CallR X (.type "list") (rListIt X.K C spI spL) := by
  intro pins s σ H xs us Q I rv h
  obtain ⟨a, dx, t, fs, zs, rfl, ha, hT, hz, hq⟩ := h
  obtain ⟨u, rfl, ru⟩ := rv.one
  obtain rfl : u = Value.ref a := ru
  refine callType_codes (Q₁ := fun obj s₁ => obj = .ref s.heap.objs.size ∧ s₁ = { s with heap := s.heap.push { cls := .type "list", data := .seq #[] } }) PySem.F.called_list (PySem.F.typeCall_list_1 _) PySem.F.entry_list_init
    (code_list_new _ ⟨rfl, rfl⟩) fun obj s₁ h₁ => ?_
  obtain ⟨rfl, rfl⟩ := h₁
  have hS : (s.heap.push { cls := .type "list", data := .seq #[] }).get? s.heap.objs.size = some { cls := .type "list", data := .seq #[] } := Heap.get?_push_size _ rfl
  refine ⟨⟨_, hS, rfl⟩, PySem.F.args_list_init_2 _ _, ?_⟩
  have fr : H s.heap.objs.size = none := I.hok.fresh (Nat.le_refl _)
  obtain ⟨q1, q2, q3⟩ := hq _ fr
  have I1 : Inv X pins σ (upd H s.heap.objs.size (.lst [])) { s with heap := s.heap.push { cls := .type "list", data := .seq #[] } } := I.lnew (its := []) (t' := s.toks) .nil (Nat.zero_le _)
  show wpAny _ _ (do let old ← Builtin.List.listItems (.ref s.heap.objs.size); Builtin.List.listUpdate (.ref s.heap.objs.size) (fun _ => #[]); letGo old.toList.reverse; Builtin.List.listExtendWith (.ref s.heap.objs.size) (.ref a) .none) _ _ _
  refine wpAny_bind ?_
  unfold Builtin.List.listItems
  refine wpAny_bind (wpAny_seqItems hS rfl (wpAny_pure ?_))
  show wpAny _ _ (updateSeq s.heap.objs.size (fun _ => #[]) >>= fun _ => letGo (#[] : Array Value).toList.reverse >>= fun _ => Builtin.List.listExtendWith (.ref s.heap.objs.size) (.ref a) .none) _ _ _
  refine wpAny_bind (wpAny_updateSeq hS rfl ?_)
  have I2 := I1.lset (f := fun _ => #[]) (its := []) (its' := []) (ys := []) (t' := s.toks) upd_same hS rfl .nil (Nat.zero_le _)
  rw [upd_upd] at I2
  refine wpAny_bind (wpAny_letGo ?_)
  generalize hl0 : s.heap.objs.size = l at *
  have hne : a ≠ l := ne_of_none ha fr
  have ha2 : upd H l (.lst []) a = some (.ins C dx fs) := by rw [upd_ne hne]; exact ha
  generalize ({ s with heap := (s.heap.push { cls := .type "list", data := .seq #[] }).update l (Obj.mapSeq fun _ => #[]), toks := s.toks } : Shared) = s2 at I2 ⊢
  obtain ⟨od, J⟩ := I2.instAt ha2
  obtain ⟨m0, hF⟩ := I2.fr
  unfold Builtin.List.listExtendWith
  refine wpAny_bind (J.type.here ?_)
  have h1 : Builtin.List.listSameRef (.ref l) (.ref a) = false := by simp [Builtin.List.listSameRef, hne.symm]
  have h2 : (Value.ref C == Value.type "list") = false := rfl
  have h3 : (Value.ref C == Value.type "tuple") = false := rfl
  simp only [h1, h2, h3, Bool.or_false, Bool.false_eq_true, if_false]
  refine wpAny_bind (PySem.W.owit_iter hF I2.ok.mod.kin J hmI.at_ hmI.fn ?_)
  have rI : Room k X.A.in1.in1 := (hr.in1 (k := k + 1)).in1
  refine wpAny_mono (run_fnA (X := X.nox) (us := [.ref a]) (vs := [.ref a]) (dvs := []) rfl FI rI bI .nil pass0 (I2.wish _) (.cons rfl .nil) q1) (fun v s3 q => ?_) (fun _ _ z => z.elim)
  obtain ⟨v', H', I3, rv', it, rfl, hit, rfl⟩ := q
  obtain rfl : v = Value.ref it := rv'
  replace I3 := I3.unwish
  have hil : it ≠ l := fun z => by rw [z, upd_same] at hit; cases hit
  have hitH : H it = none := by rw [upd_ne hil] at hit; exact hit
  have gi := itT_get I3 upd_same
  show wpAny _ _ (specialOf (.ref it) "__next__") _ _ _
  refine wpAny_specialOf gi.typeIs PySem.F.slot_tuple_iterator_next.lookup ?_
  have ha3 : upd (upd H l (.lst [])) it (ItT t it 0) a = some (.ins C dx fs) := by rw [upd_ne (ne_of_none ha2 hit)]; exact ha2
  obtain ⟨od3, J3⟩ := I3.instAt ha3
  obtain ⟨m3, hF3⟩ := I3.fr
  have rL : Room k2 X.A.in1.in1.in1 := ((hr2.in1 (k := k2 + 2)).in1 (k := k2 + 1)).in1
  refine wpAny_bind (wpAny_holding (gb_hint hmL.at_ I3.kIn J3 (PySem.W.len_K hF3 I3.ok.mod.kin J3 hmL.at_ hmL.fn ?_)))
  refine wpAny_mono (run_fnA (X := X.nox) (us := [.ref a]) (vs := [.ref a]) (dvs := []) rfl FL rL bL .nil pass0 (I3.wish _) (.cons rfl .nil) (q2 it hitH hil)) (fun v s4 q => ?_) (fun _ _ z => z.elim)
  obtain ⟨v', H', I4, rv4, rfl, rfl⟩ := q
  obtain ⟨tk, rfl⟩ := (show ∃ t, v = Value.int zs.length t from rv4)
  replace I4 := I4.unwish.tok (s4.toks + 1)
  refine ⟨⟨by omega, by omega⟩, _, _, rfl, ?_, ?_⟩
  · show decide ((zs.length : Int).toNat > sizeLine) = false
    rw [sizeLine_eq]
    exact decide_eq_false (by omega)
  generalize ({ s4 with toks := s4.toks + 1 } : Shared) = s5 at I4 ⊢
  have hzl : zs.length < sizeLine := by rw [sizeLine_eq]; omega
  have loop : ∀ s, Inv X pins σ (upd (upd H l (.lst [])) it (ItT t it 0)) s → codeAny (model X.prog X.w) X.A.in1 (.builtin "list.extend.loop" ⟨[.ref l, .ref it, .none], []⟩) (wants (fun r s₂ => r = .none ∧ EP X pins σ Q (.ref l) s₂) X.xe) s := fun s' I' =>
    gb_loop (A1 := X.A.in1) (zs := zs) (show X.A.in1.handled = none from hr.hd) hil hT hzl fr hitH (fun s6 I6 => ⟨rfl, .ref l, _, I6, rfl, q3 it hitH hil⟩) zs.length 0 s' rfl (Nat.zero_le _) I'
  refine wpAny_ite_split (fun _ => ?_) (fun _ => wpAny_pure ⟨plainId_quiet PySem.F.plain_extend_loop _, loop s5 I4⟩)
  have hql : upd (upd H l (.lst [])) it (ItT t it 0) l = some (.lst []) := by rw [upd_ne hil.symm, upd_same]
  obtain ⟨z, its, k4, r3, hl3, e3⟩ := I4.lstM hql
  cases r3
  refine wpAny_bind (wpAny_rule ?_)
  refine wpAny_bind ?_
  show wpAny _ _ (updateSeq l (·.push .none) >>= fun _ => updateSeq l (·.pop)) _ _ _
  refine wpAny_bind (wpAny_updateSeq e3 rfl ?_)
  have I5 := I4.lset (f := (·.push Value.none)) (its' := [Value.none]) (ys := [.non]) (t' := s5.toks) hql e3 (by simp) (.cons rfl .nil) (by rw [List.length_singleton, sizeLine_eq]; decide)
  obtain ⟨z4, its4, k5, r4, hl4, e4⟩ := I5.lstM upd_same
  obtain ⟨u4, rfl, ru4⟩ := r4.one
  refine wpAny_updateSeq e4 rfl ?_ (by show 1 ≤ sizeLine; rw [sizeLine_eq]; decide) (by show 0 ≤ sizeLine + 1; exact Nat.zero_le _)
  refine wpAny_pure ⟨plainId_quiet PySem.F.plain_extend_loop _, loop _ ?_⟩
  have I6 := I5.lset (f := (·.pop)) (its := [u4]) (its' := []) (ys := []) (t' := s5.toks) upd_same e4 (by rfl) .nil (Nat.zero_le _)
  rw [upd_upd] at I6
  have hH : upd (upd (upd H l (.lst [])) it (ItT t it 0)) l (.lst []) = upd (upd H l (.lst [])) it (ItT t it 0) := by rw [upd_swap hil, upd_upd]
  rw [hH] at I6
  exact I6
end
end L2
namespace L2
open PySem PySem.Spec PyProof.Rows StX
/-- zip of two tuples -/
theorem walk_zipT {K : PySem.W.Frag} {a b : Addr} {xs ys : List V} {n : Nat} (hn : n = min xs.length ys.length) : Walk (RZ.ItzT K a b) n (fun H => SqT K H a xs ∧ SqT K H b ys) (YPair (fun i => xs[i]?) (fun i => ys[i]?)) := by
  subst hn
  refine ⟨fun i _ hi q => ?_, fun _ q => ⟨xs, ys, q.1, q.2, by omega⟩, fun i H v H' _ q y => ?_⟩
  · have h1 : i < xs.length := by omega
    have h2 : i < ys.length := by omega
    exact ⟨xs, ys, xs[i], ys[i], q.1, q.2, by simp [h1], by simp [h2]⟩
  · obtain ⟨T, x, z, h1, h2, h3, h4, h5⟩ := y
    exact ⟨T, x, z, h1, h2, h3, h4 xs q.1, h5 ys q.2⟩
theorem pi_zipK {X : Cx} (K : PySem.W.Frag) {e e2 : Expr} {ta : TA} {p pos tpos : Pos} {elts : List Expr} {kk : Nat} (hg : Gl X "zip") (hm : X.mg "zip" = none) (ha : PA X [e, e2] ta) (hK : X.K = K := by rfl)
    (hs : starEach [e, e2] X.env = (false, eval e X.env) :: starEach [e2] X.env := by rfl) (hpl : (backTo pos (starEach [e2] X.env)).any (·.1) = false := by rfl) :
    PI X (.Tuple elts kk tpos) (.Call (.Name "zip" p) [e, e2] [] pos) (RZ.iZipA K ta) := hK ▸ RZ.pi_zipA hg hm ha hs hpl
section
variable {P : Program} {w : World} {K : PySem.W.Frag} {mg : Str → Option Value} {base : Heap}
/-- what a def with *args says of its arguments -/
def spStar (m : Nat) (sp : Sp) : Sp := fun vs H Q E => ∃ ws rest, vs = ws ++ rest ∧ ws.length = m ∧ rest.length ≤ sizeLine ∧ ∀ p, H p = Option.none → sp (ws ++ [V.ref p]) (upd H p (.tup rest)) Q E
theorem Fun.okStar {x qual : Str} {st : Stmt} {f : Addr} {fd : FuncData} {N : List Str} {p1 pv : Str} {k : Nat} {sp : Sp} (F : Fun K x qual st f fd) (S : FnScope N ([p1] ++ [pv]) (defScope st))
    (hb : ∀ (kV doc pm : Value) (an : Option Addr) (cdv ct : Value) (us rest : List Value), us.length = [p1].length → bindArgs (PySem.W.fnOf x qual (defArgs st) (defBody st) (defScope st) .none kV doc pm an cdv ct) ⟨us ++ rest, []⟩ = (newTuple rest >>= fun t => pure ([p1].zip us ++ [(pv, t)])))
    (hbody : ∀ (cdv : Value) (A : Around) (outer : List Env) (s : Shared) (H : Hp) (vs : List V) (Q : VK) (E : XK), Room k (A.deeper (envOfC qual (defScope st) s.heap.objs.size f cdv)) → sp vs H Q E →
      ∃ t, PSs (cxOf (L2.CX P w) P w K mg base N qual (defScope st) f cdv A outer s H E) (defBody st) t ∧ t { nx := fun _ H' => Q .non H', rt := Q } (start N vs) H) : FnR P w K mg base (L2.CX P w) (k + 1) f (spStar 1 sp) := by
  obtain ⟨oc, od, kV, doc, pm, an, cdv, ct, osl, rfl, lk, hcd⟩ := F.ex
  exact fn_star (ps := [p1]) (pv := pv) lk hcd S cxUp (hb kV doc pm an cdv ct) fun A outer s H vs Q E hr hsp => hbody cdv A outer s H vs Q E hr hsp
end
section
variable {X : Cx} {CX : CXT} {k : Nat} {f C : Addr} {fd : FuncData} {ps : List Str} {sp : Sp} {E : XK} {x : Str} {e : Expr} {es : List Expr} {te : TE} {t : TA} {p sp_ pos : Pos}
/-- C(*y) -/
def tMakeStar (K : PySem.W.Frag) (C : Addr) (sp : Sp) (E : XK) (te : TE) : TE := fun σ H Q => te σ H fun y H1 => ∃ a xs, y = V.ref a ∧ (SqT K H1 a xs ∨ SqL K H1 a xs) ∧ ∀ x dx, H1 x = Option.none → H1 dx = Option.none → dx ≠ x →
  sp (V.ref x :: xs) (upd (upd H1 dx (.own x)) x (.ins C dx [])) (fun v H2 => v = .non ∧ Q (.ref x) H2) E
theorem pe_makeStar (M : Mk X.K C f) (F : FnR X.prog X.w X.K X.mg X.base CX k f sp) (hr : Room (k + 1) X.A) (hg : Gl X x) (hm : X.mg x = some (.ref C)) (hx : Passes CX X E) (he : PE X e te) (hd : (x == ("__debug__" : Str)) = false := by decide)
    (hst : starEach [.Starred e sp_] X.env = [(true, eval e X.env)] := by rfl) : PE X (.Call (.Name x p) [.Starred e sp_] [] pos) (tMakeStar X.K C sp E te) := by
  refine ⟨fun pins s σ H Q I h => ?_⟩
  refine wpAny_Call_Name_kw (ld_glob I hg hm ?_ hd)
  refine PySem.W.callWith_S (h₀ := X.base) I.ok.mod.kin M.kp (thn (he.run pins s σ H _ I h) fun v s1 ⟨y, H1, I1, ry, a, xs, ey, hxs, q⟩ => ?_) hst
  subst ey
  obtain rfl : v = Value.ref a := ry
  exact star_any I1 hxs fun us s2 I2 rv => ⟨I2.kIn, run_makeR M F hr hx I2 rv q⟩
/-- the same in a try's body -/
def tMakeRT (C : Addr) (sp : Sp) (E : St → XK) (t : TA) : TE := fun σ H Q => t σ H fun vs H1 => ∀ x dx, H1 x = Option.none → H1 dx = Option.none → dx ≠ x →
  sp (V.ref x :: vs) (upd (upd H1 dx (.own x)) x (.ins C dx [])) (fun v H2 => v = .non ∧ Q (.ref x) H2) (E σ)
theorem run_makeRT {E : St → XK} {pins : List (Addr × Obj)} {σ : L2.St} {H : Hp} {s : Shared} {Q : VK} {us : List Value} {vs : List V} (M : Mk X.K C f) (F : FnR X.prog X.w X.K X.mg X.base CX k f sp) (hr : Room (k + 1) X.A) (hx : PassesAt CX X σ (E σ)) (I : Inv X pins σ H s) (r : Vals vs us)
    (h : ∀ x dx, H x = Option.none → H dx = Option.none → dx ≠ x → sp (V.ref x :: vs) (upd (upd H dx (.own x)) x (.ins C dx [])) (fun v H2 => v = .non ∧ Q (.ref x) H2) (E σ)) :
    wpAny (model X.prog X.w) X.A (call (.ref C) us) (EP X pins σ Q) X.xe s := by
  have hq := h (s.heap.objs.size + 1) s.heap.objs.size (I.hok.fresh (Nat.le_succ _)) (I.hok.fresh (Nat.le_refl _)) (Nat.ne_of_lt (Nat.lt_succ_self _))
  have I2 := Inv.made (C := C) I
  have r2 : Vals (V.ref (s.heap.objs.size + 1) :: vs) (Value.ref (s.heap.objs.size + 1) :: us) := .cons rfl r
  refine wpAny_call (make_map (f := f) I.kIn M.makes M.init (beq_iff_eq.mp M.fn) (codeAny_mono (F _ X.stack _ _ (Value.ref (s.heap.objs.size + 1) :: us) _ _ (E σ) (hr.make C us []) (I2.env0.make C us []) r2 hq) fun r s' hq' => ?_))
  cases r with
  | error e => exact hx pins _ _ e s' I2 hq'
  | ok fl =>
    cases fl with
    | ret u =>
      obtain ⟨v, H', I3, rv, ev, q3⟩ := I2.after hq'
      subst ev
      exact ⟨rv, ⟨V.ref (s.heap.objs.size + 1), H', I3, rfl, q3⟩⟩
    | next => exact False.elim hq'
    | brk => exact False.elim hq'
    | cont => exact False.elim hq'
theorem pe_makeRT {E : St → XK} (M : Mk X.K C f) (F : FnR X.prog X.w X.K X.mg X.base CX k f sp) (hr : Room (k + 1) X.A) (hg : Gl X x) (hm : X.mg x = some (.ref C)) (hx : ∀ σ, PassesAt CX X σ (E σ)) (ha : PA X (e :: es) t) (hdb : (x == ("__debug__" : Str)) = false := by decide)
    (he : starEach (e :: es) X.env = (false, eval e X.env) :: starEach es X.env := by rfl) (hpl : (backTo pos (starEach es X.env)).any (·.1) = false := by rfl) : PE X (.Call (.Name x p) (e :: es) [] pos) (tMakeRT C sp E t) := by
  refine ⟨fun pins s σ H Q I h => ?_⟩
  refine wpAny_Call_Name_kw (ld_glob I hg hm ?_ hdb)
  refine PySem.W.callWith_K (h₀ := X.base) I.ok.mod.kin M.kp (thn (ha.run pos pins s σ H _ I h) fun us s1 ⟨vs, H1, I1, r, q⟩ => ⟨I1.kIn, ?_⟩) he hpl
  exact run_makeRT M F hr (hx σ) I1 r q
theorem pe_makeRT0 {E : St → XK} (M : Mk X.K C f) (F : FnR X.prog X.w X.K X.mg X.base CX k f sp) (hr : Room (k + 1) X.A) (hg : Gl X x) (hm : X.mg x = some (.ref C)) (hx : ∀ σ, PassesAt CX X σ (E σ)) (hdb : (x == ("__debug__" : Str)) = false := by decide) :
    PE X (.Call (.Name x p) [] [] pos) (tMakeRT C sp E tNil) := by
  refine ⟨fun pins s σ H Q I h => ?_⟩
  refine wpAny_Call_Name_kw (ld_glob I hg hm ?_ hdb)
  exact PySem.W.callWith_K0 I.kIn M.kp (run_makeRT M F hr (hx σ) I .nil h)
/-- y in x in a try's body, x of an own class -/
def tInT (C : Addr) (sp : Sp) (E : St → XK) (ta tb : TE) : TE := fun σ H Q => ta σ H fun y H1 => tb σ H1 fun x H2 => ∃ a dx fs, x = .ref a ∧ H2 a = some (.ins C dx fs) ∧ sp [x, y] H2 (fun v H' => ∃ b, v = .bl b ∧ Q (.bl b) H') (E σ)
theorem pe_inT {E : St → XK} {l r : Expr} {ta tb : TE} (hm : Meth X.K C "__contains__" f) (F : FnOk X.prog X.w X.K X.mg X.base CX k f fd ps sp) (hr : Room k X.A) (hb : Binds X.K fd ps []) (hx : ∀ σ, PassesAt CX X σ (E σ)) (ha : PE X l ta) (hb' : PE X r tb) (hmk : behindInMarks .In r = false) :
    PE X (.Compare l [.In] [r] pos) (tInT C sp E ta tb) := by
  refine ⟨fun pins s σ H Q I h => ?_⟩
  refine wpAny_Compare1 (binT ha hb' I h fun v u s2 y x H2 I2 ry rx q => ?_) hmk
  obtain ⟨a, dx, fs, rfl, ea, q⟩ := q
  obtain rfl : u = Value.ref a := rx
  obtain ⟨od, J⟩ := I2.instAt ea
  obtain ⟨m, fr⟩ := I2.fr
  refine PySem.W.in_K fr I2.ok.mod.kin J hm.at_ hm.fn (thn (run_fnS2 F hr hb (hx σ) I2 (.cons (show RelV (.ref a) (Value.ref a) from rfl) (.cons ry .nil)) q) fun w s' q => ?_)
  obtain ⟨v', H', I', rv, b, rfl, q⟩ := q
  obtain rfl : w = Value.bool b := rv
  exact wpAny_truthy_bool ⟨.bl b, H', I', rfl, q⟩
end
section
variable {X : Cx} {CX : CXT} {k : Nat} {f C : Addr} {fd : FuncData} {ps : List Str} {sp : Sp} {E : XK}
/-- x[y] by an own __getitem__ -/
def rIxOwn (C : Addr) (sp : Sp) (E : XK) : R2 := fun x y H Q => ∃ a dx fs i, x = .ref a ∧ H a = some (.ins C dx fs) ∧ y = .int i ∧ sp [x, y] H Q E
theorem pe_ixOwn {a b : Expr} {ta tb : TE} {pos : Pos} (hm : Meth X.K C "__getitem__" f) (hfn : PySem.W.fnIn X.K f = true) (F : FnOk X.prog X.w X.K X.mg X.base CX k f fd ps sp) (hr : Room (k + 1) X.A) (hb : Binds X.K fd ps []) (hx : Passes CX X E) (ha : PE X a ta) (hb2 : PE X b tb)
    (hs : ∀ (x : Addr) (i : Value), subscripted b true (.ref x) i = runValue (.builtin "lifetime.subscript" ⟨[.ref x, i], []⟩) := by intro _ _; rfl) : PE X (.Subscript a b pos) (tOp (rIxOwn C sp E) ta tb) := by
  refine ⟨fun pins s σ H Q I h => ?_⟩
  refine Subscript_ (binT ha hb2 I h fun v u s2 x y H2 I2 rx ry q => ?_)
  obtain ⟨a', dx, fs, i, rfl, ea, rfl, q⟩ := q
  obtain rfl : v = Value.ref a' := rx
  obtain ⟨t, rfl⟩ := (show ∃ t, u = Value.int i t from ry)
  obtain ⟨od, J⟩ := I2.instAt ea
  obtain ⟨m, fr⟩ := I2.fr
  exact PySem.W.sub_K fr I2.ok.mod.kin J hm.at_ hfn hm.fn (run_fnA (A := X.A.in1) (us := [.ref a', .int i t]) (vs := [.ref a', .int i]) (dvs := []) rfl F hr.in1 hb .nil hx I2 (.cons rfl (.cons ⟨t, rfl⟩ .nil)) q) (hs _ _)
end
end L2
namespace L2
open PySem PySem.Spec PyProof.Rows StX
theorem call_listItK {X : Cx} (K : PySem.W.Frag) {k k2 : Nat} {fi fl C : Addr} {fd fd2 : FuncData} {ps ps2 : List Str} {spI spL : Sp} (hmI : Meth X.K C "__iter__" fi) (hmL : Meth X.K C "__len__" fl) (FI : FnOk X.prog X.w X.K X.mg X.base CX0 k fi fd ps spI) (FL : FnOk X.prog X.w X.K X.mg X.base CX0 k2 fl fd2 ps2 spL)
    (bI : Binds X.K fd ps []) (bL : Binds X.K fd2 ps2 []) (hr : Room (k + 2) X.A) (hr2 : Room (k2 + 3) X.A) (hK : X.K = K := by rfl) : CallR X (.type "list") (rListIt K C spI spL) := hK ▸ call_listIt hmI hmL FI FL bI bL hr hr2
theorem call_iterTK {X : Cx} (K : PySem.W.Frag) (hK : X.K = K := by rfl) : CallR X (.builtin "iter") (rIterT K) := hK ▸ call_iterT
def spNever : Sp := fun _ _ _ _ => False
theorem dpInts {K : PySem.W.Frag} {H : Hp} : ∀ xs : List Int, DpAll K H (xs.map V.int) (xs.map PyData.int)
  | [] => .nil
  | x :: xs => .cons (.int x) (dpInts xs)
theorem eqvInts : ∀ xs ys : List Int, PyData.eqvAll (xs.map PyData.int) (ys.map PyData.int) = decide (xs = ys)
  | [], [] => by simp [PyData.eqvAll]
  | [], _ :: _ => by simp [PyData.eqvAll]
  | _ :: _, [] => by simp [PyData.eqvAll]
  | x :: xs, y :: ys => by
    simp only [List.map_cons, PyData.eqvAll, eqvInts xs ys, PyData.eqv]
    simp [List.cons.injEq, Bool.decide_and]
    rfl
theorem eqvT (xs ys : List Int) : PyData.eqv (.tuple (xs.map PyData.int)) (.tuple (ys.map PyData.int)) = decide (xs = ys) := by simp only [PyData.eqv]; exact eqvInts xs ys
theorem eqvL (xs ys : List Int) : PyData.eqv (.list (xs.map PyData.int)) (.list (ys.map PyData.int)) = decide (xs = ys) := by simp only [PyData.eqv]; exact eqvInts xs ys
theorem layInts : ∀ xs : List Int, PyData.canLayAll0 (xs.map PyData.int) = true
  | [] => rfl
  | x :: xs => by
    show (PyData.canLay0 (PyData.int x) && PyData.canLayAll0 (xs.map PyData.int)) = true
    rw [layInts xs]; rfl
theorem depInts : ∀ xs : List Int, PyData.depthAll (xs.map PyData.int) = 0
  | [] => rfl
  | x :: xs => by
    simp only [List.map_cons, PyData.depthAll, depInts xs, PyData.depth]
    rfl
theorem shT (xs : List Int) : SeqAt.shaped (.tuple (xs.map PyData.int)) = true := by
  unfold SeqAt.shaped
  simp only [PyData.canLay0, PyData.depth, layInts, depInts]
  rfl
theorem shL (xs : List Int) : SeqAt.shaped (.list (xs.map PyData.int)) = true := by
  unfold SeqAt.shaped
  simp only [PyData.canLay0, PyData.depth, layInts, depInts]
  rfl
theorem same_put {H H' : Hp} {D : Addr} {o : HO} (s : Same H H') (h : H D = none) : Same H (upd H' D o) := fun b u e => by
  rw [upd_ne (fun z => by rw [z, h] at e; cases e)]
  exact s b u e
end L2
namespace L2
open PySem PySem.Spec PyProof.Rows StX
def rTupOf (K : PySem.W.Frag) : List V → Hp → VK → Prop := fun xs H Q => ∃ p ys, xs = [.ref p] ∧ ((SqL K H p ys ∧ ∀ l, H l = none → Q (.ref l) (upd H l (.tup ys))) ∨ (SqT K H p ys ∧ Q (.ref p) H))
theorem call_tuple_ofK {X : Cx} (K : PySem.W.Frag) (hK : X.K = K := by rfl) : CallR X (.type "tuple") (rTupOf K) := hK ▸ call_tuple_of
theorem sl_listK {X : Cx} (K : PySem.W.Frag) (hK : X.K = K := by rfl) : SlR X (rSlL K) := hK ▸ sl_list
end L2
/-! plain mathematics: lowest terms, Euclid's steps -/
namespace L2
/-- (t, b) is T / B in lowest terms -/
structure Rep (t b T B : Int) : Prop where
  pos : 1 ≤ b
  cross : t * B = T * b
  cop : Nat.gcd t.natAbs b.natAbs = 1
  st : t.natAbs ≤ T.natAbs
  sb : b.natAbs ≤ B.natAbs
theorem rep_of {T B : Int} (hB : B ≠ 0) {g : Nat} (hg : g = Nat.gcd T.natAbs B.natAbs) {f : Int} (hf : f = if B < 0 then -(g : Int) else (g : Int)) : f ≠ 0 ∧ f.natAbs ≤ B.natAbs ∧ Rep (T.fdiv f) (B.fdiv f) T B := by
  have hb0 : 0 < B.natAbs := Int.natAbs_pos.mpr hB
  have g0 : 0 < g := by rw [hg]; exact Nat.gcd_pos_of_pos_right _ hb0
  have gle : g ≤ B.natAbs := by rw [hg]; exact Nat.gcd_le_right _ hb0
  have d1 : (g : Int) ∣ T := by
    rw [hg]; exact Int.ofNat_dvd_left.mpr (Nat.gcd_dvd_left _ _)
  have d2 : (g : Int) ∣ B := by
    rw [hg]; exact Int.ofNat_dvd_left.mpr (Nat.gcd_dvd_right _ _)
  obtain ⟨t1, e1⟩ := d1
  obtain ⟨b1, e2⟩ := d2
  have gi : (g : Int) ≠ 0 := by omega
  have cop : Nat.gcd t1.natAbs b1.natAbs = 1 := by
    have h : g = g * Nat.gcd t1.natAbs b1.natAbs := by
      have : Nat.gcd T.natAbs B.natAbs = g * Nat.gcd t1.natAbs b1.natAbs := by
        rw [e1, e2, Int.natAbs_mul, Int.natAbs_mul, Int.natAbs_natCast, Nat.gcd_mul_left]
      rw [← hg] at this; exact this
    have h' : g * 1 = g * Nat.gcd t1.natAbs b1.natAbs := by rw [Nat.mul_one]; exact h
    exact (Nat.eq_of_mul_eq_mul_left g0 h').symm
  have st : t1.natAbs ≤ T.natAbs := by rw [e1, Int.natAbs_mul, Int.natAbs_natCast]; exact Nat.le_mul_of_pos_left _ g0
  have sb : b1.natAbs ≤ B.natAbs := by rw [e2, Int.natAbs_mul, Int.natAbs_natCast]; exact Nat.le_mul_of_pos_left _ g0
  by_cases hn : B < 0
  · rw [if_pos hn] at hf
    have ft : T.fdiv f = -t1 := by
      rw [hf, e1, show (g : Int) * t1 = -(g : Int) * (-t1) by rw [Int.neg_mul_neg]]
      exact Int.mul_fdiv_cancel_left _ (by omega)
    have fb : B.fdiv f = -b1 := by
      rw [hf, e2, show (g : Int) * b1 = -(g : Int) * (-b1) by rw [Int.neg_mul_neg]]
      exact Int.mul_fdiv_cancel_left _ (by omega)
    have hb1 : b1 < 0 := by
      have q : (g : Int) * b1 < (g : Int) * 0 := by rw [Int.mul_zero, ← e2]; exact hn
      exact Int.lt_of_mul_lt_mul_left q (by omega)
    refine ⟨by omega, by rw [hf, Int.natAbs_neg, Int.natAbs_natCast]; exact gle, ?_⟩
    rw [ft, fb]
    refine ⟨by omega, ?_, by rw [Int.natAbs_neg, Int.natAbs_neg]; exact cop, by rw [Int.natAbs_neg]; exact st, by rw [Int.natAbs_neg]; exact sb⟩
    rw [e1, e2, Int.neg_mul, Int.mul_neg, Int.mul_assoc, Int.mul_left_comm]
  · rw [if_neg hn] at hf
    have ft : T.fdiv f = t1 := by rw [hf, e1]; exact Int.mul_fdiv_cancel_left _ gi
    have fb : B.fdiv f = b1 := by rw [hf, e2]; exact Int.mul_fdiv_cancel_left _ gi
    have hb1 : 0 < b1 := by
      have q : (g : Int) * 0 < (g : Int) * b1 := by rw [Int.mul_zero, ← e2]; omega
      exact Int.lt_of_mul_lt_mul_left q (by omega)
    refine ⟨by omega, by rw [hf, Int.natAbs_natCast]; exact gle, ?_⟩
    rw [ft, fb]
    refine ⟨by omega, ?_, cop, st, sb⟩
    rw [e1, e2, Int.mul_assoc, Int.mul_left_comm]
/-- lowest terms are the only ones -/
theorem rep_uniq {t b t' b' : Int} (h : 1 ≤ b) (h' : 1 ≤ b') (c : Nat.gcd t.natAbs b.natAbs = 1) (c' : Nat.gcd t'.natAbs b'.natAbs = 1) (e : t * b' = t' * b) : t = t' ∧ b = b' := by
  have e1 : t.natAbs * b'.natAbs = t'.natAbs * b.natAbs := by rw [← Int.natAbs_mul, ← Int.natAbs_mul, e]
  have d1 : b.natAbs ∣ b'.natAbs := by
    refine Nat.Coprime.dvd_of_dvd_mul_left (k := b.natAbs) (m := t.natAbs) ?_ ?_
    · show Nat.gcd b.natAbs t.natAbs = 1
      rw [Nat.gcd_comm]; exact c
    · rw [e1]; exact Nat.dvd_mul_left _ _
  have d2 : b'.natAbs ∣ b.natAbs := by
    refine Nat.Coprime.dvd_of_dvd_mul_left (k := b'.natAbs) (m := t'.natAbs) ?_ ?_
    · show Nat.gcd b'.natAbs t'.natAbs = 1
      rw [Nat.gcd_comm]; exact c'
    · rw [← e1]; exact Nat.dvd_mul_left _ _
  have eb := Nat.dvd_antisymm d1 d2
  have eb' : b = b' := by omega
  subst eb'
  exact ⟨Int.eq_of_mul_eq_mul_right (by omega) e, rfl⟩
/-! ### Euclid -/
def Euc (a b i : Nat) : Prop := (i = 0 ∧ b < 2 ^ 200) ∨ (1 ≤ i ∧ b < a ∧ a * b * 2 ^ (i - 1) ≤ 2 ^ 400)
theorem Euc.turn {a b i : Nat} (h : Euc a b i) (hb : b ≠ 0) : Euc b (a % b) (i + 1) ∧ i ≤ 401 := by
  have hm : a % b < b := Nat.mod_lt _ (Nat.pos_of_ne_zero hb)
  rcases h with ⟨rfl, h⟩ | ⟨h1, h2, h3⟩
  · refine ⟨.inr ⟨Nat.le_refl _, hm, ?_⟩, Nat.zero_le _⟩
    show b * (a % b) * 2 ^ 0 ≤ 2 ^ 400
    have : b * (a % b) ≤ 2 ^ 200 * 2 ^ 200 := Nat.mul_le_mul (Nat.le_of_lt h) (Nat.le_of_lt (Nat.lt_trans hm h))
    rw [Nat.pow_zero, Nat.mul_one]
    rw [← Nat.pow_add] at this
    exact this
  · refine ⟨.inr ⟨by omega, hm, ?_⟩, ?_⟩
    · obtain ⟨j, rfl⟩ : ∃ j, i = j + 1 := ⟨i - 1, by omega⟩
      show b * (a % b) * 2 ^ (j + 1) ≤ 2 ^ 400
      have h2' : 2 * (a % b) ≤ a := by
        have e := Nat.div_add_mod a b
        have q : 1 ≤ a / b := Nat.div_pos (Nat.le_of_lt h2) (Nat.pos_of_ne_zero hb)
        have : b * 1 ≤ b * (a / b) := Nat.mul_le_mul_left _ q
        omega
      have e : b * (a % b) * 2 ^ (j + 1) = (b * (2 * (a % b))) * 2 ^ j := by
        rw [Nat.pow_succ, Nat.mul_comm (2 ^ j) 2, ← Nat.mul_assoc, Nat.mul_assoc b, Nat.mul_comm (a % b) 2]
      rw [e]
      refine Nat.le_trans (Nat.mul_le_mul_right _ (Nat.mul_le_mul_left b h2')) ?_
      rw [Nat.mul_comm b a]
      exact h3
    · have : 1 * 1 * 2 ^ (i - 1) ≤ a * b * 2 ^ (i - 1) := Nat.mul_le_mul_right _ (Nat.mul_le_mul (by omega) (by omega))
      simp only [Nat.one_mul] at this
      have q : i - 1 ≤ 400 := (Nat.pow_le_pow_iff_right (by decide)).mp (Nat.le_trans this h3)
      omega
theorem pow_le {m n : Nat} (h : m ≤ n) : (1000 : Int) ^ m ≤ 1000 ^ n := by
  induction h with
  | refl => exact Int.le_refl _
  | step h ih =>
    rename_i k
    have p : ∀ j : Nat, (0 : Int) ≤ 1000 ^ j := fun j => by
      induction j with
      | zero => decide
      | succ j ih => rw [Int.pow_succ]; omega
    rw [Nat.succ_eq_add_one, Int.pow_succ]
    have := p k
    omega
end L2
namespace L2
open PySem PySem.Spec PyProof.Rows StX
theorem upd_fr {H : Hp} {p q : Addr} {o u : HO} (e : H q = some u) (hp : H p = none) : upd H p o q = some u := by rw [upd_ne (ne_of_none e hp)]; exact e
theorem upd_df {H : Hp} {p q : Addr} {o u : HO} (e : H q = some u) (n : q ≠ p) : upd H p o q = some u := by rw [upd_ne n]; exact e
theorem none_ne {H : Hp} {a b : Addr} {o : HO} (h' : H b = none) (h : H a = some o) : a ≠ b := ne_of_none h h'
theorem same_nw {H H' : Hp} {p : Addr} {o : HO} (s : Same H H') (h : H' p = none) : Same H (upd H' p o) := s.trans (same_new h)
theorem but_nw {q : Addr} {H H' : Hp} {p : Addr} {o : HO} (s : SameBut q H H') (h : H' p = none) : SameBut q H (upd H' p o) := s.trans (same_new h).but
theorem but_own {p : Addr} {H H' : Hp} {o : HO} (s : SameBut p H H') : SameBut p H (upd H' p o) := s.trans sameBut_upd
theorem put_but {p D : Addr} {H0 H' : Hp} {o : HO} (s : SameBut p H0 H') (hD : H0 D = none) : SameBut p H0 (upd H' D o) := fun b u n e => by
  rw [upd_ne (fun z => by rw [z, hD] at e; cases e)]
  exact s b u n e
theorem iteB {c : Bool} {A B : Prop} (h1 : c = true → A) (h2 : c = false → B) : if c = true then A else B := by
  cases c with
  | true => rw [if_pos rfl]; exact h1 rfl
  | false => rw [if_neg (by decide)]; exact h2 rfl
theorem eq_int {a b : Int} (h : V.int a = V.int b) : a = b := by injection h
theorem ne_int {a b : Int} (h : ¬ V.int a = V.int b) : ¬ a = b := fun e => h (by rw [e])
theorem iteI {a b : Int} {A B : Prop} (h1 : a = b → A) (h2 : ¬ a = b → B) : if decide (V.int a = V.int b) = true then A else B := iteD (fun e => h1 (eq_int e)) fun e => h2 (ne_int e)
theorem iteIN {a b : Int} {A B : Prop} (h1 : ¬ a = b → A) (h2 : a = b → B) : if (!decide (V.int a = V.int b)) = true then A else B := iteDN (fun e => h2 (eq_int e)) fun e => h1 (ne_int e)
theorem lc_put {H H' : Hp} {D : Addr} {vs : List V} {i : Nat} {v : V} (hD : H D = none) (s : Same H H') (e : H' D = some (.lst (vs.take i))) (hv : vs[i]? = some v) (hz : vs.length ≤ 1000) :
    ∃ acc, H' D = some (.lst acc) ∧ acc.length < sizeLine ∧ (Same H (upd H' D (.lst (acc ++ [v]))) ∧ upd H' D (.lst (acc ++ [v])) D = some (.lst (vs.take (i + 1)))) := by
  refine ⟨_, e, by rw [sizeLine_eq, List.length_take]; omega, same_put s hD, ?_⟩
  rw [upd_same, List.take_succ, hv]
  rfl
theorem take_all {vs : List V} {n : Nat} (h : vs.length ≤ n) : vs.take n = vs := List.take_of_length_le h
end L2
namespace L2
open PySem PySem.Spec PyProof.Rows StX
theorem lc_end {H' : Hp} {D : Addr} {vs : List V} {i : Nat} {v : V} (hv : vs[i]? = some v) : upd H' D (.lst (vs.take i ++ [v])) D = some (.lst (vs.take (i + 1))) := by
  rw [upd_same, List.take_succ, hv]
  rfl
theorem at_int {xs : List Int} {i : Nat} {z : Int} (h : xs[i]? = some z) : atI (xs.map V.int) ((0 : Int) + (i : Nat)) = some (.int z) := by
  rw [Int.zero_add]; exact atI_nat (by rw [List.getElem?_map, h]; rfl)
theorem get_mm {xs : List Int} {f : Int → Int} {i : Nat} {z w : Int} (h : xs[i]? = some z) (e : f z = w) : ((xs.map f).map V.int)[i]? = some (.int w) := by
  rw [List.getElem?_map, List.getElem?_map, h, ← e]; rfl
theorem get_zz {xs ys : List Int} {f : Int → Int → Int} {i : Nat} {z u w : Int} (h : xs[i]? = some z) (g : ys[i]? = some u) (e : f z u = w) : ((List.zipWith f xs ys).map V.int)[i]? = some (.int w) := by
  rw [List.getElem?_map, List.getElem?_zipWith, h, g, ← e]; rfl
end L2
namespace L2
open PySem PySem.Spec PyProof.Rows StX
theorem flat_str (ns : List Str) : (ns.map V.str).all flatV = true := by
  rw [List.all_eq_true]; intro v hv; obtain ⟨z, _, rfl⟩ := List.mem_map.mp hv; rfl
theorem flat_int (ns : List Int) : (ns.map V.int).all flatV = true := by
  rw [List.all_eq_true]; intro v hv; obtain ⟨z, _, rfl⟩ := List.mem_map.mp hv; rfl
theorem inV_strs (x : Str) : ∀ ns : List Str, inV (.str x) (ns.map V.str) = decide (x ∈ ns)
  | [] => rfl
  | n :: ns => by
    have ih := inV_strs x ns
    unfold inV at *
    rw [List.map_cons, List.any_cons, ih]
    by_cases h : x = n
    · subst h
      simp [eqV]
    · have : decide (x ∈ n :: ns) = decide (x ∈ ns) := by simp [h]
      rw [this]
      have e : eqV (.str n) (.str x) = false := by
        simp [eqV]
        intro hh; exact h hh.symm
      first
      | rw [e, Bool.false_or]
      | (have e2 : eqV (.str x) (.str n) = false := by
          simp [eqV]
          exact h
         rw [e2, Bool.false_or])
end L2
namespace L2
open PySem PySem.Spec PyProof.Rows StX
theorem inV_kv (x : Str) (ns : List Str) : inV (kV (Sum.inr x)) (ns.map V.str) = decide (x ∈ ns) := inV_strs x ns
theorem valV_kv (n : Str) : ∀ kvs : List (Str × Int), (valV (kvs.map fun p => ((Sum.inr p.1 : Key), V.int p.2)) (Sum.inr n)) = ((kvs.find? fun p => decide (p.1 = n)).map (·.2)).map V.int
  | [] => rfl
  | p :: kvs => by
    have ih := valV_kv n kvs
    unfold valV at *
    rw [List.map_cons, List.find?_cons, List.find?_cons]
    by_cases h : p.1 = n
    · have e1 : decide ((Sum.inr p.1 : Key) = Sum.inr n) = true := decide_eq_true (by rw [h])
      have e2 : decide (p.1 = n) = true := decide_eq_true h
      simp only [e1, e2]
      rfl
    · have e1 : decide ((Sum.inr p.1 : Key) = Sum.inr n) = false := decide_eq_false (fun e => h (by injection e))
      have e2 : decide (p.1 = n) = false := decide_eq_false h
      simp only [e1, e2]
      exact ih
end L2
namespace L2
open PySem PySem.Spec PyProof.Rows StX
theorem dpStrs {K : PySem.W.Frag} {H : Hp} : ∀ xs : List Str, DpAll K H (xs.map V.str) (xs.map PyData.str)
  | [] => .nil
  | x :: xs => .cons (.str x) (dpStrs xs)
theorem eqvStrs : ∀ xs ys : List Str, PyData.eqvAll (xs.map PyData.str) (ys.map PyData.str) = decide (xs = ys)
  | [], [] => by simp [PyData.eqvAll]
  | [], _ :: _ => by simp [PyData.eqvAll]
  | _ :: _, [] => by simp [PyData.eqvAll]
  | x :: xs, y :: ys => by
    simp only [List.map_cons, PyData.eqvAll, eqvStrs xs ys, PyData.eqv]
    by_cases h : x = y
    · subst h; simp
    · simp [h]
theorem eqvSL (xs ys : List Str) : PyData.eqv (.list (xs.map PyData.str)) (.list (ys.map PyData.str)) = decide (xs = ys) := by simp only [PyData.eqv]; exact eqvStrs xs ys
theorem eqvST (xs ys : List Str) : PyData.eqv (.tuple (xs.map PyData.str)) (.tuple (ys.map PyData.str)) = decide (xs = ys) := by simp only [PyData.eqv]; exact eqvStrs xs ys
theorem eqvSL0 (xs : List Str) : PyData.eqv (.list (xs.map PyData.str)) (.list []) = decide (xs = []) := eqvSL xs []
theorem layStrs : ∀ xs : List Str, (∀ s ∈ xs, PyData.strOk s = true) → PyData.canLayAll0 (xs.map PyData.str) = true
  | [], _ => rfl
  | x :: xs, h => by
    show (PyData.strOk x && PyData.canLayAll0 (xs.map PyData.str)) = true
    rw [layStrs xs (fun s hs => h s (List.mem_cons_of_mem _ hs)), h x List.mem_cons_self]; rfl
theorem depStrs : ∀ xs : List Str, PyData.depthAll (xs.map PyData.str) = 0
  | [] => rfl
  | x :: xs => by
    simp only [List.map_cons, PyData.depthAll, depStrs xs, PyData.depth]
    rfl
theorem shSL {xs : List Str} (h : ∀ s ∈ xs, PyData.strOk s = true) : SeqAt.shaped (.list (xs.map PyData.str)) = true := by
  unfold SeqAt.shaped
  simp only [PyData.canLay0, PyData.depth, layStrs xs h, depStrs]
  rfl
theorem shST {xs : List Str} (h : ∀ s ∈ xs, PyData.strOk s = true) : SeqAt.shaped (.tuple (xs.map PyData.str)) = true := by
  unfold SeqAt.shaped
  simp only [PyData.canLay0, PyData.depth, layStrs xs h, depStrs]
  rfl
theorem at_ex {α : Type} {xs : List α} {r : Int} (h0 : 0 ≤ r) (h1 : r < xs.length) : ∃ c, atI xs r = some c := by
  obtain ⟨n, rfl⟩ : ∃ n : Nat, r = (n : Int) := ⟨r.toNat, by omega⟩
  exact ⟨xs[n]'(by omega), atI_nat (List.getElem?_eq_getElem (by omega))⟩
end L2
namespace L2
open PySem PySem.Spec PyProof.Rows StX
theorem but_same {H H1 H2 : Hp} {d : Addr} (s : Same H H1) (hd : H d = none) (b : SameBut d H1 H2) : Same H H2 := fun q o e => b q o (fun z => by rw [z, hd] at e; cases e) (s q o e)
end L2
namespace L2
open PySem PySem.Spec PyProof.Rows StX
theorem but_free {p q : Addr} {H H' : Hp} (s : SameBut p H H') (n : q ≠ p) (h : H' q = none) : H q = none := by
  cases e : H q with
  | none => rfl
  | some o => rw [s q o n e] at h; cases h
end L2
namespace L2
open PySem PySem.Spec PyProof.Rows StX
theorem erase_perm {α : Type} : ∀ (l : List α) (i : Nat) (h : i < l.length), (l[i] :: l.eraseIdx i).Perm l
  | a :: l, 0, _ => .refl _
  | a :: l, i + 1, h => by
    have hi : i < l.length := by simpa using h
    have ih := erase_perm l i hi
    show (l[i]'hi :: a :: l.eraseIdx i).Perm (a :: l)
    exact (List.Perm.swap _ _ _).trans (ih.cons a)
theorem map_erase {α β : Type} (f : α → β) : ∀ (l : List α) (i : Nat), (l.map f).eraseIdx i = (l.eraseIdx i).map f
  | [], _ => by simp
  | a :: l, 0 => rfl
  | a :: l, i + 1 => by
    show f a :: (l.map f).eraseIdx i = f a :: (l.eraseIdx i).map f
    rw [map_erase f l i]
end L2
namespace L2
open PySem PySem.Spec PyProof.Rows StX
theorem at_ref {L : List Addr} {w : Nat} (h : w < L.length) : atI (L.map V.ref) ((0 : Int) + (w : Nat)) = some (.ref (L.getD w 0)) := by
  rw [Int.zero_add]
  refine atI_nat ?_
  rw [List.getElem?_map, List.getElem?_eq_getElem h, List.getD_eq_getElem?_getD, List.getElem?_eq_getElem h]
  rfl
theorem str_ok {s : Str} (h : s.cps.all (· < 0x110000) = true) : PyData.strOk s = true := h
end L2
namespace L2
open PySem PySem.Spec PyProof.Rows StX
theorem eqv00 : PyData.eqv (.list []) (.list []) = true := by simp [PyData.eqv, PyData.eqvAll]
end L2
namespace L2
open PySem PySem.Spec PyProof.Rows StX
/-- `if c: R`, where c comes out false: what follows is read once, from any heap that the test may leave -/
theorem skip_if (G : Hp → Prop) {c : TT} {R rest : TS} {D : Ends} {σ : L2.St} {H : Hp} (h : ∀ Q : Bool → Hp → Prop, (∀ H', G H' → Q false H') → c σ H Q) (k : ∀ H', G H' → rest D σ H') : tSeq (tIfS c R tNext) rest D σ H :=
  h _ fun H' g => iteF (k H' g)
theorem skip_last (G : Hp → Prop) {c : TT} {R : TS} {D : Ends} {σ : L2.St} {H : Hp} (h : ∀ Q : Bool → Hp → Prop, (∀ H', G H' → Q false H') → c σ H Q) (k : ∀ H', G H' → D.nx σ H') : tIfS c R tNext D σ H :=
  h _ fun H' g => iteF (k H' g)
end L2
/-! a static method read off its class and called with keywords that a `**d` takes -/
namespace L2
open PySem PySem.Spec PyProof.Rows StX
theorem push_update {h : Heap} {o : Obj} {f : Obj → Obj} : (h.push o).update h.objs.size f = h.push (f o) := by
  obtain ⟨objs, l⟩ := h
  show Heap.mk ((objs.push o).modify objs.size f) l = Heap.mk (objs.push (f o)) l
  congr 1
  apply Array.ext
  · simp
  · intro i h1 h2
    rw [Array.getElem_modify]
    by_cases hi : objs.size = i
    · subst hi
      simp
    · have : i < objs.size := by simp at h2; omega
      simp [hi, Array.getElem_push, this]
theorem nsSet_push {prog : Program} {w : World} {A : Around} {E : Value → Shared → Prop} {hp : Heap} {g : Shared} {es : List DictEntry} {n : Nat} {k : Str} {v : Value} {Q : Unit → Shared → Prop}
    (hs : ∀ e ∈ es, e.key.isStr k = false) (hr : ∀ e ∈ es, e.refKey = false)
    (h : Q () { g with heap := hp.push (PySem.W.dictOf (es ++ [⟨PyData.keyHash w.params k, .str k g.toks, v⟩]) (n + 1)), toks := g.toks + 1 }) :
    wpAny (model prog w) A (nsSet hp.objs.size k v) Q E { g with heap := hp.push (PySem.W.dictOf es n) } := by
  have e1 : es.any (·.key.isStr k) = false := by
    cases q : es.any (·.key.isStr k) with
    | false => rfl
    | true => obtain ⟨e, he, z⟩ := List.any_eq_true.mp q; rw [hs e he] at z; cases z
  have e2 : es.any (·.refKey) = false := by
    cases q : es.any (·.refKey) with
    | false => rfl
    | true => obtain ⟨e, he, z⟩ := List.any_eq_true.mp q; rw [hr e he] at z; cases z
  have e : Obj.putName k (PyData.keyHash w.params k) (.str k g.toks) v (PySem.W.dictOf es n) = PySem.W.dictOf (es ++ [⟨PyData.keyHash w.params k, .str k g.toks, v⟩]) (n + 1) := by
    rw [PySem.W.putName_dict, PySem.W.putL_new hs]
    show PySem.W.dictOf _ (if es.any (·.key.isStr k) then n else n + 1) = _
    rw [e1, if_neg Bool.false_ne_true]
  have D : (hp.push (PySem.W.dictOf es n)).get? hp.objs.size = some (PySem.W.dictOf es n) := Heap.get?_push_size _ rfl
  have c : aRefKeyMayBeTheName k es.toArray = false := by
    rw [aRefKeyMayBeTheName_at, ← Array.any_toList, ← Array.any_toList]
    show (!es.any (·.key.isStr k) && es.any (·.refKey)) = false
    rw [e2, Bool.and_false]
  unfold nsSet
  refine wpAny_bind (wpAny_bind (wpAny_askSetting (wpAny_pure (wpAny_bind (wpAny_mkText (wpAny_bind (wpAny_loadPart D ?_)))))))
  dsimp only
  rw [c]
  refine wpAny_updatePart D ?_
  show Q () { g with heap := (hp.push (PySem.W.dictOf es n)).update hp.objs.size (Obj.putName k (PyData.keyHash w.params k) (.str k g.toks) v), toks := g.toks + 1 }
  rw [push_update, e]
  exact h
theorem fill_push {prog : Program} {w : World} {A : Around} {E : Value → Shared → Prop} {hp : Heap} {Q : PUnit → Shared → Prop} : ∀ (ex : List (Str × Value)) (g : Shared) (es : List DictEntry) (n : Nat),
    (∀ e ∈ es, ∀ x ∈ ex, e.key.isStr x.1 = false) → (∀ e ∈ es, e.refKey = false) → (ex.map (·.1)).Nodup →
    Q ⟨⟩ { g with heap := hp.push (PySem.W.dictOf (es ++ PySem.W.kwEs w.params g.toks ex) (n + ex.length)), toks := g.toks + ex.length } →
    wpAny (model prog w) A (forIn ex PUnit.unit fun x _ => (nsSet hp.objs.size x.1 x.2 >>= fun _ => pure (ForInStep.yield PUnit.unit))) Q E { g with heap := hp.push (PySem.W.dictOf es n) }
  | [], g, es, n, _, _, _, h => by
    rw [List.forIn_nil]
    refine wpAny_pure ?_
    have h' : Q ⟨⟩ { g with heap := hp.push (PySem.W.dictOf (es ++ []) n) } := h
    rw [List.append_nil] at h'
    exact h'
  | x :: r, g, es, n, hs, hr, hn, h => by
    obtain ⟨hn1, hn2⟩ := List.nodup_cons.mp (show (x.1 :: r.map (·.1)).Nodup from hn)
    rw [List.forIn_cons]
    refine wpAny_bind (wpAny_bind (nsSet_push (fun e he => hs e he x (.head _)) hr (wpAny_pure ?_)))
    show wpAny (model prog w) A (forIn r PUnit.unit fun x _ => (nsSet hp.objs.size x.1 x.2 >>= fun _ => pure (ForInStep.yield PUnit.unit))) Q E { ({ g with toks := g.toks + 1 } : Shared) with heap := hp.push (PySem.W.dictOf (es ++ [⟨PyData.keyHash w.params x.1, .str x.1 g.toks, x.2⟩]) (n + 1)) }
    refine fill_push r { g with toks := g.toks + 1 } _ _ (fun e he y hy => ?_) (fun e he => ?_) hn2 ?_
    · rcases List.mem_append.mp he with he | he
      · exact hs e he y (.tail _ hy)
      · obtain rfl := List.mem_singleton.mp he
        show (x.1 == y.1) = false
        exact beq_eq_false_iff_ne.mpr fun q => hn1 (by rw [q]; exact List.mem_map_of_mem hy)
    · rcases List.mem_append.mp he with he | he
      · exact hr e he
      · obtain rfl := List.mem_singleton.mp he
        rfl
    · have t1 : g.toks + 1 + r.length = g.toks + (r.length + 1) := by omega
      have t2 : n + 1 + r.length = n + (r.length + 1) := by omega
      show Q ⟨⟩ { g with heap := hp.push (PySem.W.dictOf ((es ++ [⟨PyData.keyHash w.params x.1, .str x.1 g.toks, x.2⟩]) ++ PySem.W.kwEs w.params (g.toks + 1) r) (n + 1 + r.length)), toks := g.toks + 1 + r.length }
      rw [t1, t2, List.append_assoc]
      exact h
end L2
namespace L2
open PySem PySem.Spec PyProof.Rows StX
def FnKw (P : Program) (w : World) (K : PySem.W.Frag) (mg : Str → Option Value) (base : Heap) (CX : CXT) (k : Nat) (f : Addr) (ks : List Str) (sp : Sp) : Prop :=
  ∀ (A : Around) (outer : List Env) (s : Shared) (H : Hp) (u : Value) (ws : List Value) (v : V) (zs : List V) (Q : VK) (E : XK), Room k A → Env0 P w K mg base A outer s H → RelV v u → Vals zs ws → zs.length = ks.length → sp (v :: zs) H Q E →
    codeAny (model P w) A (.call (.ref f) ⟨[u], ks.zip ws⟩) (CR CX outer P w H s Q E) s
/-- what such a call asks: the body's promise with the new dict -/
def spKw (ks : List Str) (sp : Sp) : Sp := fun vs H Q E => ∃ v zs, vs = v :: zs ∧ ∀ d, H d = Option.none → sp [v, V.ref d] (upd H d (.dK ((ks.map Sum.inr).zip zs))) Q E
section
variable {CX : CXT} {P : Program} {w : World} {K : PySem.W.Frag} {mg : Str → Option Value} {base : Heap} {k : Nat} {f : Addr} {name qual : Str} {params : Arguments} {body : List Stmt} {scope : Scope} {dV kV doc pm cdv ct oc : Value} {an od : Option Addr}
  {osl : Array (Option Value)} {N : List Str} {sp : Sp} {ks : List Str} {p1 pd : Str}
theorem kw_pairs : ∀ (ks : List Str) (ws : List Value) (t : Tok), ws.length = ks.length → Pairs (mixKind P w) (PySem.W.kwEs w.params t (ks.zip ws)) ((ks.map (Sum.inr (α := Int))).zip ws)
  | [], [], _, _ => Pairs.nil
  | x :: r, u :: us, t, e => Pairs.cons (show (keyIs (.inr x) (.str x t)) = true from PySem.strKind_is P w x t) rfl (kw_pairs r us (t + 1) (by simpa using e))
theorem kv_zip : ∀ (ks : List Str) (zs : List V) (ws : List Value), zs.length = ks.length → Vals zs ws → KV ((ks.map (Sum.inr (α := Int))).zip zs) ((ks.map (Sum.inr (α := Int))).zip ws)
  | [], [], _, _, .nil => .nil
  | x :: r, z :: zs, _, e, .cons h t => .cons ⟨rfl, h⟩ (kv_zip r zs _ (by simpa using e) t)
theorem fn_kw1 (lk : K.lookup f = some ⟨oc, od, .func (PySem.W.fnOf name qual params body scope dV kV doc pm an cdv ct), osl⟩) (hcd : PySem.W.codeIn K cdv qual = true) (S : FnScope N [p1, pd] scope) (hCX : CXUp CX) (hn : ks.Nodup) (hz : ks.length ≤ sizeLine)
    (hb : ∀ (u : Value) (ws : List Value), ws.length = ks.length → bindArgs (PySem.W.fnOf name qual params body scope dV kV doc pm an cdv ct) ⟨[u], ks.zip ws⟩ =
      ((alloc (PySem.W.dictOf [] 0) : Sem Addr) >>= fun d => (forIn (ks.zip ws) PUnit.unit fun x _ => (nsSet d x.1 x.2 >>= fun _ => pure (ForInStep.yield PUnit.unit))) >>= fun _ => pure [(p1, u), (pd, Value.ref d)]))
    (hbody : ∀ (A : Around) (outer : List Env) (s : Shared) (H : Hp) (vs : List V) (Q : VK) (E : XK), Room k (A.deeper (envOfC qual scope s.heap.objs.size f cdv)) → sp vs H Q E →
      ∃ t, PSs (cxOf CX P w K mg base N qual scope f cdv A outer s H E) body t ∧ t { nx := fun _ H' => Q .non H', rt := Q } (start N vs) H) :
    FnKw P w K mg base CX (k + 1) f ks (spKw ks sp) := by
  intro A outer s H u ws v zs Q E hr e0 ru r hl hsp
  obtain ⟨v', zs', ev, hq⟩ := hsp
  cases ev
  have hlw : ws.length = ks.length := by rw [← r.length]; exact hl
  have hnH : H s.heap.objs.size = Option.none := e0.hok.fresh (Nat.le_refl _)
  refine run_bnd lk hcd S hr e0 (G := fun xs H2 => ∃ d, H d = Option.none ∧ xs = [v, V.ref d] ∧ H2 = upd H d (.dK ((ks.map Sum.inr).zip zs))) (fun A' Ex Q' h => ?_) fun s2 H2 xs ⟨d, hd, ex, eH⟩ hr' => ?_
  · rw [hb u ws hlw]
    refine wpAny_bind (wpAny_alloc ?_)
    have hnd : ((ks.zip ws).map (·.1)).Nodup := by
      rw [List.map_fst_zip (by omega)]
      exact hn
    refine wpAny_bind (fill_push (hp := s.heap) (ks.zip ws) s [] 0 (fun _ he => nomatch he) (fun _ he => nomatch he) hnd (wpAny_pure ?_))
    have hds : (s.heap.objs.size == sysModules) = false := beq_eq_false_iff_ne.mpr (Ne.symm (Nat.ne_of_lt (env0_big e0)))
    have hzl : ((ks.map (Sum.inr (α := Int))).zip zs).length ≤ sizeLine := by
      rw [List.length_zip, List.length_map]
      omega
    have nd2 : (((ks.map (Sum.inr (α := Int))).zip ws).map (·.1)).Nodup := by
      rw [List.map_fst_zip (by rw [List.length_map]; omega)]
      exact List.pairwise_map.mpr (List.Pairwise.imp (fun h e => h (by injection e)) hn)
    have dd : (s.heap.push (PySem.W.dictOf ([] ++ PySem.W.kwEs w.params s.toks (ks.zip ws)) (0 + (ks.zip ws).length))).DictOf (mixKind P w) s.heap.objs.size ((ks.map Sum.inr).zip ws) :=
      ⟨_, (PySem.W.kwEs w.params s.toks (ks.zip ws)).toArray, _, Heap.get?_push_size _ rfl, ⟨rfl, rfl, rfl⟩, rfl, fun e he => by
        obtain ⟨x, t, hk, hh⟩ := PySem.W.kwEs_key (ks.zip ws) s.toks e (List.mem_toArray.mp he)
        exact ⟨Sum.inr x, by rw [hk]; exact PySem.strKind_is P w x t, hh.trans rfl⟩, kw_pairs ks ws s.toks hlw, nd2⟩
    have new : ObjOk P w (upd H s.heap.objs.size (.dK ((ks.map Sum.inr).zip zs))) (s.heap.push (PySem.W.dictOf ([] ++ PySem.W.kwEs w.params s.toks (ks.zip ws)) (0 + (ks.zip ws).length))) s.heap.objs.size (.dK ((ks.map Sum.inr).zip zs)) :=
      dk_new hzl hds (kv_zip ks zs ws hl r) dd
    have un := un_laid (fs := frs outer) (s := s) (o := PySem.W.dictOf ([] ++ PySem.W.kwEs w.params s.toks (ks.zip ws)) (0 + (ks.zip ws).length)) (u := .dK ((ks.map Sum.inr).zip zs)) hnH
    have e1 := env0_laid e0 new
    exact h { s with heap := s.heap.push (PySem.W.dictOf ([] ++ PySem.W.kwEs w.params s.toks (ks.zip ws)) (0 + (ks.zip ws).length)), toks := s.toks + (ks.zip ws).length } _ [v, V.ref s.heap.objs.size] [u, Value.ref s.heap.objs.size] ⟨e1.frames, e1.mod, e1.bs, e1.bsz, e1.funs, e1.frf, e1.hok, e1.bare⟩ un rfl
      (fun e s' => hCX outer s H _ _ E e s' un (fun b o q => Heap.get?_push_of_some _ q) rfl) (.cons ru (.cons rfl .nil)) rfl ⟨_, hnH, rfl, rfl⟩
  · subst ex eH
    exact hbody A outer s2 _ _ Q E hr' (hq d hd)
end
/-- C.m is a static method: its record at p, its def at g -/
structure SMet (K : PySem.W.Frag) (C : Addr) (mc : Value) (m : Str) (p g : Addr) : Prop where
  mt : PySem.W.typeIn K (.ref C) = some mc
  at_ : PySem.W.findCls K (.ref C) mc m = some (.get (.builtin "staticmethod.__get__") (.ref p) .none (.ref C))
  rc : ∃ rest, PySem.W.recIn K p "staticmethod" = some (.ref g :: rest)
def tSMeth (C : Addr) (n : Nat) (sp : Sp) (E : XK) (ta : TE) (t tk : TA) : TE := fun σ H Q => ta σ H fun x H1 => x = .ref C ∧ t σ H1 fun vs H2 => tk σ H2 fun zs H3 => ∃ v, vs = [v] ∧ zs.length = n ∧ sp (v :: zs) H3 Q E
theorem pe_smKw {X : Cx} {CX : CXT} {k : Nat} {C p g : Addr} {mc : Value} {sp : Sp} {E : XK} {o e : Expr} {m : Str} {pos apos : Pos} {kws : List Keyword} {ks : List Str} {ta : TE} {t tk : TA} {pl : Sem Bool}
    (he : PE X o ta) (r : ClX.CRead X.K C mc) (c : SMet X.K C mc m p g) (F : FnKw X.prog X.w X.K X.mg X.base CX k g ks sp) (hr : Room k X.A) (hk : PySem.W.keepIn X.K (.ref g) = true) (hx : Passes CX X E) (ha : PA X [e] t) (hkw : PK X kws tk)
    (hall : (backToKw pos (keywordEach kws X.env)).all (·.1.isSome) = true := by rfl) (hks : (backToKw pos (keywordEach kws X.env)).filterMap (·.1) = ks := by rfl)
    (hst : starEach [e] X.env = (false, eval e X.env) :: starEach [] X.env := by rfl) (hpl : ((backTo pos (starEach [e] X.env)).any (·.1) || (backToKw pos (keywordEach kws X.env)).any (·.1.isNone)) = false := by rfl)
    (ht : eval (.Call (.Attribute o m apos) [e] kws pos) X.env = (do
      let ov ← eval o X.env
      standAt apos.atName
      let (f, first) ← holding [ov] (getMethod ov m pl)
      callWith pos f first (backTo pos (starEach [e] X.env)) (backToKw pos (keywordEach kws X.env))) := by rfl) :
    PE X (.Call (.Attribute o m apos) [e] kws pos) (tSMeth C ks.length sp E ta t tk) := by
  refine ⟨fun pins s σ H Q I h => ?_⟩
  refine PySem.W.methodCall_KW (pl := pl) (thn (he.run pins s σ H _ I h) fun u s1 ⟨x, H1, I1, rx, ex, q⟩ => ?_) ht
  subst ex
  obtain rfl : u = Value.ref C := rx
  obtain ⟨m1, fr1⟩ := I1.fr
  obtain ⟨rest, hp⟩ := c.rc
  refine PySem.W.method_cls I1.kIn r.ga (PySem.W.cls_sm fr1 I1.ok.mod.kin c.mt r.rd c.at_ hp rfl ?_)
  have I2 := I1.tok (s1.toks + 1)
  refine PySem.W.callWith_KW (h₀ := X.base) I.ok.mod.kin hk hall (thn (ha.run pos pins _ σ H1 _ I2 q) fun us s2 ⟨vs, H2, I3, rv, q2⟩ => ?_) hpl hst
  refine thn (hkw.run pos pins s2 σ H2 _ I3 q2) fun ws s3 ⟨zs, H3, I4, rz, v, ev, hl, q3⟩ => ⟨I4.kIn, ?_⟩
  subst ev
  obtain ⟨u, rfl, ru⟩ := vals1 rv
  rw [hks]
  refine wpAny_call (codeAny_mono (F X.A X.stack s3 H3 u ws v zs Q E hr I4.env0 ru rz hl q3) fun r s' hq => ?_)
  cases r with
  | error e => exact hx pins σ H3 s3 e s' I4 hq
  | ok fl =>
    cases fl with
    | ret u => exact I4.after hq
    | next => exact False.elim hq
    | brk => exact False.elim hq
    | cont => exact False.elim hq
end L2
namespace LW
open PySem PySem.Spec PyProof.Rows L2
def top (i : Nat) : Stmt := PySem.Challenge.pw_gangbooks_k05_amounts_times.main.body.getD i (.Pass ⟨0, 0, 0, 0⟩)
abbrev s_GangError_init : Stmt := inClass (top 1) 0
abbrev s_refuse_lengths : Stmt := top 6
abbrev s_Amounts_init : Stmt := inClass (top 7) 0
abbrev s_Amounts_bool : Stmt := inClass (top 7) 14
abbrev s_Amounts_add : Stmt := inClass (top 7) 2
abbrev s_Amounts_sub : Stmt := inClass (top 7) 3
abbrev s_Amounts_mul : Stmt := inClass (top 7) 6
abbrev s_Amounts_rmul : Stmt := inClass (top 7) 7
abbrev s_Amounts_floordiv : Stmt := inClass (top 7) 8
abbrev s_Amounts_mod : Stmt := inClass (top 7) 9
abbrev s_Amounts_neg : Stmt := inClass (top 7) 10
abbrev s_Amounts_abs : Stmt := inClass (top 7) 11
abbrev s_pool : Stmt := top 9
abbrev s_draw : Stmt := top 10
abbrev s_number : Stmt := top 11
abbrev s_signed : Stmt := top 12
abbrev s_whole : Stmt := top 14
abbrev s_row : Stmt := top 13
abbrev s_part : Stmt := top 16
abbrev s_Amounts_of : Stmt := inClass (top 7) 1
abbrev s_is : Stmt := top 15
abbrev s_divided : Stmt := top 17
abbrev s_refused : Stmt := top 18
abbrev s_sums : Stmt := top 19
abbrev s_names : Stmt := top 20
abbrev s_made : Stmt := top 21
abbrev s_asked : Stmt := top 22
abbrev s_law : Stmt := top 23
theorem sc_GangError_init : FnScope ["self", "subject"] ["self", "subject"] (defScope s_GangError_init) := ⟨rfl, rfl, rfl, by decide +kernel, rfl, by decide +kernel, by decide +kernel⟩
theorem sc_refuse_lengths : FnScope ["left", "right"] ["left", "right"] (defScope s_refuse_lengths) := ⟨rfl, rfl, rfl, by decide +kernel, rfl, by decide +kernel, by decide +kernel⟩
theorem sc_Amounts_init : FnScope ["self", "numbers"] ["self", "numbers"] (defScope s_Amounts_init) := ⟨rfl, rfl, rfl, by decide +kernel, rfl, by decide +kernel, by decide +kernel⟩
theorem sc_Amounts_bool : FnScope ["self", "number"] ["self"] (defScope s_Amounts_bool) := ⟨rfl, rfl, rfl, by decide +kernel, rfl, by decide +kernel, by decide +kernel⟩
theorem sc_Amounts_add : FnScope ["self", "other", "numbers", "one", "two"] ["self", "other"] (defScope s_Amounts_add) := ⟨rfl, rfl, rfl, by decide +kernel, rfl, by decide +kernel, by decide +kernel⟩
theorem sc_Amounts_sub : FnScope ["self", "other", "numbers", "one", "two"] ["self", "other"] (defScope s_Amounts_sub) := ⟨rfl, rfl, rfl, by decide +kernel, rfl, by decide +kernel, by decide +kernel⟩
theorem sc_Amounts_mul : FnScope ["self", "other", "numbers", "number"] ["self", "other"] (defScope s_Amounts_mul) := ⟨rfl, rfl, rfl, by decide +kernel, rfl, by decide +kernel, by decide +kernel⟩
theorem sc_Amounts_rmul : FnScope ["self", "other"] ["self", "other"] (defScope s_Amounts_rmul) := ⟨rfl, rfl, rfl, by decide +kernel, rfl, by decide +kernel, by decide +kernel⟩
theorem sc_Amounts_floordiv : FnScope ["self", "other", "one", "two"] ["self", "other"] (defScope s_Amounts_floordiv) := ⟨rfl, rfl, rfl, by decide +kernel, rfl, by decide +kernel, by decide +kernel⟩
theorem sc_Amounts_mod : FnScope ["self", "other"] ["self", "other"] (defScope s_Amounts_mod) := ⟨rfl, rfl, rfl, by decide +kernel, rfl, by decide +kernel, by decide +kernel⟩
theorem sc_Amounts_neg : FnScope ["self"] ["self"] (defScope s_Amounts_neg) := ⟨rfl, rfl, rfl, by decide +kernel, rfl, by decide +kernel, by decide +kernel⟩
theorem sc_Amounts_abs : FnScope ["self", "number"] ["self"] (defScope s_Amounts_abs) := ⟨rfl, rfl, rfl, by decide +kernel, rfl, by decide +kernel, by decide +kernel⟩
theorem sc_pool : FnScope ["_law_script", "_law_pool_here", "_law_cell"] ["_law_script"] (defScope s_pool) := ⟨rfl, rfl, rfl, by decide +kernel, rfl, by decide +kernel, by decide +kernel⟩
theorem sc_draw : FnScope ["_law_pool_here", "_law_many", "_law_first", "_law_second", "_law_found"] ["_law_pool_here", "_law_many"] (defScope s_draw) := ⟨rfl, rfl, rfl, by decide +kernel, rfl, by decide +kernel, by decide +kernel⟩
theorem sc_number : FnScope ["_law_pool_here", "_law_groups", "_law_kind", "_law_count", "_law_number_here", "_law_k", "_law_part_here"] ["_law_pool_here", "_law_groups"] (defScope s_number) := ⟨rfl, rfl, rfl, by decide +kernel, rfl, by decide +kernel, by decide +kernel⟩
theorem sc_signed : FnScope ["_law_pool_here", "_law_groups", "_law_number_here"] ["_law_pool_here", "_law_groups"] (defScope s_signed) := ⟨rfl, rfl, rfl, by decide +kernel, rfl, by decide +kernel, by decide +kernel⟩
theorem sc_whole : FnScope ["_law_value"] ["_law_value"] (defScope s_whole) := ⟨rfl, rfl, rfl, by decide +kernel, rfl, by decide +kernel, by decide +kernel⟩
theorem sc_row : FnScope ["_law_numbers"] ["_law_numbers"] (defScope s_row) := ⟨rfl, rfl, rfl, by decide +kernel, rfl, by decide +kernel, by decide +kernel⟩
theorem sc_part : FnScope ["_law_pool_here", "_law_number_here", "_law_way"] ["_law_pool_here", "_law_number_here"] (defScope s_part) := ⟨rfl, rfl, rfl, by decide +kernel, rfl, by decide +kernel, by decide +kernel⟩
theorem sc_Amounts_of : FnScope ["resource_names", "named", "keyword", "numbers", "name"] ["resource_names", "named"] (defScope s_Amounts_of) := ⟨rfl, rfl, rfl, by decide +kernel, rfl, by decide +kernel, by decide +kernel⟩
theorem sc_is : FnScope ["_law_row_here", "_law_numbers", "_law_number_here"] ["_law_row_here", "_law_numbers"] (defScope s_is) := ⟨rfl, rfl, rfl, by decide +kernel, rfl, by decide +kernel, by decide +kernel⟩
theorem sc_divided : FnScope ["_law_one", "_law_a", "_law_other", "_law_b", "_law_count", "_law_more", "_law_k", "_law_rest"] ["_law_one", "_law_a", "_law_other", "_law_b"] (defScope s_divided) := ⟨rfl, rfl, rfl, by decide +kernel, rfl, by decide +kernel, by decide +kernel⟩
theorem sc_refused : FnScope ["_law_one", "_law_other", "_law_b", "_law_way", "e", "_law_found"] ["_law_one", "_law_other", "_law_b", "_law_way"] (defScope s_refused) := ⟨rfl, rfl, rfl, by decide +kernel, rfl, by decide +kernel, by decide +kernel⟩
theorem sc_sums : FnScope ["_law_one", "_law_a", "_law_other", "_law_b", "_law_times", "_law_size", "_law_number_here", "_law_k"] ["_law_one", "_law_a", "_law_other", "_law_b", "_law_times"] (defScope s_sums) := ⟨rfl, rfl, rfl, by decide +kernel, rfl, by decide +kernel, by decide +kernel⟩
theorem sc_names : FnScope ["_law_pool_here", "_law_letters", "_law_left", "_law_kinds", "_law_k"] ["_law_pool_here"] (defScope s_names) := ⟨rfl, rfl, rfl, by decide +kernel, rfl, by decide +kernel, by decide +kernel⟩
theorem sc_made : FnScope ["_law_kinds", "_law_given", "_law_way", "_law_x", "_law_y", "_law_z", "_law_made_here"] ["_law_kinds", "_law_given", "_law_way"] (defScope s_made) := ⟨rfl, rfl, rfl, by decide +kernel, rfl, by decide +kernel, by decide +kernel⟩
theorem sc_asked : FnScope ["_law_kinds", "_law_given", "_law_way", "_law_words", "_law_strange", "_law_numbers", "_law_name", "_law_number_here", "_law_made_here", "e", "_law_word"] ["_law_kinds", "_law_given", "_law_way"] (defScope s_asked) := ⟨rfl, rfl, rfl, by decide +kernel, rfl, by decide +kernel, by decide +kernel⟩
theorem sc_law : FnScope ["_law_script", "_law_pool_here", "_law_a", "_law_b", "_law_c", "_law_d", "_law_nothing", "_law_times", "_law_kinds", "_law_given", "_law_one", "_law_other", "_law_third", "_law_fourth", "_law_empty", "_law_turn", "_law_way", "_law_k", "_law_number_here"] ["_law_script"] (defScope s_law) := ⟨rfl, rfl, rfl, by decide +kernel, rfl, by decide +kernel, by decide +kernel⟩
/-- where the top has put what the law uses -/
structure Adr where
  c_Amounts : Addr
  c_GangError : Addr
  c_BadAmounts : Addr
  c_BadShare : Addr
  c_Unknown : Addr
  f_GangError_init : Addr
  d_GangError_init : FuncData
  f_refuse_lengths : Addr
  d_refuse_lengths : FuncData
  f_Amounts_init : Addr
  d_Amounts_init : FuncData
  f_Amounts_bool : Addr
  d_Amounts_bool : FuncData
  f_Amounts_add : Addr
  d_Amounts_add : FuncData
  f_Amounts_sub : Addr
  d_Amounts_sub : FuncData
  f_Amounts_mul : Addr
  d_Amounts_mul : FuncData
  f_Amounts_rmul : Addr
  d_Amounts_rmul : FuncData
  f_Amounts_floordiv : Addr
  d_Amounts_floordiv : FuncData
  f_Amounts_mod : Addr
  d_Amounts_mod : FuncData
  f_Amounts_neg : Addr
  d_Amounts_neg : FuncData
  f_Amounts_abs : Addr
  d_Amounts_abs : FuncData
  f_pool : Addr
  d_pool : FuncData
  f_draw : Addr
  d_draw : FuncData
  f_number : Addr
  d_number : FuncData
  f_signed : Addr
  d_signed : FuncData
  f_whole : Addr
  d_whole : FuncData
  f_row : Addr
  d_row : FuncData
  f_part : Addr
  d_part : FuncData
  f_Amounts_of : Addr
  d_Amounts_of : FuncData
  f_is : Addr
  d_is : FuncData
  f_divided : Addr
  d_divided : FuncData
  f_refused : Addr
  d_refused : FuncData
  f_sums : Addr
  d_sums : FuncData
  f_names : Addr
  d_names : FuncData
  f_made : Addr
  d_made : FuncData
  f_asked : Addr
  d_asked : FuncData
  f_law : Addr
  d_law : FuncData
structure Txt (K : PySem.W.Frag) (mg : Str → Option Value) (A : Adr) : Prop where
  n_ValueError : mg "ValueError" = none
  n_abs : mg "abs" = none
  n_any : mg "any" = none
  n_bool : mg "bool" = none
  n_int : mg "int" = none
  n_isinstance : mg "isinstance" = none
  n_len : mg "len" = none
  n_list : mg "list" = none
  n_min : mg "min" = none
  n_range : mg "range" = none
  n_sum : mg "sum" = none
  n_tuple : mg "tuple" = none
  n_zip : mg "zip" = none
  g_Amounts : mg "Amounts" = some (.ref A.c_Amounts)
  g_GangError : mg "GangError" = some (.ref A.c_GangError)
  g_BadAmounts : mg "BadAmounts" = some (.ref A.c_BadAmounts)
  g_BadShare : mg "BadShare" = some (.ref A.c_BadShare)
  g_Unknown : mg "Unknown" = some (.ref A.c_Unknown)
  F_GangError_init : Fun K "__init__" "GangError.__init__" s_GangError_init A.f_GangError_init A.d_GangError_init
  b_GangError_init : Binds K A.d_GangError_init ["self", "subject"] []
  me_GangError_init : Meth K A.c_GangError "__init__" A.f_GangError_init
  F_refuse_lengths : Fun K "refuse_lengths" "refuse_lengths" s_refuse_lengths A.f_refuse_lengths A.d_refuse_lengths
  b_refuse_lengths : Binds K A.d_refuse_lengths ["left", "right"] []
  g_refuse_lengths : mg "refuse_lengths" = some (.ref A.f_refuse_lengths)
  F_Amounts_init : Fun K "__init__" "Amounts.__init__" s_Amounts_init A.f_Amounts_init A.d_Amounts_init
  me_Amounts_init : Meth K A.c_Amounts "__init__" A.f_Amounts_init
  F_Amounts_bool : Fun K "__bool__" "Amounts.__bool__" s_Amounts_bool A.f_Amounts_bool A.d_Amounts_bool
  b_Amounts_bool : Binds K A.d_Amounts_bool ["self"] []
  me_Amounts_bool : Meth K A.c_Amounts "__bool__" A.f_Amounts_bool
  F_Amounts_add : Fun K "__add__" "Amounts.__add__" s_Amounts_add A.f_Amounts_add A.d_Amounts_add
  b_Amounts_add : Binds K A.d_Amounts_add ["self", "other"] []
  me_Amounts_add : Meth K A.c_Amounts "__add__" A.f_Amounts_add
  F_Amounts_sub : Fun K "__sub__" "Amounts.__sub__" s_Amounts_sub A.f_Amounts_sub A.d_Amounts_sub
  b_Amounts_sub : Binds K A.d_Amounts_sub ["self", "other"] []
  me_Amounts_sub : Meth K A.c_Amounts "__sub__" A.f_Amounts_sub
  F_Amounts_mul : Fun K "__mul__" "Amounts.__mul__" s_Amounts_mul A.f_Amounts_mul A.d_Amounts_mul
  b_Amounts_mul : Binds K A.d_Amounts_mul ["self", "other"] []
  me_Amounts_mul : Meth K A.c_Amounts "__mul__" A.f_Amounts_mul
  F_Amounts_rmul : Fun K "__rmul__" "Amounts.__rmul__" s_Amounts_rmul A.f_Amounts_rmul A.d_Amounts_rmul
  b_Amounts_rmul : Binds K A.d_Amounts_rmul ["self", "other"] []
  me_Amounts_rmul : Meth K A.c_Amounts "__rmul__" A.f_Amounts_rmul
  F_Amounts_floordiv : Fun K "__floordiv__" "Amounts.__floordiv__" s_Amounts_floordiv A.f_Amounts_floordiv A.d_Amounts_floordiv
  b_Amounts_floordiv : Binds K A.d_Amounts_floordiv ["self", "other"] []
  me_Amounts_floordiv : Meth K A.c_Amounts "__floordiv__" A.f_Amounts_floordiv
  F_Amounts_mod : Fun K "__mod__" "Amounts.__mod__" s_Amounts_mod A.f_Amounts_mod A.d_Amounts_mod
  b_Amounts_mod : Binds K A.d_Amounts_mod ["self", "other"] []
  me_Amounts_mod : Meth K A.c_Amounts "__mod__" A.f_Amounts_mod
  F_Amounts_neg : Fun K "__neg__" "Amounts.__neg__" s_Amounts_neg A.f_Amounts_neg A.d_Amounts_neg
  b_Amounts_neg : Binds K A.d_Amounts_neg ["self"] []
  me_Amounts_neg : Meth K A.c_Amounts "__neg__" A.f_Amounts_neg
  F_Amounts_abs : Fun K "__abs__" "Amounts.__abs__" s_Amounts_abs A.f_Amounts_abs A.d_Amounts_abs
  b_Amounts_abs : Binds K A.d_Amounts_abs ["self"] []
  me_Amounts_abs : Meth K A.c_Amounts "__abs__" A.f_Amounts_abs
  F_pool : Fun K "_law_pool" "_law_pool" s_pool A.f_pool A.d_pool
  b_pool : Binds K A.d_pool ["_law_script"] []
  g_pool : mg "_law_pool" = some (.ref A.f_pool)
  F_draw : Fun K "_law_draw" "_law_draw" s_draw A.f_draw A.d_draw
  b_draw : Binds K A.d_draw ["_law_pool_here", "_law_many"] []
  g_draw : mg "_law_draw" = some (.ref A.f_draw)
  F_number : Fun K "_law_number" "_law_number" s_number A.f_number A.d_number
  b_number : Binds K A.d_number ["_law_pool_here", "_law_groups"] []
  g_number : mg "_law_number" = some (.ref A.f_number)
  F_signed : Fun K "_law_signed" "_law_signed" s_signed A.f_signed A.d_signed
  b_signed : Binds K A.d_signed ["_law_pool_here", "_law_groups"] []
  g_signed : mg "_law_signed" = some (.ref A.f_signed)
  F_whole : Fun K "_law_whole" "_law_whole" s_whole A.f_whole A.d_whole
  b_whole : Binds K A.d_whole ["_law_value"] []
  g_whole : mg "_law_whole" = some (.ref A.f_whole)
  F_row : Fun K "_law_row" "_law_row" s_row A.f_row A.d_row
  b_row : Binds K A.d_row ["_law_numbers"] []
  g_row : mg "_law_row" = some (.ref A.f_row)
  F_part : Fun K "_law_part" "_law_part" s_part A.f_part A.d_part
  b_part : Binds K A.d_part ["_law_pool_here", "_law_number_here"] []
  g_part : mg "_law_part" = some (.ref A.f_part)
  F_Amounts_of : Fun K "of" "Amounts.of" s_Amounts_of A.f_Amounts_of A.d_Amounts_of
  rd_Amounts : ClX.CRead K A.c_Amounts (.type "type")
  sm_Amounts_of : ∃ p, SMet K A.c_Amounts (.type "type") "of" p A.f_Amounts_of
  F_is : Fun K "_law_is" "_law_is" s_is A.f_is A.d_is
  b_is : Binds K A.d_is ["_law_row_here", "_law_numbers"] []
  g_is : mg "_law_is" = some (.ref A.f_is)
  F_divided : Fun K "_law_divided" "_law_divided" s_divided A.f_divided A.d_divided
  b_divided : Binds K A.d_divided ["_law_one", "_law_a", "_law_other", "_law_b"] []
  g_divided : mg "_law_divided" = some (.ref A.f_divided)
  F_refused : Fun K "_law_refused" "_law_refused" s_refused A.f_refused A.d_refused
  b_refused : Binds K A.d_refused ["_law_one", "_law_other", "_law_b", "_law_way"] []
  g_refused : mg "_law_refused" = some (.ref A.f_refused)
  F_sums : Fun K "_law_sums" "_law_sums" s_sums A.f_sums A.d_sums
  b_sums : Binds K A.d_sums ["_law_one", "_law_a", "_law_other", "_law_b", "_law_times"] []
  g_sums : mg "_law_sums" = some (.ref A.f_sums)
  F_names : Fun K "_law_names" "_law_names" s_names A.f_names A.d_names
  b_names : Binds K A.d_names ["_law_pool_here"] []
  g_names : mg "_law_names" = some (.ref A.f_names)
  F_made : Fun K "_law_made" "_law_made" s_made A.f_made A.d_made
  b_made : Binds K A.d_made ["_law_kinds", "_law_given", "_law_way"] []
  g_made : mg "_law_made" = some (.ref A.f_made)
  F_asked : Fun K "_law_asked" "_law_asked" s_asked A.f_asked A.d_asked
  b_asked : Binds K A.d_asked ["_law_kinds", "_law_given", "_law_way"] []
  g_asked : mg "_law_asked" = some (.ref A.f_asked)
  F_law : Fun K "law" "law" s_law A.f_law A.d_law
  b_law : Binds K A.d_law ["_law_script"] []
  g_law : mg "law" = some (.ref A.f_law)
  cl_Amounts : Cls K A.c_Amounts
  mk_Amounts : Mk K A.c_Amounts A.f_Amounts_init
  sf_Amounts : PySem.W.selfFirst K A.c_Amounts = true
  k1_Amounts : PySem.W.findIn K (.ref A.c_Amounts) "__class__" = some (some (.builtin "object.__class__"))
  k4_Amounts : PySem.W.mroIn K A.c_Amounts (.type "object") = some true
  no_Amounts_numbers : NoAttr K A.c_Amounts "numbers"
  i_Amounts_mul : OwnI K A.c_Amounts .Mult
  i_Amounts_floordiv : OwnI K A.c_Amounts .FloorDiv
  i_Amounts_mod : OwnI K A.c_Amounts .Mod
  kg : PySem.W.specialIn K (.builtin "object.__class__") "__get__" = some (some (.builtin "getset_descriptor.__get__"))
  kt : PySem.W.takesIn K (.builtin "object.__class__") = some true
  x_GangError : GExc K A.c_GangError A.f_GangError_init
  xf_GangError : XfC K A.c_GangError
  xc_GangError : ExcC K A.c_GangError
  xm_GangError : PySem.W.exmOne K (.ref A.c_GangError) (.ref A.c_GangError) = some true
  x_BadAmounts : GExc K A.c_BadAmounts A.f_GangError_init
  xf_BadAmounts : XfC K A.c_BadAmounts
  xc_BadAmounts : ExcC K A.c_BadAmounts
  xm_BadAmounts : PySem.W.exmOne K (.ref A.c_BadAmounts) (.ref A.c_GangError) = some true
  x_BadShare : GExc K A.c_BadShare A.f_GangError_init
  xf_BadShare : XfC K A.c_BadShare
  xc_BadShare : ExcC K A.c_BadShare
  xm_BadShare : PySem.W.exmOne K (.ref A.c_BadShare) (.ref A.c_GangError) = some true
  x_Unknown : GExc K A.c_Unknown A.f_GangError_init
  xf_Unknown : XfC K A.c_Unknown
  xc_Unknown : ExcC K A.c_Unknown
  xm_Unknown : PySem.W.exmOne K (.ref A.c_Unknown) (.ref A.c_GangError) = some true
  si_Amounts : PySem.W.subIn K (.ref A.c_Amounts) (.type "int") = some false
  st_int_Amounts : PySem.W.subIn K (.type "int") (.ref A.c_Amounts) = some false
  kt_int_Amounts : PySem.W.kitOne K (.type "int") (.ref A.c_Amounts) = some false
  kt_BadAmounts_BadAmounts : PySem.W.kitOne K (.ref A.c_BadAmounts) (.ref A.c_BadAmounts) = some true
  kt_BadAmounts_ValueError : PySem.W.kitOne K (.ref A.c_BadAmounts) (.type "ValueError") = some true
  kt_BadAmounts_BadShare : PySem.W.kitOne K (.ref A.c_BadAmounts) (.ref A.c_BadShare) = some false
  kt_BadAmounts_Unknown : PySem.W.kitOne K (.ref A.c_BadAmounts) (.ref A.c_Unknown) = some false
  kt_Unknown_Unknown : PySem.W.kitOne K (.ref A.c_Unknown) (.ref A.c_Unknown) = some true
  kt_Unknown_ValueError : PySem.W.kitOne K (.ref A.c_Unknown) (.type "ValueError") = some true
  kt_Unknown_BadAmounts : PySem.W.kitOne K (.ref A.c_Unknown) (.ref A.c_BadAmounts) = some false
/-- fewer than n bits -/
def Bits (n : Nat) (x : Int) : Prop := x.natAbs < 2 ^ n
theorem Bits.log {n : Nat} {x : Int} (h : Bits n x) (h0 : 0 < n) : x.natAbs.log2 < n := PySem.Flt.log2_lt_of h0 h
theorem Bits.le {n : Nat} {x y : Int} (h : Bits n y) (e : x.natAbs ≤ y.natAbs) : Bits n x := Nat.lt_of_le_of_lt e h
theorem Bits.up {n m : Nat} {x : Int} (h : Bits n x) (e : n ≤ m) : Bits m x := Nat.lt_of_lt_of_le h (Nat.pow_le_pow_right (by decide) e)
theorem Bits.mul {n m : Nat} {x y : Int} (h : Bits n x) (h' : Bits m y) : Bits (n + m) (x * y) := by
  unfold Bits
  rw [Int.natAbs_mul, Nat.pow_add]
  exact Nat.mul_lt_mul'' h h'
theorem Bits.neg {n : Nat} {x : Int} (h : Bits n x) : Bits n (-x) := by unfold Bits; rw [Int.natAbs_neg]; exact h
theorem Bits.abs {n : Nat} {x : Int} (h : Bits n x) : Bits n (if x < 0 then -x else x) := by split; exact h.neg; exact h
theorem Bits.one {n : Nat} (h : 0 < n) : Bits n 1 := by
  show (1 : Nat) < 2 ^ n
  exact Nat.one_lt_two_pow (by omega)
theorem Bits.ok {n m : Nat} {x y : Int} (h : Bits n x) (h' : Bits m y) (h0 : 0 < n) (h1 : 0 < m) (e : n + m ≤ 1000000) : IntMulOk x y := by
  have a := h.log h0
  have b := h'.log h1
  exact CMulW.ok (by unfold CMulW; omega)
def spNumber : Sp := fun vs H Q _ => ∃ (p : Addr) (g : Nat), vs = [.ref p, .int g] ∧ PoolAt H p ∧ 1 ≤ g ∧ g ≤ 10 ∧ ∀ r H', 0 ≤ r → r < 1000 ^ g → PoolAt H' p → SameBut p H H' → Q (.int r) H'
def spSigned : Sp := fun vs H Q _ => ∃ (p : Addr) (g : Nat), vs = [.ref p, .int g] ∧ PoolAt H p ∧ 1 ≤ g ∧ g ≤ 10 ∧ ∀ r H', Bits (10 * g) r → PoolAt H' p → SameBut p H H' → Q (.int r) H'
theorem bits_of {r : Int} {g : Nat} (h0 : 0 ≤ r) (h : r < 1000 ^ g) : Bits (10 * g) r := by
  have e : ∀ k : Nat, (1000 : Int) ^ k ≤ ((2 ^ (10 * k) : Nat) : Int) := by
    intro k
    induction k with
    | zero => decide
    | succ k ih =>
      rw [Int.pow_succ, Nat.mul_succ, Nat.pow_add]
      have : (2 : Nat) ^ 10 = 1024 := by decide
      rw [this, Int.natCast_mul]
      have p : (0 : Int) ≤ ((2 ^ (10 * k) : Nat) : Int) := Int.natCast_nonneg _
      generalize ((2 ^ (10 * k) : Nat) : Int) = Z at *
      generalize (1000 : Int) ^ k = Y at *
      omega
  have := e g
  unfold Bits
  omega
def spWhole : Sp := fun vs H Q _ => ∃ i : Int, vs = [.int i] ∧ Q (.bl true) H

def afl (t : Addr) : List (Str × V) := putF "numbers" (.ref t) []
theorem afl_numbers (t : Addr) : (afl t).lookup ("numbers" : Str) = some (.ref t) := by
  unfold afl; rw [lookup_putF, if_pos rfl]
def AmtAt (A : Adr) (H : Hp) (x : Addr) (xs : List Int) : Prop := ∃ dx t, H x = some (.ins A.c_Amounts dx (afl t)) ∧ H t = some (.tup (xs.map V.int))
theorem AmtAt.mono {A : Adr} {H H' : Hp} {x : Addr} {xs : List Int} (h : AmtAt A H x xs) (k : Same H H') : AmtAt A H' x xs := let ⟨dx, t, a, b⟩ := h; ⟨dx, t, k _ _ a, k _ _ b⟩
def Few {α : Type} (xs : List α) : Prop := 1 ≤ xs.length ∧ xs.length ≤ 3
def NewA (A : Adr) (Q : VK) (H : Hp) (zs : List Int) : Prop := ∀ x H', Same H H' → AmtAt A H' x zs → Q (.ref x) H'
theorem NewA.from {A : Adr} {Q : VK} {H H1 : Hp} {zs : List Int} (k : NewA A Q H zs) (s : Same H H1) : NewA A Q H1 zs := fun x H' s' hx => k x H' (s.trans s') hx
def RefA (A : Adr) (E : XK) (H : Hp) (ys : List Int) : Prop := ∀ t d H', Same H H' → H' t = some (.tup (ys.map V.int)) → H' d = some (.xd [(("subject" : Str), .ref t)]) → E (.ref A.c_BadAmounts) (some d) H'
def spAI (A : Adr) : Sp := fun vs H Q E => ∃ (p t dx : Addr) (ys : List V), vs = [.ref p, .ref t] ∧ H p = some (.ins A.c_Amounts dx []) ∧ H t = some (.tup ys) ∧ (Few ys → Q .non (upd H p (.ins A.c_Amounts dx (afl t)))) ∧ (¬ Few ys → ∀ d H', Same H H' → H' d = some (.xd [(("subject" : Str), .ref t)]) → E (.ref A.c_BadAmounts) (some d) H')
def spRL (A : Adr) : Sp := fun vs H Q E => ∃ (a b : Addr) (xs ys : List Int), vs = [.ref a, .ref b] ∧ AmtAt A H a xs ∧ AmtAt A H b ys ∧ (xs.length = ys.length → Q .non H) ∧ (xs.length ≠ ys.length → RefA A E H ys)
def spBin (A : Adr) (f : Int → Int → Int) : Sp := fun vs H Q E => ∃ (a b : Addr) (xs ys : List Int), vs = [.ref a, .ref b] ∧ AmtAt A H a xs ∧ AmtAt A H b ys ∧ Few xs ∧ (xs.length = ys.length → NewA A Q H (List.zipWith f xs ys)) ∧ (xs.length ≠ ys.length → RefA A E H ys)
def spOff (A : Adr) : Sp := fun vs H Q E => ∃ (a b : Addr) (xs ys : List Int), vs = [.ref a, .ref b] ∧ AmtAt A H a xs ∧ AmtAt A H b ys ∧ xs.length ≠ ys.length ∧ RefA A E H ys
def mn (i j : Int) : Int := if j < i then j else i
def mx (i j : Int) : Int := if j > i then j else i
def wi (ys xs : List Int) : Bool := (List.zipWith (fun i j => decide (i ≤ j)) ys xs).all id
def spIn (A : Adr) : Sp := fun vs H Q E => ∃ (a b : Addr) (xs ys : List Int), vs = [.ref a, .ref b] ∧ AmtAt A H a xs ∧ AmtAt A H b ys ∧ Few xs ∧ (xs.length = ys.length → ∀ H', Same H H' → Q (.bl (wi ys xs)) H') ∧ (xs.length ≠ ys.length → RefA A E H ys)
def spBool (A : Adr) : Sp := fun vs H Q _ => ∃ (a : Addr) (xs : List Int), vs = [.ref a] ∧ AmtAt A H a xs ∧ Few xs ∧ ∀ H', Same H H' → Q (.bl (xs.any fun i => !decide (V.int i = V.int 0))) H'
def spEq (A : Adr) : Sp := fun vs H Q _ => ∃ (a b : Addr) (xs ys : List Int), vs = [.ref a, .ref b] ∧ AmtAt A H a xs ∧ AmtAt A H b ys ∧ Q (.bl (decide (xs = ys))) H
def spGet (A : Adr) : Sp := fun vs H Q _ => ∃ (a : Addr) (xs : List Int) (i : Nat) (z : Int), vs = [.ref a, .int (0 + (i : Int))] ∧ AmtAt A H a xs ∧ xs[i]? = some z ∧ Q (.int z) H
def spLen (A : Adr) : Sp := fun vs H Q _ => ∃ (a dx t : Addr) (ys : List V), vs = [.ref a] ∧ H a = some (.ins A.c_Amounts dx (afl t)) ∧ H t = some (.tup ys) ∧ Q (.int ys.length) H
def spIter (A : Adr) : Sp := fun vs H Q _ => ∃ (a dx t : Addr) (ys : List V), vs = [.ref a] ∧ H a = some (.ins A.c_Amounts dx (afl t)) ∧ H t = some (.tup ys) ∧ ∀ it, H it = none → Q (.ref it) (upd H it (ItT t it 0))
section
variable {A : Adr} {H : Hp} {Q : VK} {E : XK}
theorem amt_any {ys : List V} (hz : ys.length ≤ 1000) (k1 : Few ys → ∀ x t dx H', Same H H' → H' x = some (.ins A.c_Amounts dx (afl t)) → H' t = some (.tup ys) → Q (.ref x) H')
    (k2 : ¬ Few ys → ∀ t d H', Same H H' → H' t = some (.tup ys) → H' d = some (.xd [(("subject" : Str), .ref t)]) → E (.ref A.c_BadAmounts) (some d) H') :
    ∀ x dx, H x = none → H dx = none → dx ≠ x → spStar 1 (spAI A) (V.ref x :: ys) (upd (upd H dx (.own x)) x (.ins A.c_Amounts dx [])) (fun v H2 => v = .non ∧ Q (.ref x) H2) E := by
  intro x dx hx hd hne
  refine ⟨[.ref x], ys, rfl, rfl, by rw [sizeLine_eq]; omega, fun p hp => ⟨x, p, dx, ys, rfl, ?_, upd_same, fun g => ⟨rfl, k1 g x p dx _ ?_ upd_same ?_⟩, fun g d H' s1 e1 => k2 g p d H' ?_ (s1 _ _ upd_same) e1⟩⟩
  all_goals have npx : x ≠ p := (ne_of_none (H := upd (upd H dx (.own x)) x (.ins A.c_Amounts dx [])) upd_same hp)
  all_goals have s0 : Same H (upd (upd (upd H dx (.own x)) x (.ins A.c_Amounts dx [])) p (.tup ys)) := ((same_new hd).trans (same_new (by rw [upd_ne hne.symm]; exact hx))).trans (same_new hp)
  · rw [upd_ne npx]; exact upd_same
  · exact same_put s0 hx
  · rw [upd_ne npx.symm]; exact upd_same
  · exact s0.trans s1
theorem amt_made {xs : List Int} (hg : Few xs) (k : NewA A Q H xs) :
    ∀ x dx, H x = none → H dx = none → dx ≠ x → spStar 1 (spAI A) (V.ref x :: xs.map V.int) (upd (upd H dx (.own x)) x (.ins A.c_Amounts dx [])) (fun v H2 => v = .non ∧ Q (.ref x) H2) E :=
  amt_any (by rw [List.length_map]; have := hg.2; omega) (fun _ x t dx H' s a b => k x H' s ⟨dx, t, a, b⟩) (fun g => absurd (show Few (xs.map V.int) by unfold Few at *; rw [List.length_map]; exact hg) g)
theorem listIt {K : PySem.W.Frag} {x : Addr} {xs : List Int} (hX : AmtAt A H x xs) (hg : Few xs) (k : ∀ l H', Same H H' → H' l = some (.lst (xs.map V.int)) → Q (.ref l) H') : rListIt K A.c_Amounts (spIter A) (spLen A) [.ref x] H Q := by
  obtain ⟨dx, t, h1, h2⟩ := id hX
  refine ⟨x, dx, t, _, xs.map V.int, rfl, h1, SqT.of h2, by rw [List.length_map]; have := hg.2; omega, fun l hl => ?_⟩
  have s1 := same_new (o := .lst []) hl
  refine ⟨⟨x, dx, t, _, rfl, s1 _ _ h1, s1 _ _ h2, fun it hit => ⟨it, rfl, hit, rfl⟩⟩, fun it hit hne => ?_, fun it hit hne => ?_⟩
  · have s2 := s1.trans (same_new (o := ItT t it 0) (by rw [upd_ne hne]; exact hit))
    exact ⟨x, dx, t, _, rfl, s2 _ _ h1, s2 _ _ h2, rfl, rfl⟩
  · refine k l _ (same_put (same_put (Same.refl _) hl) hit) ?_
    rw [upd_ne hne.symm]; exact upd_same
end

theorem AmtAt.but {A : Adr} {H H' : Hp} {x p : Addr} {xs : List Int} (h : AmtAt A H x xs) (P : PoolAt H p) (s : SameBut p H H') : AmtAt A H' x xs := by
  obtain ⟨dx, t, a, b⟩ := h
  obtain ⟨_, _, _, _, _, e, _, _⟩ := P
  exact ⟨dx, t, s _ _ (ne_of a e (by intro z; cases z)) a, s _ _ (ne_of b e (by intro z; cases z)) b⟩
theorem amt_mono {A : Adr} {H H' : Hp} {x : Addr} {xs : List Int} (s : Same H H') (h : AmtAt A H x xs) : AmtAt A H' x xs := h.mono s
theorem amt_but {A : Adr} {H H' : Hp} {x p : Addr} {xs : List Int} (s : SameBut p H H') (P : PoolAt H p) (h : AmtAt A H x xs) : AmtAt A H' x xs := h.but P s
theorem pool_mono {H H' : Hp} {p : Addr} (s : Same H H') (P : PoolAt H p) : PoolAt H' p := P.mono s
structure Dv (xs ys : List Int) (n : Int) : Prop where
  n0 : 0 ≤ n
  le : ∀ (j : Nat) (a b : Int), xs[j]? = some a → ys[j]? = some b → n * b ≤ a
  ex : ∃ (j : Nat) (a b : Int), xs[j]? = some a ∧ ys[j]? = some b ∧ 0 ≤ a ∧ 0 ≤ b ∧ a < (n + 1) * b
theorem Dv.uniq {xs ys : List Int} {n m : Int} (h : Dv xs ys n) (g : Dv xs ys m) : n = m := by
  have key : ∀ {n m : Int}, Dv xs ys n → Dv xs ys m → m ≤ n := by
    intro n m h g
    obtain ⟨j, a, b, h1, h2, a0, b0, h3⟩ := h.ex
    have q := g.le j a b h1 h2
    have hb : 0 < b := by
      rcases Int.lt_or_le 0 b with c | c
      · exact c
      · have : b = 0 := by omega
        subst this
        rw [Int.mul_zero] at h3
        omega
    have : m * b < (n + 1) * b := by omega
    have := Int.lt_of_mul_lt_mul_right this (by omega)
    omega
  have := key h g
  have := key g h
  omega
theorem Bits.add {n : Nat} {x y : Int} (h : Bits n x) (h' : Bits n y) : Bits (n + 1) (x + y) := by
  unfold Bits at *
  rw [Nat.pow_succ]
  omega
def BitsL (n : Nat) (xs : List Int) : Prop := ∀ x ∈ xs, Bits n x
def spMulA (A : Adr) : Sp := fun vs H Q _ => ∃ (a : Addr) (xs : List Int) (n : Int) (m : Nat), vs = [.ref a, .int n] ∧ AmtAt A H a xs ∧ Few xs ∧ BitsL m xs ∧ Bits m n ∧ 0 < m ∧ m ≤ 10000 ∧ NewA A Q H (xs.map (· * n))
def spDiv (A : Adr) : Sp := fun vs H Q E => ∃ (a b : Addr) (xs ys : List Int), vs = [.ref a, .ref b] ∧ AmtAt A H a xs ∧ AmtAt A H b ys ∧ Few xs ∧ xs.length = ys.length ∧ (∀ x ∈ xs, 0 ≤ x) ∧ (∀ x ∈ ys, 0 ≤ x) ∧ BitsL 100 ys ∧
  ((∃ y ∈ ys, y ≠ 0) → ∀ n H', Same H H' → Dv xs ys n → Q (.int n) H') ∧ ((∀ y ∈ ys, y = 0) → RefA A E H ys)
def modl (xs ys : List Int) (n : Int) : List Int := List.zipWith (fun i j => i - j) xs (ys.map (· * n))
def spMod (A : Adr) : Sp := fun vs H Q E => ∃ (a b : Addr) (xs ys : List Int), vs = [.ref a, .ref b] ∧ AmtAt A H a xs ∧ AmtAt A H b ys ∧ Few xs ∧ xs.length = ys.length ∧ (∀ x ∈ xs, 0 ≤ x) ∧ (∀ x ∈ ys, 0 ≤ x) ∧ BitsL 100 xs ∧ BitsL 100 ys ∧
  ((∃ y ∈ ys, y ≠ 0) → ∀ n, Dv xs ys n → NewA A Q H (modl xs ys n)) ∧ ((∀ y ∈ ys, y = 0) → RefA A E H ys)
def spNegA (A : Adr) : Sp := fun vs H Q _ => ∃ (a : Addr) (xs : List Int), vs = [.ref a] ∧ AmtAt A H a xs ∧ Few xs ∧ BitsL 100 xs ∧ NewA A Q H (xs.map (· * -1))
def ab (i : Int) : Int := if i < 0 then -i else i
def spAbsA (A : Adr) : Sp := fun vs H Q _ => ∃ (a : Addr) (xs : List Int), vs = [.ref a] ∧ AmtAt A H a xs ∧ Few xs ∧ ∀ H', Same H H' → Q (.int ((xs.map ab).sum)) H'
theorem Few.zip {f : Int → Int → Int} {xs ys : List Int} (h : Few xs) (e : xs.length = ys.length) : Few (List.zipWith f xs ys) := by
  unfold Few at *
  rw [List.length_zipWith]
  omega
theorem Few.map {f : Int → Int} {xs : List Int} (h : Few xs) : Few (xs.map f) := by unfold Few at *; rw [List.length_map]; exact h
theorem any_nz {ys : List Int} : (ys.any fun i => !decide (V.int i = V.int 0)) = true ↔ ∃ y ∈ ys, y ≠ 0 := by
  rw [List.any_eq_true]
  constructor
  · rintro ⟨y, hy, h⟩
    refine ⟨y, hy, fun e => ?_⟩
    subst e
    simp at h
  · rintro ⟨y, hy, h⟩
    refine ⟨y, hy, ?_⟩
    rw [decide_eq_false (fun e => h (by injection e))]
    rfl
theorem all_z {ys : List Int} (h : (ys.any fun i => !decide (V.int i = V.int 0)) = false) : ∀ y ∈ ys, y = 0 := by
  intro y hy
  rcases Int.decEq y 0 with c | c
  · have := any_nz.mpr ⟨y, hy, c⟩
    rw [h] at this
    cases this
  · exact c
theorem bits_dv {xs ys : List Int} {n : Int} {m : Nat} (h : Dv xs ys n) (hb : BitsL m xs) (h0 : 0 < m) : Bits m n := by
  obtain ⟨j, a, b, h1, h2, a0, b0, h3⟩ := h.ex
  have q := h.le j a b h1 h2
  have hbp : 0 < b := by
    rcases Int.lt_or_le 0 b with c | c
    · exact c
    · have : b = 0 := by omega
      subst this
      rw [Int.mul_zero] at h3
      omega
  have hn := h.n0
  have q2 : n * 1 ≤ n * b := Int.mul_le_mul_of_nonneg_left (by omega) hn
  have hba := hb a (List.mem_of_getElem? h1)
  unfold Bits at *
  omega

theorem few_cases {xs : List Int} (h : Few xs) : (∃ a, xs = [a]) ∨ (∃ a b, xs = [a, b]) ∨ ∃ a b c, xs = [a, b, c] := by
  match xs, h with
  | [a], _ => exact .inl ⟨a, rfl⟩
  | [a, b], _ => exact .inr (.inl ⟨a, b, rfl⟩)
  | [a, b, c], _ => exact .inr (.inr ⟨a, b, c, rfl⟩)
  | [], h => exact absurd h.1 (by decide)
  | _ :: _ :: _ :: _ :: _, h => exact absurd h.2 (by simp)
theorem bits_div {n m : Int} {b : Nat} (h : Bits b n) (h0 : 0 ≤ n) (h1 : 1 ≤ m) : Bits b (n / m) := by
  have a := Int.ediv_nonneg h0 (by omega : 0 ≤ m)
  have c := Int.ediv_le_self m h0
  unfold Bits at *
  omega
local macro_rules | `(tactic| walk_at "gb pool") => `(tactic| (first | assumption | (refine pool_mono (by assumption) ?_; walk_at "gb pool") | fail))
local macro_rules | `(tactic| walk_at "gb amt") => `(tactic| (first | assumption | (apply amt_mono (by assumption); walk_at "gb amt") | (apply amt_but (by assumption) (by walk_at "gb pool"); walk_at "gb amt") | fail))
local macro_rules | `(tactic| walk_at "gb same") => `(tactic| ((with_reducible show Same _ _); first | assumption | exact Same.refl _ | ((with_reducible show Same _ (upd _ _ _)); first | (refine same_nw ?_ (by assumption); walk_at "gb same") | (refine same_put ?_ (by assumption); walk_at "gb same")) | (refine Same.trans ?_ (by assumption); walk_at "gb same") | fail))
local macro_rules | `(tactic| walk_at "gb but") => `(tactic| ((with_reducible show SameBut _ _ _); first | assumption | exact SameBut.refl | (refine Same.but ?_; (first | assumption | exact Same.refl _ )) | ((with_reducible show SameBut _ _ (upd _ _ _)); first | (refine but_own ?_; walk_at "gb but") | (refine put_but ?_ (by assumption); walk_at "gb but") | (refine but_nw ?_ (by assumption); walk_at "gb but")) | (refine SameBut.trans ?_ (by assumption); walk_at "gb but") | (refine SameBut.trans ?_ (Same.but (by assumption)); walk_at "gb but") | fail))
local macro_rules | `(tactic| walk_at "gb ne") => `(tactic| ((with_reducible show _ ≠ _); first | assumption | exact Ne.symm (by assumption) | exact none_ne (by assumption) (by walk_at "gb hp") | exact Ne.symm (none_ne (by assumption) (by walk_at "gb hp")) | ((refine ne_of (by assumption) ?h2 ?d2); (case h2 => walk_at "gb hp"); (case d2 => (intro z; cases z))) | fail))
local macro_rules | `(tactic| walk_at "gb hp") => `(tactic| ((with_reducible show _ = some _); first | assumption | ((with_reducible show upd _ _ _ _ = some _); first | exact upd_same | (refine upd_fr ?_ (by assumption); walk_at "gb hp") | (refine upd_df ?_ (by walk_at "gb ne"); walk_at "gb hp")) | (refine (by assumption : Same _ _) _ _ ?_; walk_at "gb hp") | (refine (by assumption : SameBut _ _ _) _ _ (by walk_at "gb ne") ?_; walk_at "gb hp") | fail | fail))
local macro_rules | `(tactic| walk_at "gb leaf") => `(tactic| (first | ((with_reducible show IntMulOk _ _); first | exact Bits.ok (by assumption) (by assumption) (by first | decide | omega) (by first | decide | omega) (by first | decide | omega) |  exact mulR ⟨by omega, by omega⟩ | exact mulL ⟨by omega, by omega⟩) | ((first | (with_reducible show @LE.le _ _ _ _) | (with_reducible show @LT.lt _ _ _ _)); (first | (first | omega | decide +kernel | (simp only [List.length_append, List.length_map, List.length_cons, List.length_nil, List.length_take, List.length_zipWith, List.length_replicate]; omega) | (rw [sizeLine_eq]; (first | omega | (simp only [List.length_append, List.length_map, List.length_cons, List.length_nil, List.length_take, List.length_zipWith, List.length_replicate]; omega))) | (simp only [List.length_append, List.length_map, List.length_cons, List.length_nil, List.length_take, List.length_zipWith, List.length_replicate] at *; omega) | fail) | assumption | (show 4 + 1 ≤ sizeLine; decide +kernel) | fail)) | ((fail_if_success (with_reducible show IntMulOk _ _)); (fail_if_success (first | (with_reducible show @LE.le _ _ _ _) | (with_reducible show @LT.lt _ _ _ _))); first | exact rfl | assumption | ((with_reducible show _ = _); walk_at "gb hp") | (first | exact (by assumption : Txt _ _ _).cl_Amounts | exact (by assumption : Txt _ _ _).no_Amounts_numbers | exact (by assumption : Txt _ _ _).x_BadAmounts | exact afl_numbers _ | exact (by assumption : Txt _ _ _).xc_BadAmounts | exact (by assumption : Txt _ _ _).xc_Unknown | exact (by assumption : Txt _ _ _).x_Unknown | fail) | (first | exact .own _ | exact .ty _ | exact .base (.int _) | exact .base (.str _) | exact .base (.tup (by walk_at "gb hp")) | exact .base (.lst (by walk_at "gb hp")) | exact kit_same | exact kit_ty (by decide +kernel) | exact .base (.ins (by walk_at "gb hp") (by assumption : Txt _ _ _).cl_Amounts (by assumption : Txt _ _ _).k1_Amounts (by assumption : Txt _ _ _).kg (by assumption : Txt _ _ _).kt (by assumption : Txt _ _ _).k4_Amounts) | exact (by assumption : Txt _ _ _).kt_BadAmounts_BadAmounts | exact (by assumption : Txt _ _ _).kt_BadAmounts_ValueError | exact (by assumption : Txt _ _ _).kt_BadAmounts_BadShare | exact (by assumption : Txt _ _ _).kt_BadAmounts_Unknown | exact (by assumption : Txt _ _ _).kt_Unknown_Unknown | exact (by assumption : Txt _ _ _).kt_Unknown_ValueError | exact (by assumption : Txt _ _ _).kt_Unknown_BadAmounts | fail) | (first | ((with_reducible show SqL _ _ _ _); exact SqL.of (by walk_at "gb hp")) | ((with_reducible show SqT _ _ _ _); exact SqT.of (by walk_at "gb hp")) | ((with_reducible show SqL _ _ _ _ ∨ _); exact Or.inl (SqL.of (by walk_at "gb hp"))) | ((with_reducible show _ ∨ SqT _ _ _ _); exact Or.inr (SqT.of (by walk_at "gb hp"))) | ((with_reducible show SqT _ _ _ _ ∨ _); exact Or.inl (SqT.of (by walk_at "gb hp"))) | ((with_reducible show _ ∨ SqL _ _ _ _); exact Or.inr (SqL.of (by walk_at "gb hp"))) | ((with_reducible show ∃ _, SqT _ _ _ _); exact ⟨_, SqT.of (by walk_at "gb hp")⟩) | ((with_reducible show ∃ _, SqL _ _ _ _); exact ⟨_, SqL.of (by walk_at "gb hp")⟩) | fail) | (first | exact Or.inl ⟨rfl, _, SqL.of (by walk_at "gb hp")⟩ | exact .lst (SqL.of (by walk_at "gb hp")) (dpInts _) | exact .tup (SqT.of (by walk_at "gb hp")) (dpInts _) | exact .lst (SqL.of (by walk_at "gb hp")) (dpStrs _) | exact .tup (SqT.of (by walk_at "gb hp")) (dpStrs _) | exact .lst (SqL.of (by walk_at "gb hp")) .nil | exact .int _ | exact .str _ | exact .non | exact shL _ | exact shT _ | exact shSL (by assumption) | exact shST (by assumption) | exact fun _ h => h | exact flat_str _ | exact flat_int _ | fail) | (first | assumption | ((with_reducible show PoolAt _ _); first | walk_at "gb pool" | exact PoolAt.mono (by assumption) (by walk_at "gb same")) | ((with_reducible show AmtAt _ _ _ _); first | exact AmtAt.mono (by assumption) (by walk_at "gb same") | walk_at "gb amt") | fail) | walk_at "gb same" | walk_at "gb but" | (first | omega | decide +kernel | (simp only [List.length_append, List.length_map, List.length_cons, List.length_nil, List.length_take, List.length_zipWith, List.length_replicate]; omega) | (rw [sizeLine_eq]; (first | omega | (simp only [List.length_append, List.length_map, List.length_cons, List.length_nil, List.length_take, List.length_zipWith, List.length_replicate]; omega))) | (simp only [List.length_append, List.length_map, List.length_cons, List.length_nil, List.length_take, List.length_zipWith, List.length_replicate] at *; omega) | fail) | exact ⟨by omega, by omega⟩ | ((with_reducible show Few _); first | exact Few.map (by assumption) | exact Few.zip (by assumption) (by first | assumption | omega)) | ((with_reducible show Bits _ _); unfold Bits; omega) | exact (at_ex (xs := (Str.ofString "abcdefghijklmnopqrstuvwxyz0123456789").cps.toList) (by omega) (by show _ < ((36 : Nat) : Int); omega)).choose_spec | exact seqIndex_of (by omega) (by walk_at "gb num") | exact List.getElem?_eq_getElem (by walk_at "gb num") | exact at_ref (L := [_, _, _, _, _, _, _, _, _, _]) (by assumption) | exact atI_nat (j := 0) rfl | exact atI_nat (j := 1) rfl | fail) | fail))
local macro_rules | `(tactic| walk_at "gb num") => `(tactic| (first | omega | decide +kernel | (simp only [List.length_append, List.length_map, List.length_cons, List.length_nil, List.length_take, List.length_zipWith, List.length_replicate]; omega) | (rw [sizeLine_eq]; (first | omega | (simp only [List.length_append, List.length_map, List.length_cons, List.length_nil, List.length_take, List.length_zipWith, List.length_replicate]; omega))) | (simp only [List.length_append, List.length_map, List.length_cons, List.length_nil, List.length_take, List.length_zipWith, List.length_replicate] at *; omega) | fail))
local macro_rules | `(tactic| walk_at "gb step") => `(tactic| (first | ((with_reducible show RaiseG _ _ _ _ _ _); refine raiseG_in (by first | exact (by assumption : Txt _ _ _).cl_Amounts | exact (by assumption : Txt _ _ _).no_Amounts_numbers | exact (by assumption : Txt _ _ _).x_BadAmounts | exact afl_numbers _ | exact (by assumption : Txt _ _ _).xc_BadAmounts | exact (by assumption : Txt _ _ _).xc_Unknown | exact (by assumption : Txt _ _ _).x_Unknown | fail) ?_) | ((show _ ∧ _); refine And.intro (by walk_at "gb leaf") ?_) | ((show (_ → _) ∧ (_ ≠ _ → _)); refine And.intro (fun _ => ?_) (fun h => absurd (by first | assumption | omega | (simp only [List.length_append, List.length_map, List.length_cons, List.length_nil, List.length_take, List.length_zipWith, List.length_replicate]; omega)) h)) | ((show Exists _); (fail_if_success refine Exists.intro (fun _ _ _ _ => True) ?_); (fail_if_success refine Exists.intro (fun _ _ _ => True) ?_); apply Exists.intro) | ((show ite _ _ _); (try (first | rw [eqv00] | rw [eqvL, decide_eq_true rfl] | rw [eqvT, decide_eq_true rfl] | rw [eqvL] | rw [eqvT] | rw [eqvSL, decide_eq_true rfl] | rw [eqvST, decide_eq_true rfl] | rw [eqvSL0] | rw [eqvSL] | rw [eqvST] | rw [inV_strs] | rw [inV_kv])); ((first | refine iteT ?_ | refine iteF ?_ | refine iteI (fun _ => ?_) (fun _ => ?_) | refine iteIN (fun _ => ?_) (fun _ => ?_) | refine iteD (fun _ => ?_) (fun _ => ?_) | refine iteDN (fun _ => ?_) (fun _ => ?_) | refine iteB (fun _ => ?_) (fun _ => ?_)) <;> try (exfalso; first | contradiction | omega | (rename_i hcc; revert hcc; simp; done)))) | ((show _ ∨ _); (first | (refine Or.inl ?_; apply Exists.intro; refine And.intro (by walk_at "gb leaf") ?_) | (refine Or.inr ?_; apply Exists.intro; refine And.intro (by walk_at "gb leaf") ?_) | (refine Or.inl (And.intro (by walk_at "gb leaf") ?_)) | (refine Or.inr (And.intro (by walk_at "gb leaf") ?_)))) | ((conv => whnf); (with_reducible show ∀ (x dx : Addr), _ = none → _ = none → dx ≠ x → _); first | (refine amt_made (xs := [_]) (by walk_at "gb leaf") ?_ <;> (first | assumption | exact NewA.from (by assumption) (by walk_at "gb same") | skip)) | (refine amt_made (xs := [_, _]) (by walk_at "gb leaf") ?_ <;> (first | assumption | exact NewA.from (by assumption) (by walk_at "gb same") | skip)) | (refine amt_made (xs := [_, _, _]) (by walk_at "gb leaf") ?_ <;> (first | assumption | exact NewA.from (by assumption) (by walk_at "gb same") | skip)) | (refine amt_made  (by walk_at "gb leaf") ?_ <;> (first | assumption | exact NewA.from (by assumption) (by walk_at "gb same") | skip))) | (first | ((with_reducible show Same _ _); walk_at "gb same") | ((with_reducible show SameBut _ _ _); walk_at "gb but")) | fail | intro _))
local macro_rules | `(tactic| walk_at "gb go") => `(tactic| (repeat' walk_at "gb step"))

def spRow (A : Adr) : Sp := fun vs H Q _ => ∃ (l : Addr) (xs : List Int), vs = [.ref l] ∧ H l = some (.lst (xs.map V.int)) ∧ Few xs ∧ NewA A Q H xs
def spPart : Sp := fun vs H Q _ => ∃ (p : Addr) (n : Int), vs = [.ref p, .int n] ∧ PoolAt H p ∧ 0 ≤ n ∧ Bits 100 n ∧ ∀ r H', 0 ≤ r → Bits 100 r → PoolAt H' p → SameBut p H H' → Q (.int r) H'
def spLaw (K : PySem.W.Frag) : Sp := fun vs H Q _ => ∃ (a : Addr) (ns : List Int), vs = [.ref a] ∧ SqL K H a (ns.map V.int) ∧ ns.length ≤ 63 ∧ (∀ z ∈ ns, Builtin.Int.intBits z ≤ 1048576) ∧ ∀ H', Q (.bl true) H'
abbrev lawLvl : Nat := 12

def Off (d : Addr) (H H' : Hp) : Prop := ∀ b o, b ≠ d → H b = some o → H' b = some o
def NewB (A : Adr) (Q : VK) (d : Addr) (H : Hp) (zs : List Int) : Prop := ∀ x H', SameBut d H H' → AmtAt A H' x zs → Q (.ref x) H'
def kvK (kvs : List (Str × Int)) : List (Key × V) := kvs.map fun p => (Sum.inr p.1, V.int p.2)
def kvGet (kvs : List (Str × Int)) (n : Str) : Int := ((kvs.find? fun p => decide (p.1 = n)).map (·.2)).getD 0
def spOf (A : Adr) : Sp := fun vs H Q E => ∃ (t d : Addr) (ns : List Str) (kvs : List (Str × Int)), vs = [.ref t, .ref d] ∧ H t = some (.tup (ns.map V.str)) ∧ 1 ≤ ns.length ∧ ns.length ≤ 3 ∧ H d = some (.dK (kvK kvs)) ∧ t ≠ d ∧
  ((∀ p ∈ kvs, p.1 ∈ ns) → NewB A Q d H (ns.map (kvGet kvs))) ∧
  (∀ (i : Nat) (p : Str × Int), kvs[i]? = some p → p.1 ∉ ns → (∀ (j : Nat) (q : Str × Int), j < i → kvs[j]? = some q → q.1 ∈ ns) → ∀ e H', SameBut d H H' → H' e = some (.xd [(("subject" : Str), .str p.1)]) → E (.ref A.c_Unknown) (some e) H')
def spIsA (A : Adr) : Sp := fun vs H Q _ => ∃ (x l : Addr) (xs : List Int), vs = [.ref x, .ref l] ∧ AmtAt A H x xs ∧ H l = some (.lst (xs.map V.int)) ∧ Few xs ∧ ∀ H', Same H H' → Q (.bl true) H'
def spDivided (A : Adr) : Sp := fun vs H Q _ => ∃ (x a y b : Addr) (xs ys : List Int), vs = [.ref x, .ref a, .ref y, .ref b] ∧ AmtAt A H x xs ∧ H a = some (.lst (xs.map V.int)) ∧ AmtAt A H y ys ∧ H b = some (.lst (ys.map V.int)) ∧ Few xs ∧ xs.length = ys.length ∧ (∀ x ∈ xs, 0 ≤ x) ∧ (∀ x ∈ ys, 0 ≤ x) ∧ BitsL 100 xs ∧ BitsL 100 ys ∧ (∃ y ∈ ys, y ≠ 0) ∧ ∀ H', Same H H' → Q (.bl true) H'
def spRefused (A : Adr) : Sp := fun vs H Q _ => ∃ (x y b : Addr) (xs ys : List Int) (w : Int), vs = [.ref x, .ref y, .ref b, .int w] ∧ AmtAt A H x xs ∧ AmtAt A H y ys ∧ H b = some (.lst (ys.map V.int)) ∧ Few xs ∧ xs.length = ys.length ∧ (∀ x ∈ xs, 0 ≤ x) ∧ (∀ x ∈ ys, x = 0) ∧ BitsL 100 xs ∧ ∀ H', Same H H' → Q (.bl true) H'
def spSums (A : Adr) : Sp := fun vs H Q _ => ∃ (x a y b : Addr) (xs ys : List Int) (n : Int), vs = [.ref x, .ref a, .ref y, .ref b, .int n] ∧ AmtAt A H x xs ∧ H a = some (.lst (xs.map V.int)) ∧ AmtAt A H y ys ∧ H b = some (.lst (ys.map V.int)) ∧ Few xs ∧ xs.length = ys.length ∧ BitsL 100 xs ∧ BitsL 100 ys ∧ Bits 100 n ∧ ∀ H', Same H H' → Q (.bl true) H'
def spNames : Sp := fun vs H Q _ => ∃ (p : Addr), vs = [.ref p] ∧ PoolAt H p ∧ ∀ l (ws : List Str) H', 1 ≤ ws.length → ws.length ≤ 3 → ws.Nodup → l ≠ p → H l = none → H' l = some (.lst (ws.map V.str)) → PoolAt H' p → SameBut p H H' → Q (.ref l) H'

theorem pool_put {H : Hp} {p D : Addr} {o : HO} (h : PoolAt H p) (n : D ≠ p) : PoolAt (upd H D o) p := by
  obtain ⟨q1, q2, q3, q4, q5, e, l5, z5⟩ := h
  exact .of (by rw [upd_ne n.symm]; exact e) l5 z5
def kwT : Nat → List Str
  | 0 => []
  | 1 => ["core"]
  | 2 => ["fast"]
  | 3 => ["big", "core"]
  | 4 => ["core", "big"]
  | 5 => ["fast", "core"]
  | 6 => ["big", "fast", "core"]
  | 7 => ["core", "fast", "big"]
  | 8 => ["names"]
  | 9 => ["core", "names"]
  | _ => []
def kvT (w : Nat) (x y z : Int) : List (Str × Int) := (kwT w).zip [x, y, z]
def TupsAt (H : Hp) (l : Addr) (kvs : List (Str × Int)) : Prop := ∃ ts : List Addr, H l = some (.lst (ts.map V.ref)) ∧ ts.length = kvs.length ∧ ∀ (j : Nat) (t : Addr) (p : Str × Int), ts[j]? = some t → kvs[j]? = some p → H t = some (.tup [.str p.1, .int p.2])
def spMade (A : Adr) : Sp := fun vs H Q E => ∃ (l g : Addr) (ws : List Str) (x y z : Int) (w : Nat), vs = [.ref l, .ref g, .int (0 + (w : Int))] ∧ H l = some (.lst (ws.map V.str)) ∧ H g = some (.lst ([x, y, z].map V.int)) ∧ 1 ≤ ws.length ∧ ws.length ≤ 3 ∧ w < 10 ∧
  ((∀ p ∈ kvT w x y z, p.1 ∈ ws) → ∀ r l1 a1 H', Same H H' → H' r = some (.lst [.ref l1, .ref a1]) → TupsAt H' l1 (kvT w x y z) → AmtAt A H' a1 (ws.map (kvGet (kvT w x y z))) → Q (.ref r) H') ∧
  (∀ (i : Nat) (p : Str × Int), (kvT w x y z)[i]? = some p → p.1 ∉ ws → (∀ (j : Nat) (q : Str × Int), j < i → (kvT w x y z)[j]? = some q → q.1 ∈ ws) → ∀ e H', Same H H' → H' e = some (.xd [(("subject" : Str), .str p.1)]) → E (.ref A.c_Unknown) (some e) H')
def spAsked (A : Adr) : Sp := fun vs H Q _ => ∃ (l g : Addr) (ws : List Str) (x y z : Int) (w : Nat), vs = [.ref l, .ref g, .int (0 + (w : Int))] ∧ H l = some (.lst (ws.map V.str)) ∧ H g = some (.lst ([x, y, z].map V.int)) ∧ 1 ≤ ws.length ∧ ws.length ≤ 3 ∧ ws.Nodup ∧ w < 10 ∧ ∀ H', Same H H' → Q (.bl true) H'
theorem names_nd (c1 c2 : Nat) : ([Str.ofString "core", Str.ofString "fast", Str.ofString "big", Str.ofString "names", (⟨#[c1]⟩ : Str), Str.ofString "core" ++ (⟨#[c2]⟩ : Str)] : List Str).Nodup := by
  refine List.Pairwise.of_map (S := fun a b : List Nat => a ≠ b) (fun s : Str => s.cps.toList) (fun a b h e => h (by rw [e])) ?_
  show List.Pairwise _ ([[99, 111, 114, 101], [102, 97, 115, 116], [98, 105, 103], [110, 97, 109, 101, 115], [c1], [99, 111, 114, 101, c2]] : List (List Nat))
  simp

theorem but_at {H H2 : Hp} {d b : Addr} {o o' : HO} (sb : SameBut d (upd H d o') H2) (hd : H d = none) (h : H b = some o) : H2 b = some o := sb _ _ (ne_of_none h hd) (upd_fr h hd)
theorem tups0 {H : Hp} {l : Addr} (h : H l = some (.lst [])) : TupsAt H l [] := ⟨[], h, rfl, fun j t p h => by cases h⟩
theorem tups1 {H : Hp} {l t : Addr} {a : Str} {x : Int} (h : H l = some (.lst [.ref t])) (ht : H t = some (.tup [.str a, .int x])) : TupsAt H l [(a, x)] := ⟨[t], h, rfl, fun j t' p h1 h2 => by
  match j, h1, h2 with
  | 0, h1, h2 => cases h1; cases h2; exact ht⟩
theorem tups2 {H : Hp} {l t u : Addr} {a b : Str} {x y : Int} (h : H l = some (.lst [.ref t, .ref u])) (ht : H t = some (.tup [.str a, .int x])) (hu : H u = some (.tup [.str b, .int y])) : TupsAt H l [(a, x), (b, y)] := ⟨[t, u], h, rfl, fun j t' p h1 h2 => by
  match j, h1, h2 with
  | 0, h1, h2 => cases h1; cases h2; exact ht
  | 1, h1, h2 => cases h1; cases h2; exact hu⟩
theorem tups3 {H : Hp} {l t u v : Addr} {a b c : Str} {x y z : Int} (h : H l = some (.lst [.ref t, .ref u, .ref v])) (ht : H t = some (.tup [.str a, .int x])) (hu : H u = some (.tup [.str b, .int y])) (hv : H v = some (.tup [.str c, .int z])) : TupsAt H l [(a, x), (b, y), (c, z)] := ⟨[t, u, v], h, rfl, fun j t' p h1 h2 => by
  match j, h1, h2 with
  | 0, h1, h2 => cases h1; cases h2; exact ht
  | 1, h1, h2 => cases h1; cases h2; exact hu
  | 2, h1, h2 => cases h1; cases h2; exact hv⟩

theorem kvGet_hit {kvs : List (Str × Int)} {i : Nat} {nm : Str} {num : Int} (hk : (kvs.map (·.1)).Nodup) (hi : kvs[i]? = some (nm, num)) : kvGet (kvs.take (i + 1)) nm = num := by
  unfold kvGet
  rw [List.take_succ, hi, List.find?_append]
  have hn : (kvs.take i).find? (fun p => decide (p.1 = nm)) = none := by
    rw [List.find?_eq_none]
    intro p hp hpe
    obtain ⟨j, hj⟩ := List.mem_iff_getElem?.mp hp
    rw [List.getElem?_take] at hj
    by_cases hji : j < i
    · rw [if_pos hji] at hj
      have e1 : (kvs.map (·.1))[j]? = some nm := by rw [List.getElem?_map, hj]; simp at hpe; rw [← hpe]; rfl
      have e2 : (kvs.map (·.1))[i]? = some nm := by rw [List.getElem?_map, hi]; rfl
      have l2 := (List.getElem?_eq_some_iff.mp e2).1
      have l1 := (List.getElem?_eq_some_iff.mp e1).1
      have := (List.getElem?_inj l1 hk).mp (e1.trans e2.symm)
      omega
    · rw [if_neg hji] at hj; cases hj
  rw [hn]
  simp
theorem kvGet_miss {kvs : List (Str × Int)} {i : Nat} {nm n : Str} {num : Int} (hi : kvs[i]? = some (nm, num)) (h : n ≠ nm) : kvGet (kvs.take (i + 1)) n = kvGet (kvs.take i) n := by
  unfold kvGet
  rw [List.take_succ, hi, List.find?_append]
  have : (some (nm, num)).toList.find? (fun p => decide (p.1 = n)) = none := by simp; exact fun e => h e.symm
  rw [this]
  simp
theorem set_step {ws : List Str} {kvs : List (Str × Int)} {i j : Nat} {nm : Str} {num : Int} (hnd : ws.Nodup) (hk : (kvs.map (·.1)).Nodup) (hi : kvs[i]? = some (nm, num)) (hj : ws[j]? = some nm) :
    ((ws.map (kvGet (kvs.take i))).map V.int).set j (V.int num) = (ws.map (kvGet (kvs.take (i + 1)))).map V.int := by
  have lj := (List.getElem?_eq_some_iff.mp hj).1
  apply List.ext_getElem?
  intro k
  rw [List.getElem?_set]
  by_cases hkj : j = k
  · subst hkj
    rw [if_pos rfl, if_pos (by simpa using lj), List.getElem?_map, List.getElem?_map, hj]
    show _ = some (V.int (kvGet (kvs.take (i + 1)) nm))
    rw [kvGet_hit hk hi]
  · rw [if_neg hkj, List.getElem?_map, List.getElem?_map, List.getElem?_map, List.getElem?_map]
    cases hw : ws[k]? with
    | none => rfl
    | some n =>
      have hn : n ≠ nm := by
        intro e
        subst e
        exact hkj ((List.getElem?_inj lj hnd).mp (hj.trans hw.symm))
      show some (V.int (kvGet (kvs.take i) n)) = some (V.int (kvGet (kvs.take (i + 1)) n))
      rw [kvGet_miss hi hn]

def strg (w : Nat) (ws : List Str) (i : Nat) : List Str := ((kwT w).take i).filter fun s => decide (s ∉ ws)
theorem kwT_len : ∀ w, (kwT w).length ≤ 3
  | 0 => by decide
  | 1 => by decide
  | 2 => by decide
  | 3 => by decide
  | 4 => by decide
  | 5 => by decide
  | 6 => by decide
  | 7 => by decide
  | 8 => by decide
  | 9 => by decide
  | _ + 10 => Nat.zero_le 3
theorem kwT_ok : ∀ w, ∀ s ∈ kwT w, PyData.strOk s = true := by
  intro w
  match w with
  | 0 => exact (by decide +kernel)
  | 1 => exact (by decide +kernel)
  | 2 => exact (by decide +kernel)
  | 3 => exact (by decide +kernel)
  | 4 => exact (by decide +kernel)
  | 5 => exact (by decide +kernel)
  | 6 => exact (by decide +kernel)
  | 7 => exact (by decide +kernel)
  | 8 => exact (by decide +kernel)
  | 9 => exact (by decide +kernel)
  | _ + 10 => exact fun s h => nomatch h
theorem kwT_nd : ∀ w, (kwT w).Nodup
  | 0 => by decide +kernel
  | 1 => by decide +kernel
  | 2 => by decide +kernel
  | 3 => by decide +kernel
  | 4 => by decide +kernel
  | 5 => by decide +kernel
  | 6 => by decide +kernel
  | 7 => by decide +kernel
  | 8 => by decide +kernel
  | 9 => by decide +kernel
  | _ + 10 => List.nodup_nil
theorem kv_fst (w : Nat) (x y z : Int) : (kvT w x y z).map (·.1) = kwT w := by unfold kvT; exact List.map_fst_zip (kwT_len w)
theorem kv_nd (w : Nat) (x y z : Int) : ((kvT w x y z).map (·.1)).Nodup := by rw [kv_fst]; exact kwT_nd w
theorem kv_len (w : Nat) (x y z : Int) : (kvT w x y z).length ≤ 3 := by have := kwT_len w; have h := congrArg List.length (kv_fst w x y z); rw [List.length_map] at h; omega
theorem strg_all (w : Nat) (ws : List Str) : strg w ws ((kwT w).map V.str).length = (kwT w).filter fun s => decide (s ∉ ws) := by unfold strg; rw [List.take_of_length_le (by simp)]
theorem strg_none {w : Nat} {ws : List Str} {x y z : Int} (h : ∀ p ∈ kvT w x y z, p.1 ∈ ws) : ((kwT w).filter fun s => decide (s ∉ ws)) = [] := by
  rw [List.filter_eq_nil_iff]
  intro s hs
  rw [← kv_fst w x y z] at hs
  obtain ⟨p, hp, rfl⟩ := List.mem_map.mp hs
  simp [h p hp]
theorem strg_first {w : Nat} {ws : List Str} {x y z : Int} {i : Nat} {p : Str × Int} (h1 : (kvT w x y z)[i]? = some p) (h2 : p.1 ∉ ws) (h3 : ∀ (j : Nat) (q : Str × Int), j < i → (kvT w x y z)[j]? = some q → q.1 ∈ ws) :
    ∃ r, ((kwT w).filter fun s => decide (s ∉ ws)) = p.1 :: r := by
  have e : (kwT w)[i]? = some p.1 := by rw [← kv_fst w x y z, List.getElem?_map, h1]; rfl
  have hi := (List.getElem?_eq_some_iff.mp e).1
  have hs : kwT w = (kwT w).take i ++ (p.1 :: (kwT w).drop (i + 1)) := by
    have hd := List.drop_eq_getElem_cons hi
    rw [(List.getElem?_eq_some_iff.mp e).2] at hd
    rw [← hd, List.take_append_drop]
  have hf : ((kwT w).take i).filter (fun s => decide (s ∉ ws)) = [] := by
    rw [List.filter_eq_nil_iff]
    intro s hm
    obtain ⟨j, hj⟩ := List.mem_iff_getElem?.mp hm
    rw [List.getElem?_take] at hj
    by_cases hji : j < i
    · rw [if_pos hji] at hj
      rw [← kv_fst w x y z, List.getElem?_map] at hj
      cases hq : (kvT w x y z)[j]? with
      | none => rw [hq] at hj; cases hj
      | some q =>
        rw [hq] at hj
        cases hj
        simp [h3 j q hji hq]
    · rw [if_neg hji] at hj; cases hj
  rw [hs, List.filter_append, hf, List.nil_append, List.filter_cons, if_pos (by simp [h2])]
  exact ⟨_, rfl⟩
theorem strg_len (w : Nat) (ws : List Str) (i : Nat) : (strg w ws i).length ≤ 3 := by
  unfold strg
  have := kwT_len w
  have h1 := List.length_filter_le (fun s => decide (s ∉ ws)) ((kwT w).take i)
  rw [List.length_take] at h1
  omega
theorem strg_in {w : Nat} {ws : List Str} {i : Nat} {s : Str} (h : (kwT w)[i]? = some s) (hin : s ∈ ws) : strg w ws (i + 1) = strg w ws i := by
  unfold strg
  rw [List.take_succ, h, List.filter_append]
  simp [hin]
theorem strg_out {w : Nat} {ws : List Str} {i : Nat} {s : Str} (h : (kwT w)[i]? = some s) (hin : s ∉ ws) : strg w ws (i + 1) = strg w ws i ++ [s] := by
  unfold strg
  rw [List.take_succ, h, List.filter_append]
  simp [hin]
theorem strg_ok (w : Nat) (ws : List Str) (i : Nat) : ∀ s ∈ strg w ws i, PyData.strOk s = true := fun s hs => kwT_ok w s (List.mem_of_mem_take (List.mem_filter.mp hs).1)

theorem nz_of {xs ys : List Int} (h : xs.length = ys.length) (e : ¬ xs = ys.map fun _ => (0 : Int)) : ∃ y ∈ xs, y ≠ 0 := by
  refine Classical.byContradiction fun hc => e ?_
  apply List.ext_getElem?
  intro k
  rw [List.getElem?_map]
  cases hx : xs[k]? with
  | none =>
    have := List.getElem?_eq_none_iff.mp hx
    rw [List.getElem?_eq_none (by omega)]; rfl
  | some x =>
    have l := (List.getElem?_eq_some_iff.mp hx).1
    rw [List.getElem?_eq_getElem (show k < ys.length by omega)]
    have : x = 0 := Classical.byContradiction fun c => hc ⟨x, List.mem_of_getElem? hx, c⟩
    rw [this]; rfl

section
variable {P : Program} {w : World} {K : PySem.W.Frag} {mg : Str → Option Value} {base : Heap} {A : Adr}
theorem ok_GangError_init (T : Txt K mg A) : FnOk P w K mg base CX0 1 A.f_GangError_init A.d_GangError_init ["self", "subject"] (spGI K) := by
  refine T.F_GangError_init.ok sc_GangError_init (fun vs H Q E h => ?_) (fun cdv Ar outer s H vs Q E hr h => ?_)
  · obtain ⟨a, C, v, rfl, _⟩ := h
    rfl
  · obtain ⟨a, C, v, rfl, hT, hn, ha, k⟩ := h
    refine ⟨_, (pss_one (ps_ost (pv 0) (pv 1))), ?_⟩
    exact ⟨_, rfl, _, rfl, a, C, rfl, hT, hn, .inl ⟨ha, k⟩⟩
theorem ok_refuse_lengths (T : Txt K mg A) : FnOk P w K mg base (L2.CX P w) 3 A.f_refuse_lengths A.d_refuse_lengths ["left", "right"] (spRL A) := by
  refine T.F_refuse_lengths.okX sc_refuse_lengths (fun vs H Q E h => ?_) (fun cdv Ar outer s H vs Q E hr h => ?_)
  · obtain ⟨a, b, xs, ys, rfl, _⟩ := h
    rfl
  · obtain ⟨a, b, xs, ys, rfl, hX, hY, kG, kB⟩ := h
    refine ⟨_, (pss_one (ps_if (pt_cmpR op_ne (pe_callB (call_len_seqK K) (by rfl) T.n_len (by decide +kernel) (pa_cons (pe_fldK K (pv 0) rfl) pa_nil)) (pe_callB (call_len_seqK K) (by rfl) T.n_len (by decide +kernel) (pa_cons (pe_fldK K (pv 1) rfl) pa_nil)) (nomark _)) (pss_one (ps_raiseG rfl T.x_BadAmounts (ok_GangError_init T) (hr.mono (by decide)) T.b_GangError_init rfl T.g_BadAmounts (takes_of rfl rfl rfl rfl) (pe_fldK K (pv 1) rfl))) pss_nil)), ?_⟩
    obtain ⟨dx, t, hx, ht⟩ := id hX
    obtain ⟨dy, t2, hy, ht2⟩ := id hY
    refine ⟨_, rfl, a, A.c_Amounts, dx, _, _, rfl, hx, T.cl_Amounts, T.no_Amounts_numbers, afl_numbers _, t, _, rfl, .inr (SqT.of ht), _, rfl, b, A.c_Amounts, dy, _, _, rfl, hy, T.cl_Amounts, T.no_Amounts_numbers, afl_numbers _, t2, _, rfl, .inr (SqT.of ht2), rfl, _, rfl, ?_⟩
    have e : (V.int ((xs.map V.int).length : Int) = V.int ((ys.map V.int).length : Int)) ↔ xs.length = ys.length := by rw [V.int.injEq, List.length_map, List.length_map]; omega
    refine iteDN (fun c => kG (e.mp c)) (fun c => ?_)
    refine ⟨_, rfl, b, A.c_Amounts, dy, _, _, rfl, hy, T.cl_Amounts, T.no_Amounts_numbers, afl_numbers _, raiseG_in T.x_BadAmounts fun d hd => ?_⟩
    exact kB (fun z => c (e.mpr z)) t2 d _ (same_new hd) (same_new hd _ _ ht2) upd_same
theorem ok_Amounts_init (T : Txt K mg A) : FnR P w K mg base (L2.CX P w) 3 A.f_Amounts_init (spStar 1 (spAI A)) := by
  refine T.F_Amounts_init.okStar (p1 := "self") (pv := "numbers") sc_Amounts_init (fun kV doc pm an cdv ct us rest hu => match us, rest, hu with | [a], [], _ => rfl | [a], r :: rs, _ => rfl) (fun cdv Ar outer s H vs Q E hr h => ?_)
  obtain ⟨p, t, dx, ys, rfl, hp, ht, kG, kB⟩ := h
  refine ⟨_, (pss_cons (ps_if (pt_not (pt_chain op_le op_le pe_int (pe_callB (call_len_seqK K) (by rfl) T.n_len (by decide +kernel) (pa_cons (pv 1) pa_nil)) pe_int)) (pss_one (ps_raiseG rfl T.x_BadAmounts (ok_GangError_init T) (hr.mono (by decide)) T.b_GangError_init rfl T.g_BadAmounts (takes_of rfl rfl rfl rfl) (pv 1))) pss_nil)
      (pss_one (ps_fld (pv 0) (pv 1) rfl))), ?_⟩
  refine ⟨_, rfl, t, _, rfl, .inr (SqT.of ht), _, _, rfl, rfl, _, rfl, ?_⟩
  refine iteD (fun c1 => ?_) (fun c1 => ?_)
  · refine ⟨_, _, rfl, rfl, _, rfl, ?_⟩
    refine iteDN (fun c2 => ?_) (fun c2 => ?_)
    · exact ⟨_, rfl, _, rfl, p, A.c_Amounts, dx, _, rfl, hp, T.cl_Amounts, T.no_Amounts_numbers, (by show 0 < 1000; decide), kG ⟨by omega, by omega⟩⟩
    · exact ⟨_, rfl, raiseG_in T.x_BadAmounts fun d hd => kB (fun g => c2 (by have := g.2; omega)) d _ (same_new hd) upd_same⟩
  · refine ⟨_, rfl, iteT ?_⟩
    exact ⟨_, rfl, raiseG_in T.x_BadAmounts fun d hd => kB (fun g => c1 (by have := g.1; omega)) d _ (same_new hd) upd_same⟩
theorem ok_Amounts_bool (T : Txt K mg A) : FnOk P w K mg base CX0 1 A.f_Amounts_bool A.d_Amounts_bool ["self"] (spBool A) := by
  refine T.F_Amounts_bool.ok sc_Amounts_bool (fun vs H Q E h => ?_) (fun cdv Ar outer s H vs Q E hr h => ?_)
  · obtain ⟨a, xs, rfl, _⟩ := h
    rfl
  · obtain ⟨a, xs, rfl, hX, hg, k⟩ := h
    refine ⟨_, (pss_one (ps_ret (pe_callB (cr_any rfl) (by rfl) T.n_any (by decide +kernel) (pa_cons (pe_lc (own := [("number", 1)]) (g := gName 1) (tt := tYes) rfl sc_Amounts_bool.nd (pi_tupK K (pe_fldK K (pv 0) rfl)) (blkOk_by (N := ["self", "number"]) (sc := defScope s_Amounts_bool) (by decide +kernel)) (fun _ _ _ _ _ => (pg_name (i := 1) sc_Amounts_bool.nd rfl (Or.inl rfl))) (fun _ _ _ _ _ => pts_nil) (fun _ _ _ _ _ => (pe_cmpR op_ne (pv 1) pe_int (nomark _)))) pa_nil)))), ?_⟩
    obtain ⟨dx, t, hx, ht⟩ := id hX
    refine ⟨_, rfl, a, A.c_Amounts, dx, _, _, rfl, hx, T.cl_Amounts, T.no_Amounts_numbers, afl_numbers _, t, rfl, ⟨_, SqT.of ht⟩, ?_⟩
    intro D hD
    refine lc_tup (fun i H' => Same H H' ∧ H' D = some (.lst (((xs.map fun i => !decide (V.int i = V.int 0)).take i).map V.bl))) ⟨same_new hD, upd_same⟩ (fun i H' hi h => SqT.of (h.1 _ _ ht)) ?_ ?_
    · rintro i x H' hi ⟨s', hD'⟩
      obtain ⟨i1, g1, rfl⟩ := getMap hi
      refine ⟨rfl, ?_⟩
      refine ⟨_, rfl, rfl, _, hD', small1000 (by rw [List.length_map, List.length_take, List.length_map]; have := hg.2; omega), same_put s' hD, ?_⟩
      rw [upd_same]
      have hv : (xs.map fun i => !decide (V.int i = V.int 0))[i]? = some (!decide (V.int i1 = V.int 0)) := by rw [List.getElem?_map, g1]; rfl
      rw [List.take_succ, hv, List.map_append]
      rfl
    · rintro H2 ⟨s2, hD2⟩
      rw [List.take_of_length_le (by rw [List.length_map, List.length_map]; exact Nat.le_refl _)] at hD2
      refine ⟨D, _, rfl, SqL.of hD2, ?_⟩
      rw [List.any_map]
      exact k H2 s2
theorem ok_Amounts_add (T : Txt K mg A) : FnOk P w K mg base (L2.CX P w) 6 A.f_Amounts_add A.d_Amounts_add ["self", "other"] (spBin A (fun i j => i + j)) := by
  refine T.F_Amounts_add.okX sc_Amounts_add (fun vs H Q E h => ?_) (fun cdv Ar outer s H vs Q E hr h => ?_)
  · obtain ⟨a, b, xs, ys, rfl, _⟩ := h
    rfl
  · obtain ⟨a, b, xs, ys, rfl, hX, hY, hg, kG, kB⟩ := h
    refine ⟨_, (pss_cons (ps_expr (pe_call (ok_refuse_lengths T) (hr.mono (by decide)) rfl T.g_refuse_lengths T.F_refuse_lengths.kp T.b_refuse_lengths .nil (passes_call (takes_of rfl rfl rfl rfl) (fun _ _ _ _ h => h)) (pa_cons (pv 0) (pa_cons (pv 1) pa_nil))))
        (pss_cons (ps_setLc (i := 2) (own := [("one", 3), ("two", 4)]) (g := gTup K 2 (gCons (gName 3) (gCons (gName 4) gNil))) (tt := tYes) rfl sc_Amounts_add.nd rfl rfl (sw_true rfl rfl rfl (by decide +kernel)) (pi_zipK K rfl T.n_zip (pa_cons (pe_fldK K (pv 0) rfl) (pa_cons (pe_fldK K (pv 1) rfl) pa_nil))) (blkOk_by (N := ["self", "other", "numbers", "one", "two"]) (sc := defScope s_Amounts_add) (by decide +kernel)) (fun _ _ _ _ _ => (pg_tup rfl (pgs_cons (pg_name (i := 3) sc_Amounts_add.nd rfl (Or.inl rfl)) (pgs_cons (pg_name (i := 4) sc_Amounts_add.nd rfl (Or.inl rfl)) pgs_nil)))) (fun _ _ _ _ _ => pts_nil) (fun _ _ _ _ _ => (pe_op op_add (pv 3) (pv 4))))
        (pss_one (ps_ret (pe_makeStar T.mk_Amounts (ok_Amounts_init T) (hr.mono (by decide)) rfl T.g_Amounts (passes_call (takes_of rfl rfl rfl rfl) (fun _ _ _ _ h => h)) (pv 2)))))), ?_⟩
    obtain ⟨dx, t, hx, ht⟩ := id hX
    obtain ⟨dy, t2, hy, ht2⟩ := id hY
    refine ⟨_, rfl, _, rfl, a, b, xs, ys, rfl, hX, hY, fun he => ?_, fun hne => kB hne⟩
    refine ⟨_, rfl, a, A.c_Amounts, dx, _, _, rfl, hx, T.cl_Amounts, T.no_Amounts_numbers, afl_numbers _, _, rfl, b, A.c_Amounts, dy, _, _, rfl, hy, T.cl_Amounts, T.no_Amounts_numbers, afl_numbers _, t, t2, _, _, rfl, .inr ⟨SqT.of ht, SqT.of ht2, ?_⟩⟩
    intro D hD
    refine lc_it (walk_zipT (n := xs.length) (by rw [List.length_map, List.length_map]; omega)) (fun i H' => Same H H' ∧ H' D = some (.lst (((List.zipWith (fun i j => i + j) xs ys).take i).map V.int))) ⟨same_new hD, upd_same⟩ (fun i H' hi h => ⟨SqT.of (h.1 _ _ ht), SqT.of (h.1 _ _ ht2)⟩) ?_ ?_
    · rintro i x H' H'' hi ⟨s', hD'⟩ ⟨T1, v1, v2, rfl, hT1, rfl, e1, e2⟩
      obtain ⟨i1, g1, rfl⟩ := getMap e1
      obtain ⟨i2, g2, rfl⟩ := getMap e2
      have hDT : D ≠ T1 := ne_of_none hD' hT1
      refine ⟨T1, _, rfl, SqT.of upd_same, rfl, _, _, rfl, _, _, rfl, rfl, ?_⟩
      refine ⟨rfl, ?_⟩
      refine ⟨_, rfl, _, rfl, _, _, rfl, rfl, _, by rw [upd_ne hDT]; exact hD', small1000 (by rw [List.length_map, List.length_take]; have := hg.2; omega), same_put (s'.trans (same_new hT1)) hD, ?_⟩
      rw [upd_same]
      have hv : ((List.zipWith (fun i j => i + j) xs ys))[i]? = some ((fun i j => i + j) i1 i2) := by simp [List.getElem?_zipWith, g1, g2]
      rw [List.take_succ, hv, List.map_append]
      rfl
    · rintro H2 ⟨s2, hD2⟩
      rw [List.take_of_length_le (by rw [List.length_zipWith]; omega)] at hD2
      refine ⟨_, rfl, D, _, rfl, .inr (SqL.of hD2), ?_⟩
      exact amt_made ⟨by rw [List.length_zipWith]; have := hg.1; omega, by rw [List.length_zipWith]; have := hg.2; omega⟩ ((kG he).from s2)
theorem ok_Amounts_sub (T : Txt K mg A) : FnOk P w K mg base (L2.CX P w) 6 A.f_Amounts_sub A.d_Amounts_sub ["self", "other"] (spBin A (fun i j => i - j)) := by
  refine T.F_Amounts_sub.okX sc_Amounts_sub (fun vs H Q E h => ?_) (fun cdv Ar outer s H vs Q E hr h => ?_)
  · obtain ⟨a, b, xs, ys, rfl, _⟩ := h
    rfl
  · obtain ⟨a, b, xs, ys, rfl, hX, hY, hg, kG, kB⟩ := h
    refine ⟨_, (pss_cons (ps_expr (pe_call (ok_refuse_lengths T) (hr.mono (by decide)) rfl T.g_refuse_lengths T.F_refuse_lengths.kp T.b_refuse_lengths .nil (passes_call (takes_of rfl rfl rfl rfl) (fun _ _ _ _ h => h)) (pa_cons (pv 0) (pa_cons (pv 1) pa_nil))))
        (pss_cons (ps_setLc (i := 2) (own := [("one", 3), ("two", 4)]) (g := gTup K 2 (gCons (gName 3) (gCons (gName 4) gNil))) (tt := tYes) rfl sc_Amounts_sub.nd rfl rfl (sw_true rfl rfl rfl (by decide +kernel)) (pi_zipK K rfl T.n_zip (pa_cons (pe_fldK K (pv 0) rfl) (pa_cons (pe_fldK K (pv 1) rfl) pa_nil))) (blkOk_by (N := ["self", "other", "numbers", "one", "two"]) (sc := defScope s_Amounts_sub) (by decide +kernel)) (fun _ _ _ _ _ => (pg_tup rfl (pgs_cons (pg_name (i := 3) sc_Amounts_sub.nd rfl (Or.inl rfl)) (pgs_cons (pg_name (i := 4) sc_Amounts_sub.nd rfl (Or.inl rfl)) pgs_nil)))) (fun _ _ _ _ _ => pts_nil) (fun _ _ _ _ _ => (pe_op op_sub (pv 3) (pv 4))))
        (pss_one (ps_ret (pe_makeStar T.mk_Amounts (ok_Amounts_init T) (hr.mono (by decide)) rfl T.g_Amounts (passes_call (takes_of rfl rfl rfl rfl) (fun _ _ _ _ h => h)) (pv 2)))))), ?_⟩
    obtain ⟨dx, t, hx, ht⟩ := id hX
    obtain ⟨dy, t2, hy, ht2⟩ := id hY
    refine ⟨_, rfl, _, rfl, a, b, xs, ys, rfl, hX, hY, fun he => ?_, fun hne => kB hne⟩
    refine ⟨_, rfl, a, A.c_Amounts, dx, _, _, rfl, hx, T.cl_Amounts, T.no_Amounts_numbers, afl_numbers _, _, rfl, b, A.c_Amounts, dy, _, _, rfl, hy, T.cl_Amounts, T.no_Amounts_numbers, afl_numbers _, t, t2, _, _, rfl, .inr ⟨SqT.of ht, SqT.of ht2, ?_⟩⟩
    intro D hD
    refine lc_it (walk_zipT (n := xs.length) (by rw [List.length_map, List.length_map]; omega)) (fun i H' => Same H H' ∧ H' D = some (.lst (((List.zipWith (fun i j => i - j) xs ys).take i).map V.int))) ⟨same_new hD, upd_same⟩ (fun i H' hi h => ⟨SqT.of (h.1 _ _ ht), SqT.of (h.1 _ _ ht2)⟩) ?_ ?_
    · rintro i x H' H'' hi ⟨s', hD'⟩ ⟨T1, v1, v2, rfl, hT1, rfl, e1, e2⟩
      obtain ⟨i1, g1, rfl⟩ := getMap e1
      obtain ⟨i2, g2, rfl⟩ := getMap e2
      have hDT : D ≠ T1 := ne_of_none hD' hT1
      refine ⟨T1, _, rfl, SqT.of upd_same, rfl, _, _, rfl, _, _, rfl, rfl, ?_⟩
      refine ⟨rfl, ?_⟩
      refine ⟨_, rfl, _, rfl, _, _, rfl, rfl, _, by rw [upd_ne hDT]; exact hD', small1000 (by rw [List.length_map, List.length_take]; have := hg.2; omega), same_put (s'.trans (same_new hT1)) hD, ?_⟩
      rw [upd_same]
      have hv : ((List.zipWith (fun i j => i - j) xs ys))[i]? = some ((fun i j => i - j) i1 i2) := by simp [List.getElem?_zipWith, g1, g2]
      rw [List.take_succ, hv, List.map_append]
      rfl
    · rintro H2 ⟨s2, hD2⟩
      rw [List.take_of_length_le (by rw [List.length_zipWith]; omega)] at hD2
      refine ⟨_, rfl, D, _, rfl, .inr (SqL.of hD2), ?_⟩
      exact amt_made ⟨by rw [List.length_zipWith]; have := hg.1; omega, by rw [List.length_zipWith]; have := hg.2; omega⟩ ((kG he).from s2)
theorem ok_Amounts_mul (T : Txt K mg A) : FnOk P w K mg base (L2.CX P w) 6 A.f_Amounts_mul A.d_Amounts_mul ["self", "other"] (spMulA A) := by
  refine T.F_Amounts_mul.okX sc_Amounts_mul (fun vs H Q E h => ?_) (fun cdv Ar outer s H vs Q E hr h => ?_)
  · obtain ⟨a, xs, n, m, rfl, _⟩ := h
    rfl
  · obtain ⟨a, xs, n, m, rfl, hX, hg, hb, hn, h0, h1, k⟩ := h
    refine ⟨_, (pss_cons (ps_setLc (i := 2) (own := [("number", 3)]) (g := gName 3) (tt := tYes) rfl sc_Amounts_mul.nd rfl rfl (sw_true rfl rfl rfl (by decide +kernel)) (pi_tupK K (pe_fldK K (pv 0) rfl)) (blkOk_by (N := ["self", "other", "numbers", "number"]) (sc := defScope s_Amounts_mul) (by decide +kernel)) (fun _ _ _ _ _ => (pg_name (i := 3) sc_Amounts_mul.nd rfl (Or.inl rfl))) (fun _ _ _ _ _ => pts_nil) (fun _ _ _ _ _ => (pe_op op_mulX (pv 3) (pv 1))))
        (pss_one (ps_ret (pe_makeStar T.mk_Amounts (ok_Amounts_init T) (hr.mono (by decide)) rfl T.g_Amounts (passes_call (takes_of rfl rfl rfl rfl) (fun _ _ _ _ h => h)) (pv 2))))), ?_⟩
    obtain ⟨dx, t, hx, ht⟩ := id hX
    walk_at "gb go"
    rename_i D hD
    refine lc_tup (K := K) (a := t) (xs := xs.map V.int) (fun i H' => Same H H' ∧ H' D = some (.lst (((xs.map (· * n)).map V.int).take i))) ⟨same_new hD, upd_same⟩ (fun i H' hi h => SqT.of (h.1 _ _ ht)) ?_ ?_
    · rintro i x H' hi ⟨s', hD'⟩
      obtain ⟨i1, g1, rfl⟩ := getMap hi
      have hmem := List.mem_of_getElem? g1
      refine ⟨rfl, ?_⟩
      refine ⟨_, rfl, _, rfl, _, _, rfl, rfl, (hb _ hmem).ok hn h0 h0 (by omega), ?_⟩
      exact lc_put hD s' hD' (by rw [List.getElem?_map, List.getElem?_map, g1]; rfl) (by rw [List.length_map, List.length_map]; have := hg.2; omega)
    rintro H2 ⟨s2, hD2⟩
    rw [take_all (by simp)] at hD2
    refine ⟨_, rfl, D, _, rfl, .inr (SqL.of hD2), ?_⟩
    exact amt_made hg.map (k.from s2)
theorem ok_Amounts_rmul (T : Txt K mg A) : FnOk P w K mg base (L2.CX P w) 7 A.f_Amounts_rmul A.d_Amounts_rmul ["self", "other"] (spMulA A) := by
  refine T.F_Amounts_rmul.okX sc_Amounts_rmul (fun vs H Q E h => ?_) (fun cdv Ar outer s H vs Q E hr h => ?_)
  · obtain ⟨a, xs, n, m, rfl, _⟩ := h
    rfl
  · obtain ⟨a, xs, n, m, rfl, hX, hg, hb, hn, h0, h1, k⟩ := h
    refine ⟨_, (pss_one (ps_ret (pe_op (op_ownI T.me_Amounts_mul T.sf_Amounts T.i_Amounts_mul (ok_Amounts_mul T) (hr.mono (by decide)) T.b_Amounts_mul (passes_call (takes_of rfl rfl rfl rfl) (fun _ _ _ _ h => h))) (pv 0) (pv 1)))), ?_⟩
    obtain ⟨dx, t, hx, ht⟩ := id hX
    walk_at "gb go"
    exact k _ _ (by assumption) (by assumption)
theorem ok_Amounts_floordiv (T : Txt K mg A) : FnOk P w K mg base (L2.CX P w) 6 A.f_Amounts_floordiv A.d_Amounts_floordiv ["self", "other"] (spDiv A) := by
  refine T.F_Amounts_floordiv.okX sc_Amounts_floordiv (fun vs H Q E h => ?_) (fun cdv Ar outer s H vs Q E hr h => ?_)
  · obtain ⟨a, b, xs, ys, rfl, _⟩ := h
    rfl
  · obtain ⟨a, b, xs, ys, rfl, hX, hY, hg, he, hpx, hpy, hby, kG, kB⟩ := h
    refine ⟨_, (pss_cons (ps_expr (pe_call (ok_refuse_lengths T) (hr.mono (by decide)) rfl T.g_refuse_lengths T.F_refuse_lengths.kp T.b_refuse_lengths .nil (passes_call (takes_of rfl rfl rfl rfl) (fun _ _ _ _ h => h)) (pa_cons (pv 0) (pa_cons (pv 1) pa_nil))))
        (pss_cons (ps_if (pt_not (pt_own (tru_own (T.me_Amounts_bool) (ok_Amounts_bool T) (hr.mono (by decide)) T.b_Amounts_bool pass0) (pv 1))) (pss_one (ps_raiseG rfl T.x_BadAmounts (ok_GangError_init T) (hr.mono (by decide)) T.b_GangError_init rfl T.g_BadAmounts (takes_of rfl rfl rfl rfl) (pe_fldK K (pv 1) rfl))) pss_nil)
        (pss_one (ps_ret (pe_callB (cr_min rfl) (by rfl) T.n_min (by decide +kernel) (pa_cons (pe_lc (own := [("one", 2), ("two", 3)]) (g := gTup K 2 (gCons (gName 2) (gCons (gName 3) gNil))) rfl sc_Amounts_floordiv.nd (pi_zipK K rfl T.n_zip (pa_cons (pe_fldK K (pv 0) rfl) (pa_cons (pe_fldK K (pv 1) rfl) pa_nil))) (blkOk_by (N := ["self", "other", "one", "two"]) (sc := defScope s_Amounts_floordiv) (by decide +kernel)) (fun _ _ _ _ _ => (pg_tup rfl (pgs_cons (pg_name (i := 2) sc_Amounts_floordiv.nd rfl (Or.inl rfl)) (pgs_cons (pg_name (i := 3) sc_Amounts_floordiv.nd rfl (Or.inl rfl)) pgs_nil)))) (fun _ _ _ _ _ => pts_one (pt_cmpR op_ne (pv 3) pe_int (nomark _))) (fun _ _ _ _ _ => (pe_op op_fdivX (pv 2) (pv 3)))) pa_nil)))))), ?_⟩
    obtain ⟨dx, t, hx, ht⟩ := id hX
    obtain ⟨dy, t2, hy, ht2⟩ := id hY
    refine ⟨_, rfl, _, rfl, a, b, xs, ys, rfl, hX, hY, fun _ => ?_, fun hne => absurd he hne⟩
    have hgy : Few ys := by unfold Few at *; omega
    refine ⟨_, rfl, b, dy, _, rfl, hy, b, ys, rfl, hY, hgy, ?_⟩
    intro H1 s1
    refine ⟨_, rfl, ?_⟩
    cases hz : (ys.any fun i => !decide (V.int i = V.int 0)) with
    | false =>
      refine iteT ?_
      have hyt := s1 _ _ ht2
      refine ⟨_, rfl, b, A.c_Amounts, dy, _, _, rfl, (s1 _ _ hy), T.cl_Amounts, T.no_Amounts_numbers, afl_numbers _, raiseG_in T.x_BadAmounts fun d hd => ?_⟩
      exact kB (all_z hz) t2 d _ (s1.trans (same_new hd)) (same_new hd _ _ hyt) upd_same
    | true =>
      refine iteF ?_
      obtain ⟨y, hym, hy0⟩ := any_nz.mp hz
      have hx1 := s1 _ _ hx
      have hy1 := s1 _ _ hy
      have ht1 := s1 _ _ ht
      have ht21 := s1 _ _ ht2
      refine ⟨_, rfl, a, A.c_Amounts, dx, _, _, rfl, (s1 _ _ hx), T.cl_Amounts, T.no_Amounts_numbers, afl_numbers _, _, rfl, b, A.c_Amounts, dy, _, _, rfl, (s1 _ _ hy), T.cl_Amounts, T.no_Amounts_numbers, afl_numbers _, t, t2, _, _, rfl, .inr ⟨SqT.of ht1, SqT.of ht21, ?_⟩⟩
      intro D hD
      refine lc_it (walk_zipT (n := xs.length) (by rw [List.length_map, List.length_map]; omega)) (fun i H' => Same H1 H' ∧ ∃ qs : List Int, H' D = some (.lst (qs.map V.int)) ∧ qs.length ≤ i ∧ (∀ q ∈ qs, ∃ (j : Nat) (a b : Int), xs[j]? = some a ∧ ys[j]? = some b ∧ b ≠ 0 ∧ q = a.fdiv b) ∧ (∀ (j : Nat) (a b : Int), j < i → xs[j]? = some a → ys[j]? = some b → b ≠ 0 → a.fdiv b ∈ qs))
        ⟨same_new hD, [], upd_same, Nat.le_refl _, (by intro q hq; cases hq), fun j a b hj => absurd hj (Nat.not_lt_zero _)⟩ (fun i H' hi h => ⟨SqT.of (h.1 _ _ ht1), SqT.of (h.1 _ _ ht21)⟩) ?_ ?_
      · rintro i x H' H'' hi ⟨s', qs, hD', hl, h1, h2⟩ ⟨T1, v1, v2, rfl, hT1, rfl, e1, e2⟩
        obtain ⟨i1, g1, rfl⟩ := getMap e1
        obtain ⟨i2, g2, rfl⟩ := getMap e2
        have hDT : D ≠ T1 := ne_of_none hD' hT1
        have g0 := hpy i2 (List.mem_of_getElem? g2)
        refine ⟨T1, _, rfl, SqT.of upd_same, rfl, _, _, rfl, _, _, rfl, rfl, ?_⟩
        refine ⟨rfl, ?_⟩
        refine ⟨_, rfl, rfl, _, rfl, ?_⟩
        refine iteIN (fun c => ?_) (fun c => ?_)
        · refine ⟨_, rfl, _, rfl, _, _, rfl, rfl, ⟨c, Nat.lt_of_lt_of_le ((hby _ (List.mem_of_getElem? g2)).log (by decide)) (by decide)⟩, ?_⟩
          refine ⟨_, by rw [upd_ne hDT]; exact hD', small1000 (by rw [List.length_map]; have := hg.2; omega), same_put (s'.trans (same_new hT1)) hD, qs ++ [i1.fdiv i2], ?_, by rw [List.length_append]; show qs.length + 1 ≤ i + 1; omega, ?_, ?_⟩
          · rw [upd_same, List.map_append]; rfl
          · intro q hq
            rcases List.mem_append.mp hq with hq | hq
            · exact h1 q hq
            · exact ⟨i, i1, i2, g1, g2, c, List.mem_singleton.mp hq⟩
          · intro j a' b' hj j1 j2 j3
            by_cases hji : j < i
            · exact List.mem_append_left _ (h2 j a' b' hji j1 j2 j3)
            · have e : j = i := by omega
              subst e
              rw [g1] at j1; rw [g2] at j2
              cases j1; cases j2
              exact List.mem_append_right _ (List.mem_singleton.mpr rfl)
        · refine ⟨s'.trans (same_new hT1), qs, by rw [upd_ne hDT]; exact hD', by omega, h1, ?_⟩
          intro j a' b' hj j1 j2 j3
          by_cases hji : j < i
          · exact h2 j a' b' hji j1 j2 j3
          · have e : j = i := by omega
            subst e
            rw [g2] at j2
            cases j2
            exact absurd c j3
      · rintro H2 ⟨s2, qs, hD2, hl, h1, h2⟩
        obtain ⟨j0, hj0⟩ := List.mem_iff_getElem?.mp hym
        have hj1 : j0 < ys.length := (List.getElem?_eq_some_iff.mp hj0).1
        have hx0 : xs[j0]? = some (xs[j0]'(by omega)) := List.getElem?_eq_getElem (by omega)
        have hm0 := h2 j0 _ _ (by omega) hx0 hj0 hy0
        refine ⟨D, qs, rfl, SqL.of hD2, List.length_pos_of_mem hm0, fun m hm hmin => ?_⟩
        refine kG ⟨y, hym, hy0⟩ m H2 (s1.trans s2) ⟨?_, ?_, ?_⟩
        · obtain ⟨j, a', b', j1, j2, j3, rfl⟩ := h1 m hm
          exact Int.fdiv_nonneg (hpx _ (List.mem_of_getElem? j1)) (hpy _ (List.mem_of_getElem? j2))
        · intro j a' b' j1 j2
          have p1 := hpx _ (List.mem_of_getElem? j1)
          have p2 := hpy _ (List.mem_of_getElem? j2)
          by_cases c : b' = 0
          · subst c
            rw [Int.mul_zero]
            exact p1
          · have hle := hmin _ (h2 j a' b' (by have := (List.getElem?_eq_some_iff.mp j1).1; omega) j1 j2 c)
            have z := Int.mul_le_mul_of_nonneg_right hle p2
            have w : a'.fdiv b' * b' ≤ a' := by
              rw [Int.fdiv_eq_ediv_of_nonneg _ p2, Int.mul_comm]
              exact Int.mul_ediv_self_le c
            omega
        · obtain ⟨j, a', b', j1, j2, j3, rfl⟩ := h1 m hm
          have p1 := hpx _ (List.mem_of_getElem? j1)
          have p2 := hpy _ (List.mem_of_getElem? j2)
          refine ⟨j, a', b', j1, j2, p1, p2, ?_⟩
          rw [Int.fdiv_eq_ediv_of_nonneg _ p2]
          exact Int.lt_ediv_add_one_mul_self a' (by omega)
theorem ok_Amounts_mod (T : Txt K mg A) : FnOk P w K mg base (L2.CX P w) 8 A.f_Amounts_mod A.d_Amounts_mod ["self", "other"] (spMod A) := by
  refine T.F_Amounts_mod.okX sc_Amounts_mod (fun vs H Q E h => ?_) (fun cdv Ar outer s H vs Q E hr h => ?_)
  · obtain ⟨a, b, xs, ys, rfl, _⟩ := h
    rfl
  · obtain ⟨a, b, xs, ys, rfl, hX, hY, hg, he, hpx, hpy, hbx, hby, kG, kB⟩ := h
    refine ⟨_, (pss_one (ps_ret (pe_op (op_own T.me_Amounts_sub T.sf_Amounts (ok_Amounts_sub T) (hr.mono (by decide)) T.b_Amounts_sub (passes_call (takes_of rfl rfl rfl rfl) (fun _ _ _ _ h => h))) (pv 0) (pe_op (op_iown intMul T.me_Amounts_mul T.me_Amounts_rmul T.sf_Amounts T.si_Amounts (ok_Amounts_rmul T) (hr.mono (by decide)) T.b_Amounts_rmul (passes_call (takes_of rfl rfl rfl rfl) (fun _ _ _ _ h => h))) (pe_op (op_own T.me_Amounts_floordiv T.sf_Amounts (ok_Amounts_floordiv T) (hr.mono (by decide)) T.b_Amounts_floordiv (passes_call (takes_of rfl rfl rfl rfl) (fun _ _ _ _ h => h))) (pv 0) (pv 1)) (pv 1))))), ?_⟩
    obtain ⟨dx, t, hx, ht⟩ := id hX
    obtain ⟨dy, t2, hy, ht2⟩ := id hY
    have hgy : Few ys := by unfold Few at *; omega
    refine ⟨_, rfl, _, rfl, _, rfl, a, dx, _, b, dy, _, rfl, hx, rfl, hy, a, b, xs, ys, rfl, hX, hY, hg, he, hpx, hpy, hby, fun hnz n H1 s1 hdv => ?_, fun hz => kB hz⟩
    have hnb := bits_dv hdv hbx (by decide)
    refine ⟨_, rfl, b, dy, _, n, rfl, s1 _ _ hy, rfl, b, ys, n, 100, rfl, hY.mono s1, hgy, hby, hnb, by decide, by decide, ?_⟩
    intro x2 H2 s2 hx2
    obtain ⟨d2, t3, h2, ht3⟩ := id hx2
    have s12 := s1.trans s2
    refine ⟨a, dx, _, x2, d2, _, rfl, s12 _ _ hx, rfl, h2, a, x2, xs, _, rfl, hX.mono s12, hx2, hg, fun _ => ?_, fun hne => absurd (by rw [List.length_map]; exact he) hne⟩
    exact (kG hnz n hdv).from s12
theorem ok_Amounts_neg (T : Txt K mg A) : FnOk P w K mg base (L2.CX P w) 7 A.f_Amounts_neg A.d_Amounts_neg ["self"] (spNegA A) := by
  refine T.F_Amounts_neg.okX sc_Amounts_neg (fun vs H Q E h => ?_) (fun cdv Ar outer s H vs Q E hr h => ?_)
  · obtain ⟨a, xs, rfl, _⟩ := h
    rfl
  · obtain ⟨a, xs, rfl, hX, hg, hb, k⟩ := h
    refine ⟨_, (pss_one (ps_ret (pe_op (op_ownI T.me_Amounts_mul T.sf_Amounts T.i_Amounts_mul (ok_Amounts_mul T) (hr.mono (by decide)) T.b_Amounts_mul (passes_call (takes_of rfl rfl rfl rfl) (fun _ _ _ _ h => h))) (pv 0) (pe_un un_neg pe_int)))), ?_⟩
    obtain ⟨dx, t, hx, ht⟩ := id hX
    refine ⟨_, rfl, _, rfl, a, dx, _, -1, rfl, hx, rfl, a, xs, -1, 100, rfl, hX, hg, hb, ?_, by decide, by decide, k⟩
    unfold Bits; decide
theorem ok_Amounts_abs (T : Txt K mg A) : FnOk P w K mg base CX0 1 A.f_Amounts_abs A.d_Amounts_abs ["self"] (spAbsA A) := by
  refine T.F_Amounts_abs.ok sc_Amounts_abs (fun vs H Q E h => ?_) (fun cdv Ar outer s H vs Q E hr h => ?_)
  · obtain ⟨a, xs, rfl, _⟩ := h
    rfl
  · obtain ⟨a, xs, rfl, hX, hg, k⟩ := h
    refine ⟨_, (pss_one (ps_ret (pe_callB (cr_sum rfl) (by rfl) T.n_sum (by decide +kernel) (pa_cons (pe_lc (own := [("number", 1)]) (g := gName 1) (tt := tYes) rfl sc_Amounts_abs.nd (pi_tupK K (pe_fldK K (pv 0) rfl)) (blkOk_by (N := ["self", "number"]) (sc := defScope s_Amounts_abs) (by decide +kernel)) (fun _ _ _ _ _ => (pg_name (i := 1) sc_Amounts_abs.nd rfl (Or.inl rfl))) (fun _ _ _ _ _ => pts_nil) (fun _ _ _ _ _ => (pe_callB call_abs (by rfl) T.n_abs (by decide +kernel) (pa_cons (pv 1) pa_nil)))) pa_nil)))), ?_⟩
    obtain ⟨dx, t, hx, ht⟩ := id hX
    walk_at "gb go"
    rename_i D hD
    refine lc_tup (K := K) (a := t) (xs := xs.map V.int) (fun i H' => Same H H' ∧ H' D = some (.lst (((xs.map ab).map V.int).take i))) ⟨same_new hD, upd_same⟩ (fun i H' hi h => SqT.of (h.1 _ _ ht)) ?_ ?_
    · rintro i x H' hi ⟨s', hD'⟩
      obtain ⟨i1, g1, rfl⟩ := getMap hi
      have hmem := List.mem_of_getElem? g1
      refine ⟨rfl, ?_⟩
      refine ⟨_, rfl, _, rfl, ?_⟩
      exact lc_put hD s' hD' (by rw [List.getElem?_map, List.getElem?_map, g1]; rfl) (by rw [List.length_map, List.length_map]; have := hg.2; omega)
    rintro H2 ⟨s2, hD2⟩
    rw [take_all (by simp)] at hD2
    exact ⟨D, _, rfl, SqL.of hD2, k H2 s2⟩
theorem ok_pool (T : Txt K mg A) : FnOk P w K mg base CX0 1 A.f_pool A.d_pool ["_law_script"] (spPool K) := by
  refine T.F_pool.ok sc_pool (fun vs H Q E h => ?_) (fun cdv Ar outer s H vs Q E hr h => ?_)
  · obtain ⟨a, ns, rfl, _⟩ := h
    rfl
  · obtain ⟨a, ns, rfl, hS, hl, hb, k⟩ := h
    refine ⟨_, (pss_cons (ps_set (i := 1) sc_pool.nd rfl (Or.inl rfl) (pe_lst (pa_cons pe_int (pa_cons pe_int (pa_cons pe_int (pa_cons pe_int pa_nil))))))
        (pss_cons (ps_for PassesOwn.never rfl (pi_listK K (pv 0)) (pg_name (i := 2) sc_pool.nd rfl (Or.inl rfl))
        (pss_one (ps_if (pt_cmpR op_ge (pv 2) (pe_op op_pow pe_int pe_int) (nomark _)) (pss_one (ps_expr (pe_bm PySem.F.plainAttrs_list PySem.F.slot_list_append PySem.F.type_list_append mt_append (pv 1) (pa_cons (pv 2) pa_nil)))) (pss_cons (ps_asg (pe_op op_mod (pe_callTy call_int1 (by rfl) T.n_int (by decide +kernel) (pa_cons (pe_op op_add (pe_op op_mulX (pe_ix (ix_listK K) (pv 1) pe_int (fun _ _ => rfl)) pe_int) (pv 2)) pa_nil)) pe_int) (pg_sub (pv 1) pe_int set_list))
        (pss_cons (ps_asg (pe_op op_mod (pe_callTy call_int1 (by rfl) T.n_int (by decide +kernel) (pa_cons (pe_op op_add (pe_op op_mulX (pe_ix (ix_listK K) (pv 1) pe_int (fun _ _ => rfl)) pe_int) (pe_op op_mulX (pv 2) (pv 2))) pa_nil)) pe_int) (pg_sub (pv 1) pe_int set_list))
        (pss_one (ps_asg (pe_op op_mod (pe_callTy call_int1 (by rfl) T.n_int (by decide +kernel) (pa_cons (pe_op op_add (pe_op op_mulX (pe_ix (ix_listK K) (pv 1) pe_int (fun _ _ => rfl)) pe_int) (pe_op op_mulX (pv 2) pe_int)) pa_nil)) pe_int) (pg_sub (pv 1) pe_int set_list))))))))
        (pss_one (ps_ret (pv 1))))), ?_⟩
    refine ⟨(by show 4 ≤ sizeLine; decide), fun p hp => ?_⟩
    have sp : Same H (upd H p (.lst (poolL 1 2 3 0 []))) := same_new hp
    refine ⟨_, rfl, a, rfl, ⟨_, sp.seq hS⟩, for_list (K := K) (a := a) (xs := ns.map V.int) (fun i σ H' => ∃ v x0 x1 x2 bs, σ = [some (.ref a), some (.ref p), v] ∧ SameBut p H H' ∧ H' p = some (.lst (poolL x0 x1 x2 0 bs)) ∧ bs.length ≤ i ∧ ∀ z ∈ bs, 1 ≤ z)
      ⟨none, 1, 2, 3, [], rfl, sp.but, upd_same, Nat.le_refl _, fun z h => absurd h List.not_mem_nil⟩ (fun i σ H' _ ⟨_, _, _, _, _, _, sb, _⟩ => (same_of_but hp sb).seq hS) ?_ ?_⟩
    · rintro i y σ H' hi ⟨v, x0, x1, x2, bs, rfl, sb, hp', hbl, hz⟩
      obtain ⟨z, hzi, rfl⟩ := getMap hi
      have hil : i < ns.length := (List.getElem?_eq_some_iff.mp hzi).1
      have hbits := hb z (List.mem_of_getElem? hzi)
      refine ⟨_, rfl, _, _, rfl, rfl, ⟨by decide, by decide, by decide⟩, _, _, rfl, rfl, _, rfl, ?_⟩
      refine iteD (fun c => ?_) (fun c => ?_)
      · refine ⟨_, rfl, .inl ⟨rfl, _, SqL.of hp'⟩, _, rfl, p, _, _, rfl, rfl, hp', small1000 (by rw [pool_len]; omega), ?_⟩
        refine ⟨some (.int z), x0, x1, x2, bs ++ [z], rfl, sb.trans sameBut_upd, ?_, by rw [List.length_append]; show bs.length + 1 ≤ i + 1; omega, fun q hq => ?_⟩
        · rw [upd_same]; simp [poolL]
        · rcases List.mem_append.mp hq with h | h
          · exact hz q h
          · rw [List.mem_singleton.mp h]
            have e18 : (10 : Int) ^ (18 : Int).toNat = 1000000000000000000 := by decide
            have c' : (1000000000000000000 : Int) ≤ z := e18 ▸ c
            omega
      · refine ⟨_, rfl, p, _, 0, _, rfl, rfl, SqL.of hp', pool_at0, _, _, rfl, rfl, mulR ⟨by decide, by decide⟩, _, rfl, _, _, rfl, rfl, .inl ⟨_, rfl, _, _, rfl, rfl, (by show (0 : Int) < 101; decide), _, rfl, p, _, _, 0, rfl, rfl, hp', pool_ix 0 (by decide), ?_⟩⟩
        refine ⟨_, rfl, p, _, 1, _, rfl, rfl, SqL.of (show _ = some (.lst (poolL _ x1 x2 0 bs)) from upd_same), pool_at1, _, _, rfl, rfl, mulR ⟨by decide, by decide⟩, _, rfl, _, rfl, _, _, rfl, rfl, bitsMul hbits hbits, _, _, rfl, rfl, .inl ⟨_, rfl, _, _, rfl, rfl, (by show (0 : Int) < 103; decide), _, rfl, p, _, _, 1, rfl, rfl, (show _ = some (.lst (poolL _ x1 x2 0 bs)) from upd_same), pool_ix 1 (by decide), ?_⟩⟩
        refine ⟨_, rfl, p, _, 2, _, rfl, rfl, SqL.of (show _ = some (.lst (poolL _ _ x2 0 bs)) from upd_same), pool_at2, _, _, rfl, rfl, mulR ⟨by decide, by decide⟩, _, rfl, _, _, rfl, rfl, mulR ⟨by decide, by decide⟩, _, _, rfl, rfl, .inl ⟨_, rfl, _, _, rfl, rfl, (by show (0 : Int) < 1009; decide), _, rfl, p, _, _, 2, rfl, rfl, (show _ = some (.lst (poolL _ _ x2 0 bs)) from upd_same), pool_ix 2 (by decide), ?_⟩⟩
        exact ⟨some (.int z), _, _, _, bs, rfl, sb.trans (sameBut_upd.trans (sameBut_upd.trans sameBut_upd)), upd_same, by omega, hz⟩
    · rintro σ H' ⟨v, x0, x1, x2, bs, rfl, sb, hp', hbl, hz⟩
      rw [List.length_map] at hbl
      exact ⟨_, rfl, k p H' hp (.of hp' (by omega) hz) sb⟩
theorem ok_draw (T : Txt K mg A) : FnOk P w K mg base CX0 1 A.f_draw A.d_draw ["_law_pool_here", "_law_many"] (spDraw) := by
  refine T.F_draw.ok sc_draw (fun vs H Q E h => ?_) (fun cdv Ar outer s H vs Q E hr h => ?_)
  · obtain ⟨p, m, rfl, _⟩ := h
    rfl
  · obtain ⟨p, m, rfl, hP, h0, h1, k⟩ := h
    refine ⟨_, (pss_cons (ps_asg (pe_op op_add (pe_ix (ix_listK K) (pv 0) pe_int (fun _ _ => rfl)) pe_int) (pg_sub (pv 0) pe_int set_list))
        (pss_cons (ps_if (pt_cmpR op_gt (pe_callB (call_len_seqK K) (by rfl) T.n_len (by decide +kernel) (pa_cons (pv 0) pa_nil)) pe_int (nomark _)) (pss_cons (ps_set (i := 4) sc_draw.nd rfl (Or.inl rfl) (pe_op op_mod (pe_callTy call_int1 (by rfl) T.n_int (by decide +kernel) (pa_cons (pe_ix (ix_listK K) (pv 0) pe_int (fun _ _ => rfl)) pa_nil)) (pv 1)))
        (pss_cons (ps_asg (pe_op op_fdiv (pe_ix (ix_listK K) (pv 0) pe_int (fun _ _ => rfl)) (pv 1)) (pg_sub (pv 0) pe_int set_list))
        (pss_cons (ps_if (pt_cmpR op_eq (pe_ix (ix_listK K) (pv 0) pe_int (fun _ _ => rfl)) pe_int (nomark _)) (pss_one (ps_expr (pe_bm PySem.F.plainAttrs_list PySem.F.slot_list_pop PySem.F.type_list_pop mt_popAt (pv 0) (pa_cons pe_int pa_nil)))) pss_nil)
        (pss_one (ps_ret (pv 4)))))) pss_nil)
        (pss_cons (ps_set (i := 2) sc_draw.nd rfl (Or.inl rfl) (pe_op op_mod (pe_callTy call_int1 (by rfl) T.n_int (by decide +kernel) (pa_cons (pe_op op_add (pe_ix (ix_listK K) (pv 0) pe_int (fun _ _ => rfl)) (pe_op op_mulX pe_int (pe_ix (ix_listK K) (pv 0) pe_int (fun _ _ => rfl)))) pa_nil)) pe_int))
        (pss_cons (ps_set (i := 3) sc_draw.nd rfl (Or.inl rfl) (pe_op op_mod (pe_callTy call_int1 (by rfl) T.n_int (by decide +kernel) (pa_cons (pe_op op_add (pe_ix (ix_listK K) (pv 0) pe_int (fun _ _ => rfl)) (pe_op op_mulX (pv 2) (pv 2))) pa_nil)) pe_int))
        (pss_one (ps_ret (pe_op op_mod (pe_op op_mod (pe_callTy call_int1 (by rfl) T.n_int (by decide +kernel) (pa_cons (pe_op op_add (pe_op op_add (pe_ix (ix_listK K) (pv 0) pe_int (fun _ _ => rfl)) (pe_op op_mulX pe_int (pe_ix (ix_listK K) (pv 0) pe_int (fun _ _ => rfl)))) (pe_op op_mulX (pv 3) (pv 3))) pa_nil)) pe_int) (pv 1)))))))), ?_⟩
    obtain ⟨x0, x1, x2, n, bs, hp, hl, hz⟩ := hP
    refine ⟨_, rfl, p, _, 3, _, rfl, rfl, SqL.of hp, pool_at3, _, _, rfl, rfl, _, rfl, p, _, _, 3, rfl, rfl, hp, pool_ix 3 (by decide), ?_⟩
    have s1 : SameBut p H (upd H p (.lst (poolL x0 x1 x2 (n + 1) bs))) := sameBut_upd
    have hp1 : (upd H p (.lst (poolL x0 x1 x2 (n + 1) bs))) p = some (.lst (poolL x0 x1 x2 (n + 1) bs)) := upd_same
    refine ⟨_, rfl, p, _, rfl, .inl (SqL.of hp1), _, _, rfl, rfl, _, rfl, ?_⟩
    refine iteD (fun c => ?_) (fun c => ?_)
    · rw [pool_len] at c
      cases bs with
      | nil => exact absurd c (by decide)
      | cons b bs =>
        have hb1 := hz b List.mem_cons_self
        have hm0 : 0 ≤ b % m := Int.emod_nonneg b (by omega)
        have hm1 : b % m < m := Int.emod_lt_of_pos b (by omega)
        have hq : 0 ≤ b / m := Int.ediv_nonneg (by omega) (by omega)
        have hz' : ∀ z ∈ bs, 1 ≤ z := fun z h => hz z (List.mem_cons_of_mem _ h)
        have hl' : bs.length + 1 ≤ 63 := hl
        refine ⟨_, rfl, p, _, 4, _, rfl, rfl, SqL.of hp1, pool_at4, .inl ⟨_, rfl, _, rfl, _, _, rfl, rfl, (by show (0 : Int) < m; omega), ?_⟩⟩
        refine ⟨_, rfl, p, _, 4, _, rfl, rfl, SqL.of hp1, pool_at4, _, rfl, _, _, rfl, rfl, ⟨by omega, h1⟩, _, rfl, p, _, _, 4, rfl, rfl, hp1, pool_ix4, ?_⟩
        have hp2 : (upd (upd H p (.lst (poolL x0 x1 x2 (n + 1) (b :: bs)))) p (.lst (poolL x0 x1 x2 (n + 1) (b / m :: bs)))) p = some (.lst (poolL x0 x1 x2 (n + 1) (b / m :: bs))) := upd_same
        refine ⟨_, rfl, p, _, 4, _, rfl, rfl, SqL.of hp2, pool_at4, rfl, _, rfl, ?_⟩
        refine iteD (fun c2 => ?_) (fun c2 => ?_)
        · refine ⟨_, rfl, .inl ⟨rfl, _, SqL.of hp2⟩, p, _, 4, 4, _, rfl, rfl, hp2, by decide, by decide, pool_seq4, rfl, ?_⟩
          exact ⟨_, rfl, k _ _ hm0 hm1 (.of (bs := bs) upd_same (by omega) hz') (s1.trans (sameBut_upd.trans sameBut_upd))⟩
        · refine ⟨_, rfl, k _ _ hm0 hm1 (.of hp2 hl fun z h => ?_) (s1.trans sameBut_upd)⟩
          rcases List.mem_cons.mp h with e | h
          · rw [e]
            have : b / m ≠ 0 := fun e => c2 (by rw [e])
            omega
          · exact hz' z h
    · refine ⟨_, rfl, p, _, 0, _, rfl, rfl, SqL.of hp1, pool_at0, _, rfl, p, _, 3, _, rfl, rfl, SqL.of hp1, pool_at3, _, _, rfl, rfl, mulL ⟨by decide, by decide⟩, _, _, rfl, rfl, .inl ⟨_, rfl, _, _, rfl, rfl, (by show (0 : Int) < 101; decide), ?_⟩⟩
      have f0 : 0 ≤ (x0 + 7 * (n + 1)) % 101 := Int.emod_nonneg _ (by decide)
      have f1 : (x0 + 7 * (n + 1)) % 101 < 101 := Int.emod_lt_of_pos _ (by decide)
      generalize (x0 + 7 * (n + 1)) % 101 = fi at f0 f1
      refine ⟨_, rfl, p, _, 1, _, rfl, rfl, SqL.of hp1, pool_at1, _, rfl, _, rfl, _, _, rfl, rfl, mulL ⟨by omega, by omega⟩, _, _, rfl, rfl, .inl ⟨_, rfl, _, _, rfl, rfl, (by show (0 : Int) < 103; decide), ?_⟩⟩
      have g0 : 0 ≤ (x1 + fi * fi) % 103 := Int.emod_nonneg _ (by decide)
      have g1 : (x1 + fi * fi) % 103 < 103 := Int.emod_lt_of_pos _ (by decide)
      generalize (x1 + fi * fi) % 103 = se at g0 g1
      refine ⟨_, rfl, p, _, 2, _, rfl, rfl, SqL.of hp1, pool_at2, _, rfl, p, _, 3, _, rfl, rfl, SqL.of hp1, pool_at3, _, _, rfl, rfl, mulL ⟨by decide, by decide⟩, _, _, rfl, rfl, _, rfl, _, rfl, _, _, rfl, rfl, mulL ⟨by omega, by omega⟩, _, _, rfl, rfl, .inl ⟨_, rfl, _, _, rfl, rfl, (by show (0 : Int) < 1009; decide), _, rfl, _, _, rfl, rfl, (by show (0 : Int) < m; omega), ?_⟩⟩
      exact k _ _ (Int.emod_nonneg _ (by omega)) (Int.emod_lt_of_pos _ (by omega)) (.of hp1 hl hz) s1
theorem ok_number (T : Txt K mg A) : FnOk P w K mg base CX0 2 A.f_number A.d_number ["_law_pool_here", "_law_groups"] (spNumber) := by
  refine T.F_number.ok sc_number (fun vs H Q E h => ?_) (fun cdv Ar outer s H vs Q E hr h => ?_)
  · obtain ⟨p, g, rfl, _⟩ := h
    rfl
  · obtain ⟨p, g, rfl, hP, g1, g2, k⟩ := h
    refine ⟨_, (pss_cons (ps_set (i := 2) sc_number.nd rfl (Or.inl rfl) (pe_call (ok_draw T) (hr.mono (by decide)) rfl T.g_draw T.F_draw.kp T.b_draw .nil pass0 (pa_cons (pv 0) (pa_cons pe_int pa_nil))))
        (pss_cons (ps_if (pt_cmpR op_eq (pv 2) pe_int (nomark _)) (pss_one (ps_ret (pe_call (ok_draw T) (hr.mono (by decide)) rfl T.g_draw T.F_draw.kp T.b_draw .nil pass0 (pa_cons (pv 0) (pa_cons pe_int pa_nil))))) pss_nil)
        (pss_cons (ps_set (i := 3) sc_number.nd rfl (Or.inl rfl) (pv 1))
        (pss_cons (ps_if (pt_cmpR op_gt (pv 2) pe_int (nomark _)) (pss_one (ps_set (i := 3) sc_number.nd rfl (Or.inl rfl) (pe_op op_add pe_int (pe_call (ok_draw T) (hr.mono (by decide)) rfl T.g_draw T.F_draw.kp T.b_draw .nil pass0 (pa_cons (pv 0) (pa_cons (pv 1) pa_nil)))))) pss_nil)
        (pss_cons (ps_set (i := 4) sc_number.nd rfl (Or.inl rfl) pe_int)
        (pss_cons (ps_for PassesOwn.never rfl (pi_range1 rfl T.n_range (pa_cons (pv 3) pa_nil)) (pg_name (i := 5) sc_number.nd rfl (Or.inl rfl))
        (pss_cons (ps_set (i := 6) sc_number.nd rfl (Or.inl rfl) pe_int)
        (pss_cons (ps_if (pt_cmpR op_gt (pv 2) pe_int (nomark _)) (pss_one (ps_set (i := 6) sc_number.nd rfl (Or.inl rfl) (pe_call (ok_draw T) (hr.mono (by decide)) rfl T.g_draw T.F_draw.kp T.b_draw .nil pass0 (pa_cons (pv 0) (pa_cons pe_int pa_nil))))) pss_nil)
        (pss_one (ps_set (i := 4) sc_number.nd rfl (Or.inl rfl) (pe_op op_add (pe_op op_mulX (pv 4) pe_int) (pv 6)))))))
        (pss_one (ps_ret (pv 4))))))))), ?_⟩
    refine ⟨_, rfl, p, 4, rfl, hP, by decide, by decide, fun kd H1 k0 k1 P1 s1 => ?_⟩
    refine ⟨_, rfl, rfl, _, rfl, ?_⟩
    refine iteD (fun c => ?_) (fun c => ?_)
    · refine ⟨_, rfl, p, 10, rfl, P1, by decide, by decide, fun r H2 r0 r1 P2 s2 => k r H2 r0 ?_ P2 (s1.trans s2)⟩
      have := pow_le g1
      rw [Int.pow_succ, Int.pow_zero] at this
      omega
    · refine ⟨_, rfl, ?_⟩
      refine ⟨_, rfl, _, _, rfl, rfl, _, rfl, ?_⟩
      refine iteD (fun c2 => ?_) (fun c2 => ?_)
      · refine ⟨_, rfl, _, rfl, p, g, rfl, P1, by omega, by omega, fun r H2 r0 r1 P2 s2 => ⟨_, _, rfl, rfl, ?_⟩⟩
        refine ⟨_, rfl, 1 + r, rfl, by omega, by omega, for_range (lo := 0) (n := (1 + r).toNat) (fun i σ H' => ∃ (n : Int) (v5 v6 : Option V), σ = [some (.ref p), some (.int g), some (.int kd), some (.int (1 + r)), some (.int n), v5, v6] ∧ 0 ≤ n ∧ n < 1000 ^ i ∧ PoolAt H' p ∧ SameBut p H H') ⟨0, none, none, rfl, by decide, by decide, P2, s1.trans s2⟩ ?_ ?_⟩
        · rintro i σ H' hi ⟨n, v5, v6, rfl, n0, n1, P', s'⟩
          refine ⟨_, rfl, _, _, rfl, rfl, _, rfl, ?_⟩
          refine iteD (fun _ => ?_) (fun z => absurd c2 z)
          refine ⟨_, rfl, p, 1000, rfl, P', by decide, by decide, fun q H3 q0 q1 P3 s3 => ?_⟩
          refine ⟨_, rfl, _, _, rfl, rfl, mulR ⟨by decide, by decide⟩, _, rfl, _, _, rfl, rfl, ?_⟩
          refine ⟨_, _, _, rfl, by omega, ?_, P3, s'.trans s3⟩
          rw [Int.pow_succ]; omega
        · rintro σ H' ⟨n, v5, v6, rfl, n0, n1, P', s'⟩
          refine ⟨_, rfl, k n H' n0 ?_ P' s'⟩
          have := pow_le (m := (1 + r).toNat) (n := g) (by omega)
          omega
      · refine ⟨_, rfl, g, rfl, by omega, by omega, for_range (lo := 0) (n := (g : Int).toNat) (fun i σ H' => ∃ (n : Int) (v5 v6 : Option V), σ = [some (.ref p), some (.int g), some (.int kd), some (.int g), some (.int n), v5, v6] ∧ 0 ≤ n ∧ n < 1000 ^ i ∧ H' = H1) ⟨0, none, none, rfl, by decide, by decide, rfl⟩ ?_ ?_⟩
        · rintro i σ H' hi ⟨n, v5, v6, rfl, n0, n1, rfl⟩
          refine ⟨_, rfl, _, _, rfl, rfl, _, rfl, ?_⟩
          refine iteD (fun z => absurd z c2) (fun _ => ?_)
          refine ⟨_, rfl, _, _, rfl, rfl, mulR ⟨by decide, by decide⟩, _, rfl, _, _, rfl, rfl, ?_⟩
          refine ⟨_, _, _, rfl, by omega, ?_, rfl⟩
          rw [Int.pow_succ]; omega
        · rintro σ H' ⟨n, v5, v6, rfl, n0, n1, rfl⟩
          exact ⟨_, rfl, k n _ n0 (by simpa using n1) P1 s1⟩
theorem ok_signed (T : Txt K mg A) : FnOk P w K mg base CX0 3 A.f_signed A.d_signed ["_law_pool_here", "_law_groups"] (spSigned) := by
  refine T.F_signed.ok sc_signed (fun vs H Q E h => ?_) (fun cdv Ar outer s H vs Q E hr h => ?_)
  · obtain ⟨p, g, rfl, _⟩ := h
    rfl
  · obtain ⟨p, g, rfl, hP, g1, g2, k⟩ := h
    refine ⟨_, (pss_cons (ps_set (i := 2) sc_signed.nd rfl (Or.inl rfl) (pe_call (ok_number T) (hr.mono (by decide)) rfl T.g_number T.F_number.kp T.b_number .nil pass0 (pa_cons (pv 0) (pa_cons (pv 1) pa_nil))))
        (pss_one (ps_ret (pe_op op_mulX (pv 2) (pe_op op_sub pe_int (pe_op op_mulX pe_int (pe_call (ok_draw T) (hr.mono (by decide)) rfl T.g_draw T.F_draw.kp T.b_draw .nil pass0 (pa_cons (pv 0) (pa_cons pe_int pa_nil))))))))), ?_⟩
    refine ⟨_, rfl, _, rfl, p, g, rfl, hP, g1, g2, fun r H1 r0 r1 P1 s1 => ?_⟩
    refine ⟨_, rfl, _, rfl, p, 2, rfl, P1, by decide, by decide, fun q H2 q0 q1 P2 s2 => ⟨_, _, rfl, rfl, mulL ⟨by decide, by decide⟩, _, _, rfl, rfl, _, _, rfl, rfl, mulR ⟨by omega, by omega⟩, ?_⟩⟩
    have hb := bits_of r0 r1
    refine k _ H2 ?_ P2 (s1.trans s2)
    rcases (show q = 0 ∨ q = 1 by omega) with rfl | rfl
    · exact hb.le (by simp)
    · exact hb.le (by simp)
theorem ok_whole (T : Txt K mg A) : FnOk P w K mg base CX0 1 A.f_whole A.d_whole ["_law_value"] (spWhole) := by
  refine T.F_whole.ok sc_whole (fun vs H Q E h => ?_) (fun cdv Ar outer s H vs Q E hr h => ?_)
  · obtain ⟨i, rfl, _⟩ := h
    rfl
  · obtain ⟨i, rfl, k⟩ := h
    refine ⟨_, (pss_one (ps_ret (pe_and (pe_callB (call_isiK' K) (by rfl) T.n_isinstance (by decide +kernel) (pa_cons (pv 0) (pa_cons (pe_bltn (v := .ty "int") (by rfl) T.n_int (by decide +kernel) rfl) pa_nil))) (pe_one (pe_not (pe_callB (call_isiK' K) (by rfl) T.n_isinstance (by decide +kernel) (pa_cons (pv 0) (pa_cons (pe_bltn (v := .ty "bool") (by rfl) T.n_bool (by decide +kernel) rfl) pa_nil)))))))), ?_⟩
    exact ⟨_, rfl, _, _, _, _, true, rfl, .ty _, .base (.int _), kit_ty (by decide +kernel), true, rfl, iteT ⟨_, rfl, _, _, _, _, false, rfl, .ty _, .base (.int _), kit_ty (by decide +kernel), false, rfl, k⟩⟩
theorem ok_row (T : Txt K mg A) : FnOk P w K mg base CX0 5 A.f_row A.d_row ["_law_numbers"] (spRow A) := by
  refine T.F_row.ok sc_row (fun vs H Q E h => ?_) (fun cdv Ar outer s H vs Q E hr h => ?_)
  · obtain ⟨l, xs, rfl, _⟩ := h
    rfl
  · obtain ⟨l, xs, rfl, hl, hg, k⟩ := h
    refine ⟨_, (pss_cons (ps_if (pt_cmpR op_eq (pe_callB (call_len_seqK K) (by rfl) T.n_len (by decide +kernel) (pa_cons (pv 0) pa_nil)) pe_int (nomark _)) (pss_one (ps_ret (StX.pe_makeR T.mk_Amounts (ok_Amounts_init T) (hr.mono (by decide)) rfl T.g_Amounts passL (pa_cons (pe_ix (ix_listK K) (pv 0) pe_int (fun _ _ => rfl)) pa_nil)))) pss_nil)
        (pss_cons (ps_if (pt_cmpR op_eq (pe_callB (call_len_seqK K) (by rfl) T.n_len (by decide +kernel) (pa_cons (pv 0) pa_nil)) pe_int (nomark _)) (pss_one (ps_ret (StX.pe_makeR T.mk_Amounts (ok_Amounts_init T) (hr.mono (by decide)) rfl T.g_Amounts passL (pa_cons (pe_ix (ix_listK K) (pv 0) pe_int (fun _ _ => rfl)) (pa_cons (pe_ix (ix_listK K) (pv 0) pe_int (fun _ _ => rfl)) pa_nil))))) pss_nil)
        (pss_one (ps_ret (StX.pe_makeR T.mk_Amounts (ok_Amounts_init T) (hr.mono (by decide)) rfl T.g_Amounts passL (pa_cons (pe_ix (ix_listK K) (pv 0) pe_int (fun _ _ => rfl)) (pa_cons (pe_ix (ix_listK K) (pv 0) pe_int (fun _ _ => rfl)) (pa_cons (pe_ix (ix_listK K) (pv 0) pe_int (fun _ _ => rfl)) pa_nil)))))))), ?_⟩
    rcases few_cases hg with ⟨a, rfl⟩ | ⟨a, b, rfl⟩ | ⟨a, b, c, rfl⟩
    all_goals walk_at "gb go"
    skip
theorem ok_part (T : Txt K mg A) : FnOk P w K mg base CX0 4 A.f_part A.d_part ["_law_pool_here", "_law_number_here"] (spPart) := by
  refine T.F_part.ok sc_part (fun vs H Q E h => ?_) (fun cdv Ar outer s H vs Q E hr h => ?_)
  · obtain ⟨p, n, rfl, _⟩ := h
    rfl
  · obtain ⟨p, n, rfl, hP, h0, hb, k⟩ := h
    refine ⟨_, (pss_cons (ps_set (i := 2) sc_part.nd rfl (Or.inl rfl) (pe_call (ok_draw T) (hr.mono (by decide)) rfl T.g_draw T.F_draw.kp T.b_draw .nil pass0 (pa_cons (pv 0) (pa_cons pe_int pa_nil))))
        (pss_cons (ps_if (pt_cmpR op_eq (pv 2) pe_int (nomark _)) (pss_one (ps_ret pe_int)) pss_nil)
        (pss_cons (ps_if (pt_cmpR op_eq (pv 2) pe_int (nomark _)) (pss_one (ps_ret (pe_call (ok_number T) (hr.mono (by decide)) rfl T.g_number T.F_number.kp T.b_number .nil pass0 (pa_cons (pv 0) (pa_cons pe_int pa_nil))))) pss_nil)
        (pss_one (ps_ret (pe_op op_fdiv (pv 1) (pe_op op_add pe_int (pe_call (ok_draw T) (hr.mono (by decide)) rfl T.g_draw T.F_draw.kp T.b_draw .nil pass0 (pa_cons (pv 0) (pa_cons pe_int pa_nil)))))))))), ?_⟩
    walk_at "gb go"
    · exact k _ _ (by decide) (by unfold Bits; decide) (by assumption) (by assumption)
    · rename_i h1 h2 h3 h4
      exact k _ _ h1 ((bits_of h1 h2).up (by decide)) h3 (by walk_at "gb but")
    · rename_i h1 h2 h3 h4
      exact k _ _ (Int.ediv_nonneg h0 (by omega)) (bits_div hb h0 (by omega)) h3 (by walk_at "gb but")
theorem bd_Amounts_of (T : Txt K mg A) {cdv : Value} {Ar : Around} {outer : List Env} {s : Shared} {H : Hp} {vs : List V} {Q : VK} {E : XK} (hr : Room 5 (Ar.deeper (envOfC "Amounts.of" (defScope s_Amounts_of) s.heap.objs.size A.f_Amounts_of cdv))) (h : (spOf A) vs H Q E) :
    ∃ t, PSs (cxOf (L2.CX P w) P w K mg base ["resource_names", "named", "keyword", "numbers", "name"] "Amounts.of" (defScope s_Amounts_of) A.f_Amounts_of cdv Ar outer s H E) (defBody s_Amounts_of) t ∧ t { nx := fun _ H' => Q .non H', rt := Q } (start ["resource_names", "named", "keyword", "numbers", "name"] vs) H := by
  obtain ⟨t, d, ns, kvs, rfl, ht, n1, n3, hd, htd, kG, kB⟩ := h
  refine ⟨_, (pss_cons (ps_lock (ps_for (passes_of rfl) rfl (pi_keys (pv 1)) (pg_name (i := 2) sc_Amounts_of.nd rfl (Or.inl rfl))
      (pss_one (ps_if (pt_cmpR (op_notIn_seqK K) (pv 2) (pv 0) rfl) (pss_one (ps_raiseG rfl T.x_Unknown (ok_GangError_init T) (hr.mono (by decide)) T.b_GangError_init rfl T.g_Unknown (takes_of rfl rfl rfl rfl) (pv 2))) pss_nil))))
      (pss_cons (ps_setLc (i := 3) (own := [("name", 4)]) (g := gName 4) (tt := tYes) rfl sc_Amounts_of.nd rfl rfl (sw_true rfl rfl rfl (by decide +kernel)) (pi_tupK K (pv 0)) (blkOk_by (N := ["resource_names", "named", "keyword", "numbers", "name"]) (sc := defScope s_Amounts_of) (by decide +kernel)) (fun _ _ _ _ _ => (pg_name (i := 4) sc_Amounts_of.nd rfl (Or.inl rfl))) (fun _ _ _ _ _ => pts_nil) (fun _ _ _ _ _ => (pe_dget2 (hu_of hr) (pv 1) (pv 4) pe_int ⟨rfl, rfl, rfl, rfl⟩)))
      (pss_one (ps_ret (pe_makeStar T.mk_Amounts (ok_Amounts_init T) (hr.mono (by decide)) rfl T.g_Amounts (passes_call (takes_of rfl rfl rfl rfl) (fun _ _ _ _ h => h)) (pv 3)))))), ?_⟩
  walk_at "gb go"
  refine ⟨trivial, fun od => ?_⟩
  walk_at "gb go"
  refine for_it walk_keys (fun i σ H' => ∃ v, σ = [some (.ref t), some (.ref d), v, none, none] ∧ H' = upd H d (.frz od (.dK (kvK kvs))) ∧ ∀ (j : Nat) (q : Str × Int), j < i → kvs[j]? = some q → q.1 ∈ ns) ⟨none, rfl, rfl, fun j q hj => absurd hj (Nat.not_lt_zero _)⟩ (fun i σ H' _ ⟨_, _, e, _⟩ => by rw [e]; exact upd_same) ?_ ?_
  · rintro i x σ H' H'' hi ⟨v, rfl, rfl, hall⟩ ⟨rfl, kk, vv, hk, rfl⟩
    unfold kvK at hk
    rw [List.getElem?_map] at hk
    cases hk1 : kvs[i]? with
    | none => rw [hk1] at hk; cases hk
    | some p =>
      rw [hk1] at hk
      cases hk
      walk_at "gb go"
      · rename_i hin j' q' h1 h2
        by_cases hji : j' < i
        · exact hall j' q' hji h2
        · obtain rfl : j' = i := by omega
          rw [hk1] at h2
          cases h2
          exact hin
      · rename_i hni e he
        exact kB i p hk1 hni hall e _ (sameBut_upd.trans (same_new he).but) upd_same
  · rintro σ H' ⟨v, rfl, rfl, hall⟩
    have hU : upd (upd H d (.frz od (.dK (kvK kvs)))) d (.dK (kvK kvs)) = H := by
      rw [upd_upd]
      funext b
      by_cases hb : b = d
      · subst hb; rw [upd_same, hd]
      · rw [upd_ne hb]
    refine ⟨upd_same, ?_⟩
    rw [hU]
    walk_at "gb go"
    rename_i D hD
    refine lc_tup (K := K) (a := t) (xs := ns.map V.str) (fun i Hq => Same H Hq ∧ Hq D = some (.lst (((ns.map (kvGet kvs)).map V.int).take i))) ⟨same_new hD, upd_same⟩ (fun i Hq hi h => SqT.of (h.1 _ _ ht)) ?_ ?_
    · rintro i x H' hi ⟨s', hD'⟩
      rw [List.getElem?_map] at hi
      cases hi1 : ns[i]? with
      | none => rw [hi1] at hi; cases hi
      | some nm =>
        rw [hi1] at hi
        cases hi
        walk_at "gb go"
        refine ⟨.inl ⟨_, .inl (s' _ _ hd)⟩, _, rfl, _, DGet.k (k := Sum.inr nm) (s' _ _ hd), ?_⟩
        walk_at "gb go"
        refine lc_end ?_
        rw [List.getElem?_map, List.getElem?_map, hi1]
        unfold kvK
        rw [valV_kv]
        show some (V.int (kvGet kvs nm)) = some _
        unfold kvGet
        cases (kvs.find? fun p => decide (p.1 = nm)).map (·.2) <;> rfl
    · rintro HD ⟨sHD, hHD⟩
      rw [take_all (by simp)] at hHD
      refine ⟨_, rfl, D, _, rfl, .inr (SqL.of hHD), ?_⟩
      refine amt_made ⟨by rw [List.length_map]; exact n1, by rw [List.length_map]; exact n3⟩ (fun x H2 s2 hx => kG (fun p hp => ?_) x H2 (sHD.trans s2).but hx)
      obtain ⟨j, hj⟩ := List.mem_iff_getElem?.mp hp
      exact hall j p (by have := (List.getElem?_eq_some_iff.mp hj).1; unfold kvK; rw [List.length_map]; exact this) hj
theorem ok_Amounts_of_none (T : Txt K mg A) : FnKw P w K mg base (L2.CX P w) 6 A.f_Amounts_of [] (spKw [] (spOf A)) := by
  obtain ⟨oc, od, kV, doc, pm, an, cdv, ct, osl, e, lk, hcd⟩ := T.F_Amounts_of.ex
  exact fn_kw1 (e ▸ lk) hcd sc_Amounts_of StX.cxUp (by decide) (by rw [sizeLine_eq]; decide) (fun u ws h => match ws, h with | [], _ => rfl) (fun Ar outer s H vs Q E hr h => bd_Amounts_of T hr h)
theorem ok_Amounts_of_core (T : Txt K mg A) : FnKw P w K mg base (L2.CX P w) 6 A.f_Amounts_of ["core"] (spKw ["core"] (spOf A)) := by
  obtain ⟨oc, od, kV, doc, pm, an, cdv, ct, osl, e, lk, hcd⟩ := T.F_Amounts_of.ex
  exact fn_kw1 (e ▸ lk) hcd sc_Amounts_of StX.cxUp (by decide) (by rw [sizeLine_eq]; decide) (fun u ws h => match ws, h with | [_], _ => rfl) (fun Ar outer s H vs Q E hr h => bd_Amounts_of T hr h)
theorem ok_Amounts_of_fast (T : Txt K mg A) : FnKw P w K mg base (L2.CX P w) 6 A.f_Amounts_of ["fast"] (spKw ["fast"] (spOf A)) := by
  obtain ⟨oc, od, kV, doc, pm, an, cdv, ct, osl, e, lk, hcd⟩ := T.F_Amounts_of.ex
  exact fn_kw1 (e ▸ lk) hcd sc_Amounts_of StX.cxUp (by decide) (by rw [sizeLine_eq]; decide) (fun u ws h => match ws, h with | [_], _ => rfl) (fun Ar outer s H vs Q E hr h => bd_Amounts_of T hr h)
theorem ok_Amounts_of_big_core (T : Txt K mg A) : FnKw P w K mg base (L2.CX P w) 6 A.f_Amounts_of ["big", "core"] (spKw ["big", "core"] (spOf A)) := by
  obtain ⟨oc, od, kV, doc, pm, an, cdv, ct, osl, e, lk, hcd⟩ := T.F_Amounts_of.ex
  exact fn_kw1 (e ▸ lk) hcd sc_Amounts_of StX.cxUp (by decide) (by rw [sizeLine_eq]; decide) (fun u ws h => match ws, h with | [_, _], _ => rfl) (fun Ar outer s H vs Q E hr h => bd_Amounts_of T hr h)
theorem ok_Amounts_of_core_big (T : Txt K mg A) : FnKw P w K mg base (L2.CX P w) 6 A.f_Amounts_of ["core", "big"] (spKw ["core", "big"] (spOf A)) := by
  obtain ⟨oc, od, kV, doc, pm, an, cdv, ct, osl, e, lk, hcd⟩ := T.F_Amounts_of.ex
  exact fn_kw1 (e ▸ lk) hcd sc_Amounts_of StX.cxUp (by decide) (by rw [sizeLine_eq]; decide) (fun u ws h => match ws, h with | [_, _], _ => rfl) (fun Ar outer s H vs Q E hr h => bd_Amounts_of T hr h)
theorem ok_Amounts_of_fast_core (T : Txt K mg A) : FnKw P w K mg base (L2.CX P w) 6 A.f_Amounts_of ["fast", "core"] (spKw ["fast", "core"] (spOf A)) := by
  obtain ⟨oc, od, kV, doc, pm, an, cdv, ct, osl, e, lk, hcd⟩ := T.F_Amounts_of.ex
  exact fn_kw1 (e ▸ lk) hcd sc_Amounts_of StX.cxUp (by decide) (by rw [sizeLine_eq]; decide) (fun u ws h => match ws, h with | [_, _], _ => rfl) (fun Ar outer s H vs Q E hr h => bd_Amounts_of T hr h)
theorem ok_Amounts_of_big_fast_core (T : Txt K mg A) : FnKw P w K mg base (L2.CX P w) 6 A.f_Amounts_of ["big", "fast", "core"] (spKw ["big", "fast", "core"] (spOf A)) := by
  obtain ⟨oc, od, kV, doc, pm, an, cdv, ct, osl, e, lk, hcd⟩ := T.F_Amounts_of.ex
  exact fn_kw1 (e ▸ lk) hcd sc_Amounts_of StX.cxUp (by decide) (by rw [sizeLine_eq]; decide) (fun u ws h => match ws, h with | [_, _, _], _ => rfl) (fun Ar outer s H vs Q E hr h => bd_Amounts_of T hr h)
theorem ok_Amounts_of_core_fast_big (T : Txt K mg A) : FnKw P w K mg base (L2.CX P w) 6 A.f_Amounts_of ["core", "fast", "big"] (spKw ["core", "fast", "big"] (spOf A)) := by
  obtain ⟨oc, od, kV, doc, pm, an, cdv, ct, osl, e, lk, hcd⟩ := T.F_Amounts_of.ex
  exact fn_kw1 (e ▸ lk) hcd sc_Amounts_of StX.cxUp (by decide) (by rw [sizeLine_eq]; decide) (fun u ws h => match ws, h with | [_, _, _], _ => rfl) (fun Ar outer s H vs Q E hr h => bd_Amounts_of T hr h)
theorem ok_Amounts_of_names (T : Txt K mg A) : FnKw P w K mg base (L2.CX P w) 6 A.f_Amounts_of ["names"] (spKw ["names"] (spOf A)) := by
  obtain ⟨oc, od, kV, doc, pm, an, cdv, ct, osl, e, lk, hcd⟩ := T.F_Amounts_of.ex
  exact fn_kw1 (e ▸ lk) hcd sc_Amounts_of StX.cxUp (by decide) (by rw [sizeLine_eq]; decide) (fun u ws h => match ws, h with | [_], _ => rfl) (fun Ar outer s H vs Q E hr h => bd_Amounts_of T hr h)
theorem ok_Amounts_of_core_names (T : Txt K mg A) : FnKw P w K mg base (L2.CX P w) 6 A.f_Amounts_of ["core", "names"] (spKw ["core", "names"] (spOf A)) := by
  obtain ⟨oc, od, kV, doc, pm, an, cdv, ct, osl, e, lk, hcd⟩ := T.F_Amounts_of.ex
  exact fn_kw1 (e ▸ lk) hcd sc_Amounts_of StX.cxUp (by decide) (by rw [sizeLine_eq]; decide) (fun u ws h => match ws, h with | [_, _], _ => rfl) (fun Ar outer s H vs Q E hr h => bd_Amounts_of T hr h)
theorem ok_is (T : Txt K mg A) : FnOk P w K mg base CX0 2 A.f_is A.d_is ["_law_row_here", "_law_numbers"] (spIsA A) := by
  refine T.F_is.ok sc_is (fun vs H Q E h => ?_) (fun cdv Ar outer s H vs Q E hr h => ?_)
  · obtain ⟨x, l, xs, rfl, _⟩ := h
    rfl
  · obtain ⟨x, l, xs, rfl, hX, hl, hg, k⟩ := h
    refine ⟨_, (pss_cons (ps_if (PW.pt (pw_or (pt_not (pt_val (pe_callB (call_isiK' K) (by rfl) T.n_isinstance (by decide +kernel) (pa_cons (pv 0) (pa_cons (pe_glob (v := .ref A.c_Amounts) rfl T.g_Amounts rfl) pa_nil))) (by intro _; rfl))) (pw_or (pt_not (pt_val (pe_callB (call_isiK' K) (by rfl) T.n_isinstance (by decide +kernel) (pa_cons (pe_fldK K (pv 0) rfl) (pa_cons (pe_bltn (v := .ty "tuple") (by rfl) T.n_tuple (by decide +kernel) rfl) pa_nil))) (by intro _; rfl))) (pw_or1 (pt_cmpR (op_neDK K hr.units) (pe_callTy call_list_of (by rfl) T.n_list (by decide +kernel) (pa_cons (pe_fldK K (pv 0) rfl) pa_nil)) (pv 1) (nomark _)))))) (pss_one (ps_ret pe_bl)) pss_nil)
        (pss_cons (ps_for PassesOwn.never rfl (pi_tupK K (pe_fldK K (pv 0) rfl)) (pg_name (i := 2) sc_is.nd rfl (Or.inl rfl))
        (pss_one (ps_if (pt_not (pt_val (pe_call (ok_whole T) (hr.mono (by decide)) rfl T.g_whole T.F_whole.kp T.b_whole .nil pass0 (pa_cons (pv 2) pa_nil)) (by intro _; rfl))) (pss_one (ps_ret pe_bl)) pss_nil)))
        (pss_one (ps_ret pe_bl)))), ?_⟩
    obtain ⟨dx, t, hx, ht⟩ := id hX
    have hg3 := hg.2
    walk_at "gb go"
    refine for_tup (K := K) (a := t) (xs := xs.map V.int) (fun i σ H' => ∃ v, σ = [some (.ref x), some (.ref l), v] ∧ Same H H') ⟨none, rfl, (by walk_at "gb same")⟩ (fun i σ H' _ ⟨_, _, s'⟩ => SqT.of (s' _ _ ht)) ?_ ?_
    · rintro i v σ H' hv ⟨v0, rfl, s'⟩
      obtain ⟨z, hz, rfl⟩ := getMap hv
      walk_at "gb go"
    · rintro σ H' ⟨v0, rfl, s'⟩
      exact k _ s'
theorem ok_divided (T : Txt K mg A) : FnOk P w K mg base CX0 9 A.f_divided A.d_divided ["_law_one", "_law_a", "_law_other", "_law_b"] (spDivided A) := by
  refine T.F_divided.ok sc_divided (fun vs H Q E h => ?_) (fun cdv Ar outer s H vs Q E hr h => ?_)
  · obtain ⟨x, a, y, b, xs, ys, rfl, _⟩ := h
    rfl
  · obtain ⟨x, a, y, b, xs, ys, rfl, hX, ha, hY, hb, hg, he, hpx, hpy, hbx, hby, hnz, k⟩ := h
    refine ⟨_, (pss_cons (ps_set (i := 4) sc_divided.nd rfl (Or.inr rfl) (pe_op (op_own T.me_Amounts_floordiv T.sf_Amounts (ok_Amounts_floordiv T) (hr.mono (by decide)) T.b_Amounts_floordiv passL) (pv 0) (pv 2)))
        (pss_cons (ps_if (PW.pt (pw_or (pt_not (pt_val (pe_call (ok_whole T) (hr.mono (by decide)) rfl T.g_whole T.F_whole.kp T.b_whole .nil pass0 (pa_cons (pv 4) pa_nil)) (by intro _; rfl))) (pw_or1 (pt_cmpR op_lt (pv 4) pe_int (nomark _))))) (pss_one (ps_ret pe_bl)) pss_nil)
        (pss_cons (ps_set (i := 5) sc_divided.nd rfl (Or.inl rfl) pe_bl)
        (pss_cons (ps_for PassesOwn.never rfl (pi_range1 rfl T.n_range (pa_cons (pe_callB (call_len_seqK K) (by rfl) T.n_len (by decide +kernel) (pa_cons (pv 1) pa_nil)) pa_nil)) (pg_name (i := 6) sc_divided.nd rfl (Or.inl rfl))
        (pss_cons (ps_if (pt_cmpR op_gt (pe_op op_mulX (pv 4) (pe_ix (ix_listK K) (pv 3) (pv 6) (fun _ _ => rfl))) (pe_ix (ix_listK K) (pv 1) (pv 6) (fun _ _ => rfl)) (nomark _)) (pss_one (ps_ret pe_bl)) pss_nil)
        (pss_one (ps_if (pt_cmpR op_gt (pe_op op_mulX (pe_op op_add (pv 4) pe_int) (pe_ix (ix_listK K) (pv 3) (pv 6) (fun _ _ => rfl))) (pe_ix (ix_listK K) (pv 1) (pv 6) (fun _ _ => rfl)) (nomark _)) (pss_one (ps_set (i := 5) sc_divided.nd rfl (Or.inl rfl) pe_bl)) pss_nil))))
        (pss_cons (ps_setLc (i := 7) (own := [("_law_k", 6)]) (g := gName 6) (tt := tYes) rfl sc_divided.nd rfl rfl (sw_true rfl rfl rfl (by decide +kernel)) (pi_range1 rfl T.n_range (pa_cons (pe_callB (call_len_seqK K) (by rfl) T.n_len (by decide +kernel) (pa_cons (pv 1) pa_nil)) pa_nil)) (blkOk_by (N := ["_law_one", "_law_a", "_law_other", "_law_b", "_law_count", "_law_more", "_law_k", "_law_rest"]) (sc := defScope s_divided) (by decide +kernel)) (fun _ _ _ _ _ => (pg_name (i := 6) sc_divided.nd rfl (Or.inl rfl))) (fun _ _ _ _ _ => pts_nil) (fun _ _ _ _ _ => (pe_op op_sub (pe_ix (ix_listK K) (pv 1) (pv 6) (fun _ _ => rfl)) (pe_op op_mulX (pv 4) (pe_ix (ix_listK K) (pv 3) (pv 6) (fun _ _ => rfl))))))
        (pss_one (ps_ret (pe_and (pv 5) (pe_one (pe_call (ok_is T) (hr.mono (by decide)) rfl T.g_is T.F_is.kp T.b_is .nil pass0 (pa_cons (pe_op (op_own T.me_Amounts_mod T.sf_Amounts (ok_Amounts_mod T) (hr.mono (by decide)) T.b_Amounts_mod passL) (pv 0) (pv 2)) (pa_cons (pv 7) pa_nil)))))))))))), ?_⟩
    obtain ⟨dx, t, hx, ht⟩ := id hX
    obtain ⟨dy, t2, hy, ht2⟩ := id hY
    have hg3 := hg.2
    walk_at "gb go"
    refine ⟨fun _ n H1 s1 hdv => ?_, fun hz => absurd hnz (by rintro ⟨y, hy, hn⟩; exact hn (hz y hy))⟩
    have hn0 := hdv.n0
    have hnb := bits_dv hdv hbx (by decide)
    have hnb1 : Bits 101 (n + 1) := hnb.add (Bits.one (by decide))
    have ha1 := s1 _ _ ha
    have hb1 := s1 _ _ hb
    walk_at "gb go"
    refine for_range (lo := 0) (n := ((xs.map V.int).length : Int).toNat) (fun i σ H' => ∃ (mo : Bool) (v6 v7 : Option V), σ = [some (.ref x), some (.ref a), some (.ref y), some (.ref b), some (.int n), some (.bl mo), v6, v7] ∧ H' = H1 ∧ (∀ (j : Nat) (a b : Int), j < i → xs[j]? = some a → ys[j]? = some b → a < (n + 1) * b → mo = true)) ⟨false, none, none, rfl, rfl, fun j a b hj => absurd hj (Nat.not_lt_zero _)⟩ ?_ ?_
    · rintro i σ H' hi ⟨mo, v6, v7, rfl, rfl, hmo⟩
      have hi' : i < xs.length := by rw [List.length_map] at hi; omega
      obtain ⟨i1, g1⟩ : ∃ i1, xs[i]? = some i1 := ⟨_, List.getElem?_eq_getElem hi'⟩
      obtain ⟨i2, g2⟩ : ∃ i2, ys[i]? = some i2 := ⟨_, List.getElem?_eq_getElem (by omega)⟩
      have hb2 := hby i2 (List.mem_of_getElem? g2)
      have hle := hdv.le i i1 i2 g1 g2
      have hat : atI (xs.map V.int) ((0 : Int) + (i : Nat)) = some (.int i1) := by rw [Int.zero_add]; exact atI_nat (by rw [List.getElem?_map, g1]; rfl)
      have hat2 : atI (ys.map V.int) ((0 : Int) + (i : Nat)) = some (.int i2) := by rw [Int.zero_add]; exact atI_nat (by rw [List.getElem?_map, g2]; rfl)
      walk_at "gb go"
      · rfl
      · rename_i hc1 hc2 j' a' b' h1 h2 h3 h4
        by_cases hji : j' < i
        · exact hmo j' a' b' hji h2 h3 h4
        · obtain rfl : j' = i := by omega
          rw [g1] at h2; rw [g2] at h3
          cases h2; cases h3
          exact absurd h4 hc2
    · rintro σ H' ⟨mo, v6, v7, rfl, rfl, hmo⟩
      obtain ⟨j, aj, bj, j1, j2, a0, b0, j3⟩ := hdv.ex
      obtain rfl : mo = true := hmo j aj bj (by have := (List.getElem?_eq_some_iff.mp j1).1; rw [List.length_map]; omega) j1 j2 j3
      walk_at "gb go"
      rename_i D hD
      refine lc_range (lo := 0) (n := ((xs.map V.int).length : Int).toNat) (fun i Hq => Same H' Hq ∧ Hq D = some (.lst (((List.zipWith (fun i j => i - j * n) xs ys).map V.int).take i))) ⟨same_new hD, upd_same⟩ ?_ ?_
      · rintro i H' hi ⟨s', hD'⟩
        have hi' : i < xs.length := by rw [List.length_map] at hi; omega
        obtain ⟨i1, g1⟩ : ∃ i1, xs[i]? = some i1 := ⟨_, List.getElem?_eq_getElem hi'⟩
        obtain ⟨i2, g2⟩ : ∃ i2, ys[i]? = some i2 := ⟨_, List.getElem?_eq_getElem (by omega)⟩
        have hat := at_int g1
        have hat2 := at_int g2
        have hb2 := hby i2 (List.mem_of_getElem? g2)
        walk_at "gb go"
        exact lc_end (get_zz g1 g2 (by rw [Int.mul_comm i2 n]))
      rintro HD ⟨sHD, hHD⟩
      rw [take_all (by simp; omega)] at hHD
      have sA := s1.trans sHD
      have hx3 := sA _ _ hx
      have hy3 := sA _ _ hy
      walk_at "gb go"
      refine ⟨fun _ n' hdv' => ?_, fun hz => absurd hnz (by rintro ⟨y, hy, hn⟩; exact hn (hz y hy))⟩
      obtain rfl : n' = n := hdv'.uniq hdv
      intro x3 H3 s3 hx3'
      have hD3 := s3 _ _ hHD
      have em : modl xs ys n' = List.zipWith (fun i j => i - j * n') xs ys := by unfold modl; rw [List.zipWith_map_right]
      rw [em] at hx3'
      walk_at "gb go"
      exact k _ (by walk_at "gb same")
theorem ok_refused (T : Txt K mg A) : FnOk P w K mg base CX0 10 A.f_refused A.d_refused ["_law_one", "_law_other", "_law_b", "_law_way"] (spRefused A) := by
  refine T.F_refused.ok sc_refused (fun vs H Q E h => ?_) (fun cdv Ar outer s H vs Q E hr h => ?_)
  · obtain ⟨x, y, b, xs, ys, w, rfl, _⟩ := h
    rfl
  · obtain ⟨x, y, b, xs, ys, w, rfl, hX, hY, hb, hg, he, hpx, hz, hbx, k⟩ := h
    refine ⟨_, (pss_cons (ps_try_as (i := 4) rfl rfl sc_refused.nd rfl rfl ⟨rfl, by decide, Or.inl T.g_GangError⟩ takes0 (fun W pn xe tk _ => (pss_one (ps_if (pt_cmpR op_eq (pv 3) pe_int (nomark _)) (pss_one (ps_set (i := 5) sc_refused.nd rfl (Or.inl rfl) (pe_opS T.me_Amounts_floordiv T.sf_Amounts T.i_Amounts_floordiv (ok_Amounts_floordiv T) (hr.mono (by decide)) T.b_Amounts_floordiv (fun σ => passAt tk σ) (pv 0) (pv 1)))) (pss_one (ps_set (i := 5) sc_refused.nd rfl (Or.inl rfl) (pe_opS T.me_Amounts_mod T.sf_Amounts T.i_Amounts_mod (ok_Amounts_mod T) (hr.mono (by decide)) T.b_Amounts_mod (fun σ => passAt tk σ) (pv 0) (pv 1))))))) (fun a oe cls d pn hz hf => (pss_cons (ps_if (PW.pt (pw_or (pt_not (pt_val (pe_callB (call_isX hz hf) (by rfl) T.n_isinstance (by decide +kernel) (pa_cons (pv 4) (pa_cons (pe_glob (v := .ref A.c_BadAmounts) rfl T.g_BadAmounts rfl) pa_nil))) (by intro _; rfl))) (pw_or1 (pt_not (pt_val (pe_callB (call_isX hz hf) (by rfl) T.n_isinstance (by decide +kernel) (pa_cons (pv 4) (pa_cons (pe_bltn (v := .ty "ValueError") (by rfl) T.n_ValueError (by decide +kernel) rfl) pa_nil))) (by intro _; rfl)))))) (pss_one (ps_ret pe_bl)) pss_nil)
        (pss_one (ps_ret (pe_and (pe_cmpR (op_eqDK K hr.units) (pe_xf T.xf_BadAmounts T.x_BadAmounts.noS hz hf (pv 4)) (pe_callTy (call_tuple_ofK K) (by rfl) T.n_tuple (by decide +kernel) (pa_cons (pv 2) pa_nil)) (nomark _)) (pe_and (pe_not (pe_callB (call_isX hz hf) (by rfl) T.n_isinstance (by decide +kernel) (pa_cons (pv 4) (pa_cons (pe_glob (v := .ref A.c_BadShare) rfl T.g_BadShare rfl) pa_nil)))) (pe_one (pe_not (pe_callB (call_isX hz hf) (by rfl) T.n_isinstance (by decide +kernel) (pa_cons (pv 4) (pa_cons (pe_glob (v := .ref A.c_Unknown) rfl T.g_Unknown rfl) pa_nil))))))))))))
        (pss_one (ps_ret (pe_cmpR (op_eqDK K hr.units) (pe_lst (pa_cons (pv 5) pa_nil)) (pe_lst pa_nil) (nomark _))))), ?_⟩
    obtain ⟨dx, t, hx, ht⟩ := id hX
    obtain ⟨dy, t2, hy, ht2⟩ := id hY
    have hpy : ∀ x ∈ ys, 0 ≤ x := fun x hx => by rw [hz x hx]; decide
    have hby : BitsL 100 ys := fun x hx => by rw [hz x hx]; unfold Bits; decide
    have hnz : ¬ ∃ y ∈ ys, y ≠ 0 := by rintro ⟨y, h1, h2⟩; exact h2 (hz y h1)
    walk_at "gb go"
    · refine ⟨.inl ⟨y, dy, _, rfl, hy⟩, x, y, xs, ys, rfl, hX, hY, hg, he, hpx, hpy, hby, fun h => absurd h hnz, fun _ => ?_⟩
      intro t d H' sm et e2
      refine ⟨true, T.xm_BadAmounts, fun _ ex hex => ?_, fun q => nomatch q⟩
      walk_at "gb go"
      exact k _ (by walk_at "gb same")
    · refine ⟨.inl ⟨y, dy, _, rfl, hy⟩, x, y, xs, ys, rfl, hX, hY, hg, he, hpx, hpy, hbx, hby, fun h => absurd h hnz, fun _ => ?_⟩
      intro t d H' sm et e2
      refine ⟨true, T.xm_BadAmounts, fun _ ex hex => ?_, fun q => nomatch q⟩
      walk_at "gb go"
      exact k _ (by walk_at "gb same")
theorem ok_sums (T : Txt K mg A) : FnOk P w K mg base CX0 9 A.f_sums A.d_sums ["_law_one", "_law_a", "_law_other", "_law_b", "_law_times"] (spSums A) := by
  refine T.F_sums.ok sc_sums (fun vs H Q E h => ?_) (fun cdv Ar outer s H vs Q E hr h => ?_)
  · obtain ⟨x, a, y, b, xs, ys, n, rfl, _⟩ := h
    rfl
  · obtain ⟨x, a, y, b, xs, ys, n, rfl, hX, ha, hY, hb, hg, he, hbx, hby, hbn, k⟩ := h
    refine ⟨_, (pss_cons (ps_set (i := 5) sc_sums.nd rfl (Or.inl rfl) pe_int)
        (pss_cons (ps_for PassesOwn.never rfl (pi_listK K (pv 1)) (pg_name (i := 6) sc_sums.nd rfl (Or.inl rfl))
        (pss_one (ps_set (i := 5) sc_sums.nd rfl (Or.inl rfl) (pe_op op_add (pv 5) (pe_callB call_abs (by rfl) T.n_abs (by decide +kernel) (pa_cons (pv 6) pa_nil))))))
        (pss_cons (ps_if (PW.pt (pw_or (pt_not (pt_val (pe_call (ok_whole T) (hr.mono (by decide)) rfl T.g_whole T.F_whole.kp T.b_whole .nil pass0 (pa_cons (pe_callB (call_absOwn T.me_Amounts_abs (ok_Amounts_abs T) (hr.mono (by decide)) T.b_Amounts_abs pass0) (by rfl) T.n_abs (by decide +kernel) (pa_cons (pv 0) pa_nil)) pa_nil)) (by intro _; rfl))) (pw_or (pt_cmpR op_ne (pe_callB (call_absOwn T.me_Amounts_abs (ok_Amounts_abs T) (hr.mono (by decide)) T.b_Amounts_abs pass0) (by rfl) T.n_abs (by decide +kernel) (pa_cons (pv 0) pa_nil)) (pv 5) (nomark _)) (pw_or1 (pt_not (pt_val (pe_call (ok_is T) (hr.mono (by decide)) rfl T.g_is T.F_is.kp T.b_is .nil pass0 (pa_cons (pe_un (un_own T.me_Amounts_neg (ok_Amounts_neg T) (hr.mono (by decide)) T.b_Amounts_neg passL) (pv 0)) (pa_cons (pe_lc (own := [("_law_number_here", 6)]) (g := gName 6) (tt := tYes) rfl sc_sums.nd (pi_listK K (pv 1)) (blkOk_by (N := ["_law_one", "_law_a", "_law_other", "_law_b", "_law_times", "_law_size", "_law_number_here", "_law_k"]) (sc := defScope s_sums) (by decide +kernel)) (fun _ _ _ _ _ => (pg_name (i := 6) sc_sums.nd rfl (Or.inl rfl))) (fun _ _ _ _ _ => pts_nil) (fun _ _ _ _ _ => (pe_un un_neg (pv 6)))) pa_nil))) (by intro _; rfl))))))) (pss_one (ps_ret pe_bl)) pss_nil)
        (pss_cons (ps_if (pt_not (pt_val (pe_call (ok_is T) (hr.mono (by decide)) rfl T.g_is T.F_is.kp T.b_is .nil pass0 (pa_cons (pe_op (op_iown intMul T.me_Amounts_mul T.me_Amounts_rmul T.sf_Amounts T.si_Amounts (ok_Amounts_rmul T) (hr.mono (by decide)) T.b_Amounts_rmul passL) (pv 4) (pv 0)) (pa_cons (pe_lc (own := [("_law_number_here", 6)]) (g := gName 6) (tt := tYes) rfl sc_sums.nd (pi_listK K (pv 1)) (blkOk_by (N := ["_law_one", "_law_a", "_law_other", "_law_b", "_law_times", "_law_size", "_law_number_here", "_law_k"]) (sc := defScope s_sums) (by decide +kernel)) (fun _ _ _ _ _ => (pg_name (i := 6) sc_sums.nd rfl (Or.inl rfl))) (fun _ _ _ _ _ => pts_nil) (fun _ _ _ _ _ => (pe_op op_mulX (pv 4) (pv 6)))) pa_nil))) (by intro _; rfl))) (pss_one (ps_ret pe_bl)) pss_nil)
        (pss_cons (ps_if (pt_not (pt_val (pe_call (ok_is T) (hr.mono (by decide)) rfl T.g_is T.F_is.kp T.b_is .nil pass0 (pa_cons (pe_op (op_ownI T.me_Amounts_mul T.sf_Amounts T.i_Amounts_mul (ok_Amounts_mul T) (hr.mono (by decide)) T.b_Amounts_mul passL) (pv 0) (pv 4)) (pa_cons (pe_lc (own := [("_law_number_here", 6)]) (g := gName 6) (tt := tYes) rfl sc_sums.nd (pi_listK K (pv 1)) (blkOk_by (N := ["_law_one", "_law_a", "_law_other", "_law_b", "_law_times", "_law_size", "_law_number_here", "_law_k"]) (sc := defScope s_sums) (by decide +kernel)) (fun _ _ _ _ _ => (pg_name (i := 6) sc_sums.nd rfl (Or.inl rfl))) (fun _ _ _ _ _ => pts_nil) (fun _ _ _ _ _ => (pe_op op_mulX (pv 4) (pv 6)))) pa_nil))) (by intro _; rfl))) (pss_one (ps_ret pe_bl)) pss_nil)
        (pss_cons (ps_if (pt_not (pt_val (pe_call (ok_is T) (hr.mono (by decide)) rfl T.g_is T.F_is.kp T.b_is .nil pass0 (pa_cons (pe_op (op_own T.me_Amounts_add T.sf_Amounts (ok_Amounts_add T) (hr.mono (by decide)) T.b_Amounts_add passL) (pv 0) (pv 2)) (pa_cons (pe_lc (own := [("_law_k", 7)]) (g := gName 7) (tt := tYes) rfl sc_sums.nd (pi_range1 rfl T.n_range (pa_cons (pe_callB (call_len_seqK K) (by rfl) T.n_len (by decide +kernel) (pa_cons (pv 1) pa_nil)) pa_nil)) (blkOk_by (N := ["_law_one", "_law_a", "_law_other", "_law_b", "_law_times", "_law_size", "_law_number_here", "_law_k"]) (sc := defScope s_sums) (by decide +kernel)) (fun _ _ _ _ _ => (pg_name (i := 7) sc_sums.nd rfl (Or.inl rfl))) (fun _ _ _ _ _ => pts_nil) (fun _ _ _ _ _ => (pe_op op_add (pe_ix (ix_listK K) (pv 1) (pv 7) (fun _ _ => rfl)) (pe_ix (ix_listK K) (pv 3) (pv 7) (fun _ _ => rfl))))) pa_nil))) (by intro _; rfl))) (pss_one (ps_ret pe_bl)) pss_nil)
        (pss_one (ps_ret (pe_call (ok_is T) (hr.mono (by decide)) rfl T.g_is T.F_is.kp T.b_is .nil pass0 (pa_cons (pe_op (op_own T.me_Amounts_sub T.sf_Amounts (ok_Amounts_sub T) (hr.mono (by decide)) T.b_Amounts_sub passL) (pv 0) (pv 2)) (pa_cons (pe_lc (own := [("_law_k", 7)]) (g := gName 7) (tt := tYes) rfl sc_sums.nd (pi_range1 rfl T.n_range (pa_cons (pe_callB (call_len_seqK K) (by rfl) T.n_len (by decide +kernel) (pa_cons (pv 1) pa_nil)) pa_nil)) (blkOk_by (N := ["_law_one", "_law_a", "_law_other", "_law_b", "_law_times", "_law_size", "_law_number_here", "_law_k"]) (sc := defScope s_sums) (by decide +kernel)) (fun _ _ _ _ _ => (pg_name (i := 7) sc_sums.nd rfl (Or.inl rfl))) (fun _ _ _ _ _ => pts_nil) (fun _ _ _ _ _ => (pe_op op_sub (pe_ix (ix_listK K) (pv 1) (pv 7) (fun _ _ => rfl)) (pe_ix (ix_listK K) (pv 3) (pv 7) (fun _ _ => rfl))))) pa_nil))))))))))), ?_⟩
    obtain ⟨dx, t, hx, ht⟩ := id hX
    obtain ⟨dy, t2, hy, ht2⟩ := id hY
    have hg3 := hg.2
    walk_at "gb go"
    refine for_list (K := K) (a := a) (xs := xs.map V.int) (fun i σ H' => ∃ (v6 v7 : Option V), σ = [some (.ref x), some (.ref a), some (.ref y), some (.ref b), some (.int n), some (.int ((xs.take i).map ab).sum), v6, v7] ∧ Same H H') ⟨none, none, rfl, Same.refl _⟩ (fun i σ H' _ ⟨_, _, _, s'⟩ => SqL.of (s' _ _ ha)) ?_ ?_
    · rintro i v σ H' hv ⟨v6, v7, rfl, s'⟩
      obtain ⟨z, hz, rfl⟩ := getMap hv
      have hsum : ((xs.take i).map ab).sum + (if z < 0 then -z else z) = ((xs.take (i + 1)).map ab).sum := by
        rw [List.take_succ, hz, List.map_append, List.sum_append]
        show _ = _ + (ab z + 0)
        rw [Int.add_zero]; rfl
      walk_at "gb go"
      refine ⟨?_, s'⟩
      show [some (.ref x), some (.ref a), some (.ref y), some (.ref b), some (.int n), some (.int (((xs.take i).map ab).sum + (if z < 0 then -z else z))), some (.int z), v7] = _
      rw [hsum]
    · rintro σ H1 ⟨v6, v7, rfl, s1⟩
      have hE : (List.map ab (List.take (List.map V.int xs).length xs)).sum = (xs.map ab).sum := by rw [List.take_of_length_le (by simp)]
      rw [hE]
      have ha1 := s1 _ _ ha
      have hb1 := s1 _ _ hb
      walk_at "gb go"
      rename_i H2 q2 x2 H3 q3 hx2 D hD
      refine lc_list (K := K) (a := a) (xs := xs.map V.int) (fun i Hq => Same H3 Hq ∧ Hq D = some (.lst (((xs.map (· * -1)).map V.int).take i))) ⟨same_new hD, upd_same⟩ (fun i Hq hi h => SqL.of (h.1 _ _ (by walk_at "gb hp"))) ?_ ?_
      · rintro i x H' hi ⟨s', hD'⟩
        obtain ⟨i1, g1, rfl⟩ := getMap hi
        walk_at "gb go"
        exact lc_end (get_mm g1 (by omega))
      rintro HD ⟨sHD, hHD⟩
      rw [take_all (by simp)] at hHD
      have hx2 := hx2.mono sHD
      walk_at "gb go"
      rename_i H4 q4 x4 H5 q5 hx4 D hD
      refine lc_list (K := K) (a := a) (xs := xs.map V.int) (fun i Hq => Same H5 Hq ∧ Hq D = some (.lst (((xs.map (· * n)).map V.int).take i))) ⟨same_new hD, upd_same⟩ (fun i Hq hi h => SqL.of (h.1 _ _ (by walk_at "gb hp"))) ?_ ?_
      · rintro i x H' hi ⟨s', hD'⟩
        obtain ⟨i1, g1, rfl⟩ := getMap hi
        have hbi := hbx i1 (List.mem_of_getElem? g1)
        walk_at "gb go"
        exact lc_end (get_mm g1 (Int.mul_comm i1 n))
      rintro HE_ ⟨sHE_, hHE_⟩
      rw [take_all (by simp)] at hHE_
      have hx4 := hx4.mono sHE_
      walk_at "gb go"
      rename_i H6 q6 x6 H7 q7 hx6 D hD
      refine lc_list (K := K) (a := a) (xs := xs.map V.int) (fun i Hq => Same H7 Hq ∧ Hq D = some (.lst (((xs.map (· * n)).map V.int).take i))) ⟨same_new hD, upd_same⟩ (fun i Hq hi h => SqL.of (h.1 _ _ (by walk_at "gb hp"))) ?_ ?_
      · rintro i x H' hi ⟨s', hD'⟩
        obtain ⟨i1, g1, rfl⟩ := getMap hi
        have hbi := hbx i1 (List.mem_of_getElem? g1)
        walk_at "gb go"
        exact lc_end (get_mm g1 (Int.mul_comm i1 n))
      rintro HF_ ⟨sHF_, hHF_⟩
      rw [take_all (by simp)] at hHF_
      have hx6 := hx6.mono sHF_
      walk_at "gb go"
      rename_i H8 q8 _ x8 H9 q9 hx8 D hD
      refine lc_range (lo := 0) (n := ((xs.map V.int).length : Int).toNat) (fun i Hq => Same H9 Hq ∧ Hq D = some (.lst (((List.zipWith (fun i j => i + j) xs ys).map V.int).take i))) ⟨same_new hD, upd_same⟩ ?_ ?_
      · rintro i H' hi ⟨s', hD'⟩
        have hi' : i < xs.length := by rw [List.length_map] at hi; omega
        obtain ⟨i1, g1⟩ : ∃ i1, xs[i]? = some i1 := ⟨_, List.getElem?_eq_getElem hi'⟩
        obtain ⟨i2, g2⟩ : ∃ i2, ys[i]? = some i2 := ⟨_, List.getElem?_eq_getElem (by omega)⟩
        have hat := at_int g1
        have hat2 := at_int g2
        walk_at "gb go"
        exact lc_end (get_zz g1 g2 (rfl))
      rintro HG_ ⟨sHG_, hHG_⟩
      rw [take_all (by simp; omega)] at hHG_
      have hx8 := hx8.mono sHG_
      walk_at "gb go"
      rename_i Ha qa _ xa Hb qb hxa D hD
      refine lc_range (lo := 0) (n := ((xs.map V.int).length : Int).toNat) (fun i Hq => Same Hb Hq ∧ Hq D = some (.lst (((List.zipWith (fun i j => i - j) xs ys).map V.int).take i))) ⟨same_new hD, upd_same⟩ ?_ ?_
      · rintro i H' hi ⟨s', hD'⟩
        have hi' : i < xs.length := by rw [List.length_map] at hi; omega
        obtain ⟨i1, g1⟩ : ∃ i1, xs[i]? = some i1 := ⟨_, List.getElem?_eq_getElem hi'⟩
        obtain ⟨i2, g2⟩ : ∃ i2, ys[i]? = some i2 := ⟨_, List.getElem?_eq_getElem (by omega)⟩
        have hat := at_int g1
        have hat2 := at_int g2
        walk_at "gb go"
        exact lc_end (get_zz g1 g2 (rfl))
      rintro HI_ ⟨sHI_, hHI_⟩
      rw [take_all (by simp; omega)] at hHI_
      have hxa := hxa.mono sHI_
      walk_at "gb go"
      exact k _ (by walk_at "gb same")
theorem ok_names (T : Txt K mg A) : FnOk P w K mg base CX0 4 A.f_names A.d_names ["_law_pool_here"] (spNames) := by
  refine T.F_names.ok sc_names (fun vs H Q E h => ?_) (fun cdv Ar outer s H vs Q E hr h => ?_)
  · obtain ⟨p, rfl, _⟩ := h
    rfl
  · obtain ⟨p, rfl, hP, k⟩ := h
    refine ⟨_, (pss_cons (ps_set (i := 1) sc_names.nd rfl (Or.inl rfl) pe_str)
        (pss_cons (ps_set (i := 2) sc_names.nd rfl (Or.inl rfl) (pe_lst (pa_cons pe_str (pa_cons pe_str (pa_cons pe_str (pa_cons pe_str (pa_cons (pe_ix ix_str (pv 1) (pe_call (ok_draw T) (hr.mono (by decide)) rfl T.g_draw T.F_draw.kp T.b_draw .nil pass0 (pa_cons (pv 0) (pa_cons pe_int pa_nil))) (fun _ _ => rfl)) (pa_cons (pe_op op_add_str pe_str (pe_ix ix_str (pv 1) (pe_call (ok_draw T) (hr.mono (by decide)) rfl T.g_draw T.F_draw.kp T.b_draw .nil pass0 (pa_cons (pv 0) (pa_cons pe_int pa_nil))) (fun _ _ => rfl))) pa_nil))))))))
        (pss_cons (ps_set (i := 3) sc_names.nd rfl (Or.inl rfl) (pe_lst pa_nil))
        (pss_cons (ps_for PassesOwn.never rfl (pi_range1 rfl T.n_range (pa_cons (pe_op op_add pe_int (pe_call (ok_draw T) (hr.mono (by decide)) rfl T.g_draw T.F_draw.kp T.b_draw .nil pass0 (pa_cons (pv 0) (pa_cons pe_int pa_nil)))) pa_nil)) (pg_name (i := 4) sc_names.nd rfl (Or.inl rfl))
        (pss_one (ps_expr (pe_bm PySem.F.plainAttrs_list PySem.F.slot_list_append PySem.F.type_list_append mt_append (pv 3) (pa_cons (pe_bm PySem.F.plainAttrs_list PySem.F.slot_list_pop PySem.F.type_list_pop mt_popAt (pv 2) (pa_cons (pe_call (ok_draw T) (hr.mono (by decide)) rfl T.g_draw T.F_draw.kp T.b_draw .nil pass0 (pa_cons (pv 0) (pa_cons (pe_callB (call_len_seqK K) (by rfl) T.n_len (by decide +kernel) (pa_cons (pv 2) pa_nil)) pa_nil))) pa_nil)) pa_nil)))))
        (pss_one (ps_ret (pv 3))))))), ?_⟩
    walk_at "gb go"
    rename_i r1 H1 r10 r11 P1 s1 r2 H2 r20 r21 P2 s2 left hleft kinds hkinds r3 H3 r30 r31 P3 s3
    generalize hc1 : (at_ex (xs := (Str.ofString "abcdefghijklmnopqrstuvwxyz0123456789").cps.toList) (r := r1) r10 (show r1 < ((36 : Nat) : Int) by omega)).choose = c1 at s3 hkinds ⊢
    generalize hc2 : (at_ex (xs := (Str.ofString "abcdefghijklmnopqrstuvwxyz0123456789").cps.toList) (r := r2) r20 (show r2 < ((36 : Nat) : Int) by omega)).choose = c2 at s3 hkinds ⊢
    have nl : left ≠ p := (P2.ne hleft).symm
    have fk : H2 kinds = none := (same_new hleft).free hkinds
    have nk : kinds ≠ p := (P2.ne fk).symm
    have e1 : H3 left = some (.lst ([Str.ofString "core", Str.ofString "fast", Str.ofString "big", Str.ofString "names", (⟨#[c1]⟩ : Str), Str.ofString "core" ++ (⟨#[c2]⟩ : Str)].map V.str)) := s3 _ _ nl (upd_fr upd_same hkinds)
    have e2 : H3 kinds = some (.lst (([] : List Str).map V.str)) := s3 _ _ nk upd_same
    have nlk : left ≠ kinds := fun z => by rw [z] at hkinds; rw [upd_same] at hkinds; cases hkinds
    have hl0 : H left = none := but_free (s1.trans s2) nl hleft
    have hk0 : H kinds = none := but_free (s1.trans s2) nk fk
    have sA : SameBut p H H3 := (s1.trans s2).trans (((same_new hleft).trans (same_new hkinds)).but.trans s3)
    clear s3 hkinds hleft hc1 hc2 s2 P2 s1 P1
    refine for_range (lo := 0) (n := (1 + r3).toNat) (fun i σ H' => ∃ (ks ls : List Str) (v4 : Option V), σ = [some (.ref p), some (.str (Str.ofString "abcdefghijklmnopqrstuvwxyz0123456789")), some (.ref left), some (.ref kinds), v4] ∧ H' left = some (.lst (ls.map V.str)) ∧ H' kinds = some (.lst (ks.map V.str)) ∧ (ks ++ ls).Nodup ∧ ks.length = i ∧ ls.length + i = 6 ∧ PoolAt H' p ∧ SameBut p H H') ⟨[], _, none, rfl, e1, e2, names_nd c1 c2, rfl, rfl, by assumption, sA⟩ ?_ ?_
    · clear e1 e2 sA
      rintro i σ H' hi ⟨ks, ls, v4, rfl, f1, f2, hnd, hlk, hll, P', s'⟩
      have hi3 : i < 3 := by omega
      walk_at "gb go"
      rename_i r H4 r0 r1' P4 s4
      have hr : r.toNat < ls.length := by rw [List.length_map] at r1'; omega
      have hgd : ls.getD r.toNat ⟨#[]⟩ = ls[r.toNat] := by rw [List.getD_eq_getElem?_getD, List.getElem?_eq_getElem hr]; rfl
      have e3 : ks.map V.str ++ [(ls.map V.str)[r.toNat]'(by rw [List.length_map]; exact hr)] = (ks ++ [ls.getD r.toNat ⟨#[]⟩]).map V.str := by rw [List.map_append, List.getElem_map, hgd]; rfl
      refine ⟨(by rw [upd_ne nlk, upd_same, map_erase]; first | done | exact rfl), (by rw [upd_same, e3]; first | done | exact rfl), ?_, (by rw [List.length_append]; show ks.length + 1 = i + 1; omega), by rw [List.length_eraseIdx_of_lt hr]; omega, ?_, ?_⟩
      · rw [List.append_assoc, hgd]
        exact (List.Perm.nodup_iff ((erase_perm ls _ hr).append_left ks)).mpr hnd
      · exact pool_put (pool_put P4 nl) nk
      · exact put_but (put_but (s'.trans s4) hl0) hk0
    · rintro σ H' ⟨ks, ls, v4, rfl, f1, f2, hnd, hlk, hll, P', s'⟩
      walk_at "gb go"
      refine k kinds ks H' (by omega) (by omega) ?_ nk hk0 f2 P' s'
      exact (List.nodup_append.mp hnd).1
theorem ok_made (T : Txt K mg A) : FnOk P w K mg base (L2.CX P w) 8 A.f_made A.d_made ["_law_kinds", "_law_given", "_law_way"] (spMade A) := by
  refine T.F_made.okX sc_made (fun vs H Q E h => ?_) (fun cdv Ar outer s H vs Q E hr h => ?_)
  · obtain ⟨l, g, ws, x, y, z, w, rfl, _⟩ := h
    rfl
  · obtain ⟨l, g, ws, x, y, z, w, rfl, hl, hgv, n1, n3, hw, kG, kB⟩ := h
    refine ⟨_, (pss_cons (ps_set (i := 3) sc_made.nd rfl (Or.inl rfl) (pe_ix (ix_listK K) (pv 1) pe_int (fun _ _ => rfl)))
        (pss_cons (ps_set (i := 4) sc_made.nd rfl (Or.inl rfl) (pe_ix (ix_listK K) (pv 1) pe_int (fun _ _ => rfl)))
        (pss_cons (ps_set (i := 5) sc_made.nd rfl (Or.inl rfl) (pe_ix (ix_listK K) (pv 1) pe_int (fun _ _ => rfl)))
        (pss_cons (ps_if (pt_cmpR op_eq (pv 2) pe_int (nomark _)) (pss_one (ps_ret (pe_lst (pa_cons (pe_lst pa_nil) (pa_cons (pe_smKw (pe_glob (v := .ref A.c_Amounts) rfl T.g_Amounts rfl) T.rd_Amounts T.sm_Amounts_of.choose_spec (ok_Amounts_of_none T) (hr.mono (by decide)) T.F_Amounts_of.kp (passes_call (takes_of rfl rfl rfl rfl) (fun _ _ _ _ h => h)) (pa_cons (pe_callTy call_tuple_of (by rfl) T.n_tuple (by decide +kernel) (pa_cons (pv 0) pa_nil)) pa_nil) pk_nil) pa_nil))))) pss_nil)
        (pss_cons (ps_if (pt_cmpR op_eq (pv 2) pe_int (nomark _)) (pss_one (ps_ret (pe_lst (pa_cons (pe_lst (pa_cons (pe_tup (pa_cons pe_str (pa_cons (pv 3) pa_nil))) pa_nil)) (pa_cons (pe_smKw (pe_glob (v := .ref A.c_Amounts) rfl T.g_Amounts rfl) T.rd_Amounts T.sm_Amounts_of.choose_spec (ok_Amounts_of_core T) (hr.mono (by decide)) T.F_Amounts_of.kp (passes_call (takes_of rfl rfl rfl rfl) (fun _ _ _ _ h => h)) (pa_cons (pe_callTy call_tuple_of (by rfl) T.n_tuple (by decide +kernel) (pa_cons (pv 0) pa_nil)) pa_nil) (pk_cons (pv 3) pk_nil)) pa_nil))))) pss_nil)
        (pss_cons (ps_if (pt_cmpR op_eq (pv 2) pe_int (nomark _)) (pss_one (ps_ret (pe_lst (pa_cons (pe_lst (pa_cons (pe_tup (pa_cons pe_str (pa_cons (pv 3) pa_nil))) pa_nil)) (pa_cons (pe_smKw (pe_glob (v := .ref A.c_Amounts) rfl T.g_Amounts rfl) T.rd_Amounts T.sm_Amounts_of.choose_spec (ok_Amounts_of_fast T) (hr.mono (by decide)) T.F_Amounts_of.kp (passes_call (takes_of rfl rfl rfl rfl) (fun _ _ _ _ h => h)) (pa_cons (pe_callTy call_tuple_of (by rfl) T.n_tuple (by decide +kernel) (pa_cons (pv 0) pa_nil)) pa_nil) (pk_cons (pv 3) pk_nil)) pa_nil))))) pss_nil)
        (pss_cons (ps_if (pt_cmpR op_eq (pv 2) pe_int (nomark _)) (pss_one (ps_ret (pe_lst (pa_cons (pe_lst (pa_cons (pe_tup (pa_cons pe_str (pa_cons (pv 3) pa_nil))) (pa_cons (pe_tup (pa_cons pe_str (pa_cons (pv 4) pa_nil))) pa_nil))) (pa_cons (pe_smKw (pe_glob (v := .ref A.c_Amounts) rfl T.g_Amounts rfl) T.rd_Amounts T.sm_Amounts_of.choose_spec (ok_Amounts_of_big_core T) (hr.mono (by decide)) T.F_Amounts_of.kp (passes_call (takes_of rfl rfl rfl rfl) (fun _ _ _ _ h => h)) (pa_cons (pe_callTy call_tuple_of (by rfl) T.n_tuple (by decide +kernel) (pa_cons (pv 0) pa_nil)) pa_nil) (pk_cons (pv 3) (pk_cons (pv 4) pk_nil))) pa_nil))))) pss_nil)
        (pss_cons (ps_if (pt_cmpR op_eq (pv 2) pe_int (nomark _)) (pss_one (ps_ret (pe_lst (pa_cons (pe_lst (pa_cons (pe_tup (pa_cons pe_str (pa_cons (pv 3) pa_nil))) (pa_cons (pe_tup (pa_cons pe_str (pa_cons (pv 4) pa_nil))) pa_nil))) (pa_cons (pe_smKw (pe_glob (v := .ref A.c_Amounts) rfl T.g_Amounts rfl) T.rd_Amounts T.sm_Amounts_of.choose_spec (ok_Amounts_of_core_big T) (hr.mono (by decide)) T.F_Amounts_of.kp (passes_call (takes_of rfl rfl rfl rfl) (fun _ _ _ _ h => h)) (pa_cons (pe_callTy call_tuple_of (by rfl) T.n_tuple (by decide +kernel) (pa_cons (pv 0) pa_nil)) pa_nil) (pk_cons (pv 3) (pk_cons (pv 4) pk_nil))) pa_nil))))) pss_nil)
        (pss_cons (ps_if (pt_cmpR op_eq (pv 2) pe_int (nomark _)) (pss_one (ps_ret (pe_lst (pa_cons (pe_lst (pa_cons (pe_tup (pa_cons pe_str (pa_cons (pv 3) pa_nil))) (pa_cons (pe_tup (pa_cons pe_str (pa_cons (pv 4) pa_nil))) pa_nil))) (pa_cons (pe_smKw (pe_glob (v := .ref A.c_Amounts) rfl T.g_Amounts rfl) T.rd_Amounts T.sm_Amounts_of.choose_spec (ok_Amounts_of_fast_core T) (hr.mono (by decide)) T.F_Amounts_of.kp (passes_call (takes_of rfl rfl rfl rfl) (fun _ _ _ _ h => h)) (pa_cons (pe_callTy call_tuple_of (by rfl) T.n_tuple (by decide +kernel) (pa_cons (pv 0) pa_nil)) pa_nil) (pk_cons (pv 3) (pk_cons (pv 4) pk_nil))) pa_nil))))) pss_nil)
        (pss_cons (ps_if (pt_cmpR op_eq (pv 2) pe_int (nomark _)) (pss_cons (ps_set (i := 6) sc_made.nd rfl (Or.inl rfl) (pe_smKw (pe_glob (v := .ref A.c_Amounts) rfl T.g_Amounts rfl) T.rd_Amounts T.sm_Amounts_of.choose_spec (ok_Amounts_of_big_fast_core T) (hr.mono (by decide)) T.F_Amounts_of.kp (passes_call (takes_of rfl rfl rfl rfl) (fun _ _ _ _ h => h)) (pa_cons (pe_callTy call_tuple_of (by rfl) T.n_tuple (by decide +kernel) (pa_cons (pv 0) pa_nil)) pa_nil) (pk_cons (pv 3) (pk_cons (pv 4) (pk_cons (pv 5) pk_nil)))))
        (pss_one (ps_ret (pe_lst (pa_cons (pe_lst (pa_cons (pe_tup (pa_cons pe_str (pa_cons (pv 3) pa_nil))) (pa_cons (pe_tup (pa_cons pe_str (pa_cons (pv 4) pa_nil))) (pa_cons (pe_tup (pa_cons pe_str (pa_cons (pv 5) pa_nil))) pa_nil)))) (pa_cons (pv 6) pa_nil)))))) pss_nil)
        (pss_cons (ps_if (pt_cmpR op_eq (pv 2) pe_int (nomark _)) (pss_cons (ps_set (i := 6) sc_made.nd rfl (Or.inl rfl) (pe_smKw (pe_glob (v := .ref A.c_Amounts) rfl T.g_Amounts rfl) T.rd_Amounts T.sm_Amounts_of.choose_spec (ok_Amounts_of_core_fast_big T) (hr.mono (by decide)) T.F_Amounts_of.kp (passes_call (takes_of rfl rfl rfl rfl) (fun _ _ _ _ h => h)) (pa_cons (pe_callTy call_tuple_of (by rfl) T.n_tuple (by decide +kernel) (pa_cons (pv 0) pa_nil)) pa_nil) (pk_cons (pv 3) (pk_cons (pv 4) (pk_cons (pv 5) pk_nil)))))
        (pss_one (ps_ret (pe_lst (pa_cons (pe_lst (pa_cons (pe_tup (pa_cons pe_str (pa_cons (pv 3) pa_nil))) (pa_cons (pe_tup (pa_cons pe_str (pa_cons (pv 4) pa_nil))) (pa_cons (pe_tup (pa_cons pe_str (pa_cons (pv 5) pa_nil))) pa_nil)))) (pa_cons (pv 6) pa_nil)))))) pss_nil)
        (pss_cons (ps_if (pt_cmpR op_eq (pv 2) pe_int (nomark _)) (pss_one (ps_ret (pe_lst (pa_cons (pe_lst (pa_cons (pe_tup (pa_cons pe_str (pa_cons (pv 3) pa_nil))) pa_nil)) (pa_cons (pe_smKw (pe_glob (v := .ref A.c_Amounts) rfl T.g_Amounts rfl) T.rd_Amounts T.sm_Amounts_of.choose_spec (ok_Amounts_of_names T) (hr.mono (by decide)) T.F_Amounts_of.kp (passes_call (takes_of rfl rfl rfl rfl) (fun _ _ _ _ h => h)) (pa_cons (pe_callTy call_tuple_of (by rfl) T.n_tuple (by decide +kernel) (pa_cons (pv 0) pa_nil)) pa_nil) (pk_cons (pv 3) pk_nil)) pa_nil))))) pss_nil)
        (pss_one (ps_ret (pe_lst (pa_cons (pe_lst (pa_cons (pe_tup (pa_cons pe_str (pa_cons (pv 3) pa_nil))) (pa_cons (pe_tup (pa_cons pe_str (pa_cons (pv 4) pa_nil))) pa_nil))) (pa_cons (pe_smKw (pe_glob (v := .ref A.c_Amounts) rfl T.g_Amounts rfl) T.rd_Amounts T.sm_Amounts_of.choose_spec (ok_Amounts_of_core_names T) (hr.mono (by decide)) T.F_Amounts_of.kp (passes_call (takes_of rfl rfl rfl rfl) (fun _ _ _ _ h => h)) (pa_cons (pe_callTy call_tuple_of (by rfl) T.n_tuple (by decide +kernel) (pa_cons (pv 0) pa_nil)) pa_nil) (pk_cons (pv 3) (pk_cons (pv 4) pk_nil))) pa_nil))))))))))))))))), ?_⟩
    rcases w with _ | _ | _ | _ | _ | _ | _ | _ | _ | _ | w
    · walk_at "gb go"
      rename_i  l1 hl1 lt hlt d hd
      refine ⟨(upd_same : upd _ _ _ _ = some (.dK (kvK (kvT 0 x y z)))), by walk_at "gb ne", fun hin x2 H2 sb hx2 => ?_, fun i p h1 h2 h3 e He sb hx2 => kB i p h1 h2 h3 e He (but_same (by walk_at "gb same") (Same.free (H := H) (by walk_at "gb same") hd) sb) hx2⟩
      have sH := but_same (H := H) (by walk_at "gb same") (Same.free (H := H) (by walk_at "gb same") hd) sb
      have fl : H2 l1 = some (.lst []) := but_at sb hd (by walk_at "gb hp")
      clear sb hd
      walk_at "gb go"
      refine kG hin _ l1 x2 _ (by walk_at "gb same") (by walk_at "gb hp") (tups0 (by walk_at "gb hp")) (hx2.mono (by walk_at "gb same"))
    · walk_at "gb go"
      rename_i t0 ht0 l1 hl1 lt hlt d hd
      refine ⟨(upd_same : upd _ _ _ _ = some (.dK (kvK (kvT 1 x y z)))), by walk_at "gb ne", fun hin x2 H2 sb hx2 => ?_, fun i p h1 h2 h3 e He sb hx2 => kB i p h1 h2 h3 e He (but_same (by walk_at "gb same") (Same.free (H := H) (by walk_at "gb same") hd) sb) hx2⟩
      have sH := but_same (H := H) (by walk_at "gb same") (Same.free (H := H) (by walk_at "gb same") hd) sb
      have ft0 : H2 t0 = some (.tup [.str "core", .int x]) := but_at sb hd (by walk_at "gb hp")
      have fl : H2 l1 = some (.lst [.ref t0]) := but_at sb hd (by walk_at "gb hp")
      clear sb hd
      walk_at "gb go"
      refine kG hin _ l1 x2 _ (by walk_at "gb same") (by walk_at "gb hp") (tups1 (by walk_at "gb hp") (by walk_at "gb hp")) (hx2.mono (by walk_at "gb same"))
    · walk_at "gb go"
      rename_i t0 ht0 l1 hl1 lt hlt d hd
      refine ⟨(upd_same : upd _ _ _ _ = some (.dK (kvK (kvT 2 x y z)))), by walk_at "gb ne", fun hin x2 H2 sb hx2 => ?_, fun i p h1 h2 h3 e He sb hx2 => kB i p h1 h2 h3 e He (but_same (by walk_at "gb same") (Same.free (H := H) (by walk_at "gb same") hd) sb) hx2⟩
      have sH := but_same (H := H) (by walk_at "gb same") (Same.free (H := H) (by walk_at "gb same") hd) sb
      have ft0 : H2 t0 = some (.tup [.str "fast", .int x]) := but_at sb hd (by walk_at "gb hp")
      have fl : H2 l1 = some (.lst [.ref t0]) := but_at sb hd (by walk_at "gb hp")
      clear sb hd
      walk_at "gb go"
      refine kG hin _ l1 x2 _ (by walk_at "gb same") (by walk_at "gb hp") (tups1 (by walk_at "gb hp") (by walk_at "gb hp")) (hx2.mono (by walk_at "gb same"))
    · walk_at "gb go"
      rename_i t0 ht0 t1 ht1 l1 hl1 lt hlt d hd
      refine ⟨(upd_same : upd _ _ _ _ = some (.dK (kvK (kvT 3 x y z)))), by walk_at "gb ne", fun hin x2 H2 sb hx2 => ?_, fun i p h1 h2 h3 e He sb hx2 => kB i p h1 h2 h3 e He (but_same (by walk_at "gb same") (Same.free (H := H) (by walk_at "gb same") hd) sb) hx2⟩
      have sH := but_same (H := H) (by walk_at "gb same") (Same.free (H := H) (by walk_at "gb same") hd) sb
      have ft0 : H2 t0 = some (.tup [.str "big", .int x]) := but_at sb hd (by walk_at "gb hp")
      have ft1 : H2 t1 = some (.tup [.str "core", .int y]) := but_at sb hd (by walk_at "gb hp")
      have fl : H2 l1 = some (.lst [.ref t0, .ref t1]) := but_at sb hd (by walk_at "gb hp")
      clear sb hd
      walk_at "gb go"
      refine kG hin _ l1 x2 _ (by walk_at "gb same") (by walk_at "gb hp") (tups2 (by walk_at "gb hp") (by walk_at "gb hp") (by walk_at "gb hp")) (hx2.mono (by walk_at "gb same"))
    · walk_at "gb go"
      rename_i t0 ht0 t1 ht1 l1 hl1 lt hlt d hd
      refine ⟨(upd_same : upd _ _ _ _ = some (.dK (kvK (kvT 4 x y z)))), by walk_at "gb ne", fun hin x2 H2 sb hx2 => ?_, fun i p h1 h2 h3 e He sb hx2 => kB i p h1 h2 h3 e He (but_same (by walk_at "gb same") (Same.free (H := H) (by walk_at "gb same") hd) sb) hx2⟩
      have sH := but_same (H := H) (by walk_at "gb same") (Same.free (H := H) (by walk_at "gb same") hd) sb
      have ft0 : H2 t0 = some (.tup [.str "core", .int x]) := but_at sb hd (by walk_at "gb hp")
      have ft1 : H2 t1 = some (.tup [.str "big", .int y]) := but_at sb hd (by walk_at "gb hp")
      have fl : H2 l1 = some (.lst [.ref t0, .ref t1]) := but_at sb hd (by walk_at "gb hp")
      clear sb hd
      walk_at "gb go"
      refine kG hin _ l1 x2 _ (by walk_at "gb same") (by walk_at "gb hp") (tups2 (by walk_at "gb hp") (by walk_at "gb hp") (by walk_at "gb hp")) (hx2.mono (by walk_at "gb same"))
    · walk_at "gb go"
      rename_i t0 ht0 t1 ht1 l1 hl1 lt hlt d hd
      refine ⟨(upd_same : upd _ _ _ _ = some (.dK (kvK (kvT 5 x y z)))), by walk_at "gb ne", fun hin x2 H2 sb hx2 => ?_, fun i p h1 h2 h3 e He sb hx2 => kB i p h1 h2 h3 e He (but_same (by walk_at "gb same") (Same.free (H := H) (by walk_at "gb same") hd) sb) hx2⟩
      have sH := but_same (H := H) (by walk_at "gb same") (Same.free (H := H) (by walk_at "gb same") hd) sb
      have ft0 : H2 t0 = some (.tup [.str "fast", .int x]) := but_at sb hd (by walk_at "gb hp")
      have ft1 : H2 t1 = some (.tup [.str "core", .int y]) := but_at sb hd (by walk_at "gb hp")
      have fl : H2 l1 = some (.lst [.ref t0, .ref t1]) := but_at sb hd (by walk_at "gb hp")
      clear sb hd
      walk_at "gb go"
      refine kG hin _ l1 x2 _ (by walk_at "gb same") (by walk_at "gb hp") (tups2 (by walk_at "gb hp") (by walk_at "gb hp") (by walk_at "gb hp")) (hx2.mono (by walk_at "gb same"))
    · walk_at "gb go"
      rename_i  lt hlt d hd
      refine ⟨(upd_same : upd _ _ _ _ = some (.dK (kvK (kvT 6 x y z)))), by walk_at "gb ne", fun hin x2 H2 sb hx2 => ?_, fun i p h1 h2 h3 e He sb hx2 => kB i p h1 h2 h3 e He (but_same (by walk_at "gb same") (Same.free (H := H) (by walk_at "gb same") hd) sb) hx2⟩
      have sH := but_same (H := H) (by walk_at "gb same") (Same.free (H := H) (by walk_at "gb same") hd) sb
      clear sb hd
      walk_at "gb go"
      refine kG hin _ _ x2 _ (by walk_at "gb same") (by walk_at "gb hp") (tups3 (by walk_at "gb hp") (by walk_at "gb hp") (by walk_at "gb hp") (by walk_at "gb hp")) (hx2.mono (by walk_at "gb same"))
    · walk_at "gb go"
      rename_i  lt hlt d hd
      refine ⟨(upd_same : upd _ _ _ _ = some (.dK (kvK (kvT 7 x y z)))), by walk_at "gb ne", fun hin x2 H2 sb hx2 => ?_, fun i p h1 h2 h3 e He sb hx2 => kB i p h1 h2 h3 e He (but_same (by walk_at "gb same") (Same.free (H := H) (by walk_at "gb same") hd) sb) hx2⟩
      have sH := but_same (H := H) (by walk_at "gb same") (Same.free (H := H) (by walk_at "gb same") hd) sb
      clear sb hd
      walk_at "gb go"
      refine kG hin _ _ x2 _ (by walk_at "gb same") (by walk_at "gb hp") (tups3 (by walk_at "gb hp") (by walk_at "gb hp") (by walk_at "gb hp") (by walk_at "gb hp")) (hx2.mono (by walk_at "gb same"))
    · walk_at "gb go"
      rename_i t0 ht0 l1 hl1 lt hlt d hd
      refine ⟨(upd_same : upd _ _ _ _ = some (.dK (kvK (kvT 8 x y z)))), by walk_at "gb ne", fun hin x2 H2 sb hx2 => ?_, fun i p h1 h2 h3 e He sb hx2 => kB i p h1 h2 h3 e He (but_same (by walk_at "gb same") (Same.free (H := H) (by walk_at "gb same") hd) sb) hx2⟩
      have sH := but_same (H := H) (by walk_at "gb same") (Same.free (H := H) (by walk_at "gb same") hd) sb
      have ft0 : H2 t0 = some (.tup [.str "names", .int x]) := but_at sb hd (by walk_at "gb hp")
      have fl : H2 l1 = some (.lst [.ref t0]) := but_at sb hd (by walk_at "gb hp")
      clear sb hd
      walk_at "gb go"
      refine kG hin _ l1 x2 _ (by walk_at "gb same") (by walk_at "gb hp") (tups1 (by walk_at "gb hp") (by walk_at "gb hp")) (hx2.mono (by walk_at "gb same"))
    · walk_at "gb go"
      rename_i t0 ht0 t1 ht1 l1 hl1 lt hlt d hd
      refine ⟨(upd_same : upd _ _ _ _ = some (.dK (kvK (kvT 9 x y z)))), by walk_at "gb ne", fun hin x2 H2 sb hx2 => ?_, fun i p h1 h2 h3 e He sb hx2 => kB i p h1 h2 h3 e He (but_same (by walk_at "gb same") (Same.free (H := H) (by walk_at "gb same") hd) sb) hx2⟩
      have sH := but_same (H := H) (by walk_at "gb same") (Same.free (H := H) (by walk_at "gb same") hd) sb
      have ft0 : H2 t0 = some (.tup [.str "core", .int x]) := but_at sb hd (by walk_at "gb hp")
      have ft1 : H2 t1 = some (.tup [.str "names", .int y]) := but_at sb hd (by walk_at "gb hp")
      have fl : H2 l1 = some (.lst [.ref t0, .ref t1]) := but_at sb hd (by walk_at "gb hp")
      clear sb hd
      walk_at "gb go"
      refine kG hin _ l1 x2 _ (by walk_at "gb same") (by walk_at "gb hp") (tups2 (by walk_at "gb hp") (by walk_at "gb hp") (by walk_at "gb hp")) (hx2.mono (by walk_at "gb same"))
    · exfalso; omega
theorem ok_asked (T : Txt K mg A) : FnOk P w K mg base CX0 9 A.f_asked A.d_asked ["_law_kinds", "_law_given", "_law_way"] (spAsked A) := by
  refine T.F_asked.ok sc_asked (fun vs H Q E h => ?_) (fun cdv Ar outer s H vs Q E hr h => ?_)
  · obtain ⟨l, g, ws, x, y, z, w, rfl, _⟩ := h
    rfl
  · obtain ⟨l, g, ws, x, y, z, w, rfl, hl, hgv, n1, n3, hnd, hw, k⟩ := h
    refine ⟨_, (pss_cons (ps_set (i := 3) sc_asked.nd rfl (Or.inl rfl) (pe_lst (pa_cons (pe_lst pa_nil) (pa_cons (pe_lst (pa_cons pe_str pa_nil)) (pa_cons (pe_lst (pa_cons pe_str pa_nil)) (pa_cons (pe_lst (pa_cons pe_str (pa_cons pe_str pa_nil))) (pa_cons (pe_lst (pa_cons pe_str (pa_cons pe_str pa_nil))) (pa_cons (pe_lst (pa_cons pe_str (pa_cons pe_str pa_nil))) pa_nil))))))))
        (pss_cons (ps_set (i := 3) sc_asked.nd rfl (Or.inl rfl) (pe_op op_cat (pv 3) (pe_lst (pa_cons (pe_lst (pa_cons pe_str (pa_cons pe_str (pa_cons pe_str pa_nil)))) (pa_cons (pe_lst (pa_cons pe_str (pa_cons pe_str (pa_cons pe_str pa_nil)))) pa_nil)))))
        (pss_cons (ps_set (i := 3) sc_asked.nd rfl (Or.inl rfl) (pe_op op_cat (pv 3) (pe_lst (pa_cons (pe_lst (pa_cons pe_str pa_nil)) (pa_cons (pe_lst (pa_cons pe_str (pa_cons pe_str pa_nil))) pa_nil)))))
        (pss_cons (ps_setLc (i := 4) (own := [("_law_word", 10)]) (g := gName 10) rfl sc_asked.nd rfl rfl (sw_true rfl rfl rfl (by decide +kernel)) (pi_listK K (pe_ix (ix_listK K) (pv 3) (pv 2) (fun _ _ => rfl))) (blkOk_by (N := ["_law_kinds", "_law_given", "_law_way", "_law_words", "_law_strange", "_law_numbers", "_law_name", "_law_number_here", "_law_made_here", "e", "_law_word"]) (sc := defScope s_asked) (by decide +kernel)) (fun _ _ _ _ _ => (pg_name (i := 10) sc_asked.nd rfl (Or.inl rfl))) (fun _ _ _ _ _ => pts_one (pt_cmpR (op_notIn_seqK K) (pv 10) (pv 0) rfl)) (fun _ _ _ _ _ => (pv 10)))
        (pss_cons (ps_try_as (i := 9) rfl rfl sc_asked.nd rfl rfl ⟨rfl, by decide, Or.inl T.g_GangError⟩ takes0 (fun W pn xe tk _ => (pss_one (ps_set (i := 8) sc_asked.nd rfl (Or.inl rfl) (pe_callS (ok_made T) (hr.mono (by decide)) rfl T.g_made T.F_made.kp T.b_made (fun σ => passAt tk σ) (pa_cons (pv 0) (pa_cons (pv 1) (pa_cons (pv 2) pa_nil))))))) (fun a oe cls d pn hz hf => (pss_cons (ps_if (PW.pt (pw_or (pt_cmpR (op_eqDK K hr.units) (pv 4) (pe_lst pa_nil) (nomark _)) (pw_or (pt_not (pt_val (pe_callB (call_isX hz hf) (by rfl) T.n_isinstance (by decide +kernel) (pa_cons (pv 9) (pa_cons (pe_glob (v := .ref A.c_Unknown) rfl T.g_Unknown rfl) pa_nil))) (by intro _; rfl))) (pw_or1 (pt_val (pe_callB (call_isX hz hf) (by rfl) T.n_isinstance (by decide +kernel) (pa_cons (pv 9) (pa_cons (pe_glob (v := .ref A.c_BadAmounts) rfl T.g_BadAmounts rfl) pa_nil))) (by intro _; rfl)))))) (pss_one (ps_ret pe_bl)) pss_nil)
        (pss_one (ps_ret (pe_and (pe_callB (call_isX hz hf) (by rfl) T.n_isinstance (by decide +kernel) (pa_cons (pv 9) (pa_cons (pe_bltn (v := .ty "ValueError") (by rfl) T.n_ValueError (by decide +kernel) rfl) pa_nil))) (pe_one (pe_cmpR op_eq (pe_xf T.xf_Unknown T.x_Unknown.noS hz hf (pv 9)) (pe_ix (ix_listK K) (pv 4) pe_int (fun _ _ => rfl)) (nomark _)))))))))
        (pss_cons (ps_setLc (i := 5) (own := [("_law_name", 6)]) (g := gName 6) (tt := tYes) rfl sc_asked.nd rfl rfl (sw_true rfl rfl rfl (by decide +kernel)) (pi_listK K (pv 0)) (blkOk_by (N := ["_law_kinds", "_law_given", "_law_way", "_law_words", "_law_strange", "_law_numbers", "_law_name", "_law_number_here", "_law_made_here", "e", "_law_word"]) (sc := defScope s_asked) (by decide +kernel)) (fun _ _ _ _ _ => (pg_name (i := 6) sc_asked.nd rfl (Or.inl rfl))) (fun _ _ _ _ _ => pts_nil) (fun _ _ _ _ _ => pe_int))
        (pss_cons (ps_for PassesOwn.never rfl (pi_listK K (pe_ix (ix_listK K) (pv 8) pe_int (fun _ _ => rfl))) (pg_tup rfl (pgs_cons (pg_name (i := 6) sc_asked.nd rfl (Or.inl rfl)) (pgs_cons (pg_name (i := 7) sc_asked.nd rfl (Or.inl rfl)) pgs_nil)))
        (pss_cons (ps_if (pt_cmpR (op_notIn_seqK K) (pv 6) (pv 0) rfl) (pss_one (ps_ret pe_bl)) pss_nil)
        (pss_one (ps_asg (pv 7) (pg_sub (pv 5) (pe_bm PySem.F.plainAttrs_list PySem.F.slot_list_index PySem.F.type_list_index mt_index (pv 0) (pa_cons (pv 6) pa_nil)) set_list)))))
        (pss_one (ps_ret (pe_and (pe_cmpR (op_eqDK K hr.units) (pv 4) (pe_lst pa_nil) (nomark _)) (pe_one (pe_call (ok_is T) (hr.mono (by decide)) rfl T.g_is T.F_is.kp T.b_is .nil pass0 (pa_cons (pe_ix (ix_listK K) (pv 8) pe_int (fun _ _ => rfl)) (pa_cons (pv 5) pa_nil)))))))))))))), ?_⟩
    walk_at "gb go"
    refine (fun hLa => ⟨⟨(kwT w).map V.str, SqL.of hLa⟩, ?_⟩) ?_
    · rcases w with _ | _ | _ | _ | _ | _ | _ | _ | _ | _ | w
      all_goals first | (exfalso; omega) | walk_at "gb hp"
    walk_at "gb go"
    rename_i D hD
    have hD0 : H D = none := Same.free (H := H) (by walk_at "gb same") hD
    have hne : _ ≠ D := ne_of_none hLa hD
    refine lc_list (K := K) (xs := (kwT w).map V.str) (fun i Hq => Same H Hq ∧ Hq _ = some (.lst ((kwT w).map V.str)) ∧ Hq D = some (.lst ((strg w ws i).map V.str))) ⟨by walk_at "gb same", upd_fr hLa hD, upd_same⟩ (fun i Hq hi h => SqL.of h.2.1) ?_ ?_
    · rintro i v Hq hv ⟨s', hA, hD'⟩
      rw [List.getElem?_map] at hv
      cases hv1 : (kwT w)[i]? with
      | none => rw [hv1] at hv; cases hv
      | some nm =>
        rw [hv1] at hv
        cases hv
        have hsz : ((strg w ws i).map V.str).length < sizeLine := by rw [List.length_map, sizeLine_eq]; have := strg_len w ws i; omega
        clear hLa hD
        walk_at "gb go"
        · rw [strg_in hv1 (by assumption)]
          exact hD'
        · rw [upd_same, strg_out hv1 (by assumption), List.map_append]
          rfl
    · rintro HD ⟨sD, _, hDD⟩
      clear hLa hD
      rw [strg_all] at hDD
      have hok : ∀ s ∈ (kwT w).filter (fun s => decide (s ∉ ws)), PyData.strOk s = true := fun s hs => kwT_ok w s (List.mem_filter.mp hs).1
      walk_at "gb go"
      refine ⟨fun hin r l1 a1 H1 s1 hr ht1 ha1 => ?_, fun i p h1 h2 h3 e H1 s1 he => ?_⟩
      · have hs0 := strg_none (x := x) (y := y) (z := z) hin
        rw [hs0] at hDD
        have sA := sD.trans s1
        have hl1 := sA _ _ hl
        walk_at "gb go"
        rename_i E2 hE
        refine lc_list (K := K) (a := l) (xs := ws.map V.str) (fun i Hq => Same H1 Hq ∧ Hq E2 = some (.lst (((ws.map fun _ => (0 : Int)).map V.int).take i))) ⟨same_new hE, upd_same⟩ (fun i Hq hi h => SqL.of (h.1 _ _ hl1)) ?_ ?_
        · rintro i v Hq hv ⟨s', hE'⟩
          rw [List.getElem?_map] at hv
          cases hv1 : ws[i]? with
          | none => rw [hv1] at hv; cases hv
          | some nm =>
            rw [hv1] at hv
            cases hv
            walk_at "gb go"
            exact lc_end (by rw [List.getElem?_map, List.getElem?_map, hv1]; rfl)
        · rintro H2 ⟨s2, hE2⟩
          rw [take_all (by simp)] at hE2
          have hr2 := s2 _ _ hr
          obtain ⟨ts, q1, q2, q3⟩ := ht1
          have q1' := s2 _ _ q1
          walk_at "gb go"
          refine for_list (K := K) (a := l1) (xs := ts.map V.ref) (fun i σ Hq => ∃ v3 v6 v7 v9 v10, σ = [some (.ref l), some (.ref g), some (.int (0 + (w : Int))), v3, some (.ref D), some (.ref E2), v6, v7, some (.ref r), v9, v10] ∧ Same H1 Hq ∧ Hq E2 = some (.lst ((ws.map (kvGet ((kvT w x y z).take i))).map V.int))) ⟨_, _, _, _, _, rfl, s2, hE2⟩ (fun i σ Hq hi h => by obtain ⟨_, _, _, _, _, _, hs, _⟩ := h; exact SqL.of (hs _ _ q1)) ?_ ?_
          · rintro i v σ Hq hv ⟨v3, v6, v7, v9, v10, rfl, s', hE'⟩
            rw [List.getElem?_map] at hv
            cases hv1 : ts[i]? with
            | none => rw [hv1] at hv; cases hv
            | some t =>
              rw [hv1] at hv
              cases hv
              have hit := (List.getElem?_eq_some_iff.mp hv1).1
              obtain ⟨p, hp⟩ : ∃ p, (kvT w x y z)[i]? = some p := ⟨_, List.getElem?_eq_getElem (by omega)⟩
              have htt := s' _ _ (q3 i t p hv1 hp)
              have hmem := hin p (List.mem_of_getElem? hp)
              obtain ⟨j, hj⟩ := List.mem_iff_getElem?.mp hmem
              have lj := (List.getElem?_eq_some_iff.mp hj).1
              have hj' : (ws.map V.str)[j]? = some (V.str p.1) := by rw [List.getElem?_map, hj]; rfl
              have heq : eqV (V.str p.1) (V.str p.1) = true := by simp [eqV]
              have hfirst : ∀ (m : Nat) (z' : V), m < j → (ws.map V.str)[m]? = some z' → eqV z' (V.str p.1) = false := by
                intro m z' hm hz
                rw [List.getElem?_map] at hz
                cases hw' : ws[m]? with
                | none => rw [hw'] at hz; cases hz
                | some n =>
                  rw [hw'] at hz
                  cases hz
                  have : n ≠ p.1 := fun e => by
                    subst e
                    have := (List.getElem?_inj (List.getElem?_eq_some_iff.mp hw').1 hnd).mp (hw'.trans hj.symm)
                    omega
                  simp [eqV]
                  exact this
              have hix : ixN ((ws.map (kvGet ((kvT w x y z).take i))).map V.int).length ((j : Nat) : Int) = some j := by
                rw [List.length_map, List.length_map]
                unfold ixN
                simp
                omega
              have hstep := set_step hnd (kv_nd w x y z) hp hj
              walk_at "gb go"
              · rw [upd_same, hstep]
          · rintro σ Hq ⟨v3, v6, v7, v9, v10, rfl, s', hE'⟩
            have hall : (kvT w x y z).take (ts.map V.ref).length = kvT w x y z := List.take_of_length_le (by rw [List.length_map]; omega)
            rw [hall] at hE'
            have hr' := s' _ _ hr
            have ha1' := ha1.mono s'
            have hfw : Few (ws.map (kvGet (kvT w x y z))) := ⟨by rw [List.length_map]; exact n1, by rw [List.length_map]; exact n3⟩
            have hDq : Hq D = some (.lst []) := s' _ _ (s1 _ _ hDD)
            clear hDD
            walk_at "gb go"
            exact k _ (by walk_at "gb same")
      · obtain ⟨rs, hrs⟩ := strg_first h1 h2 h3
        rw [hrs] at hDD hok
        refine ⟨true, T.xm_Unknown, fun _ ex hex => ?_, fun q => nomatch q⟩
        walk_at "gb go"
        rw [decide_eq_true rfl]
        exact k _ (by walk_at "gb same")
theorem ok_law (T : Txt K mg A) : FnOk P w K mg base CX0 12 A.f_law A.d_law ["_law_script"] (spLaw K) := by
  refine T.F_law.ok sc_law (fun vs H Q E h => ?_) (fun cdv Ar outer s H vs Q E hr h => ?_)
  · obtain ⟨sc, ns, rfl, _⟩ := h
    rfl
  · obtain ⟨sc, ns, rfl, hS, hl, hb, k⟩ := h
    refine ⟨_, (pss_cons (ps_set (i := 1) sc_law.nd rfl (Or.inr rfl) (pe_call (ok_pool T) (hr.mono (by decide)) rfl T.g_pool T.F_pool.kp T.b_pool .nil pass0 (pa_cons (pv 0) pa_nil)))
        (pss_cons (ps_setLc (i := 2) (own := [("_law_k", 17)]) (g := gName 17) (tt := tYes) rfl sc_law.nd rfl rfl (sw_true rfl rfl rfl (by decide +kernel)) (pi_range1 rfl T.n_range (pa_cons (pe_op op_add pe_int (pe_call (ok_draw T) (hr.mono (by decide)) rfl T.g_draw T.F_draw.kp T.b_draw .nil pass0 (pa_cons (pv 1) (pa_cons pe_int pa_nil)))) pa_nil)) (blkOk_by (N := ["_law_script", "_law_pool_here", "_law_a", "_law_b", "_law_c", "_law_d", "_law_nothing", "_law_times", "_law_kinds", "_law_given", "_law_one", "_law_other", "_law_third", "_law_fourth", "_law_empty", "_law_turn", "_law_way", "_law_k", "_law_number_here"]) (sc := defScope s_law) (by decide +kernel)) (fun _ _ _ _ _ => (pg_name (i := 17) sc_law.nd rfl (Or.inl rfl))) (fun _ _ _ _ _ => pts_nil) (fun _ _ _ _ _ => (pe_call (ok_number T) (hr.mono (by decide)) rfl T.g_number T.F_number.kp T.b_number .nil pass0 (pa_cons (pv 1) (pa_cons pe_int pa_nil)))))
        (pss_cons (ps_setLc (i := 3) (own := [("_law_number_here", 18)]) (g := gName 18) (tt := tYes) rfl sc_law.nd rfl rfl (sw_true rfl rfl rfl (by decide +kernel)) (pi_listK K (pv 2)) (blkOk_by (N := ["_law_script", "_law_pool_here", "_law_a", "_law_b", "_law_c", "_law_d", "_law_nothing", "_law_times", "_law_kinds", "_law_given", "_law_one", "_law_other", "_law_third", "_law_fourth", "_law_empty", "_law_turn", "_law_way", "_law_k", "_law_number_here"]) (sc := defScope s_law) (by decide +kernel)) (fun _ _ _ _ _ => (pg_name (i := 18) sc_law.nd rfl (Or.inl rfl))) (fun _ _ _ _ _ => pts_nil) (fun _ _ _ _ _ => (pe_call (ok_part T) (hr.mono (by decide)) rfl T.g_part T.F_part.kp T.b_part .nil pass0 (pa_cons (pv 1) (pa_cons (pv 18) pa_nil)))))
        (pss_cons (ps_setLc (i := 4) (own := [("_law_number_here", 18)]) (g := gName 18) (tt := tYes) rfl sc_law.nd rfl rfl (sw_true rfl rfl rfl (by decide +kernel)) (pi_listK K (pv 2)) (blkOk_by (N := ["_law_script", "_law_pool_here", "_law_a", "_law_b", "_law_c", "_law_d", "_law_nothing", "_law_times", "_law_kinds", "_law_given", "_law_one", "_law_other", "_law_third", "_law_fourth", "_law_empty", "_law_turn", "_law_way", "_law_k", "_law_number_here"]) (sc := defScope s_law) (by decide +kernel)) (fun _ _ _ _ _ => (pg_name (i := 18) sc_law.nd rfl (Or.inl rfl))) (fun _ _ _ _ _ => pts_nil) (fun _ _ _ _ _ => (pe_call (ok_signed T) (hr.mono (by decide)) rfl T.g_signed T.F_signed.kp T.b_signed .nil pass0 (pa_cons (pv 1) (pa_cons pe_int pa_nil)))))
        (pss_cons (ps_setLc (i := 5) (own := [("_law_number_here", 18)]) (g := gName 18) (tt := tYes) rfl sc_law.nd rfl rfl (sw_true rfl rfl rfl (by decide +kernel)) (pi_listK K (pv 2)) (blkOk_by (N := ["_law_script", "_law_pool_here", "_law_a", "_law_b", "_law_c", "_law_d", "_law_nothing", "_law_times", "_law_kinds", "_law_given", "_law_one", "_law_other", "_law_third", "_law_fourth", "_law_empty", "_law_turn", "_law_way", "_law_k", "_law_number_here"]) (sc := defScope s_law) (by decide +kernel)) (fun _ _ _ _ _ => (pg_name (i := 18) sc_law.nd rfl (Or.inl rfl))) (fun _ _ _ _ _ => pts_nil) (fun _ _ _ _ _ => (pe_call (ok_signed T) (hr.mono (by decide)) rfl T.g_signed T.F_signed.kp T.b_signed .nil pass0 (pa_cons (pv 1) (pa_cons pe_int pa_nil)))))
        (pss_cons (ps_setLc (i := 6) (own := [("_law_number_here", 18)]) (g := gName 18) (tt := tYes) rfl sc_law.nd rfl rfl (sw_true rfl rfl rfl (by decide +kernel)) (pi_listK K (pv 2)) (blkOk_by (N := ["_law_script", "_law_pool_here", "_law_a", "_law_b", "_law_c", "_law_d", "_law_nothing", "_law_times", "_law_kinds", "_law_given", "_law_one", "_law_other", "_law_third", "_law_fourth", "_law_empty", "_law_turn", "_law_way", "_law_k", "_law_number_here"]) (sc := defScope s_law) (by decide +kernel)) (fun _ _ _ _ _ => (pg_name (i := 18) sc_law.nd rfl (Or.inl rfl))) (fun _ _ _ _ _ => pts_nil) (fun _ _ _ _ _ => pe_int))
        (pss_cons (ps_set (i := 7) sc_law.nd rfl (Or.inl rfl) (pe_call (ok_signed T) (hr.mono (by decide)) rfl T.g_signed T.F_signed.kp T.b_signed .nil pass0 (pa_cons (pv 1) (pa_cons pe_int pa_nil))))
        (pss_cons (ps_set (i := 8) sc_law.nd rfl (Or.inl rfl) (pe_call (ok_names T) (hr.mono (by decide)) rfl T.g_names T.F_names.kp T.b_names .nil pass0 (pa_cons (pv 1) pa_nil)))
        (pss_cons (ps_setLc (i := 9) (own := [("_law_k", 17)]) (g := gName 17) (tt := tYes) rfl sc_law.nd rfl rfl (sw_true rfl rfl rfl (by decide +kernel)) (pi_range1 rfl T.n_range (pa_cons pe_int pa_nil)) (blkOk_by (N := ["_law_script", "_law_pool_here", "_law_a", "_law_b", "_law_c", "_law_d", "_law_nothing", "_law_times", "_law_kinds", "_law_given", "_law_one", "_law_other", "_law_third", "_law_fourth", "_law_empty", "_law_turn", "_law_way", "_law_k", "_law_number_here"]) (sc := defScope s_law) (by decide +kernel)) (fun _ _ _ _ _ => (pg_name (i := 17) sc_law.nd rfl (Or.inl rfl))) (fun _ _ _ _ _ => pts_nil) (fun _ _ _ _ _ => (pe_call (ok_signed T) (hr.mono (by decide)) rfl T.g_signed T.F_signed.kp T.b_signed .nil pass0 (pa_cons (pv 1) (pa_cons pe_int pa_nil)))))
        (pss_cons (ps_set (i := 10) sc_law.nd rfl (Or.inl rfl) (pe_call (ok_row T) (hr.mono (by decide)) rfl T.g_row T.F_row.kp T.b_row .nil pass0 (pa_cons (pv 2) pa_nil)))
        (pss_cons (ps_set (i := 11) sc_law.nd rfl (Or.inl rfl) (pe_call (ok_row T) (hr.mono (by decide)) rfl T.g_row T.F_row.kp T.b_row .nil pass0 (pa_cons (pv 3) pa_nil)))
        (pss_cons (ps_set (i := 12) sc_law.nd rfl (Or.inl rfl) (pe_call (ok_row T) (hr.mono (by decide)) rfl T.g_row T.F_row.kp T.b_row .nil pass0 (pa_cons (pv 4) pa_nil)))
        (pss_cons (ps_set (i := 13) sc_law.nd rfl (Or.inl rfl) (pe_call (ok_row T) (hr.mono (by decide)) rfl T.g_row T.F_row.kp T.b_row .nil pass0 (pa_cons (pv 5) pa_nil)))
        (pss_cons (ps_set (i := 14) sc_law.nd rfl (Or.inl rfl) (pe_call (ok_row T) (hr.mono (by decide)) rfl T.g_row T.F_row.kp T.b_row .nil pass0 (pa_cons (pv 6) pa_nil)))
        (pss_cons (ps_for PassesOwn.never rfl (pi_range1 rfl T.n_range (pa_cons pe_int pa_nil)) (pg_name (i := 15) sc_law.nd rfl (Or.inl rfl))
        (pss_cons (ps_if (PW.pt (pw_and (pt_cmpR (op_neDK K hr.units) (pv 3) (pv 6) (nomark _)) (pw_and1 (pt_not (pt_val (pe_call (ok_divided T) (hr.mono (by decide)) rfl T.g_divided T.F_divided.kp T.b_divided .nil pass0 (pa_cons (pv 10) (pa_cons (pv 2) (pa_cons (pv 11) (pa_cons (pv 3) pa_nil))))) (by intro _; rfl)))))) (pss_one (ps_ret pe_bl)) pss_nil)
        (pss_cons (ps_if (PW.pt (pw_and (pt_cmpR (op_neDK K hr.units) (pv 2) (pv 6) (nomark _)) (pw_and1 (pt_not (pt_val (pe_call (ok_divided T) (hr.mono (by decide)) rfl T.g_divided T.F_divided.kp T.b_divided .nil pass0 (pa_cons (pv 10) (pa_cons (pv 2) (pa_cons (pv 10) (pa_cons (pv 2) pa_nil))))) (by intro _; rfl)))))) (pss_one (ps_ret pe_bl)) pss_nil)
        (pss_cons (ps_if (PW.pt (pw_and (pt_cmpR (op_neDK K hr.units) (pv 2) (pv 6) (nomark _)) (pw_and1 (pt_not (pt_val (pe_call (ok_divided T) (hr.mono (by decide)) rfl T.g_divided T.F_divided.kp T.b_divided .nil pass0 (pa_cons (pv 14) (pa_cons (pv 6) (pa_cons (pv 10) (pa_cons (pv 2) pa_nil))))) (by intro _; rfl)))))) (pss_one (ps_ret pe_bl)) pss_nil)
        (pss_cons (ps_for PassesOwn.never rfl (pi_range1 rfl T.n_range (pa_cons pe_int pa_nil)) (pg_name (i := 16) sc_law.nd rfl (Or.inl rfl))
        (pss_one (ps_if (pt_not (pt_val (pe_call (ok_refused T) (hr.mono (by decide)) rfl T.g_refused T.F_refused.kp T.b_refused .nil pass0 (pa_cons (pv 10) (pa_cons (pv 14) (pa_cons (pv 6) (pa_cons (pv 16) pa_nil))))) (by intro _; rfl))) (pss_one (ps_ret pe_bl)) pss_nil)))
        (pss_cons (ps_if (PW.pt (pw_or (pt_not (pt_val (pe_call (ok_sums T) (hr.mono (by decide)) rfl T.g_sums T.F_sums.kp T.b_sums .nil pass0 (pa_cons (pv 12) (pa_cons (pv 4) (pa_cons (pv 13) (pa_cons (pv 5) (pa_cons (pv 7) pa_nil)))))) (by intro _; rfl))) (pw_or1 (pt_not (pt_val (pe_call (ok_sums T) (hr.mono (by decide)) rfl T.g_sums T.F_sums.kp T.b_sums .nil pass0 (pa_cons (pv 10) (pa_cons (pv 2) (pa_cons (pv 10) (pa_cons (pv 2) (pa_cons (pe_call (ok_draw T) (hr.mono (by decide)) rfl T.g_draw T.F_draw.kp T.b_draw .nil pass0 (pa_cons (pv 1) (pa_cons pe_int pa_nil))) pa_nil)))))) (by intro _; rfl)))))) (pss_one (ps_ret pe_bl)) pss_nil)
        (pss_one (ps_for PassesOwn.never rfl (pi_range1 rfl T.n_range (pa_cons pe_int pa_nil)) (pg_name (i := 16) sc_law.nd rfl (Or.inl rfl))
        (pss_one (ps_if (pt_not (pt_val (pe_call (ok_asked T) (hr.mono (by decide)) rfl T.g_asked T.F_asked.kp T.b_asked .nil pass0 (pa_cons (pv 8) (pa_cons (pv 9) (pa_cons (pv 16) pa_nil)))) (by intro _; rfl))) (pss_one (ps_ret pe_bl)) pss_nil))))))))))
        (pss_cons (ps_if (PW.pt (pw_or (pt_not (pt_val (pe_call (ok_is T) (hr.mono (by decide)) rfl T.g_is T.F_is.kp T.b_is .nil pass0 (pa_cons (pv 10) (pa_cons (pv 2) pa_nil))) (by intro _; rfl))) (pw_or (pt_not (pt_val (pe_call (ok_is T) (hr.mono (by decide)) rfl T.g_is T.F_is.kp T.b_is .nil pass0 (pa_cons (pv 11) (pa_cons (pv 3) pa_nil))) (by intro _; rfl))) (pw_or1 (pt_not (pt_val (pe_call (ok_is T) (hr.mono (by decide)) rfl T.g_is T.F_is.kp T.b_is .nil pass0 (pa_cons (pv 12) (pa_cons (pv 4) pa_nil))) (by intro _; rfl))))))) (pss_one (ps_ret pe_bl)) pss_nil)
        (pss_one (ps_ret (pe_and (pe_call (ok_is T) (hr.mono (by decide)) rfl T.g_is T.F_is.kp T.b_is .nil pass0 (pa_cons (pv 13) (pa_cons (pv 5) pa_nil))) (pe_one (pe_call (ok_is T) (hr.mono (by decide)) rfl T.g_is T.F_is.kp T.b_is .nil pass0 (pa_cons (pv 14) (pa_cons (pv 6) pa_nil))))))))))))))))))))))), ?_⟩
    walk_at "gb go"
    rename_i p Hp0 hp0 P1 sp r3 H2 r30 r31 P s2 a hna
    have npa : a ≠ p := (P.ne hna).symm
    refine lc_range (lo := 0) (n := (1 + r3).toNat) (fun i Hq => ∃ zs : List Int, Hq a = some (.lst (zs.map V.int)) ∧ zs.length = i ∧ (∀ z ∈ zs, (0 ≤ z ∧ Bits 100 z)) ∧ PoolAt Hq p ∧ SameBut p H2 Hq) ⟨[], upd_same, rfl, (by intro z hz; cases hz), P.mono (same_new hna), (same_new hna).but⟩ ?_ ?_
    · rintro i Hq hi ⟨zs, hD', hl', hz', P', sb⟩
      have hi3 : i < 3 := by omega
      walk_at "gb go"
      rename_i r Hr r0 r1 P4 s4
      refine ⟨(by rw [upd_same, show zs.map V.int ++ [V.int r] = (zs ++ [r]).map V.int from by rw [List.map_append]; rfl]; first | done | exact rfl), (by rw [List.length_append]; show zs.length + 1 = i + 1; omega), ?_, pool_put P4 npa, put_but (sb.trans s4) hna⟩
      intro z hz
      rcases List.mem_append.mp hz with h | h
      · exact hz' z h
      · rw [List.mem_singleton.mp h]
        exact ⟨r0, (bits_of (g := 10) r0 r1)⟩
    rintro Ha ⟨xa, ha, hla, pa, P2, sba⟩
    clear P
    have P := P2
    clear P2
    have ga : Few xa := by unfold Few; omega
    have ga3 := ga.2
    walk_at "gb go"
    rename_i b hnb
    have npb : b ≠ p := (P.ne hnb).symm
    refine lc_list (K := K) (a := a) (xs := xa.map V.int) (fun i Hq => ∃ zs : List Int, Hq b = some (.lst (zs.map V.int)) ∧ zs.length = i ∧ (∀ z ∈ zs, (0 ≤ z ∧ Bits 100 z)) ∧ PoolAt Hq p ∧ SameBut p Ha Hq) ⟨[], upd_same, rfl, (by intro z hz; cases hz), P.mono (same_new hnb), (same_new hnb).but⟩ (fun i Hq _ ⟨_, _, _, _, _, sb⟩ => SqL.of (sb _ _ npa (by walk_at "gb hp"))) ?_ ?_
    · rintro i v Hq hv ⟨zs, hD', hl', hz', P', sb⟩
      obtain ⟨z0, hz0, rfl⟩ := getMap hv
      have hi := (List.getElem?_eq_some_iff.mp hz0).1
      have hi3 : i < 3 := by have := ga.2; omega
      have hq0 := pa z0 (List.mem_of_getElem? hz0)
      have hq1 := hq0.1
      have hq2 := hq0.2
      walk_at "gb go"
      rename_i r Hr r0 r1 P4 s4
      refine ⟨(by rw [upd_same, show zs.map V.int ++ [V.int r] = (zs ++ [r]).map V.int from by rw [List.map_append]; rfl]; first | done | exact rfl), (by rw [List.length_append]; show zs.length + 1 = i + 1; omega), ?_, pool_put P4 npb, put_but (sb.trans s4) hnb⟩
      intro z hz
      rcases List.mem_append.mp hz with h | h
      · exact hz' z h
      · rw [List.mem_singleton.mp h]
        exact ⟨r0, r1⟩
    rintro Hb ⟨xb, hb, hlb, pb, P2, sbb⟩
    rw [List.length_map] at hlb
    clear P
    have P := P2
    clear P2
    walk_at "gb go"
    rename_i c hnc
    have npc : c ≠ p := (P.ne hnc).symm
    refine lc_list (K := K) (a := a) (xs := xa.map V.int) (fun i Hq => ∃ zs : List Int, Hq c = some (.lst (zs.map V.int)) ∧ zs.length = i ∧ (∀ z ∈ zs, Bits 100 z) ∧ PoolAt Hq p ∧ SameBut p Hb Hq) ⟨[], upd_same, rfl, (by intro z hz; cases hz), P.mono (same_new hnc), (same_new hnc).but⟩ (fun i Hq _ ⟨_, _, _, _, _, sb⟩ => SqL.of (sb _ _ npa (by walk_at "gb hp"))) ?_ ?_
    · rintro i v Hq hv ⟨zs, hD', hl', hz', P', sb⟩
      obtain ⟨z0, hz0, rfl⟩ := getMap hv
      have hi := (List.getElem?_eq_some_iff.mp hz0).1
      have hi3 : i < 3 := by have := ga.2; omega
      have hq0 := pa z0 (List.mem_of_getElem? hz0)
      have hq1 := hq0.1
      have hq2 := hq0.2
      walk_at "gb go"
      rename_i r Hr r0 P4 s4
      refine ⟨(by rw [upd_same, show zs.map V.int ++ [V.int r] = (zs ++ [r]).map V.int from by rw [List.map_append]; rfl]; first | done | exact rfl), (by rw [List.length_append]; show zs.length + 1 = i + 1; omega), ?_, pool_put P4 npc, put_but (sb.trans s4) hnc⟩
      intro z hz
      rcases List.mem_append.mp hz with h | h
      · exact hz' z h
      · rw [List.mem_singleton.mp h]
        exact r0
    rintro Hc ⟨xc, hc, hlc, pc, P2, sbc⟩
    rw [List.length_map] at hlc
    clear P
    have P := P2
    clear P2
    walk_at "gb go"
    rename_i d hnd
    have npd : d ≠ p := (P.ne hnd).symm
    refine lc_list (K := K) (a := a) (xs := xa.map V.int) (fun i Hq => ∃ zs : List Int, Hq d = some (.lst (zs.map V.int)) ∧ zs.length = i ∧ (∀ z ∈ zs, Bits 100 z) ∧ PoolAt Hq p ∧ SameBut p Hc Hq) ⟨[], upd_same, rfl, (by intro z hz; cases hz), P.mono (same_new hnd), (same_new hnd).but⟩ (fun i Hq _ ⟨_, _, _, _, _, sb⟩ => SqL.of (sb _ _ npa (by walk_at "gb hp"))) ?_ ?_
    · rintro i v Hq hv ⟨zs, hD', hl', hz', P', sb⟩
      obtain ⟨z0, hz0, rfl⟩ := getMap hv
      have hi := (List.getElem?_eq_some_iff.mp hz0).1
      have hi3 : i < 3 := by have := ga.2; omega
      have hq0 := pa z0 (List.mem_of_getElem? hz0)
      have hq1 := hq0.1
      have hq2 := hq0.2
      walk_at "gb go"
      rename_i r Hr r0 P4 s4
      refine ⟨(by rw [upd_same, show zs.map V.int ++ [V.int r] = (zs ++ [r]).map V.int from by rw [List.map_append]; rfl]; first | done | exact rfl), (by rw [List.length_append]; show zs.length + 1 = i + 1; omega), ?_, pool_put P4 npd, put_but (sb.trans s4) hnd⟩
      intro z hz
      rcases List.mem_append.mp hz with h | h
      · exact hz' z h
      · rw [List.mem_singleton.mp h]
        exact r0
    rintro Hd ⟨xd, hd, hld, pd, P2, sbd⟩
    rw [List.length_map] at hld
    clear P
    have P := P2
    clear P2
    walk_at "gb go"
    rename_i D hD
    refine lc_list (K := K) (a := a) (xs := xa.map V.int) (fun i Hq => Same Hd Hq ∧ Hq D = some (.lst (((xa.map (fun _ => (0 : Int))).map V.int).take i))) ⟨same_new hD, upd_same⟩ (fun i Hq hi h => SqL.of (h.1 _ _ (by walk_at "gb hp"))) ?_ ?_
    · rintro i x H' hi ⟨s', hD'⟩
      obtain ⟨i1, g1, rfl⟩ := getMap hi
      walk_at "gb go"
      exact lc_end (get_mm g1 (rfl))
    rintro He ⟨sHe, hHe⟩
    rw [take_all (by simp)] at hHe
    have npD : D ≠ p := (P.ne hD).symm
    replace P := P.mono sHe
    walk_at "gb go"
    rename_i tm Ht tb Pt st kinds ws Hk k1 k3 knd knp kfr hk P sk g hng
    have npg : g ≠ p := (P.ne hng).symm
    refine lc_range (lo := 0) (n := ((3 : Int)).toNat) (fun i Hq => ∃ zs : List Int, Hq g = some (.lst (zs.map V.int)) ∧ zs.length = i ∧ (∀ z ∈ zs, Bits 100 z) ∧ PoolAt Hq p ∧ SameBut p Hk Hq) ⟨[], upd_same, rfl, (by intro z hz; cases hz), P.mono (same_new hng), (same_new hng).but⟩ ?_ ?_
    · rintro i Hq hi ⟨zs, hD', hl', hz', P', sb⟩
      have hi3 : i < 3 := by omega
      walk_at "gb go"
      rename_i r Hr r0 P4 s4
      refine ⟨(by rw [upd_same, show zs.map V.int ++ [V.int r] = (zs ++ [r]).map V.int from by rw [List.map_append]; rfl]; first | done | exact rfl), (by rw [List.length_append]; show zs.length + 1 = i + 1; omega), ?_, pool_put P4 npg, put_but (sb.trans s4) hng⟩
      intro z hz
      rcases List.mem_append.mp hz with h | h
      · exact hz' z h
      · rw [List.mem_singleton.mp h]
        exact r0
    rintro Hg ⟨xg, hg, hlg, pg, P2, sbg⟩
    clear P
    have P := P2
    clear P2
    
    walk_at "gb go"
    rename_i x1 H11 q1 f1 x2 H12 q2 f2 x3 H13 q3 f3 x4 H14 q4 f4 x5 HA q5 f5
    obtain ⟨gx, gy, gz, rfl⟩ : ∃ x y z, xg = [x, y, z] := by
      match xg, hlg with
      | [x, y, z], _ => exact ⟨x, y, z, rfl⟩
    have haA : HA a = some (.lst (xa.map V.int)) := by walk_at "gb hp"
    have hbA : HA b = some (.lst (xb.map V.int)) := by walk_at "gb hp"
    have hcA : HA c = some (.lst (xc.map V.int)) := by walk_at "gb hp"
    have hdA : HA d = some (.lst (xd.map V.int)) := by walk_at "gb hp"
    have hDA : HA D = some (.lst ((xa.map fun _ => (0 : Int)).map V.int)) := by walk_at "gb hp"
    have hkA : HA kinds = some (.lst (ws.map V.str)) := by walk_at "gb hp"
    have hgA : HA g = some (.lst ([gx, gy, gz].map V.int)) := by walk_at "gb hp"
    have PA : PoolAt HA p := P.mono ((((q1.trans q2).trans q3).trans q4).trans q5)
    have y1 := f1.mono (((q2.trans q3).trans q4).trans q5)
    have y2 := f2.mono ((q3.trans q4).trans q5)
    have y3 := f3.mono (q4.trans q5)
    have y4 := f4.mono q5
    clear P sbg hng hg hk sk kfr Pt st hHe sHe hD sbd hnd hd sbc hnc hc sbb hnb hb sba hna ha s2 sp hp0 P1 f1 f2 f3 f4 q1 q2 q3 q4 q5
    have gb_ : Few xb := by unfold Few at *; omega
    have gc_ : Few xc := by unfold Few at *; omega
    have gd_ : Few xd := by unfold Few at *; omega
    have gn_ : Few (xa.map fun _ => (0 : Int)) := ga.map
    have la_ : BitsL 100 xa := fun z hz => (pa z hz).2
    have lb_ : BitsL 100 xb := fun z hz => (pb z hz).2
    have lc_ : BitsL 100 xc := pc
    have ld_ : BitsL 100 xd := pd
    have oa_ : ∀ x ∈ xa, 0 ≤ x := fun z hz => (pa z hz).1
    have ob_ : ∀ x ∈ xb, 0 ≤ x := fun z hz => (pb z hz).1
    have zn_ : ∀ x ∈ (xa.map fun _ => (0 : Int)), x = 0 := by intro x hx; obtain ⟨_, _, rfl⟩ := List.mem_map.mp hx; rfl
    have on_ : ∀ x ∈ (xa.map fun _ => (0 : Int)), 0 ≤ x := fun x hx => by rw [zn_ x hx]; decide
    have ln_ : BitsL 100 (xa.map fun _ => (0 : Int)) := fun x hx => by rw [zn_ x hx]; unfold Bits; decide
    have en_ : (xa.map fun _ => (0 : Int)).length = xa.length := List.length_map _
    have en2_ := en_.symm
    have hlb2 := hlb.symm
    have hlc2 := hlc.symm
    have hcd : xc.length = xd.length := by omega
    have tb' : Bits 100 tm := tb
    have hrl : xa.length = xa.length := rfl
    refine for_range (lo := 0) (n := (2 : Int).toNat) (fun i σ Hq => ∃ (v1 v2 v3 v4 : Option V), σ = [some (.ref sc), some (.ref p), some (.ref a), some (.ref b), some (.ref c), some (.ref d), some (.ref D), some (.int tm), some (.ref kinds), some (.ref g), some (.ref x1), some (.ref x2), some (.ref x3), some (.ref x4), some (.ref x5), v1, v2, v3, v4] ∧ PoolAt Hq p ∧ SameBut p HA Hq) ⟨_, _, _, _, rfl, PA, SameBut.refl⟩ ?_ ?_
    · rintro i σ Hq hi ⟨v1, v2, v3, v4, rfl, P', s'⟩
      have w1 : ¬ xb = (xa.map fun _ => (0 : Int)) → ∃ y ∈ xb, y ≠ 0 := fun h => nz_of hlb h
      have w2 : ¬ xa = (xa.map fun _ => (0 : Int)) → ∃ y ∈ xa, y ≠ 0 := fun h => nz_of rfl h
      have Y1 := y1.but PA s'
      have Y2 := y2.but PA s'
      have Y3 := y3.but PA s'
      have Y4 := y4.but PA s'
      have Y5 := f5.but PA s'
      refine skip_if (fun H' => Same Hq H') (fun Q kq => ?_) (fun H1 s1 => ?_)
      · by_cases hB : xb = (xa.map fun _ => (0 : Int))
        · walk_at "gb go"
          exact kq _ (by walk_at "gb same")
        · have hz := w1 hB
          walk_at "gb go"
          exact kq _ (by walk_at "gb same")
      refine skip_if (fun H' => Same Hq H') (fun Q kq => ?_) (fun H2 s2 => ?_)
      · by_cases hB : xa = (xa.map fun _ => (0 : Int))
        · walk_at "gb go"
          exact kq _ (by walk_at "gb same")
        · have hz := w2 hB
          walk_at "gb go"
          exact kq _ (by walk_at "gb same")
      refine skip_if (fun H' => Same Hq H') (fun Q kq => ?_) (fun H3 s3 => ?_)
      · by_cases hB : xa = (xa.map fun _ => (0 : Int))
        · walk_at "gb go"
          exact kq _ (by walk_at "gb same")
        · have hz := w2 hB
          walk_at "gb go"
          exact kq _ (by walk_at "gb same")
      have P3 := P'.mono s3
      have s3' := s'.trans s3.but
      clear s1 s2 s' P' s3 Y1 Y2 Y3 Y4 Y5
      walk_at "gb go"
      refine for_range (lo := 0) (n := (2 : Int).toNat) (fun i σ Hq => ∃ (v1 v2 v3 v4 : Option V), σ = [some (.ref sc), some (.ref p), some (.ref a), some (.ref b), some (.ref c), some (.ref d), some (.ref D), some (.int tm), some (.ref kinds), some (.ref g), some (.ref x1), some (.ref x2), some (.ref x3), some (.ref x4), some (.ref x5), v1, v2, v3, v4] ∧ PoolAt Hq p ∧ SameBut p HA Hq) ⟨_, _, _, _, rfl, P3, s3'⟩ ?_ ?_
      · clear P3 s3'
        rintro i2 σ2 Hr hi2 ⟨v1, v2, v3, v4, rfl, P', s'⟩
        have Y1 := y1.but PA s'
        have Y5 := f5.but PA s'
        refine skip_last (fun H' => Same Hr H') (fun Q kq => ?_) (fun H1 s1 => ?_)
        · walk_at "gb go"
          exact kq _ (by walk_at "gb same")
        · exact ⟨_, _, _, _, rfl, P'.mono s1, s'.trans s1.but⟩
      · clear P3 s3' v1 v2 v3 v4
        rintro σ2 Hr ⟨v1, v2, v3, v4, rfl, P', s'⟩
        have Y1 := y1.but PA s'
        have Y3 := y3.but PA s'
        have Y4 := y4.but PA s'
        dsimp only
        refine skip_if (fun H' => PoolAt H' p ∧ SameBut p Hr H') (fun Q kq => ?_) (fun H1 s1 => ?_)
        · walk_at "gb go"
          exact kq _ ⟨by walk_at "gb leaf", by walk_at "gb but"⟩
        obtain ⟨P4, s4⟩ := s1
        have s4' := s'.trans s4
        clear s4 s' P' Y1 Y3 Y4
        walk_at "gb go"
        refine for_range (lo := 0) (n := (10 : Int).toNat) (fun i σ Hq => ∃ (v1 v2 v3 v4 : Option V), σ = [some (.ref sc), some (.ref p), some (.ref a), some (.ref b), some (.ref c), some (.ref d), some (.ref D), some (.int tm), some (.ref kinds), some (.ref g), some (.ref x1), some (.ref x2), some (.ref x3), some (.ref x4), some (.ref x5), v1, v2, v3, v4] ∧ PoolAt Hq p ∧ SameBut p HA Hq) ⟨_, _, _, _, rfl, P4, s4'⟩ ?_ ?_
        · clear P4 s4'
          rintro i2 σ2 Hr hi2 ⟨v1, v2, v3, v4, rfl, P', s'⟩
          have hi10 : i2 < 10 := by omega
          refine skip_last (fun H' => Same Hr H') (fun Q kq => ?_) (fun H1 s1 => ?_)
          · walk_at "gb go"
            exact kq _ (by walk_at "gb same")
          · exact ⟨_, _, _, _, rfl, P'.mono s1, s'.trans s1.but⟩
        · rintro σ2 Hr ⟨v1, v2, v3, v4, rfl, P', s'⟩
          exact ⟨_, _, _, _, rfl, P', s'⟩
    · rintro σ Hq ⟨v1, v2, v3, v4, rfl, P', s'⟩
      have Y1 := y1.but PA s'
      have Y2 := y2.but PA s'
      have Y3 := y3.but PA s'
      have Y4 := y4.but PA s'
      have Y5 := f5.but PA s'
      dsimp only
      refine skip_if (fun H' => Same Hq H') (fun Q kq => ?_) (fun H1 s1 => ?_)
      · walk_at "gb go"
        exact kq _ (by walk_at "gb same")
      walk_at "gb go"
      exact k _
end
theorem all_mk {P : Program} {w : World} {K : PySem.W.Frag} {h : Heap} {mg : Str → Option Value} {fa : Addr} (X : K.In h) (G : h.Ns mainGlobals mg) (hfa : mg "law" = some (.ref fa))
    {c_Amounts c_GangError c_BadAmounts c_BadShare c_Unknown f_GangError_init f_refuse_lengths f_Amounts_init f_Amounts_bool f_Amounts_add f_Amounts_sub f_Amounts_mul f_Amounts_rmul f_Amounts_floordiv f_Amounts_mod f_Amounts_neg f_Amounts_abs f_pool f_draw f_number f_signed f_whole f_row f_part f_Amounts_of f_is f_divided f_refused f_sums f_names f_made f_asked f_law : Addr}
    {od_GangError_init an_GangError_init : Option Addr} {sl_GangError_init : Array (Option Value)} {oc_GangError_init kV_GangError_init dc_GangError_init pm_GangError_init cd_GangError_init ct_GangError_init : Value}
    {od_refuse_lengths an_refuse_lengths : Option Addr} {sl_refuse_lengths : Array (Option Value)} {oc_refuse_lengths kV_refuse_lengths dc_refuse_lengths pm_refuse_lengths cd_refuse_lengths ct_refuse_lengths : Value}
    {od_Amounts_init an_Amounts_init : Option Addr} {sl_Amounts_init : Array (Option Value)} {oc_Amounts_init kV_Amounts_init dc_Amounts_init pm_Amounts_init cd_Amounts_init ct_Amounts_init : Value}
    {od_Amounts_bool an_Amounts_bool : Option Addr} {sl_Amounts_bool : Array (Option Value)} {oc_Amounts_bool kV_Amounts_bool dc_Amounts_bool pm_Amounts_bool cd_Amounts_bool ct_Amounts_bool : Value}
    {od_Amounts_add an_Amounts_add : Option Addr} {sl_Amounts_add : Array (Option Value)} {oc_Amounts_add kV_Amounts_add dc_Amounts_add pm_Amounts_add cd_Amounts_add ct_Amounts_add : Value}
    {od_Amounts_sub an_Amounts_sub : Option Addr} {sl_Amounts_sub : Array (Option Value)} {oc_Amounts_sub kV_Amounts_sub dc_Amounts_sub pm_Amounts_sub cd_Amounts_sub ct_Amounts_sub : Value}
    {od_Amounts_mul an_Amounts_mul : Option Addr} {sl_Amounts_mul : Array (Option Value)} {oc_Amounts_mul kV_Amounts_mul dc_Amounts_mul pm_Amounts_mul cd_Amounts_mul ct_Amounts_mul : Value}
    {od_Amounts_rmul an_Amounts_rmul : Option Addr} {sl_Amounts_rmul : Array (Option Value)} {oc_Amounts_rmul kV_Amounts_rmul dc_Amounts_rmul pm_Amounts_rmul cd_Amounts_rmul ct_Amounts_rmul : Value}
    {od_Amounts_floordiv an_Amounts_floordiv : Option Addr} {sl_Amounts_floordiv : Array (Option Value)} {oc_Amounts_floordiv kV_Amounts_floordiv dc_Amounts_floordiv pm_Amounts_floordiv cd_Amounts_floordiv ct_Amounts_floordiv : Value}
    {od_Amounts_mod an_Amounts_mod : Option Addr} {sl_Amounts_mod : Array (Option Value)} {oc_Amounts_mod kV_Amounts_mod dc_Amounts_mod pm_Amounts_mod cd_Amounts_mod ct_Amounts_mod : Value}
    {od_Amounts_neg an_Amounts_neg : Option Addr} {sl_Amounts_neg : Array (Option Value)} {oc_Amounts_neg kV_Amounts_neg dc_Amounts_neg pm_Amounts_neg cd_Amounts_neg ct_Amounts_neg : Value}
    {od_Amounts_abs an_Amounts_abs : Option Addr} {sl_Amounts_abs : Array (Option Value)} {oc_Amounts_abs kV_Amounts_abs dc_Amounts_abs pm_Amounts_abs cd_Amounts_abs ct_Amounts_abs : Value}
    {od_pool an_pool : Option Addr} {sl_pool : Array (Option Value)} {oc_pool kV_pool dc_pool pm_pool cd_pool ct_pool : Value}
    {od_draw an_draw : Option Addr} {sl_draw : Array (Option Value)} {oc_draw kV_draw dc_draw pm_draw cd_draw ct_draw : Value}
    {od_number an_number : Option Addr} {sl_number : Array (Option Value)} {oc_number kV_number dc_number pm_number cd_number ct_number : Value}
    {od_signed an_signed : Option Addr} {sl_signed : Array (Option Value)} {oc_signed kV_signed dc_signed pm_signed cd_signed ct_signed : Value}
    {od_whole an_whole : Option Addr} {sl_whole : Array (Option Value)} {oc_whole kV_whole dc_whole pm_whole cd_whole ct_whole : Value}
    {od_row an_row : Option Addr} {sl_row : Array (Option Value)} {oc_row kV_row dc_row pm_row cd_row ct_row : Value}
    {od_part an_part : Option Addr} {sl_part : Array (Option Value)} {oc_part kV_part dc_part pm_part cd_part ct_part : Value}
    {od_Amounts_of an_Amounts_of : Option Addr} {sl_Amounts_of : Array (Option Value)} {oc_Amounts_of kV_Amounts_of dc_Amounts_of pm_Amounts_of cd_Amounts_of ct_Amounts_of : Value}
    {p_Amounts_of : Addr} {rest_Amounts_of : List Value}
    {od_is an_is : Option Addr} {sl_is : Array (Option Value)} {oc_is kV_is dc_is pm_is cd_is ct_is : Value}
    {od_divided an_divided : Option Addr} {sl_divided : Array (Option Value)} {oc_divided kV_divided dc_divided pm_divided cd_divided ct_divided : Value}
    {od_refused an_refused : Option Addr} {sl_refused : Array (Option Value)} {oc_refused kV_refused dc_refused pm_refused cd_refused ct_refused : Value}
    {od_sums an_sums : Option Addr} {sl_sums : Array (Option Value)} {oc_sums kV_sums dc_sums pm_sums cd_sums ct_sums : Value}
    {od_names an_names : Option Addr} {sl_names : Array (Option Value)} {oc_names kV_names dc_names pm_names cd_names ct_names : Value}
    {od_made an_made : Option Addr} {sl_made : Array (Option Value)} {oc_made kV_made dc_made pm_made cd_made ct_made : Value}
    {od_asked an_asked : Option Addr} {sl_asked : Array (Option Value)} {oc_asked kV_asked dc_asked pm_asked cd_asked ct_asked : Value}
    {od_law an_law : Option Addr} {sl_law : Array (Option Value)} {oc_law kV_law dc_law pm_law cd_law ct_law : Value}
    {rc_Amounts_mul fo_Amounts_mul ro_Amounts_mul : Option Value}
    {rc_Amounts_floordiv fo_Amounts_floordiv ro_Amounts_floordiv : Option Value}
    {rc_Amounts_mod fo_Amounts_mod ro_Amounts_mod : Option Value}
    {nm_GangError q_GangError : Str} {N_GangError : Addr} {bs_GangError bm_GangError : List Value} {sn_GangError : List Str} {sub_GangError : List Value} {ab_GangError : Bool} {col_GangError : Option Bool} {dd_GangError : Option Addr} {m0_GangError m1_GangError m2_GangError m3_GangError m5_GangError : Option Value}
    {nm_BadAmounts q_BadAmounts : Str} {N_BadAmounts : Addr} {bs_BadAmounts bm_BadAmounts : List Value} {sn_BadAmounts : List Str} {sub_BadAmounts : List Value} {ab_BadAmounts : Bool} {col_BadAmounts : Option Bool} {dd_BadAmounts : Option Addr} {m0_BadAmounts m1_BadAmounts m2_BadAmounts m3_BadAmounts m5_BadAmounts : Option Value}
    {nm_BadShare q_BadShare : Str} {N_BadShare : Addr} {bs_BadShare bm_BadShare : List Value} {sn_BadShare : List Str} {sub_BadShare : List Value} {ab_BadShare : Bool} {col_BadShare : Option Bool} {dd_BadShare : Option Addr} {m0_BadShare m1_BadShare m2_BadShare m3_BadShare m5_BadShare : Option Value}
    {nm_Unknown q_Unknown : Str} {N_Unknown : Addr} {bs_Unknown bm_Unknown : List Value} {sn_Unknown : List Str} {sub_Unknown : List Value} {ab_Unknown : Bool} {col_Unknown : Option Bool} {dd_Unknown : Option Addr} {m0_Unknown m1_Unknown m2_Unknown m3_Unknown m5_Unknown : Option Value}
    (nb_ValueError : PySem.W.nsIn K mainGlobals "ValueError" = some none)
    (nb_abs : PySem.W.nsIn K mainGlobals "abs" = some none)
    (nb_any : PySem.W.nsIn K mainGlobals "any" = some none)
    (nb_bool : PySem.W.nsIn K mainGlobals "bool" = some none)
    (nb_int : PySem.W.nsIn K mainGlobals "int" = some none)
    (nb_isinstance : PySem.W.nsIn K mainGlobals "isinstance" = some none)
    (nb_len : PySem.W.nsIn K mainGlobals "len" = some none)
    (nb_list : PySem.W.nsIn K mainGlobals "list" = some none)
    (nb_min : PySem.W.nsIn K mainGlobals "min" = some none)
    (nb_range : PySem.W.nsIn K mainGlobals "range" = some none)
    (nb_sum : PySem.W.nsIn K mainGlobals "sum" = some none)
    (nb_tuple : PySem.W.nsIn K mainGlobals "tuple" = some none)
    (nb_zip : PySem.W.nsIn K mainGlobals "zip" = some none)
    (ag_Amounts : PySem.W.nsIn K mainGlobals "Amounts" = some (some (.ref c_Amounts)))
    (ag_GangError : PySem.W.nsIn K mainGlobals "GangError" = some (some (.ref c_GangError)))
    (ag_BadAmounts : PySem.W.nsIn K mainGlobals "BadAmounts" = some (some (.ref c_BadAmounts)))
    (ag_BadShare : PySem.W.nsIn K mainGlobals "BadShare" = some (some (.ref c_BadShare)))
    (ag_Unknown : PySem.W.nsIn K mainGlobals "Unknown" = some (some (.ref c_Unknown)))
    (at_GangError_init : PySem.W.findIn K (.ref c_GangError) "__init__" = some (some (.ref f_GangError_init)))
    (lk_GangError_init : K.lookup f_GangError_init = some ⟨oc_GangError_init, od_GangError_init, .func (PySem.W.fnOf "__init__" "GangError.__init__" (defArgs s_GangError_init) (defBody s_GangError_init) (defScope s_GangError_init) .none kV_GangError_init dc_GangError_init pm_GangError_init an_GangError_init cd_GangError_init ct_GangError_init), sl_GangError_init⟩)
    (co_GangError_init : PySem.W.codeIn K cd_GangError_init "GangError.__init__" = true)
    (ke_GangError_init : PySem.W.keepIn K (.ref f_GangError_init) = true)
    (fn_GangError_init : PySem.W.isFn K (.ref f_GangError_init) = true)
    (at_refuse_lengths : PySem.W.nsIn K mainGlobals "refuse_lengths" = some (some (.ref f_refuse_lengths)))
    (lk_refuse_lengths : K.lookup f_refuse_lengths = some ⟨oc_refuse_lengths, od_refuse_lengths, .func (PySem.W.fnOf "refuse_lengths" "refuse_lengths" (defArgs s_refuse_lengths) (defBody s_refuse_lengths) (defScope s_refuse_lengths) .none kV_refuse_lengths dc_refuse_lengths pm_refuse_lengths an_refuse_lengths cd_refuse_lengths ct_refuse_lengths), sl_refuse_lengths⟩)
    (co_refuse_lengths : PySem.W.codeIn K cd_refuse_lengths "refuse_lengths" = true)
    (ke_refuse_lengths : PySem.W.keepIn K (.ref f_refuse_lengths) = true)
    (at_Amounts_init : PySem.W.findIn K (.ref c_Amounts) "__init__" = some (some (.ref f_Amounts_init)))
    (lk_Amounts_init : K.lookup f_Amounts_init = some ⟨oc_Amounts_init, od_Amounts_init, .func (PySem.W.fnOf "__init__" "Amounts.__init__" (defArgs s_Amounts_init) (defBody s_Amounts_init) (defScope s_Amounts_init) .none kV_Amounts_init dc_Amounts_init pm_Amounts_init an_Amounts_init cd_Amounts_init ct_Amounts_init), sl_Amounts_init⟩)
    (co_Amounts_init : PySem.W.codeIn K cd_Amounts_init "Amounts.__init__" = true)
    (ke_Amounts_init : PySem.W.keepIn K (.ref f_Amounts_init) = true)
    (fn_Amounts_init : PySem.W.isFn K (.ref f_Amounts_init) = true)
    (at_Amounts_bool : PySem.W.findIn K (.ref c_Amounts) "__bool__" = some (some (.ref f_Amounts_bool)))
    (lk_Amounts_bool : K.lookup f_Amounts_bool = some ⟨oc_Amounts_bool, od_Amounts_bool, .func (PySem.W.fnOf "__bool__" "Amounts.__bool__" (defArgs s_Amounts_bool) (defBody s_Amounts_bool) (defScope s_Amounts_bool) .none kV_Amounts_bool dc_Amounts_bool pm_Amounts_bool an_Amounts_bool cd_Amounts_bool ct_Amounts_bool), sl_Amounts_bool⟩)
    (co_Amounts_bool : PySem.W.codeIn K cd_Amounts_bool "Amounts.__bool__" = true)
    (ke_Amounts_bool : PySem.W.keepIn K (.ref f_Amounts_bool) = true)
    (fn_Amounts_bool : PySem.W.isFn K (.ref f_Amounts_bool) = true)
    (at_Amounts_add : PySem.W.findIn K (.ref c_Amounts) "__add__" = some (some (.ref f_Amounts_add)))
    (lk_Amounts_add : K.lookup f_Amounts_add = some ⟨oc_Amounts_add, od_Amounts_add, .func (PySem.W.fnOf "__add__" "Amounts.__add__" (defArgs s_Amounts_add) (defBody s_Amounts_add) (defScope s_Amounts_add) .none kV_Amounts_add dc_Amounts_add pm_Amounts_add an_Amounts_add cd_Amounts_add ct_Amounts_add), sl_Amounts_add⟩)
    (co_Amounts_add : PySem.W.codeIn K cd_Amounts_add "Amounts.__add__" = true)
    (ke_Amounts_add : PySem.W.keepIn K (.ref f_Amounts_add) = true)
    (fn_Amounts_add : PySem.W.isFn K (.ref f_Amounts_add) = true)
    (at_Amounts_sub : PySem.W.findIn K (.ref c_Amounts) "__sub__" = some (some (.ref f_Amounts_sub)))
    (lk_Amounts_sub : K.lookup f_Amounts_sub = some ⟨oc_Amounts_sub, od_Amounts_sub, .func (PySem.W.fnOf "__sub__" "Amounts.__sub__" (defArgs s_Amounts_sub) (defBody s_Amounts_sub) (defScope s_Amounts_sub) .none kV_Amounts_sub dc_Amounts_sub pm_Amounts_sub an_Amounts_sub cd_Amounts_sub ct_Amounts_sub), sl_Amounts_sub⟩)
    (co_Amounts_sub : PySem.W.codeIn K cd_Amounts_sub "Amounts.__sub__" = true)
    (ke_Amounts_sub : PySem.W.keepIn K (.ref f_Amounts_sub) = true)
    (fn_Amounts_sub : PySem.W.isFn K (.ref f_Amounts_sub) = true)
    (at_Amounts_mul : PySem.W.findIn K (.ref c_Amounts) "__mul__" = some (some (.ref f_Amounts_mul)))
    (lk_Amounts_mul : K.lookup f_Amounts_mul = some ⟨oc_Amounts_mul, od_Amounts_mul, .func (PySem.W.fnOf "__mul__" "Amounts.__mul__" (defArgs s_Amounts_mul) (defBody s_Amounts_mul) (defScope s_Amounts_mul) .none kV_Amounts_mul dc_Amounts_mul pm_Amounts_mul an_Amounts_mul cd_Amounts_mul ct_Amounts_mul), sl_Amounts_mul⟩)
    (co_Amounts_mul : PySem.W.codeIn K cd_Amounts_mul "Amounts.__mul__" = true)
    (ke_Amounts_mul : PySem.W.keepIn K (.ref f_Amounts_mul) = true)
    (fn_Amounts_mul : PySem.W.isFn K (.ref f_Amounts_mul) = true)
    (at_Amounts_rmul : PySem.W.findIn K (.ref c_Amounts) "__rmul__" = some (some (.ref f_Amounts_rmul)))
    (lk_Amounts_rmul : K.lookup f_Amounts_rmul = some ⟨oc_Amounts_rmul, od_Amounts_rmul, .func (PySem.W.fnOf "__rmul__" "Amounts.__rmul__" (defArgs s_Amounts_rmul) (defBody s_Amounts_rmul) (defScope s_Amounts_rmul) .none kV_Amounts_rmul dc_Amounts_rmul pm_Amounts_rmul an_Amounts_rmul cd_Amounts_rmul ct_Amounts_rmul), sl_Amounts_rmul⟩)
    (co_Amounts_rmul : PySem.W.codeIn K cd_Amounts_rmul "Amounts.__rmul__" = true)
    (ke_Amounts_rmul : PySem.W.keepIn K (.ref f_Amounts_rmul) = true)
    (fn_Amounts_rmul : PySem.W.isFn K (.ref f_Amounts_rmul) = true)
    (at_Amounts_floordiv : PySem.W.findIn K (.ref c_Amounts) "__floordiv__" = some (some (.ref f_Amounts_floordiv)))
    (lk_Amounts_floordiv : K.lookup f_Amounts_floordiv = some ⟨oc_Amounts_floordiv, od_Amounts_floordiv, .func (PySem.W.fnOf "__floordiv__" "Amounts.__floordiv__" (defArgs s_Amounts_floordiv) (defBody s_Amounts_floordiv) (defScope s_Amounts_floordiv) .none kV_Amounts_floordiv dc_Amounts_floordiv pm_Amounts_floordiv an_Amounts_floordiv cd_Amounts_floordiv ct_Amounts_floordiv), sl_Amounts_floordiv⟩)
    (co_Amounts_floordiv : PySem.W.codeIn K cd_Amounts_floordiv "Amounts.__floordiv__" = true)
    (ke_Amounts_floordiv : PySem.W.keepIn K (.ref f_Amounts_floordiv) = true)
    (fn_Amounts_floordiv : PySem.W.isFn K (.ref f_Amounts_floordiv) = true)
    (at_Amounts_mod : PySem.W.findIn K (.ref c_Amounts) "__mod__" = some (some (.ref f_Amounts_mod)))
    (lk_Amounts_mod : K.lookup f_Amounts_mod = some ⟨oc_Amounts_mod, od_Amounts_mod, .func (PySem.W.fnOf "__mod__" "Amounts.__mod__" (defArgs s_Amounts_mod) (defBody s_Amounts_mod) (defScope s_Amounts_mod) .none kV_Amounts_mod dc_Amounts_mod pm_Amounts_mod an_Amounts_mod cd_Amounts_mod ct_Amounts_mod), sl_Amounts_mod⟩)
    (co_Amounts_mod : PySem.W.codeIn K cd_Amounts_mod "Amounts.__mod__" = true)
    (ke_Amounts_mod : PySem.W.keepIn K (.ref f_Amounts_mod) = true)
    (fn_Amounts_mod : PySem.W.isFn K (.ref f_Amounts_mod) = true)
    (at_Amounts_neg : PySem.W.findIn K (.ref c_Amounts) "__neg__" = some (some (.ref f_Amounts_neg)))
    (lk_Amounts_neg : K.lookup f_Amounts_neg = some ⟨oc_Amounts_neg, od_Amounts_neg, .func (PySem.W.fnOf "__neg__" "Amounts.__neg__" (defArgs s_Amounts_neg) (defBody s_Amounts_neg) (defScope s_Amounts_neg) .none kV_Amounts_neg dc_Amounts_neg pm_Amounts_neg an_Amounts_neg cd_Amounts_neg ct_Amounts_neg), sl_Amounts_neg⟩)
    (co_Amounts_neg : PySem.W.codeIn K cd_Amounts_neg "Amounts.__neg__" = true)
    (ke_Amounts_neg : PySem.W.keepIn K (.ref f_Amounts_neg) = true)
    (fn_Amounts_neg : PySem.W.isFn K (.ref f_Amounts_neg) = true)
    (at_Amounts_abs : PySem.W.findIn K (.ref c_Amounts) "__abs__" = some (some (.ref f_Amounts_abs)))
    (lk_Amounts_abs : K.lookup f_Amounts_abs = some ⟨oc_Amounts_abs, od_Amounts_abs, .func (PySem.W.fnOf "__abs__" "Amounts.__abs__" (defArgs s_Amounts_abs) (defBody s_Amounts_abs) (defScope s_Amounts_abs) .none kV_Amounts_abs dc_Amounts_abs pm_Amounts_abs an_Amounts_abs cd_Amounts_abs ct_Amounts_abs), sl_Amounts_abs⟩)
    (co_Amounts_abs : PySem.W.codeIn K cd_Amounts_abs "Amounts.__abs__" = true)
    (ke_Amounts_abs : PySem.W.keepIn K (.ref f_Amounts_abs) = true)
    (fn_Amounts_abs : PySem.W.isFn K (.ref f_Amounts_abs) = true)
    (at_pool : PySem.W.nsIn K mainGlobals "_law_pool" = some (some (.ref f_pool)))
    (lk_pool : K.lookup f_pool = some ⟨oc_pool, od_pool, .func (PySem.W.fnOf "_law_pool" "_law_pool" (defArgs s_pool) (defBody s_pool) (defScope s_pool) .none kV_pool dc_pool pm_pool an_pool cd_pool ct_pool), sl_pool⟩)
    (co_pool : PySem.W.codeIn K cd_pool "_law_pool" = true)
    (ke_pool : PySem.W.keepIn K (.ref f_pool) = true)
    (at_draw : PySem.W.nsIn K mainGlobals "_law_draw" = some (some (.ref f_draw)))
    (lk_draw : K.lookup f_draw = some ⟨oc_draw, od_draw, .func (PySem.W.fnOf "_law_draw" "_law_draw" (defArgs s_draw) (defBody s_draw) (defScope s_draw) .none kV_draw dc_draw pm_draw an_draw cd_draw ct_draw), sl_draw⟩)
    (co_draw : PySem.W.codeIn K cd_draw "_law_draw" = true)
    (ke_draw : PySem.W.keepIn K (.ref f_draw) = true)
    (at_number : PySem.W.nsIn K mainGlobals "_law_number" = some (some (.ref f_number)))
    (lk_number : K.lookup f_number = some ⟨oc_number, od_number, .func (PySem.W.fnOf "_law_number" "_law_number" (defArgs s_number) (defBody s_number) (defScope s_number) .none kV_number dc_number pm_number an_number cd_number ct_number), sl_number⟩)
    (co_number : PySem.W.codeIn K cd_number "_law_number" = true)
    (ke_number : PySem.W.keepIn K (.ref f_number) = true)
    (at_signed : PySem.W.nsIn K mainGlobals "_law_signed" = some (some (.ref f_signed)))
    (lk_signed : K.lookup f_signed = some ⟨oc_signed, od_signed, .func (PySem.W.fnOf "_law_signed" "_law_signed" (defArgs s_signed) (defBody s_signed) (defScope s_signed) .none kV_signed dc_signed pm_signed an_signed cd_signed ct_signed), sl_signed⟩)
    (co_signed : PySem.W.codeIn K cd_signed "_law_signed" = true)
    (ke_signed : PySem.W.keepIn K (.ref f_signed) = true)
    (at_whole : PySem.W.nsIn K mainGlobals "_law_whole" = some (some (.ref f_whole)))
    (lk_whole : K.lookup f_whole = some ⟨oc_whole, od_whole, .func (PySem.W.fnOf "_law_whole" "_law_whole" (defArgs s_whole) (defBody s_whole) (defScope s_whole) .none kV_whole dc_whole pm_whole an_whole cd_whole ct_whole), sl_whole⟩)
    (co_whole : PySem.W.codeIn K cd_whole "_law_whole" = true)
    (ke_whole : PySem.W.keepIn K (.ref f_whole) = true)
    (at_row : PySem.W.nsIn K mainGlobals "_law_row" = some (some (.ref f_row)))
    (lk_row : K.lookup f_row = some ⟨oc_row, od_row, .func (PySem.W.fnOf "_law_row" "_law_row" (defArgs s_row) (defBody s_row) (defScope s_row) .none kV_row dc_row pm_row an_row cd_row ct_row), sl_row⟩)
    (co_row : PySem.W.codeIn K cd_row "_law_row" = true)
    (ke_row : PySem.W.keepIn K (.ref f_row) = true)
    (at_part : PySem.W.nsIn K mainGlobals "_law_part" = some (some (.ref f_part)))
    (lk_part : K.lookup f_part = some ⟨oc_part, od_part, .func (PySem.W.fnOf "_law_part" "_law_part" (defArgs s_part) (defBody s_part) (defScope s_part) .none kV_part dc_part pm_part an_part cd_part ct_part), sl_part⟩)
    (co_part : PySem.W.codeIn K cd_part "_law_part" = true)
    (ke_part : PySem.W.keepIn K (.ref f_part) = true)
    (p1_Amounts_of : PySem.W.findCls K (.ref c_Amounts) (.type "type") "of" = some (.get (.builtin "staticmethod.__get__") (.ref p_Amounts_of) .none (.ref c_Amounts)))
    (p4_Amounts_of : PySem.W.recIn K p_Amounts_of "staticmethod" = some (.ref f_Amounts_of :: rest_Amounts_of))
    (lk_Amounts_of : K.lookup f_Amounts_of = some ⟨oc_Amounts_of, od_Amounts_of, .func (PySem.W.fnOf "of" "Amounts.of" (defArgs s_Amounts_of) (defBody s_Amounts_of) (defScope s_Amounts_of) .none kV_Amounts_of dc_Amounts_of pm_Amounts_of an_Amounts_of cd_Amounts_of ct_Amounts_of), sl_Amounts_of⟩)
    (co_Amounts_of : PySem.W.codeIn K cd_Amounts_of "Amounts.of" = true)
    (ke_Amounts_of : PySem.W.keepIn K (.ref f_Amounts_of) = true)
    (p5_Amounts_of : PySem.W.typeIn K (.ref c_Amounts) = some (.type "type"))
    (p6_Amounts_of : PySem.W.readsIn K c_Amounts (.type "type") = true)
    (p7_Amounts_of : PySem.W.specialIn K (.ref c_Amounts) "__getattribute__" = some (some (.builtin "type.__getattribute__")))
    (at_is : PySem.W.nsIn K mainGlobals "_law_is" = some (some (.ref f_is)))
    (lk_is : K.lookup f_is = some ⟨oc_is, od_is, .func (PySem.W.fnOf "_law_is" "_law_is" (defArgs s_is) (defBody s_is) (defScope s_is) .none kV_is dc_is pm_is an_is cd_is ct_is), sl_is⟩)
    (co_is : PySem.W.codeIn K cd_is "_law_is" = true)
    (ke_is : PySem.W.keepIn K (.ref f_is) = true)
    (at_divided : PySem.W.nsIn K mainGlobals "_law_divided" = some (some (.ref f_divided)))
    (lk_divided : K.lookup f_divided = some ⟨oc_divided, od_divided, .func (PySem.W.fnOf "_law_divided" "_law_divided" (defArgs s_divided) (defBody s_divided) (defScope s_divided) .none kV_divided dc_divided pm_divided an_divided cd_divided ct_divided), sl_divided⟩)
    (co_divided : PySem.W.codeIn K cd_divided "_law_divided" = true)
    (ke_divided : PySem.W.keepIn K (.ref f_divided) = true)
    (at_refused : PySem.W.nsIn K mainGlobals "_law_refused" = some (some (.ref f_refused)))
    (lk_refused : K.lookup f_refused = some ⟨oc_refused, od_refused, .func (PySem.W.fnOf "_law_refused" "_law_refused" (defArgs s_refused) (defBody s_refused) (defScope s_refused) .none kV_refused dc_refused pm_refused an_refused cd_refused ct_refused), sl_refused⟩)
    (co_refused : PySem.W.codeIn K cd_refused "_law_refused" = true)
    (ke_refused : PySem.W.keepIn K (.ref f_refused) = true)
    (at_sums : PySem.W.nsIn K mainGlobals "_law_sums" = some (some (.ref f_sums)))
    (lk_sums : K.lookup f_sums = some ⟨oc_sums, od_sums, .func (PySem.W.fnOf "_law_sums" "_law_sums" (defArgs s_sums) (defBody s_sums) (defScope s_sums) .none kV_sums dc_sums pm_sums an_sums cd_sums ct_sums), sl_sums⟩)
    (co_sums : PySem.W.codeIn K cd_sums "_law_sums" = true)
    (ke_sums : PySem.W.keepIn K (.ref f_sums) = true)
    (at_names : PySem.W.nsIn K mainGlobals "_law_names" = some (some (.ref f_names)))
    (lk_names : K.lookup f_names = some ⟨oc_names, od_names, .func (PySem.W.fnOf "_law_names" "_law_names" (defArgs s_names) (defBody s_names) (defScope s_names) .none kV_names dc_names pm_names an_names cd_names ct_names), sl_names⟩)
    (co_names : PySem.W.codeIn K cd_names "_law_names" = true)
    (ke_names : PySem.W.keepIn K (.ref f_names) = true)
    (at_made : PySem.W.nsIn K mainGlobals "_law_made" = some (some (.ref f_made)))
    (lk_made : K.lookup f_made = some ⟨oc_made, od_made, .func (PySem.W.fnOf "_law_made" "_law_made" (defArgs s_made) (defBody s_made) (defScope s_made) .none kV_made dc_made pm_made an_made cd_made ct_made), sl_made⟩)
    (co_made : PySem.W.codeIn K cd_made "_law_made" = true)
    (ke_made : PySem.W.keepIn K (.ref f_made) = true)
    (at_asked : PySem.W.nsIn K mainGlobals "_law_asked" = some (some (.ref f_asked)))
    (lk_asked : K.lookup f_asked = some ⟨oc_asked, od_asked, .func (PySem.W.fnOf "_law_asked" "_law_asked" (defArgs s_asked) (defBody s_asked) (defScope s_asked) .none kV_asked dc_asked pm_asked an_asked cd_asked ct_asked), sl_asked⟩)
    (co_asked : PySem.W.codeIn K cd_asked "_law_asked" = true)
    (ke_asked : PySem.W.keepIn K (.ref f_asked) = true)
    (at_law : PySem.W.nsIn K mainGlobals "law" = some (some (.ref f_law)))
    (lk_law : K.lookup f_law = some ⟨oc_law, od_law, .func (PySem.W.fnOf "law" "law" (defArgs s_law) (defBody s_law) (defScope s_law) .none kV_law dc_law pm_law an_law cd_law ct_law), sl_law⟩)
    (co_law : PySem.W.codeIn K cd_law "law" = true)
    (ke_law : PySem.W.keepIn K (.ref f_law) = true)
    (pg_Amounts : PySem.W.plainGet K c_Amounts Str.empty = true)
    (hd_Amounts : PySem.W.hasDictIn K c_Amounts = true)
    (po_Amounts : PySem.W.plainOver K c_Amounts = true)
    (sa_Amounts : PySem.W.findIn K (.ref c_Amounts) "__setattr__" = some (some (.builtin "object.__setattr__")))
    (mk_Amounts : PySem.W.makesIn K c_Amounts = true)
    (kp_Amounts : PySem.W.keepIn K (.ref c_Amounts) = true)
    (sf_Amounts : PySem.W.selfFirst K c_Amounts = true)
    (k1_Amounts : PySem.W.findIn K (.ref c_Amounts) "__class__" = some (some (.builtin "object.__class__")))
    (k4_Amounts : PySem.W.mroIn K c_Amounts (.type "object") = some true)
    (no_Amounts_numbers : PySem.W.findIn K (.ref c_Amounts) "numbers" = some none)
    (ir_Amounts_mul : PySem.W.findIn K (.ref c_Amounts) "__rmul__" = some rc_Amounts_mul)
    (iz_Amounts_mul : (rc_Amounts_mul = none ∨ ∃ g : Addr, rc_Amounts_mul = some (.ref g)))
    (i1_Amounts_mul : PySem.W.findIn K (.type "int") "__mul__" = some fo_Amounts_mul)
    (i2_Amounts_mul : PySem.W.findIn K (.type "int") "__rmul__" = some ro_Amounts_mul)
    (is_Amounts_mul : PySem.W.subIn K (.type "int") (.ref c_Amounts) = some false)
    (ir_Amounts_floordiv : PySem.W.findIn K (.ref c_Amounts) "__rfloordiv__" = some rc_Amounts_floordiv)
    (iz_Amounts_floordiv : (rc_Amounts_floordiv = none ∨ ∃ g : Addr, rc_Amounts_floordiv = some (.ref g)))
    (i1_Amounts_floordiv : PySem.W.findIn K (.type "int") "__floordiv__" = some fo_Amounts_floordiv)
    (i2_Amounts_floordiv : PySem.W.findIn K (.type "int") "__rfloordiv__" = some ro_Amounts_floordiv)
    (is_Amounts_floordiv : PySem.W.subIn K (.type "int") (.ref c_Amounts) = some false)
    (ir_Amounts_mod : PySem.W.findIn K (.ref c_Amounts) "__rmod__" = some rc_Amounts_mod)
    (iz_Amounts_mod : (rc_Amounts_mod = none ∨ ∃ g : Addr, rc_Amounts_mod = some (.ref g)))
    (i1_Amounts_mod : PySem.W.findIn K (.type "int") "__mod__" = some fo_Amounts_mod)
    (i2_Amounts_mod : PySem.W.findIn K (.type "int") "__rmod__" = some ro_Amounts_mod)
    (is_Amounts_mod : PySem.W.subIn K (.type "int") (.ref c_Amounts) = some false)
    (kg : PySem.W.specialIn K (.builtin "object.__class__") "__get__" = some (some (.builtin "getset_descriptor.__get__")))
    (kt : PySem.W.takesIn K (.builtin "object.__class__") = some true)
    (xl_GangError : K.lookup c_GangError = some (excClassObj nm_GangError q_GangError c_GangError N_GangError bs_GangError bm_GangError true sn_GangError sub_GangError ab_GangError col_GangError dd_GangError m0_GangError m1_GangError m2_GangError m3_GangError m5_GangError "ValueError.__new__"))
    (xr_GangError : PySem.HandSPX.refsVE bm_GangError = true)
    (xsa_GangError : PySem.W.findIn K (.ref c_GangError) "__setattr__" = some (some (.builtin "object.__setattr__")))
    (xex_GangError : PySem.W.subIn K (.ref c_GangError) (.type "BaseException") = some true)
    (xty_GangError : PySem.W.typeIn K (.ref c_GangError) = some (.type "type"))
    (xkp_GangError : PySem.W.keepIn K (.ref c_GangError) = true)
    (xin_GangError : PySem.W.findIn K (.ref c_GangError) "__init__" = some (some (.ref f_GangError_init)))
    (xno_GangError : PySem.W.findIn K (.ref c_GangError) "subject" = some none)
    (xga_GangError : PySem.W.findIn K (.ref c_GangError) "__getattribute__" = some (some (.builtin "BaseException.__getattribute__")))
    (xgg_GangError : PySem.W.findIn K (.ref c_GangError) "__getattr__" = some none)
    (xhd_GangError : PySem.W.hasDictIn K c_GangError = true)
    (xk1_GangError : PySem.W.findIn K (.ref c_GangError) "__class__" = some (some (.builtin "object.__class__")))
    (xk4_GangError : PySem.W.mroIn K c_GangError (.type "object") = some true)
    (xem_GangError : PySem.W.subIn K (.ref c_GangError) (.ref c_GangError) = some true)
    (xl_BadAmounts : K.lookup c_BadAmounts = some (excClassObj nm_BadAmounts q_BadAmounts c_BadAmounts N_BadAmounts bs_BadAmounts bm_BadAmounts true sn_BadAmounts sub_BadAmounts ab_BadAmounts col_BadAmounts dd_BadAmounts m0_BadAmounts m1_BadAmounts m2_BadAmounts m3_BadAmounts m5_BadAmounts "ValueError.__new__"))
    (xr_BadAmounts : PySem.HandSPX.refsVE bm_BadAmounts = true)
    (xsa_BadAmounts : PySem.W.findIn K (.ref c_BadAmounts) "__setattr__" = some (some (.builtin "object.__setattr__")))
    (xex_BadAmounts : PySem.W.subIn K (.ref c_BadAmounts) (.type "BaseException") = some true)
    (xty_BadAmounts : PySem.W.typeIn K (.ref c_BadAmounts) = some (.type "type"))
    (xkp_BadAmounts : PySem.W.keepIn K (.ref c_BadAmounts) = true)
    (xin_BadAmounts : PySem.W.findIn K (.ref c_BadAmounts) "__init__" = some (some (.ref f_GangError_init)))
    (xno_BadAmounts : PySem.W.findIn K (.ref c_BadAmounts) "subject" = some none)
    (xga_BadAmounts : PySem.W.findIn K (.ref c_BadAmounts) "__getattribute__" = some (some (.builtin "BaseException.__getattribute__")))
    (xgg_BadAmounts : PySem.W.findIn K (.ref c_BadAmounts) "__getattr__" = some none)
    (xhd_BadAmounts : PySem.W.hasDictIn K c_BadAmounts = true)
    (xk1_BadAmounts : PySem.W.findIn K (.ref c_BadAmounts) "__class__" = some (some (.builtin "object.__class__")))
    (xk4_BadAmounts : PySem.W.mroIn K c_BadAmounts (.type "object") = some true)
    (xem_BadAmounts : PySem.W.subIn K (.ref c_BadAmounts) (.ref c_GangError) = some true)
    (xl_BadShare : K.lookup c_BadShare = some (excClassObj nm_BadShare q_BadShare c_BadShare N_BadShare bs_BadShare bm_BadShare true sn_BadShare sub_BadShare ab_BadShare col_BadShare dd_BadShare m0_BadShare m1_BadShare m2_BadShare m3_BadShare m5_BadShare "ValueError.__new__"))
    (xr_BadShare : PySem.HandSPX.refsVE bm_BadShare = true)
    (xsa_BadShare : PySem.W.findIn K (.ref c_BadShare) "__setattr__" = some (some (.builtin "object.__setattr__")))
    (xex_BadShare : PySem.W.subIn K (.ref c_BadShare) (.type "BaseException") = some true)
    (xty_BadShare : PySem.W.typeIn K (.ref c_BadShare) = some (.type "type"))
    (xkp_BadShare : PySem.W.keepIn K (.ref c_BadShare) = true)
    (xin_BadShare : PySem.W.findIn K (.ref c_BadShare) "__init__" = some (some (.ref f_GangError_init)))
    (xno_BadShare : PySem.W.findIn K (.ref c_BadShare) "subject" = some none)
    (xga_BadShare : PySem.W.findIn K (.ref c_BadShare) "__getattribute__" = some (some (.builtin "BaseException.__getattribute__")))
    (xgg_BadShare : PySem.W.findIn K (.ref c_BadShare) "__getattr__" = some none)
    (xhd_BadShare : PySem.W.hasDictIn K c_BadShare = true)
    (xk1_BadShare : PySem.W.findIn K (.ref c_BadShare) "__class__" = some (some (.builtin "object.__class__")))
    (xk4_BadShare : PySem.W.mroIn K c_BadShare (.type "object") = some true)
    (xem_BadShare : PySem.W.subIn K (.ref c_BadShare) (.ref c_GangError) = some true)
    (xl_Unknown : K.lookup c_Unknown = some (excClassObj nm_Unknown q_Unknown c_Unknown N_Unknown bs_Unknown bm_Unknown true sn_Unknown sub_Unknown ab_Unknown col_Unknown dd_Unknown m0_Unknown m1_Unknown m2_Unknown m3_Unknown m5_Unknown "ValueError.__new__"))
    (xr_Unknown : PySem.HandSPX.refsVE bm_Unknown = true)
    (xsa_Unknown : PySem.W.findIn K (.ref c_Unknown) "__setattr__" = some (some (.builtin "object.__setattr__")))
    (xex_Unknown : PySem.W.subIn K (.ref c_Unknown) (.type "BaseException") = some true)
    (xty_Unknown : PySem.W.typeIn K (.ref c_Unknown) = some (.type "type"))
    (xkp_Unknown : PySem.W.keepIn K (.ref c_Unknown) = true)
    (xin_Unknown : PySem.W.findIn K (.ref c_Unknown) "__init__" = some (some (.ref f_GangError_init)))
    (xno_Unknown : PySem.W.findIn K (.ref c_Unknown) "subject" = some none)
    (xga_Unknown : PySem.W.findIn K (.ref c_Unknown) "__getattribute__" = some (some (.builtin "BaseException.__getattribute__")))
    (xgg_Unknown : PySem.W.findIn K (.ref c_Unknown) "__getattr__" = some none)
    (xhd_Unknown : PySem.W.hasDictIn K c_Unknown = true)
    (xk1_Unknown : PySem.W.findIn K (.ref c_Unknown) "__class__" = some (some (.builtin "object.__class__")))
    (xk4_Unknown : PySem.W.mroIn K c_Unknown (.type "object") = some true)
    (xem_Unknown : PySem.W.subIn K (.ref c_Unknown) (.ref c_GangError) = some true)
    (tI_GangError : PySem.W.typeIn K (.ref f_GangError_init) = some (.type "function"))
    (si_Amounts : PySem.W.subIn K (.ref c_Amounts) (.type "int") = some false)
    (ty_Amounts : PySem.W.typeIn K (.ref c_Amounts) = some (.type "type"))
    (st_int_Amounts : PySem.W.subIn K (.type "int") (.ref c_Amounts) = some false)
    (ss_BadAmounts : PySem.W.subIn K (.ref c_BadAmounts) (.ref c_BadAmounts) = some true)
    (su_BadAmounts_BadAmounts : PySem.W.subIn K (.ref c_BadAmounts) (.ref c_BadAmounts) = some true)
    (su_BadAmounts_ValueError : PySem.W.subIn K (.ref c_BadAmounts) (.type "ValueError") = some true)
    (ss_BadShare : PySem.W.subIn K (.ref c_BadShare) (.ref c_BadShare) = some true)
    (su_BadAmounts_BadShare : PySem.W.subIn K (.ref c_BadAmounts) (.ref c_BadShare) = some false)
    (ss_Unknown : PySem.W.subIn K (.ref c_Unknown) (.ref c_Unknown) = some true)
    (su_BadAmounts_Unknown : PySem.W.subIn K (.ref c_BadAmounts) (.ref c_Unknown) = some false)
    (su_Unknown_Unknown : PySem.W.subIn K (.ref c_Unknown) (.ref c_Unknown) = some true)
    (su_Unknown_ValueError : PySem.W.subIn K (.ref c_Unknown) (.type "ValueError") = some true)
    (su_Unknown_BadAmounts : PySem.W.subIn K (.ref c_Unknown) (.ref c_BadAmounts) = some false)
    : ∃ fd : FuncData, (∀ (s : Shared) (v : Value), BindsTo s fd ⟨[v], []⟩ [("_law_script", v)]) ∧ ∀ base : Heap, K.In base → base.Ns mainGlobals mg → FnOk P w K mg base CX0 12 fa fd ["_law_script"] (spLaw K) := by
  have e := hfa.symm.trans (PySem.W.mg_of X G at_law)
  cases e
  let A : Adr := { c_Amounts := c_Amounts, c_GangError := c_GangError, c_BadAmounts := c_BadAmounts, c_BadShare := c_BadShare, c_Unknown := c_Unknown, f_GangError_init := f_GangError_init, d_GangError_init := PySem.W.fnOf "__init__" "GangError.__init__" (defArgs s_GangError_init) (defBody s_GangError_init) (defScope s_GangError_init) .none kV_GangError_init dc_GangError_init pm_GangError_init an_GangError_init cd_GangError_init ct_GangError_init, f_refuse_lengths := f_refuse_lengths, d_refuse_lengths := PySem.W.fnOf "refuse_lengths" "refuse_lengths" (defArgs s_refuse_lengths) (defBody s_refuse_lengths) (defScope s_refuse_lengths) .none kV_refuse_lengths dc_refuse_lengths pm_refuse_lengths an_refuse_lengths cd_refuse_lengths ct_refuse_lengths, f_Amounts_init := f_Amounts_init, d_Amounts_init := PySem.W.fnOf "__init__" "Amounts.__init__" (defArgs s_Amounts_init) (defBody s_Amounts_init) (defScope s_Amounts_init) .none kV_Amounts_init dc_Amounts_init pm_Amounts_init an_Amounts_init cd_Amounts_init ct_Amounts_init, f_Amounts_bool := f_Amounts_bool, d_Amounts_bool := PySem.W.fnOf "__bool__" "Amounts.__bool__" (defArgs s_Amounts_bool) (defBody s_Amounts_bool) (defScope s_Amounts_bool) .none kV_Amounts_bool dc_Amounts_bool pm_Amounts_bool an_Amounts_bool cd_Amounts_bool ct_Amounts_bool, f_Amounts_add := f_Amounts_add, d_Amounts_add := PySem.W.fnOf "__add__" "Amounts.__add__" (defArgs s_Amounts_add) (defBody s_Amounts_add) (defScope s_Amounts_add) .none kV_Amounts_add dc_Amounts_add pm_Amounts_add an_Amounts_add cd_Amounts_add ct_Amounts_add, f_Amounts_sub := f_Amounts_sub, d_Amounts_sub := PySem.W.fnOf "__sub__" "Amounts.__sub__" (defArgs s_Amounts_sub) (defBody s_Amounts_sub) (defScope s_Amounts_sub) .none kV_Amounts_sub dc_Amounts_sub pm_Amounts_sub an_Amounts_sub cd_Amounts_sub ct_Amounts_sub, f_Amounts_mul := f_Amounts_mul, d_Amounts_mul := PySem.W.fnOf "__mul__" "Amounts.__mul__" (defArgs s_Amounts_mul) (defBody s_Amounts_mul) (defScope s_Amounts_mul) .none kV_Amounts_mul dc_Amounts_mul pm_Amounts_mul an_Amounts_mul cd_Amounts_mul ct_Amounts_mul, f_Amounts_rmul := f_Amounts_rmul, d_Amounts_rmul := PySem.W.fnOf "__rmul__" "Amounts.__rmul__" (defArgs s_Amounts_rmul) (defBody s_Amounts_rmul) (defScope s_Amounts_rmul) .none kV_Amounts_rmul dc_Amounts_rmul pm_Amounts_rmul an_Amounts_rmul cd_Amounts_rmul ct_Amounts_rmul, f_Amounts_floordiv := f_Amounts_floordiv, d_Amounts_floordiv := PySem.W.fnOf "__floordiv__" "Amounts.__floordiv__" (defArgs s_Amounts_floordiv) (defBody s_Amounts_floordiv) (defScope s_Amounts_floordiv) .none kV_Amounts_floordiv dc_Amounts_floordiv pm_Amounts_floordiv an_Amounts_floordiv cd_Amounts_floordiv ct_Amounts_floordiv, f_Amounts_mod := f_Amounts_mod, d_Amounts_mod := PySem.W.fnOf "__mod__" "Amounts.__mod__" (defArgs s_Amounts_mod) (defBody s_Amounts_mod) (defScope s_Amounts_mod) .none kV_Amounts_mod dc_Amounts_mod pm_Amounts_mod an_Amounts_mod cd_Amounts_mod ct_Amounts_mod, f_Amounts_neg := f_Amounts_neg, d_Amounts_neg := PySem.W.fnOf "__neg__" "Amounts.__neg__" (defArgs s_Amounts_neg) (defBody s_Amounts_neg) (defScope s_Amounts_neg) .none kV_Amounts_neg dc_Amounts_neg pm_Amounts_neg an_Amounts_neg cd_Amounts_neg ct_Amounts_neg, f_Amounts_abs := f_Amounts_abs, d_Amounts_abs := PySem.W.fnOf "__abs__" "Amounts.__abs__" (defArgs s_Amounts_abs) (defBody s_Amounts_abs) (defScope s_Amounts_abs) .none kV_Amounts_abs dc_Amounts_abs pm_Amounts_abs an_Amounts_abs cd_Amounts_abs ct_Amounts_abs, f_pool := f_pool, d_pool := PySem.W.fnOf "_law_pool" "_law_pool" (defArgs s_pool) (defBody s_pool) (defScope s_pool) .none kV_pool dc_pool pm_pool an_pool cd_pool ct_pool, f_draw := f_draw, d_draw := PySem.W.fnOf "_law_draw" "_law_draw" (defArgs s_draw) (defBody s_draw) (defScope s_draw) .none kV_draw dc_draw pm_draw an_draw cd_draw ct_draw, f_number := f_number, d_number := PySem.W.fnOf "_law_number" "_law_number" (defArgs s_number) (defBody s_number) (defScope s_number) .none kV_number dc_number pm_number an_number cd_number ct_number, f_signed := f_signed, d_signed := PySem.W.fnOf "_law_signed" "_law_signed" (defArgs s_signed) (defBody s_signed) (defScope s_signed) .none kV_signed dc_signed pm_signed an_signed cd_signed ct_signed, f_whole := f_whole, d_whole := PySem.W.fnOf "_law_whole" "_law_whole" (defArgs s_whole) (defBody s_whole) (defScope s_whole) .none kV_whole dc_whole pm_whole an_whole cd_whole ct_whole, f_row := f_row, d_row := PySem.W.fnOf "_law_row" "_law_row" (defArgs s_row) (defBody s_row) (defScope s_row) .none kV_row dc_row pm_row an_row cd_row ct_row, f_part := f_part, d_part := PySem.W.fnOf "_law_part" "_law_part" (defArgs s_part) (defBody s_part) (defScope s_part) .none kV_part dc_part pm_part an_part cd_part ct_part, f_Amounts_of := f_Amounts_of, d_Amounts_of := PySem.W.fnOf "of" "Amounts.of" (defArgs s_Amounts_of) (defBody s_Amounts_of) (defScope s_Amounts_of) .none kV_Amounts_of dc_Amounts_of pm_Amounts_of an_Amounts_of cd_Amounts_of ct_Amounts_of, f_is := f_is, d_is := PySem.W.fnOf "_law_is" "_law_is" (defArgs s_is) (defBody s_is) (defScope s_is) .none kV_is dc_is pm_is an_is cd_is ct_is, f_divided := f_divided, d_divided := PySem.W.fnOf "_law_divided" "_law_divided" (defArgs s_divided) (defBody s_divided) (defScope s_divided) .none kV_divided dc_divided pm_divided an_divided cd_divided ct_divided, f_refused := f_refused, d_refused := PySem.W.fnOf "_law_refused" "_law_refused" (defArgs s_refused) (defBody s_refused) (defScope s_refused) .none kV_refused dc_refused pm_refused an_refused cd_refused ct_refused, f_sums := f_sums, d_sums := PySem.W.fnOf "_law_sums" "_law_sums" (defArgs s_sums) (defBody s_sums) (defScope s_sums) .none kV_sums dc_sums pm_sums an_sums cd_sums ct_sums, f_names := f_names, d_names := PySem.W.fnOf "_law_names" "_law_names" (defArgs s_names) (defBody s_names) (defScope s_names) .none kV_names dc_names pm_names an_names cd_names ct_names, f_made := f_made, d_made := PySem.W.fnOf "_law_made" "_law_made" (defArgs s_made) (defBody s_made) (defScope s_made) .none kV_made dc_made pm_made an_made cd_made ct_made, f_asked := f_asked, d_asked := PySem.W.fnOf "_law_asked" "_law_asked" (defArgs s_asked) (defBody s_asked) (defScope s_asked) .none kV_asked dc_asked pm_asked an_asked cd_asked ct_asked, f_law := fa, d_law := PySem.W.fnOf "law" "law" (defArgs s_law) (defBody s_law) (defScope s_law) .none kV_law dc_law pm_law an_law cd_law ct_law }
  have T : Txt K mg A := {
    n_ValueError := PySem.W.mg_none_of X G nb_ValueError
    n_abs := PySem.W.mg_none_of X G nb_abs
    n_any := PySem.W.mg_none_of X G nb_any
    n_bool := PySem.W.mg_none_of X G nb_bool
    n_int := PySem.W.mg_none_of X G nb_int
    n_isinstance := PySem.W.mg_none_of X G nb_isinstance
    n_len := PySem.W.mg_none_of X G nb_len
    n_list := PySem.W.mg_none_of X G nb_list
    n_min := PySem.W.mg_none_of X G nb_min
    n_range := PySem.W.mg_none_of X G nb_range
    n_sum := PySem.W.mg_none_of X G nb_sum
    n_tuple := PySem.W.mg_none_of X G nb_tuple
    n_zip := PySem.W.mg_none_of X G nb_zip
    g_Amounts := PySem.W.mg_of X G ag_Amounts
    g_GangError := PySem.W.mg_of X G ag_GangError
    g_BadAmounts := PySem.W.mg_of X G ag_BadAmounts
    g_BadShare := PySem.W.mg_of X G ag_BadShare
    g_Unknown := PySem.W.mg_of X G ag_Unknown
    F_GangError_init := fun_mk (st := s_GangError_init) lk_GangError_init co_GangError_init ke_GangError_init
    b_GangError_init := (fun_mk (st := s_GangError_init) lk_GangError_init co_GangError_init ke_GangError_init).binds (ps := ["self", "subject"]) fun _ _ _ _ _ _ us hl => match us, hl with | [_, _], _ => rfl
    me_GangError_init := ⟨at_GangError_init, fn_GangError_init, ke_GangError_init⟩
    F_refuse_lengths := fun_mk (st := s_refuse_lengths) lk_refuse_lengths co_refuse_lengths ke_refuse_lengths
    b_refuse_lengths := (fun_mk (st := s_refuse_lengths) lk_refuse_lengths co_refuse_lengths ke_refuse_lengths).binds (ps := ["left", "right"]) fun _ _ _ _ _ _ us hl => match us, hl with | [_, _], _ => rfl
    g_refuse_lengths := PySem.W.mg_of X G at_refuse_lengths
    F_Amounts_init := fun_mk (st := s_Amounts_init) lk_Amounts_init co_Amounts_init ke_Amounts_init
    me_Amounts_init := ⟨at_Amounts_init, fn_Amounts_init, ke_Amounts_init⟩
    F_Amounts_bool := fun_mk (st := s_Amounts_bool) lk_Amounts_bool co_Amounts_bool ke_Amounts_bool
    b_Amounts_bool := (fun_mk (st := s_Amounts_bool) lk_Amounts_bool co_Amounts_bool ke_Amounts_bool).binds (ps := ["self"]) fun _ _ _ _ _ _ us hl => match us, hl with | [_], _ => rfl
    me_Amounts_bool := ⟨at_Amounts_bool, fn_Amounts_bool, ke_Amounts_bool⟩
    F_Amounts_add := fun_mk (st := s_Amounts_add) lk_Amounts_add co_Amounts_add ke_Amounts_add
    b_Amounts_add := (fun_mk (st := s_Amounts_add) lk_Amounts_add co_Amounts_add ke_Amounts_add).binds (ps := ["self", "other"]) fun _ _ _ _ _ _ us hl => match us, hl with | [_, _], _ => rfl
    me_Amounts_add := ⟨at_Amounts_add, fn_Amounts_add, ke_Amounts_add⟩
    F_Amounts_sub := fun_mk (st := s_Amounts_sub) lk_Amounts_sub co_Amounts_sub ke_Amounts_sub
    b_Amounts_sub := (fun_mk (st := s_Amounts_sub) lk_Amounts_sub co_Amounts_sub ke_Amounts_sub).binds (ps := ["self", "other"]) fun _ _ _ _ _ _ us hl => match us, hl with | [_, _], _ => rfl
    me_Amounts_sub := ⟨at_Amounts_sub, fn_Amounts_sub, ke_Amounts_sub⟩
    F_Amounts_mul := fun_mk (st := s_Amounts_mul) lk_Amounts_mul co_Amounts_mul ke_Amounts_mul
    b_Amounts_mul := (fun_mk (st := s_Amounts_mul) lk_Amounts_mul co_Amounts_mul ke_Amounts_mul).binds (ps := ["self", "other"]) fun _ _ _ _ _ _ us hl => match us, hl with | [_, _], _ => rfl
    me_Amounts_mul := ⟨at_Amounts_mul, fn_Amounts_mul, ke_Amounts_mul⟩
    F_Amounts_rmul := fun_mk (st := s_Amounts_rmul) lk_Amounts_rmul co_Amounts_rmul ke_Amounts_rmul
    b_Amounts_rmul := (fun_mk (st := s_Amounts_rmul) lk_Amounts_rmul co_Amounts_rmul ke_Amounts_rmul).binds (ps := ["self", "other"]) fun _ _ _ _ _ _ us hl => match us, hl with | [_, _], _ => rfl
    me_Amounts_rmul := ⟨at_Amounts_rmul, fn_Amounts_rmul, ke_Amounts_rmul⟩
    F_Amounts_floordiv := fun_mk (st := s_Amounts_floordiv) lk_Amounts_floordiv co_Amounts_floordiv ke_Amounts_floordiv
    b_Amounts_floordiv := (fun_mk (st := s_Amounts_floordiv) lk_Amounts_floordiv co_Amounts_floordiv ke_Amounts_floordiv).binds (ps := ["self", "other"]) fun _ _ _ _ _ _ us hl => match us, hl with | [_, _], _ => rfl
    me_Amounts_floordiv := ⟨at_Amounts_floordiv, fn_Amounts_floordiv, ke_Amounts_floordiv⟩
    F_Amounts_mod := fun_mk (st := s_Amounts_mod) lk_Amounts_mod co_Amounts_mod ke_Amounts_mod
    b_Amounts_mod := (fun_mk (st := s_Amounts_mod) lk_Amounts_mod co_Amounts_mod ke_Amounts_mod).binds (ps := ["self", "other"]) fun _ _ _ _ _ _ us hl => match us, hl with | [_, _], _ => rfl
    me_Amounts_mod := ⟨at_Amounts_mod, fn_Amounts_mod, ke_Amounts_mod⟩
    F_Amounts_neg := fun_mk (st := s_Amounts_neg) lk_Amounts_neg co_Amounts_neg ke_Amounts_neg
    b_Amounts_neg := (fun_mk (st := s_Amounts_neg) lk_Amounts_neg co_Amounts_neg ke_Amounts_neg).binds (ps := ["self"]) fun _ _ _ _ _ _ us hl => match us, hl with | [_], _ => rfl
    me_Amounts_neg := ⟨at_Amounts_neg, fn_Amounts_neg, ke_Amounts_neg⟩
    F_Amounts_abs := fun_mk (st := s_Amounts_abs) lk_Amounts_abs co_Amounts_abs ke_Amounts_abs
    b_Amounts_abs := (fun_mk (st := s_Amounts_abs) lk_Amounts_abs co_Amounts_abs ke_Amounts_abs).binds (ps := ["self"]) fun _ _ _ _ _ _ us hl => match us, hl with | [_], _ => rfl
    me_Amounts_abs := ⟨at_Amounts_abs, fn_Amounts_abs, ke_Amounts_abs⟩
    F_pool := fun_mk (st := s_pool) lk_pool co_pool ke_pool
    b_pool := (fun_mk (st := s_pool) lk_pool co_pool ke_pool).binds (ps := ["_law_script"]) fun _ _ _ _ _ _ us hl => match us, hl with | [_], _ => rfl
    g_pool := PySem.W.mg_of X G at_pool
    F_draw := fun_mk (st := s_draw) lk_draw co_draw ke_draw
    b_draw := (fun_mk (st := s_draw) lk_draw co_draw ke_draw).binds (ps := ["_law_pool_here", "_law_many"]) fun _ _ _ _ _ _ us hl => match us, hl with | [_, _], _ => rfl
    g_draw := PySem.W.mg_of X G at_draw
    F_number := fun_mk (st := s_number) lk_number co_number ke_number
    b_number := (fun_mk (st := s_number) lk_number co_number ke_number).binds (ps := ["_law_pool_here", "_law_groups"]) fun _ _ _ _ _ _ us hl => match us, hl with | [_, _], _ => rfl
    g_number := PySem.W.mg_of X G at_number
    F_signed := fun_mk (st := s_signed) lk_signed co_signed ke_signed
    b_signed := (fun_mk (st := s_signed) lk_signed co_signed ke_signed).binds (ps := ["_law_pool_here", "_law_groups"]) fun _ _ _ _ _ _ us hl => match us, hl with | [_, _], _ => rfl
    g_signed := PySem.W.mg_of X G at_signed
    F_whole := fun_mk (st := s_whole) lk_whole co_whole ke_whole
    b_whole := (fun_mk (st := s_whole) lk_whole co_whole ke_whole).binds (ps := ["_law_value"]) fun _ _ _ _ _ _ us hl => match us, hl with | [_], _ => rfl
    g_whole := PySem.W.mg_of X G at_whole
    F_row := fun_mk (st := s_row) lk_row co_row ke_row
    b_row := (fun_mk (st := s_row) lk_row co_row ke_row).binds (ps := ["_law_numbers"]) fun _ _ _ _ _ _ us hl => match us, hl with | [_], _ => rfl
    g_row := PySem.W.mg_of X G at_row
    F_part := fun_mk (st := s_part) lk_part co_part ke_part
    b_part := (fun_mk (st := s_part) lk_part co_part ke_part).binds (ps := ["_law_pool_here", "_law_number_here"]) fun _ _ _ _ _ _ us hl => match us, hl with | [_, _], _ => rfl
    g_part := PySem.W.mg_of X G at_part
    F_Amounts_of := fun_mk (st := s_Amounts_of) lk_Amounts_of co_Amounts_of ke_Amounts_of
    rd_Amounts := ⟨p6_Amounts_of, p7_Amounts_of⟩
    sm_Amounts_of := ⟨_, p5_Amounts_of, p1_Amounts_of, _, p4_Amounts_of⟩
    F_is := fun_mk (st := s_is) lk_is co_is ke_is
    b_is := (fun_mk (st := s_is) lk_is co_is ke_is).binds (ps := ["_law_row_here", "_law_numbers"]) fun _ _ _ _ _ _ us hl => match us, hl with | [_, _], _ => rfl
    g_is := PySem.W.mg_of X G at_is
    F_divided := fun_mk (st := s_divided) lk_divided co_divided ke_divided
    b_divided := (fun_mk (st := s_divided) lk_divided co_divided ke_divided).binds (ps := ["_law_one", "_law_a", "_law_other", "_law_b"]) fun _ _ _ _ _ _ us hl => match us, hl with | [_, _, _, _], _ => rfl
    g_divided := PySem.W.mg_of X G at_divided
    F_refused := fun_mk (st := s_refused) lk_refused co_refused ke_refused
    b_refused := (fun_mk (st := s_refused) lk_refused co_refused ke_refused).binds (ps := ["_law_one", "_law_other", "_law_b", "_law_way"]) fun _ _ _ _ _ _ us hl => match us, hl with | [_, _, _, _], _ => rfl
    g_refused := PySem.W.mg_of X G at_refused
    F_sums := fun_mk (st := s_sums) lk_sums co_sums ke_sums
    b_sums := (fun_mk (st := s_sums) lk_sums co_sums ke_sums).binds (ps := ["_law_one", "_law_a", "_law_other", "_law_b", "_law_times"]) fun _ _ _ _ _ _ us hl => match us, hl with | [_, _, _, _, _], _ => rfl
    g_sums := PySem.W.mg_of X G at_sums
    F_names := fun_mk (st := s_names) lk_names co_names ke_names
    b_names := (fun_mk (st := s_names) lk_names co_names ke_names).binds (ps := ["_law_pool_here"]) fun _ _ _ _ _ _ us hl => match us, hl with | [_], _ => rfl
    g_names := PySem.W.mg_of X G at_names
    F_made := fun_mk (st := s_made) lk_made co_made ke_made
    b_made := (fun_mk (st := s_made) lk_made co_made ke_made).binds (ps := ["_law_kinds", "_law_given", "_law_way"]) fun _ _ _ _ _ _ us hl => match us, hl with | [_, _, _], _ => rfl
    g_made := PySem.W.mg_of X G at_made
    F_asked := fun_mk (st := s_asked) lk_asked co_asked ke_asked
    b_asked := (fun_mk (st := s_asked) lk_asked co_asked ke_asked).binds (ps := ["_law_kinds", "_law_given", "_law_way"]) fun _ _ _ _ _ _ us hl => match us, hl with | [_, _, _], _ => rfl
    g_asked := PySem.W.mg_of X G at_asked
    F_law := fun_mk (st := s_law) lk_law co_law ke_law
    b_law := (fun_mk (st := s_law) lk_law co_law ke_law).binds (ps := ["_law_script"]) fun _ _ _ _ _ _ us hl => match us, hl with | [_], _ => rfl
    g_law := PySem.W.mg_of X G at_law
    cl_Amounts := ⟨pg_Amounts, hd_Amounts, po_Amounts, sa_Amounts⟩
    mk_Amounts := ⟨mk_Amounts, at_Amounts_init, fn_Amounts_init, kp_Amounts⟩
    sf_Amounts := sf_Amounts
    k1_Amounts := k1_Amounts
    k4_Amounts := k4_Amounts
    no_Amounts_numbers := no_Amounts_numbers
    i_Amounts_mul := ⟨⟨_, ir_Amounts_mul, iz_Amounts_mul⟩, ⟨_, i1_Amounts_mul⟩, ⟨_, i2_Amounts_mul⟩, is_Amounts_mul⟩
    i_Amounts_floordiv := ⟨⟨_, ir_Amounts_floordiv, iz_Amounts_floordiv⟩, ⟨_, i1_Amounts_floordiv⟩, ⟨_, i2_Amounts_floordiv⟩, is_Amounts_floordiv⟩
    i_Amounts_mod := ⟨⟨_, ir_Amounts_mod, iz_Amounts_mod⟩, ⟨_, i1_Amounts_mod⟩, ⟨_, i2_Amounts_mod⟩, is_Amounts_mod⟩
    kg := kg
    kt := kt
    x_GangError := ⟨⟨⟨_, _, _, _, _, _, _, _, _, _, _, _, _, _, _, xl_GangError, xr_GangError⟩, xsa_GangError, xex_GangError, xty_GangError, xkp_GangError⟩, xin_GangError, tI_GangError, xno_GangError⟩
    xf_GangError := ⟨xga_GangError, xgg_GangError, xex_GangError, xhd_GangError⟩
    xc_GangError := ⟨xga_GangError, xgg_GangError, xex_GangError, xhd_GangError, xk1_GangError, kg, kt, xk4_GangError⟩
    xm_GangError := PySem.W.exm_ref xex_GangError xhd_GangError xty_GangError xem_GangError
    x_BadAmounts := ⟨⟨⟨_, _, _, _, _, _, _, _, _, _, _, _, _, _, _, xl_BadAmounts, xr_BadAmounts⟩, xsa_BadAmounts, xex_BadAmounts, xty_BadAmounts, xkp_BadAmounts⟩, xin_BadAmounts, tI_GangError, xno_BadAmounts⟩
    xf_BadAmounts := ⟨xga_BadAmounts, xgg_BadAmounts, xex_BadAmounts, xhd_BadAmounts⟩
    xc_BadAmounts := ⟨xga_BadAmounts, xgg_BadAmounts, xex_BadAmounts, xhd_BadAmounts, xk1_BadAmounts, kg, kt, xk4_BadAmounts⟩
    xm_BadAmounts := PySem.W.exm_ref xex_GangError xhd_GangError xty_GangError xem_BadAmounts
    x_BadShare := ⟨⟨⟨_, _, _, _, _, _, _, _, _, _, _, _, _, _, _, xl_BadShare, xr_BadShare⟩, xsa_BadShare, xex_BadShare, xty_BadShare, xkp_BadShare⟩, xin_BadShare, tI_GangError, xno_BadShare⟩
    xf_BadShare := ⟨xga_BadShare, xgg_BadShare, xex_BadShare, xhd_BadShare⟩
    xc_BadShare := ⟨xga_BadShare, xgg_BadShare, xex_BadShare, xhd_BadShare, xk1_BadShare, kg, kt, xk4_BadShare⟩
    xm_BadShare := PySem.W.exm_ref xex_GangError xhd_GangError xty_GangError xem_BadShare
    x_Unknown := ⟨⟨⟨_, _, _, _, _, _, _, _, _, _, _, _, _, _, _, xl_Unknown, xr_Unknown⟩, xsa_Unknown, xex_Unknown, xty_Unknown, xkp_Unknown⟩, xin_Unknown, tI_GangError, xno_Unknown⟩
    xf_Unknown := ⟨xga_Unknown, xgg_Unknown, xex_Unknown, xhd_Unknown⟩
    xc_Unknown := ⟨xga_Unknown, xgg_Unknown, xex_Unknown, xhd_Unknown, xk1_Unknown, kg, kt, xk4_Unknown⟩
    xm_Unknown := PySem.W.exm_ref xex_GangError xhd_GangError xty_GangError xem_Unknown
    si_Amounts := si_Amounts
    st_int_Amounts := st_int_Amounts
    kt_int_Amounts := kit_tb hd_Amounts ty_Amounts st_int_Amounts
    kt_BadAmounts_BadAmounts := kit_sub xhd_BadAmounts xty_BadAmounts ss_BadAmounts su_BadAmounts_BadAmounts
    kt_BadAmounts_ValueError := kit_base (by decide +kernel) su_BadAmounts_ValueError
    kt_BadAmounts_BadShare := kit_sub xhd_BadShare xty_BadShare ss_BadShare su_BadAmounts_BadShare
    kt_BadAmounts_Unknown := kit_sub xhd_Unknown xty_Unknown ss_Unknown su_BadAmounts_Unknown
    kt_Unknown_Unknown := kit_sub xhd_Unknown xty_Unknown ss_Unknown su_Unknown_Unknown
    kt_Unknown_ValueError := kit_base (by decide +kernel) su_Unknown_ValueError
    kt_Unknown_BadAmounts := kit_sub xhd_BadAmounts xty_BadAmounts ss_BadAmounts su_Unknown_BadAmounts
  }
  exact ⟨A.d_law, fun s v => .of_eq rfl, fun base _ _ => ok_law (base := base) T⟩
theorem walk {l : PySem.W.OpenLaw} {q : Program} {loose : List Str} {XP : (Str → Option Value) → Heap → Prop} {YP : World → Heap → Prop} {d : DefRec} {K : Params → PySem.W.Frag} (hn : l.most = some 63) (hdf : d.params.defaults = [])
    (hY : ∀ (w : World) (h : Heap), YP w h → (K w.params).In h)
    (F : ∀ (w : World) (mg : Str → Option Value) (fa : Addr) (h : Heap), (K w.params).In h → h.Ns mainGlobals mg → mg d.name = some (.ref fa) →
      ∃ fd : FuncData, (∀ (s : Shared) (u : Value), BindsTo s fd ⟨[u], []⟩ [("_law_script", u)]) ∧ ∀ base : Heap, (K w.params).In base → base.Ns mainGlobals mg → FnOk l.prog w (K w.params) mg base CX0 lawLvl fa fd ["_law_script"] (spLaw (K w.params))) :
    PySem.W.WalkO q loose XP YP l.row.toRowW d [] (fun f vs => PySem.call f vs) :=
  L2.walk_ofB (n := 63) (k := lawLvl) (x := "_law_script") (CX := fun _ => CX0) (sp := fun w => spLaw (K w.params)) hn (by decide) hdf ⟨rfl, by decide, by decide⟩ hY F (fun _ _ a ns hl hb _ hS => ⟨a, ns, rfl, hS, hl, hb, fun _ => rfl⟩) fun _ _ _ _ _ z => z
end LW
open PySem PySem.W PyProof.Rows
set_option maxRecDepth 100000 in
set_option maxHeartbeats 0 in
theorem PySem.Challenge.cw_gangbooks_k05_amounts_times_holds : PySem.Challenge.rw_gangbooks_k05_amounts_times.Holds := by
  w_on; o_law; k_head; (case hw => w_witness2)
  k_fill
  refine LW.walk (l := PySem.Challenge.rw_gangbooks_k05_amounts_times) rfl rfl (fun w h Y => PySem.W.kIn_of Y) ?F
  case F =>
    intro w mg fa h KX G hmg
    refine' LW.all_mk KX G hmg ?nb_ValueError ?nb_abs ?nb_any ?nb_bool ?nb_int ?nb_isinstance ?nb_len ?nb_list ?nb_min ?nb_range ?nb_sum ?nb_tuple ?nb_zip ?ag_Amounts ?ag_GangError ?ag_BadAmounts ?ag_BadShare ?ag_Unknown ?at_GangError_init ?lk_GangError_init ?co_GangError_init ?ke_GangError_init ?fn_GangError_init ?at_refuse_lengths ?lk_refuse_lengths ?co_refuse_lengths ?ke_refuse_lengths ?at_Amounts_init ?lk_Amounts_init ?co_Amounts_init ?ke_Amounts_init ?fn_Amounts_init ?at_Amounts_bool ?lk_Amounts_bool ?co_Amounts_bool ?ke_Amounts_bool ?fn_Amounts_bool ?at_Amounts_add ?lk_Amounts_add ?co_Amounts_add ?ke_Amounts_add ?fn_Amounts_add ?at_Amounts_sub ?lk_Amounts_sub ?co_Amounts_sub ?ke_Amounts_sub ?fn_Amounts_sub ?at_Amounts_mul ?lk_Amounts_mul ?co_Amounts_mul ?ke_Amounts_mul ?fn_Amounts_mul ?at_Amounts_rmul ?lk_Amounts_rmul ?co_Amounts_rmul ?ke_Amounts_rmul ?fn_Amounts_rmul ?at_Amounts_floordiv ?lk_Amounts_floordiv ?co_Amounts_floordiv ?ke_Amounts_floordiv ?fn_Amounts_floordiv ?at_Amounts_mod ?lk_Amounts_mod ?co_Amounts_mod ?ke_Amounts_mod ?fn_Amounts_mod ?at_Amounts_neg ?lk_Amounts_neg ?co_Amounts_neg ?ke_Amounts_neg ?fn_Amounts_neg ?at_Amounts_abs ?lk_Amounts_abs ?co_Amounts_abs ?ke_Amounts_abs ?fn_Amounts_abs ?at_pool ?lk_pool ?co_pool ?ke_pool ?at_draw ?lk_draw ?co_draw ?ke_draw ?at_number ?lk_number ?co_number ?ke_number ?at_signed ?lk_signed ?co_signed ?ke_signed ?at_whole ?lk_whole ?co_whole ?ke_whole ?at_row ?lk_row ?co_row ?ke_row ?at_part ?lk_part ?co_part ?ke_part ?p1_Amounts_of ?p4_Amounts_of ?lk_Amounts_of ?co_Amounts_of ?ke_Amounts_of ?p5_Amounts_of ?p6_Amounts_of ?p7_Amounts_of ?at_is ?lk_is ?co_is ?ke_is ?at_divided ?lk_divided ?co_divided ?ke_divided ?at_refused ?lk_refused ?co_refused ?ke_refused ?at_sums ?lk_sums ?co_sums ?ke_sums ?at_names ?lk_names ?co_names ?ke_names ?at_made ?lk_made ?co_made ?ke_made ?at_asked ?lk_asked ?co_asked ?ke_asked ?at_law ?lk_law ?co_law ?ke_law ?pg_Amounts ?hd_Amounts ?po_Amounts ?sa_Amounts ?mk_Amounts ?kp_Amounts ?sf_Amounts ?k1_Amounts ?k4_Amounts ?no_Amounts_numbers ?ir_Amounts_mul ?iz_Amounts_mul ?i1_Amounts_mul ?i2_Amounts_mul ?is_Amounts_mul ?ir_Amounts_floordiv ?iz_Amounts_floordiv ?i1_Amounts_floordiv ?i2_Amounts_floordiv ?is_Amounts_floordiv ?ir_Amounts_mod ?iz_Amounts_mod ?i1_Amounts_mod ?i2_Amounts_mod ?is_Amounts_mod ?kg ?kt ?xl_GangError ?xr_GangError ?xsa_GangError ?xex_GangError ?xty_GangError ?xkp_GangError ?xin_GangError ?xno_GangError ?xga_GangError ?xgg_GangError ?xhd_GangError ?xk1_GangError ?xk4_GangError ?xem_GangError ?xl_BadAmounts ?xr_BadAmounts ?xsa_BadAmounts ?xex_BadAmounts ?xty_BadAmounts ?xkp_BadAmounts ?xin_BadAmounts ?xno_BadAmounts ?xga_BadAmounts ?xgg_BadAmounts ?xhd_BadAmounts ?xk1_BadAmounts ?xk4_BadAmounts ?xem_BadAmounts ?xl_BadShare ?xr_BadShare ?xsa_BadShare ?xex_BadShare ?xty_BadShare ?xkp_BadShare ?xin_BadShare ?xno_BadShare ?xga_BadShare ?xgg_BadShare ?xhd_BadShare ?xk1_BadShare ?xk4_BadShare ?xem_BadShare ?xl_Unknown ?xr_Unknown ?xsa_Unknown ?xex_Unknown ?xty_Unknown ?xkp_Unknown ?xin_Unknown ?xno_Unknown ?xga_Unknown ?xgg_Unknown ?xhd_Unknown ?xk1_Unknown ?xk4_Unknown ?xem_Unknown ?tI_GangError ?si_Amounts ?ty_Amounts ?st_int_Amounts ?ss_BadAmounts ?su_BadAmounts_BadAmounts ?su_BadAmounts_ValueError ?ss_BadShare ?su_BadAmounts_BadShare ?ss_Unknown ?su_BadAmounts_Unknown ?su_Unknown_Unknown ?su_Unknown_ValueError ?su_Unknown_BadAmounts
    (case nb_ValueError => k_is)
    (case nb_abs => k_is)
    (case nb_any => k_is)
    (case nb_bool => k_is)
    (case nb_int => k_is)
    (case nb_isinstance => k_is)
    (case nb_len => k_is)
    (case nb_list => k_is)
    (case nb_min => k_is)
    (case nb_range => k_is)
    (case nb_sum => k_is)
    (case nb_tuple => k_is)
    (case nb_zip => k_is)
    (case ag_Amounts => k_is)
    (case ag_GangError => k_is)
    (case ag_BadAmounts => k_is)
    (case ag_BadShare => k_is)
    (case ag_Unknown => k_is)
    (case at_GangError_init => k_is)
    (case lk_GangError_init => k_is)
    (case co_GangError_init => k_is)
    (case ke_GangError_init => k_is)
    (case fn_GangError_init => k_is)
    (case at_refuse_lengths => k_is)
    (case lk_refuse_lengths => k_is)
    (case co_refuse_lengths => k_is)
    (case ke_refuse_lengths => k_is)
    (case at_Amounts_init => k_is)
    (case lk_Amounts_init => k_is)
    (case co_Amounts_init => k_is)
    (case ke_Amounts_init => k_is)
    (case fn_Amounts_init => k_is)
    (case at_Amounts_bool => k_is)
    (case lk_Amounts_bool => k_is)
    (case co_Amounts_bool => k_is)
    (case ke_Amounts_bool => k_is)
    (case fn_Amounts_bool => k_is)
    (case at_Amounts_add => k_is)
    (case lk_Amounts_add => k_is)
    (case co_Amounts_add => k_is)
    (case ke_Amounts_add => k_is)
    (case fn_Amounts_add => k_is)
    (case at_Amounts_sub => k_is)
    (case lk_Amounts_sub => k_is)
    (case co_Amounts_sub => k_is)
    (case ke_Amounts_sub => k_is)
    (case fn_Amounts_sub => k_is)
    (case at_Amounts_mul => k_is)
    (case lk_Amounts_mul => k_is)
    (case co_Amounts_mul => k_is)
    (case ke_Amounts_mul => k_is)
    (case fn_Amounts_mul => k_is)
    (case at_Amounts_rmul => k_is)
    (case lk_Amounts_rmul => k_is)
    (case co_Amounts_rmul => k_is)
    (case ke_Amounts_rmul => k_is)
    (case fn_Amounts_rmul => k_is)
    (case at_Amounts_floordiv => k_is)
    (case lk_Amounts_floordiv => k_is)
    (case co_Amounts_floordiv => k_is)
    (case ke_Amounts_floordiv => k_is)
    (case fn_Amounts_floordiv => k_is)
    (case at_Amounts_mod => k_is)
    (case lk_Amounts_mod => k_is)
    (case co_Amounts_mod => k_is)
    (case ke_Amounts_mod => k_is)
    (case fn_Amounts_mod => k_is)
    (case at_Amounts_neg => k_is)
    (case lk_Amounts_neg => k_is)
    (case co_Amounts_neg => k_is)
    (case ke_Amounts_neg => k_is)
    (case fn_Amounts_neg => k_is)
    (case at_Amounts_abs => k_is)
    (case lk_Amounts_abs => k_is)
    (case co_Amounts_abs => k_is)
    (case ke_Amounts_abs => k_is)
    (case fn_Amounts_abs => k_is)
    (case at_pool => k_is)
    (case lk_pool => k_is)
    (case co_pool => k_is)
    (case ke_pool => k_is)
    (case at_draw => k_is)
    (case lk_draw => k_is)
    (case co_draw => k_is)
    (case ke_draw => k_is)
    (case at_number => k_is)
    (case lk_number => k_is)
    (case co_number => k_is)
    (case ke_number => k_is)
    (case at_signed => k_is)
    (case lk_signed => k_is)
    (case co_signed => k_is)
    (case ke_signed => k_is)
    (case at_whole => k_is)
    (case lk_whole => k_is)
    (case co_whole => k_is)
    (case ke_whole => k_is)
    (case at_row => k_is)
    (case lk_row => k_is)
    (case co_row => k_is)
    (case ke_row => k_is)
    (case at_part => k_is)
    (case lk_part => k_is)
    (case co_part => k_is)
    (case ke_part => k_is)
    (case p1_Amounts_of => k_is)
    (case p4_Amounts_of => k_is)
    (case lk_Amounts_of => k_is)
    (case co_Amounts_of => k_is)
    (case ke_Amounts_of => k_is)
    (case p5_Amounts_of => k_is)
    (case p6_Amounts_of => k_is)
    (case p7_Amounts_of => k_is)
    (case at_is => k_is)
    (case lk_is => k_is)
    (case co_is => k_is)
    (case ke_is => k_is)
    (case at_divided => k_is)
    (case lk_divided => k_is)
    (case co_divided => k_is)
    (case ke_divided => k_is)
    (case at_refused => k_is)
    (case lk_refused => k_is)
    (case co_refused => k_is)
    (case ke_refused => k_is)
    (case at_sums => k_is)
    (case lk_sums => k_is)
    (case co_sums => k_is)
    (case ke_sums => k_is)
    (case at_names => k_is)
    (case lk_names => k_is)
    (case co_names => k_is)
    (case ke_names => k_is)
    (case at_made => k_is)
    (case lk_made => k_is)
    (case co_made => k_is)
    (case ke_made => k_is)
    (case at_asked => k_is)
    (case lk_asked => k_is)
    (case co_asked => k_is)
    (case ke_asked => k_is)
    (case at_law => k_is)
    (case lk_law => k_is)
    (case co_law => k_is)
    (case ke_law => k_is)
    (case pg_Amounts => k_is)
    (case hd_Amounts => k_is)
    (case po_Amounts => k_is)
    (case sa_Amounts => k_is)
    (case mk_Amounts => k_is)
    (case kp_Amounts => k_is)
    (case sf_Amounts => k_is)
    (case k1_Amounts => k_is)
    (case k4_Amounts => k_is)
    (case no_Amounts_numbers => k_is)
    (case ir_Amounts_mul => k_is)
    (case iz_Amounts_mul => first | exact .inl rfl | exact .inr ⟨_, rfl⟩)
    (case i1_Amounts_mul => k_is)
    (case i2_Amounts_mul => k_is)
    (case is_Amounts_mul => k_is)
    (case ir_Amounts_floordiv => k_is)
    (case iz_Amounts_floordiv => first | exact .inl rfl | exact .inr ⟨_, rfl⟩)
    (case i1_Amounts_floordiv => k_is)
    (case i2_Amounts_floordiv => k_is)
    (case is_Amounts_floordiv => k_is)
    (case ir_Amounts_mod => k_is)
    (case iz_Amounts_mod => first | exact .inl rfl | exact .inr ⟨_, rfl⟩)
    (case i1_Amounts_mod => k_is)
    (case i2_Amounts_mod => k_is)
    (case is_Amounts_mod => k_is)
    (case kg => k_is)
    (case kt => k_is)
    (case xl_GangError => k_is)
    (case xr_GangError => first | rfl | decide +kernel)
    (case xsa_GangError => k_is)
    (case xex_GangError => k_is)
    (case xty_GangError => k_is)
    (case xkp_GangError => k_is)
    (case xin_GangError => k_is)
    (case xno_GangError => k_is)
    (case xga_GangError => k_is)
    (case xgg_GangError => k_is)
    (case xhd_GangError => k_is)
    (case xk1_GangError => k_is)
    (case xk4_GangError => k_is)
    (case xem_GangError => first | rfl | k_is)
    (case xl_BadAmounts => k_is)
    (case xr_BadAmounts => first | rfl | decide +kernel)
    (case xsa_BadAmounts => k_is)
    (case xex_BadAmounts => k_is)
    (case xty_BadAmounts => k_is)
    (case xkp_BadAmounts => k_is)
    (case xin_BadAmounts => k_is)
    (case xno_BadAmounts => k_is)
    (case xga_BadAmounts => k_is)
    (case xgg_BadAmounts => k_is)
    (case xhd_BadAmounts => k_is)
    (case xk1_BadAmounts => k_is)
    (case xk4_BadAmounts => k_is)
    (case xem_BadAmounts => first | rfl | k_is)
    (case xl_BadShare => k_is)
    (case xr_BadShare => first | rfl | decide +kernel)
    (case xsa_BadShare => k_is)
    (case xex_BadShare => k_is)
    (case xty_BadShare => k_is)
    (case xkp_BadShare => k_is)
    (case xin_BadShare => k_is)
    (case xno_BadShare => k_is)
    (case xga_BadShare => k_is)
    (case xgg_BadShare => k_is)
    (case xhd_BadShare => k_is)
    (case xk1_BadShare => k_is)
    (case xk4_BadShare => k_is)
    (case xem_BadShare => first | rfl | k_is)
    (case xl_Unknown => k_is)
    (case xr_Unknown => first | rfl | decide +kernel)
    (case xsa_Unknown => k_is)
    (case xex_Unknown => k_is)
    (case xty_Unknown => k_is)
    (case xkp_Unknown => k_is)
    (case xin_Unknown => k_is)
    (case xno_Unknown => k_is)
    (case xga_Unknown => k_is)
    (case xgg_Unknown => k_is)
    (case xhd_Unknown => k_is)
    (case xk1_Unknown => k_is)
    (case xk4_Unknown => k_is)
    (case xem_Unknown => first | rfl | k_is)
    (case tI_GangError => k_is)
    (case si_Amounts => k_is)
    (case ty_Amounts => k_is)
    (case st_int_Amounts => k_is)
    (case ss_BadAmounts => first | rfl | k_is)
    (case su_BadAmounts_BadAmounts => first | rfl | k_is)
    (case su_BadAmounts_ValueError => first | rfl | k_is)
    (case ss_BadShare => first | rfl | k_is)
    (case su_BadAmounts_BadShare => first | rfl | k_is)
    (case ss_Unknown => first | rfl | k_is)
    (case su_BadAmounts_Unknown => first | rfl | k_is)
    (case su_Unknown_Unknown => first | rfl | k_is)
    (case su_Unknown_ValueError => first | rfl | k_is)
    (case su_Unknown_BadAmounts => first | rfl | k_is)
