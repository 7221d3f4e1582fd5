import PyProof.Rows.All
import Wide.All
import OpenK.AllK
import Wide.FinOn
import PyProof.EqAt
import PyProof.EqKinds
import PyProof.TupleCall
import HandS.Base
import HandS.Call
import HandS.List
import HandS.Exc
import HandS.IsInst
import HandS.ExcOwn
import HandS.ExcInit
import HandS.ExcField
import HandS.ExcIs
import HandS.TryOnly
import HandS.CallSlots
import HandS.Words
import HandS.WordsExc
import KE.KExcIs
import HandS.Sort
import PyProof.Rows.RuleN_abs
import HandS.OwnEq
import HandS.IterNext
import PyProof.FactsSeq
import PyProof.TupleIter
import PyProof.WalksMore
import HandS.Star
import HandS.Zip
import HandS.Walk
import HandS.Text
import HandS.Codes
import KE.IntTextLaws
import KE.KIntText
import KE.KDictZip
import HandS.RaiseMore
import HandS.ClsMeth
import HandS.StrMore
import HandS.FStr
import HandS.Iter
import HandS.Spec
import KE.KUnpackStar
import KE.GoesEnum
import HandS.More
import HandS.Comp
import HandS.Conv
import HandS.EndBits
import PySem.Challenge.RW_gangbooks_k64_event_lines
set_option Elab.async false
set_option linter.all false
set_option maxRecDepth 100000
set_option maxHeartbeats 4000000
/-! own operators over the layer -/
namespace L2
open PySem PySem.Spec PyProof.Rows
theorem cmpBack_of {Q : Value → Shared → Prop} {v : V} {u : Value} {s : Shared} (r : RelV v u) (q : Q u s) : PySem.W.CmpBack Q u s := by
  cases v with
  | non => cases (show u = Value.none from r); exact q
  | bl b => cases (show u = Value.bool b from r); exact q
  | int i => obtain ⟨t, e⟩ := (show ∃ t, u = Value.int i t from r); cases e; exact q
  | str x => obtain ⟨t, e⟩ := (show ∃ t, u = Value.str x t from r); cases e; exact q
  | byt x => obtain ⟨t, e⟩ := (show ∃ t, u = Value.bytes x t from r); cases e; exact q
  | flt x => obtain ⟨t, e⟩ := (show ∃ t, u = Value.float x t from r); cases e; exact q
  | ref a => cases (show u = Value.ref a from r); exact q
  | ty n => cases (show u = Value.type n from r); exact q
section
variable {X : Cx} {pins : List (Addr × Obj)} {σ : St} {H : Hp} {s : Shared} {a C dx : Addr} {fs : List (Str × V)}
theorem Inv.instAt (I : Inv X pins σ H s) (e : H a = some (.ins C dx fs)) : ∃ od, PySem.W.InstAt s.heap a (PySem.W.instObj C dx) C (some od) := by
  obtain ⟨mA, J, _⟩ := ins_get I.hok e
  obtain ⟨od, h, _⟩ := J.look
  exact ⟨od, h⟩
end
section
variable {X : Cx} {CX : CXT} {k : Nat} {f C : Addr} {fd : FuncData} {ps : List Str} {sp : Sp} {dvs : List V} {ds : List Value} {E : XK}
/-- the callee runs, within some units of the C stack -/
theorem run_fnA {A : Around} {pins : List (Addr × Obj)} {σ : St} {H : Hp} {s : Shared} {Q : VK} {us : List Value} {vs : List V} (hfA : A.frames = X.A.frames) (F : FnOk X.prog X.w X.K X.mg X.base CX k f fd ps sp) (hr : Room k A) (hb : Binds X.K fd ps ds) (hd : Vals dvs ds) (hx : Passes CX X E)
    (I : Inv X pins σ H s) (r : Vals vs us) (h : sp (vs ++ dvs) H Q E) : wpAny (model X.prog X.w) A (call (.ref f) us) (EP X pins σ Q) X.xe s := by
  have r2 : Vals (vs ++ dvs) (us ++ ds) := r.append hd
  have hl : (us ++ ds).length = ps.length := by rw [← r2.length]; exact F.len _ _ _ _ h
  have e0 := I.env0
  have e1 : Env0 X.prog X.w X.K X.mg X.base A X.stack s H := ⟨hfA.trans e0.frames, e0.mod, e0.bs, e0.bsz, e0.funs, e0.frf, e0.hok, e0.bare⟩
  refine wpAny_call (codeAny_mono (F.run A X.stack s H ⟨us, []⟩ (us ++ ds) (vs ++ dvs) Q E hr e1 (hb s us I.kIn hl) r2 h) fun r s' hq => ?_)
  cases r with
  | error e => exact hx pins σ H s e s' I hq
  | ok fl =>
    cases fl with
    | ret u => exact I.after hq
    | next => exact False.elim hq
    | brk => exact False.elim hq
    | cont => exact False.elim hq
/-- x op y, both of the class at C -/
def rOwn (C : Addr) (sp : Sp) (E : XK) : R2 := fun x y H Q => ∃ a dx fs b dy gs, x = .ref a ∧ H a = some (.ins C dx fs) ∧ y = .ref b ∧ H b = some (.ins C dy gs) ∧ sp [x, y] H Q E
theorem op_own {op : Operator} (hm : Meth X.K C (PySem.dunder op.info.2) f) (hc : PySem.W.selfFirst X.K C = true) (F : FnOk X.prog X.w X.K X.mg X.base CX k f fd ps sp) (hr : Room k X.A) (hb : Binds X.K fd ps []) (hx : Passes CX X E) :
    OpR X (binaryOp op) (rOwn C sp E) := by
  intro pins s σ H x y v u Q I rx ry h
  obtain ⟨a, dx, fs, b, dy, gs, rfl, ea, rfl, eb, h⟩ := h
  obtain rfl : v = Value.ref a := rx
  obtain rfl : u = Value.ref b := ry
  obtain ⟨od, J⟩ := I.instAt ea
  obtain ⟨od', J'⟩ := I.instAt eb
  obtain ⟨m, fr⟩ := I.fr
  refine PySem.W.binop_K fr I.ok.mod.kin J J'.type hc hm.at_ hm.fn (thn (run_fnA (us := [.ref a, .ref b]) (vs := [.ref a, .ref b]) (dvs := []) rfl F hr hb .nil hx I (.cons rfl (.cons rfl .nil)) h) fun w s' q => ?_)
  obtain ⟨v', H', I', rv, q⟩ := q
  exact cmpBack_of rv ⟨v', H', I', rv, q⟩
/-- x op i, an int on the right -/
def rOwnI (C : Addr) (sp : Sp) (E : XK) : R2 := fun x y H Q => ∃ a dx fs i, x = .ref a ∧ H a = some (.ins C dx fs) ∧ y = .int i ∧ sp [x, y] H Q E
structure OwnI (K : PySem.W.Frag) (C : Addr) (op : Operator) : Prop where
  r : ∃ rc, PySem.W.findIn K (.ref C) (dunderR op.info.2) = some rc ∧ (rc = none ∨ ∃ g : Addr, rc = some (.ref g))
  i1 : ∃ fo, PySem.W.findIn K (.type "int") (PySem.dunder op.info.2) = some fo
  i2 : ∃ ro, PySem.W.findIn K (.type "int") (dunderR op.info.2) = some ro
  sub : PySem.W.subIn K (.type "int") (.ref C) = some false
theorem op_ownI {op : Operator} (hm : Meth X.K C (PySem.dunder op.info.2) f) (hc : PySem.W.selfFirst X.K C = true) (hi : OwnI X.K C op) (F : FnOk X.prog X.w X.K X.mg X.base CX k f fd ps sp) (hr : Room k X.A) (hb : Binds X.K fd ps []) (hx : Passes CX X E) :
    OpR X (binaryOp op) (rOwnI C sp E) := by
  intro pins s σ H x y v u Q I rx ry h
  obtain ⟨a, dx, fs, i, rfl, ea, rfl, h⟩ := h
  obtain rfl : v = Value.ref a := rx
  obtain ⟨t, rfl⟩ := (show ∃ t, u = Value.int i t from ry)
  obtain ⟨od, J⟩ := I.instAt ea
  obtain ⟨m, fr⟩ := I.fr
  obtain ⟨⟨rc, h1, h2⟩, ⟨fo, h3⟩, ⟨ro, h4⟩, h5⟩ := hi
  refine PySem.W.ksp_binT (T := "int") fr I.ok.mod.kin J rfl hc hm.at_ hm.fn h1 h2 h3 h4 h5 (thn (run_fnA (us := [.ref a, .int i t]) (vs := [.ref a, .int i]) (dvs := []) rfl F hr hb .nil hx I (.cons rfl (.cons ⟨t, rfl⟩ .nil)) h) fun w s' q => ?_)
  obtain ⟨v', H', I', rv, q⟩ := q
  exact cmpBack_of rv ⟨v', H', I', rv, q⟩
/-- -x -/
def rOwn1 (C : Addr) (sp : Sp) (E : XK) : V → Hp → VK → Prop := fun x H Q => ∃ a dx fs, x = .ref a ∧ H a = some (.ins C dx fs) ∧ sp [x] H Q E
theorem un_own (hm : Meth X.K C "__neg__" f) (F : FnOk X.prog X.w X.K X.mg X.base CX k f fd ps sp) (hr : Room k X.A) (hb : Binds X.K fd ps []) (hx : Passes CX X E) :
    UnR X (unaryOp .USub) (rOwn1 C sp E) := by
  intro pins s σ H x v Q I rx h
  obtain ⟨a, dx, fs, rfl, ea, h⟩ := h
  obtain rfl : v = Value.ref a := rx
  obtain ⟨od, J⟩ := I.instAt ea
  obtain ⟨m, fr⟩ := I.fr
  exact PySem.W.ksp_neg fr I.ok.mod.kin J hm.at_ hm.fn (run_fnA (us := [.ref a]) (vs := [.ref a]) (dvs := []) rfl F hr hb .nil hx I (.cons rfl .nil) h)
/-- truth by an own __bool__ -/
def rOwnT (C : Addr) (sp : Sp) (E : XK) : V → Hp → (Bool → Hp → Prop) → Prop := fun x H Q => ∃ a dx fs, x = .ref a ∧ H a = some (.ins C dx fs) ∧ sp [x] H (fun v H' => ∃ b, v = .bl b ∧ Q b H') E
theorem tru_ownA {A : Around} (hfA : A.frames = X.A.frames) (hm : Meth X.K C "__bool__" f) (F : FnOk X.prog X.w X.K X.mg X.base CX k f fd ps sp) (hr : Room k A) (hb : Binds X.K fd ps []) (hx : Passes CX X E) {pins : List (Addr × Obj)} {s : Shared} {σ : St} {H : Hp} {x : V} {v : Value} {Q : Bool → Hp → Prop}
    (I : Inv X pins σ H s) (rx : RelV x v) (h : rOwnT C sp E x H Q) : wpAny (model X.prog X.w) A (truthy v) (TP X pins σ Q) X.xe s := by
  obtain ⟨a, dx, fs, rfl, ea, h⟩ := h
  obtain rfl : v = Value.ref a := rx
  obtain ⟨od, J⟩ := I.instAt ea
  obtain ⟨m, fr⟩ := I.fr
  refine PySem.W.truthy_K fr I.ok.mod.kin J hm.at_ hm.fn (thn (run_fnA (us := [.ref a]) (vs := [.ref a]) (dvs := []) hfA F hr hb .nil hx I (.cons rfl .nil) h) fun w s' q => ?_)
  obtain ⟨v', H', I', rv, b, rfl, q⟩ := q
  obtain rfl : w = Value.bool b := rv
  exact ⟨H', I', q⟩
theorem tru_own (hm : Meth X.K C "__bool__" f) (F : FnOk X.prog X.w X.K X.mg X.base CX k f fd ps sp) (hr : Room k X.A) (hb : Binds X.K fd ps []) (hx : Passes CX X E) : TruR X (rOwnT C sp E) :=
  fun _ _ _ _ _ _ _ I rx h => tru_ownA rfl hm F hr hb hx I rx h
/-- v in x, by an own __contains__ that hands back a bool -/
def rOwnIn (C : Addr) (sp : Sp) (E : XK) : R2 := fun y x H Q => ∃ a dx fs, x = .ref a ∧ H a = some (.ins C dx fs) ∧ sp [x, y] H (fun v H' => ∃ b, v = .bl b ∧ Q (.bl b) H') E
theorem op_inOwn (hm : Meth X.K C "__contains__" f) (F : FnOk X.prog X.w X.K X.mg X.base CX k f fd ps sp) (hr : Room k X.A) (hb : Binds X.K fd ps []) (hx : Passes CX X E) : OpR X (compareOp .In) (rOwnIn C sp E) := by
  intro pins s σ H y x v u Q I ry rx h
  obtain ⟨a, dx, fs, rfl, ea, h⟩ := h
  obtain rfl : u = Value.ref a := rx
  obtain ⟨od, J⟩ := I.instAt ea
  obtain ⟨m, fr⟩ := I.fr
  refine PySem.W.in_K fr I.ok.mod.kin J hm.at_ hm.fn (thn (run_fnA (us := [.ref a, v]) (vs := [.ref a, y]) (dvs := []) rfl F hr hb .nil hx I (.cons rfl (.cons ry .nil)) h) fun w s' q => ?_)
  obtain ⟨v', H', I', rv, b, rfl, q⟩ := q
  obtain rfl : w = Value.bool b := rv
  exact wpAny_truthy_bool ⟨.bl b, H', I', rfl, q⟩
/-- len(x) by an own __len__ -/
def rOwnLen (C : Addr) (sp : Sp) (E : XK) : List V → Hp → VK → Prop := fun xs H Q => ∃ a dx fs, xs = [.ref a] ∧ H a = some (.ins C dx fs) ∧ sp [.ref a] H (fun v H' => ∃ n : Int, v = .int n ∧ 0 ≤ n ∧ n < 2 ^ 63 ∧ Q (.int n) H') E
theorem call_lenOwn (hm : Meth X.K C "__len__" f) (F : FnOk X.prog X.w X.K X.mg X.base CX k f fd ps sp) (hr : Room (k + 1) X.A) (hb : Binds X.K fd ps []) (hx : Passes CX X E) : CallR X (.builtin "len") (rOwnLen C sp E) := by
  intro pins s σ H xs us Q I r h
  obtain ⟨a, dx, fs, rfl, ea, h⟩ := h
  obtain ⟨u, rfl, ru⟩ := vals1 r
  obtain rfl : u = Value.ref a := ru
  obtain ⟨od, J⟩ := I.instAt ea
  obtain ⟨m, fr⟩ := I.fr
  refine PySem.W.len_K fr I.ok.mod.kin J hm.at_ hm.fn (thn (run_fnA (A := X.A.in1) (us := [.ref a]) (vs := [.ref a]) (dvs := []) rfl F hr.in1 hb .nil hx I (.cons rfl .nil) h) fun w s' q => ?_)
  obtain ⟨v', H', I', rv, n, rfl, h0, h1, q⟩ := q
  obtain ⟨t, rfl⟩ := (show ∃ t, w = Value.int n t from rv)
  exact ⟨⟨h0, h1⟩, .int n, H', I'.tok _, ⟨_, rfl⟩, q⟩
end
end L2

namespace L2
open PySem PySem.Spec PyProof.Rows
section
variable {X : Cx} {CX : CXT} {k : Nat} {f C : Addr} {fd : FuncData} {ps : List Str} {sp : Sp} {E : XK}
theorem meets_bool_any {prog : Program} {w : World} (x : Value) : MeetsIn prog w (Builtin.«bool.__new__» ⟨[.type "bool", x], []⟩) (fun A R s => wpAny (model prog w) A.in1 (truthy x) (fun b s' => R (.ok (.ret (.bool b))) s') (fun e s' => R (.error e) s') s) :=
  MeetsIn.of_wp fun A R s hs => by
    have f1 := F.conv_sub_bool
    obtain ⟨hp, g, d, tk, os⟩ := s
    repeat (any_goals (first | assumption | (with_reducible refine wpAny_bind (wpAny_mono hs (fun b s' q => ?_) fun _ _ z => z)) | (with_reducible refine wpAny_mono hs (fun b s' q => ?_) fun _ _ z => z) | wp_step))
    all_goals first | exact ⟨_, rfl, q⟩ | exact q | skip
/-- bool(x), by an own __bool__ -/
def rBoolOwn (C : Addr) (sp : Sp) (E : XK) : List V → Hp → VK → Prop := fun xs H Q => ∃ x, xs = [x] ∧ rOwnT C sp E x H fun b H' => Q (.bl b) H'
theorem call_boolOwn (hm : Meth X.K C "__bool__" f) (Fk : FnOk X.prog X.w X.K X.mg X.base CX k f fd ps sp) (hr : Room (k + 2) X.A) (hb : Binds X.K fd ps []) (hx : Passes CX X E) : CallR X (.type "bool") (rBoolOwn C sp E) := by
  intro pins s σ H xs us Q I r h
  obtain ⟨x, rfl, h⟩ := h
  obtain ⟨u, rfl, ru⟩ := vals1 r
  refine callType_newIn PySem.F.called_bool PySem.F.newNe_bool (PySem.F.typeCall_bool_1 u) (PySem.F.newCall_bool_1 u) (fun obj => PySem.F.args_object_init_2 obj u) PySem.F.entry_bool_new (meets_bool_any u) ?_
  refine thn (tru_ownA (A := X.A.in1.in1) rfl hm Fk hr.in1.in1 hb hx I ru h) fun b s' ⟨H', I', q⟩ => ?_
  exact ⟨rfl, .bl b, H', I', rfl, q⟩
end
end L2
namespace L2
open PySem PySem.Spec PyProof.Rows
section
variable {X : Cx} {CX : CXT} {k : Nat} {f C : Addr} {fd : FuncData} {ps : List Str} {sp : Sp} {E : XK}
/-- x == y by an own __eq__, y of the class or of a kind that is no subclass of it -/
def rEqOwn (K : PySem.W.Frag) (C : Addr) (sp : Sp) (E : XK) : R2 := fun x y H Q => ∃ a dx fs t, x = .ref a ∧ H a = some (.ins C dx fs) ∧ TyX K H y t ∧ PySem.W.notFirst K C t = true ∧ sp [x, y] H Q E
theorem op_eqOwn (hm : Meth X.K C "__eq__" f) (F : FnOk X.prog X.w X.K X.mg X.base CX k f fd ps sp) (hr : Room k X.A) (hb : Binds X.K fd ps []) (hx : Passes CX X E) : OpR X (compareOp .Eq) (rEqOwn X.K C sp E) := by
  intro pins s σ H x y v u Q I rx ry h
  obtain ⟨a, dx, fs, t, rfl, ea, ty, hn, h⟩ := h
  obtain rfl : v = Value.ref a := rx
  obtain ⟨od, J⟩ := I.instAt ea
  obtain ⟨m, fr⟩ := I.fr
  obtain ⟨P, Z, p, _⟩ := kit_of I ry ty
  have hb' := Z.ty (model X.prog X.w) _ I.kIn p
  show wpAny _ _ (richCompare .Eq (.ref a) u) _ _ _
  refine PySem.W.cmp_K (op := .Eq) hr.units0 fr I.ok.mod.kin J hb' hn hm.at_ hm.fn (thn (run_fnA (us := [.ref a, u]) (vs := [.ref a, y]) (dvs := []) rfl F hr hb .nil hx I (.cons rfl (.cons ry .nil)) h) fun w s' q => ?_)
  obtain ⟨v', H', I', rv, q⟩ := q
  exact cmpBack_of rv ⟨v', H', I', rv, q⟩
end
end L2
namespace PySem.W
open PySem PySem.Spec PySem.Calls PyProof.Rows
section
variable {prog : Program} {w : World} {A : Around} {E : Value → Shared → Prop} {s : Shared} {K : Frag} {x D : Addr} {ox : Obj}
theorem gb_kitx_exc {od : Option Obj} (hga : findIn K (.ref D) "__getattribute__" = some (some (.builtin "BaseException.__getattribute__"))) (hgt : findIn K (.ref D) "__getattr__" = some none) (hsub : subIn K (.ref D) (.type "BaseException") = some true) (hdct : hasDictIn K D = true) (ha : findIn K (.ref D) "__class__" = some (some (.builtin "object.__class__")))
    (hn : specialIn K (.builtin "object.__class__") "__get__" = some (some (.builtin "getset_descriptor.__get__"))) (htk : takesIn K (.builtin "object.__class__") = some true) (hm : mroIn K D (.type "object") = some true) :
    KitX K (.ref x) (.ref D) (fun h => InstAt h x ox D od) where
  ty := fun _ _ _ I => I.type
  it := fun _ _ X _ => by
    obtain ⟨cdD, hcD, _⟩ := any_some hdct
    unfold clsIn at hcD
    split at hcD
    · rename_i c' d' cd' sl' ho
      intro A' Q' E' s' k q
      unfold isType loadHead
      exact wpAny_bind (wpAny_loadPart (k _ _ (X _ _ ho)) (wpAny_pure q))
    · cases hcD
  ne := fun h tp dd its n sl X htp => by
    obtain ⟨cdD, hcD, _⟩ := any_some hdct
    refine Bool.eq_false_iff.mpr fun q => ?_
    have e : D = tp := Value.ref.inj (beq_iff_eq.mp q)
    subst e
    unfold clsIn at hcD
    split at hcD
    · rename_i c' d' cd' sl' ho
      have z := (X _ _ ho).symm.trans htp
      cases z
    · cases hcD
  ca := fun X I k => kx_classE X I hga hgt hsub (findObj_dataE (by obtain ⟨cd, hc, _⟩ := any_some hdct; rw [hc]; rfl) ha hn htk) hm k
end
end PySem.W
namespace L2
open PySem PySem.Spec PyProof.Rows
/-- isinstance(e, c), e the exception that the suite holds, with its own dict -/
def rIsX (K : PySem.W.Frag) (a : Addr) (cls : Value) (d : Option Addr) : List V → Hp → VK → Prop := fun xs H Q => ∃ (c : V) (cv : Value) (b : Bool) (D dd : Addr) (fs : List (Str × V)), xs = [.ref a, c] ∧ (∀ u, RelV c u → u = cv) ∧ cls = .ref D ∧ ExcC K D ∧ d = some dd ∧ H dd = some (.xd fs) ∧ PySem.W.kitOne K (.ref D) cv = some b ∧ Q (.bl b) H
theorem instX {X : Cx} {pins : List (Addr × Obj)} {σ : St} {H : Hp} {s : Shared} {a D dd : Addr} {oe : Obj} {pn : List (Addr × Obj)} {fs : List (Str × V)} (I : Inv (X.suite a ((a, oe) :: pn)) pins σ H s) (hz : Zc (.ref D) (some dd) oe) (hf : ∃ vs, oe.data = .fields vs) (he : H dd = some (.xd fs)) : ∃ od, PySem.W.InstAt s.heap a oe D (some od) := by
  obtain ⟨hget, _⟩ := I.pin (a, oe) (List.mem_append.mpr (.inl List.mem_cons_self))
  obtain ⟨vs, hv⟩ := hf
  obtain ⟨mA, ⟨od, es, ep, e1, e2, e3⟩, r⟩ := (show ObjOk X.prog X.w H s.heap dd (.xd fs) from I.hok dd _ he)
  exact ⟨od, hget, hz.1, by unfold PySem.W.notCls; rw [hv] <;> rfl, by rw [hz.2]; exact e1⟩
theorem call_isX {X : Cx} {a : Addr} {cls : Value} {d : Option Addr} {oe : Obj} {pn : List (Addr × Obj)} (hz : Zc cls d oe) (hf : ∃ vs, oe.data = .fields vs) : CallR (X.suite a ((a, oe) :: pn)) (.builtin "isinstance") (rIsX X.K a cls d) := by
  intro pins s σ H xs us Q I r h
  obtain ⟨c, cv, b, D, dd, fs, rfl, hcv, rfl, C, rfl, hd, e, q⟩ := h
  obtain ⟨u1, u2, rfl, rx, rt⟩ := vals2 r
  cases rx
  have ec := hcv _ rt
  subst ec
  obtain ⟨od, J⟩ := instX I hz hf hd
  exact PySem.W.kia_one (PySem.W.gb_kitx_exc C.hg C.hk C.hs C.hd C.ha C.hn C.ht C.hm) I.kIn J e (fun z => nomatch z) fun tk => ⟨.bl b, H, I.kept (t' := tk) fun _ _ z => z, rfl, q⟩
/-- isinstance(e, (c1, c2, ..)) -/
def rIsXT (K : PySem.W.Frag) (a : Addr) (cls : Value) (d : Option Addr) : List V → Hp → VK → Prop := fun xs H Q => ∃ (tp : Addr) (cs : List V) (us : List Value) (b : Bool) (D dd : Addr) (fs : List (Str × V)), xs = [.ref a, .ref tp] ∧ H tp = some (.tup cs) ∧ Paired ClsV cs us ∧ cls = .ref D ∧ ExcC K D ∧ d = some dd ∧ H dd = some (.xd fs) ∧ PySem.W.kitAny K (.ref D) us = some b ∧ Q (.bl b) H
theorem call_isXT {X : Cx} {a : Addr} {cls : Value} {d : Option Addr} {oe : Obj} {pn : List (Addr × Obj)} (hz : Zc cls d oe) (hf : ∃ vs, oe.data = .fields vs) : CallR (X.suite a ((a, oe) :: pn)) (.builtin "isinstance") (rIsXT X.K a cls d) := by
  intro pins s σ H xs us Q I r h
  obtain ⟨tp, cs, ws, b, D, dd, fs, rfl, hT, k, rfl, C, rfl, hd, e, q⟩ := h
  obtain ⟨u1, u2, rfl, rx, rt⟩ := vals2 r
  cases rx
  cases (show u2 = Value.ref tp from rt)
  obtain ⟨od, J⟩ := instX I hz hf hd
  obtain ⟨_, its, rv, o, h1, h2, n, h3⟩ := (show ObjOk X.prog X.w H s.heap tp (.tup cs) from I.hok tp _ hT)
  have e3 := ClsV.all k rv
  subst e3
  obtain ⟨oc, od, dt, sl⟩ := o
  simp only at h2 h3
  subst h2 h3
  exact PySem.W.kia_tup (PySem.W.gb_kitx_exc C.hg C.hk C.hs C.hd C.ha C.hn C.ht C.hm) I.kIn J h1 e (fun z => nomatch z) fun tk => ⟨.bl b, H, I.kept (t' := tk) fun _ _ z => z, rfl, q⟩
theorem exc_heap {H : Hp} {a d : Addr} {o1 o2 o3 u : HO} (h : H a = none) : upd (del (upd (upd (upd H a o1) d o2) a o3) a) d u = upd H d u := by
  funext b
  by_cases hd : b = d
  · subst hd; rw [upd_same, upd_same]
  · rw [upd_ne hd, upd_ne hd]
    by_cases ha : b = a
    · subst ha; rw [del_same, h]
    · rw [del_ne ha, upd_ne ha, upd_ne hd, upd_ne ha]
/-- what the classes of errors are, over one base with __init__(self, subject) -/
structure GExc (K : PySem.W.Frag) (C fI : Addr) : Prop where
  oex : OexC K C
  iC : PySem.W.findIn K (.ref C) "__init__" = some (some (.ref fI))
  tI : PySem.W.typeIn K (.ref fI) = some (.type "function")
  noS : PySem.W.findIn K (.ref C) "subject" = some none
/-- __init__(self, subject): self.subject = subject -/
def spGI (K : PySem.W.Frag) : Sp := fun vs H Q _ => ∃ (a C : Addr) (v : V), vs = [.ref a, v] ∧ OexC K C ∧ PySem.W.findIn K (.ref C) "subject" = some none ∧ H a = some (exo a C none) ∧
  ∀ dx, H dx = none → dx ≠ a → Q .non (upd (upd H dx (exd dx [(("subject" : Str), v)])) a (exo a C (some dx)))
/-- raise X(e): what it wants of e's value and the heap behind it -/
def RaiseG (K : PySem.W.Frag) (C : Addr) (W : WX) (σ : St) (v : V) (H1 : Hp) : Prop := ([v] : List V).length ≤ 1000 ∧ ∀ a, H1 a = none → spGI K (.ref a :: ([v] ++ [])) (upd H1 a (exo a C none))
  (fun v' H2 => v' = .non ∧ ∃ (d : Addr) (fs : List (Str × V)), H2 a = some (exo a C (some d)) ∧ H2 d = some (exd d fs) ∧ H1 d = none ∧ W (.ref C) (some d) σ (upd (del H2 a) d (.xd fs))) (fun _ _ _ => False)
theorem raiseG_in {K : PySem.W.Frag} {C fI : Addr} {W : WX} {σ : St} {v : V} {H1 : Hp} (T : GExc K C fI) (h : ∀ d, H1 d = none → W (.ref C) (some d) σ (upd H1 d (.xd [(("subject" : Str), v)]))) : RaiseG K C W σ v H1 := by
  refine ⟨by show 1 ≤ 1000; decide, fun a ha => ⟨a, C, v, rfl, T.oex, T.noS, upd_same, fun dx hdx hne => ⟨rfl, dx, [(("subject" : Str), v)], upd_same, ?_, ?_, ?_⟩⟩⟩
  · rw [upd_ne hne, upd_same]
  · rw [upd_ne hne] at hdx; exact hdx
  · rw [exc_heap ha]
    rw [upd_ne hne] at hdx
    exact h dx hdx
def tRaiseG (K : PySem.W.Frag) (C : Addr) (W : WX) (te : TE) : TS := fun _ σ H => te σ H fun v H1 => RaiseG K C W σ v H1
theorem ps_raiseG {X : Cx} {x : Str} {C fI : Addr} {k : Nat} {fd : FuncData} {ps : List Str} {W : WX} {e : Expr} {te : TE} {p pos pos2 : Pos} (hc : X.calm = true) (T : GExc X.K C fI)
    (F1 : FnOk X.prog X.w X.K X.mg X.base CX0 k fI fd ps (spGI X.K)) (hr : Room (k + 1) X.A) (hb : Binds X.K fd ps []) (hg : Gl X x) (hm : X.mg x = some (.ref C)) (tk : Takes X W) (ha : PE X e te)
    (hdb : (x == ("__debug__" : Str)) = false := by decide) (he : starEach [e] X.env = (false, eval e X.env) :: starEach [] X.env := by rfl) (hpl : (backTo pos (starEach [] X.env)).any (·.1) = false := by rfl) :
    PS X (.Raise (some (.Call (.Name x p) [e] [] pos)) none pos2) (tRaiseG X.K C W te) :=
  ps_raise (pos := pos2) hc tk (pmk_oex (p := p) (pos := pos) (dvs := []) T.oex T.iC T.tI F1 hr hb .nil (fun _ _ _ _ _ _ _ h => h.elim) hg hm (pa_cons ha pa_nil he) hdb he hpl)
/-- C(e, ..) of an own class in a try's body -/
def tMakeS (C : Addr) (sp : Sp) (E : St → XK) (t : TA) : TE := fun σ H Q => t σ H fun vs H1 => ∀ x dx, H1 x = none → H1 dx = none → dx ≠ x →
  sp (.ref x :: vs) (upd (upd H1 dx (.own x)) x (.ins C dx [])) (fun v H2 => v = .non ∧ Q (.ref x) H2) (E σ)
section
variable {X : Cx} {CX : CXT} {k : Nat} {f C : Addr} {fd : FuncData} {ps : List Str} {sp : Sp} {E : St → XK} {x : Str} {p pos : Pos} {e : Expr} {es : List Expr} {t : TA} {ta tb : TE}
theorem run_makeS {pins : List (Addr × Obj)} {σ : St} {H : Hp} {s : Shared} {Q : VK} {us : List Value} {vs : List V} (M : Mk X.K C f) (F : FnOk X.prog X.w X.K X.mg X.base CX k f fd ps sp) (hr : Room (k + 1) X.A) (hb : Binds X.K fd ps [])
    (hx : PassesAt CX X σ (E σ)) (I : Inv X pins σ H s) (r : Vals vs us)
    (h : ∀ x dx, H x = none → H dx = none → dx ≠ x → sp (.ref x :: vs) (upd (upd H dx (.own x)) x (.ins C dx [])) (fun v H2 => v = .non ∧ Q (.ref x) H2) (E σ)) :
    wpAny (model X.prog X.w) X.A (call (.ref C) us) (EP X pins σ Q) X.xe s := by
  have hq := h (s.heap.objs.size + 1) s.heap.objs.size (I.hok.fresh (Nat.le_succ _)) (I.hok.fresh (Nat.le_refl _)) (Nat.ne_of_lt (Nat.lt_succ_self _))
  have I2 := Inv.made (C := C) I
  have r2 : Vals (V.ref (s.heap.objs.size + 1) :: vs) (Value.ref (s.heap.objs.size + 1) :: us) := .cons rfl r
  have hl : (Value.ref (s.heap.objs.size + 1) :: us).length = ps.length := by
    have e := r2.length
    rw [F.len _ _ _ _ hq] at e
    exact e.symm
  have hb' := hb
  refine wpAny_call (make_map (f := f) I.kIn M.makes M.init (beq_iff_eq.mp M.fn) (codeAny_mono (F.run _ X.stack _ _ ⟨Value.ref (s.heap.objs.size + 1) :: us, []⟩ (Value.ref (s.heap.objs.size + 1) :: us) _ _ (E σ) (hr.make C us [])
    (I2.env0.make C us []) (by have z := hb _ (Value.ref (s.heap.objs.size + 1) :: us) I2.kIn (by rw [List.append_nil]; exact hl); rw [List.append_nil] at z; exact z) r2 hq) fun r s' hq' => ?_))
  cases r with
  | error e => exact hx pins _ _ e s' I2 hq'
  | ok fl =>
    cases fl with
    | ret u =>
      obtain ⟨v, H', I3, rv, ev, q3⟩ := I2.after hq'
      subst ev
      exact ⟨rv, ⟨V.ref (s.heap.objs.size + 1), H', I3, rfl, q3⟩⟩
    | next => exact False.elim hq'
    | brk => exact False.elim hq'
    | cont => exact False.elim hq'
theorem pe_makeS (M : Mk X.K C f) (F : FnOk X.prog X.w X.K X.mg X.base CX k f fd ps sp) (hr : Room (k + 1) X.A) (hg : Gl X x) (hm : X.mg x = some (.ref C)) (hb : Binds X.K fd ps []) (hx : ∀ σ, PassesAt CX X σ (E σ))
    (ha : PA X (e :: es) t) (hdb : (x == ("__debug__" : Str)) = false := by decide) (he : starEach (e :: es) X.env = (false, eval e X.env) :: starEach es X.env := by rfl) (hpl : (backTo pos (starEach es X.env)).any (·.1) = false := by rfl) :
    PE X (.Call (.Name x p) (e :: es) [] pos) (tMakeS C sp E t) := by
  refine ⟨fun pins s σ H Q I h => ?_⟩
  refine wpAny_Call_Name_kw (ld_glob I hg hm ?_ hdb)
  refine PySem.W.callWith_K (h₀ := X.base) I.ok.mod.kin M.kp (thn (ha.run pos pins s σ H _ I h) fun us s1 ⟨vs, H1, I1, r, q⟩ => ⟨I1.kIn, ?_⟩) he hpl
  exact run_makeS M F hr hb (hx σ) I1 r q
theorem run_fnS2 {pins : List (Addr × Obj)} {σ : St} {H : Hp} {s : Shared} {Q : VK} {us : List Value} {vs : List V} (F : FnOk X.prog X.w X.K X.mg X.base CX k f fd ps sp) (hr : Room k X.A) (hb : Binds X.K fd ps []) (hx : PassesAt CX X σ (E σ))
    (I : Inv X pins σ H s) (r : Vals vs us) (h : sp vs H Q (E σ)) : wpAny (model X.prog X.w) X.A (call (.ref f) us) (EP X pins σ Q) X.xe s :=
  run_fnSD (dvs := []) (ds := []) F hr hb .nil hx I r (by rw [List.append_nil]; exact h)
/-- x op y in a try's body: y of the class, or an int -/
def tOpS (C : Addr) (sp : Sp) (E : St → XK) (ta tb : TE) : TE := fun σ H Q => ta σ H fun x H1 => tb σ H1 fun y H2 => ∃ a dx fs, x = .ref a ∧ H2 a = some (.ins C dx fs) ∧ ((∃ b dy gs, y = .ref b ∧ H2 b = some (.ins C dy gs)) ∨ ∃ i, y = .int i) ∧ sp [x, y] H2 Q (E σ)
theorem pe_opS {op : Operator} (hm : Meth X.K C (PySem.dunder op.info.2) f) (hc : PySem.W.selfFirst X.K C = true) (hi : OwnI X.K C op) (F : FnOk X.prog X.w X.K X.mg X.base CX k f fd ps sp) (hr : Room k X.A) (hb : Binds X.K fd ps []) (hx : ∀ σ, PassesAt CX X σ (E σ))
    {l r : Expr} (ha : PE X l ta) (hb' : PE X r tb) : PE X (.BinOp l op r pos) (tOpS C sp E ta tb) := by
  refine ⟨fun pins s σ H Q I h => ?_⟩
  refine wpAny_BinOp (binT ha hb' I h fun v u s2 x y H2 I2 rx ry q => ?_)
  obtain ⟨a, dx, fs, rfl, ea, hy, q⟩ := q
  obtain rfl : v = Value.ref a := rx
  obtain ⟨od, J⟩ := I2.instAt ea
  obtain ⟨m, fr⟩ := I2.fr
  have run := run_fnS2 F hr hb (hx σ) I2 (.cons (show RelV (.ref a) (Value.ref a) from rfl) (.cons ry .nil)) q
  rcases hy with ⟨b, dy, gs, rfl, eb⟩ | ⟨i, rfl⟩
  · obtain rfl : u = Value.ref b := ry
    obtain ⟨od', J'⟩ := I2.instAt eb
    refine PySem.W.binop_K fr I2.ok.mod.kin J J'.type hc hm.at_ hm.fn (thn run fun w s' q => ?_)
    obtain ⟨v', H', I', rv, q⟩ := q
    exact cmpBack_of rv ⟨v', H', I', rv, q⟩
  · obtain ⟨t, rfl⟩ := (show ∃ t, u = Value.int i t from ry)
    obtain ⟨⟨rc, h1, h2⟩, ⟨fo, h3⟩, ⟨ro, h4⟩, h5⟩ := hi
    refine PySem.W.ksp_binT (T := "int") fr I2.ok.mod.kin J rfl hc hm.at_ hm.fn h1 h2 h3 h4 h5 (thn run fun w s' q => ?_)
    obtain ⟨v', H', I', rv, q⟩ := q
    exact cmpBack_of rv ⟨v', H', I', rv, q⟩
end
end L2
namespace L2
open PySem PySem.Spec PyProof.Rows
section
variable {X : Cx}
theorem rangeSize1 (a b : Int) : Builtin.Range.rangeSize a b 1 = if a < b then b - a else 0 := by
  unfold Builtin.Range.rangeSize
  rw [if_pos (by decide)]
  by_cases h : a < b
  · rw [if_pos h, if_pos h]; omega
  · rw [if_neg h, if_neg h]
theorem q_rlen (r : Addr) (a b : Int) (t u v : Tok) (hz : b - a < 2 ^ 63) :
    Meets (Builtin.«range.__len__» ⟨[.ref r], []⟩) (fun _ R s => s.heap.get? r = some { cls := .type "range", dict := none, data := .fields #[.int a t, .int b u, .int 1 v], slots := #[] } ∧ R (.ok (.ret (.int (if a < b then b - a else 0) s.toks))) { s with toks := s.toks + 1 }) :=
  .of_wp fun prog w A R s h => by
    obtain ⟨hp, g, d, tk, os⟩ := s
    obtain ⟨hl, h⟩ := h
    have hn : ¬ (Builtin.Range.rangeSize a b 1 ≥ 2 ^ 63) := by rw [rangeSize1]; split <;> omega
    wp_walk
    rw [rangeSize1] at hn ⊢
    rw [if_neg hn]
    wp_walk
    exact ⟨_, rfl, h⟩
/-- len(r), r a range with step 1 -/
def rLenRng : List V → Hp → VK → Prop := fun xs H Q => ∃ a lo hi, xs = [.ref a] ∧ H a = some (.rng lo hi) ∧ hi - lo < 2 ^ 63 ∧ Q (.int (if lo < hi then hi - lo else 0)) H
theorem call_lenRng : CallR X (.builtin "len") rLenRng := by
  intro pins s σ H xs us Q I r h
  obtain ⟨a, lo, hi, rfl, ea, hz, q⟩ := h
  obtain ⟨u, rfl, ru⟩ := vals1 r
  obtain rfl : u = Value.ref a := ru
  obtain ⟨t1, t2, t3, ho⟩ := I.hok a _ ea
  refine call_len_slot (T := "range") (n := if lo < hi then hi - lo else 0) ⟨_, ho, rfl⟩ PySem.F.slot_range_len (fun Q' q' => ?_) (by split <;> omega) (by split <;> omega) ⟨.int (if lo < hi then hi - lo else 0), H, (I.tok _), ⟨_, rfl⟩, q⟩
  exact call_meets PySem.F.slot_range_len ⟨_, ho, rfl⟩ PySem.F.entry_range_len (PySem.F.args_range_len_1 _) (q_rlen a lo hi t1 t2 t3 hz) ⟨ho, q'⟩
end
end L2
namespace L2
open PySem PySem.Spec PyProof.Rows
section
variable {X : Cx} {a : Expr} {ta : TE}
/-- * of any two ints whose product the machine takes -/
theorem op_mulX : OpR X (binaryOp .Mult) (rI IntMulOk fun i j => .int (i * j)) := opI fun _ _ _ _ _ _ _ hc q => mul_int q hc
theorem mulL {i j : Int} (h : -(2 ^ 64) < i ∧ i < 2 ^ 64) : IntMulOk i j := CMul.ok (.inl h)
theorem mulR {i j : Int} (h : -(2 ^ 64) < j ∧ j < 2 ^ 64) : IntMulOk i j := CMul.ok (.inr h)
/-- a test by an own truth -/
theorem pt_own {r : V → Hp → (Bool → Hp → Prop) → Prop} (ht : TruR X r) (ha : PE X a ta) (he : ∀ whole, isTrue a X.env whole = (do let v ← whole; standAt a.pos; holding [v] (truthy v)) := by intro _; rfl) :
    PT X a (fun σ H Q => ta σ H fun x H' => r x H' Q) := by
  refine ⟨fun pins s σ H Q I h => ?_⟩
  rw [he]
  refine wpAny_bind (thn (ha.run pins s σ H _ I h) fun v s1 ⟨x, H1, I1, r1, q1⟩ => ?_)
  exact wpAny_bind (wpAny_standAt (wpAny_holding (ht pins s1 σ H1 x v Q I1 r1 q1)))
end
/-- what was tracked stays, but for what stands at p -/
def SameBut (p : Addr) (H H' : Hp) : Prop := ∀ b o, b ≠ p → H b = some o → H' b = some o
theorem SameBut.refl {p : Addr} {H : Hp} : SameBut p H H := fun _ _ _ h => h
theorem SameBut.trans {p : Addr} {H H1 H2 : Hp} (a : SameBut p H H1) (b : SameBut p H1 H2) : SameBut p H H2 := fun c o n h => b c o n (a c o n h)
theorem Same.but {p : Addr} {H H' : Hp} (a : Same H H') : SameBut p H H' := fun c o _ h => a c o h
theorem same_new {H : Hp} {p : Addr} {o : HO} (h : H p = none) : Same H (upd H p o) := fun b u e => by rw [upd_ne (ne_of_none e h)]; exact e
theorem sameBut_upd {H : Hp} {p : Addr} {o : HO} : SameBut p H (upd H p o) := fun b u n e => by rw [upd_ne n]; exact e
theorem Same.seqT {K : PySem.W.Frag} {H H' : Hp} {a : Addr} {xs : List V} (e : Same H H') (h : SqT K H a xs) : SqT K H' a xs := by
  rcases h with (h | ⟨o, h⟩) | h
  · exact .inl (.inl (e _ _ h))
  · exact .inl (.inr ⟨o, e _ _ h⟩)
  · exact .inr h
theorem getMap {xs : List Int} {i : Nat} {y : V} (h : (xs.map V.int)[i]? = some y) : ∃ z, xs[i]? = some z ∧ y = V.int z := by
  rw [List.getElem?_map] at h
  cases e : xs[i]? with
  | none => rw [e] at h; cases h
  | some z => rw [e] at h; exact ⟨z, rfl, (Option.some.inj h).symm⟩
theorem bitsMul {i j : Int} (hi : Builtin.Int.intBits i ≤ 1048576) (hj : Builtin.Int.intBits j ≤ 1048576) : IntMulOk i j := IntMulOk.of_le hi hj (by decide)

theorem iteD {p : Prop} [Decidable p] {A B : Prop} (h1 : p → A) (h2 : ¬ p → B) : if decide p = true then A else B := by
  by_cases h : p
  · rw [decide_eq_true h, if_pos rfl]; exact h1 h
  · rw [decide_eq_false h, if_neg Bool.false_ne_true]; exact h2 h
theorem iteDN {p : Prop} [Decidable p] {A B : Prop} (h1 : p → B) (h2 : ¬ p → A) : if (!decide p) = true then A else B := by
  by_cases h : p
  · rw [decide_eq_true h]; exact iteF (h1 h)
  · rw [decide_eq_false h]; exact iteT (h2 h)
theorem qd {Q : VK} {H : Hp} {p q : Prop} [Decidable p] [Decidable q] (e : p ↔ q) (h : Q (.bl (decide p)) H) : Q (.bl (decide q)) H := by
  have z : decide p = decide q := by
    by_cases c : p
    · rw [decide_eq_true c, decide_eq_true (e.mp c)]
    · rw [decide_eq_false c, decide_eq_false fun y => c (e.mpr y)]
  rw [← z]; exact h
theorem qt {Q : VK} {H : Hp} {p : Prop} [Decidable p] (c : p) (h : Q (.bl (decide p)) H) : Q (.bl true) H := by
  rw [decide_eq_true c] at h; exact h
theorem qf {Q : VK} {H : Hp} {p : Prop} [Decidable p] (c : ¬ p) (h : Q (.bl (decide p)) H) : Q (.bl false) H := by
  rw [decide_eq_false c] at h; exact h

/-! ### the pool of draws -/
/-- the list of the pool: four ints, then ints of at least 1 -/
def poolL (a b c n : Int) (bs : List Int) : List V := [.int a, .int b, .int c, .int n] ++ bs.map V.int
def PoolAt (H : Hp) (p : Addr) : Prop := ∃ a b c n bs, H p = some (.lst (poolL a b c n bs)) ∧ bs.length ≤ 63 ∧ ∀ z ∈ bs, 1 ≤ z
theorem pool_len (a b c n : Int) (bs : List Int) : (poolL a b c n bs).length = 4 + bs.length := by
  unfold poolL; rw [List.length_append, List.length_map]; rfl
theorem pool_at0 {a b c n : Int} {bs : List Int} : atI (poolL a b c n bs) 0 = some (.int a) := atI_nat (j := 0) rfl
theorem pool_at1 {a b c n : Int} {bs : List Int} : atI (poolL a b c n bs) 1 = some (.int b) := atI_nat (j := 1) rfl
theorem pool_at2 {a b c n : Int} {bs : List Int} : atI (poolL a b c n bs) 2 = some (.int c) := atI_nat (j := 2) rfl
theorem pool_at3 {a b c n : Int} {bs : List Int} : atI (poolL a b c n bs) 3 = some (.int n) := atI_nat (j := 3) rfl
theorem pool_at4 {a b c n z : Int} {bs : List Int} : atI (poolL a b c n (z :: bs)) 4 = some (.int z) := atI_nat (j := 4) rfl
theorem ixN_of {n : Nat} {j : Nat} (h : j < n) : ixN n (j : Int) = some j := by
  unfold ixN
  rw [if_pos (by omega), if_pos (by omega)]
  simp
theorem pool_ix {a b c n : Int} {bs : List Int} (j : Nat) (h : j < 4) : ixN (poolL a b c n bs).length (j : Int) = some j := ixN_of (by rw [pool_len]; omega)
theorem pool_ix4 {a b c n z : Int} {bs : List Int} : ixN (poolL a b c n (z :: bs)).length 4 = some 4 := ixN_of (j := 4) (by rw [pool_len, List.length_cons]; omega)
theorem pool_seq4 {a b c n z : Int} {bs : List Int} : seqIndex? 4 (poolL a b c n (z :: bs)).length = some 4 := (ixN_seq pool_ix4).1
theorem PoolAt.of {H : Hp} {p : Addr} {a b c n : Int} {bs : List Int} (h : H p = some (.lst (poolL a b c n bs))) (hl : bs.length ≤ 63) (hz : ∀ z ∈ bs, 1 ≤ z) : PoolAt H p := ⟨a, b, c, n, bs, h, hl, hz⟩
theorem PoolAt.mono {H H' : Hp} {p : Addr} (h : PoolAt H p) (e : Same H H') : PoolAt H' p := let ⟨a, b, c, n, bs, q, hl, hz⟩ := h; ⟨a, b, c, n, bs, e _ _ q, hl, hz⟩
theorem PoolAt.ne {H : Hp} {p q : Addr} (h : PoolAt H p) (hq : H q = none) : p ≠ q := let ⟨_, _, _, _, _, e, _, _⟩ := h; ne_of_none e hq
theorem same_of_but {H H' : Hp} {p : Addr} (hp : H p = none) (s : SameBut p H H') : Same H H' := fun b o e => s b o (ne_of_none e hp) e
theorem dp2 {K : PySem.W.Frag} {H : Hp} {t : Addr} {a b : Int} (h : SqT K H t [.int a, .int b]) : Dp K H (.ref t) (.tuple [.int a, .int b]) := .tup h (.cons (.int a) (.cons (.int b) .nil))
theorem eqv2 (a b : Int) : PyData.eqv (.tuple [.int a, .int b]) (.tuple [.int a, .int b]) = true := by simp [PyData.eqv, PyData.eqvAll]
theorem eqv22 (a b c d : Int) : PyData.eqv (.tuple [.int a, .int b]) (.tuple [.int c, .int d]) = decide (a = c ∧ b = d) := by
  simp [PyData.eqv, PyData.eqvAll, Bool.decide_and]
  try rfl
theorem andV_two {p q : Prop} [Decidable p] [Decidable q] {Qk : VK} {σ : L2.St} {H : Hp} {tb : TE} (h1 : Qk (.bl (decide q)) H → tb σ H Qk) (h : Qk (.bl (decide p && decide q)) H) : if decide p = true then tb σ H Qk else Qk (.bl false) H := by
  by_cases c : p
  · rw [decide_eq_true c] at h ⊢; exact h1 h
  · rw [decide_eq_false c] at h ⊢; rw [if_neg Bool.false_ne_true]; exact h
theorem notFirst_self {K : PySem.W.Frag} {C : Addr} : PySem.W.notFirst K C (.ref C) = true := by unfold PySem.W.notFirst; simp
def spPool (K : PySem.W.Frag) : Sp := fun vs H Q _ => ∃ (a : Addr) (ns : List Int), vs = [.ref a] ∧ SqL K H a (ns.map V.int) ∧ ns.length ≤ 63 ∧ (∀ z ∈ ns, Builtin.Int.intBits z ≤ 1048576) ∧
  ∀ p H', H p = none → PoolAt H' p → SameBut p H H' → Q (.ref p) H'
def spDraw : Sp := fun vs H Q _ => ∃ (p : Addr) (m : Int), vs = [.ref p, .int m] ∧ PoolAt H p ∧ 1 ≤ m ∧ m < 1073741824 ∧ ∀ r H', 0 ≤ r → r < m → PoolAt H' p → SameBut p H H' → Q (.int r) H'

/-! ### the rules that speak of K, by the K at hand -/
section
variable {X : Cx} {o e : Expr} {ta tl : TE} {tg : Expr} {f : Str} {pos : Pos}
theorem op_eqDK (K : PySem.W.Frag) (hu : X.A.units + 64 < cLine) (hK : X.K = K := by rfl) : OpR X (compareOp .Eq) (rEqD K) := hK ▸ op_eqD hu
theorem op_neDK (K : PySem.W.Frag) (hu : X.A.units + 64 < cLine) (hK : X.K = K := by rfl) : OpR X (compareOp .NotEq) (rNeD K) := hK ▸ op_neD hu
theorem ix_tupK (K : PySem.W.Frag) (hK : X.K = K := by rfl) : IxR X (rIxT K) := hK ▸ ix_tup
theorem ix_listK (K : PySem.W.Frag) (hK : X.K = K := by rfl) : IxR X (rIxL K) := hK ▸ ix_list
theorem pe_fldK (K : PySem.W.Frag) (he : PE X e ta) (hb : attributeBase e f X.env (eval e X.env) = eval e X.env) (hK : X.K = K := by rfl) : PE X (.Attribute e f pos) (tFld K ta f) := hK ▸ pe_fld he hb
theorem op_in_seqK (K : PySem.W.Frag) (hK : X.K = K := by rfl) : OpR X (compareOp .In) (rIn K false) := hK ▸ op_in_seq
theorem op_notIn_seqK (K : PySem.W.Frag) (hK : X.K = K := by rfl) : OpR X (compareOp .NotIn) (rIn K true) := hK ▸ op_notIn_seq
theorem call_isiK' (K : PySem.W.Frag) (hK : X.K = K := by rfl) : CallR X (.builtin "isinstance") (rIsi K) := hK ▸ call_isi
theorem pi_listK (K : PySem.W.Frag) (hl : PE X o tl) (hK : X.K = K := by rfl) : PI X tg o (iList K tl) := hK ▸ pi_list hl
theorem pi_tupK (K : PySem.W.Frag) (hl : PE X o tl) (hK : X.K = K := by rfl) : PI X tg o (iTup K tl) := hK ▸ pi_tup hl
def rLenSq (K : PySem.W.Frag) : List V → Hp → VK → Prop := fun xs H Q => ∃ p ys, xs = [.ref p] ∧ (SqL K H p ys ∨ SqT K H p ys) ∧ Q (.int ys.length) H
theorem call_len_seqK (K : PySem.W.Frag) (hK : X.K = K := by rfl) : CallR X (.builtin "len") (rLenSq K) := hK ▸ call_len_seq
end
theorem kit_same {K : PySem.W.Frag} {t : Value} : PySem.W.kitOne K t t = some true := by
  unfold PySem.W.kitOne
  rw [if_pos (by simp)]
theorem kit_sub {K : PySem.W.Frag} {t C : Addr} {b : Bool} (hd : PySem.W.hasDictIn K C = true) (ty : PySem.W.typeIn K (.ref C) = some (.type "type")) (self : PySem.W.subIn K (.ref C) (.ref C) = some true) (h : PySem.W.subIn K (.ref t) (.ref C) = some b) :
    PySem.W.kitOne K (.ref t) (.ref C) = some b := by
  unfold PySem.W.kitOne
  by_cases e : t = C
  · subst e
    rw [if_pos (by simp)]
    exact self.symm.trans h
  · rw [if_neg (by simpa using e)]
    obtain ⟨cd, hc, _⟩ := PySem.W.any_some hd
    have e2 : ((PySem.W.clsIn K C).isSome && PySem.W.typeIn K (.ref C) == some (.type "type")) = true := by rw [hc, ty] <;> rfl
    show (if ((PySem.W.clsIn K C).isSome && PySem.W.typeIn K (.ref C) == some (.type "type")) = true then PySem.W.subIn K (.ref t) (.ref C) else none) = some b
    rw [if_pos e2]
    exact h
theorem kit_base {K : PySem.W.Frag} {t : Addr} {T : String} {b : Bool} (hm : PySem.W.kitMeta T = true) (h : PySem.W.subIn K (.ref t) (.type T) = some b) : PySem.W.kitOne K (.ref t) (.type T) = some b := by
  unfold PySem.W.kitOne
  rw [if_neg (by simp)]
  show (if PySem.W.kitMeta T = true then PySem.W.subIn K (.ref t) (.type T) else none) = some b
  rw [if_pos hm]
  exact h
end L2
namespace L2
open PySem PySem.Spec PyProof.Rows
theorem dec_add (i : Int) (t : Tok) (a C dx : Addr) : Meets (Builtin.«int.__add__» ⟨[.int i t, .ref a], []⟩) (fun _ R s => s.heap.get? a = some (PySem.W.instObj C dx) ∧ R (.ok (.ret .notImplemented)) s) :=
  .of_wp fun prog w A R s h => by obtain ⟨hp, g, d, tk, os⟩ := s; obtain ⟨hl, h⟩ := h; unfold PySem.W.instObj at hl; wp_walk; exact ⟨_, rfl, h⟩
theorem dec_sub (i : Int) (t : Tok) (a C dx : Addr) : Meets (Builtin.«int.__sub__» ⟨[.int i t, .ref a], []⟩) (fun _ R s => s.heap.get? a = some (PySem.W.instObj C dx) ∧ R (.ok (.ret .notImplemented)) s) :=
  .of_wp fun prog w A R s h => by obtain ⟨hp, g, d, tk, os⟩ := s; obtain ⟨hl, h⟩ := h; unfold PySem.W.instObj at hl; wp_walk; exact ⟨_, rfl, h⟩
theorem dec_mul (i : Int) (t : Tok) (a C dx : Addr) : Meets (Builtin.«int.__mul__» ⟨[.int i t, .ref a], []⟩) (fun _ R s => s.heap.get? a = some (PySem.W.instObj C dx) ∧ R (.ok (.ret .notImplemented)) s) :=
  .of_wp fun prog w A R s h => by obtain ⟨hp, g, d, tk, os⟩ := s; obtain ⟨hl, h⟩ := h; unfold PySem.W.instObj at hl; wp_walk; exact ⟨_, rfl, h⟩
theorem dec_eq (i : Int) (t : Tok) (a C dx : Addr) : Meets (Builtin.«int.__eq__» ⟨[.int i t, .ref a], []⟩) (fun _ R s => s.heap.get? a = some (PySem.W.instObj C dx) ∧ R (.ok (.ret .notImplemented)) s) :=
  .of_wp fun prog w A R s h => by obtain ⟨hp, g, d, tk, os⟩ := s; obtain ⟨hl, h⟩ := h; unfold PySem.W.instObj at hl; wp_walk; exact ⟨_, rfl, h⟩

/-- what the classes say of an operator with an int on the left -/
structure IntOp (op : Operator) (B : Builtin) (id : String) : Prop where
  fills : fillsNumberSlot (.type "int") op.info.2 = pure true
  slot : Slot "int" (PySem.dunder op.info.2) id
  entry : entryFor table id = some B
  args : ∀ a b, argsOk id ⟨[a, b], []⟩
  dec : ∀ (i : Int) (t : Tok) (a C dx : Addr), Meets (B ⟨[.int i t, .ref a], []⟩) (fun _ R s => s.heap.get? a = some (PySem.W.instObj C dx) ∧ R (.ok (.ret .notImplemented)) s)
theorem intAdd : IntOp .Add Builtin.«int.__add__» "int.__add__" := ⟨F.fills_int_add, F.slot_int_add, F.entry_int_add, F.args_int_add_2, dec_add⟩
theorem intSub : IntOp .Sub Builtin.«int.__sub__» "int.__sub__" := ⟨F.fills_int_sub, F.slot_int_sub, F.entry_int_sub, F.args_int_sub_2, dec_sub⟩
theorem intMul : IntOp .Mult Builtin.«int.__mul__» "int.__mul__" := ⟨F.fills_int_mul, F.slot_int_mul, F.entry_int_mul, F.args_int_mul_2, dec_mul⟩
open PySem.W in
theorem binop_IK {prog : Program} {w : World} {A : Around} {E : Value → Shared → Prop} {s : Shared} {K : Frag} {x C L f f0 dx : Addr} {h₀ : Heap} {m : Str → Option Value} {od : Option Obj} {op : Operator} {B : Builtin} {id : String} {i : Int} {t : Tok} {Q : Value → Shared → Prop} (J : IntOp op B id)
    (Fr0 : Fr h₀ L s.heap m) (X₀ : K.In h₀) (I : PySem.W.InstAt s.heap x (PySem.W.instObj C dx) C od) (hc : selfFirst K C = true) (hs : findIn K (.ref C) (PySem.dunder op.info.2) = some (some (.ref f0)))
    (hr : findIn K (.ref C) (dunderR op.info.2) = some (some (.ref f))) (hf : isFn K (.ref f) = true) (hsub : subIn K (.ref C) (.type "int") = some false)
    (h : wpAny (model prog w) A (call (.ref f) [.ref x, .int i t]) (PySem.W.CmpBack Q) E s) : wpAny (model prog w) A (binaryOp op (.int i t) (.ref x)) Q E s := by
  have X := X₀.keeps Fr0.keep
  obtain ⟨cd, rest, hcd, hm⟩ := ksp_first hc
  obtain ⟨hfT, slot, entry, args, dec⟩ := J
  rcases hi : op.info with ⟨sym, nm⟩
  rw [hi] at hs hr hfT slot
  dsimp only at hs hr hfT slot
  have hne : (Value.type "int" == Value.ref C) = false := Bool.eq_false_iff.mpr fun q => by cases beq_iff_eq.mp q
  simp only [binaryOp, hi]
  refine wpAny_holding (wpAny_bind ?_)
  unfold binaryOp1
  refine wpAny_bind (wpAny_typeOf (show s.TypeIs (.int i t) "int" from rfl) (wpAny_bind (I.type.here (wpAny_bind (wpAny_of_eq hfT ?_)))))
  simp only [hne, Bool.false_eq_true, if_false]
  refine wpAny_bind ((fills_K X hcd hm hs).here ?_)
  simp only [Bool.and_self, if_true]
  refine wpAny_bind ((looks_subIn X hsub).here ?_)
  have hpy : numberSlotInPython (.type "int") nm = pure false := rfl
  simp only [Bool.false_eq_true, if_false, pure_bind, Bool.not_false, Bool.and_self, if_true, hpy]
  refine wpAny_bind (wpAny_tryMethod_declines (T := "int") rfl slot (call_meets slot rfl entry (args _ _) (dec i t x C dx) ⟨I.at_, rfl, ?_⟩))
  show wpAny _ _ (tryMethod (.ref x) (dunderR nm) (.int i t) >>= _) _ _ _
  refine wpAny_bind (wpAny_mono (ksp_try X I hr hf h) (fun r s' hq => ?_) fun _ _ z => z)
  obtain ⟨v, rfl, q⟩ := hq
  first | exact wpAny_bind (wpAny_rule (wpAny_pure (wpAny_pure q))) | exact wpAny_rule (wpAny_pure (wpAny_pure q)) | exact wpAny_bind (wpAny_rule (wpAny_pure q))
open PySem.W in
theorem eq_IK {prog : Program} {w : World} {A : Around} {E : Value → Shared → Prop} {s : Shared} {K : Frag} {x C L f dx : Addr} {h₀ : Heap} {m : Str → Option Value} {od : Option Obj} {i : Int} {t : Tok} {Q : Value → Shared → Prop} (hu : A.units < cLine)
    (Fr0 : Fr h₀ L s.heap m) (X₀ : K.In h₀) (I : PySem.W.InstAt s.heap x (PySem.W.instObj C dx) C od) (hs : findIn K (.ref C) "__eq__" = some (some (.ref f))) (hf : isFn K (.ref f) = true) (hsub : subIn K (.ref C) (.type "int") = some false)
    (h : wpAny (model prog w) A (call (.ref f) [.ref x, .int i t]) (PySem.W.CmpBack Q) E s) : wpAny (model prog w) A (richCompare .Eq (.int i t) (.ref x)) Q E s := by
  have X := X₀.keeps Fr0.keep
  have one : wpAny (model prog w) A (tryCompare (.ref x) "__eq__" (.int i t)) (fun r s' => ∃ v, r = some v ∧ Q v s') E s := by
    unfold tryCompare
    refine wpAny_bind (ifBound_K X I hs hf (wpAny_mono h (fun v s' hv => ?_) fun _ _ e => e))
    cases v <;> first | exact hv.elim | exact wpAny_pure ⟨_, rfl, hv⟩
  have hne : (Value.type "int" != Value.ref C) = true := by
    have : (Value.type "int" == Value.ref C) = false := Bool.eq_false_iff.mpr fun q => by cases beq_iff_eq.mp q
    simp [bne, this]
  unfold richCompare
  refine wpAny_holding (wpAny_bind (wpAny_cRoomFor hu ?_))
  have ho : oneThing? .Eq (.int i t) (.ref x) = none := rfl
  rw [ho]
  refine wpAny_bind (wpAny_typeOf (show s.TypeIs (.int i t) "int" from rfl) (wpAny_bind (I.type.here ?_)))
  rw [if_pos hne]
  refine wpAny_bind ((looks_subIn X hsub).here ?_)
  simp only [Bool.false_eq_true, if_false]
  refine wpAny_bind (wpAny_tryCompare_declines (T := "int") rfl PySem.F.slot_int_eq (call_meets PySem.F.slot_int_eq rfl PySem.F.entry_int_eq (PySem.F.args_int_eq_2 _ _) (dec_eq i t x C dx) ⟨I.at_, rfl, ?_⟩))
  simp only [Bool.not_false, if_true]
  refine wpAny_bind (wpAny_mono one (fun r s' hq => ?_) fun _ _ z => z)
  obtain ⟨v, rfl, q⟩ := hq
  exact wpAny_pure q
section
variable {X : Cx} {CX : CXT} {k : Nat} {f f0 C : Addr} {fd : FuncData} {ps : List Str} {sp : Sp} {E : XK}
/-- i op x, an int on the left: x's reflected method at (x, i) -/
def rIOwn (C : Addr) (sp : Sp) (E : XK) : R2 := fun y x H Q => ∃ a dx fs i, x = .ref a ∧ H a = some (.ins C dx fs) ∧ y = .int i ∧ sp [x, y] H Q E
theorem op_iown {op : Operator} {B : Builtin} {id : String} (J : IntOp op B id) (hm0 : Meth X.K C (PySem.dunder op.info.2) f0) (hm : Meth X.K C (dunderR op.info.2) f) (hc : PySem.W.selfFirst X.K C = true) (hsub : PySem.W.subIn X.K (.ref C) (.type "int") = some false)
    (F : FnOk X.prog X.w X.K X.mg X.base CX k f fd ps sp) (hr : Room k X.A) (hb : Binds X.K fd ps []) (hx : Passes CX X E) : OpR X (binaryOp op) (rIOwn C sp E) := by
  intro pins s σ H y x v u Q I ry rx h
  obtain ⟨a, dx, fs, i, rfl, ea, rfl, h⟩ := h
  obtain rfl : u = Value.ref a := rx
  obtain ⟨t, rfl⟩ := (show ∃ t, v = Value.int i t from ry)
  obtain ⟨od, Ia⟩ := I.instAt ea
  obtain ⟨m, fr⟩ := I.fr
  refine binop_IK J fr I.ok.mod.kin Ia hc hm0.at_ hm.at_ hm.fn hsub (thn (run_fnA (us := [.ref a, .int i t]) (vs := [.ref a, .int i]) (dvs := []) rfl F hr hb .nil hx I (.cons rfl (.cons ⟨t, rfl⟩ .nil)) h) fun w s' q => ?_)
  obtain ⟨v', H', I', rv, q⟩ := q
  exact cmpBack_of rv ⟨v', H', I', rv, q⟩
theorem op_ieq (hm : Meth X.K C "__eq__" f) (hsub : PySem.W.subIn X.K (.ref C) (.type "int") = some false)
    (F : FnOk X.prog X.w X.K X.mg X.base CX k f fd ps sp) (hr : Room k X.A) (hb : Binds X.K fd ps []) (hx : Passes CX X E) : OpR X (compareOp .Eq) (rIOwn C sp E) := by
  intro pins s σ H y x v u Q I ry rx h
  obtain ⟨a, dx, fs, i, rfl, ea, rfl, h⟩ := h
  obtain rfl : u = Value.ref a := rx
  obtain ⟨t, rfl⟩ := (show ∃ t, v = Value.int i t from ry)
  obtain ⟨od, Ia⟩ := I.instAt ea
  obtain ⟨m, fr⟩ := I.fr
  show wpAny _ _ (richCompare .Eq (.int i t) (.ref a)) _ _ _
  refine eq_IK hr.units0 fr I.ok.mod.kin Ia hm.at_ hm.fn hsub (thn (run_fnA (us := [.ref a, .int i t]) (vs := [.ref a, .int i]) (dvs := []) rfl F hr hb .nil hx I (.cons rfl (.cons ⟨t, rfl⟩ .nil)) h) fun w s' q => ?_)
  obtain ⟨v', H', I', rv, q⟩ := q
  exact cmpBack_of rv ⟨v', H', I', rv, q⟩
end
/-- // by any divisor but 0, of less than 9000 bits -/
theorem op_fdivX {X : Cx} : OpR X (binaryOp .FloorDiv) (rI (fun _ j => j ≠ 0 ∧ j.natAbs.log2 < 9000) fun i j => .int (i.fdiv j)) := opI fun i j _ _ _ _ _ hc q => floordiv_int hc.1 q (.inl (PyProof.noPylong_of_log2 hc.2))
section
variable {X : Cx} {CX : CXT} {k : Nat} {f C : Addr} {fd : FuncData} {ps : List Str} {sp : Sp} {E : XK}
/-- abs(x), by an own __abs__ -/
def rAbsOwn (C : Addr) (sp : Sp) (E : XK) : List V → Hp → VK → Prop := fun xs H Q => ∃ a dx fs, xs = [.ref a] ∧ H a = some (.ins C dx fs) ∧ sp [.ref a] H Q E
theorem call_absOwn (hm : Meth X.K C "__abs__" f) (Fk : FnOk X.prog X.w X.K X.mg X.base CX k f fd ps sp) (hr : Room (k + 1) X.A) (hb : Binds X.K fd ps []) (hx : Passes CX X E) : CallR X (.builtin "abs") (rAbsOwn C sp E) := by
  intro pins s σ H xs us Q I r h
  obtain ⟨a, dx, fs, rfl, ea, h⟩ := h
  obtain ⟨u, rfl, ru⟩ := vals1 r
  obtain rfl : u = Value.ref a := ru
  obtain ⟨od, J⟩ := I.instAt ea
  refine PySem.Calls.call_function_entry kind_abs plain_abs entry_abs (args_abs _) ?_
  unfold Builtin.«abs»
  refine wpAny_bind (m := oneArg "abs" _) (wpAny_pure ?_)
  refine wpAny_bind (m := callSpecial? (.ref a) (Str.ofString "__abs__")) (PySem.W.special_fn I.kIn J hm.at_ (beq_iff_eq.mp hm.fn) (thn (run_fnA (A := X.A.in1) (us := [.ref a]) (vs := [.ref a]) (dvs := []) rfl Fk hr.in1 hb .nil hx I (.cons rfl .nil) h) fun w s' q => ?_))
  exact wpAny_pure ⟨_, rfl, q⟩
end
theorem kit_tb {K : PySem.W.Frag} {C : Addr} {T : String} {b : Bool} (hd : PySem.W.hasDictIn K C = true) (ty : PySem.W.typeIn K (.ref C) = some (.type "type")) (h : PySem.W.subIn K (.type T) (.ref C) = some b) : PySem.W.kitOne K (.type T) (.ref C) = some b := by
  unfold PySem.W.kitOne
  rw [if_neg (by simp)]
  obtain ⟨cd, hc, _⟩ := PySem.W.any_some hd
  have e2 : ((PySem.W.clsIn K C).isSome && PySem.W.typeIn K (.ref C) == some (.type "type")) = true := by rw [hc, ty] <;> rfl
  show (if ((PySem.W.clsIn K C).isSome && PySem.W.typeIn K (.ref C) == some (.type "type")) = true then PySem.W.subIn K (.type T) (.ref C) else none) = some b
  rw [if_pos e2]
  exact h
theorem notFirst_ty {K : PySem.W.Frag} {C : Addr} {T : String} (h : PySem.W.subIn K (.type T) (.ref C) = some false) : PySem.W.notFirst K C (.type T) = true := by unfold PySem.W.notFirst; rw [h]; simp
theorem binds_none {K : PySem.W.Frag} {fd : FuncData} {ps : List Str} (h : ∃ ds, Vals ([] : List V) ds ∧ Binds K fd ps ds) : Binds K fd ps [] := by
  obtain ⟨ds, r, b⟩ := h
  cases r
  exact b
end L2
namespace L2
open PySem PySem.Spec PyProof.Rows
section
variable {X : Cx} {CX : CXT} {k : Nat} {f C : Addr} {fd : FuncData} {ps : List Str} {sp : Sp} {E : St → XK} {m : Str} {pos apos : Pos} {e o : Expr} {es : List Expr} {ta : TE} {t : TA}
/-- o.m(e, ..) in a try's body -/
def tMethT (C : Addr) (m : Str) (sp : Sp) (E : St → XK) (ta : TE) (t : TA) : TE := fun σ H Q => ta σ H fun x H1 => ∃ a dx fs, x = .ref a ∧ H1 a = some (.ins C dx fs) ∧ fs.lookup m = none ∧ t σ H1 fun vs H2 => sp (x :: vs) H2 Q (E σ)
theorem pe_methT {pl : Sem Bool} (he : PE X o ta) (c : Cls X.K C) (hm : Meth X.K C m f) (F : FnOk X.prog X.w X.K X.mg X.base CX k f fd ps sp) (hr : Room k X.A) (hb : Binds X.K fd ps []) (hx : ∀ σ, PassesAt CX X σ (E σ)) (ha : PA X (e :: es) t)
    (hst : starEach (e :: es) X.env = (false, eval e X.env) :: starEach es X.env := by rfl) (hpl : (backTo pos (starEach es X.env)).any (·.1) = false := by rfl)
    (ht : eval (.Call (.Attribute o m apos) (e :: es) [] pos) X.env = (do
      let ov ← eval o X.env
      standAt apos.atName
      let (f, first) ← holding [ov] (getMethod ov m pl)
      callWith pos f first (backTo pos (starEach (e :: es) X.env)) (backToKw pos (keywordEach [] X.env))) := by rfl) :
    PE X (.Call (.Attribute o m apos) (e :: es) [] pos) (tMethT C m sp E ta t) := by
  refine ⟨fun pins s σ H Q I h => ?_⟩
  refine PySem.W.methodCall_KW (pl := pl) (thn (he.run pins s σ H _ I h) fun u s1 ⟨x, H1, I1, rx, a, dx, fs, ex, ea, l, q⟩ => ?_) ht
  subst ex
  obtain rfl : u = Value.ref a := rx
  refine getmeth_ok I1 ea c hm l ?_
  refine PySem.W.callWith_K (first := [.ref a]) (h₀ := X.base) I.ok.mod.kin hm.kp (thn (ha.run pos pins s1 σ H1 _ I1 q) fun us s2 ⟨vs, H2, I2, r, q2⟩ => ⟨I2.kIn, ?_⟩) hst hpl
  exact run_fnS2 (us := .ref a :: us) (vs := .ref a :: vs) F hr hb (hx σ) I2 (.cons rfl r) q2
end
theorem op_two {X : Cx} {op : Operator} {r1 r2 : R2} (h1 : OpR X (binaryOp op) r1) (h2 : OpR X (binaryOp op) r2) : OpR X (binaryOp op) (fun x y H Q => r1 x y H Q ∨ r2 x y H Q) := by
  intro pins s σ H x y v u Q I rx ry h
  rcases h with h | h
  · exact h1 _ _ _ _ _ _ _ _ _ I rx ry h
  · exact h2 _ _ _ _ _ _ _ _ _ I rx ry h
end L2
/-! iter of a tuple; list(x) of an own class whose __iter__ gives a tuple's iterator and that has an own __len__ -/
namespace L2
open PySem PySem.Spec PyProof.Rows
section
variable {prog : Program} {w : World} {A : Around} {E : Value → Shared → Prop} {s : Shared}
theorem gb_iter_tuple {t : Addr} {items : Array Value} {Q : Value → Shared → Prop} (ht : s.heap.IsTuple t items) (h : Q (.ref s.heap.objs.size) { s with heap := s.heap.push { cls := .type "tuple_iterator", data := .fields #[.ref t, .int 0 0] } }) : wpAny (model prog w) A (call (.builtin "iter") [.ref t]) Q E s := by
  refine Calls.call_function_entry (by decide +kernel) (by decide +kernel) PySem.W.kdk_entry_iter (PySem.W.kdk_args_iter _) ?_
  unfold Builtin.«iter»
  refine wpAny_bind (m := someArgs "iter" 1 2 _) (wpAny_of_eq (a := [Value.ref t]) (by first | rfl | kernel_rfl!) ?_)
  show wpAny _ _ (pyIter (.ref t) >>= _) _ _ _
  refine wpAny_bind (wpAny_pyIter_tuple ht ?_)
  exact wpAny_pure ⟨_, rfl, h⟩
/-- the end of a tuple's iterator; the iterator stays an object -/
theorem gb_tuple_end {it t : Addr} {i : Nat} {items : Array Value} {Q : Option Value → Shared → Prop} (hh : A.handled = none)
    (hit : s.heap.IsTupleIter it t i) (ht : s.heap.IsTuple t items) (hx : items[i]? = none)
    (hQ : ∀ h', Heap.ExtBut it s.heap h' → (∃ u, h'.get? it = some u) → Q none { s with heap := h' }) : wpAny (model prog w) A (pyNext (.ref it)) Q E s := by
  obtain ⟨o, ho, hc, hd⟩ := id hit
  obtain ⟨ol, hol, _, nl, hdl⟩ := ht
  unfold pyNext
  refine wpAny_bind (wpAny_attempt (wpAny_callSpecial?_slot (name := Str.ofString "__next__") hit.typeIs F.slot_tuple_iterator_next
    (wpAny_call_entry F.slot_tuple_iterator_next hit.typeIs F.entry_tuple_iterator_next ?_ (F.args_tuple_iterator_next_1 _))))
  show wpAny _ _ (field (.ref it) 0 >>= _) _ _ s
  refine wpAny_bind (wpAny_field ho hd (x := .ref t) rfl ?_)
  show wpAny _ _ (if (Value.ref t == Value.none) = true then _ else _) _ _ s
  rw [if_neg (show ¬ ((Value.ref t == Value.none) = true) from Bool.false_ne_true)]
  show wpAny _ _ (field (.ref it) 1 >>= _) _ _ s
  refine wpAny_bind (wpAny_field ho hd (x := .int i 0) rfl ?_)
  show wpAny _ _ (seqItems? (.ref t) >>= _) _ _ s
  refine wpAny_bind (wpAny_seqItems hol hdl ?_)
  simp only [Int.toNat_natCast, hx]
  refine wpAny_bind (wpAny_rule (wpAny_bind (wpAny_setField ho hd (by simp) ?_)))
  show wpAny _ _ (newExc (.type "StopIteration") [] >>= _) _ _ _
  refine wpAny_bind ?_
  simp only [newExc, newTuple]
  refine wpAny_bind (wpAny_newObj_type ?_ (by size_fits))
  refine wpAny_bind (m := firstArgMember _ _) (wpAny_of_eq (a := Value.none) (by first | rfl | (simp only [firstArgMember]; rfl)) ?_)
  refine wpAny_newObj_type ?_ (by size_fits)
  simp only [raiseNew]
  refine wpAny_bind (wpAny_handled ?_)
  first | rw [show A.in1.handled = none from hh] | rw [hh]
  refine wpAny_bind (wpAny_pure (wpAny_throw ?_))
  refine wpAny_bind (wpAny_isInstance (T := "StopIteration") (b := true) ⟨_, Heap.get?_push_size _ rfl, rfl⟩ isSubtype_stop ?_)
  exact wpAny_pure (hQ _ (((Heap.SameBut.update ..).extBut.push _).push _) ⟨_, Heap.get?_push_of_some _ (Heap.get?_push_of_some _ (Heap.get?_update_self _ ho (Obj.isFreed_of_fields (Obj.data_mapFields hd _))))⟩)
theorem gb_hint {Q : Bool → Shared → Prop} {K : PySem.W.Frag} {a C fl : Addr} {ox : Obj} {od : Option Obj} (hl : PySem.W.findIn K (.ref C) "__len__" = some (some (.ref fl))) (hK : K.In s.heap) (J : PySem.W.InstAt s.heap a ox C od)
    (h : wpAny (model prog w) A (call (.builtin "len") [.ref a]) (fun v s' => ∃ n t, v = .int n t ∧ Builtin.List.listTooLong n.toNat = false ∧ Q (n != 0) s') (fun _ _ => False) s) : wpAny (model prog w) A (Builtin.List.listLengthHint (.ref a)) Q E s := by
  unfold Builtin.List.listLengthHint
  refine wpAny_bind (wpAny_bind (J.type.here ((PySem.W.looks_findIn hK hl).here ?_)))
  refine PySem.W.KFB.if_not rfl ?_
  show wpAny _ _ (rule _ >>= _) _ _ _
  refine wpAny_bind (wpAny_rule ?_)
  refine wpAny_bind (wpAny_attempt (wpAny_mono h (fun v s' hv => ?_) fun _ _ z => ?_))
  · obtain ⟨n, t, rfl, h1, q⟩ := hv
    show wpAny _ _ (if Builtin.List.listTooLong n.toNat = true then _ else pure (n != 0)) _ _ _
    rw [if_neg (by rw [h1]; decide)]
    exact wpAny_pure q
  · exact z.elim
end
/-- at it an iterator over the tuple at t, the next place is i -/
def ItT (t it : Addr) (i : Nat) : HO := .ext fun h => h.IsTupleIter it t i
/-- at it something that is no longer of use -/
def ItX (it : Addr) : HO := .ext fun h => ∃ o, h.get? it = some o
theorem itT_ok {P : Program} {w : World} {H : Hp} {h : Heap} {t it : Addr} {i : Nat} (e : h.IsTupleIter it t i) : ObjOk P w H h it (ItT t it i) := ⟨e, let ⟨o, ho, _⟩ := e; ⟨o, ho⟩, fun h1 h2 q k => Heap.IsTupleIter.at q k⟩
theorem itX_ok {P : Program} {w : World} {H : Hp} {h : Heap} {it : Addr} (e : ∃ o, h.get? it = some o) : ObjOk P w H h it (ItX it) := ⟨e, e, fun h1 h2 q k => let ⟨o, ho⟩ := q; ⟨o, k o ho⟩⟩
section
variable {X : Cx} {pins : List (Addr × Obj)} {σ : St} {H : Hp} {s : Shared} {t it l : Addr} {i : Nat} {zs : List V}
theorem itT_get (I : Inv X pins σ H s) (e : H it = some (ItT t it i)) : s.heap.IsTupleIter it t i := (I.hok it _ e).1
def rIterT (K : PySem.W.Frag) : List V → Hp → VK → Prop := fun xs H Q => ∃ (t : Addr) (zs : List V), xs = [.ref t] ∧ SqT K H t zs ∧ ∀ it, H it = none → Q (.ref it) (upd H it (ItT t it 0))
theorem call_iterT : CallR X (.builtin "iter") (rIterT X.K) := by
  intro pins s σ H xs us Q I r h
  obtain ⟨t, zs, rfl, hq, q⟩ := h
  obtain rfl := Vals.ref1 r
  obtain ⟨its, rv, pl, hz⟩ := I.tuple hq
  refine gb_iter_tuple (show s.heap.IsTuple t its.toArray from pl) ?_
  exact ⟨.ref s.heap.objs.size, _, I.laid (t' := s.toks) (fun b u e => Heap.get?_push_of_some _ e) (Nat.le_refl _) (itT_ok ⟨_, Heap.get?_push_size _ rfl, rfl, rfl⟩), rfl, q _ (I.hok.fresh (Nat.le_refl _))⟩
theorem upd_swap {a b : Addr} {o u : HO} (h : a ≠ b) : upd (upd H a o) b u = upd (upd H b u) a o := by
  funext c
  by_cases ha : c = a
  · subst ha; rw [upd_ne h, upd_same, upd_same]
  · rw [upd_ne ha]
    by_cases hb : c = b
    · subst hb; rw [upd_same, upd_same]
    · rw [upd_ne hb, upd_ne hb, upd_ne ha]
/-- the loop over a tuple's iterator, the list at l filled -/
theorem gb_loop {A1 : Around} {Rs : Result → Shared → Prop} (hh : A1.handled = none) (hne : it ≠ l) (hT : SqT X.K H t zs) (hz : zs.length < sizeLine) (hlt : H l = none) (hit : H it = none)
    (hdone : ∀ s, Inv X pins σ (upd (upd H l (.lst zs)) it (ItX it)) s → Rs (.ok (.ret .none)) s) :
    ∀ (k i : Nat) (s : Shared), zs.length - i = k → i ≤ zs.length → Inv X pins σ (upd (upd H l (.lst (zs.take i))) it (ItT t it i)) s → codeAny (model X.prog X.w) A1 (.builtin "list.extend.loop" ⟨[.ref l, .ref it, .none], []⟩) Rs s := by
  have sT : ∀ {o1 o2 : HO}, SqT X.K (upd (upd H l o1) it o2) t zs := fun {o1 o2} => Same.seqT ((same_new hlt).trans (same_new (by rw [upd_ne hne]; exact hit))) hT
  intro k
  induction k with
  | zero =>
    intro i s hk hi I
    have hin : i = zs.length := by omega
    subst hin
    obtain ⟨its, rv, pl, _⟩ := I.tuple (sT (o1 := _) (o2 := _))
    refine codeAny_builtin PySem.F.entry_extend_loop ?_
    rw [Around.under_plainId PySem.F.plain_extend_loop _]
    show wpAny _ A1.in1 (pyNext (.ref it) >>= _) _ _ s
    refine wpAny_bind (gb_tuple_end (A := A1.in1) hh (itT_get I upd_same) (show s.heap.IsTuple t its.toArray from pl) (by have := rv.length; simp; omega) fun h' hb hu => ?_)
    refine wpAny_pure (hdone _ ?_)
    have I2 := I.write (x := it) (e := it) (o := ItX it) (h' := h') (t' := s.toks) (by rw [upd_same]; exact True.intro) (.inl rfl) (fun b u nb z => hb b u nb z) hu (itX_ok hu)
    rw [upd_upd, List.take_length] at I2
    exact I2
  | succ k ih =>
    intro i s hk hi I
    have hlt2 : i < zs.length := by omega
    obtain ⟨its, rv, pl, _⟩ := I.tuple (sT (o1 := _) (o2 := _))
    obtain ⟨u, hu, ru⟩ := rv.get (List.getElem?_eq_getElem hlt2)
    refine codeAny_builtin PySem.F.entry_extend_loop ?_
    rw [Around.under_plainId PySem.F.plain_extend_loop _]
    show wpAny _ A1.in1 (pyNext (.ref it) >>= _) _ _ s
    refine wpAny_bind (wpAny_pyNext_tuple_item (itT_get I upd_same) (show s.heap.IsTuple t its.toArray from pl) (x := u) (by simpa using hu) fun h' hi' sb => ?_)
    have I2 := I.write (x := it) (e := it) (o := ItT t it (i + 1)) (h' := h') (t' := s.toks) (by rw [upd_same]; exact True.intro) (.inl rfl) (fun b o nb z => (sb.2 b nb).trans z) (let ⟨o, ho, _⟩ := hi'; ⟨o, ho⟩) (itT_ok hi')
    rw [upd_upd, upd_swap hne.symm] at I2
    show wpAny _ A1.in1 (updateSeq l (·.push u) >>= _) _ _ _
    obtain ⟨z, its2, c, r2, hl, e⟩ := I2.lstM upd_same
    have hl2 : its2.length = i := by rw [← r2.length, List.length_take]; omega
    refine wpAny_bind (wpAny_updateSeq e rfl (wpAny_pure ⟨plainId_quiet PySem.F.plain_extend_loop _, ?_⟩) (by rw [List.size_toArray]; omega) (by show (its2.toArray.push u).size ≤ sizeLine + 1; rw [Array.size_push, List.size_toArray]; omega))
    have I3 := I2.lset (its' := its2 ++ [u]) (ys := zs.take (i + 1)) (t' := s.toks) (f := (·.push u)) upd_same e (by simp) (by rw [List.take_succ, List.getElem?_eq_getElem hlt2]; exact r2.append (.cons ru .nil)) (by rw [List.length_take]; omega)
    rw [upd_upd, upd_swap hne] at I3
    exact ih (i + 1) _ (by omega) hlt2 I3
end
section
variable {X : Cx} {k k2 : Nat} {fi fl C : Addr} {fd fd2 : FuncData} {ps ps2 : List Str} {spI spL : Sp}
/-- list(x) -/
def rListIt (K : PySem.W.Frag) (C : Addr) (spI spL : Sp) : List V → Hp → VK → Prop := fun xs H Q => ∃ (a dx t : Addr) (fs : List (Str × V)) (zs : List V), xs = [.ref a] ∧ H a = some (.ins C dx fs) ∧ SqT K H t zs ∧ zs.length < 1000 ∧
  ∀ l, H l = none →
    spI [.ref a] (upd H l (.lst [])) (fun v H' => ∃ it, v = .ref it ∧ upd H l (.lst []) it = none ∧ H' = upd (upd H l (.lst [])) it (ItT t it 0)) (fun _ _ _ => False) ∧
    (∀ it, H it = none → it ≠ l → spL [.ref a] (upd (upd H l (.lst [])) it (ItT t it 0)) (fun v H' => v = .int zs.length ∧ H' = upd (upd H l (.lst [])) it (ItT t it 0)) (fun _ _ _ => False)) ∧
    ∀ it, H it = none → it ≠ l → Q (.ref l) (upd (upd H l (.lst zs)) it (ItX it))
theorem call_listIt (hmI : Meth X.K C "__iter__" fi) (hmL : Meth X.K C "__len__" fl) (FI : FnOk X.prog X.w X.K X.mg X.base CX0 k fi fd ps spI) (FL : FnOk X.prog X.w X.K X.mg X.base CX0 k2 fl fd2 ps2 spL)
    (bI : Binds X.K fd ps []) (bL : Binds X.K fd2 ps2 []) (hr : Room (k + 2) X.A) (hr2 : Room (k2 + 3) X.A) : CallR X (.type "list") (rListIt X.K C spI spL) := by
  intro pins s σ H xs us Q I rv h
  obtain ⟨a, dx, t, fs, zs, rfl, ha, hT, hz, hq⟩ := h
  obtain ⟨u, rfl, ru⟩ := rv.one
  obtain rfl : u = Value.ref a := ru
  refine callType_codes (Q₁ := fun obj s₁ => obj = .ref s.heap.objs.size ∧ s₁ = { s with heap := s.heap.push { cls := .type "list", data := .seq #[] } }) PySem.F.called_list (PySem.F.typeCall_list_1 _) PySem.F.entry_list_init
    (code_list_new _ ⟨rfl, rfl⟩) fun obj s₁ h₁ => ?_
  obtain ⟨rfl, rfl⟩ := h₁
  have hS : (s.heap.push { cls := .type "list", data := .seq #[] }).get? s.heap.objs.size = some { cls := .type "list", data := .seq #[] } := Heap.get?_push_size _ rfl
  refine ⟨⟨_, hS, rfl⟩, PySem.F.args_list_init_2 _ _, ?_⟩
  have fr : H s.heap.objs.size = none := I.hok.fresh (Nat.le_refl _)
  obtain ⟨q1, q2, q3⟩ := hq _ fr
  have I1 : Inv X pins σ (upd H s.heap.objs.size (.lst [])) { s with heap := s.heap.push { cls := .type "list", data := .seq #[] } } := I.lnew (its := []) (t' := s.toks) .nil (Nat.zero_le _)
  show wpAny _ _ (do let old ← Builtin.List.listItems (.ref s.heap.objs.size); Builtin.List.listUpdate (.ref s.heap.objs.size) (fun _ => #[]); letGo old.toList.reverse; Builtin.List.listExtendWith (.ref s.heap.objs.size) (.ref a) .none) _ _ _
  refine wpAny_bind ?_
  unfold Builtin.List.listItems
  refine wpAny_bind (wpAny_seqItems hS rfl (wpAny_pure ?_))
  show wpAny _ _ (updateSeq s.heap.objs.size (fun _ => #[]) >>= fun _ => letGo (#[] : Array Value).toList.reverse >>= fun _ => Builtin.List.listExtendWith (.ref s.heap.objs.size) (.ref a) .none) _ _ _
  refine wpAny_bind (wpAny_updateSeq hS rfl ?_)
  have I2 := I1.lset (f := fun _ => #[]) (its := []) (its' := []) (ys := []) (t' := s.toks) upd_same hS rfl .nil (Nat.zero_le _)
  rw [upd_upd] at I2
  refine wpAny_bind (wpAny_letGo ?_)
  generalize hl0 : s.heap.objs.size = l at *
  have hne : a ≠ l := ne_of_none ha fr
  have ha2 : upd H l (.lst []) a = some (.ins C dx fs) := by rw [upd_ne hne]; exact ha
  generalize ({ s with heap := (s.heap.push { cls := .type "list", data := .seq #[] }).update l (Obj.mapSeq fun _ => #[]), toks := s.toks } : Shared) = s2 at I2 ⊢
  obtain ⟨od, J⟩ := I2.instAt ha2
  obtain ⟨m0, hF⟩ := I2.fr
  unfold Builtin.List.listExtendWith
  refine wpAny_bind (J.type.here ?_)
  have h1 : Builtin.List.listSameRef (.ref l) (.ref a) = false := by simp [Builtin.List.listSameRef, hne.symm]
  have h2 : (Value.ref C == Value.type "list") = false := rfl
  have h3 : (Value.ref C == Value.type "tuple") = false := rfl
  simp only [h1, h2, h3, Bool.or_false, Bool.false_eq_true, if_false]
  refine wpAny_bind (PySem.W.owit_iter hF I2.ok.mod.kin J hmI.at_ hmI.fn ?_)
  have rI : Room k X.A.in1.in1 := (hr.in1 (k := k + 1)).in1
  refine wpAny_mono (run_fnA (X := X.nox) (us := [.ref a]) (vs := [.ref a]) (dvs := []) rfl FI rI bI .nil pass0 (I2.wish _) (.cons rfl .nil) q1) (fun v s3 q => ?_) (fun _ _ z => z.elim)
  obtain ⟨v', H', I3, rv', it, rfl, hit, rfl⟩ := q
  obtain rfl : v = Value.ref it := rv'
  replace I3 := I3.unwish
  have hil : it ≠ l := fun z => by rw [z, upd_same] at hit; cases hit
  have hitH : H it = none := by rw [upd_ne hil] at hit; exact hit
  have gi := itT_get I3 upd_same
  show wpAny _ _ (specialOf (.ref it) "__next__") _ _ _
  refine wpAny_specialOf gi.typeIs PySem.F.slot_tuple_iterator_next.lookup ?_
  have ha3 : upd (upd H l (.lst [])) it (ItT t it 0) a = some (.ins C dx fs) := by rw [upd_ne (ne_of_none ha2 hit)]; exact ha2
  obtain ⟨od3, J3⟩ := I3.instAt ha3
  obtain ⟨m3, hF3⟩ := I3.fr
  have rL : Room k2 X.A.in1.in1.in1 := ((hr2.in1 (k := k2 + 2)).in1 (k := k2 + 1)).in1
  refine wpAny_bind (wpAny_holding (gb_hint hmL.at_ I3.kIn J3 (PySem.W.len_K hF3 I3.ok.mod.kin J3 hmL.at_ hmL.fn ?_)))
  refine wpAny_mono (run_fnA (X := X.nox) (us := [.ref a]) (vs := [.ref a]) (dvs := []) rfl FL rL bL .nil pass0 (I3.wish _) (.cons rfl .nil) (q2 it hitH hil)) (fun v s4 q => ?_) (fun _ _ z => z.elim)
  obtain ⟨v', H', I4, rv4, rfl, rfl⟩ := q
  obtain ⟨tk, rfl⟩ := (show ∃ t, v = Value.int zs.length t from rv4)
  replace I4 := I4.unwish.tok (s4.toks + 1)
  refine ⟨⟨by omega, by omega⟩, _, _, rfl, ?_, ?_⟩
  · show decide ((zs.length : Int).toNat > sizeLine) = false
    rw [sizeLine_eq]
    exact decide_eq_false (by omega)
  generalize ({ s4 with toks := s4.toks + 1 } : Shared) = s5 at I4 ⊢
  have hzl : zs.length < sizeLine := by rw [sizeLine_eq]; omega
  have loop : ∀ s, Inv X pins σ (upd (upd H l (.lst [])) it (ItT t it 0)) s → codeAny (model X.prog X.w) X.A.in1 (.builtin "list.extend.loop" ⟨[.ref l, .ref it, .none], []⟩) (wants (fun r s₂ => r = .none ∧ EP X pins σ Q (.ref l) s₂) X.xe) s := fun s' I' =>
    gb_loop (A1 := X.A.in1) (zs := zs) (show X.A.in1.handled = none from hr.hd) hil hT hzl fr hitH (fun s6 I6 => ⟨rfl, .ref l, _, I6, rfl, q3 it hitH hil⟩) zs.length 0 s' rfl (Nat.zero_le _) I'
  refine wpAny_ite_split (fun _ => ?_) (fun _ => wpAny_pure ⟨plainId_quiet PySem.F.plain_extend_loop _, loop s5 I4⟩)
  have hql : upd (upd H l (.lst [])) it (ItT t it 0) l = some (.lst []) := by rw [upd_ne hil.symm, upd_same]
  obtain ⟨z, its, k4, r3, hl3, e3⟩ := I4.lstM hql
  cases r3
  refine wpAny_bind (wpAny_rule ?_)
  refine wpAny_bind ?_
  show wpAny _ _ (updateSeq l (·.push .none) >>= fun _ => updateSeq l (·.pop)) _ _ _
  refine wpAny_bind (wpAny_updateSeq e3 rfl ?_)
  have I5 := I4.lset (f := (·.push Value.none)) (its' := [Value.none]) (ys := [.non]) (t' := s5.toks) hql e3 (by simp) (.cons rfl .nil) (by rw [List.length_singleton, sizeLine_eq]; decide)
  obtain ⟨z4, its4, k5, r4, hl4, e4⟩ := I5.lstM upd_same
  obtain ⟨u4, rfl, ru4⟩ := r4.one
  refine wpAny_updateSeq e4 rfl ?_ (by show 1 ≤ sizeLine; rw [sizeLine_eq]; decide) (by show 0 ≤ sizeLine + 1; exact Nat.zero_le _)
  refine wpAny_pure ⟨plainId_quiet PySem.F.plain_extend_loop _, loop _ ?_⟩
  have I6 := I5.lset (f := (·.pop)) (its := [u4]) (its' := []) (ys := []) (t' := s5.toks) upd_same e4 (by rfl) .nil (Nat.zero_le _)
  rw [upd_upd] at I6
  have hH : upd (upd (upd H l (.lst [])) it (ItT t it 0)) l (.lst []) = upd (upd H l (.lst [])) it (ItT t it 0) := by rw [upd_swap hil, upd_upd]
  rw [hH] at I6
  exact I6
end
end L2
namespace L2
open PySem PySem.Spec PyProof.Rows StX
/-- zip of two tuples -/
theorem walk_zipT {K : PySem.W.Frag} {a b : Addr} {xs ys : List V} {n : Nat} (hn : n = min xs.length ys.length) : Walk (RZ.ItzT K a b) n (fun H => SqT K H a xs ∧ SqT K H b ys) (YPair (fun i => xs[i]?) (fun i => ys[i]?)) := by
  subst hn
  refine ⟨fun i _ hi q => ?_, fun _ q => ⟨xs, ys, q.1, q.2, by omega⟩, fun i H v H' _ q y => ?_⟩
  · have h1 : i < xs.length := by omega
    have h2 : i < ys.length := by omega
    exact ⟨xs, ys, xs[i], ys[i], q.1, q.2, by simp [h1], by simp [h2]⟩
  · obtain ⟨T, x, z, h1, h2, h3, h4, h5⟩ := y
    exact ⟨T, x, z, h1, h2, h3, h4 xs q.1, h5 ys q.2⟩
theorem pi_zipK {X : Cx} (K : PySem.W.Frag) {e e2 : Expr} {ta : TA} {p pos tpos : Pos} {elts : List Expr} {kk : Nat} (hg : Gl X "zip") (hm : X.mg "zip" = none) (ha : PA X [e, e2] ta) (hK : X.K = K := by rfl)
    (hs : starEach [e, e2] X.env = (false, eval e X.env) :: starEach [e2] X.env := by rfl) (hpl : (backTo pos (starEach [e2] X.env)).any (·.1) = false := by rfl) :
    PI X (.Tuple elts kk tpos) (.Call (.Name "zip" p) [e, e2] [] pos) (RZ.iZipA K ta) := hK ▸ RZ.pi_zipA hg hm ha hs hpl
section
variable {P : Program} {w : World} {K : PySem.W.Frag} {mg : Str → Option Value} {base : Heap}
/-- what a def with *args says of its arguments -/
def spStar (m : Nat) (sp : Sp) : Sp := fun vs H Q E => ∃ ws rest, vs = ws ++ rest ∧ ws.length = m ∧ rest.length ≤ sizeLine ∧ ∀ p, H p = Option.none → sp (ws ++ [V.ref p]) (upd H p (.tup rest)) Q E
theorem Fun.okStar {x qual : Str} {st : Stmt} {f : Addr} {fd : FuncData} {N : List Str} {p1 pv : Str} {k : Nat} {sp : Sp} (F : Fun K x qual st f fd) (S : FnScope N ([p1] ++ [pv]) (defScope st))
    (hb : ∀ (kV doc pm : Value) (an : Option Addr) (cdv ct : Value) (us rest : List Value), us.length = [p1].length → bindArgs (PySem.W.fnOf x qual (defArgs st) (defBody st) (defScope st) .none kV doc pm an cdv ct) ⟨us ++ rest, []⟩ = (newTuple rest >>= fun t => pure ([p1].zip us ++ [(pv, t)])))
    (hbody : ∀ (cdv : Value) (A : Around) (outer : List Env) (s : Shared) (H : Hp) (vs : List V) (Q : VK) (E : XK), Room k (A.deeper (envOfC qual (defScope st) s.heap.objs.size f cdv)) → sp vs H Q E →
      ∃ t, PSs (cxOf (L2.CX P w) P w K mg base N qual (defScope st) f cdv A outer s H E) (defBody st) t ∧ t { nx := fun _ H' => Q .non H', rt := Q } (start N vs) H) : FnR P w K mg base (L2.CX P w) (k + 1) f (spStar 1 sp) := by
  obtain ⟨oc, od, kV, doc, pm, an, cdv, ct, osl, rfl, lk, hcd⟩ := F.ex
  exact fn_star (ps := [p1]) (pv := pv) lk hcd S cxUp (hb kV doc pm an cdv ct) fun A outer s H vs Q E hr hsp => hbody cdv A outer s H vs Q E hr hsp
end
section
variable {X : Cx} {CX : CXT} {k : Nat} {f C : Addr} {fd : FuncData} {ps : List Str} {sp : Sp} {E : XK} {x : Str} {e : Expr} {es : List Expr} {te : TE} {t : TA} {p sp_ pos : Pos}
/-- C(*y) -/
def tMakeStar (K : PySem.W.Frag) (C : Addr) (sp : Sp) (E : XK) (te : TE) : TE := fun σ H Q => te σ H fun y H1 => ∃ a xs, y = V.ref a ∧ (SqT K H1 a xs ∨ SqL K H1 a xs) ∧ ∀ x dx, H1 x = Option.none → H1 dx = Option.none → dx ≠ x →
  sp (V.ref x :: xs) (upd (upd H1 dx (.own x)) x (.ins C dx [])) (fun v H2 => v = .non ∧ Q (.ref x) H2) E
theorem pe_makeStar (M : Mk X.K C f) (F : FnR X.prog X.w X.K X.mg X.base CX k f sp) (hr : Room (k + 1) X.A) (hg : Gl X x) (hm : X.mg x = some (.ref C)) (hx : Passes CX X E) (he : PE X e te) (hd : (x == ("__debug__" : Str)) = false := by decide)
    (hst : starEach [.Starred e sp_] X.env = [(true, eval e X.env)] := by rfl) : PE X (.Call (.Name x p) [.Starred e sp_] [] pos) (tMakeStar X.K C sp E te) := by
  refine ⟨fun pins s σ H Q I h => ?_⟩
  refine wpAny_Call_Name_kw (ld_glob I hg hm ?_ hd)
  refine PySem.W.callWith_S (h₀ := X.base) I.ok.mod.kin M.kp (thn (he.run pins s σ H _ I h) fun v s1 ⟨y, H1, I1, ry, a, xs, ey, hxs, q⟩ => ?_) hst
  subst ey
  obtain rfl : v = Value.ref a := ry
  exact star_any I1 hxs fun us s2 I2 rv => ⟨I2.kIn, run_makeR M F hr hx I2 rv q⟩
/-- the same in a try's body -/
def tMakeRT (C : Addr) (sp : Sp) (E : St → XK) (t : TA) : TE := fun σ H Q => t σ H fun vs H1 => ∀ x dx, H1 x = Option.none → H1 dx = Option.none → dx ≠ x →
  sp (V.ref x :: vs) (upd (upd H1 dx (.own x)) x (.ins C dx [])) (fun v H2 => v = .non ∧ Q (.ref x) H2) (E σ)
theorem run_makeRT {E : St → XK} {pins : List (Addr × Obj)} {σ : L2.St} {H : Hp} {s : Shared} {Q : VK} {us : List Value} {vs : List V} (M : Mk X.K C f) (F : FnR X.prog X.w X.K X.mg X.base CX k f sp) (hr : Room (k + 1) X.A) (hx : PassesAt CX X σ (E σ)) (I : Inv X pins σ H s) (r : Vals vs us)
    (h : ∀ x dx, H x = Option.none → H dx = Option.none → dx ≠ x → sp (V.ref x :: vs) (upd (upd H dx (.own x)) x (.ins C dx [])) (fun v H2 => v = .non ∧ Q (.ref x) H2) (E σ)) :
    wpAny (model X.prog X.w) X.A (call (.ref C) us) (EP X pins σ Q) X.xe s := by
  have hq := h (s.heap.objs.size + 1) s.heap.objs.size (I.hok.fresh (Nat.le_succ _)) (I.hok.fresh (Nat.le_refl _)) (Nat.ne_of_lt (Nat.lt_succ_self _))
  have I2 := Inv.made (C := C) I
  have r2 : Vals (V.ref (s.heap.objs.size + 1) :: vs) (Value.ref (s.heap.objs.size + 1) :: us) := .cons rfl r
  refine wpAny_call (make_map (f := f) I.kIn M.makes M.init (beq_iff_eq.mp M.fn) (codeAny_mono (F _ X.stack _ _ (Value.ref (s.heap.objs.size + 1) :: us) _ _ (E σ) (hr.make C us []) (I2.env0.make C us []) r2 hq) fun r s' hq' => ?_))
  cases r with
  | error e => exact hx pins _ _ e s' I2 hq'
  | ok fl =>
    cases fl with
    | ret u =>
      obtain ⟨v, H', I3, rv, ev, q3⟩ := I2.after hq'
      subst ev
      exact ⟨rv, ⟨V.ref (s.heap.objs.size + 1), H', I3, rfl, q3⟩⟩
    | next => exact False.elim hq'
    | brk => exact False.elim hq'
    | cont => exact False.elim hq'
theorem pe_makeRT {E : St → XK} (M : Mk X.K C f) (F : FnR X.prog X.w X.K X.mg X.base CX k f sp) (hr : Room (k + 1) X.A) (hg : Gl X x) (hm : X.mg x = some (.ref C)) (hx : ∀ σ, PassesAt CX X σ (E σ)) (ha : PA X (e :: es) t) (hdb : (x == ("__debug__" : Str)) = false := by decide)
    (he : starEach (e :: es) X.env = (false, eval e X.env) :: starEach es X.env := by rfl) (hpl : (backTo pos (starEach es X.env)).any (·.1) = false := by rfl) : PE X (.Call (.Name x p) (e :: es) [] pos) (tMakeRT C sp E t) := by
  refine ⟨fun pins s σ H Q I h => ?_⟩
  refine wpAny_Call_Name_kw (ld_glob I hg hm ?_ hdb)
  refine PySem.W.callWith_K (h₀ := X.base) I.ok.mod.kin M.kp (thn (ha.run pos pins s σ H _ I h) fun us s1 ⟨vs, H1, I1, r, q⟩ => ⟨I1.kIn, ?_⟩) he hpl
  exact run_makeRT M F hr (hx σ) I1 r q
theorem pe_makeRT0 {E : St → XK} (M : Mk X.K C f) (F : FnR X.prog X.w X.K X.mg X.base CX k f sp) (hr : Room (k + 1) X.A) (hg : Gl X x) (hm : X.mg x = some (.ref C)) (hx : ∀ σ, PassesAt CX X σ (E σ)) (hdb : (x == ("__debug__" : Str)) = false := by decide) :
    PE X (.Call (.Name x p) [] [] pos) (tMakeRT C sp E tNil) := by
  refine ⟨fun pins s σ H Q I h => ?_⟩
  refine wpAny_Call_Name_kw (ld_glob I hg hm ?_ hdb)
  exact PySem.W.callWith_K0 I.kIn M.kp (run_makeRT M F hr (hx σ) I .nil h)
/-- y in x in a try's body, x of an own class -/
def tInT (C : Addr) (sp : Sp) (E : St → XK) (ta tb : TE) : TE := fun σ H Q => ta σ H fun y H1 => tb σ H1 fun x H2 => ∃ a dx fs, x = .ref a ∧ H2 a = some (.ins C dx fs) ∧ sp [x, y] H2 (fun v H' => ∃ b, v = .bl b ∧ Q (.bl b) H') (E σ)
theorem pe_inT {E : St → XK} {l r : Expr} {ta tb : TE} (hm : Meth X.K C "__contains__" f) (F : FnOk X.prog X.w X.K X.mg X.base CX k f fd ps sp) (hr : Room k X.A) (hb : Binds X.K fd ps []) (hx : ∀ σ, PassesAt CX X σ (E σ)) (ha : PE X l ta) (hb' : PE X r tb) (hmk : behindInMarks .In r = false) :
    PE X (.Compare l [.In] [r] pos) (tInT C sp E ta tb) := by
  refine ⟨fun pins s σ H Q I h => ?_⟩
  refine wpAny_Compare1 (binT ha hb' I h fun v u s2 y x H2 I2 ry rx q => ?_) hmk
  obtain ⟨a, dx, fs, rfl, ea, q⟩ := q
  obtain rfl : u = Value.ref a := rx
  obtain ⟨od, J⟩ := I2.instAt ea
  obtain ⟨m, fr⟩ := I2.fr
  refine PySem.W.in_K fr I2.ok.mod.kin J hm.at_ hm.fn (thn (run_fnS2 F hr hb (hx σ) I2 (.cons (show RelV (.ref a) (Value.ref a) from rfl) (.cons ry .nil)) q) fun w s' q => ?_)
  obtain ⟨v', H', I', rv, b, rfl, q⟩ := q
  obtain rfl : w = Value.bool b := rv
  exact wpAny_truthy_bool ⟨.bl b, H', I', rfl, q⟩
end
section
variable {X : Cx} {CX : CXT} {k : Nat} {f C : Addr} {fd : FuncData} {ps : List Str} {sp : Sp} {E : XK}
/-- x[y] by an own __getitem__ -/
def rIxOwn (C : Addr) (sp : Sp) (E : XK) : R2 := fun x y H Q => ∃ a dx fs i, x = .ref a ∧ H a = some (.ins C dx fs) ∧ y = .int i ∧ sp [x, y] H Q E
theorem pe_ixOwn {a b : Expr} {ta tb : TE} {pos : Pos} (hm : Meth X.K C "__getitem__" f) (hfn : PySem.W.fnIn X.K f = true) (F : FnOk X.prog X.w X.K X.mg X.base CX k f fd ps sp) (hr : Room (k + 1) X.A) (hb : Binds X.K fd ps []) (hx : Passes CX X E) (ha : PE X a ta) (hb2 : PE X b tb)
    (hs : ∀ (x : Addr) (i : Value), subscripted b true (.ref x) i = runValue (.builtin "lifetime.subscript" ⟨[.ref x, i], []⟩) := by intro _ _; rfl) : PE X (.Subscript a b pos) (tOp (rIxOwn C sp E) ta tb) := by
  refine ⟨fun pins s σ H Q I h => ?_⟩
  refine Subscript_ (binT ha hb2 I h fun v u s2 x y H2 I2 rx ry q => ?_)
  obtain ⟨a', dx, fs, i, rfl, ea, rfl, q⟩ := q
  obtain rfl : v = Value.ref a' := rx
  obtain ⟨t, rfl⟩ := (show ∃ t, u = Value.int i t from ry)
  obtain ⟨od, J⟩ := I2.instAt ea
  obtain ⟨m, fr⟩ := I2.fr
  exact PySem.W.sub_K fr I2.ok.mod.kin J hm.at_ hfn hm.fn (run_fnA (A := X.A.in1) (us := [.ref a', .int i t]) (vs := [.ref a', .int i]) (dvs := []) rfl F hr.in1 hb .nil hx I2 (.cons rfl (.cons ⟨t, rfl⟩ .nil)) q) (hs _ _)
end
end L2
namespace L2
open PySem PySem.Spec PyProof.Rows StX
theorem call_listItK {X : Cx} (K : PySem.W.Frag) {k k2 : Nat} {fi fl C : Addr} {fd fd2 : FuncData} {ps ps2 : List Str} {spI spL : Sp} (hmI : Meth X.K C "__iter__" fi) (hmL : Meth X.K C "__len__" fl) (FI : FnOk X.prog X.w X.K X.mg X.base CX0 k fi fd ps spI) (FL : FnOk X.prog X.w X.K X.mg X.base CX0 k2 fl fd2 ps2 spL)
    (bI : Binds X.K fd ps []) (bL : Binds X.K fd2 ps2 []) (hr : Room (k + 2) X.A) (hr2 : Room (k2 + 3) X.A) (hK : X.K = K := by rfl) : CallR X (.type "list") (rListIt K C spI spL) := hK ▸ call_listIt hmI hmL FI FL bI bL hr hr2
theorem call_iterTK {X : Cx} (K : PySem.W.Frag) (hK : X.K = K := by rfl) : CallR X (.builtin "iter") (rIterT K) := hK ▸ call_iterT
def spNever : Sp := fun _ _ _ _ => False
theorem dpInts {K : PySem.W.Frag} {H : Hp} : ∀ xs : List Int, DpAll K H (xs.map V.int) (xs.map PyData.int)
  | [] => .nil
  | x :: xs => .cons (.int x) (dpInts xs)
theorem eqvInts : ∀ xs ys : List Int, PyData.eqvAll (xs.map PyData.int) (ys.map PyData.int) = decide (xs = ys)
  | [], [] => by simp [PyData.eqvAll]
  | [], _ :: _ => by simp [PyData.eqvAll]
  | _ :: _, [] => by simp [PyData.eqvAll]
  | x :: xs, y :: ys => by
    simp only [List.map_cons, PyData.eqvAll, eqvInts xs ys, PyData.eqv]
    simp [List.cons.injEq, Bool.decide_and]
    rfl
theorem eqvT (xs ys : List Int) : PyData.eqv (.tuple (xs.map PyData.int)) (.tuple (ys.map PyData.int)) = decide (xs = ys) := by simp only [PyData.eqv]; exact eqvInts xs ys
theorem eqvL (xs ys : List Int) : PyData.eqv (.list (xs.map PyData.int)) (.list (ys.map PyData.int)) = decide (xs = ys) := by simp only [PyData.eqv]; exact eqvInts xs ys
theorem layInts : ∀ xs : List Int, PyData.canLayAll0 (xs.map PyData.int) = true
  | [] => rfl
  | x :: xs => by
    show (PyData.canLay0 (PyData.int x) && PyData.canLayAll0 (xs.map PyData.int)) = true
    rw [layInts xs]; rfl
theorem depInts : ∀ xs : List Int, PyData.depthAll (xs.map PyData.int) = 0
  | [] => rfl
  | x :: xs => by
    simp only [List.map_cons, PyData.depthAll, depInts xs, PyData.depth]
    rfl
theorem shT (xs : List Int) : SeqAt.shaped (.tuple (xs.map PyData.int)) = true := by
  unfold SeqAt.shaped
  simp only [PyData.canLay0, PyData.depth, layInts, depInts]
  rfl
theorem shL (xs : List Int) : SeqAt.shaped (.list (xs.map PyData.int)) = true := by
  unfold SeqAt.shaped
  simp only [PyData.canLay0, PyData.depth, layInts, depInts]
  rfl
theorem same_put {H H' : Hp} {D : Addr} {o : HO} (s : Same H H') (h : H D = none) : Same H (upd H' D o) := fun b u e => by
  rw [upd_ne (fun z => by rw [z, h] at e; cases e)]
  exact s b u e
end L2
namespace L2
open PySem PySem.Spec PyProof.Rows StX
def rTupOf (K : PySem.W.Frag) : List V → Hp → VK → Prop := fun xs H Q => ∃ p ys, xs = [.ref p] ∧ ((SqL K H p ys ∧ ∀ l, H l = none → Q (.ref l) (upd H l (.tup ys))) ∨ (SqT K H p ys ∧ Q (.ref p) H))
theorem call_tuple_ofK {X : Cx} (K : PySem.W.Frag) (hK : X.K = K := by rfl) : CallR X (.type "tuple") (rTupOf K) := hK ▸ call_tuple_of
theorem sl_listK {X : Cx} (K : PySem.W.Frag) (hK : X.K = K := by rfl) : SlR X (rSlL K) := hK ▸ sl_list
end L2
/-! plain mathematics: lowest terms, Euclid's steps -/
namespace L2
/-- (t, b) is T / B in lowest terms -/
structure Rep (t b T B : Int) : Prop where
  pos : 1 ≤ b
  cross : t * B = T * b
  cop : Nat.gcd t.natAbs b.natAbs = 1
  st : t.natAbs ≤ T.natAbs
  sb : b.natAbs ≤ B.natAbs
theorem rep_of {T B : Int} (hB : B ≠ 0) {g : Nat} (hg : g = Nat.gcd T.natAbs B.natAbs) {f : Int} (hf : f = if B < 0 then -(g : Int) else (g : Int)) : f ≠ 0 ∧ f.natAbs ≤ B.natAbs ∧ Rep (T.fdiv f) (B.fdiv f) T B := by
  have hb0 : 0 < B.natAbs := Int.natAbs_pos.mpr hB
  have g0 : 0 < g := by rw [hg]; exact Nat.gcd_pos_of_pos_right _ hb0
  have gle : g ≤ B.natAbs := by rw [hg]; exact Nat.gcd_le_right _ hb0
  have d1 : (g : Int) ∣ T := by
    rw [hg]; exact Int.ofNat_dvd_left.mpr (Nat.gcd_dvd_left _ _)
  have d2 : (g : Int) ∣ B := by
    rw [hg]; exact Int.ofNat_dvd_left.mpr (Nat.gcd_dvd_right _ _)
  obtain ⟨t1, e1⟩ := d1
  obtain ⟨b1, e2⟩ := d2
  have gi : (g : Int) ≠ 0 := by omega
  have cop : Nat.gcd t1.natAbs b1.natAbs = 1 := by
    have h : g = g * Nat.gcd t1.natAbs b1.natAbs := by
      have : Nat.gcd T.natAbs B.natAbs = g * Nat.gcd t1.natAbs b1.natAbs := by
        rw [e1, e2, Int.natAbs_mul, Int.natAbs_mul, Int.natAbs_natCast, Nat.gcd_mul_left]
      rw [← hg] at this; exact this
    have h' : g * 1 = g * Nat.gcd t1.natAbs b1.natAbs := by rw [Nat.mul_one]; exact h
    exact (Nat.eq_of_mul_eq_mul_left g0 h').symm
  have st : t1.natAbs ≤ T.natAbs := by rw [e1, Int.natAbs_mul, Int.natAbs_natCast]; exact Nat.le_mul_of_pos_left _ g0
  have sb : b1.natAbs ≤ B.natAbs := by rw [e2, Int.natAbs_mul, Int.natAbs_natCast]; exact Nat.le_mul_of_pos_left _ g0
  by_cases hn : B < 0
  · rw [if_pos hn] at hf
    have ft : T.fdiv f = -t1 := by
      rw [hf, e1, show (g : Int) * t1 = -(g : Int) * (-t1) by rw [Int.neg_mul_neg]]
      exact Int.mul_fdiv_cancel_left _ (by omega)
    have fb : B.fdiv f = -b1 := by
      rw [hf, e2, show (g : Int) * b1 = -(g : Int) * (-b1) by rw [Int.neg_mul_neg]]
      exact Int.mul_fdiv_cancel_left _ (by omega)
    have hb1 : b1 < 0 := by
      have q : (g : Int) * b1 < (g : Int) * 0 := by rw [Int.mul_zero, ← e2]; exact hn
      exact Int.lt_of_mul_lt_mul_left q (by omega)
    refine ⟨by omega, by rw [hf, Int.natAbs_neg, Int.natAbs_natCast]; exact gle, ?_⟩
    rw [ft, fb]
    refine ⟨by omega, ?_, by rw [Int.natAbs_neg, Int.natAbs_neg]; exact cop, by rw [Int.natAbs_neg]; exact st, by rw [Int.natAbs_neg]; exact sb⟩
    rw [e1, e2, Int.neg_mul, Int.mul_neg, Int.mul_assoc, Int.mul_left_comm]
  · rw [if_neg hn] at hf
    have ft : T.fdiv f = t1 := by rw [hf, e1]; exact Int.mul_fdiv_cancel_left _ gi
    have fb : B.fdiv f = b1 := by rw [hf, e2]; exact Int.mul_fdiv_cancel_left _ gi
    have hb1 : 0 < b1 := by
      have q : (g : Int) * 0 < (g : Int) * b1 := by rw [Int.mul_zero, ← e2]; omega
      exact Int.lt_of_mul_lt_mul_left q (by omega)
    refine ⟨by omega, by rw [hf, Int.natAbs_natCast]; exact gle, ?_⟩
    rw [ft, fb]
    refine ⟨by omega, ?_, cop, st, sb⟩
    rw [e1, e2, Int.mul_assoc, Int.mul_left_comm]
/-- lowest terms are the only ones -/
theorem rep_uniq {t b t' b' : Int} (h : 1 ≤ b) (h' : 1 ≤ b') (c : Nat.gcd t.natAbs b.natAbs = 1) (c' : Nat.gcd t'.natAbs b'.natAbs = 1) (e : t * b' = t' * b) : t = t' ∧ b = b' := by
  have e1 : t.natAbs * b'.natAbs = t'.natAbs * b.natAbs := by rw [← Int.natAbs_mul, ← Int.natAbs_mul, e]
  have d1 : b.natAbs ∣ b'.natAbs := by
    refine Nat.Coprime.dvd_of_dvd_mul_left (k := b.natAbs) (m := t.natAbs) ?_ ?_
    · show Nat.gcd b.natAbs t.natAbs = 1
      rw [Nat.gcd_comm]; exact c
    · rw [e1]; exact Nat.dvd_mul_left _ _
  have d2 : b'.natAbs ∣ b.natAbs := by
    refine Nat.Coprime.dvd_of_dvd_mul_left (k := b'.natAbs) (m := t'.natAbs) ?_ ?_
    · show Nat.gcd b'.natAbs t'.natAbs = 1
      rw [Nat.gcd_comm]; exact c'
    · rw [← e1]; exact Nat.dvd_mul_left _ _
  have eb := Nat.dvd_antisymm d1 d2
  have eb' : b = b' := by omega
  subst eb'
  exact ⟨Int.eq_of_mul_eq_mul_right (by omega) e, rfl⟩
/-! ### Euclid -/
def Euc (a b i : Nat) : Prop := (i = 0 ∧ b < 2 ^ 200) ∨ (1 ≤ i ∧ b < a ∧ a * b * 2 ^ (i - 1) ≤ 2 ^ 400)
theorem Euc.turn {a b i : Nat} (h : Euc a b i) (hb : b ≠ 0) : Euc b (a % b) (i + 1) ∧ i ≤ 401 := by
  have hm : a % b < b := Nat.mod_lt _ (Nat.pos_of_ne_zero hb)
  rcases h with ⟨rfl, h⟩ | ⟨h1, h2, h3⟩
  · refine ⟨.inr ⟨Nat.le_refl _, hm, ?_⟩, Nat.zero_le _⟩
    show b * (a % b) * 2 ^ 0 ≤ 2 ^ 400
    have : b * (a % b) ≤ 2 ^ 200 * 2 ^ 200 := Nat.mul_le_mul (Nat.le_of_lt h) (Nat.le_of_lt (Nat.lt_trans hm h))
    rw [Nat.pow_zero, Nat.mul_one]
    rw [← Nat.pow_add] at this
    exact this
  · refine ⟨.inr ⟨by omega, hm, ?_⟩, ?_⟩
    · obtain ⟨j, rfl⟩ : ∃ j, i = j + 1 := ⟨i - 1, by omega⟩
      show b * (a % b) * 2 ^ (j + 1) ≤ 2 ^ 400
      have h2' : 2 * (a % b) ≤ a := by
        have e := Nat.div_add_mod a b
        have q : 1 ≤ a / b := Nat.div_pos (Nat.le_of_lt h2) (Nat.pos_of_ne_zero hb)
        have : b * 1 ≤ b * (a / b) := Nat.mul_le_mul_left _ q
        omega
      have e : b * (a % b) * 2 ^ (j + 1) = (b * (2 * (a % b))) * 2 ^ j := by
        rw [Nat.pow_succ, Nat.mul_comm (2 ^ j) 2, ← Nat.mul_assoc, Nat.mul_assoc b, Nat.mul_comm (a % b) 2]
      rw [e]
      refine Nat.le_trans (Nat.mul_le_mul_right _ (Nat.mul_le_mul_left b h2')) ?_
      rw [Nat.mul_comm b a]
      exact h3
    · have : 1 * 1 * 2 ^ (i - 1) ≤ a * b * 2 ^ (i - 1) := Nat.mul_le_mul_right _ (Nat.mul_le_mul (by omega) (by omega))
      simp only [Nat.one_mul] at this
      have q : i - 1 ≤ 400 := (Nat.pow_le_pow_iff_right (by decide)).mp (Nat.le_trans this h3)
      omega
theorem pow_le {m n : Nat} (h : m ≤ n) : (1000 : Int) ^ m ≤ 1000 ^ n := by
  induction h with
  | refl => exact Int.le_refl _
  | step h ih =>
    rename_i k
    have p : ∀ j : Nat, (0 : Int) ≤ 1000 ^ j := fun j => by
      induction j with
      | zero => decide
      | succ j ih => rw [Int.pow_succ]; omega
    rw [Nat.succ_eq_add_one, Int.pow_succ]
    have := p k
    omega
end L2
namespace L2
open PySem PySem.Spec PyProof.Rows StX
theorem upd_fr {H : Hp} {p q : Addr} {o u : HO} (e : H q = some u) (hp : H p = none) : upd H p o q = some u := by rw [upd_ne (ne_of_none e hp)]; exact e
theorem upd_df {H : Hp} {p q : Addr} {o u : HO} (e : H q = some u) (n : q ≠ p) : upd H p o q = some u := by rw [upd_ne n]; exact e
theorem none_ne {H : Hp} {a b : Addr} {o : HO} (h' : H b = none) (h : H a = some o) : a ≠ b := ne_of_none h h'
theorem same_nw {H H' : Hp} {p : Addr} {o : HO} (s : Same H H') (h : H' p = none) : Same H (upd H' p o) := s.trans (same_new h)
theorem but_nw {q : Addr} {H H' : Hp} {p : Addr} {o : HO} (s : SameBut q H H') (h : H' p = none) : SameBut q H (upd H' p o) := s.trans (same_new h).but
theorem but_own {p : Addr} {H H' : Hp} {o : HO} (s : SameBut p H H') : SameBut p H (upd H' p o) := s.trans sameBut_upd
theorem put_but {p D : Addr} {H0 H' : Hp} {o : HO} (s : SameBut p H0 H') (hD : H0 D = none) : SameBut p H0 (upd H' D o) := fun b u n e => by
  rw [upd_ne (fun z => by rw [z, hD] at e; cases e)]
  exact s b u n e
theorem iteB {c : Bool} {A B : Prop} (h1 : c = true → A) (h2 : c = false → B) : if c = true then A else B := by
  cases c with
  | true => rw [if_pos rfl]; exact h1 rfl
  | false => rw [if_neg (by decide)]; exact h2 rfl
theorem eq_int {a b : Int} (h : V.int a = V.int b) : a = b := by injection h
theorem ne_int {a b : Int} (h : ¬ V.int a = V.int b) : ¬ a = b := fun e => h (by rw [e])
theorem iteI {a b : Int} {A B : Prop} (h1 : a = b → A) (h2 : ¬ a = b → B) : if decide (V.int a = V.int b) = true then A else B := iteD (fun e => h1 (eq_int e)) fun e => h2 (ne_int e)
theorem iteIN {a b : Int} {A B : Prop} (h1 : ¬ a = b → A) (h2 : a = b → B) : if (!decide (V.int a = V.int b)) = true then A else B := iteDN (fun e => h2 (eq_int e)) fun e => h1 (ne_int e)
theorem lc_put {H H' : Hp} {D : Addr} {vs : List V} {i : Nat} {v : V} (hD : H D = none) (s : Same H H') (e : H' D = some (.lst (vs.take i))) (hv : vs[i]? = some v) (hz : vs.length ≤ 1000) :
    ∃ acc, H' D = some (.lst acc) ∧ acc.length < sizeLine ∧ (Same H (upd H' D (.lst (acc ++ [v]))) ∧ upd H' D (.lst (acc ++ [v])) D = some (.lst (vs.take (i + 1)))) := by
  refine ⟨_, e, by rw [sizeLine_eq, List.length_take]; omega, same_put s hD, ?_⟩
  rw [upd_same, List.take_succ, hv]
  rfl
theorem take_all {vs : List V} {n : Nat} (h : vs.length ≤ n) : vs.take n = vs := List.take_of_length_le h
end L2
namespace L2
open PySem PySem.Spec PyProof.Rows StX
theorem lc_end {H' : Hp} {D : Addr} {vs : List V} {i : Nat} {v : V} (hv : vs[i]? = some v) : upd H' D (.lst (vs.take i ++ [v])) D = some (.lst (vs.take (i + 1))) := by
  rw [upd_same, List.take_succ, hv]
  rfl
theorem at_int {xs : List Int} {i : Nat} {z : Int} (h : xs[i]? = some z) : atI (xs.map V.int) ((0 : Int) + (i : Nat)) = some (.int z) := by
  rw [Int.zero_add]; exact atI_nat (by rw [List.getElem?_map, h]; rfl)
theorem get_mm {xs : List Int} {f : Int → Int} {i : Nat} {z w : Int} (h : xs[i]? = some z) (e : f z = w) : ((xs.map f).map V.int)[i]? = some (.int w) := by
  rw [List.getElem?_map, List.getElem?_map, h, ← e]; rfl
theorem get_zz {xs ys : List Int} {f : Int → Int → Int} {i : Nat} {z u w : Int} (h : xs[i]? = some z) (g : ys[i]? = some u) (e : f z u = w) : ((List.zipWith f xs ys).map V.int)[i]? = some (.int w) := by
  rw [List.getElem?_map, List.getElem?_zipWith, h, g, ← e]; rfl
end L2
namespace L2
open PySem PySem.Spec PyProof.Rows StX
theorem flat_str (ns : List Str) : (ns.map V.str).all flatV = true := by
  rw [List.all_eq_true]; intro v hv; obtain ⟨z, _, rfl⟩ := List.mem_map.mp hv; rfl
theorem flat_int (ns : List Int) : (ns.map V.int).all flatV = true := by
  rw [List.all_eq_true]; intro v hv; obtain ⟨z, _, rfl⟩ := List.mem_map.mp hv; rfl
theorem inV_strs (x : Str) : ∀ ns : List Str, inV (.str x) (ns.map V.str) = decide (x ∈ ns)
  | [] => rfl
  | n :: ns => by
    have ih := inV_strs x ns
    unfold inV at *
    rw [List.map_cons, List.any_cons, ih]
    by_cases h : x = n
    · subst h
      simp [eqV]
    · have : decide (x ∈ n :: ns) = decide (x ∈ ns) := by simp [h]
      rw [this]
      have e : eqV (.str n) (.str x) = false := by
        simp [eqV]
        intro hh; exact h hh.symm
      first
      | rw [e, Bool.false_or]
      | (have e2 : eqV (.str x) (.str n) = false := by
          simp [eqV]
          exact h
         rw [e2, Bool.false_or])
end L2
namespace L2
open PySem PySem.Spec PyProof.Rows StX
theorem inV_kv (x : Str) (ns : List Str) : inV (kV (Sum.inr x)) (ns.map V.str) = decide (x ∈ ns) := inV_strs x ns
theorem valV_kv (n : Str) : ∀ kvs : List (Str × Int), (valV (kvs.map fun p => ((Sum.inr p.1 : Key), V.int p.2)) (Sum.inr n)) = ((kvs.find? fun p => decide (p.1 = n)).map (·.2)).map V.int
  | [] => rfl
  | p :: kvs => by
    have ih := valV_kv n kvs
    unfold valV at *
    rw [List.map_cons, List.find?_cons, List.find?_cons]
    by_cases h : p.1 = n
    · have e1 : decide ((Sum.inr p.1 : Key) = Sum.inr n) = true := decide_eq_true (by rw [h])
      have e2 : decide (p.1 = n) = true := decide_eq_true h
      simp only [e1, e2]
      rfl
    · have e1 : decide ((Sum.inr p.1 : Key) = Sum.inr n) = false := decide_eq_false (fun e => h (by injection e))
      have e2 : decide (p.1 = n) = false := decide_eq_false h
      simp only [e1, e2]
      exact ih
end L2
namespace L2
open PySem PySem.Spec PyProof.Rows StX
theorem dpStrs {K : PySem.W.Frag} {H : Hp} : ∀ xs : List Str, DpAll K H (xs.map V.str) (xs.map PyData.str)
  | [] => .nil
  | x :: xs => .cons (.str x) (dpStrs xs)
theorem eqvStrs : ∀ xs ys : List Str, PyData.eqvAll (xs.map PyData.str) (ys.map PyData.str) = decide (xs = ys)
  | [], [] => by simp [PyData.eqvAll]
  | [], _ :: _ => by simp [PyData.eqvAll]
  | _ :: _, [] => by simp [PyData.eqvAll]
  | x :: xs, y :: ys => by
    simp only [List.map_cons, PyData.eqvAll, eqvStrs xs ys, PyData.eqv]
    by_cases h : x = y
    · subst h; simp
    · simp [h]
theorem eqvSL (xs ys : List Str) : PyData.eqv (.list (xs.map PyData.str)) (.list (ys.map PyData.str)) = decide (xs = ys) := by simp only [PyData.eqv]; exact eqvStrs xs ys
theorem eqvST (xs ys : List Str) : PyData.eqv (.tuple (xs.map PyData.str)) (.tuple (ys.map PyData.str)) = decide (xs = ys) := by simp only [PyData.eqv]; exact eqvStrs xs ys
theorem eqvSL0 (xs : List Str) : PyData.eqv (.list (xs.map PyData.str)) (.list []) = decide (xs = []) := eqvSL xs []
theorem layStrs : ∀ xs : List Str, (∀ s ∈ xs, PyData.strOk s = true) → PyData.canLayAll0 (xs.map PyData.str) = true
  | [], _ => rfl
  | x :: xs, h => by
    show (PyData.strOk x && PyData.canLayAll0 (xs.map PyData.str)) = true
    rw [layStrs xs (fun s hs => h s (List.mem_cons_of_mem _ hs)), h x List.mem_cons_self]; rfl
theorem depStrs : ∀ xs : List Str, PyData.depthAll (xs.map PyData.str) = 0
  | [] => rfl
  | x :: xs => by
    simp only [List.map_cons, PyData.depthAll, depStrs xs, PyData.depth]
    rfl
theorem shSL {xs : List Str} (h : ∀ s ∈ xs, PyData.strOk s = true) : SeqAt.shaped (.list (xs.map PyData.str)) = true := by
  unfold SeqAt.shaped
  simp only [PyData.canLay0, PyData.depth, layStrs xs h, depStrs]
  rfl
theorem shST {xs : List Str} (h : ∀ s ∈ xs, PyData.strOk s = true) : SeqAt.shaped (.tuple (xs.map PyData.str)) = true := by
  unfold SeqAt.shaped
  simp only [PyData.canLay0, PyData.depth, layStrs xs h, depStrs]
  rfl
theorem at_ex {α : Type} {xs : List α} {r : Int} (h0 : 0 ≤ r) (h1 : r < xs.length) : ∃ c, atI xs r = some c := by
  obtain ⟨n, rfl⟩ : ∃ n : Nat, r = (n : Int) := ⟨r.toNat, by omega⟩
  exact ⟨xs[n]'(by omega), atI_nat (List.getElem?_eq_getElem (by omega))⟩
end L2
namespace L2
open PySem PySem.Spec PyProof.Rows StX
theorem but_same {H H1 H2 : Hp} {d : Addr} (s : Same H H1) (hd : H d = none) (b : SameBut d H1 H2) : Same H H2 := fun q o e => b q o (fun z => by rw [z, hd] at e; cases e) (s q o e)
end L2
namespace L2
open PySem PySem.Spec PyProof.Rows StX
theorem but_free {p q : Addr} {H H' : Hp} (s : SameBut p H H') (n : q ≠ p) (h : H' q = none) : H q = none := by
  cases e : H q with
  | none => rfl
  | some o => rw [s q o n e] at h; cases h
end L2
namespace L2
open PySem PySem.Spec PyProof.Rows StX
theorem erase_perm {α : Type} : ∀ (l : List α) (i : Nat) (h : i < l.length), (l[i] :: l.eraseIdx i).Perm l
  | a :: l, 0, _ => .refl _
  | a :: l, i + 1, h => by
    have hi : i < l.length := by simpa using h
    have ih := erase_perm l i hi
    show (l[i]'hi :: a :: l.eraseIdx i).Perm (a :: l)
    exact (List.Perm.swap _ _ _).trans (ih.cons a)
theorem map_erase {α β : Type} (f : α → β) : ∀ (l : List α) (i : Nat), (l.map f).eraseIdx i = (l.eraseIdx i).map f
  | [], _ => by simp
  | a :: l, 0 => rfl
  | a :: l, i + 1 => by
    show f a :: (l.map f).eraseIdx i = f a :: (l.eraseIdx i).map f
    rw [map_erase f l i]
end L2
namespace L2
open PySem PySem.Spec PyProof.Rows StX
theorem at_ref {L : List Addr} {w : Nat} (h : w < L.length) : atI (L.map V.ref) ((0 : Int) + (w : Nat)) = some (.ref (L.getD w 0)) := by
  rw [Int.zero_add]
  refine atI_nat ?_
  rw [List.getElem?_map, List.getElem?_eq_getElem h, List.getD_eq_getElem?_getD, List.getElem?_eq_getElem h]
  rfl
theorem str_ok {s : Str} (h : s.cps.all (· < 0x110000) = true) : PyData.strOk s = true := h
end L2
namespace L2
open PySem PySem.Spec PyProof.Rows StX
theorem eqv00 : PyData.eqv (.list []) (.list []) = true := by simp [PyData.eqv, PyData.eqvAll]
end L2
namespace L2
open PySem PySem.Spec PyProof.Rows StX
/-- `if c: R`, where c comes out false: what follows is read once, from any heap that the test may leave -/
theorem skip_if (G : Hp → Prop) {c : TT} {R rest : TS} {D : Ends} {σ : L2.St} {H : Hp} (h : ∀ Q : Bool → Hp → Prop, (∀ H', G H' → Q false H') → c σ H Q) (k : ∀ H', G H' → rest D σ H') : tSeq (tIfS c R tNext) rest D σ H :=
  h _ fun H' g => iteF (k H' g)
theorem skip_last (G : Hp → Prop) {c : TT} {R : TS} {D : Ends} {σ : L2.St} {H : Hp} (h : ∀ Q : Bool → Hp → Prop, (∀ H', G H' → Q false H') → c σ H Q) (k : ∀ H', G H' → D.nx σ H') : tIfS c R tNext D σ H :=
  h _ fun H' g => iteF (k H' g)
end L2
/-! notes: their trees, their texts, and what a reader from the left finds -/
namespace GN
open PySem TL
inductive N where
  | non
  | wrd (w : List Nat)
  | num (i : Int)
  | tup (ns : List N)
/-- the signs of an integer -/
def numT (i : Int) : List Nat := tl (Str.ofString (toString i))
mutual
def N.txt : N → List Nat
  | .non => [45]
  | .wrd w => w
  | .num i => numT i
  | .tup ns => 40 :: (N.txts ns ++ [41])
def N.txts : List N → List Nat
  | [] => []
  | n :: ns => N.txt n ++ N.more ns
def N.more : List N → List Nat
  | [] => []
  | n :: ns => 32 :: (N.txt n ++ N.more ns)
end
mutual
def N.dep : N → Nat
  | .non => 0
  | .wrd _ => 0
  | .num _ => 0
  | .tup ns => 1 + N.deps ns
def N.deps : List N → Nat
  | [] => 0
  | n :: ns => max (N.dep n) (N.deps ns)
end
mutual
def N.sz : N → Nat
  | .non => 1
  | .wrd _ => 1
  | .num _ => 1
  | .tup ns => 1 + N.szs ns
def N.szs : List N → Nat
  | [] => 0
  | n :: ns => N.sz n + N.szs ns
end
def wcs : List Nat := tl (Str.ofString "abcdefghijklmnopqrstuvwxyz0123456789-:")
def lets : List Nat := tl (Str.ofString "abcdefghijklmnopqrstuvwxyz")
def digs : List Nat := tl (Str.ofString "0123456789")
def WOk (w : List Nat) : Prop := w.length ≤ 24 ∧ ∃ c r, w = c :: r ∧ c ∈ lets ∧ ∀ d ∈ r, d ∈ wcs
mutual
def N.ok : N → Prop
  | .non => True
  | .wrd w => WOk w
  | .num i => i.natAbs < 10 ^ 200
  | .tup ns => N.oks ns
def N.oks : List N → Prop
  | [] => True
  | n :: ns => N.ok n ∧ N.oks ns
end
theorem oks_mem : ∀ {ns : List N}, N.oks ns ↔ ∀ n ∈ ns, N.ok n
  | [] => by simp [N.oks]
  | n :: ns => by simp [N.oks, oks_mem (ns := ns)]
theorem deps_le {k : Nat} : ∀ {ns : List N}, N.deps ns ≤ k ↔ ∀ n ∈ ns, N.dep n ≤ k
  | [] => by simp [N.deps]
  | n :: ns => by simp [N.deps, Nat.max_le, deps_le (ns := ns)]
theorem lets_wcs {c : Nat} (h : c ∈ lets) : c ∈ wcs := by
  have : ∀ c ∈ lets, c ∈ wcs := by decide +kernel
  exact this c h
theorem WOk.all {w : List Nat} (h : WOk w) : ∀ d ∈ w, d ∈ wcs := by
  obtain ⟨_, c, r, rfl, hc, hr⟩ := h
  intro d hd
  rcases List.mem_cons.mp hd with e | hd
  · rw [e]; exact lets_wcs hc
  · exact hr d hd
/-! ### the integer's signs -/
theorem numT_nat (m : Nat) : numT (m : Int) = numL m := tl_num m
theorem numT_neg (m : Nat) (h : 0 < m) : numT (-(m : Int)) = 45 :: numL m := by
  obtain ⟨k, rfl⟩ : ∃ k, m = k + 1 := ⟨m - 1, by omega⟩
  have e : (-((k + 1 : Nat) : Int)) = Int.negSucc k := rfl
  unfold numT
  rw [e, tl_ofString]
  show ("-" ++ Nat.repr (k + 1)).toList.map Char.toNat = _
  rw [String.toList_append, Nat.toList_repr, List.map_append]
  rfl
theorem numL_zero : numL 0 = [48] := numL_lt (by decide)
/-- the first sign of a number is no nought -/
theorem numL_head : ∀ (m : Nat), 0 < m → ∃ c r, numL m = c :: r ∧ 49 ≤ c ∧ c ≤ 57 := by
  intro m
  induction m using Nat.strongRecOn with
  | _ m ih =>
    intro h0
    by_cases h : m < 10
    · exact ⟨48 + m, [], numL_lt h, by omega, by omega⟩
    · obtain ⟨c, r, e, h1, h2⟩ := ih (m / 10) (by omega) (by omega)
      exact ⟨c, r ++ [48 + m % 10], by rw [numL_step (by omega), e]; rfl, h1, h2⟩
theorem digs_of {c : Nat} (h : 48 ≤ c ∧ c ≤ 57) : c ∈ digs := by
  have : ∀ d : Fin 10, 48 + d.val ∈ digs := by decide +kernel
  have e := this ⟨c - 48, by omega⟩
  have : 48 + (c - 48) = c := by omega
  rw [← this]; exact e
theorem digs_range {c : Nat} (h : c ∈ digs) : 48 ≤ c ∧ c ≤ 57 := by
  have : ∀ c ∈ digs, 48 ≤ c ∧ c ≤ 57 := by decide +kernel
  exact this c h
theorem numL_digs (m : Nat) : ∀ c ∈ numL m, c ∈ digs := fun c h => digs_of (numL_digits m c h)
/-! ### a reader from the left -/
inductive R where
  | bad (i : Nat)
  | got (n : N) (i : Nat)
def isN (t : List Nat) (i : Nat) : Bool := match t[i]? with
  | some c => decide (49 ≤ c ∧ c ≤ 57)
  | none => false
def run (cs : List Nat) (most : Nat) (t : List Nat) (i : Nat) : Nat := i + (((t.drop i).take most).takeWhile fun c => decide (c ∈ cs)).length
def cut (t : List Nat) (i j : Nat) : List Nat := (t.drop i).take (j - i)
def val (w : List Nat) : Int := (intText? ⟨w.toArray⟩).getD 0
def rnumF (t : List Nat) (i : Nat) : Nat := if t[i]? = some 45 then i + 1 else i
def rnum (t : List Nat) (i : Nat) : R :=
  if t[i]? = some 48 then .got (.num 0) (i + 1)
  else if isN t (rnumF t i) = true then .got (.num (val (cut t i (run digs 200 t (rnumF t i))))) (run digs 200 t (rnumF t i)) else .bad (rnumF t i)
def rleaf (t : List Nat) (i : Nat) : R := match t[i]? with
  | none => .bad i
  | some c => if c ∈ lets then .got (.wrd (cut t i (run wcs 24 t i))) (run wcs 24 t i)
    else if c = 45 ∧ isN t (i + 1) = false then .got .non (i + 1) else rnum t i
def rloop (f : Nat → R) (t : List Nat) : Nat → Nat → List N → R
  | 0, i, _ => .bad i
  | m + 1, i, acc => match f (i + 1) with
    | .bad b => .bad b
    | .got n j => if t[j]? = some 32 then rloop f t m j (acc ++ [n]) else if t[j]? = some 41 then .got (.tup (acc ++ [n])) (j + 1) else .bad j
def rpart (t : List Nat) : Nat → Nat → R
  | 0, i => if t[i]? = some 40 then .bad i else rleaf t i
  | r + 1, i => if t[i]? = some 40 then (if t[i + 1]? = some 41 then .got (.tup []) (i + 2) else rloop (rpart t r) t (t.length - i) i []) else rleaf t i
/-! ### what it finds in a text -/
def Delim (s : List Nat) : Prop := s = [] ∨ (∃ r, s = 32 :: r) ∨ ∃ r, s = 41 :: r
theorem at_zero (pre : List Nat) (c : Nat) (l : List Nat) : (pre ++ c :: l)[pre.length]? = some c := by
  rw [List.getElem?_append_right (Nat.le_refl _), Nat.sub_self]; rfl
theorem at_pre (pre l : List Nat) (j : Nat) : (pre ++ l)[pre.length + j]? = l[j]? := by
  rw [List.getElem?_append_right (by omega)]; congr 1; omega
theorem takeWhile_run {p : Nat → Bool} : ∀ {w suf : List Nat} {most : Nat}, (∀ c ∈ w, p c = true) → w.length ≤ most → (suf = [] ∨ ∃ c s, suf = c :: s ∧ p c = false) → ((w ++ suf).take most).takeWhile p = w
  | [], suf, most, _, _, hs => by
    rw [List.nil_append]
    rcases hs with rfl | ⟨c, s, rfl, h⟩
    · rw [List.take_nil, List.takeWhile_nil]
    · cases most with
      | zero => rfl
      | succ m => rw [List.take_succ_cons, List.takeWhile_cons, h]; rfl
  | c :: w, suf, 0, _, hl, _ => absurd hl (by simp)
  | c :: w, suf, most + 1, hw, hl, hs => by
    rw [List.cons_append, List.take_succ_cons, List.takeWhile_cons, hw c List.mem_cons_self]
    show c :: _ = _
    rw [takeWhile_run (fun d hd => hw d (List.mem_cons_of_mem _ hd)) (by simpa using hl) hs]
theorem run_eq {cs : List Nat} {most : Nat} {pre w suf : List Nat} (hw : ∀ c ∈ w, c ∈ cs) (hl : w.length ≤ most) (hs : suf = [] ∨ ∃ c s, suf = c :: s ∧ c ∉ cs) :
    run cs most (pre ++ (w ++ suf)) pre.length = pre.length + w.length := by
  unfold run
  rw [List.drop_left, takeWhile_run (fun c hc => decide_eq_true (hw c hc)) hl]
  rcases hs with h | ⟨c, s, h, hn⟩
  · exact .inl h
  · exact .inr ⟨c, s, h, decide_eq_false hn⟩
theorem cut_eq (pre w suf : List Nat) : cut (pre ++ (w ++ suf)) pre.length (pre.length + w.length) = w := by
  unfold cut
  rw [List.drop_left, Nat.add_sub_cancel_left, List.take_left]
theorem Delim.out {s : List Nat} (h : Delim s) : s = [] ∨ ∃ c r, s = c :: r ∧ c ∉ wcs ∧ c ∉ digs ∧ (49 ≤ c ∧ c ≤ 57 → False) := by
  rcases h with h | ⟨r, h⟩ | ⟨r, h⟩
  · exact .inl h
  · exact .inr ⟨32, r, h, by decide +kernel, by decide +kernel, by omega⟩
  · exact .inr ⟨41, r, h, by decide +kernel, by decide +kernel, by omega⟩
theorem Delim.w {s : List Nat} (h : Delim s) : s = [] ∨ ∃ c r, s = c :: r ∧ c ∉ wcs := by
  rcases h.out with h | ⟨c, r, h, a, _⟩
  · exact .inl h
  · exact .inr ⟨c, r, h, a⟩
theorem Delim.d {s : List Nat} (h : Delim s) : s = [] ∨ ∃ c r, s = c :: r ∧ c ∉ digs := by
  rcases h.out with h | ⟨c, r, h, _, a, _⟩
  · exact .inl h
  · exact .inr ⟨c, r, h, a⟩
theorem Delim.n {s pre : List Nat} (h : Delim s) : isN (pre ++ s) pre.length = false := by
  unfold isN
  rcases h.out with rfl | ⟨c, r, rfl, _, _, a⟩
  · rw [List.append_nil, List.getElem?_eq_none (Nat.le_refl _)]
  · rw [at_zero]; exact decide_eq_false a
theorem val_pos {m : Nat} (h : m < 10 ^ 200) : val (numL m) = (m : Int) := by
  have hl := numL_len (n := m) (k := 200) (by decide) h
  unfold val
  have e : intText? (⟨(numL m).toArray⟩ : Str) = some ((NumText.digitsVal (numL m) : Nat) : Int) :=
    intText_digits (x := ⟨(numL m).toArray⟩) (numL_digits m) (numL_ne m) (by rw [len_tl, tl_mk]; omega)
  rw [e, numL_val]; rfl
theorem val_neg {m : Nat} (h : m < 10 ^ 200) : val (45 :: numL m) = -(m : Int) := by
  have hl := numL_len (n := m) (k := 200) (by decide) h
  unfold val
  have e : intText? (⟨(45 :: numL m).toArray⟩ : Str) = some (-((NumText.digitsVal (numL m) : Nat) : Int)) :=
    intText_neg (x := ⟨(45 :: numL m).toArray⟩) (cs := numL m) rfl (numL_digits m) (numL_ne m) (by rw [len_tl, tl_mk, List.length_cons]; omega)
  rw [e, numL_val]; rfl
theorem lets_range {c : Nat} (h : c ∈ lets) : 97 ≤ c ∧ c ≤ 122 := by
  have : ∀ c ∈ lets, 97 ≤ c ∧ c ≤ 122 := by decide +kernel
  exact this c h
theorem rleaf_num (i : Int) (h : i.natAbs < 10 ^ 200) (pre suf : List Nat) (hd : Delim suf) : rleaf (pre ++ (numT i ++ suf)) pre.length = .got (.num i) (pre.length + (numT i).length) := by
  rcases Int.lt_trichotomy i 0 with hn | rfl | hp
  · obtain ⟨m, rfl⟩ : ∃ m : Nat, i = -(m : Int) := ⟨i.natAbs, by omega⟩
    have hm : 0 < m := by omega
    have hb : m < 10 ^ 200 := by simpa using h
    rw [numT_neg m hm]
    obtain ⟨c, r, e, h1, h2⟩ := numL_head m hm
    unfold rleaf
    rw [List.cons_append, at_zero]
    have hl : (45 : Nat) ∉ lets := by decide +kernel
    have e1 : pre ++ 45 :: (numL m ++ suf) = (pre ++ [45]) ++ (numL m ++ suf) := by simp
    have e2 : pre.length + 1 = (pre ++ [45]).length := by simp
    have hN : isN (pre ++ 45 :: (numL m ++ suf)) (pre.length + 1) = true := by
      unfold isN
      rw [e1, e2, e, List.cons_append, at_zero]
      exact decide_eq_true ⟨h1, h2⟩
    show (if (45 : Nat) ∈ lets then _ else if (45 : Nat) = 45 ∧ isN _ (pre.length + 1) = false then _ else rnum _ _) = _
    rw [if_neg hl, if_neg (by rw [hN]; intro z; cases z.2)]
    unfold rnum
    have hF : rnumF (pre ++ 45 :: (numL m ++ suf)) pre.length = pre.length + 1 := by unfold rnumF; rw [at_zero, if_pos rfl]
    rw [hF, hN, at_zero, if_neg (by decide), if_pos rfl]
    have hrun : run digs 200 (pre ++ 45 :: (numL m ++ suf)) (pre.length + 1) = pre.length + 1 + (numL m).length := by
      rw [e1, e2]; exact run_eq (numL_digs m) (numL_len (by decide) hb) hd.d
    rw [hrun]
    have hcut : cut (pre ++ 45 :: (numL m ++ suf)) pre.length (pre.length + 1 + (numL m).length) = 45 :: numL m := by
      have := cut_eq pre (45 :: numL m) suf
      rw [List.length_cons, List.cons_append] at this
      rw [← this]; congr 1; omega
    rw [hcut, val_neg hb, List.length_cons]
    congr 1
    omega
  · have e0 : numT 0 = [48] := (numT_nat 0).trans numL_zero
    rw [e0]
    unfold rleaf
    rw [List.cons_append, at_zero]
    have hl : (48 : Nat) ∉ lets := by decide +kernel
    show (if (48 : Nat) ∈ lets then _ else if (48 : Nat) = 45 ∧ _ then _ else rnum _ _) = _
    rw [if_neg hl, if_neg (by intro z; exact absurd z.1 (by decide))]
    unfold rnum
    rw [at_zero, if_pos rfl]
    rfl
  · obtain ⟨m, rfl⟩ : ∃ m : Nat, i = (m : Int) := ⟨i.natAbs, by omega⟩
    have hm : 0 < m := by omega
    have hb : m < 10 ^ 200 := by simpa using h
    rw [numT_nat m]
    obtain ⟨c, r, e, h1, h2⟩ := numL_head m hm
    have hat : (pre ++ (numL m ++ suf))[pre.length]? = some c := by rw [e, List.cons_append, at_zero]
    have hN : isN (pre ++ (numL m ++ suf)) pre.length = true := by
      unfold isN
      rw [hat]
      exact decide_eq_true ⟨h1, h2⟩
    unfold rleaf
    rw [hat]
    have hl : c ∉ lets := fun z => by have := lets_range z; omega
    show (if c ∈ lets then _ else if c = 45 ∧ _ then _ else rnum _ _) = _
    rw [if_neg hl, if_neg (by intro z; omega)]
    unfold rnum
    have hF : rnumF (pre ++ (numL m ++ suf)) pre.length = pre.length := by
      unfold rnumF; rw [hat, if_neg (by intro z; injection z; omega)]
    rw [hF, hN, hat, if_neg (by intro z; injection z; omega), if_pos rfl]
    rw [run_eq (numL_digs m) (numL_len (by decide) hb) hd.d, cut_eq, val_pos hb]
theorem rleaf_wrd {w : List Nat} (h : WOk w) (pre suf : List Nat) (hd : Delim suf) : rleaf (pre ++ (w ++ suf)) pre.length = .got (.wrd w) (pre.length + w.length) := by
  have ha := h.all
  obtain ⟨hl, c, r, e, hc, _⟩ := h
  have hat : (pre ++ (w ++ suf))[pre.length]? = some c := by rw [e, List.cons_append, at_zero]
  unfold rleaf
  rw [hat]
  show (if c ∈ lets then _ else _) = _
  rw [if_pos hc, run_eq ha hl hd.w, cut_eq]
theorem rleaf_non (pre suf : List Nat) (hd : Delim suf) : rleaf (pre ++ 45 :: suf) pre.length = .got .non (pre.length + 1) := by
  unfold rleaf
  rw [at_zero]
  have hl : (45 : Nat) ∉ lets := by decide +kernel
  have hN : isN (pre ++ 45 :: suf) (pre.length + 1) = false := by
    have := hd.n (pre := pre ++ [45])
    rw [List.length_append] at this
    rw [show pre ++ 45 :: suf = pre ++ [45] ++ suf by simp]
    exact this
  show (if (45 : Nat) ∈ lets then _ else if (45 : Nat) = 45 ∧ _ then _ else rnum _ _) = _
  rw [if_neg hl, if_pos ⟨rfl, hN⟩]
/-- the first sign of a note's text -/
theorem txt_head : ∀ {n : N}, n.ok → ∃ c r, n.txt = c :: r ∧ c ≠ 41 ∧ c ≠ 32
  | .non, _ => ⟨45, [], rfl, by decide, by decide⟩
  | .wrd w, h => by
    obtain ⟨_, c, r, e, hc, _⟩ := (show WOk w from h)
    have := lets_range hc
    exact ⟨c, r, e, by omega, by omega⟩
  | .num i, _ => by
    show ∃ c r, numT i = c :: r ∧ _
    rcases Int.lt_or_le i 0 with hn | hp
    · obtain ⟨m, rfl⟩ : ∃ m : Nat, i = -(m : Int) := ⟨i.natAbs, by omega⟩
      exact ⟨45, _, numT_neg m (by omega), by decide, by decide⟩
    · obtain ⟨m, rfl⟩ : ∃ m : Nat, i = (m : Int) := ⟨i.natAbs, by omega⟩
      rw [numT_nat]
      cases e : numL m with
      | nil => exact absurd e (numL_ne m)
      | cons c r =>
        have := numL_digits m c (by rw [e]; exact List.mem_cons_self)
        exact ⟨c, r, rfl, by omega, by omega⟩
  | .tup ns, _ => ⟨40, _, rfl, by decide, by decide⟩
theorem not40 {n : N} (h : n.ok) (ht : ∀ ns, n ≠ .tup ns) : ∃ c r, n.txt = c :: r ∧ c ≠ 40 := by
  cases n with
  | non => exact ⟨45, [], rfl, by decide⟩
  | wrd w =>
    obtain ⟨_, c, r, e, hc, _⟩ := (show WOk w from h)
    have := lets_range hc
    exact ⟨c, r, e, by omega⟩
  | num i =>
    show ∃ c r, numT i = c :: r ∧ _
    rcases Int.lt_or_le i 0 with hn | hp
    · obtain ⟨m, rfl⟩ : ∃ m : Nat, i = -(m : Int) := ⟨i.natAbs, by omega⟩
      exact ⟨45, _, numT_neg m (by omega), by decide⟩
    · obtain ⟨m, rfl⟩ : ∃ m : Nat, i = (m : Int) := ⟨i.natAbs, by omega⟩
      rw [numT_nat]
      cases e : numL m with
      | nil => exact absurd e (numL_ne m)
      | cons c r =>
        have := numL_digits m c (by rw [e]; exact List.mem_cons_self)
        exact ⟨c, r, rfl, by omega⟩
  | tup ns => exact absurd rfl (ht ns)
theorem more_len : ∀ ns : List N, ns.length ≤ (N.more ns).length
  | [] => Nat.le_refl _
  | n :: ns => by
    have := more_len ns
    simp only [N.more, List.length_cons, List.length_append]
    omega
def Reads (f : Nat → R) (t : List Nat) (n : N) : Prop := ∀ pre suf, t = pre ++ (n.txt ++ suf) → Delim suf → f pre.length = .got n (pre.length + n.txt.length)
theorem loop_txt {f : Nat → R} {t : List Nat} : ∀ (ns : List N) (n : N) (acc : List N) (m i : Nat) (pre suf : List Nat), (∀ x ∈ n :: ns, Reads f t x) → i + 1 = pre.length → ns.length < m → t = pre ++ (n.txt ++ (N.more ns ++ 41 :: suf)) →
    rloop f t m i acc = .got (.tup (acc ++ n :: ns)) (pre.length + n.txt.length + (N.more ns).length + 1)
  | [], n, acc, 0, _, _, _, _, _, hm, _ => absurd hm (by simp)
  | [], n, acc, m + 1, i, pre, suf, hr, hi, hm, ht => by
    have h := hr n List.mem_cons_self pre (41 :: suf) (by rw [ht]; rfl) (.inr (.inr ⟨_, rfl⟩))
    have hat : t[pre.length + n.txt.length]? = some 41 := by
      rw [ht, ← List.append_assoc]
      have := at_zero (pre ++ n.txt) 41 suf
      rw [List.length_append] at this
      exact this
    unfold rloop
    rw [hi, h]
    show (if t[pre.length + n.txt.length]? = some 32 then _ else if t[pre.length + n.txt.length]? = some 41 then _ else _) = _
    rw [hat, if_neg (by decide), if_pos rfl]
    rfl
  | n2 :: ns, n, acc, 0, _, _, _, _, _, hm, _ => absurd hm (by simp)
  | n2 :: ns, n, acc, m + 1, i, pre, suf, hr, hi, hm, ht => by
    have h := hr n List.mem_cons_self pre (32 :: (n2.txt ++ N.more ns) ++ 41 :: suf) (by rw [ht]; rfl) (.inr (.inl ⟨_, rfl⟩))
    have ht2 : t = (pre ++ n.txt ++ [32]) ++ (n2.txt ++ (N.more ns ++ 41 :: suf)) := by
      rw [ht]; simp [N.more]
    have hl2 : (pre ++ n.txt ++ [32]).length = pre.length + n.txt.length + 1 := by simp [Nat.add_assoc]
    have hat : t[pre.length + n.txt.length]? = some 32 := by
      rw [ht2, List.append_assoc]
      have := at_zero (pre ++ n.txt) 32 (n2.txt ++ (N.more ns ++ 41 :: suf))
      rw [List.length_append] at this
      exact this
    unfold rloop
    rw [hi, h]
    show (if t[pre.length + n.txt.length]? = some 32 then _ else _) = _
    rw [if_pos hat]
    rw [loop_txt ns n2 (acc ++ [n]) m (pre.length + n.txt.length) (pre ++ n.txt ++ [32]) suf (fun x hx => hr x (List.mem_cons_of_mem _ hx)) hl2.symm (by simpa using hm) ht2]
    rw [hl2, List.append_assoc]
    congr 1
    simp only [N.more, List.length_cons, List.length_append]
    omega
theorem rpart_leaf {t : List Nat} {r i : Nat} (h : t[i]? ≠ some 40) : rpart t r i = rleaf t i := by
  cases r <;> (unfold rpart; rw [if_neg h])
mutual
theorem rpart_txt {t : List Nat} : ∀ (n : N) (r : Nat), n.ok → n.dep ≤ r → Reads (rpart t r) t n
  | .non, r, _, _ => fun pre suf ht hd => by
    subst ht
    rw [rpart_leaf (by show (pre ++ 45 :: suf)[pre.length]? ≠ _; rw [at_zero]; decide)]
    exact rleaf_non pre suf hd
  | .wrd w, r, h, _ => fun pre suf ht hd => by
    subst ht
    obtain ⟨c, l, e, h40⟩ := not40 (n := .wrd w) h (fun _ z => nomatch z)
    rw [rpart_leaf (by rw [e, List.cons_append, at_zero]; intro z; injection z; contradiction)]
    exact rleaf_wrd h pre suf hd
  | .num i, r, h, _ => fun pre suf ht hd => by
    subst ht
    obtain ⟨c, l, e, h40⟩ := not40 (n := .num i) h (fun _ z => nomatch z)
    rw [rpart_leaf (by rw [e, List.cons_append, at_zero]; intro z; injection z; contradiction)]
    exact rleaf_num i h pre suf hd
  | .tup ns, 0, _, hr => absurd hr (by simp [N.dep])
  | .tup [], r + 1, _, _ => fun pre suf ht _ => by
    subst ht
    have h1 : (pre ++ ((N.tup []).txt ++ suf))[pre.length + 1]? = some 41 := by rw [at_pre]; rfl
    unfold rpart
    rw [if_pos (by show (pre ++ 40 :: _)[pre.length]? = _; rw [at_zero]), if_pos h1]
    rfl
  | .tup (n :: ns), r + 1, h, hr => fun pre suf ht hd => by
    have ih := rparts_txt (t := t) (n :: ns) r h (by simp only [N.dep] at hr; omega)
    have hn : n.ok := (oks_mem.mp h) n List.mem_cons_self
    obtain ⟨c, l, e, c41, _⟩ := txt_head hn
    have ht2 : t = (pre ++ [40]) ++ (n.txt ++ (N.more ns ++ 41 :: suf)) := by
      rw [ht]; simp [N.txt, N.txts]
    have hl2 : (pre ++ [40]).length = pre.length + 1 := by simp
    have h0 : t[pre.length]? = some 40 := by rw [ht]; show (pre ++ 40 :: _)[pre.length]? = _; rw [at_zero]
    have h1 : t[pre.length + 1]? ≠ some 41 := by
      rw [ht2, ← hl2, e, List.cons_append, at_zero]; intro z; injection z; contradiction
    have htl : t.length = pre.length + 1 + (n.txt.length + ((N.more ns).length + (suf.length + 1))) := by rw [ht2]; simp [Nat.add_assoc]; omega
    have hml := more_len ns
    unfold rpart
    rw [if_pos h0, if_neg h1, loop_txt ns n [] (t.length - pre.length) pre.length (pre ++ [40]) suf ih hl2.symm (by omega) ht2, hl2]
    congr 1
    simp only [N.txt, N.txts, List.length_cons, List.length_append, List.length_nil]
    omega
theorem rparts_txt {t : List Nat} : ∀ (ns : List N) (r : Nat), N.oks ns → N.deps ns ≤ r → ∀ x ∈ ns, Reads (rpart t r) t x
  | [], _, _, _ => fun x hx => absurd hx List.not_mem_nil
  | n :: ns, r, h, hr => fun x hx => by
    simp only [N.deps] at hr
    rcases List.mem_cons.mp hx with e | hx
    · rw [e]; exact rpart_txt n r h.1 (by omega)
    · exact rparts_txt ns r h.2 (by omega) x hx
end
/-! ### sizes -/
mutual
theorem sz_le : ∀ (n : N), n.ok → n.sz ≤ n.txt.length
  | .non, _ => by simp [N.sz, N.txt]
  | .wrd w, h => by
    obtain ⟨c, r, e, _⟩ := txt_head (n := .wrd w) h
    rw [e]; simp [N.sz]
  | .num i, h => by
    obtain ⟨c, r, e, _⟩ := txt_head (n := .num i) h
    rw [e]; simp [N.sz]
  | .tup ns, h => by
    have := szs_le ns h
    simp only [N.sz, N.txt, List.length_cons, List.length_append, List.length_nil]
    omega
theorem szs_le : ∀ (ns : List N), N.oks ns → N.szs ns ≤ (N.txts ns).length
  | [], _ => Nat.le_refl _
  | n :: ns, h => by
    have h1 := sz_le n h.1
    have h2 := szm_le ns h.2
    simp only [N.szs, N.txts, List.length_append]
    omega
theorem szm_le : ∀ (ns : List N), N.oks ns → N.szs ns ≤ (N.more ns).length
  | [], _ => Nat.le_refl _
  | n :: ns, h => by
    have h1 := sz_le n h.1
    have h2 := szm_le ns h.2
    simp only [N.szs, N.more, List.length_append, List.length_cons]
    omega
end
theorem join_more : ∀ (ns : List N) (n : N), joinL [32] ((n :: ns).map N.txt) = n.txt ++ N.more ns
  | [], n => by show n.txt = n.txt ++ []; rw [List.append_nil]
  | n2 :: ns, n => by
    have ih := join_more ns n2
    show n.txt ++ ([32] ++ joinL [32] ((n2 :: ns).map N.txt)) = _
    rw [ih]; rfl
theorem join_txts : ∀ ns : List N, joinL [32] (ns.map N.txt) = N.txts ns
  | [] => rfl
  | n :: ns => join_more ns n
theorem join_N (ns : List N) : Txt.join ⟨#[32]⟩ (ns.map fun n => SX.S n.txt) = SX.S (N.txts ns) := by
  have e : (ns.map fun n => SX.S n.txt) = (ns.map N.txt).map SX.S := by rw [List.map_map]; rfl
  have := SX.join_S [32] (ns.map N.txt)
  rw [join_txts] at this
  rw [e]; exact this
theorem more_sum : ∀ ns : List N, (N.more ns).length = (ns.map fun n => n.txt.length).sum + ns.length
  | [] => rfl
  | n :: ns => by
    simp only [N.more, List.length_cons, List.length_append, more_sum ns, List.map_cons, List.sum_cons]
    omega
theorem txts_sum (ns : List N) : (ns.map fun n => n.txt.length).sum + ns.length ≤ (N.txts ns).length + 1 := by
  cases ns with
  | nil => simp
  | cons n ns =>
    simp only [N.txts, List.length_append, more_sum, List.map_cons, List.sum_cons, List.length_cons]
    omega
theorem mem_txt_le {n : N} : ∀ {ns : List N}, n ∈ ns → n.txt.length ≤ (N.txts ns).length := by
  intro ns h
  have : ∀ ns : List N, n ∈ ns → n.txt.length ≤ (N.more ns).length := by
    intro ns
    induction ns with
    | nil => intro h; cases h
    | cons m ns ih =>
      intro h
      simp only [N.more, List.length_cons, List.length_append]
      rcases List.mem_cons.mp h with e | h
      · rw [e]; omega
      · have := ih h; omega
  cases ns with
  | nil => cases h
  | cons m ns =>
    simp only [N.txts, List.length_append]
    rcases List.mem_cons.mp h with e | h
    · rw [e]; omega
    · have := this ns h; omega
end GN
namespace GN
open PySem TL
theorem run_char {cs : List Nat} {most : Nat} {t : List Nat} {i k : Nat} (hk : k ≤ most) (hin : ∀ j, j < k → ∃ c, t[i + j]? = some c ∧ c ∈ cs) (hout : k = most ∨ t[i + k]? = none ∨ ∃ c, t[i + k]? = some c ∧ c ∉ cs) : run cs most t i = i + k := by
  have hl : ((t.drop i).take k).length = k := by
    rw [List.length_take, List.length_drop]
    cases k with
    | zero => simp
    | succ k =>
      obtain ⟨c, e, _⟩ := hin k (by omega)
      have := (List.getElem?_eq_some_iff.mp e).1
      omega
  have hall : ∀ c ∈ (t.drop i).take k, decide (c ∈ cs) = true := by
    intro c hc
    obtain ⟨j, hj⟩ := List.mem_iff_getElem?.mp hc
    have hjk : j < k := by have := (List.getElem?_eq_some_iff.mp hj).1; omega
    rw [List.getElem?_take_of_lt hjk, List.getElem?_drop] at hj
    obtain ⟨d, e, hd⟩ := hin j hjk
    rw [hj] at e; cases e
    exact decide_eq_true hd
  have split : t.drop i = (t.drop i).take k ++ t.drop (i + k) := by
    have := List.take_append_drop k (t.drop i)
    rw [List.drop_drop] at this
    exact this.symm
  unfold run
  by_cases hm : k = most
  · subst hm
    have : ((t.drop i).take k).takeWhile (fun c => decide (c ∈ cs)) = (t.drop i).take k := by
      exact PySem.NumText.takeWhile_all hall
    rw [this, hl]
  · rw [split, takeWhile_run hall (by omega), hl]
    rcases hout with h | h | ⟨c, h, hn⟩
    · exact absurd h hm
    · exact .inl (List.drop_eq_nil_iff.mpr (List.getElem?_eq_none_iff.mp h))
    · have hlt := (List.getElem?_eq_some_iff.mp h).1
      refine .inr ⟨c, t.drop (i + k + 1), ?_, decide_eq_false hn⟩
      rw [List.drop_eq_getElem_cons hlt, (List.getElem?_eq_some_iff.mp h).2]
theorem takeWhile_le {p : Nat → Bool} : ∀ (l : List Nat), (l.takeWhile p).length ≤ l.length
  | [] => Nat.le_refl _
  | c :: l => by
    rw [List.takeWhile_cons]
    split
    · have := takeWhile_le (p := p) l; simp; omega
    · simp
theorem run_le {cs : List Nat} {most : Nat} {t : List Nat} {i : Nat} (h : i ≤ t.length) : run cs most t i ≤ t.length := by
  unfold run
  have := takeWhile_le (p := fun c => decide (c ∈ cs)) ((t.drop i).take most)
  rw [List.length_take, List.length_drop] at this
  omega
theorem run_gt {cs : List Nat} {most : Nat} {t : List Nat} {i c : Nat} (h : t[i]? = some c) (hc : c ∈ cs) (hm : 0 < most) : i < run cs most t i := by
  unfold run
  obtain ⟨hlt, e⟩ := List.getElem?_eq_some_iff.mp h
  obtain ⟨m, rfl⟩ : ∃ m, most = m + 1 := ⟨most - 1, by omega⟩
  rw [List.drop_eq_getElem_cons hlt, e, List.take_succ_cons, List.takeWhile_cons, if_pos (decide_eq_true hc)]
  simp
theorem isN_at {t : List Nat} {i : Nat} (h : isN t i = true) : ∃ c, t[i]? = some c ∧ 49 ≤ c ∧ c ≤ 57 := by
  unfold isN at h
  cases e : t[i]? with
  | none => rw [e] at h; cases h
  | some c => rw [e] at h; exact ⟨c, rfl, of_decide_eq_true h⟩
theorem rnumF_ge {t : List Nat} {i : Nat} : i ≤ rnumF t i := by unfold rnumF; split <;> omega
theorem rnum_pos {t : List Nat} {i j : Nat} {n : N} (hi : i < t.length) (h : rnum t i = .got n j) : i < j ∧ j ≤ t.length := by
  unfold rnum at h
  split at h
  · cases h; omega
  · split at h
    · rename_i hN
      cases h
      obtain ⟨c, e, h1, h2⟩ := isN_at hN
      have := run_gt (most := 200) e (digs_of ⟨by omega, h2⟩) (by decide)
      have hl := (List.getElem?_eq_some_iff.mp e).1
      have := run_le (cs := digs) (most := 200) (Nat.le_of_lt hl)
      have := rnumF_ge (t := t) (i := i)
      omega
    · cases h
theorem rleaf_pos {t : List Nat} {i j : Nat} {n : N} (h : rleaf t i = .got n j) : i < j ∧ j ≤ t.length := by
  unfold rleaf at h
  cases e : t[i]? with
  | none => rw [e] at h; cases h
  | some c =>
    rw [e] at h
    have hl := (List.getElem?_eq_some_iff.mp e).1
    revert h
    show (if c ∈ lets then _ else if c = 45 ∧ isN t (i + 1) = false then _ else rnum t i) = _ → _
    split
    · rename_i hc
      intro h; cases h
      have := run_gt (most := 24) e (lets_wcs hc) (by decide)
      have := run_le (cs := wcs) (most := 24) (Nat.le_of_lt hl)
      omega
    · split
      · intro h; cases h; omega
      · exact fun h => rnum_pos hl h
theorem rloop_pos {f : Nat → R} {t : List Nat} (hf : ∀ i n j, f i = .got n j → i < j ∧ j ≤ t.length) : ∀ m i acc n j, rloop f t m i acc = .got n j → i < j ∧ j ≤ t.length
  | 0, i, acc, n, j, h => by unfold rloop at h; cases h
  | m + 1, i, acc, n, j, h => by
    unfold rloop at h
    cases e : f (i + 1) with
    | bad b => rw [e] at h; cases h
    | got k a =>
      rw [e] at h
      have p := hf _ _ _ e
      revert h
      show (if t[a]? = some 32 then _ else if t[a]? = some 41 then _ else _) = _ → _
      split
      · intro h
        have := rloop_pos hf m a _ n j h
        omega
      · split
        · rename_i h41
          intro h; cases h
          have := (List.getElem?_eq_some_iff.mp h41).1
          omega
        · intro h; cases h
def rtup (t : List Nat) (r i : Nat) : R := if t[i + 1]? = some 41 then .got (.tup []) (i + 2) else rloop (rpart t r) t (t.length - i) i []
def rtupS (t : List Nat) : Nat → Nat → R
  | 0, i => .bad i
  | r + 1, i => rtup t r i
theorem rpart_eq (t : List Nat) (r i : Nat) : rpart t r i = if t[i]? = some 40 then rtupS t r i else rleaf t i := by
  cases r <;> rfl
theorem rpart_pos {t : List Nat} : ∀ r i n j, rpart t r i = .got n j → i < j ∧ j ≤ t.length
  | 0, i, n, j, h => by
    rw [rpart_eq] at h
    split at h
    · cases h
    · exact rleaf_pos h
  | r + 1, i, n, j, h => by
    rw [rpart_eq] at h
    split at h
    · have h' : rtup t r i = .got n j := h
      unfold rtup at h'
      split at h'
      · rename_i h41
        cases h'
        have := (List.getElem?_eq_some_iff.mp h41).1
        omega
      · exact rloop_pos (rpart_pos r) _ _ _ _ _ h'
    · exact rleaf_pos h
end GN
namespace GN
open PySem TL
theorem takeWhile_pre {p : Nat → Bool} : ∀ (l : List Nat) (m : Nat), l.take ((l.take m).takeWhile p).length = (l.take m).takeWhile p
  | [], _ => by simp
  | c :: l, 0 => rfl
  | c :: l, m + 1 => by
    rw [List.take_succ_cons, List.takeWhile_cons]
    by_cases h : p c = true
    · rw [if_pos h, List.length_cons, List.take_succ_cons, takeWhile_pre l m]
    · rw [if_neg h]; rfl
theorem cut_run (cs : List Nat) (most : Nat) (t : List Nat) (i : Nat) : cut t i (run cs most t i) = ((t.drop i).take most).takeWhile fun c => decide (c ∈ cs) := by
  unfold cut run
  rw [Nat.add_sub_cancel_left]
  exact takeWhile_pre _ _
theorem takeWhile_mem {p : Nat → Bool} : ∀ {l : List Nat} {c : Nat}, c ∈ l.takeWhile p → p c = true
  | d :: l, c, h => by
    rw [List.takeWhile_cons] at h
    by_cases hp : p d = true
    · rw [if_pos hp] at h
      rcases List.mem_cons.mp h with e | h
      · rw [e]; exact hp
      · exact takeWhile_mem h
    · rw [if_neg hp] at h; cases h
theorem cut_all {cs : List Nat} {most : Nat} {t : List Nat} {i : Nat} : ∀ c ∈ cut t i (run cs most t i), c ∈ cs := fun c h => by
  rw [cut_run] at h
  exact of_decide_eq_true (takeWhile_mem h)
theorem cut_len {cs : List Nat} {most : Nat} {t : List Nat} {i : Nat} : (cut t i (run cs most t i)).length ≤ most := by
  rw [cut_run]
  have := takeWhile_le (p := fun c => decide (c ∈ cs)) ((t.drop i).take most)
  rw [List.length_take] at this
  omega
theorem cut_cons {t : List Nat} {i e c : Nat} (h : t[i]? = some c) (he : i < e) : cut t i e = c :: cut t (i + 1) e := by
  unfold cut
  obtain ⟨hlt, h2⟩ := List.getElem?_eq_some_iff.mp h
  rw [List.drop_eq_getElem_cons hlt, h2]
  obtain ⟨k, hk⟩ : ∃ k, e - i = k + 1 := ⟨e - i - 1, by omega⟩
  rw [hk, List.take_succ_cons]
  congr 2
  omega
/-- what is read as a number is one -/
theorem num_read {t : List Nat} {i : Nat} (h : isN t (rnumF t i) = true) : intText? (SX.S (cut t i (run digs 200 t (rnumF t i)))) = some (val (cut t i (run digs 200 t (rnumF t i)))) ∧ (cut t i (run digs 200 t (rnumF t i))).length ≤ 201 := by
  obtain ⟨c, hc, h1, h2⟩ := isN_at h
  have hgt := run_gt (most := 200) hc (digs_of (c := c) ⟨by omega, h2⟩) (by decide)
  have hall : NumText.AllDigits (cut t (rnumF t i) (run digs 200 t (rnumF t i))) := fun d hd => digs_range (cut_all d hd)
  have hne : cut t (rnumF t i) (run digs 200 t (rnumF t i)) ≠ [] := by rw [cut_cons hc hgt]; simp
  have hl := cut_len (cs := digs) (most := 200) (t := t) (i := rnumF t i)
  by_cases h45 : t[i]? = some 45
  · have hF : rnumF t i = i + 1 := by unfold rnumF; rw [if_pos h45]
    rw [hF] at hgt hall hne hl ⊢
    rw [cut_cons h45 (by omega)]
    have e : intText? (SX.S (45 :: cut t (i + 1) (run digs 200 t (i + 1)))) = _ := intText_neg (x := SX.S (45 :: cut t (i + 1) (run digs 200 t (i + 1)))) rfl hall hne (by rw [SX.S_len, List.length_cons]; omega)
    refine ⟨?_, by rw [List.length_cons]; omega⟩
    unfold val
    rw [e]; rfl
  · have hF : rnumF t i = i := by unfold rnumF; rw [if_neg h45]
    rw [hF] at hgt hall hne hl ⊢
    have e : intText? (SX.S (cut t i (run digs 200 t i))) = _ := intText_digits (x := SX.S (cut t i (run digs 200 t i))) hall hne (by rw [SX.S_len]; omega)
    refine ⟨?_, by omega⟩
    unfold val
    rw [e]; rfl
end GN
namespace GN
open PySem TL
theorem fold_lt : ∀ (cs : List Nat) (a : Nat), NumText.AllDigits cs → cs.foldl (fun acc c => acc * 10 + (c - 48)) a < (a + 1) * 10 ^ cs.length
  | [], a, _ => by simp
  | c :: cs, a, h => by
    have h1 := fold_lt cs (a * 10 + (c - 48)) h.tail
    have h2 := h.head
    rw [List.foldl_cons, List.length_cons, Nat.pow_succ]
    refine Nat.lt_of_lt_of_le h1 ?_
    have : a * 10 + (c - 48) + 1 ≤ (a + 1) * 10 := by omega
    calc (a * 10 + (c - 48) + 1) * 10 ^ cs.length ≤ ((a + 1) * 10) * 10 ^ cs.length := Nat.mul_le_mul_right _ this
      _ = (a + 1) * (10 ^ cs.length * 10) := by rw [Nat.mul_assoc, Nat.mul_comm 10]
theorem digits_lt {cs : List Nat} (h : NumText.AllDigits cs) : NumText.digitsVal cs < 10 ^ cs.length := by
  have := fold_lt cs 0 h
  rw [Nat.zero_add, Nat.one_mul] at this
  exact this
theorem fold_rep (x : Nat) : ∀ (n : Nat) (a : Array Nat), ((List.replicate n #[x]).foldl (· ++ ·) a).toList = a.toList ++ List.replicate n x
  | 0, a => by simp
  | n + 1, a => by
    rw [List.replicate_succ, List.foldl_cons, fold_rep x n (a ++ #[x]), List.replicate_succ]
    simp
theorem mul_rep (x : Nat) (n : Nat) (h : 1 ≤ n) : tl (Txt.mul ⟨#[x]⟩ (n : Int)) = List.replicate n x := by
  unfold Txt.mul
  rw [if_neg (by omega)]
  by_cases h1 : n = 1
  · subst h1; rfl
  · have e : (((n : Int) == 1) || ((⟨#[x]⟩ : Str).length == 0)) = false := by
      have : (((n : Int)) == 1) = false := by rw [beq_eq_false_iff_ne]; omega
      rw [this]; rfl
    rw [e, if_neg (by decide), Int.toNat_natCast]
    have := fold_rep x n #[]
    rw [show (#[] : Array Nat).toList = [] from rfl, List.nil_append] at this
    exact this
theorem nine {r : Int} (h0 : 0 ≤ r) (h1 : r < 200) : MulOk (Str.ofString "9") (1 + r) ∧ ∃ n : Int, intText? (Txt.mul (Str.ofString "9") (1 + r)) = some n ∧ n.natAbs < 10 ^ 200 ∧ (Txt.mul (Str.ofString "9") (1 + r)).length ≤ 640 := by
  obtain ⟨n, e⟩ : ∃ n : Nat, 1 + r = (n : Int) := ⟨(1 + r).toNat, by omega⟩
  have hn1 : 1 ≤ n := by omega
  have hn2 : n ≤ 200 := by omega
  have e9 : Str.ofString "9" = ⟨#[57]⟩ := by decide +kernel
  rw [e, e9]
  have hT := mul_rep 57 n hn1
  have hL : (Txt.mul ⟨#[57]⟩ (n : Int)).length = n := by rw [len_tl, hT, List.length_replicate]
  have hd : NumText.AllDigits (tl (Txt.mul ⟨#[57]⟩ (n : Int))) := by
    rw [hT]; intro c hc; rw [(List.mem_replicate.mp hc).2]; omega
  refine ⟨⟨?_, fun _ _ => ?_, fun _ _ => ?_⟩, (NumText.digitsVal (tl (Txt.mul ⟨#[57]⟩ (n : Int))) : Nat), ?_, ?_, by rw [hL]; omega⟩
  · rw [Bool.or_eq_false_iff]; exact ⟨decide_eq_false (by omega), decide_eq_false (by omega)⟩
  · show ¬ ((1 : Nat) : Int) > (2 ^ 63 - 1) / (n : Int)
    have : (1 : Int) ≤ (2 ^ 63 - 1) / (n : Int) := by
      rw [Int.le_ediv_iff_mul_le (by omega)]; omega
    omega
  · show Builtin.Str.tooLong (1 * (n : Int).toNat) = false
    rw [Int.toNat_natCast]
    exact decide_eq_false (by rw [sizeLine_eq]; omega)
  · exact intText_digits hd (by rw [show (Txt.mul ⟨#[57]⟩ (n : Int)).cps.toList = _ from hT]; intro z; rw [List.replicate_eq_nil_iff] at z; omega) (by rw [hL]; omega)
  · have := digits_lt hd
    rw [hT, List.length_replicate] at this
    rw [hT]
    show (NumText.digitsVal (List.replicate n 57)) < 10 ^ 200
    exact Nat.lt_of_lt_of_le this (Nat.pow_le_pow_right (by decide) hn2)
end GN
/-! list(zip(a, b)) of two tuples of one length: each pair that came out stays in the list, so that the next one is new -/
namespace GZ
open PySem
section
variable {prog : Program} {w : World} {A : Around} {E : Value → Shared → Prop} {s : Shared} {z TI TO T j1 j2 a b : Addr} {f : Bool} {oT : Obj} {n1 n2 : Nat} {xs ys : Array Value} {x y : Value}
theorem held_item {Q : Value → Shared → Prop} (D : ZipApart z TI TO j1 j2 a b) (hZ : IsZipHeld s.heap z TI TO T f) (hT : s.heap.get? T = some oT) (hP : IsPair s.heap TI (.ref j1) (.ref j2))
    (it1 : s.heap.IsTupleIter j1 a n1) (it2 : s.heap.IsTupleIter j2 b n2) (ta : s.heap.IsTuple a xs) (tb : s.heap.IsTuple b ys) (ex : xs[n1]? = some x) (ey : ys[n2]? = some y)
    (q : ∀ h', IsZipHeld h' z TI TO T true → h'.IsTupleIter j1 a (n1 + 1) → h'.IsTupleIter j2 b (n2 + 1) → IsPair h' s.heap.objs.size x y → (∀ c o, c ≠ z → c ≠ j1 → c ≠ j2 → s.heap.get? c = some o → h'.get? c = some o) →
      Q (.ref s.heap.objs.size) { s with heap := h' }) :
    wpAny (model prog w) A (Builtin.«zip.__next__» ⟨[.ref z], []⟩) (fun fin s' => ∃ v, fin = .done (.ret v) ∧ Q v s') E s := by
  show wpAny (model prog w) A (field (.ref z) 2 >>= _) _ _ _
  refine wpAny_bind (wpAny_field (x := .bool false) hZ rfl rfl ?_)
  show wpAny (model prog w) A (field (.ref z) 3 >>= _) _ _ _
  refine wpAny_bind (wpAny_field (x := .ref TI) hZ rfl rfl (wpAny_bind (wpAny_seqItems hP rfl ?_)))
  show wpAny (model prog w) A (Builtin.SmallTypes.ownedTupleIsFree (.ref z) >>= _) _ _ _
  refine wpAny_bind (wpAny_tupleHeld_zip hZ hT fun u1 Z1 b1 => ?_)
  simp only [Bool.false_eq_true, if_false]
  refine wpAny_bind ?_
  rw [← Array.forIn_toList]
  simp only [List.forIn_cons, List.forIn_nil]
  refine wpAny_bind (wpAny_bind (wpAny_holding ?_))
  show wpAny (model prog w) A (Builtin.SmallTypes.nextOf (.ref j1) >>= _) _ _ _
  have e1 := b1.extBut
  refine wpAny_bind (RZ.nextOf_tuple_item (s := { s with heap := u1 }) (it1.extBut e1 D.i1z) (ta.extBut e1 D.l1z) ex fun u2 I2 b2 => wpAny_pure (wpAny_pure ?_))
  have e2 := b2.extBut
  refine wpAny_bind (wpAny_bind (wpAny_holding ?_))
  show wpAny (model prog w) A (Builtin.SmallTypes.nextOf (.ref j2) >>= _) _ _ _
  refine wpAny_bind (RZ.nextOf_tuple_item (s := { s with heap := u2 }) ((it2.extBut e1 D.i2z).extBut e2 D.i12.symm) ((tb.extBut e1 D.l2z).extBut e2 D.l2i1) ey fun u3 I3 b3 => wpAny_pure (wpAny_pure (wpAny_pure ?_)))
  have e3 := b3.extBut
  show wpAny (model prog w) A (newTuple [x, y] >>= _) _ _ _
  refine wpAny_bind (wpAny_newTuple ?_)
  have sz : u3.objs.size = s.heap.objs.size := (b3.1.trans b2.1).trans b1.1
  have up : ∀ c o, c ≠ z → c ≠ j1 → c ≠ j2 → s.heap.get? c = some o → u3.get? c = some o := fun c o c1 c2 c3 e => e3 _ _ c3 (e2 _ _ c2 (e1 _ _ c1 e))
  refine wpAny_pure ⟨_, rfl, ?_⟩
  show Q (.ref u3.objs.size) _
  have new : IsPair (u3.push { cls := .type "tuple", data := .seq #[x, y] }) u3.objs.size x y := Heap.get?_push_size _ rfl
  rw [sz] at new ⊢
  exact q _ (Heap.get?_push_of_some _ (e3 _ _ D.i2z.symm (e2 _ _ D.i1z.symm Z1))) ((I2.extBut e3 D.i12).at fun o e => Heap.get?_push_of_some _ e) (I3.at fun o e => Heap.get?_push_of_some _ e) new
    fun c o c1 c2 c3 e => Heap.get?_push_of_some _ (up c o c1 c2 c3 e)
theorem held_end {Q : Fin → Shared → Prop} (hh : A.handled = none) (D : ZipApart z TI TO j1 j2 a b) (hZ : IsZipHeld s.heap z TI TO T f) (hT : s.heap.get? T = some oT) (hP : IsPair s.heap TI (.ref j1) (.ref j2))
    (it1 : s.heap.IsTupleIter j1 a n1) (ta : s.heap.IsTuple a xs) (ex : xs[n1]? = none)
    (q : ∀ h' e, (∀ c o, c ≠ z → c ≠ j1 → c ≠ j2 → s.heap.get? c = some o → h'.get? c = some o) → (∃ o, h'.get? e = some o ∧ o.cls = .type "StopIteration") → E (.ref e) { s with heap := h' }) :
    wpAny (model prog w) A (Builtin.«zip.__next__» ⟨[.ref z], []⟩) Q E s := by
  show wpAny (model prog w) A (field (.ref z) 2 >>= _) _ _ _
  refine wpAny_bind (wpAny_field (x := .bool false) hZ rfl rfl ?_)
  show wpAny (model prog w) A (field (.ref z) 3 >>= _) _ _ _
  refine wpAny_bind (wpAny_field (x := .ref TI) hZ rfl rfl (wpAny_bind (wpAny_seqItems hP rfl ?_)))
  show wpAny (model prog w) A (Builtin.SmallTypes.ownedTupleIsFree (.ref z) >>= _) _ _ _
  refine wpAny_bind (wpAny_tupleHeld_zip hZ hT fun u1 Z1 b1 => ?_)
  simp only [Bool.false_eq_true, if_false]
  refine wpAny_bind ?_
  rw [← Array.forIn_toList]
  simp only [List.forIn_cons, List.forIn_nil]
  refine wpAny_bind (wpAny_bind (wpAny_holding ?_))
  show wpAny (model prog w) A (Builtin.SmallTypes.nextOf (.ref j1) >>= _) _ _ _
  have e1 := b1.extBut
  exact wpAny_bind (RZ.nextOf_tuple_end (s := { s with heap := u1 }) hh (it1.extBut e1 D.i1z) (ta.extBut e1 D.l1z) ex fun u2 e b2 he => q u2 e (fun c o c1 c2 _ k => b2 _ _ c2 (e1 _ _ c1 k)) he)
theorem py_item {Q : Option Value → Shared → Prop} (D : ZipApart z TI TO j1 j2 a b) (hZ : IsZipHeld s.heap z TI TO T f) (hT : s.heap.get? T = some oT) (hP : IsPair s.heap TI (.ref j1) (.ref j2))
    (it1 : s.heap.IsTupleIter j1 a n1) (it2 : s.heap.IsTupleIter j2 b n2) (ta : s.heap.IsTuple a xs) (tb : s.heap.IsTuple b ys) (ex : xs[n1]? = some x) (ey : ys[n2]? = some y)
    (q : ∀ h', IsZipHeld h' z TI TO T true → h'.IsTupleIter j1 a (n1 + 1) → h'.IsTupleIter j2 b (n2 + 1) → IsPair h' s.heap.objs.size x y → (∀ c o, c ≠ z → c ≠ j1 → c ≠ j2 → s.heap.get? c = some o → h'.get? c = some o) →
      Q (some (.ref s.heap.objs.size)) { s with heap := h' }) : wpAny (model prog w) A (pyNext (.ref z)) Q E s := by
  have ty : s.TypeIs (.ref z) "zip" := ⟨_, hZ, rfl⟩
  unfold pyNext
  refine wpAny_bind (wpAny_attempt (wpAny_callSpecial?_slot (name := Str.ofString "__next__") ty F.slot_zip_next (wpAny_call_entry F.slot_zip_next ty F.entry_zip_next ?_ (F.args_zip_next_1 _))))
  exact held_item D hZ hT hP it1 it2 ta tb ex ey fun h' c1 c2 c3 c4 c5 => wpAny_pure (q h' c1 c2 c3 c4 c5)
theorem py_end {Q : Option Value → Shared → Prop} (hh : A.handled = none) (D : ZipApart z TI TO j1 j2 a b) (hZ : IsZipHeld s.heap z TI TO T f) (hT : s.heap.get? T = some oT) (hP : IsPair s.heap TI (.ref j1) (.ref j2))
    (it1 : s.heap.IsTupleIter j1 a n1) (ta : s.heap.IsTuple a xs) (ex : xs[n1]? = none)
    (q : ∀ h', (∀ c o, c ≠ z → c ≠ j1 → c ≠ j2 → s.heap.get? c = some o → h'.get? c = some o) → Q none { s with heap := h' }) : wpAny (model prog w) A (pyNext (.ref z)) Q E s := by
  have ty : s.TypeIs (.ref z) "zip" := ⟨_, hZ, rfl⟩
  unfold pyNext
  refine wpAny_bind (wpAny_attempt (wpAny_callSpecial?_slot (name := Str.ofString "__next__") ty F.slot_zip_next (wpAny_call_entry F.slot_zip_next ty F.entry_zip_next (held_end hh D hZ hT hP it1 ta ex fun h' e k he => ?_) (F.args_zip_next_1 _))))
  obtain ⟨o, ho, hc⟩ := he
  exact wpAny_bind (wpAny_isInstance (T := "StopIteration") (b := true) ⟨o, ho, hc⟩ isSubtype_stop (wpAny_pure (q _ k)))
/-- nothing is said of the length of a zip -/
theorem zip_hint {Q : Bool → Shared → Prop} (ty : s.TypeIs (.ref z) "zip") (q : Q true s) : wpAny (model prog w) A (Builtin.List.listLengthHint (.ref z)) Q E s := by
  unfold Builtin.List.listLengthHint
  refine wpAny_bind (wpAny_specialOf ty (r := none) (by rw [typeLookup_type, builtinLookup_eq_fast]; kernel_rfl) ?_)
  refine PySem.W.KFB.if_not rfl (PySem.W.KFB.if_not rfl ?_)
  exact wpAny_bind (wpAny_specialOf ty (r := none) (by rw [typeLookup_type, builtinLookup_eq_fast]; kernel_rfl) (wpAny_pure q))
end
end GZ
namespace L2
open PySem PySem.Spec PyProof.Rows StX
/-- a zip at z over the tuples at a and b, i pairs of which have come out -/
def ZSt (H : Hp) (h : Heap) (z TI TO j1 j2 a b : Addr) (i : Nat) : Prop := IsPair h TI (.ref j1) (.ref j2) ∧ h.IsTupleIter j1 a i ∧ h.IsTupleIter j2 b i ∧ (∃ o, h.get? TO = some o) ∧ ((IsZip h z TI TO .none ∧ ∃ x y, IsPair h TO x y) ∨ ∃ T f p, IsZipHeld h z TI TO T f ∧ H T = some (.tup p))
section
variable {X : Cx} {pins : List (Addr × Obj)} {σ : L2.St} {H : Hp} {s : Shared} {z TI TO j1 j2 a b q : Addr} {i : Nat} {xs ys : List V} {x y : V} {A : Around}
theorem ZSt.keep {H' : Hp} {h h' : Heap} (st : ZSt H h z TI TO j1 j2 a b i) (k : ∀ c ∈ [z, TI, TO, j1, j2], ∀ o, h.get? c = some o → h'.get? c = some o) (t : ∀ T p, H T = some (.tup p) → H' T = some (.tup p)) : ZSt H' h' z TI TO j1 j2 a b i := by
  obtain ⟨c1, c2, c3, ⟨o0, c0⟩, c4⟩ := st
  refine ⟨k TI (by simp) _ c1, c2.at fun o e => k j1 (by simp) o e, c3.at fun o e => k j2 (by simp) o e, ⟨o0, k TO (by simp) _ c0⟩, ?_⟩
  rcases c4 with ⟨e, u, v, e2⟩ | ⟨T, f, p, e, e2⟩
  · exact .inl ⟨k z (by simp) _ e, u, v, k TO (by simp) _ e2⟩
  · exact .inr ⟨T, f, p, k z (by simp) _ e, t T p e2⟩
theorem zip_turn {E : Value → Shared → Prop} {Q : Option Value → Shared → Prop} (I : Inv X pins σ H s) (D : ZipApart z TI TO j1 j2 a b) (fp : ∀ c ∈ [z, TI, TO, j1, j2], FpOk X pins H c) (st : ZSt H s.heap z TI TO j1 j2 a b i)
    (qa : SqT X.K H a xs) (qb : SqT X.K H b ys) (ex : xs[i]? = some x) (ey : ys[i]? = some y)
    (k : ∀ T h', H T = none → (∀ c ∈ [z, TI, TO, j1, j2], T ≠ c) → Inv X pins σ (upd H T (.tup [x, y])) { s with heap := h' } → ZSt (upd H T (.tup [x, y])) h' z TI TO j1 j2 a b (i + 1) → Q (some (.ref T)) { s with heap := h' }) :
    wpAny (model X.prog X.w) A (pyNext (.ref z)) Q E s := by
  obtain ⟨P1, t1, t2, ⟨o0, c0⟩, c4⟩ := st
  obtain ⟨us, rv, pa, _⟩ := I.tuple qa
  obtain ⟨ws, rw_, pb, _⟩ := I.tuple qb
  obtain ⟨u, hu, ru⟩ := rv.get ex
  obtain ⟨v, hv, rw2⟩ := rw_.get ey
  have fr : H s.heap.objs.size = none := I.hok.fresh (Nat.le_refl _)
  have made : ∀ h', IsPair h' s.heap.objs.size u v → (∀ c o, c ∉ [z, TI, TO, j1, j2] → s.heap.get? c = some o → h'.get? c = some o) → Inv X pins σ (upd H s.heap.objs.size (.tup [x, y])) { s with heap := h' } := fun h' e kp =>
    I.turnedNew (t' := s.toks) (ch := [z, TI, TO, j1, j2]) kp fp (Nat.le_refl _) ⟨by show 2 ≤ sizeLine; decide, [u, v], .cons ru (.cons rw2 .nil), ⟨_, e, rfl, _, rfl⟩⟩
  have lt : ∀ {c o}, s.heap.get? c = some o → s.heap.objs.size ≠ c := fun e => Nat.ne_of_gt (Heap.lt_size e)
  have lt1 : s.heap.objs.size ≠ j1 := let ⟨_, e, _⟩ := t1; lt e
  have lt2 : s.heap.objs.size ≠ j2 := let ⟨_, e, _⟩ := t2; lt e
  rcases c4 with ⟨Z, u0, v0, P2⟩ | ⟨T0, f, p, Z, hT0⟩
  · refine RZ.pyNext_zipT_item D Z P1 P2 t1 t2 pa pb (x := u) (y := v) (by simpa using hu) (by simpa using hv) fun h' Z' P2' t1' t2' e _ kp => ?_
    refine k s.heap.objs.size h' fr ?_ (made h' e fun c o hc => kp c o (fun w => hc (by simp [w])) (fun w => hc (by simp [w])) (fun w => hc (by simp [w])) fun w => hc (by simp [w])) ⟨kp _ _ D.TIz D.TITO D.TIi1 D.TIi2 P1, t1', t2', ⟨_, P2'⟩, .inr ⟨_, false, _, Z', upd_same⟩⟩
    intro c hc
    simp only [List.mem_cons, List.not_mem_nil, or_false] at hc
    rcases hc with e | e | e | e | e
    · rw [e]; exact lt Z
    · rw [e]; exact lt P1
    · rw [e]; exact lt P2
    · rw [e]; exact lt1
    · rw [e]; exact lt2
  · obtain ⟨_, _, ⟨oT, eT, _⟩, _⟩ := I.tuple (show SqT X.K H T0 p from SqT.of hT0)
    refine GZ.py_item D Z eT P1 t1 t2 pa pb (x := u) (y := v) (by simpa using hu) (by simpa using hv) fun h' Z' t1' t2' e kp => ?_
    refine k s.heap.objs.size h' fr ?_ (made h' e fun c o hc => kp c o (fun w => hc (by simp [w])) (fun w => hc (by simp [w])) fun w => hc (by simp [w])) ⟨kp _ _ D.TIz D.TIi1 D.TIi2 P1, t1', t2', ⟨o0, kp _ _ D.TOz D.TOi1 D.TOi2 c0⟩, .inr ⟨T0, true, p, Z', by rw [upd_ne (ne_of_none hT0 fr)]; exact hT0⟩⟩
    intro c hc
    simp only [List.mem_cons, List.not_mem_nil, or_false] at hc
    rcases hc with e | e | e | e | e
    · rw [e]; exact lt Z
    · rw [e]; exact lt P1
    · rw [e]; exact lt c0
    · rw [e]; exact lt1
    · rw [e]; exact lt2
theorem zip_stop {E : Value → Shared → Prop} {Q : Option Value → Shared → Prop} (hh : A.handled = none) (I : Inv X pins σ H s) (D : ZipApart z TI TO j1 j2 a b) (fp : ∀ c ∈ [z, TI, TO, j1, j2], FpOk X pins H c) (st : ZSt H s.heap z TI TO j1 j2 a b i)
    (qa : SqT X.K H a xs) (qb : SqT X.K H b ys) (ex : xs.length ≤ i) (k : ∀ h', Inv X pins σ H { s with heap := h' } → Q none { s with heap := h' }) : wpAny (model X.prog X.w) A (pyNext (.ref z)) Q E s := by
  obtain ⟨P1, t1, t2, ⟨o0, c0⟩, c4⟩ := st
  obtain ⟨us, rv, pa, _⟩ := I.tuple qa
  obtain ⟨ws, rw_, pb, _⟩ := I.tuple qb
  have el := rv.length
  have no : us.toArray[i]? = none := by simp; omega
  rcases c4 with ⟨Z, u0, v0, P2⟩ | ⟨T0, f, p, Z, hT0⟩
  · exact RZ.pyNext_zipT_end hh D Z P1 P2 t1 t2 pa pb (.inl no) fun h' kp => k h' (I.turnedL (t' := s.toks) (ch := [z, TI, TO, j1, j2]) (fun c o hc => kp c o (fun w => hc (by simp [w])) (fun w => hc (by simp [w])) (fun w => hc (by simp [w])) fun w => hc (by simp [w])) fp)
  · obtain ⟨_, _, ⟨oT, eT, _⟩, _⟩ := I.tuple (show SqT X.K H T0 p from SqT.of hT0)
    exact GZ.py_end hh D Z eT P1 t1 pa no fun h' kp => k h' (I.turnedL (t' := s.toks) (ch := [z, TI, TO, j1, j2]) (fun c o hc => kp c o (fun w => hc (by simp [w])) (fun w => hc (by simp [w])) fun w => hc (by simp [w])) fp)
/-- the pairs at ts are those of xs and ys, as far as they go -/
def Pairs (H : Hp) (xs ys : List V) (ts : List Addr) : Prop := ∀ (j : Nat) (T : Addr) (x y : V), ts[j]? = some T → xs[j]? = some x → ys[j]? = some y → H T = some (.tup [x, y])
theorem zl_loop {Rs : Result → Shared → Prop} {H0 : Hp} (hh : A.in1.handled = none) (D : ZipApart z TI TO j1 j2 a b) (el : xs.length = ys.length) (sz : xs.length ≤ sizeLine) (qa : SqT X.K H0 a xs) (qb : SqT X.K H0 b ys) (fq : H0 q = none)
    (done : ∀ (ts : List Addr) (H : Hp) (s : Shared), Inv X pins σ H s → Same H0 H → H q = some (.lst (ts.map V.ref)) → ts.length = xs.length → Pairs H xs ys ts → Rs (.ok (.ret .none)) s) (err : ∀ e s, X.xe e s → Rs (.error e) s) :
    ∀ (m i : Nat) (ts : List Addr) (H : Hp) (s : Shared), m + i = xs.length → Inv X pins σ H s → (∀ c ∈ [z, TI, TO, j1, j2], FpOk X pins H c ∧ c ≠ q) → ZSt H s.heap z TI TO j1 j2 a b i → Same H0 H → H q = some (.lst (ts.map V.ref)) → ts.length = i → Pairs H xs ys ts →
      codeAny (model X.prog X.w) A (.builtin "list.extend.loop" ⟨[.ref q, .ref z, .none], []⟩) Rs s := by
  intro m
  induction m with
  | zero =>
    intro i ts H s hm I fp st sm hq hl hp
    refine codeAny_builtin PySem.F.entry_extend_loop ?_
    rw [Around.under_plainId PySem.F.plain_extend_loop]
    show wpAny (model X.prog X.w) A.in1 (pyNext (.ref z) >>= _) _ _ s
    refine wpAny_bind (zip_stop hh I D (fun c hc => (fp c hc).1) st (sm.seqT qa) (sm.seqT qb) (by omega) fun h' I' => wpAny_pure ?_)
    exact done ts H _ I' sm hq (by omega) hp
  | succ m ih =>
    intro i ts H s hm I fp st sm hq hl hp
    refine codeAny_builtin PySem.F.entry_extend_loop ?_
    rw [Around.under_plainId PySem.F.plain_extend_loop]
    show wpAny (model X.prog X.w) A.in1 (pyNext (.ref z) >>= _) _ _ s
    obtain ⟨x, ex⟩ : ∃ x, xs[i]? = some x := ⟨_, List.getElem?_eq_getElem (by omega)⟩
    obtain ⟨y, ey⟩ : ∃ y, ys[i]? = some y := ⟨_, List.getElem?_eq_getElem (by omega)⟩
    refine wpAny_bind (zip_turn I D (fun c hc => (fp c hc).1) st (sm.seqT qa) (sm.seqT qb) ex ey fun T h' fT nT I' st' => ?_)
    show wpAny (model X.prog X.w) A.in1 (updateSeq q (·.push (.ref T)) >>= _) _ _ _
    have nTq : q ≠ T := fun w => by rw [w, fT] at hq; cases hq
    have hq' : upd H T (.tup [x, y]) q = some (.lst (ts.map V.ref)) := by rw [upd_ne nTq]; exact hq
    obtain ⟨z0, its, n, r2, hl2, e⟩ := I'.lstM hq'
    rw [List.length_map] at hl2 z0
    have big : its.toArray.size < sizeLine := by rw [List.size_toArray]; omega
    refine wpAny_bind (wpAny_updateSeq e rfl (wpAny_pure ⟨plainId_quiet PySem.F.plain_extend_loop _, ?_⟩) (Nat.le_of_lt big) (by rw [Array.size_push]; omega))
    have I2 := I'.lset (its' := its ++ [.ref T]) (ys := (ts ++ [T]).map V.ref) (t' := s.toks) hq' e (f := (·.push (.ref T))) (by simp) (by rw [List.map_append]; exact r2.append (.cons rfl .nil)) (by rw [List.length_map, List.length_append, List.length_singleton]; omega)
    have sm1 : Same H (upd H T (.tup [x, y])) := same_new fT
    have sm2 : Same H0 (upd (upd H T (.tup [x, y])) q (.lst ((ts ++ [T]).map V.ref))) := same_put (sm.trans sm1) fq
    have keepT : ∀ T' p, H T' = some (.tup p) → upd (upd H T (.tup [x, y])) q (.lst ((ts ++ [T]).map V.ref)) T' = some (.tup p) := fun T' p e' => by
      rw [upd_ne (fun w => by rw [w, hq] at e'; cases e')]
      exact sm1 _ _ e'
    refine ih (i + 1) (ts ++ [T]) _ _ (by omega) I2 ?_ ?_ sm2 upd_same (by rw [List.length_append, hl]; rfl) ?_
    · intro c hc
      obtain ⟨⟨f1, f2⟩, nc⟩ := fp c hc
      exact ⟨⟨by rw [upd_ne nc, upd_ne (nT c hc).symm]; exact f1, f2⟩, nc⟩
    · refine st'.keep (fun c hc o e' => ?_) fun T' p e' => ?_
      · exact (Heap.get?_update_other _ _ (fp c hc).2.symm).trans e'
      · rw [upd_ne (fun w => by rw [w, hq'] at e'; cases e')]; exact e'
    · intro j T' x' y' h1 h2 h3
      by_cases hj : j < i
      · rw [List.getElem?_append_left (by omega)] at h1
        exact keepT _ _ (hp j T' x' y' h1 h2 h3)
      · have hj' : j = ts.length := by
          have := (List.getElem?_eq_some_iff.mp h1).1
          rw [List.length_append] at this
          simp at this
          omega
        rw [hj', List.getElem?_append_right (Nat.le_refl _), Nat.sub_self] at h1
        cases h1
        rw [hj', hl] at h2 h3
        rw [ex] at h2; rw [ey] at h3
        cases h2; cases h3
        rw [upd_ne nTq.symm]; exact upd_same
/-- list(z) of a zip that has not begun -/
theorem zip_list {Q : VK} (hh : X.A.handled = none) (I : Inv X pins σ H s) (D : ZipApart z TI TO j1 j2 a b) (fp : ∀ c ∈ [z, TI, TO, j1, j2], FpOk X pins H c) (st : ZSt H s.heap z TI TO j1 j2 a b 0) (Z : IsZip s.heap z TI TO .none)
    (qa : SqT X.K H a xs) (qb : SqT X.K H b ys) (el : xs.length = ys.length)
    (k : ∀ (q : Addr) (ts : List Addr) (H' : Hp), H q = none → Same H H' → H' q = some (.lst (ts.map V.ref)) → ts.length = xs.length → Pairs H' xs ys ts → Q (.ref q) H') :
    wpAny (model X.prog X.w) X.A (call (.type "list") [.ref z]) (EP X pins σ Q) X.xe s := by
  obtain ⟨_, _, _, sz⟩ := I.tuple qa
  have fr : H s.heap.objs.size = none := I.hok.fresh (Nat.le_refl _)
  have nq : ∀ c ∈ [z, TI, TO, j1, j2], c ≠ s.heap.objs.size := by
    obtain ⟨P1, ⟨_, t1, _⟩, ⟨_, t2, _⟩, ⟨o0, c0⟩, _⟩ := st
    intro c hc
    simp only [List.mem_cons, List.not_mem_nil, or_false] at hc
    rcases hc with e | e | e | e | e
    · rw [e]; exact Nat.ne_of_lt (Heap.lt_size Z)
    · rw [e]; exact Nat.ne_of_lt (Heap.lt_size P1)
    · rw [e]; exact Nat.ne_of_lt (Heap.lt_size c0)
    · rw [e]; exact Nat.ne_of_lt (Heap.lt_size t1)
    · rw [e]; exact Nat.ne_of_lt (Heap.lt_size t2)
  refine callType_codes (Q₁ := fun obj s1 => obj = .ref s.heap.objs.size ∧ s1 = { s with heap := s.heap.push { cls := .type "list", data := .seq #[] } }) PySem.F.called_list (PySem.F.typeCall_list_1 _) PySem.F.entry_list_init (code_list_new _ ⟨rfl, rfl⟩) fun obj s1 h1 => ?_
  obtain ⟨rfl, rfl⟩ := h1
  have eS : (s.heap.push { cls := .type "list", data := .seq #[] }).get? s.heap.objs.size = some { cls := .type "list", data := .seq #[] } := Heap.get?_push_size _ rfl
  refine ⟨⟨_, eS, rfl⟩, PySem.F.args_list_init_2 _ _, ?_⟩
  have I1 : Inv X pins σ (upd H s.heap.objs.size (.lst [])) { s with heap := s.heap.push { cls := .type "list", data := .seq #[] } } := I.lnew (its := []) (t' := s.toks) .nil (Nat.zero_le _)
  show wpAny (model X.prog X.w) _ (do let old ← Builtin.List.listItems (.ref s.heap.objs.size); Builtin.List.listUpdate (.ref s.heap.objs.size) (fun _ => #[]); letGo old.toList.reverse; Builtin.List.listExtendWith (.ref s.heap.objs.size) (.ref z) .none) _ _ _
  refine wpAny_bind ?_
  unfold Builtin.List.listItems
  refine wpAny_bind (wpAny_seqItems eS rfl (wpAny_pure ?_))
  show wpAny (model X.prog X.w) _ (updateSeq s.heap.objs.size (fun _ => #[]) >>= fun _ => letGo (#[] : Array Value).toList.reverse >>= fun _ => Builtin.List.listExtendWith (.ref s.heap.objs.size) (.ref z) .none) _ _ _
  refine wpAny_bind (wpAny_updateSeq eS rfl (wpAny_bind (wpAny_letGo ?_)))
  have I2 := I1.lset (f := fun _ => #[]) (its := []) (its' := []) (ys := []) (t' := s.toks) upd_same eS rfl .nil (Nat.zero_le _)
  rw [upd_upd] at I2
  have hq : upd H s.heap.objs.size (.lst []) s.heap.objs.size = some (.lst (([] : List Addr).map V.ref)) := upd_same
  have s0 : Same H (upd H s.heap.objs.size (.lst [])) := same_new fr
  have fp2 : ∀ c ∈ [z, TI, TO, j1, j2], FpOk X pins (upd H s.heap.objs.size (.lst [])) c ∧ c ≠ s.heap.objs.size := fun c hc => ⟨⟨by rw [upd_ne (nq c hc)]; exact (fp c hc).1, (fp c hc).2⟩, nq c hc⟩
  have st2 : ∀ h', (∀ c ∈ [z, TI, TO, j1, j2], ∀ o, s.heap.get? c = some o → h'.get? c = some o) → ZSt (upd H s.heap.objs.size (.lst [])) h' z TI TO j1 j2 a b 0 := fun h' kp => st.keep kp fun T p e => s0 _ _ e
  have kp2 : ∀ c ∈ [z, TI, TO, j1, j2], ∀ o, s.heap.get? c = some o → ((s.heap.push { cls := .type "list", data := .seq #[] }).update s.heap.objs.size (Obj.mapSeq fun _ => #[])).get? c = some o := fun c hc o e =>
    (Heap.get?_update_other _ _ (nq c hc).symm).trans (Heap.get?_push_of_some _ e)
  have Z2 := kp2 z (by simp) _ Z
  have ne : s.heap.objs.size ≠ z := (nq z (by simp)).symm
  have ty : ∀ tk, ({ s with heap := (s.heap.push { cls := .type "list", data := .seq #[] }).update s.heap.objs.size (Obj.mapSeq fun _ => #[]), toks := tk } : Shared).TypeIs (.ref z) "zip" := fun tk => ⟨_, Z2, rfl⟩
  have go : ∀ (h' : Heap) (t' : Nat), Inv X pins σ (upd H s.heap.objs.size (.lst [])) { s with heap := h', toks := t' } → (∀ c ∈ [z, TI, TO, j1, j2], ∀ o, s.heap.get? c = some o → h'.get? c = some o) →
      codeAny (model X.prog X.w) X.A.in1 (.builtin "list.extend.loop" ⟨[.ref s.heap.objs.size, .ref z, .none], []⟩) (wants (fun r s2 => r = .none ∧ EP X pins σ Q (.ref s.heap.objs.size) s2) X.xe) { s with heap := h', toks := t' } := fun h' t' I' kp =>
    zl_loop (A := X.A.in1) (H0 := H) (q := s.heap.objs.size) hh D el sz qa qb fr (fun ts H' s' I' sm hq' hl hp => ⟨rfl, .ref s.heap.objs.size, H', I', rfl, k _ ts H' fr sm hq' hl hp⟩) (fun e s' he => he) xs.length 0 [] _ _ (by omega) I' fp2 (st2 h' kp) s0 hq rfl (fun j T x y h => by cases h)
  unfold Builtin.List.listExtendWith
  refine wpAny_bind (wpAny_typeOf (ty s.toks) ?_)
  have n1 : Builtin.List.listSameRef (.ref s.heap.objs.size) (.ref z) = false := by simp [Builtin.List.listSameRef, ne]
  have n2 : (Value.type "zip" == Value.type "list") = false := by decide
  have n3 : (Value.type "zip" == Value.type "tuple") = false := by decide
  simp only [n1, n2, n3, Bool.or_false, Bool.false_eq_true, if_false]
  refine wpAny_bind (wpAny_pyIter_zip Z2 (wpAny_bind (wpAny_holding (GZ.zip_hint (ty s.toks) ?_))))
  refine wpAny_ite_split (fun _ => ?_) (fun w => absurd rfl w)
  obtain ⟨z0, its, n, r3, hl3, e3⟩ := I2.lstM upd_same
  cases r3
  refine wpAny_bind (wpAny_rule (wpAny_bind ?_))
  show wpAny (model X.prog X.w) _ (updateSeq s.heap.objs.size (·.push .none) >>= fun _ => updateSeq s.heap.objs.size (·.pop)) _ _ _
  refine wpAny_bind (wpAny_updateSeq e3 rfl ?_)
  have I3 := I2.lset (f := (·.push Value.none)) (its' := [Value.none]) (ys := [.non]) (t' := s.toks) upd_same e3 (by simp) (.cons rfl .nil) (by rw [List.length_singleton, sizeLine_eq]; decide)
  obtain ⟨z4, its4, n4, r4, hl4, e4⟩ := I3.lstM upd_same
  obtain ⟨u4, rfl, ru4⟩ := r4.one
  refine wpAny_updateSeq e4 rfl ?_ (by show 1 ≤ sizeLine; rw [sizeLine_eq]; decide) (by show 0 ≤ sizeLine + 1; exact Nat.zero_le _)
  have I4 := I3.lset (f := (·.pop)) (its := [u4]) (its' := []) (ys := []) (t' := s.toks) upd_same e4 (by rfl) .nil (Nat.zero_le _)
  rw [upd_upd, upd_upd] at I4
  refine wpAny_pure ⟨plainId_quiet PySem.F.plain_extend_loop _, go _ _ I4 fun c hc o e => ?_⟩
  have nc := (nq c hc).symm
  exact (Heap.get?_update_other _ _ nc).trans ((Heap.get?_update_other _ _ nc).trans (kp2 c hc o e))
end
/-- list(zip(a, b)) -/
def tLz (K : PySem.W.Frag) (ta : TA) : TE := fun σ H Q => ta σ H fun vs H1 => ∃ a b xs ys, vs = [.ref a, .ref b] ∧ SqT K H1 a xs ∧ SqT K H1 b ys ∧ xs.length = ys.length ∧
  ∀ (q : Addr) (ts : List Addr) (H' : Hp), H1 q = none → Same H1 H' → H' q = some (.lst (ts.map V.ref)) → ts.length = xs.length → Pairs H' xs ys ts → Q (.ref q) H'
theorem pe_listZip {X : Cx} {e e2 : Expr} {ta : TA} {p p2 pos pos2 : Pos} (hc : X.calm = true) (hg : Gl X "list") (hm : X.mg "list" = none) (hg2 : Gl X "zip") (hm2 : X.mg "zip" = none) (ha : PA X [e, e2] ta)
    (hs : starEach [e, e2] X.env = (false, eval e X.env) :: starEach [e2] X.env := by rfl) (hpl : (backTo pos2 (starEach [e2] X.env)).any (·.1) = false := by rfl)
    (na : starEach [.Call (.Name "zip" p2) [e, e2] [] pos2] X.env = (false, eval (.Call (.Name "zip" p2) [e, e2] [] pos2) X.env) :: starEach [] X.env := by rfl) :
    PE X (.Call (.Name "list" p) [.Call (.Name "zip" p2) [e, e2] [] pos2] [] pos) (tLz X.K ta) := by
  refine ⟨fun pins s σ H Q I h => ?_⟩
  refine Call_ (ld_blt I hg hm boot_list (PyProof.Rows.callWith_type1 (args_cons (Call_ (ld_blt I hg2 hm2 PyProof.Rows.boot_zip (PyProof.Rows.callWith_type1 (thn (ha.run pos2 pins s σ H _ I h) fun us s1 ⟨vs, H1, I1, r1, q1⟩ => ?_) hs hpl))) na) na))
  obtain ⟨a, b, xs, ys, ex, qa, qb, el, k⟩ := q1
  subst ex
  cases r1 with
  | cons ra rr =>
    cases rr with
    | cons rb rr =>
      cases rr
      cases ra
      cases rb
      obtain ⟨its, rv, p1, _⟩ := I1.tuple qa
      obtain ⟨its2, rv2, p3, _⟩ := I1.tuple qb
      obtain ⟨o1, ho1, _⟩ := id p1
      obtain ⟨o2, ho2, _⟩ := id p3
      refine RZ.call_zipT (show s1.heap.IsTuple a its.toArray from p1) (show s1.heap.IsTuple b its2.toArray from p3) fun h' Z P1 P2 t1 t2 _ kp => args_nil ?_
      have I2 : Inv X pins σ H1 { s1 with heap := h' } := I1.kept (t' := s1.toks) kp
      refine zip_list (I2.ok.hd hc) I2 (PySem.W.ktu_apart s1.heap.objs.size a b (Heap.lt_size ho1) (Heap.lt_size ho2)) (fun c hcm => ?_) ⟨P1, t1, t2, ⟨_, P2⟩, .inl ⟨Z, _, _, P2⟩⟩ Z qa qb el k
      have hle : s1.heap.objs.size ≤ c := by
        simp only [List.mem_cons, List.not_mem_nil, or_false] at hcm
        rcases hcm with w | w | w | w | w
        · rw [w]; exact Nat.le_add_right _ _
        · rw [w]; exact Nat.le_add_right _ _
        · rw [w]; exact Nat.le_add_right _ _
        · rw [w]; exact Nat.le_refl _
        · rw [w]; exact Nat.le_add_right _ _
      exact I1.fpOk hle (I1.hok.fresh hle)
end L2
namespace L2
open PySem PySem.Spec PyProof.Rows StX
/-- text * n -/
def rMulS : R2 := fun x y H Q => ∃ z n, x = .str z ∧ y = .int n ∧ MulOk z n ∧ Q (.str (Txt.mul z n)) H
theorem op_mul_str {X : Cx} : OpR X (binaryOp .Mult) rMulS := by
  intro pins s σ H x y v u Q I rx ry h
  obtain ⟨z, n, rfl, rfl, ok, q⟩ := h
  obtain ⟨t, rfl⟩ := rx
  obtain ⟨t', rfl⟩ := ry
  exact SB.mul ok fun t' tk => ⟨.str (Txt.mul z n), H, I.tok _, ⟨_, rfl⟩, q⟩
/-- str(x) of an integer or a text -/
def rStr2 : List V → Hp → VK → Prop := fun xs H Q => (∃ i, xs = [.int i] ∧ i.natAbs.log2 < 1920 ∧ Q (.str (toString i)) H) ∨ ∃ a, xs = [.str a] ∧ Q (.str a) H
theorem call_str2 {X : Cx} : CallR X (.type "str") rStr2 := by
  intro pins s σ H xs us Q I r h
  rcases h with h | h
  · exact call_str_int _ _ _ _ _ _ _ I r h
  · exact SkE.call_str_str _ _ _ _ _ _ _ I r h
end L2
namespace GN
open PySem TL L2
/-! ### notes in memory -/
mutual
def NoteAt (H : Hp) : N → V → Prop
  | .non, v => v = .non
  | .wrd w, v => v = .str ⟨w.toArray⟩
  | .num i, v => v = .int i
  | .tup ns, v => ∃ (a : Addr) (vs : List V), v = .ref a ∧ H a = some (.tup vs) ∧ NotesAt H ns vs
def NotesAt (H : Hp) : List N → List V → Prop
  | [], vs => vs = []
  | n :: ns, vs => ∃ v r, vs = v :: r ∧ NoteAt H n v ∧ NotesAt H ns r
end
def Tups (H H' : Hp) : Prop := ∀ (a : Addr) xs, H a = some (.tup xs) → H' a = some (.tup xs)
theorem Tups.refl {H : Hp} : Tups H H := fun _ _ h => h
theorem Tups.trans {H H1 H2 : Hp} (a : Tups H H1) (b : Tups H1 H2) : Tups H H2 := fun x y h => b x y (a x y h)
theorem tups_same {H H' : Hp} (s : Same H H') : Tups H H' := fun a xs h => s a _ h
theorem tups_put {H H' : Hp} {l : Addr} {xs ys : List V} (t : Tups H H') (h : H' l = some (.lst xs)) : Tups H (upd H' l (.lst ys)) := fun a zs e => by
  have e' := t a zs e
  rw [upd_ne (fun z => by rw [z, h] at e'; cases e')]
  exact e'
theorem tups_nw {H H' : Hp} {l : Addr} {o : HO} (t : Tups H H') (h : H' l = none) : Tups H (upd H' l o) := t.trans (tups_same (same_new h))
theorem tups_but {H H' : Hp} {p : Addr} {xs : List V} (s : SameBut p H H') (h : H p = some (.lst xs)) : Tups H H' := fun a ys e => s a _ (fun z => by rw [z, h] at e; cases e) e
mutual
theorem NoteAt.mono {H H' : Hp} (t : Tups H H') : ∀ {n : N} {v : V}, NoteAt H n v → NoteAt H' n v
  | .non, _, h => h
  | .wrd _, _, h => h
  | .num _, _, h => h
  | .tup ns, _, h => by
    obtain ⟨a, vs, e, ha, hs⟩ := h
    exact ⟨a, vs, e, t a vs ha, NotesAt.mono t hs⟩
theorem NotesAt.mono {H H' : Hp} (t : Tups H H') : ∀ {ns : List N} {vs : List V}, NotesAt H ns vs → NotesAt H' ns vs
  | [], _, h => h
  | n :: ns, _, h => by
    obtain ⟨v, r, e, h1, h2⟩ := h
    exact ⟨v, r, e, NoteAt.mono t h1, NotesAt.mono t h2⟩
end
theorem NotesAt.len {H : Hp} : ∀ {ns : List N} {vs : List V}, NotesAt H ns vs → vs.length = ns.length
  | [], _, h => by rw [(show _ = [] from h)]; rfl
  | n :: ns, _, h => by
    obtain ⟨v, r, e, _, h2⟩ := h
    rw [e, List.length_cons, List.length_cons, NotesAt.len h2]
theorem NotesAt.get {H : Hp} : ∀ {ns : List N} {vs : List V} {i : Nat} {v : V}, NotesAt H ns vs → vs[i]? = some v → ∃ n, ns[i]? = some n ∧ NoteAt H n v
  | [], _, _, _, h, e => by rw [(show _ = [] from h)] at e; cases e
  | n :: ns, _, 0, _, h, e => by
    obtain ⟨u, r, rfl, h1, _⟩ := h
    cases e
    exact ⟨n, rfl, h1⟩
  | n :: ns, _, i + 1, _, h, e => by
    obtain ⟨u, r, rfl, _, h2⟩ := h
    have ih := NotesAt.get (i := i) h2 (show r[i]? = some _ from e)
    exact ih
theorem NotesAt.snoc {H : Hp} {n : N} {v : V} (hv : NoteAt H n v) : ∀ {ns : List N} {vs : List V}, NotesAt H ns vs → NotesAt H (ns ++ [n]) (vs ++ [v])
  | [], _, h => by rw [(show _ = [] from h)]; exact ⟨v, [], rfl, hv, rfl⟩
  | m :: ns, _, h => by
    obtain ⟨u, r, rfl, h1, h2⟩ := h
    exact ⟨u, r ++ [v], rfl, h1, NotesAt.snoc hv h2⟩
end GN
namespace GN
open PySem TL L2
/-! ### pairs of two notes that are alike -/
def PairAt (H : Hp) (n : N) (v : V) : Prop := ∃ (T : Addr) (x y : V), v = .ref T ∧ H T = some (.tup [x, y]) ∧ NoteAt H n x ∧ NoteAt H n y
def PrsAt (H : Hp) : List N → List V → Prop
  | [], vs => vs = []
  | n :: ns, vs => ∃ v r, vs = v :: r ∧ PairAt H n v ∧ PrsAt H ns r
theorem PairAt.mono {H H' : Hp} (t : Tups H H') {n : N} {v : V} (h : PairAt H n v) : PairAt H' n v := by
  obtain ⟨T, x, y, e, hT, hx, hy⟩ := h
  exact ⟨T, x, y, e, t _ _ hT, hx.mono t, hy.mono t⟩
theorem PrsAt.mono {H H' : Hp} (t : Tups H H') : ∀ {ns : List N} {vs : List V}, PrsAt H ns vs → PrsAt H' ns vs
  | [], _, h => h
  | _ :: _, _, h => by
    obtain ⟨v, r, e, h1, h2⟩ := h
    exact ⟨v, r, e, h1.mono t, PrsAt.mono t h2⟩
theorem PrsAt.app {H : Hp} {ms : List N} {us : List V} (hu : PrsAt H ms us) : ∀ {ns : List N} {vs : List V}, PrsAt H ns vs → PrsAt H (ns ++ ms) (vs ++ us)
  | [], _, h => by rw [(show _ = [] from h)]; exact hu
  | n :: ns, _, h => by
    obtain ⟨v, r, rfl, h1, h2⟩ := h
    exact ⟨v, r ++ us, rfl, h1, PrsAt.app hu h2⟩
theorem PrsAt.last {H : Hp} {v : V} : ∀ {ns : List N} {r : List V}, PrsAt H ns (r ++ [v]) → ∃ ns' n, ns = ns' ++ [n] ∧ PrsAt H ns' r ∧ PairAt H n v
  | [], r, h => absurd (show r ++ [v] = [] from h) (by simp)
  | n :: ns, [], h => by
    obtain ⟨u, q, e, h1, h2⟩ := h
    injection e with e1 e2
    subst e1 e2
    cases ns with
    | nil => exact ⟨[], n, rfl, rfl, h1⟩
    | cons m ms => obtain ⟨_, _, e, _⟩ := h2; cases e
  | n :: ns, w :: r, h => by
    obtain ⟨u, q, e, h1, h2⟩ := h
    injection e with e1 e2
    subst e1 e2
    obtain ⟨ns', m, e, h3, h4⟩ := PrsAt.last h2
    exact ⟨n :: ns', m, by rw [e]; rfl, ⟨w, r, rfl, h1, h3⟩, h4⟩
theorem PrsAt.len {H : Hp} : ∀ {ns : List N} {vs : List V}, PrsAt H ns vs → vs.length = ns.length
  | [], _, h => by rw [(show _ = [] from h)]; rfl
  | n :: ns, _, h => by
    obtain ⟨v, r, e, _, h2⟩ := h
    rw [e, List.length_cons, List.length_cons, PrsAt.len h2]
theorem szs_app : ∀ (a b : List N), N.szs (a ++ b) = N.szs a + N.szs b
  | [], b => by simp [N.szs]
  | n :: a, b => by simp only [List.cons_append, N.szs, szs_app a b]; omega
theorem sz_pos : ∀ n : N, 1 ≤ n.sz
  | .non => Nat.le_refl _
  | .wrd _ => Nat.le_refl _
  | .num _ => Nat.le_refl _
  | .tup ns => by simp only [N.sz]; omega
theorem len_szs : ∀ ns : List N, ns.length ≤ N.szs ns
  | [] => Nat.le_refl _
  | n :: ns => by
    have := len_szs ns
    have := sz_pos n
    simp only [N.szs, List.length_cons]; omega
theorem prs_of {H : Hp} : ∀ {ns : List N} {xs ys : List V} {ts : List Addr}, NotesAt H ns xs → NotesAt H ns ys → ts.length = xs.length → Pairs H xs ys ts → PrsAt H ns (ts.map V.ref)
  | [], xs, _, ts, hx, _, hl, _ => by
    rw [(show xs = [] from hx)] at hl
    rw [List.length_eq_zero_iff.mp hl]; rfl
  | n :: ns, _, _, ts, hx, hy, hl, hp => by
    obtain ⟨x, xr, rfl, hx1, hx2⟩ := hx
    obtain ⟨y, yr, rfl, hy1, hy2⟩ := hy
    cases ts with
    | nil => simp at hl
    | cons T ts =>
      refine ⟨.ref T, ts.map V.ref, rfl, ⟨T, x, y, rfl, hp 0 T x y rfl rfl rfl, hx1, hy1⟩, ?_⟩
      exact prs_of hx2 hy2 (by simpa using hl) fun j T' x' y' h1 h2 h3 => hp (j + 1) T' x' y' h1 h2 h3
end GN
/-! a classmethod: called off its class (in a try's body too), and the class made by the name that holds it; f'..' -/
namespace L2
open PySem PySem.Spec PyProof.Rows StX
section
variable {P : Program} {w : World} {K : PySem.W.Frag} {mg : Str → Option Value} {base : Heap} {CX : CXT} {k : Nat} {f : Addr} {sp : Sp}
theorem FnOk.toR {fd : FuncData} {ps : List Str} (F : FnOk P w K mg base CX k f fd ps sp) (hb : Binds K fd ps []) : FnR P w K mg base CX k f sp :=
  (F.raw hb .nil).imp fun vs H Q E h => by rw [List.append_nil]; exact h
end
section
variable {X : Cx} {CX : CXT} {k i : Nat} {f C p g q : Addr} {mc : Value} {fd : FuncData} {ps : List Str} {sp : Sp} {dvs : List V} {ds : List Value} {x m : Str} {pos apos xp : Pos} {e o : Expr} {es : List Expr} {ta : TE} {t : TA} {pl : Sem Bool}
/-- cls(..): the i-th slot holds the class at C -/
def tMakeL (i : Nat) (C : Addr) (sp : Sp) (dvs : List V) (E : XK) (t : TA) : TE := fun σ H Q => σ[i]? = some (some (.ref C)) ∧ tMake C sp dvs E t σ H Q
theorem pe_mkL {E : XK} (hN : X.N[i]? = some x) (hv : Vis X.env.scope x) (M : Mk X.K C f) (F : FnOk X.prog X.w X.K X.mg X.base CX k f fd ps sp) (hr : Room (k + 1) X.A) (hb : Binds X.K fd ps ds) (hd : Vals dvs ds) (hx : Passes CX X E) (ha : PA X (e :: es) t)
    (hdb : (x == ("__debug__" : Str)) = false := by decide) (hcd : (x == ("__classdict__" : Str)) = false := by decide)
    (he : starEach (e :: es) X.env = (false, eval e X.env) :: starEach es X.env := by rfl) (hpl : (backTo pos (starEach es X.env)).any (·.1) = false := by rfl) : PE X (.Call (.Name x xp) (e :: es) [] pos) (tMakeL i C sp dvs E t) := by
  refine ⟨fun pins s σ H Q I h => ?_⟩
  obtain ⟨hs, ht⟩ := h
  refine wpAny_Call_Name_kw (thn ((pe_var (pos := xp) hN hv hdb hcd).run pins s σ H (fun v H1 => v = .ref C ∧ H1 = H) I ⟨.ref C, hs, rfl, rfl⟩) fun u s1 ⟨v, H1, I1, r1, q1⟩ => ?_)
  obtain ⟨rfl, rfl⟩ := q1
  cases r1
  refine PySem.W.callWith_K (h₀ := X.base) I1.ok.mod.kin M.kp (thn (ha.run pos pins s1 σ _ _ I1 ht) fun us s2 ⟨vs, H2, I2, r, q⟩ => ⟨I2.kIn, ?_⟩) he hpl
  exact run_make M F hr hb hd hx I2 r q
theorem run_fnRT {pins : List (Addr × Obj)} {σ : St} {H : Hp} {s : Shared} {E : XK} {Q : VK} {us : List Value} {vs : List V} (F : FnR X.prog X.w X.K X.mg X.base CX k f sp) (hr : Room k X.A) (hx : PassesAt CX X σ E) (I : Inv X pins σ H s) (r : Vals vs us) (h : sp vs H Q E) :
    codeAny (model X.prog X.w) X.A (.call (.ref f) ⟨us, []⟩) (fun r s' => match r with | .ok (.ret v) => EP X pins σ Q v s' | .ok _ => False | .error e => X.xe e s') s := by
  refine codeAny_mono (F X.A X.stack s H us vs Q E hr I.env0 r h) fun r s' hq => ?_
  cases r with
  | error e => exact hx pins H s e s' I hq
  | ok fl =>
    cases fl with
    | ret u => exact I.after hq
    | next => exact False.elim hq
    | brk => exact False.elim hq
    | cont => exact False.elim hq
theorem run_cmT {pins : List (Addr × Obj)} {σ : St} {H : Hp} {s : Shared} {E : XK} {Q : VK} {us : List Value} {vs : List V} (F : FnR X.prog X.w X.K X.mg X.base CX k g sp) (hr : Room k X.A) (hx : PassesAt CX X σ E) (I : Inv X ((q, PySem.W.methodObj (.ref g) (.ref C)) :: pins) σ H s)
    (r : Vals vs us) (h : sp (.ref C :: vs) H Q E) : wpAny (model X.prog X.w) X.A (call (.ref q) us) (EP X pins σ Q) X.xe s := by
  have z : wpAny (model X.prog X.w) X.A (call (.ref q) us) (EP X ((q, PySem.W.methodObj (.ref g) (.ref C)) :: pins) σ Q) X.xe s :=
    wpAny_call (PySem.W.method_call (ClX.pin_at I) (run_fnRT (us := .ref C :: us) (vs := .ref C :: vs) F hr hx I (.cons rfl r) h))
  exact thn z fun _ _ y => ClX.unpinE y
/-- e.m(..) in a try's body, e the class at C, m a classmethod -/
def tCMethT (C : Addr) (sp : Sp) (E : St → XK) (ta : TE) (t : TA) : TE := fun σ H Q => ta σ H fun x H1 => x = .ref C ∧ t σ H1 fun vs H2 => sp (.ref C :: vs) H2 Q (E σ)
theorem pe_cmethT {E : St → XK} (he : PE X o ta) (r : ClX.CRead X.K C mc) (c : ClX.CMet X.K C mc m p g) (F : FnR X.prog X.w X.K X.mg X.base CX k g sp) (hr : Room k X.A) (hx : ∀ σ, PassesAt CX X σ (E σ)) (ha : PA X (e :: es) t)
    (hst : starEach (e :: es) X.env = (false, eval e X.env) :: starEach es X.env := by rfl) (hpl : (backTo pos (starEach es X.env)).any (·.1) = false := by rfl)
    (ht : eval (.Call (.Attribute o m apos) (e :: es) [] pos) X.env = (do
      let ov ← eval o X.env
      standAt apos.atName
      let (f, first) ← holding [ov] (getMethod ov m pl)
      callWith pos f first (backTo pos (starEach (e :: es) X.env)) (backToKw pos (keywordEach [] X.env))) := by rfl) :
    PE X (.Call (.Attribute o m apos) (e :: es) [] pos) (tCMethT C sp E ta t) := by
  refine ⟨fun pins s σ H Q I h => ?_⟩
  refine PySem.W.methodCall_KW (pl := pl) (thn (he.run pins s σ H _ I h) fun u s1 ⟨x, H1, I1, rx, ex, q⟩ => ?_) ht
  subst ex
  obtain rfl : u = Value.ref C := rx
  refine ClX.getmethcm_ok I1 r c fun s2 I2 => ?_
  refine ClX.callwith_cm I2 (ClX.base_none I1 (Nat.le_refl _)) c.fi (thn (ha.run pos _ s2 σ H1 _ I2 q) fun us s3 ⟨vs, H2, I3, rv, q2⟩ => ⟨⟨ClX.pin_at I3, I3.kIn⟩, ?_⟩) hst hpl
  exact run_cmT F hr (hx σ) I3 rv q2
end
end L2
namespace L2
open PySem PySem.Spec PyProof.Rows StX
theorem for_txt {t : List Nat} {g : TG} {tb : TS} {D : Ends} {σ : St} {H : Hp} (Pv : Nat → St → Hp → Prop) (h0 : Pv 0 σ H)
    (hs : ∀ (i c : Nat) σ H, t[i]? = some c → Pv i σ H → g (.str ⟨#[c]⟩) σ H fun σ2 H2 => tb { D with nx := Pv (i + 1), ct := Pv (i + 1), bk := D.nx } σ2 H2) (hd : ∀ σ H, Pv t.length σ H → D.nx σ H) :
    ∃ W : Nat → Nat → St → Hp → Prop, (∃ m, W 0 m σ H) ∧ ∀ i m σ H, W i m σ H →
      ((Its (SX.S t)).stop i H ∧ D.nx σ H) ∨ ((Its (SX.S t)).go i H ∧ ∃ N : St → Hp → Prop, (∀ σ' H', N σ' H' → ∃ m', m' < m ∧ W (i + 1) m' σ' H') ∧ ∀ v H', (Its (SX.S t)).yld i H v H' → g v σ H' fun σ2 H2 => tb { D with nx := N, ct := N, bk := D.nx } σ2 H2) := by
  have hsz : (SX.S t).cps.size = t.length := by simp
  refine ⟨fun i m σ H => m = t.length - i ∧ i ≤ t.length ∧ Pv i σ H, ⟨t.length, by simp, Nat.zero_le _, h0⟩, ?_⟩
  rintro i m σ H ⟨rfl, hi, hP⟩
  by_cases h : i < t.length
  · refine .inr ⟨(show i < (SX.S t).cps.size by rw [hsz]; exact h), Pv (i + 1), fun σ' H' hN => ⟨t.length - (i + 1), by omega, rfl, by omega, hN⟩, ?_⟩
    rintro v H' ⟨rfl, c, hc, rfl⟩
    exact hs i c σ H' (by simpa using hc) hP
  · have e : i = t.length := by omega
    subst e
    exact .inl ⟨(show (SX.S t).cps.size ≤ t.length by rw [hsz]; exact Nat.le_refl _), hd σ H hP⟩
theorem lc_txt {t : List Nat} {g : TG} {tt : TT} {te : TE} {vs : List Nat} {σ : St} {H1 : Hp} {D : Addr} {Qd : Hp → Prop} (Pv : Nat → Hp → Prop) (h0 : Pv 0 (upd H1 D (.lst [])))
    (hs : ∀ i c H, t[i]? = some c → Pv i H → g (.str ⟨#[c]⟩) (wipe σ vs) H fun σ2 H2 => wipe σ2 vs = wipe σ vs ∧ tt σ2 H2 fun b H3 =>
      if b = true then te σ2 H3 fun y H4 => ∃ acc, H4 D = some (.lst acc) ∧ acc.length < sizeLine ∧ Pv (i + 1) (upd H4 D (.lst (acc ++ [y]))) else Pv (i + 1) H3) (hd : ∀ H, Pv t.length H → Qd H) :
    ∃ W : Nat → Nat → Hp → Prop, (∃ m, W 0 m (upd H1 D (.lst []))) ∧ ∀ i m H, W i m H →
      ((Its (SX.S t)).stop i H ∧ Qd H) ∨ ((Its (SX.S t)).go i H ∧ ∃ Nx : Hp → Prop, (∀ H', Nx H' → ∃ m', m' < m ∧ W (i + 1) m' H') ∧ ∀ x H', (Its (SX.S t)).yld i H x H' → g x (wipe σ vs) H' fun σ2 H2 => wipe σ2 vs = wipe σ vs ∧ tt σ2 H2 fun b H3 =>
        if b = true then te σ2 H3 fun y H4 => ∃ acc, H4 D = some (.lst acc) ∧ acc.length < sizeLine ∧ Nx (upd H4 D (.lst (acc ++ [y]))) else Nx H3) := by
  have hsz : (SX.S t).cps.size = t.length := by simp
  refine ⟨fun i m H => m = t.length - i ∧ i ≤ t.length ∧ Pv i H, ⟨t.length, by simp, Nat.zero_le _, h0⟩, ?_⟩
  rintro i m H ⟨rfl, hi, hP⟩
  by_cases h : i < t.length
  · refine .inr ⟨(show i < (SX.S t).cps.size by rw [hsz]; exact h), Pv (i + 1), fun H' hN => ⟨t.length - (i + 1), by omega, rfl, by omega, hN⟩, ?_⟩
    rintro v H' ⟨rfl, c, hc, rfl⟩
    exact hs i c H' (by simpa using hc) hP
  · have e : i = t.length := by omega
    subst e
    exact .inl ⟨(show (SX.S t).cps.size ≤ t.length by rw [hsz]; exact Nat.le_refl _), hd H hP⟩
end L2
namespace GR
open PySem TL GN SX NumText
/-- the text of a share -/
def txt (a b : Int) : List Nat := if b = 1 then numT a else numT a ++ 47 :: numT b
structure Canon (t : List Nat) (a b : Int) : Prop where
  e : t = txt a b
  pos : 1 ≤ b
  cop : Nat.gcd a.natAbs b.natAbs = 1
def isD (w : List Nat) : Bool := decide (w ≠ []) && w.all fun c => decide (c ∈ digs)
def lead (w : List Nat) : Bool := isD w && !(decide (1 < w.length) && decide (w[0]? = some 48))
theorem isD_iff {w : List Nat} : isD w = true ↔ w ≠ [] ∧ AllDigits w := by
  unfold isD
  rw [Bool.and_eq_true, decide_eq_true_iff, List.all_eq_true]
  exact and_congr Iff.rfl ⟨fun h c hc => digs_range (of_decide_eq_true (h c hc)), fun h c hc => decide_eq_true (digs_of (h c hc))⟩
theorem isD_num (m : Nat) : isD (numL m) = true := isD_iff.mpr ⟨numL_ne m, numL_digits m⟩
theorem lead_num (m : Nat) : lead (numL m) = true := by
  unfold lead
  rw [isD_num]
  by_cases h : m = 0
  · subst h; rw [numL_zero]; decide
  · obtain ⟨c, r, e, h1, h2⟩ := numL_head m (by omega)
    rw [e]
    have : ¬ (c :: r)[0]? = some 48 := by simp; omega
    rw [decide_eq_false this]; simp
theorem lead_back {w : List Nat} (h : lead w = true) : isD w = true ∧ numL (digitsVal w) = w := by
  unfold lead at h
  rw [Bool.and_eq_true] at h
  obtain ⟨hd, hz⟩ := h
  obtain ⟨hne, hall⟩ := isD_iff.mp hd
  refine ⟨hd, ?_⟩
  cases w with
  | nil => exact absurd rfl hne
  | cons c r =>
    have hr := hall.head
    have q : r.length = 0 ∨ ∃ c' r', c :: r = c' :: r' ∧ 49 ≤ c' := by
      by_cases hl : r.length = 0
      · exact .inl hl
      · right
        refine ⟨c, r, rfl, ?_⟩
        have hn : ¬ (c :: r)[0]? = some 48 := fun e => by
          rw [decide_eq_true e, decide_eq_true (show 1 < (c :: r).length by simp only [List.length_cons]; omega)] at hz
          cases hz
        have hc : c ≠ 48 := fun e => hn (by simp [e])
        omega
    unfold numL
    rw [toDigits_digitsVal r.length (c :: r) rfl hall q, List.map_map]
    have : ∀ l : List Nat, AllDigits l → l.map (Char.toNat ∘ Char.ofNat) = l := by
      intro l hl
      induction l with
      | nil => rfl
      | cons d l ih =>
        have hd := hl.head
        rw [List.map_cons, ih hl.tail]
        congr 1
        have : ∀ k : Fin 10, (Char.toNat ∘ Char.ofNat) (48 + k.val) = 48 + k.val := by decide
        have e := this ⟨d - 48, by omega⟩
        have z : 48 + (d - 48) = d := by omega
        rw [z] at e
        exact e
    exact this _ hall
theorem numT_pos {a : Int} (h : 0 ≤ a) : numT a = numL a.natAbs := by
  obtain ⟨m, rfl⟩ : ∃ m : Nat, a = (m : Int) := ⟨a.natAbs, by omega⟩
  rw [numT_nat]; rfl
theorem numT_ng {a : Int} (h : a < 0) : numT a = 45 :: numL a.natAbs := by
  obtain ⟨m, rfl⟩ : ∃ m : Nat, a = -(m : Int) := ⟨a.natAbs, by omega⟩
  rw [numT_neg m (by omega), Int.natAbs_neg]; rfl
theorem numT_free (a : Int) : 47 ∉ numT a := by
  rcases Int.lt_or_le a 0 with h | h
  · rw [numT_ng h]
    intro hm
    rcases List.mem_cons.mp hm with e | hm
    · exact absurd e (by decide)
    · exact numL_free (by decide) hm
  · rw [numT_pos h]; exact numL_free (by decide)
/-- the text without a sign at its head -/
def body (t : List Nat) : List Nat := if t[0]? = some 45 then t.drop 1 else t
theorem body_num (a : Int) (r : List Nat) : body (numT a ++ r) = numL a.natAbs ++ r ∧ ((numT a ++ r)[0]? = some 45 ↔ a < 0) := by
  rcases Int.lt_or_le a 0 with h | h
  · rw [numT_ng h]
    exact ⟨rfl, by simp [h]⟩
  · rw [numT_pos h]
    have hh : ¬ (numL a.natAbs ++ r)[0]? = some 45 := by
      by_cases h0 : a.natAbs = 0
      · rw [h0, numL_zero]; simp
      · obtain ⟨c, s, e, h1, h2⟩ := numL_head a.natAbs (by omega)
        rw [e]; simp; omega
    refine ⟨?_, ?_⟩
    · unfold body; rw [if_neg hh]
    · constructor
      · intro e; exact absurd e hh
      · intro e; omega
theorem body_num0 (a : Int) : body (numT a) = numL a.natAbs := by have := (body_num a []).1; simpa using this
theorem minus : Str.ofString "-" = S [45] := by decide +kernel
theorem slash : Str.ofString "/" = S [47] := by decide +kernel
theorem rmp (t : List Nat) : Txt.removeprefix (S t) (Str.ofString "-") = S (body t) := by
  have e := StrLaws.removeprefix_eq (S t) (S [45])
  rw [minus, e]
  have key : (decide (0 + (S [45]).length ≤ (S t).length) && Builtin.Str.subAt (S t) (S [45]) 0) = decide (t[0]? = some 45) := by
    have h := TL.at_iff (x := S t) (y := S [45]) (by simp [TL.tl]) 0
    unfold StrLaws.At at h
    cases t with
    | nil => rfl
    | cons c r =>
      have h2 : (0 + (S [45]).length ≤ (S (c :: r)).length ∧ Builtin.Str.subAt (S (c :: r)) (S [45]) 0 = true) ↔ c = 45 := by
        rw [h]
        show ((c :: r).take 1 == [45]) = true ↔ _
        simp
      by_cases hc : c = 45
      · obtain ⟨p, q⟩ := h2.mpr hc
        rw [q, decide_eq_true p, hc]; rfl
      · rw [decide_eq_false (show ¬ (c :: r)[0]? = some 45 by simp [hc])]
        rw [Bool.and_eq_false_iff]
        by_cases p : 0 + (S [45]).length ≤ (S (c :: r)).length
        · right
          cases q : Builtin.Str.subAt (S (c :: r)) (S [45]) 0
          · rfl
          · exact absurd (h2.mp ⟨p, q⟩) hc
        · left; exact decide_eq_false p
  rw [key]
  unfold body
  by_cases h : t[0]? = some 45
  · rw [if_pos (decide_eq_true h), if_pos h]
    have l1 : (S [45]).length = 1 := rfl
    rw [l1, S_len]
    show S ((t.drop 1).take (t.length - 1)) = _
    rw [List.take_of_length_le (by rw [List.length_drop]; omega)]
  · rw [if_neg (by simpa using h), if_neg h]
theorem int_dig {w : List Nat} (h : isD w = true) (hl : w.length ≤ 600) : intText? (S w) = some ((digitsVal w : Nat) : Int) := by
  obtain ⟨h1, h2⟩ := isD_iff.mp h
  exact intText_digits (x := S w) h2 h1 (by rw [S_len]; omega)
/-- the integer of a sign and digits -/
def sval (t : List Nat) : Int := if t[0]? = some 45 then -((digitsVal (t.drop 1) : Nat) : Int) else ((digitsVal t : Nat) : Int)
theorem int_sdig {t : List Nat} (h : isD (body t) = true) (hl : t.length ≤ 600) : intText? (S t) = some (sval t) := by
  unfold body at h
  unfold sval
  by_cases c : t[0]? = some 45
  · rw [if_pos c] at h ⊢
    obtain ⟨h1, h2⟩ := isD_iff.mp h
    cases t with
    | nil => cases c
    | cons d r =>
      have : d = 45 := by simpa using c
      subst this
      exact intText_neg (x := S (45 :: r)) rfl h2 h1 (by rw [S_len]; omega)
  · rw [if_neg c] at h ⊢
    exact int_dig h hl
theorem body_le (t : List Nat) : (body t).length ≤ t.length := by
  unfold body; split
  · rw [List.length_drop]; omega
  · exact Nat.le_refl _
theorem sval_abs (t : List Nat) : (sval t).natAbs = digitsVal (body t) := by
  unfold sval body
  split
  · rw [Int.natAbs_neg]; rfl
  · rfl
theorem sval_num (a : Int) : sval (numT a) = a := by
  unfold sval
  rcases Int.lt_or_le a 0 with h | h
  · rw [numT_ng h, if_pos (show (45 :: numL a.natAbs)[0]? = some 45 from rfl)]
    show -((digitsVal (numL a.natAbs) : Nat) : Int) = a
    rw [numL_val]; omega
  · have := (body_num a []).2
    rw [List.append_nil] at this
    rw [if_neg (fun e => by have := this.mp e; omega), numT_pos h, numL_val]; omega
theorem dig_lt {w : List Nat} (h : isD w = true) : digitsVal w < 10 ^ w.length := digits_lt (isD_iff.mp h).2
theorem bits70 {w : List Nat} (h : isD w = true) (hl : w.length ≤ 70) : digitsVal w < 2 ^ 240 :=
  Nat.lt_of_lt_of_le (dig_lt h) (Nat.le_trans (Nat.pow_le_pow_right (by decide) hl) (by decide +kernel))
theorem num_len {a : Int} {n k : Nat} (h : a.natAbs < 2 ^ n) (hk : 0 < k) (e : 2 ^ n ≤ 10 ^ k) : (numT a).length ≤ k + 1 := by
  have hl := numL_len (n := a.natAbs) (k := k) hk (Nat.lt_of_lt_of_le h e)
  rcases Int.lt_or_le a 0 with c | c
  · rw [numT_ng c, List.length_cons]; omega
  · rw [numT_pos c]; omega
theorem txt_len {a b : Int} {n k : Nat} (ha : a.natAbs < 2 ^ n) (hb : b.natAbs < 2 ^ n) (hk : 0 < k) (e : 2 ^ n ≤ 10 ^ k) : (txt a b).length ≤ 2 * k + 3 := by
  have h1 := num_len ha hk e
  have h2 := num_len hb hk e
  unfold txt
  split
  · omega
  · rw [List.length_append, List.length_cons]; omega
/-! ### partition and split -/
theorem part_num {a b : Int} (h : b ≠ 1) : Txt.partition (S (txt a b)) (Str.ofString "/") = (S (numT a), S [47], S (numT b)) := by
  rw [slash]
  unfold txt
  rw [if_neg h]
  exact partition_some (by simp) (by have := par_head (c := 47) (sep := []) (numT b) (numT_free a); simpa using this)
theorem part_one (a : Int) : Txt.partition (S (txt a 1)) (Str.ofString "/") = (S (numT a), S [], S []) := by
  rw [slash]
  unfold txt
  rw [if_pos rfl]
  exact partition_none (by simp) (par_head_none (numT_free a))
theorem part_any (t : List Nat) : ∃ p s q, Txt.partition (S t) (Str.ofString "/") = (S p, S s, S q) ∧ p.length ≤ t.length ∧ q.length ≤ t.length := by
  have h := PyProof.Rows.fact_partition (S t) (Str.ofString "/")
  refine ⟨tl (Txt.partition (S t) (Str.ofString "/")).1, tl (Txt.partition (S t) (Str.ofString "/")).2.1, tl (Txt.partition (S t) (Str.ofString "/")).2.2, ?_, ?_, ?_⟩
  · show _ = ((⟨(tl _).toArray⟩ : Str), (⟨(tl _).toArray⟩ : Str), (⟨(tl _).toArray⟩ : Str))
    rw [mk_tl, mk_tl, mk_tl]
  · rw [← len_tl]; have := h.1; rw [S_len] at this; exact this
  · rw [← len_tl]; have := h.2.2; rw [S_len] at this; exact this
theorem split_any (t : List Nat) : ∃ ps : List (List Nat), Txt.split (S t) (Str.ofString "/") = ps.map S ∧ ps ≠ [] ∧ joinL [47] ps = t := by
  have e := split_S (a := t) (b := [47]) (by simp) (by decide)
  rw [← slash] at e
  have j := StrLaws.join_split (S t) (Str.ofString "/")
  refine ⟨spl [47] 0 [] t, e, ?_, ?_⟩
  · intro z
    have := PyProof.Rows.split_pos (S t) (Str.ofString "/")
    rw [e, z] at this
    exact absurd this (by decide)
  · have k := congrArg tl j
    rw [e, tl_join, map_S_tl] at k
    have s1 : tl (Str.ofString "/") = [47] := by rw [slash]
    rw [s1] at k
    exact k
theorem split_num {m n : Nat} : Txt.split (S (numL m ++ 47 :: numL n)) (Str.ofString "/") = [numL m, numL n].map S ∧ Txt.split (S (numL m)) (Str.ofString "/") = [numL m].map S := by
  have f : ∀ k, 47 ∉ numL k := fun k => numL_free (by decide)
  rw [slash]
  constructor
  · rw [split_S (by simp) (by decide)]
    have := spl_join (c := 47) (sep := []) (parts := [numL m, numL n]) (by simp) (by intro p hp; rcases List.mem_cons.mp hp with e | hp; (rw [e]; exact f m); (rw [List.mem_singleton.mp hp]; exact f n))
    exact congrArg (List.map S) this
  · rw [split_S (by simp) (by decide)]
    have := spl_join (c := 47) (sep := []) (parts := [numL m]) (by simp) (by intro p hp; rw [List.mem_singleton.mp hp]; exact f m)
    exact congrArg (List.map S) this
/-! ### Euclid's steps, of numbers of fewer than 240 bits -/
def Eu (a b i : Nat) : Prop := (i = 0 ∧ b < 2 ^ 240) ∨ (1 ≤ i ∧ b < a ∧ a * b * 2 ^ (i - 1) ≤ 2 ^ 480)
theorem Eu.turn {a b i : Nat} (h : Eu a b i) (hb : b ≠ 0) : Eu b (a % b) (i + 1) ∧ i ≤ 481 := by
  have hm : a % b < b := Nat.mod_lt _ (Nat.pos_of_ne_zero hb)
  rcases h with ⟨rfl, h⟩ | ⟨h1, h2, h3⟩
  · refine ⟨.inr ⟨Nat.le_refl _, hm, ?_⟩, Nat.zero_le _⟩
    show b * (a % b) * 2 ^ 0 ≤ 2 ^ 480
    have : b * (a % b) ≤ 2 ^ 240 * 2 ^ 240 := Nat.mul_le_mul (Nat.le_of_lt h) (Nat.le_of_lt (Nat.lt_trans hm h))
    rw [Nat.pow_zero, Nat.mul_one]
    rw [← Nat.pow_add] at this
    exact this
  · refine ⟨.inr ⟨by omega, hm, ?_⟩, ?_⟩
    · obtain ⟨j, rfl⟩ : ∃ j, i = j + 1 := ⟨i - 1, by omega⟩
      show b * (a % b) * 2 ^ (j + 1) ≤ 2 ^ 480
      have h2' : 2 * (a % b) ≤ a := by
        have e := Nat.div_add_mod a b
        have q : 1 ≤ a / b := Nat.div_pos (Nat.le_of_lt h2) (Nat.pos_of_ne_zero hb)
        have : b * 1 ≤ b * (a / b) := Nat.mul_le_mul_left _ q
        omega
      have e : b * (a % b) * 2 ^ (j + 1) = (b * (2 * (a % b))) * 2 ^ j := by
        rw [Nat.pow_succ, Nat.mul_comm (2 ^ j) 2, ← Nat.mul_assoc, Nat.mul_assoc b, Nat.mul_comm (a % b) 2]
      rw [e]
      refine Nat.le_trans (Nat.mul_le_mul_right _ (Nat.mul_le_mul_left b h2')) ?_
      rw [Nat.mul_comm b a]
      exact h3
    · have : 1 * 1 * 2 ^ (i - 1) ≤ a * b * 2 ^ (i - 1) := Nat.mul_le_mul_right _ (Nat.mul_le_mul (by omega) (by omega))
      simp only [Nat.one_mul] at this
      have q : i - 1 ≤ 480 := (Nat.pow_le_pow_iff_right (by decide)).mp (Nat.le_trans this h3)
      omega
end GR
/-! texts of at most n signs, each a sign -/
namespace TX
open PySem PySem.Spec PyProof.Rows L2 SX
structure Tx (n : Nat) (z : Str) : Prop where
  len : z.length ≤ n
  ok : ∀ c ∈ TL.tl z, c < 0x110000
variable {n m k : Nat} {z y s : Str} {a b : Option Int} {l : List Str}
theorem Tx.up (h : Tx n z) (e : n ≤ m) : Tx m z := ⟨Nat.le_trans h.len e, h.ok⟩
theorem Tx.str (h : Tx n z) : PyData.strOk z = true := by
  show (z.cps.all fun c => decide (c < 0x110000)) = true
  rw [← Array.all_toList, List.all_eq_true]
  intro c hc
  exact decide_eq_true (h.ok c hc)
theorem tx_of (hl : z.length ≤ n) (h : PyData.strOk z = true) : Tx n z := by
  have h : (z.cps.all fun c => decide (c < 0x110000)) = true := h
  rw [← Array.all_toList, List.all_eq_true] at h
  exact ⟨hl, fun c hc => of_decide_eq_true (h c hc)⟩
theorem cut_len (z : Str) (a b : Option Int) : (cutS z a b).length ≤ z.length := by
  rw [TL.len_tl, TL.len_tl z]
  show ((((z.cps.toList.drop _).take _).toArray).toList).length ≤ (TL.tl z).length
  rw [List.length_take, List.length_drop]
  show _ ≤ z.cps.toList.length
  omega
theorem tx_cut (h : Tx n z) : Tx n (cutS z a b) := ⟨Nat.le_trans (cut_len z a b) h.len, fun c hc => h.ok c (by
  have hc : c ∈ (((z.cps.toList.drop _).take _).toArray).toList := hc
  exact List.mem_of_mem_drop (List.mem_of_mem_take hc))⟩
theorem tx_app (h : Tx n z) (g : Tx m y) : Tx (n + m) (z ++ y) := by
  refine ⟨?_, fun c hc => ?_⟩
  · rw [TL.len_tl, TL.tl_append, List.length_append, ← TL.len_tl, ← TL.len_tl]
    have := h.len; have := g.len; omega
  · rw [TL.tl_append] at hc
    rcases List.mem_append.mp hc with e | e
    · exact h.ok c e
    · exact g.ok c e
theorem tx_joinL {S : List Nat} (hS : ∀ c ∈ S, c < 0x110000) (hk : S.length ≤ k) : ∀ l : List (List Nat), (∀ p ∈ l, p.length ≤ n ∧ ∀ c ∈ p, c < 0x110000) → (TL.joinL S l).length ≤ l.length * (n + k) ∧ ∀ c ∈ TL.joinL S l, c < 0x110000
  | [], _ => by simp [TL.joinL]
  | [p], h => by
    have := h p List.mem_cons_self
    refine ⟨?_, this.2⟩
    show p.length ≤ 1 * (n + k)
    omega
  | p :: q :: r, h => by
    have h1 := h p List.mem_cons_self
    have ih := tx_joinL hS hk (q :: r) fun x hx => h x (List.mem_cons_of_mem _ hx)
    show (p ++ (S ++ TL.joinL S (q :: r))).length ≤ (r.length + 1 + 1) * (n + k) ∧ ∀ c ∈ p ++ (S ++ TL.joinL S (q :: r)), c < 0x110000
    refine ⟨?_, fun c hc => ?_⟩
    · have ih := ih.1
      rw [List.length_append, List.length_append, Nat.add_mul]
      rw [List.length_cons] at ih
      omega
    · rcases List.mem_append.mp hc with e | e
      · exact h1.2 c e
      · rcases List.mem_append.mp e with e | e
        · exact hS c e
        · exact ih.2 c e
theorem tx_join (hs : Tx k s) (h : ∀ z ∈ l, Tx n z) : Tx (l.length * (n + k)) (Txt.join s l) := by
  have := tx_joinL (n := n) (k := k) (S := TL.tl s) hs.ok (by rw [← TL.len_tl]; exact hs.len) (l.map TL.tl) (by
    intro p hp
    obtain ⟨z, hz, rfl⟩ := List.mem_map.mp hp
    exact ⟨by rw [← TL.len_tl]; exact (h z hz).len, (h z hz).ok⟩)
  rw [TL.join_eq]
  rw [List.length_map] at this
  exact ⟨by rw [TL.len_tl, TL.tl_join]; exact this.1, by rw [TL.tl_join]; exact this.2⟩
theorem tx_one {c : Nat} (h : c < 0x110000) : Tx 1 ⟨#[c]⟩ := ⟨Nat.le_refl _, fun d hd => by
  have hd : d ∈ [c] := hd
  rw [List.mem_singleton.mp hd]; exact h⟩
theorem sz (h : Tx n z) (g : Tx m y) (e : n + m ≤ 1000000) : z.length + y.length ≤ sizeLine := by
  have := h.len; have := g.len; rw [sizeLine_eq]; omega
theorem sz1 (h : Tx n z) (e : n ≤ 1000000) : z.length ≤ sizeLine := by
  have := h.len; rw [sizeLine_eq]; omega
theorem sum_len (h : ∀ z ∈ l, Tx n z) : (l.map (·.length)).sum ≤ l.length * n := by
  induction l with
  | nil => simp
  | cons z l ih =>
    have ih := ih fun x hx => h x (List.mem_cons_of_mem _ hx)
    have := (h z List.mem_cons_self).len
    rw [List.map_cons, List.sum_cons, List.length_cons, Nat.add_mul]
    omega
theorem join_sz (hs : Tx k s) (h : ∀ z ∈ l, Tx n z) (e : l.length * (n + k) ≤ 1000000) : (l.map (·.length)).sum + l.length * s.length ≤ 16777216 := by
  have := sum_len h
  have h2 := Nat.mul_le_mul_left l.length hs.len
  rw [Nat.mul_add] at e
  omega
theorem sgn_tx {z : Str} {n : Nat} (hl : z.length = n) (h0 : 0 < n) (hk : z.cps.toList.all (· < 0x110000) = true) {i : Int} : ∃ c, atI z.cps.toList (i % (z.length : Nat)) = some c ∧ Tx 1 ⟨#[c]⟩ := by
  rw [hl]
  have hl2 : z.cps.toList.length = n := by rw [Array.length_toList]; exact hl
  have h1 : 0 ≤ i % (n : Int) := Int.emod_nonneg _ (by omega)
  have h2 : i % (n : Int) < n := Int.emod_lt_of_pos _ (by omega)
  obtain ⟨j, hj⟩ : ∃ j : Nat, i % (n : Int) = (j : Int) := ⟨(i % (n : Int)).toNat, by omega⟩
  rw [hj]
  have hj2 : j < z.cps.toList.length := by omega
  refine ⟨z.cps.toList[j], atI_nat (List.getElem?_eq_getElem hj2), tx_one ?_⟩
  exact of_decide_eq_true (List.all_eq_true.mp hk _ (List.getElem_mem hj2))
/-- a list of n texts of at most m signs -/
structure Strs (H : Hp) (D : Addr) (n m : Nat) : Prop where
  ex : ∃ ws : List Str, H D = some (.lst (ws.map V.str)) ∧ ws.length = n ∧ ∀ z ∈ ws, Tx m z
theorem Strs.nil {H : Hp} {D : Addr} {m : Nat} : Strs (upd H D (.lst [])) D 0 m := ⟨[], upd_same, rfl, fun z h => absurd h List.not_mem_nil⟩
theorem Strs.push {H : Hp} {D : Addr} {n m : Nat} {ws : List Str} {z : Str} (hl : ws.length + 1 = n) (h : ∀ z ∈ ws, Tx m z) (g : Tx m z) : Strs (upd H D (.lst (ws.map V.str ++ [V.str z]))) D n m :=
  ⟨ws ++ [z], by rw [upd_same, List.map_append]; rfl, by rw [List.length_append]; exact hl, fun y hy => (List.mem_append.mp hy).elim (h y) fun e => by rw [List.mem_singleton.mp e]; exact g⟩
end TX
namespace L2
open PySem PySem.Spec PyProof.Rows
def rJoinK (K : PySem.W.Frag) : V → List V → Hp → VK → Prop := fun x xs H Q => ∃ a p, ∃ ys : List Str, x = .str a ∧ xs = [.ref p] ∧ (SqL K H p (ys.map V.str) ∨ SqT K H p (ys.map V.str)) ∧
      (ys.map (·.length)).sum + ys.length * a.length ≤ 16777216 ∧ Q (.str (Txt.join a ys)) H
theorem pe_joinK (K : PySem.W.Frag) {X : Cx} {o e : Expr} {to te : TE} {apos pos : Pos} (ho : PE X o to) (he : PE X e te) (hs : starEach [e] X.env = [(false, eval e X.env)] := by rfl) (hbase : attributeBase o "join" X.env (eval o X.env) = eval o X.env := by rfl) (hline : (apos.endLine == pos.line) = true := by rfl) (hK : X.K = K := by rfl) :
    PE X (.Call (.Attribute o "join" apos) [e] [] pos) (tM1 (rJoinK K) to te) := by
  subst hK
  exact pe_join ho he hs hbase hline
end L2
/-! x, *ys = a list -/
namespace L2
open PySem PySem.Spec PyProof.Rows PySem.W
/-- x, *ys = a list of one item or more -/
def gStar (K : PySem.W.Frag) (t : TGs) : TG := fun v σ H Q => ∃ a x xs, v = .ref a ∧ SqL K H a (x :: xs) ∧ xs.length ≤ 16000 ∧ ∀ D, H D = none → t [x, .ref D] σ (upd H D (.lst xs)) Q
theorem pg_star {X : Cx} {pos sp : Pos} {e1 e2 : Expr} {k : Nat} {t : TGs} (hc : X.calm = true) (h : PGs X [e1, e2] t)
    (he : assignEach [e1, .Starred e2 sp] X.env = [(false, assign e1 X.env), (true, assign e2 X.env)] := by rfl) (he2 : assignEach [e1, e2] X.env = [(false, assign e1 X.env), (false, assign e2 X.env)] := by rfl) : PG X (.Tuple [e1, .Starred e2 sp] k pos) (gStar X.K t) := by
  refine ⟨fun pins s σ H v u Q I r hw => ?_⟩
  obtain ⟨a, x, xs, e1', hq, hl, hw⟩ := hw
  subst e1'
  cases r
  obtain ⟨its, rv, pl, hz⟩ := I.list hq
  cases rv with
  | cons r1 r2 =>
  rename_i y ys
  have hlen : ys.length = xs.length := r2.length.symm
  rw [PyProof.Rows.assign_Tuple]
  refine wpAny_bind (wpAny_standAt ?_)
  unfold unpack
  rw [he]
  refine wpAny_bind (wpAny_holding ?_)
  show wpAny _ _ (unpackItems (.ref a) 2 (some 1)) _ _ _
  have hL : s.heap.IsList a (y :: ys).toArray := pl.isList
  have hlt : a ≠ s.heap.objs.size := by obtain ⟨o, ho, _⟩ := hL; exact Nat.ne_of_lt (Heap.lt_size ho)
  unfold unpackItems
  refine wpAny_bind ?_
  unfold notIterableAtAll
  refine wpAny_bind (wpAny_specialOf hL.typeIs slot_list_iter.lookup ?_)
  refine wpAny_pure ?_
  simp only [Bool.false_eq_true, if_false]
  refine wpAny_bind (wpAny_holding (wpAny_pyIter_list hL ?_))
  refine wpAny_bind (wpAny_holding (kun_draw hlt 1 0 _ _ ⟨_, Heap.get?_push_size _ rfl, rfl, rfl⟩ (hL.push _) (by simp) fun h₁ hit₁ hs₁ => ?_))
  have hl₁ : h₁.IsList a (y :: ys).toArray := (hL.push _).extBut hs₁.extBut hlt
  rw [Nat.zero_add] at hit₁
  obtain ⟨oi, hoi, _⟩ := id hit₁
  obtain ⟨ol, hol, _⟩ := id hl₁
  show wpAny _ _ (if ([y] : List Value).length < 1 then _ else _) _ _ _
  rw [if_neg (by simp)]
  refine wpAny_bind (wpAny_holding (kun_collect (s := { s with heap := h₁ }) (T := "list_iterator") (.inr (.inr (.inl rfl))) (Walks.list (A := X.A.in1) (I.ok.hd hc) s.heap.objs.size a hlt (y :: ys).toArray) (fun j u st => st.1.typeIs) (k := 1) (by simp) ⟨hit₁, hl₁⟩ (Heap.lt_size hoi) (Heap.lt_size hol) (fun h₂ tk hk => ?_) (by simp; rw [sizeLine_eq]; omega)))
  show wpAny _ _ (if ys.length < 0 then _ else _) _ _ _
  rw [if_neg (Nat.not_lt_zero _)]
  show wpAny _ _ (newList (ys.take (ys.length - 0)) >>= fun d => pure ([y] ++ [d] ++ ys.drop (ys.length - 0))) _ _ _
  rw [Nat.sub_zero, List.take_length, List.drop_length]
  have kp : ∀ b o, s.heap.get? b = some o → h₂.get? b = some o := fun b o e => hk b o (Nat.ne_of_lt (Heap.lt_size e)) (hs₁.extBut b o (Nat.ne_of_lt (Heap.lt_size e)) (Heap.get?_push_of_some _ e))
  have I2 : Inv X pins σ H { s with heap := h₂, toks := tk } := I.kept (t' := tk) kp
  refine wpAny_bind (wpAny_newList (hsz := by rw [hlen, sizeLine_eq]; omega) ?_)
  refine wpAny_pure ?_
  have hf : H h₂.objs.size = none := I2.hok.fresh (Nat.le_refl _)
  have I3 : Inv X pins σ (upd H h₂.objs.size (.lst xs)) { s with heap := h₂.push { cls := .type "list", data := .seq ys.toArray 0 }, toks := tk } := I2.laid (t' := tk) (fun b u e => Heap.get?_push_of_some _ e) (Nat.le_refl _) ⟨by rw [sizeLine_eq]; omega, ys, 0, r2, Heap.get?_push_size _ rfl⟩
  have q := h.run pins _ σ _ [x, .ref h₂.objs.size] [y, .ref h₂.objs.size] Q I3 (.cons r1 (.cons rfl .nil)) (hw _ hf)
  rw [he2] at q
  exact q
end L2
/-! zip of a text and a list -/
namespace L2
open PySem PySem.Spec PyProof.Rows
/-- the signs of z beside the items of the list at b, in new pairs -/
def ItSL (K : PySem.W.Frag) (z : Str) (b : Addr) : It :=
  ⟨fun i H => ∃ (ys : List V) (c : Nat) (y : V), SqL K H b ys ∧ z.cps[i]? = some c ∧ ys[i]? = some y,
    fun i H v H' => ∃ (T : Addr) (c : Nat) (y : V), v = .ref T ∧ H T = none ∧ H' = upd H T (.tup [.str ⟨#[c]⟩, y]) ∧ z.cps[i]? = some c ∧ ∀ ys, SqL K H b ys → ys[i]? = some y,
    fun i H => ∃ ys : List V, SqL K H b ys ∧ i ≤ z.cps.size ∧ i ≤ ys.length ∧ (i = z.cps.size ∨ i = ys.length)⟩
theorem turn_SL {P : Program} {w : World} {K : PySem.W.Frag} {elts : List Expr} {kk : Nat} {tpos : Pos} {z : Str} {zt : Tok} {b q TI TO i1 i2 : Addr} (hne : b ≠ i2) (S : ZipSep2 q TI TO i1 i2 [i1] [i2, b]) :
    Turn P w K (.Tuple elts kk tpos) (ItSL K z b) [q, TI, TO, i1, i2] q (fun i h => IsZip h q TI TO .none ∧ IsTupOf2 h TI (.ref i1) (.ref i2) ∧ (∃ x y, IsTupOf2 h TO x y) ∧ h.IsStrIter i1 (strIterType z) z zt i ∧ h.IsListIter i2 b i) where
  mem := by simp
  obj := fun i h st c hc => by
    obtain ⟨e1, e2, ⟨x, y, e3⟩, ⟨o1, e4, _, d1⟩, ⟨o2, e5, _, d2⟩⟩ := st
    simp only [List.mem_cons, List.not_mem_nil, or_false] at hc
    rcases hc with r | r | r | r | r <;> rw [r]
    · exact ⟨_, e1, fun v z => nomatch z⟩
    · exact ⟨_, e2, fun v z => nomatch z⟩
    · exact ⟨_, e3, fun v z => nomatch z⟩
    · exact ⟨o1, e4, fun v z => by rw [d1] at z; cases z⟩
    · exact ⟨o2, e5, fun v z => by rw [d2] at z; cases z⟩
  keep := fun i h h' st k => by
    obtain ⟨e1, e2, ⟨x, y, e3⟩, e4, e5⟩ := st
    have k4 : h'.IsStrIter i1 (strIterType z) z zt i := by
      obtain ⟨o1, e4, r⟩ := e4
      exact ⟨o1, k i1 (by simp) _ e4, r⟩
    exact ⟨k q (by simp) _ e1, k TI (by simp) _ e2, ⟨x, y, k TO (by simp) _ e3⟩, k4, e5.at fun o e => k i2 (by simp) o e⟩
  item := by
    intro X hP hw hK hc i pins s σ H E I hf st hg
    subst hP hw hK
    obtain ⟨hz, hTI, ⟨x0, y0, hTO⟩, h1, h2⟩ := st
    obtain ⟨ys, c, y, hy, hcz, hyi⟩ := hg
    obtain ⟨its, rv, p2, _⟩ := I.list hy
    obtain ⟨u2, hu2, ru2⟩ := rv.get hyi
    have hql : q < s.heap.objs.size := Heap.lt_size hz
    have hh := I.ok.hd hc
    have hi1 : i < z.cps.size := (Array.getElem?_eq_some_iff.mp hcz).1
    have hi2 : i < its.toArray.size := by
      have := (List.getElem?_eq_some_iff.mp hu2).1
      simpa using this
    have D1 := Draws.text (prog := X.prog) (w := X.w) (A := X.A.in1) hh i1 z zt
    have D2 := Draws.list (prog := X.prog) (w := X.w) (A := X.A.in1) hh i2 b hne its.toArray
    refine wpAny_pyNext_zipD2_item S D1 D2 hz hTI hTO h1 ⟨h2, p2.isList⟩ hi1 hi2 fun x1 x2 h' tk y1 y2 b1 b2 d1 d2 b5 b6 hk => ?_
    obtain ⟨c', t', hc', rfl⟩ := y1
    rw [hcz] at hc'
    cases hc'
    have y2 : its[i]? = some x2 := by simpa using y2
    rw [hu2] at y2
    cases y2
    refine ⟨_, rfl, wpAny_letOwnedTupleGo_zip (s := { s with heap := h', toks := tk }) b1 fun h'' z'' sb => ?_⟩
    have hT2 : h''.get? s.heap.objs.size = some { cls := .type "tuple", data := .seq #[.str ⟨#[c]⟩ t', u2] } := (sb.2 _ (Nat.ne_of_gt hql)).trans b5
    have new : ObjOk X.prog X.w (upd H s.heap.objs.size (.tup [.str ⟨#[c]⟩, y])) h'' s.heap.objs.size (.tup [.str ⟨#[c]⟩, y]) :=
      ⟨by show 2 ≤ sizeLine; decide, [.str ⟨#[c]⟩ t', u2], .cons ⟨t', rfl⟩ (.cons ru2 .nil), ⟨_, hT2, rfl, _, rfl⟩⟩
    have I1 : Inv X pins σ (upd H s.heap.objs.size (.tup [.str ⟨#[c]⟩, y])) { s with heap := h'', toks := tk } :=
      I.turnedNew (t' := tk) (ch := [q, TI, TO, i1, i2]) (fun d o hb e => by
        simp only [List.mem_cons, List.not_mem_nil, or_false, not_or] at hb
        exact (sb.2 d hb.1).trans (hk d o hb.1 hb.2.2.1 hb.2.2.2.1 hb.2.2.2.2 e)) hf (Nat.le_refl _) new
    refine ⟨.ref s.heap.objs.size, _, I1, rfl, ⟨_, c, y, rfl, I.hok.fresh (Nat.le_refl _), rfl, hcz, fun l hl => by rw [I.list_inj hl hy]; exact hyi⟩, ⟨z'', ?_, ⟨.str ⟨#[c]⟩ t', u2, ?_⟩, ?_, ?_⟩, fun d hd => ?_⟩
    · exact (sb.2 _ S.TIz).trans (hk _ _ S.TIz S.TITO S.TIi1 S.TIi2 hTI)
    · exact (sb.2 _ S.TOz).trans b2
    · obtain ⟨o1, e4, r⟩ := d1
      exact ⟨o1, (sb.2 _ S.zi1.symm).trans e4, r⟩
    · exact d2.1.at fun o e => (sb.2 _ S.zi2.symm).trans e
    · have hlt : d < s.heap.objs.size := by
        simp only [List.mem_cons, List.not_mem_nil, or_false] at hd
        rcases hd with r | r | r | r | r <;> rw [r]
        · exact hql
        · exact Heap.lt_size hTI
        · exact Heap.lt_size hTO
        · obtain ⟨_, e, _⟩ := h1; exact Heap.lt_size e
        · obtain ⟨_, e, _⟩ := h2; exact Heap.lt_size e
      rw [upd_ne (Nat.ne_of_lt hlt)]
      exact (hf d hd).1
  done := by
    intro X hP hw hK hc i pins s σ H E I hf st hg
    subst hP hw hK
    obtain ⟨hz, hTI, ⟨x0, y0, hTO⟩, h1, h2⟩ := st
    obtain ⟨ys, hy, l1, l2, l3⟩ := hg
    obtain ⟨its, rv, p2, _⟩ := I.list hy
    have hl := rv.length
    have hh := I.ok.hd hc
    have D1 := Draws.text (prog := X.prog) (w := X.w) (A := X.A.in1) hh i1 z zt
    have D2 := Draws.list (prog := X.prog) (w := X.w) (A := X.A.in1) hh i2 b hne its.toArray
    refine wpAny_pyNext_zipD2_end S D1 D2 hz hTI hTO h1 ⟨h2, p2.isList⟩ l1 (by simp; omega) (l3.imp id fun e => by simp; omega) fun h' tk hk => ⟨rfl, ?_⟩
    exact I.turnedL (t' := tk) (ch := [q, TI, TO, i1, i2]) (fun d o hb e => by
      simp only [List.mem_cons, List.not_mem_nil, or_false, not_or] at hb
      exact hk d o hb.1 hb.2.2.1 hb.2.2.2.1 hb.2.2.2.2 e) hf
  self := fun A i s Q E st h => wpAny_pyIter_zip st.1 h
def iZipSL (K : PySem.W.Frag) (ta : TA) : TI := fun σ H R => ta σ H fun vs H1 => ∃ z b ys, vs = [.str z, .ref b] ∧ SqL K H1 b ys ∧ R (ItSL K z b) H1
theorem pi_zipSL {X : Cx} {e e2 : Expr} {ta : TA} {p pos tpos : Pos} {elts : List Expr} {kk : Nat} (hg : Gl X "zip") (hm : X.mg "zip" = none) (ha : PA X [e, e2] ta)
    (hs : starEach [e, e2] X.env = (false, eval e X.env) :: starEach [e2] X.env := by rfl) (hpl : (backTo pos (starEach [e2] X.env)).any (·.1) = false := by rfl) :
    PI X (.Tuple elts kk tpos) (.Call (.Name "zip" p) [e, e2] [] pos) (iZipSL X.K ta) := by
  refine ⟨fun pins s σ H R I h => ?_⟩
  refine Call_ (ld_blt I hg hm boot_zip (callWith_type1 (thn (ha.run pos pins s σ H _ I h) fun us s1 ⟨vs, H1, I1, r1, q1⟩ => ?_) hs hpl))
  obtain ⟨z, b, ys, ex, qb, k⟩ := q1
  subst ex
  cases r1 with
  | cons ra rr =>
    cases rr with
    | cons rb rr =>
      cases rr
      obtain ⟨zt, rfl⟩ := ra
      cases rb
      obtain ⟨its, rv, p2, _⟩ := I1.list qb
      have hb : b < s1.heap.objs.size := p2.lt
      refine zip_begins2 (begins_text z zt) (begins_list b its.toArray) trivial p2.isList fun h' Z P1 P2 t1 t2 z5 kp => wpAny_pyIter_zip (s := { s1 with heap := h' }) Z ?_
      have I2 : Inv X pins σ H1 { s1 with heap := h' } := I1.kept (t' := s1.toks) kp
      have S := zip_sep2 (N := s1.heap.objs.size) (fp1 := []) (fp2 := [b]) (by simp) (by simpa using hb)
      refine ⟨s1.heap.objs.size + 4, [s1.heap.objs.size + 4, s1.heap.objs.size + 2, s1.heap.objs.size + 3, s1.heap.objs.size, s1.heap.objs.size + 1], _, _, H1, rfl, I2, turn_SL (zt := zt) (Nat.ne_of_lt (Nat.lt_succ_of_lt hb)) S, ⟨Z, P1, ⟨_, _, P2⟩, ⟨_, t1, rfl, rfl⟩, ⟨_, t2, rfl, rfl⟩⟩, fun c hcm => ?_, k⟩
      have hle : s1.heap.objs.size ≤ c := by
        simp only [List.mem_cons, List.not_mem_nil, or_false] at hcm
        rcases hcm with r | r | r | r | r <;> rw [r] <;> first | exact Nat.le_refl _ | exact Nat.le_add_right _ _
      exact I1.fpOk hle (I1.hok.fresh hle)
theorem pi_zipSLK (K : PySem.W.Frag) {X : Cx} {e e2 : Expr} {ta : TA} {p pos tpos : Pos} {elts : List Expr} {kk : Nat} (hg : Gl X "zip") (hm : X.mg "zip" = none) (ha : PA X [e, e2] ta)
    (hs : starEach [e, e2] X.env = (false, eval e X.env) :: starEach [e2] X.env := by rfl) (hpl : (backTo pos (starEach [e2] X.env)).any (·.1) = false := by rfl) (hK : X.K = K := by rfl) :
    PI X (.Tuple elts kk tpos) (.Call (.Name "zip" p) [e, e2] [] pos) (iZipSL K ta) := by
  subst hK
  exact pi_zipSL hg hm ha hs hpl
theorem walk_SL {K : PySem.W.Frag} {z : Str} {b : Addr} {ys : List V} (el : z.cps.size = ys.length) : Walk (ItSL K z b) ys.length (fun H => SqL K H b ys)
    (fun i H v H' => ∃ (T : Addr) (c : Nat) (y : V), v = .ref T ∧ H T = none ∧ H' = upd H T (.tup [.str ⟨#[c]⟩, y]) ∧ z.cps[i]? = some c ∧ ys[i]? = some y) := by
  refine ⟨fun i _ hi q => ?_, fun _ q => ⟨ys, q, by omega, Nat.le_refl _, .inr rfl⟩, fun i H v H' _ q y => ?_⟩
  · have h2 : i < z.cps.size := by omega
    exact ⟨ys, z.cps[i], ys[i], q, by simp [h2], by simp [hi]⟩
  · obtain ⟨T, c, u, h1, h2, h3, h4, h5⟩ := y
    exact ⟨T, c, u, h1, h2, h3, h4, h5 ys q⟩
end L2
/-! a dict of texts that the module's top has written -/
namespace L2
open PySem PySem.Spec PyProof.Rows
def kdv (ps : List (Str × Str)) (z : Str) : Option Str := (ps.find? fun p => decide (p.1 = z)).map (·.2)
def EntOf : List DictEntry → List (Str × Str) → Prop
  | [], [] => True
  | e :: es, p :: ps => ((∃ t, e.key = .str p.1 t) ∧ ∃ t, e.val = .str p.2 t) ∧ EntOf es ps
  | _, _ => False
structure KD (K : PySem.W.Frag) (w : World) (d : Addr) (ps : List (Str × Str)) : Prop where
  ex : ∃ (es : Array DictEntry) (n : Nat), KDict K w d es n ∧ EntOf es.toList ps
theorem ent_find (z : Str) : ∀ {es : List DictEntry} {ps : List (Str × Str)}, EntOf es ps → es.any (·.refKey) = false ∧ match ps.find? (fun p => decide (p.1 = z)) with
    | some p => ∃ e t, es.find? (·.key.isStr z) = some e ∧ e.val = .str p.2 t
    | none => es.find? (·.key.isStr z) = none
  | [], [], _ => ⟨rfl, rfl⟩
  | [], _ :: _, h => h.elim
  | _ :: _, [], h => h.elim
  | e :: es, p :: ps, h => by
    obtain ⟨⟨⟨t, hk⟩, u, hv⟩, h2⟩ := h
    obtain ⟨ih1, ih2⟩ := ent_find z h2
    refine ⟨?_, ?_⟩
    · rw [List.any_cons, ih1, Bool.or_false]
      unfold DictEntry.refKey
      rw [hk]
    · have hs : e.key.isStr z = decide (p.1 = z) := by
        rw [hk]
        show (p.1 == z) = _
        by_cases c : p.1 = z
        · subst c; simp
        · simp [c]
      rw [List.find?_cons, List.find?_cons, hs]
      by_cases c : p.1 = z
      · rw [decide_eq_true c]
        exact ⟨e, u, rfl, hv⟩
      · rw [decide_eq_false c]
        exact ih2
theorem KD.ns {K : PySem.W.Frag} {w : World} {d : Addr} {ps : List (Str × Str)} (D : KD K w d ps) (z : Str) : match kdv ps z with
    | some v => ∃ t, PySem.W.nsIn K d z = some (some (.str v t))
    | none => PySem.W.nsIn K d z = some none := by
  obtain ⟨es, n, D, E⟩ := D.ex
  obtain ⟨h1, h2⟩ := ent_find z E
  unfold kdv PySem.W.nsIn
  rw [D.at_]
  cases e : ps.find? (fun p => decide (p.1 = z)) with
  | none =>
    rw [e] at h2
    simp only [Option.map_none, h2, h1]
    rfl
  | some p =>
    rw [e] at h2
    obtain ⟨x, t, h3, h4⟩ := h2
    simp only [Option.map_some, h3]
    exact ⟨t, by rw [h4]⟩
section
variable {X : Cx} {d : Addr} {ps : List (Str × Str)}
def rKIn (d : Addr) (ps : List (Str × Str)) : R2 := fun x y H Q => ∃ z : Str, x = .str z ∧ y = .ref d ∧ Q (.bl (kdv ps z).isSome) H
def rKNotIn (d : Addr) (ps : List (Str × Str)) : R2 := fun x y H Q => ∃ z : Str, x = .str z ∧ y = .ref d ∧ Q (.bl (!(kdv ps z).isSome)) H
def rKIx (d : Addr) (ps : List (Str × Str)) : R2 := fun x y H Q => ∃ z v : Str, x = .ref d ∧ y = .str z ∧ kdv ps z = some v ∧ Q (.str v) H
theorem op_in_kdS (D : KD X.K X.w d ps) : OpR X (compareOp .In) (rKIn d ps) := by
  intro pins s σ H x y v u Q I rx ry h
  obtain ⟨z, e1, e2, q⟩ := h
  obtain ⟨es, n, D0, _⟩ := D.ex
  have hn := D.ns z
  cases e : kdv ps z with
  | none => rw [e] at hn q; exact op_in_kd D0 pins s σ H x y v u Q I rx ry ⟨z, _, e1, e2, hn, q⟩
  | some r => rw [e] at hn q; obtain ⟨t, hn⟩ := hn; exact op_in_kd D0 pins s σ H x y v u Q I rx ry ⟨z, _, e1, e2, hn, q⟩
theorem op_notIn_kdS (D : KD X.K X.w d ps) : OpR X (compareOp .NotIn) (rKNotIn d ps) := by
  intro pins s σ H x y v u Q I rx ry h
  obtain ⟨z, e1, e2, q⟩ := h
  obtain ⟨es, n, D0, _⟩ := D.ex
  have hn := D.ns z
  cases e : kdv ps z with
  | none => rw [e] at hn q; exact op_notIn_kd D0 pins s σ H x y v u Q I rx ry ⟨z, _, e1, e2, hn, q⟩
  | some r => rw [e] at hn q; obtain ⟨t, hn⟩ := hn; exact op_notIn_kd D0 pins s σ H x y v u Q I rx ry ⟨z, _, e1, e2, hn, q⟩
theorem ix_kdS (D : KD X.K X.w d ps) : IxR X (rKIx d ps) := by
  intro value slice pins s σ H x y v u Q I rx ry h hs
  obtain ⟨z, r, rfl, rfl, e, q⟩ := h
  cases rx
  obtain ⟨t, rfl⟩ := ry
  have hn := D.ns z
  rw [e] at hn
  obtain ⟨tk, hn⟩ := hn
  obtain ⟨es, n, D0, _⟩ := D.ex
  have hm := PySem.W.mapOf_K (prog := X.prog) I.kIn D0.at_ D0.lit
  exact tail_any hm.typeIs PySem.F.slot_dict_getitem.lookup (wpAny_getItem_of (PySem.strKind_is X.prog X.w z t) hm (PySem.W.find_K D0.at_ hn) ⟨.str r, H, I.tok _, ⟨tk, rfl⟩, q⟩) hs
end
end L2
/-! events as lists of words and numbers, their lines, a reader of lines -/
namespace EV
open PySem PySem.Spec PyProof.Rows L2 SX GN GR NumText TL
def PF : List (Str × Str) := [(Str.ofString "come", Str.ofString "WW"), (Str.ofString "drop", Str.ofString "W"), (Str.ofString "early", Str.ofString "W"), (Str.ofString "tick", Str.ofString ""), (Str.ofString "policy", Str.ofString "WWWW"), (Str.ofString "fail", Str.ofString "W"), (Str.ofString "repair", Str.ofString "W"), (Str.ofString "reserve", Str.ofString "WWN"), (Str.ofString "close", Str.ofString "WNN"), (Str.ofString "cancel", Str.ofString "WN"), (Str.ofString "shut", Str.ofString "W"), (Str.ofString "reopen", Str.ofString "W"), (Str.ofString "drain", Str.ofString "W")]
def LF : List (Str × Str) := [(Str.ofString "come", Str.ofString "nn"), (Str.ofString "drop", Str.ofString "n"), (Str.ofString "early", Str.ofString "n"), (Str.ofString "tick", Str.ofString ""), (Str.ofString "policy", Str.ofString "nnnn"), (Str.ofString "reserve", Str.ofString "nni"), (Str.ofString "close", Str.ofString "nii"), (Str.ofString "cancel", Str.ofString "ni"), (Str.ofString "shut", Str.ofString "n"), (Str.ofString "reopen", Str.ofString "n"), (Str.ofString "drain", Str.ofString "n"), (Str.ofString "fail", Str.ofString "n"), (Str.ofString "repair", Str.ofString "n")]
def fk (z : Str) : Option Str := kdv PF z
def cv (k : Nat) : Nat := if k = 78 then 105 else 110
def cvS (z : Str) : Str := ⟨(z.cps.toList.map cv).toArray⟩
theorem fk_mem {z k : Str} (h : fk z = some k) : (z, k) ∈ PF := by
  unfold fk kdv at h
  cases e : PF.find? (fun p => decide (p.1 = z)) with
  | none => rw [e] at h; cases h
  | some p =>
    rw [e] at h
    cases h
    have h1 := List.mem_of_find?_eq_some e
    have h2 : p.1 = z := by have := List.find?_some (p := fun p : Str × Str => decide (p.1 = z)) e; exact of_decide_eq_true this
    rw [← h2]
    exact h1
theorem fk_none {z : Str} (h : ¬ z ∈ PF.map (·.1)) : fk z = none := by
  unfold fk kdv
  rw [List.find?_eq_none.mpr (fun p hp => by
    intro c
    exact h (of_decide_eq_true c ▸ List.mem_map_of_mem hp))]
  rfl
theorem pf_facts : (PF.all fun p => decide (1 ≤ p.1.length) && decide (p.1.length ≤ 10) && decide (p.2.length ≤ 4) && !(p.1.cps.toList.contains 10) && !(p.1.cps.toList.contains 32) && p.2.cps.toList.all (fun c => c == 87 || c == 78)) = true := by decide +kernel
structure FkOk (z k : Str) : Prop where
  len : 1 ≤ z.length ∧ z.length ≤ 10 ∧ k.length ≤ 4
  nl : 10 ∉ z.cps.toList
  sp : 32 ∉ z.cps.toList
  ks : ∀ c ∈ k.cps.toList, c = 87 ∨ c = 78
theorem fk_ok {z k : Str} (h : fk z = some k) : FkOk z k := by
  have := List.all_eq_true.mp pf_facts _ (fk_mem h)
  simp only [Bool.and_eq_true, decide_eq_true_eq, Bool.not_eq_true'] at this
  obtain ⟨⟨⟨⟨⟨a, b⟩, c⟩, d⟩, e⟩, f⟩ := this
  refine ⟨⟨a, b, c⟩, fun m => ?_, fun m => ?_, fun x hx => ?_⟩
  · rw [List.contains_iff_mem.mpr m] at d; cases d
  · rw [List.contains_iff_mem.mpr m] at e; cases e
  · have := List.all_eq_true.mp f x hx
    simpa using this
theorem lf_in : ∀ z ∈ PF.map (·.1), LF.filter (fun p => decide (p.1 = z)) = ((fk z).map fun k => (z, cvS k)).toList := by decide +kernel
theorem lf_keys : ∀ p ∈ LF, p.1 ∈ PF.map (·.1) := by decide +kernel
theorem lf_filter (z : Str) : LF.filter (fun p => decide (p.1 = z)) = ((fk z).map fun k => (z, cvS k)).toList := by
  by_cases h : z ∈ PF.map (·.1)
  · exact lf_in z h
  · rw [fk_none h]
    show _ = []
    rw [List.filter_eq_nil_iff]
    intro p hp c
    exact h (of_decide_eq_true c ▸ lf_keys p hp)
theorem lf_fk : ∀ p ∈ LF, ∃ k, fk p.1 = some k ∧ cvS k = p.2 := by
  have h : ∀ p ∈ LF, (fk p.1).isSome = true ∧ (fk p.1).map cvS = some p.2 := by decide +kernel
  intro p hp
  obtain ⟨h1, h2⟩ := h p hp
  cases e : fk p.1 with
  | none => rw [e] at h1; cases h1
  | some k => rw [e] at h2; exact ⟨k, rfl, by injection h2⟩
/-- a number of at most six digits without a leading nought -/
def nm (t : List Nat) : Bool := lead t && decide (t.length ≤ 6)
def good (k : Nat) (t : List Nat) : Option N := if t = [] ∨ 10 ∈ t then none else if k = 78 then (if nm t = true then some (.num ((digitsVal t : Nat) : Int)) else none) else some (.wrd t)
def rdI : List Nat → List (List Nat) → Option (List N)
  | [], [] => some []
  | k :: ks, t :: ts => match good k t with
    | some a => (rdI ks ts).map (a :: ·)
    | none => none
  | _, _ => none
theorem rdI_len : ∀ {ks : List Nat} {ts : List (List Nat)} {ns : List N}, rdI ks ts = some ns → ks.length = ts.length ∧ ns.length = ks.length
  | [], [], _, h => by cases h; exact ⟨rfl, rfl⟩
  | [], _ :: _, _, h => by cases h
  | _ :: _, [], _, h => by cases h
  | k :: ks, t :: ts, ns, h => by
    unfold rdI at h
    cases e : good k t with
    | none => rw [e] at h; cases h
    | some a =>
      rw [e] at h
      cases e2 : rdI ks ts with
      | none => rw [e2] at h; cases h
      | some b =>
        rw [e2] at h
        cases h
        have := rdI_len e2
        exact ⟨by simp [this.1], by simp [this.2]⟩
theorem rdI_at : ∀ {ks : List Nat} {ts : List (List Nat)} {ns : List N} {i k : Nat} {t : List Nat}, rdI ks ts = some ns → ks[i]? = some k → ts[i]? = some t → ∃ n, good k t = some n ∧ ns[i]? = some n
  | [], _, _, i, _, _, _, h1, _ => by simp at h1
  | _ :: _, [], _, i, _, _, _, _, h2 => by simp at h2
  | k :: ks, t :: ts, ns, i, k', t', h, h1, h2 => by
    unfold rdI at h
    cases e : good k t with
    | none => rw [e] at h; cases h
    | some a =>
      rw [e] at h
      cases e2 : rdI ks ts with
      | none => rw [e2] at h; cases h
      | some b =>
        rw [e2] at h
        cases h
        cases i with
        | zero =>
          simp only [List.getElem?_cons_zero, Option.some.injEq] at h1 h2 ⊢
          subst h1 h2
          exact ⟨a, e, rfl⟩
        | succ i =>
          simp only [List.getElem?_cons_succ] at h1 h2 ⊢
          exact rdI_at e2 h1 h2
theorem rdI_mk : ∀ {ks : List Nat} {ts : List (List Nat)} {ns : List N}, ks.length = ts.length → ns.length = ks.length → (∀ (i k : Nat) (t : List Nat) (n : N), ks[i]? = some k → ts[i]? = some t → ns[i]? = some n → good k t = some n) → rdI ks ts = some ns
  | [], [], [], _, _, _ => rfl
  | [], [], _ :: _, _, h, _ => by simp at h
  | [], _ :: _, _, h, _, _ => by simp at h
  | _ :: _, [], _, h, _, _ => by simp at h
  | _ :: _, _ :: _, [], _, h, _ => by simp at h
  | k :: ks, t :: ts, n :: ns, h1, h2, h => by
    unfold rdI
    have h0 := h 0 k t n rfl rfl rfl
    rw [h0]
    have := rdI_mk (ks := ks) (ts := ts) (ns := ns) (by simpa using h1) (by simpa using h2) fun i k' t' n' a b c => h (i + 1) k' t' n' (by simpa using a) (by simpa using b) (by simpa using c)
    simp only [this, Option.map_some]
/-- what the items so far are -/
def Sofar (ks : List Nat) (ts : List (List Nat)) (i : Nat) (ns : List N) : Prop := ns.length = i ∧ ∀ (j k : Nat) (t : List Nat) (n : N), j < i → ks[j]? = some k → ts[j]? = some t → ns[j]? = some n → good k t = some n
theorem Sofar.nil {ks : List Nat} {ts : List (List Nat)} : Sofar ks ts 0 [] := ⟨rfl, fun j _ _ _ h => absurd h (Nat.not_lt_zero _)⟩
theorem Sofar.snoc {ks : List Nat} {ts : List (List Nat)} {i k : Nat} {t : List Nat} {n : N} {ns : List N} (h : Sofar ks ts i ns) (hk : ks[i]? = some k) (ht : ts[i]? = some t) (g : good k t = some n) : Sofar ks ts (i + 1) (ns ++ [n]) := by
  obtain ⟨hl, h⟩ := h
  refine ⟨by simp [hl], fun j k' t' n' hj a b c => ?_⟩
  by_cases e : j < i
  · exact h j k' t' n' e a b (by rw [List.getElem?_append_left (by omega)] at c; exact c)
  · obtain rfl : j = i := by omega
    rw [hk] at a
    rw [ht] at b
    rw [List.getElem?_append_right (by omega), hl, Nat.sub_self] at c
    cases a; cases b; cases c
    exact g
theorem Sofar.all {ks : List Nat} {ts : List (List Nat)} {ns : List N} (h : Sofar ks ts ts.length ns) (hl : ks.length = ts.length) : rdI ks ts = some ns :=
  rdI_mk hl (by rw [h.1, hl]) fun i k t n a b c => h.2 i k t n ((List.getElem?_eq_some_iff.mp b).1) a b c
theorem rdI_bad {ks : List Nat} {ts : List (List Nat)} {i k : Nat} {t : List Nat} (hk : ks[i]? = some k) (ht : ts[i]? = some t) (g : good k t = none) : rdI ks ts = none := by
  cases e : rdI ks ts with
  | none => rfl
  | some ns => obtain ⟨n, a, _⟩ := rdI_at e hk ht; rw [g] at a; cases a
theorem rdI_off {ks : List Nat} {ts : List (List Nat)} (h : ks.length ≠ ts.length) : rdI ks ts = none := by
  cases e : rdI ks ts with
  | none => rfl
  | some ns => exact absurd (rdI_len e).1 h
def parts (t : List Nat) : List (List Nat) := TL.spl [32] 0 [] t
theorem blank : Str.ofString " " = S [32] := by decide +kernel
theorem newl : Str.ofString "\n" = S [10] := by decide +kernel
theorem parts_split (t : List Nat) : Txt.split (S t) (Str.ofString " ") = (parts t).map S := by
  rw [blank]
  exact SX.split_S (a := t) (b := [32]) (by simp) (by decide)
theorem parts_ne (t : List Nat) : parts t ≠ [] := by
  intro z
  have := PyProof.Rows.split_pos (S t) (Str.ofString " ")
  rw [parts_split, z] at this
  exact absurd this (by decide)
theorem parts_join (t : List Nat) : TL.joinL [32] (parts t) = t := by
  have j := StrLaws.join_split (S t) (Str.ofString " ")
  rw [parts_split] at j
  have k := congrArg TL.tl j
  rw [TL.tl_join, map_S_tl] at k
  have s1 : TL.tl (Str.ofString " ") = [32] := by rw [blank]
  rw [s1] at k
  exact k
theorem parts_of {ts : List (List Nat)} (hne : ts ≠ []) (h : ∀ p ∈ ts, 32 ∉ p) : parts (TL.joinL [32] ts) = ts := SX.spl_join (c := 32) (sep := []) hne h
theorem joinL_mem {c : Nat} (hc : c ≠ 32) : ∀ {ts : List (List Nat)}, c ∈ TL.joinL [32] ts → ∃ p ∈ ts, c ∈ p
  | [], h => by cases h
  | [p], h => ⟨p, List.mem_singleton.mpr rfl, h⟩
  | p :: q :: r, h => by
    have h : c ∈ p ++ ([32] ++ TL.joinL [32] (q :: r)) := h
    rcases List.mem_append.mp h with e | e
    · exact ⟨p, List.mem_cons_self, e⟩
    · rcases List.mem_append.mp e with e | e
      · exact absurd (List.mem_singleton.mp e) hc
      · obtain ⟨x, hx, hm⟩ := joinL_mem hc e
        exact ⟨x, List.mem_cons_of_mem _ hx, hm⟩
theorem joinL_snoc {x : List Nat} : ∀ {ts : List (List Nat)}, ts ≠ [] → TL.joinL [32] (ts ++ [x]) = TL.joinL [32] ts ++ 32 :: x
  | [], h => absurd rfl h
  | [p], _ => rfl
  | p :: q :: r, _ => by
    have ih := joinL_snoc (x := x) (ts := q :: r) (by simp)
    show p ++ ([32] ++ TL.joinL [32] (q :: r ++ [x])) = p ++ ([32] ++ TL.joinL [32] (q :: r)) ++ 32 :: x
    rw [ih]
    simp only [List.append_assoc]
theorem joinL_len {m : Nat} : ∀ {ts : List (List Nat)}, (∀ p ∈ ts, p.length ≤ m) → (TL.joinL [32] ts).length ≤ ts.length * (m + 1)
  | [], _ => by simp [TL.joinL]
  | [p], h => by have := h p List.mem_cons_self; show p.length ≤ 1 * (m + 1); omega
  | p :: q :: r, h => by
    have h1 := h p List.mem_cons_self
    have ih := joinL_len (ts := q :: r) fun x hx => h x (List.mem_cons_of_mem _ hx)
    show (p ++ ([32] ++ TL.joinL [32] (q :: r))).length ≤ (r.length + 1 + 1) * (m + 1)
    rw [List.length_append, List.length_append, Nat.add_mul]
    rw [List.length_cons] at ih
    simp only [List.length_cons, List.length_nil]
    omega
theorem parts_len (t : List Nat) : ∀ p ∈ parts t, p.length ≤ t.length := by
  have key : ∀ ts : List (List Nat), ∀ p ∈ ts, p.length ≤ (TL.joinL [32] ts).length := by
    intro ts
    induction ts with
    | nil => intro p hp; cases hp
    | cons x ts ih =>
      intro p hp
      cases ts with
      | nil => rw [List.mem_singleton.mp hp]; exact Nat.le_refl _
      | cons y ts =>
        show p.length ≤ (x ++ ([32] ++ TL.joinL [32] (y :: ts))).length
        rw [List.length_append, List.length_append]
        rcases List.mem_cons.mp hp with e | e
        · rw [e]; omega
        · have := ih p e; omega
  intro p hp
  have := key (parts t) p hp
  rw [parts_join] at this
  exact this
theorem parts_cnt (t : List Nat) : (parts t).length ≤ t.length + 1 := by
  have key : ∀ ts : List (List Nat), ts.length ≤ (TL.joinL [32] ts).length + 1 := by
    intro ts
    induction ts with
    | nil => exact Nat.zero_le _
    | cons x ts ih =>
      cases ts with
      | nil => show 1 ≤ x.length + 1; omega
      | cons y ts =>
        show ts.length + 1 + 1 ≤ (x ++ ([32] ++ TL.joinL [32] (y :: ts))).length + 1
        rw [List.length_append, List.length_append]
        rw [List.length_cons] at ih
        simp only [List.length_cons, List.length_nil]
        omega
  have := key (parts t)
  rw [parts_join] at this
  exact this
def rdE (t : List Nat) : Option (List N) := match parts t with
  | w :: ts => match fk (S w) with
    | some ks => (rdI (TL.tl ks) ts).map (N.wrd w :: ·)
    | none => none
  | [] => none
structure RE (t : List Nat) (r : Option (List N)) : Prop where
  e : rdE t = r
theorem rdE_cons {t w : List Nat} {ts : List (List Nat)} (h : parts t = w :: ts) : rdE t = match fk (S w) with
    | some ks => (rdI (TL.tl ks) ts).map (N.wrd w :: ·)
    | none => none := by
  unfold rdE
  rw [h]
theorem good_nl {k : Nat} {t : List Nat} (h : 10 ∈ t) : good k t = none := by unfold good; rw [if_pos (.inr h)]
theorem good_nil {k : Nat} : good k [] = none := by unfold good; rw [if_pos (.inl rfl)]
theorem rdI_some {ks : List Nat} {ts : List (List Nat)} {ns : List N} (h : rdI ks ts = some ns) {t : List Nat} (ht : t ∈ ts) : t ≠ [] ∧ 10 ∉ t := by
  obtain ⟨i, hi, rfl⟩ := List.getElem_of_mem ht
  have hl := (rdI_len h).1
  obtain ⟨n, g, _⟩ := rdI_at h (List.getElem?_eq_getElem (show i < ks.length by omega)) (List.getElem?_eq_getElem hi)
  unfold good at g
  split at g
  · cases g
  · rename_i c
    exact ⟨fun e => c (.inl e), fun e => c (.inr e)⟩
theorem nl_none {t : List Nat} (h : 10 ∈ t) : rdE t = none := by
  cases e : parts t with
  | nil => exact absurd e (parts_ne t)
  | cons w ts =>
    rw [rdE_cons e]
    cases f : fk (S w) with
    | none => rfl
    | some ks =>
      cases g : rdI (TL.tl ks) ts with
      | none => simp only [g, Option.map_none]
      | some ns =>
        exfalso
        rw [← parts_join t, e] at h
        obtain ⟨p, hp, hm⟩ := joinL_mem (by decide) h
        rcases List.mem_cons.mp hp with q | q
        · rw [q] at hm; exact (fk_ok f).nl hm
        · exact (rdI_some g q).2 hm
theorem emp_none {t : List Nat} (h : [] ∈ parts t) : rdE t = none := by
  cases e : parts t with
  | nil => exact absurd e (parts_ne t)
  | cons w ts =>
    rw [rdE_cons e]
    cases f : fk (S w) with
    | none => rfl
    | some ks =>
      cases g : rdI (TL.tl ks) ts with
      | none => simp only [g, Option.map_none]
      | some ns =>
        exfalso
        rw [e] at h
        rcases List.mem_cons.mp h with q | q
        · have := (fk_ok f).len.1
          rw [← q] at this
          exact absurd this (by decide)
        · exact (rdI_some g q).1 rfl
/-! ### events -/
def flv : N → V
  | .wrd w => .str (S w)
  | .num i => .int i
  | _ => .non
structure NmOk (t : List Nat) : Prop where
  ne : t ≠ []
  len : t.length ≤ 60
  ch : ∀ c ∈ t, 33 ≤ c ∧ c ≤ 126
def ItOk (k : Nat) (n : N) : Prop := (k = 78 ∧ ∃ m : Nat, m ≤ 999999 ∧ n = .num (m : Int)) ∨ (k ≠ 78 ∧ ∃ t, n = .wrd t ∧ NmOk t)
structure EvOk (ns : List N) : Prop where
  ex : ∃ w ks its, ns = .wrd w :: its ∧ fk (S w) = some ks ∧ its.length = (TL.tl ks).length ∧ ∀ (i k : Nat) (n : N), (TL.tl ks)[i]? = some k → its[i]? = some n → ItOk k n
theorem num_len6 {m : Nat} (h : m ≤ 999999) : (numL m).length ≤ 6 := numL_len (by decide) (by omega)
theorem txt_num (m : Nat) : (N.num (m : Int)).txt = numL m := numT_nat m
theorem good_it {k : Nat} {n : N} (h : ItOk k n) : good k n.txt = some n ∧ 32 ∉ n.txt ∧ n.txt.length ≤ 60 := by
  rcases h with ⟨rfl, m, hm, rfl⟩ | ⟨hk, t, rfl, ht⟩
  · rw [txt_num]
    have hd := numL_digits m
    have f : ∀ c, c ∈ numL m → 48 ≤ c ∧ c ≤ 57 := hd
    refine ⟨?_, fun c => ?_, Nat.le_trans (num_len6 hm) (by decide)⟩
    · unfold good
      rw [if_neg (by rintro (e | e); exact numL_ne m e; have := f _ e; omega), if_pos rfl, if_pos ?_, numL_val]
      unfold nm
      rw [lead_num, decide_eq_true (num_len6 hm)]
      rfl
    · have := f _ c; omega
  · show good k t = some (.wrd t) ∧ 32 ∉ t ∧ t.length ≤ 60
    refine ⟨?_, fun c => ?_, ht.len⟩
    · unfold good
      rw [if_neg (by rintro (e | e); exact ht.ne e; have := ht.ch _ e; omega), if_neg hk]
    · have := ht.ch _ c; omega
def wt (ns : List N) : List Nat := TL.joinL [32] (ns.map N.txt)
theorem EvOk.txts {ns : List N} (h : EvOk ns) : (∀ p ∈ ns.map N.txt, 32 ∉ p ∧ p.length ≤ 60) ∧ 1 ≤ ns.length ∧ ns.length ≤ 5 := by
  obtain ⟨w, ks, its, rfl, hf, hl, hi⟩ := h.ex
  have ok := fk_ok hf
  refine ⟨fun p hp => ?_, by simp, ?_⟩
  · rw [List.map_cons] at hp
    rcases List.mem_cons.mp hp with e | e
    · rw [e]
      have := ok.len
      exact ⟨ok.sp, by have := ok.len.2.1; rw [S_len] at this; show w.length ≤ 60; omega⟩
    · obtain ⟨n, hn, rfl⟩ := List.mem_map.mp e
      obtain ⟨i, hi2, rfl⟩ := List.getElem_of_mem hn
      have hk : i < (TL.tl ks).length := by omega
      exact (good_it (hi i _ _ (List.getElem?_eq_getElem hk) (List.getElem?_eq_getElem hi2))).2
  · have := ok.len.2.2
    rw [TL.len_tl] at this
    rw [List.length_cons]
    omega
theorem EvOk.parts {ns : List N} (h : EvOk ns) : EV.parts (wt ns) = ns.map N.txt := by
  refine parts_of (fun e => ?_) fun p hp => (h.txts.1 p hp).1
  have := h.txts.2.1
  rw [List.map_eq_nil_iff] at e
  rw [e] at this
  exact absurd this (by decide)
theorem EvOk.len {ns : List N} (h : EvOk ns) : (wt ns).length ≤ 305 := by
  have := joinL_len (m := 60) (ts := ns.map N.txt) fun p hp => (h.txts.1 p hp).2
  rw [List.length_map] at this
  have h5 := h.txts.2.2
  have := Nat.mul_le_mul_right 61 h5
  unfold wt
  omega
theorem EvOk.rd {ns : List N} (h : EvOk ns) : rdE (wt ns) = some ns := by
  have hp := h.parts
  obtain ⟨w, ks, its, rfl, hf, hl, hi⟩ := h.ex
  rw [rdE_cons (w := w) (ts := its.map N.txt) (by rw [hp]; rfl), hf]
  have : rdI (TL.tl ks) (its.map N.txt) = some its := rdI_mk (by rw [List.length_map, hl]) hl fun i k t n a b c => by
    rw [List.getElem?_map, c] at b
    cases b
    exact (good_it (hi i k n a c)).1
  simp only [this, Option.map_some]
end EV
namespace LW
open PySem PySem.Spec PyProof.Rows L2
def top (i : Nat) : Stmt := PySem.Challenge.pw_gangbooks_k64_event_lines.main.body.getD i (.Pass ⟨0, 0, 0, 0⟩)
abbrev s_GangError_init : Stmt := inClass (top 1) 0
abbrev s_is_digits : Stmt := top 7
abbrev s_is_number : Stmt := top 8
abbrev s_event_line : Stmt := top 12
abbrev s_read_event : Stmt := top 13
abbrev s_mixed : Stmt := top 15
abbrev s_drawing : Stmt := top 16
abbrev s_take : Stmt := top 17
abbrev s_same : Stmt := top 18
abbrev s_forms : Stmt := top 19
abbrev s_written : Stmt := top 20
abbrev s_l_is_number : Stmt := top 21
abbrev s_read : Stmt := top 22
abbrev s_sign : Stmt := top 23
abbrev s_name : Stmt := top 24
abbrev s_integer : Stmt := top 25
abbrev s_drawn_event : Stmt := top 26
abbrev s_other_words : Stmt := top 27
abbrev s_changed : Stmt := top 28
abbrev s_answer : Stmt := top 29
abbrev s_law : Stmt := top 30
theorem sc_GangError_init : FnScope ["self", "subject"] ["self", "subject"] (defScope s_GangError_init) := ⟨rfl, rfl, rfl, by decide +kernel, rfl, by decide +kernel, by decide +kernel⟩
theorem sc_is_digits : FnScope ["text", "char"] ["text"] (defScope s_is_digits) := ⟨rfl, rfl, rfl, by decide +kernel, rfl, by decide +kernel, by decide +kernel⟩
theorem sc_is_number : FnScope ["word", "most"] ["word", "most"] (defScope s_is_number) := ⟨rfl, rfl, rfl, by decide +kernel, rfl, by decide +kernel, by decide +kernel⟩
theorem sc_event_line : FnScope ["event", "item"] ["event"] (defScope s_event_line) := ⟨rfl, rfl, rfl, by decide +kernel, rfl, by decide +kernel, by decide +kernel⟩
theorem sc_read_event : FnScope ["line", "word", "texts", "items", "kind", "text"] ["line"] (defScope s_read_event) := ⟨rfl, rfl, rfl, by decide +kernel, rfl, by decide +kernel, by decide +kernel⟩
theorem sc_mixed : FnScope ["_law_number", "_law_k", "_law_first", "_law_second"] ["_law_number", "_law_k"] (defScope s_mixed) := ⟨rfl, rfl, rfl, by decide +kernel, rfl, by decide +kernel, by decide +kernel⟩
theorem sc_drawing : FnScope ["_law_script", "_law_pool", "_law_cell", "_law_seed", "_law_number", "_law_rest", "_law_k"] ["_law_script"] (defScope s_drawing) := ⟨rfl, rfl, rfl, by decide +kernel, rfl, by decide +kernel, by decide +kernel⟩
theorem sc_take : FnScope ["_law_draws", "_law_limit", "_law_at"] ["_law_draws", "_law_limit"] (defScope s_take) := ⟨rfl, rfl, rfl, by decide +kernel, rfl, by decide +kernel, by decide +kernel⟩
theorem sc_same : FnScope ["_law_told", "_law_due", "_law_k"] ["_law_told", "_law_due"] (defScope s_same) := ⟨rfl, rfl, rfl, by decide +kernel, rfl, by decide +kernel, by decide +kernel⟩
theorem sc_forms : FnScope [] [] (defScope s_forms) := ⟨rfl, rfl, rfl, by decide +kernel, rfl, by decide +kernel, by decide +kernel⟩
theorem sc_written : FnScope ["_law_event", "_law_text", "_law_item"] ["_law_event"] (defScope s_written) := ⟨rfl, rfl, rfl, by decide +kernel, rfl, by decide +kernel, by decide +kernel⟩
theorem sc_l_is_number : FnScope ["_law_word", "_law_sign_here"] ["_law_word"] (defScope s_l_is_number) := ⟨rfl, rfl, rfl, by decide +kernel, rfl, by decide +kernel, by decide +kernel⟩
theorem sc_read : FnScope ["_law_line", "_law_words", "_law_forms_here", "_law_kinds", "_law_items", "_law_k", "_law_form"] ["_law_line"] (defScope s_read) := ⟨rfl, rfl, rfl, by decide +kernel, rfl, by decide +kernel, by decide +kernel⟩
theorem sc_sign : FnScope ["_law_pick", "_law_signs"] ["_law_pick"] (defScope s_sign) := ⟨rfl, rfl, rfl, by decide +kernel, rfl, by decide +kernel, by decide +kernel⟩
theorem sc_name : FnScope ["_law_draws", "_law_pick", "_law_size", "_law_first", "_law_k"] ["_law_draws"] (defScope s_name) := ⟨rfl, rfl, rfl, by decide +kernel, rfl, by decide +kernel, by decide +kernel⟩
theorem sc_integer : FnScope ["_law_draws", "_law_pick"] ["_law_draws"] (defScope s_integer) := ⟨rfl, rfl, rfl, by decide +kernel, rfl, by decide +kernel, by decide +kernel⟩
theorem sc_drawn_event : FnScope ["_law_draws", "_law_form", "_law_items", "_law_kind"] ["_law_draws"] (defScope s_drawn_event) := ⟨rfl, rfl, rfl, by decide +kernel, rfl, by decide +kernel, by decide +kernel⟩
theorem sc_other_words : FnScope ["_law_words", "_law_way", "_law_place", "_law_pick", "_law_menu", "_law_ahead", "_law_behind"] ["_law_words", "_law_way", "_law_place", "_law_pick"] (defScope s_other_words) := ⟨rfl, rfl, rfl, by decide +kernel, rfl, by decide +kernel, by decide +kernel⟩
theorem sc_changed : FnScope ["_law_draws", "_law_line", "_law_way", "_law_at", "_law_pick", "_law_sign_here", "_law_words"] ["_law_draws", "_law_line"] (defScope s_changed) := ⟨rfl, rfl, rfl, by decide +kernel, rfl, by decide +kernel, by decide +kernel⟩
theorem sc_answer : FnScope ["_law_line", "e", "_law_right"] ["_law_line"] (defScope s_answer) := ⟨rfl, rfl, rfl, by decide +kernel, rfl, by decide +kernel, by decide +kernel⟩
theorem sc_law : FnScope ["_law_script", "_law_draws", "_law_k", "_law_event", "_law_line", "_law_large", "_law_j", "_law_changed_here", "_law_due", "_law_again", "_law_item"] ["_law_script"] (defScope s_law) := ⟨rfl, rfl, rfl, by decide +kernel, rfl, by decide +kernel, by decide +kernel⟩
/-- where the top has put what the law uses -/
structure Adr where
  c_GangError : Addr
  c_BadEvent : Addr
  c_BadLine : Addr
  c_BadName : Addr
  kd_FORMS : Addr
  f_GangError_init : Addr
  d_GangError_init : FuncData
  f_is_digits : Addr
  d_is_digits : FuncData
  f_is_number : Addr
  d_is_number : FuncData
  f_event_line : Addr
  d_event_line : FuncData
  f_read_event : Addr
  d_read_event : FuncData
  f_mixed : Addr
  d_mixed : FuncData
  f_drawing : Addr
  d_drawing : FuncData
  f_take : Addr
  d_take : FuncData
  f_same : Addr
  d_same : FuncData
  f_forms : Addr
  d_forms : FuncData
  f_written : Addr
  d_written : FuncData
  f_l_is_number : Addr
  d_l_is_number : FuncData
  f_read : Addr
  d_read : FuncData
  f_sign : Addr
  d_sign : FuncData
  f_name : Addr
  d_name : FuncData
  f_integer : Addr
  d_integer : FuncData
  f_drawn_event : Addr
  d_drawn_event : FuncData
  f_other_words : Addr
  d_other_words : FuncData
  f_changed : Addr
  d_changed : FuncData
  f_answer : Addr
  d_answer : FuncData
  f_law : Addr
  d_law : FuncData
structure Txt {w : World} (K : PySem.W.Frag) (mg : Str → Option Value) (A : Adr) : Prop where
  n_ValueError : mg "ValueError" = none
  n_abs : mg "abs" = none
  n_all : mg "all" = none
  n_bool : mg "bool" = none
  n_int : mg "int" = none
  n_isinstance : mg "isinstance" = none
  n_len : mg "len" = none
  n_list : mg "list" = none
  n_range : mg "range" = none
  n_str : mg "str" = none
  n_tuple : mg "tuple" = none
  n_zip : mg "zip" = none
  g_GangError : mg "GangError" = some (.ref A.c_GangError)
  g_BadEvent : mg "BadEvent" = some (.ref A.c_BadEvent)
  g_BadLine : mg "BadLine" = some (.ref A.c_BadLine)
  g_BadName : mg "BadName" = some (.ref A.c_BadName)
  F_GangError_init : Fun K "__init__" "GangError.__init__" s_GangError_init A.f_GangError_init A.d_GangError_init
  b_GangError_init : Binds K A.d_GangError_init ["self", "subject"] []
  me_GangError_init : Meth K A.c_GangError "__init__" A.f_GangError_init
  F_is_digits : Fun K "is_digits" "is_digits" s_is_digits A.f_is_digits A.d_is_digits
  b_is_digits : Binds K A.d_is_digits ["text"] []
  g_is_digits : mg "is_digits" = some (.ref A.f_is_digits)
  F_is_number : Fun K "is_number" "is_number" s_is_number A.f_is_number A.d_is_number
  b_is_number : Binds K A.d_is_number ["word", "most"] []
  g_is_number : mg "is_number" = some (.ref A.f_is_number)
  F_event_line : Fun K "event_line" "event_line" s_event_line A.f_event_line A.d_event_line
  b_event_line : Binds K A.d_event_line ["event"] []
  g_event_line : mg "event_line" = some (.ref A.f_event_line)
  F_read_event : Fun K "read_event" "read_event" s_read_event A.f_read_event A.d_read_event
  b_read_event : Binds K A.d_read_event ["line"] []
  g_read_event : mg "read_event" = some (.ref A.f_read_event)
  F_mixed : Fun K "_law_mixed" "_law_mixed" s_mixed A.f_mixed A.d_mixed
  b_mixed : Binds K A.d_mixed ["_law_number", "_law_k"] []
  g_mixed : mg "_law_mixed" = some (.ref A.f_mixed)
  F_drawing : Fun K "_law_drawing" "_law_drawing" s_drawing A.f_drawing A.d_drawing
  b_drawing : Binds K A.d_drawing ["_law_script"] []
  g_drawing : mg "_law_drawing" = some (.ref A.f_drawing)
  F_take : Fun K "_law_take" "_law_take" s_take A.f_take A.d_take
  b_take : Binds K A.d_take ["_law_draws", "_law_limit"] []
  g_take : mg "_law_take" = some (.ref A.f_take)
  F_same : Fun K "_law_same" "_law_same" s_same A.f_same A.d_same
  b_same : Binds K A.d_same ["_law_told", "_law_due"] []
  g_same : mg "_law_same" = some (.ref A.f_same)
  F_forms : Fun K "_law_forms" "_law_forms" s_forms A.f_forms A.d_forms
  b_forms : Binds K A.d_forms [] []
  g_forms : mg "_law_forms" = some (.ref A.f_forms)
  F_written : Fun K "_law_written" "_law_written" s_written A.f_written A.d_written
  b_written : Binds K A.d_written ["_law_event"] []
  g_written : mg "_law_written" = some (.ref A.f_written)
  F_l_is_number : Fun K "_law_is_number" "_law_is_number" s_l_is_number A.f_l_is_number A.d_l_is_number
  b_l_is_number : Binds K A.d_l_is_number ["_law_word"] []
  g_l_is_number : mg "_law_is_number" = some (.ref A.f_l_is_number)
  F_read : Fun K "_law_read" "_law_read" s_read A.f_read A.d_read
  b_read : Binds K A.d_read ["_law_line"] []
  g_read : mg "_law_read" = some (.ref A.f_read)
  F_sign : Fun K "_law_sign" "_law_sign" s_sign A.f_sign A.d_sign
  b_sign : Binds K A.d_sign ["_law_pick"] []
  g_sign : mg "_law_sign" = some (.ref A.f_sign)
  F_name : Fun K "_law_name" "_law_name" s_name A.f_name A.d_name
  b_name : Binds K A.d_name ["_law_draws"] []
  g_name : mg "_law_name" = some (.ref A.f_name)
  F_integer : Fun K "_law_integer" "_law_integer" s_integer A.f_integer A.d_integer
  b_integer : Binds K A.d_integer ["_law_draws"] []
  g_integer : mg "_law_integer" = some (.ref A.f_integer)
  F_drawn_event : Fun K "_law_drawn_event" "_law_drawn_event" s_drawn_event A.f_drawn_event A.d_drawn_event
  b_drawn_event : Binds K A.d_drawn_event ["_law_draws"] []
  g_drawn_event : mg "_law_drawn_event" = some (.ref A.f_drawn_event)
  F_other_words : Fun K "_law_other_words" "_law_other_words" s_other_words A.f_other_words A.d_other_words
  b_other_words : Binds K A.d_other_words ["_law_words", "_law_way", "_law_place", "_law_pick"] []
  g_other_words : mg "_law_other_words" = some (.ref A.f_other_words)
  F_changed : Fun K "_law_changed" "_law_changed" s_changed A.f_changed A.d_changed
  b_changed : Binds K A.d_changed ["_law_draws", "_law_line"] []
  g_changed : mg "_law_changed" = some (.ref A.f_changed)
  F_answer : Fun K "_law_answer" "_law_answer" s_answer A.f_answer A.d_answer
  b_answer : Binds K A.d_answer ["_law_line"] []
  g_answer : mg "_law_answer" = some (.ref A.f_answer)
  F_law : Fun K "law" "law" s_law A.f_law A.d_law
  b_law : Binds K A.d_law ["_law_script"] []
  g_law : mg "law" = some (.ref A.f_law)
  kg : PySem.W.specialIn K (.builtin "object.__class__") "__get__" = some (some (.builtin "getset_descriptor.__get__"))
  kt : PySem.W.takesIn K (.builtin "object.__class__") = some true
  x_GangError : GExc K A.c_GangError A.f_GangError_init
  xf_GangError : XfC K A.c_GangError
  xc_GangError : ExcC K A.c_GangError
  xm_GangError : PySem.W.exmOne K (.ref A.c_GangError) (.ref A.c_GangError) = some true
  x_BadEvent : GExc K A.c_BadEvent A.f_GangError_init
  xf_BadEvent : XfC K A.c_BadEvent
  xc_BadEvent : ExcC K A.c_BadEvent
  xm_BadEvent : PySem.W.exmOne K (.ref A.c_BadEvent) (.ref A.c_GangError) = some true
  x_BadLine : GExc K A.c_BadLine A.f_GangError_init
  xf_BadLine : XfC K A.c_BadLine
  xc_BadLine : ExcC K A.c_BadLine
  xm_BadLine : PySem.W.exmOne K (.ref A.c_BadLine) (.ref A.c_GangError) = some true
  x_BadName : GExc K A.c_BadName A.f_GangError_init
  xf_BadName : XfC K A.c_BadName
  xc_BadName : ExcC K A.c_BadName
  xm_BadName : PySem.W.exmOne K (.ref A.c_BadName) (.ref A.c_GangError) = some true
  g_FORMS : mg "FORMS" = some (.ref A.kd_FORMS)
  D_FORMS : KD K w A.kd_FORMS EV.PF
  k_DIGITS : ∃ t, mg "DIGITS" = some (.str (Str.ofString "0123456789") t)
  k_MOST_DIGITS : ∃ t, mg "MOST_DIGITS" = some (.int 6 t)
  kt_BadEvent_BadEvent : PySem.W.kitOne K (.ref A.c_BadEvent) (.ref A.c_BadEvent) = some true
  kt_BadEvent_GangError : PySem.W.kitOne K (.ref A.c_BadEvent) (.ref A.c_GangError) = some true
  kt_BadEvent_ValueError : PySem.W.kitOne K (.ref A.c_BadEvent) (.type "ValueError") = some true
  kt_BadEvent_BadLine : PySem.W.kitOne K (.ref A.c_BadEvent) (.ref A.c_BadLine) = some false
  kt_BadEvent_BadName : PySem.W.kitOne K (.ref A.c_BadEvent) (.ref A.c_BadName) = some false
  xs_BadEvent : PySem.W.exmOne K (.ref A.c_BadEvent) (.ref A.c_BadEvent) = some true

open EV GN GR SX TL TX NumText
structure IsS (z : Str) (t : List Nat) : Prop where
  e : z = S t
theorem str_nil {t : List Nat} : (V.str (S t) = V.str (Str.ofString "")) ↔ t = [] := by
  have e : Str.ofString "" = S [] := by decide +kernel
  rw [e]
  constructor
  · intro h; injection h with h; exact S_inj h
  · intro h; rw [h]
theorem get_bl {t : List Nat} {f : Nat → Bool} {i c : Nat} {b : Bool} (h : t[i]? = some c) (e : f c = b) : ((t.map f).map V.bl)[i]? = some (.bl b) := by
  rw [List.getElem?_map, List.getElem?_map, h, ← e]; rfl
theorem isD_ne {t : List Nat} (h : t ≠ []) : isD t = (t.map fun c => decide (c ∈ digs)).all id := by
  unfold isD
  rw [decide_eq_true h, Bool.true_and, List.all_map]; rfl
theorem nl_is : V.str (Str.ofString "\n") = V.str ⟨#[10]⟩ := congrArg V.str newl
theorem zero_is : Str.ofString "0" = S [48] := by decide +kernel
theorem nm_eq {c : Nat} {r : List Nat} : nm (c :: r) = (isD (c :: r) && (decide ((c :: r).length ≤ 6) && (decide (c :: r = [48]) || decide (c ≠ 48)))) := by
  unfold nm lead
  by_cases h : c = 48
  · subst h
    cases r with
    | nil => rfl
    | cons d r => simp
  · simp [h]
theorem nmT {c : Nat} {r : List Nat} (h1 : isD (c :: r) = true) (h2 : ((S (c :: r)).length : Int) ≤ 6) (h3 : V.str (S (c :: r)) = V.str (Str.ofString "0")) : nm (c :: r) = true := by
  rw [S_len] at h2
  rw [zero_is] at h3
  rw [nm_eq, h1, decide_eq_true (show (c :: r).length ≤ 6 by omega), decide_eq_true (S_inj (by injection h3) : c :: r = [48])]; rfl
theorem sgn_iff {c d : Nat} {x : Str} (e : x = ⟨#[d]⟩) : (V.str ⟨#[c]⟩ = V.str x) ↔ c = d := by subst e; simp
theorem nmX {c : Nat} {r : List Nat} (h1 : isD (c :: r) = true) (h2 : ((S (c :: r)).length : Int) ≤ 6) (h3 : ¬ V.str (S (c :: r)) = V.str (Str.ofString "0")) : nm (c :: r) = !decide (V.str ⟨#[c]⟩ = V.str (Str.ofString "0")) := by
  rw [S_len] at h2
  rw [zero_is] at h3
  rw [nm_eq, h1, decide_eq_true (show (c :: r).length ≤ 6 by omega), decide_eq_false (fun e => h3 (by rw [e]) : ¬ c :: r = [48])]
  rw [Bool.true_and, Bool.true_and, Bool.false_or]
  rw [show decide (V.str ⟨#[c]⟩ = V.str (Str.ofString "0")) = decide (c = 48) from decide_eq_decide.mpr (sgn_iff zero_is)]
  by_cases h : c = 48 <;> simp [h]
theorem nmF {t : List Nat} (h2 : ¬ ((S t).length : Int) ≤ 6) : nm t = false := by
  rw [S_len] at h2
  unfold nm
  rw [decide_eq_false (show ¬ t.length ≤ 6 by omega), Bool.and_false]
theorem nmD {t : List Nat} (h : isD t = false) : nm t = false := by
  unfold nm lead
  rw [h]; rfl
theorem bool_abs {b : Bool} (h : b = false) (g : b = true) : False := by rw [h] at g; cases g
theorem bool_abs2 {b : Bool} (g : b = true) (h : b = false) : False := by rw [h] at g; cases g
theorem numS (a : Int) : Str.ofString (toString a) = S (numT a) := (mk_tl _).symm
theorem ev_flat {ns : List N} (h : EvOk ns) : ∀ n ∈ ns, (∃ w, n = .wrd w) ∨ ∃ m : Nat, m ≤ 999999 ∧ n = .num (m : Int) := by
  obtain ⟨w, ks, its, rfl, hf, hl, hi⟩ := h.ex
  intro n hn
  rcases List.mem_cons.mp hn with e | e
  · exact .inl ⟨w, e⟩
  · obtain ⟨i, hi2, rfl⟩ := List.getElem_of_mem e
    have hk : i < (tl ks).length := by omega
    rcases hi i _ _ (List.getElem?_eq_getElem hk) (List.getElem?_eq_getElem hi2) with ⟨_, m, hm, e⟩ | ⟨_, t, e, _⟩
    · exact .inr ⟨m, hm, e⟩
    · exact .inl ⟨t, e⟩
theorem log6 {m : Nat} (h : m ≤ 999999) : (m : Int).natAbs.log2 < 1920 := by
  exact Nat.lt_of_lt_of_le (PySem.Flt.log2_lt_of (show 0 < 20 by decide) (show m < 2 ^ 20 by omega)) (by decide)
theorem getMapG {α β : Type} {f : α → β} {l : List α} {i : Nat} {x : β} (h : (l.map f)[i]? = some x) : ∃ z, l[i]? = some z ∧ x = f z := by
  rw [List.getElem?_map] at h
  cases e : l[i]? with
  | none => rw [e] at h; cases h
  | some z => rw [e] at h; cases h; exact ⟨z, rfl, rfl⟩
theorem sum60 {l : List Str} (h : ∀ z ∈ l, z.length ≤ 100) (hl : l.length ≤ 100) {s : Str} (hs : s.length ≤ 1) : (l.map (·.length)).sum + l.length * s.length ≤ 16777216 := by
  have key : ∀ l : List Str, (∀ z ∈ l, z.length ≤ 100) → (l.map (·.length)).sum ≤ l.length * 100 := by
    intro l
    induction l with
    | nil => intro _; simp
    | cons z l ih =>
      intro h
      have := ih fun x hx => h x (List.mem_cons_of_mem _ hx)
      have := h z List.mem_cons_self
      rw [List.map_cons, List.sum_cons, List.length_cons, Nat.add_mul]
      omega
  have h1 := key l h
  have h2 := Nat.mul_le_mul_left l.length hs
  omega
theorem join_wt {ns : List N} : Txt.join (Str.ofString " ") ((ns.map N.txt).map S) = S (wt ns) := by rw [EV.blank, join_S]; rfl
structure ItsAt (H : Hp) (L : Addr) (ks : List Nat) (ts : List (List Nat)) (i : Nat) : Prop where
  ex : ∃ ns, H L = some (.lst (ns.map flv)) ∧ Sofar ks ts i ns
theorem goodN {t : List Nat} (h1 : t ≠ []) (h2 : 10 ∉ t) (h3 : nm t = true) : good 78 t = some (.num ((digitsVal t : Nat) : Int)) := by
  unfold good; rw [if_neg (fun h => h.elim h1 h2), if_pos rfl, if_pos h3]
theorem goodW {k : Nat} {t : List Nat} (h1 : t ≠ []) (h2 : 10 ∉ t) (h3 : k ≠ 78) : good k t = some (.wrd t) := by
  unfold good; rw [if_neg (fun h => h.elim h1 h2), if_neg h3]
theorem goodX {t : List Nat} (h3 : nm t = false) : good 78 t = none := by
  unfold good
  split
  · rfl
  · rw [if_pos rfl, if_neg (by rw [h3]; intro z; cases z)]
theorem nm_isD {t : List Nat} (h : nm t = true) : isD t = true ∧ t.length ≤ 6 := by
  unfold nm at h
  rw [Bool.and_eq_true, decide_eq_true_eq] at h
  exact ⟨(lead_back h.1).1, h.2⟩
theorem big_N : Str.ofString "N" = ⟨#[78]⟩ := by decide +kernel
def DrawAt (H : Hp) (p : Addr) : Prop := ∃ (q : Addr) (i sd : Int) (ms : List Int), H p = some (.lst [.int i, .ref q, .int sd]) ∧ H q = some (.lst (ms.map V.int)) ∧ q ≠ p ∧ 0 ≤ i
theorem DrawAt.mono {H H' : Hp} {p : Addr} (h : DrawAt H p) (s : Same H H') : DrawAt H' p := let ⟨q, i, sd, ms, a, b, c, d⟩ := h; ⟨q, i, sd, ms, s _ _ a, s _ _ b, c, d⟩
theorem draw_ne {H : Hp} {p t : Addr} {xs : List V} (P : DrawAt H p) (h : H t = some (.tup xs)) : t ≠ p := fun e => by
  obtain ⟨_, _, _, _, a, _⟩ := P
  rw [e, a] at h; cases h
theorem draw_new {H : Hp} {p t : Addr} (P : DrawAt H p) (h : H t = none) : t ≠ p := fun e => by
  obtain ⟨_, _, _, _, a, _⟩ := P
  rw [e, a] at h; cases h
inductive Eqv (H : Hp) : Nat → V → V → Prop
  | non (d : Nat) : Eqv H d .non .non
  | int (d : Nat) (i : Int) : Eqv H d (.int i) (.int i)
  | str (d : Nat) (z : Str) : Eqv H d (.str z) (.str z)
  | tup {d : Nat} {a b : Addr} {xs ys : List V} (ha : H a = some (.tup xs)) (hb : H b = some (.tup ys)) (hl : xs.length = ys.length) (hn : xs.length ≤ 100) (h : ∀ (i : Nat) (x y : V), xs[i]? = some x → ys[i]? = some y → Eqv H d x y) : Eqv H (d + 1) (.ref a) (.ref b)
theorem Eqv.mono {H H' : Hp} (s : Same H H') {d : Nat} {x y : V} (h : Eqv H d x y) : Eqv H' d x y := by
  induction h with
  | non d => exact .non d
  | int d i => exact .int d i
  | str d z => exact .str d z
  | tup ha hb hl hn _ ih => exact .tup (s _ _ ha) (s _ _ hb) hl hn ih
theorem eqvEv {H : Hp} {a b : Addr} {ns : List N} (ha : H a = some (.tup (ns.map flv))) (hb : H b = some (.tup (ns.map flv))) (hn : ns.length ≤ 100) : Eqv H 1 (.ref a) (.ref b) :=
  .tup ha hb rfl (by rw [List.length_map]; exact hn) fun i x y hx hy => by
    rw [hx] at hy
    cases hy
    obtain ⟨n, _, rfl⟩ := getMapG hx
    cases n with
    | wrd w => exact .str 0 _
    | num i => exact .int 0 _
    | non => exact .non 0
    | tup l => exact .non 0
theorem eqvNo {H : Hp} {a b : Addr} {x y : Str} (ha : H a = some (.tup [.str x, .str y])) (hb : H b = some (.tup [.str x, .str y])) : Eqv H 1 (.ref a) (.ref b) :=
  .tup ha hb rfl (by simp) fun i u v hx hy => by
    rw [hx] at hy
    cases hy
    rcases i with _ | _ | i
    · cases hx; exact .str 0 _
    · cases hx; exact .str 0 _
    · cases hx
theorem eqvYes {H : Hp} {a b e f : Addr} {x : Str} {ns : List N} (ha : H a = some (.tup [.str x, .ref e])) (hb : H b = some (.tup [.str x, .ref f])) (he : H e = some (.tup (ns.map flv))) (hf : H f = some (.tup (ns.map flv))) (hn : ns.length ≤ 100) : Eqv H 2 (.ref a) (.ref b) :=
  .tup ha hb rfl (by simp) fun i u v hx hy => by
    rcases i with _ | _ | i
    · cases hx; cases hy; exact .str 1 _
    · cases hx; cases hy; exact eqvEv he hf hn
    · cases hx
theorem rd_len {t : List Nat} {ns : List N} (h : rdE t = some ns) : ns.length ≤ 100 := by
  cases e : parts t with
  | nil => exact absurd e (parts_ne t)
  | cons w ts =>
    rw [rdE_cons e] at h
    cases hf : fk (S w) with
    | none => rw [hf] at h; cases h
    | some ks =>
      rw [hf] at h
      have h : (rdI (tl ks) ts).map (fun x => N.wrd w :: x) = some ns := h
      cases hi : rdI (tl ks) ts with
      | none => rw [hi] at h; cases h
      | some its =>
        rw [hi] at h
        cases h
        have := (rdI_len hi).2
        have := (fk_ok hf).len.2.2
        have := len_tl ks
        rw [List.length_cons]; omega
def FormsAt (H : Hp) (a : Addr) : Prop := ∃ xs : List V, H a = some (.lst xs) ∧ xs.length = LF.length ∧ ∀ (i : Nat) (p : Str × Str), LF[i]? = some p → ∃ T : Addr, xs[i]? = some (.ref T) ∧ H T = some (.tup [.str p.1, .str p.2])
theorem FormsAt.mono {H H' : Hp} {a : Addr} (h : FormsAt H a) (s : Same H H') : FormsAt H' a := let ⟨xs, e, l, g⟩ := h; ⟨xs, s _ _ e, l, fun i p q => let ⟨T, u, v⟩ := g i p q; ⟨T, u, s _ _ v⟩⟩
def Bad (A : Adr) (E : XK) (H : Hp) (z : Str) : Prop := ∀ d H', Same H H' → H' d = some (.xd [(("subject" : Str), .str z)]) → E (.ref A.c_BadEvent) (some d) H'
def FinR (A : Adr) (Q : VK) (E : XK) (H : Hp) (t : List Nat) : Option (List N) → Prop
  | none => Bad A E H (S t)
  | some ns => ∀ p H', Same H H' → H' p = some (.tup (ns.map flv)) → Q (.ref p) H'
theorem bd {A : Adr} {Q : VK} {E : XK} {H : Hp} {t : List Nat} {r : Option (List N)} (hr : RE t r) (h : rdE t = none) (k : FinR A Q E H t r) : Bad A E H (S t) := by
  have e := hr.e
  rw [h] at e
  subst e
  exact k
theorem fine {A : Adr} {Q : VK} {E : XK} {H : Hp} {t : List Nat} {r : Option (List N)} {ns : List N} (hr : RE t r) (h : rdE t = some ns) (k : FinR A Q E H t r) : ∀ p H', Same H H' → H' p = some (.tup (ns.map flv)) → Q (.ref p) H' := by
  have e := hr.e
  rw [h] at e
  subst e
  exact k
def FinL (Q : VK) (H : Hp) : Option (List N) → Prop
  | none => ∀ H', Same H H' → Q .non H'
  | some ns => ∀ p H', Same H H' → H' p = some (.tup (ns.map flv)) → Q (.ref p) H'
theorem badl {Q : VK} {H : Hp} {t : List Nat} {r : Option (List N)} (hr : RE t r) (h : rdE t = none) (k : FinL Q H r) : ∀ H', Same H H' → Q .non H' := by
  have e := hr.e
  rw [h] at e
  subst e
  exact k
theorem finl {Q : VK} {H : Hp} {t : List Nat} {r : Option (List N)} {ns : List N} (hr : RE t r) (h : rdE t = some ns) (k : FinL Q H r) : ∀ p H', Same H H' → H' p = some (.tup (ns.map flv)) → Q (.ref p) H' := by
  have e := hr.e
  rw [h] at e
  subst e
  exact k
def FinA (Q : VK) (H : Hp) (t : List Nat) : Option (List N) → Prop
  | none => ∀ p H', Same H H' → H' p = some (.tup [.str (Str.ofString "refused"), .str (S t)]) → Q (.ref p) H'
  | some ns => ∀ p e H', Same H H' → H' p = some (.tup [.str (Str.ofString "read"), .ref e]) → H' e = some (.tup (ns.map flv)) → Q (.ref p) H'
theorem ix_seqK (K : PySem.W.Frag) {X : Cx} (hK : X.K = K := by rfl) : IxR X (rIx K) := hK ▸ ix_seq
theorem ix_l {K : PySem.W.Frag} {a : Addr} {xs : List V} {i : Int} {v : V} {H : Hp} {Q : VK} (h : SqL K H a xs) (e : atI xs i = some v) (q : Q v H) : rIx K (.ref a) (.int i) H Q := .inl ⟨a, xs, i, v, rfl, rfl, h, e, q⟩
theorem ix_t {K : PySem.W.Frag} {a : Addr} {xs : List V} {i : Int} {v : V} {H : Hp} {Q : VK} (h : SqT K H a xs) (e : atI xs i = some v) (q : Q v H) : rIx K (.ref a) (.int i) H Q := .inr (.inl ⟨a, xs, i, v, rfl, rfl, h, e, q⟩)
theorem modr {z l : Int} (h : 0 < l) : 0 ≤ z % l ∧ z % l < l := ⟨Int.emod_nonneg _ (by omega), Int.emod_lt_of_pos _ h⟩
structure IL (H : Hp) (p : Addr) (n : Nat) : Prop where
  ex : ∃ ms : List Int, H p = some (.lst (ms.map V.int)) ∧ ms.length ≤ n
def cutG {α : Type} (l : List α) (lo hi : Option Int) : List α := (l.drop (HT.sIx l.length 0 lo)).take (HT.sIx l.length l.length hi - HT.sIx l.length 0 lo)
theorem cutV_mapG {α : Type} {f : α → V} (l : List α) (lo hi : Option Int) : cutV (l.map f) lo hi = (cutG l lo hi).map f := by
  unfold cutV cutG
  rw [List.length_map, List.map_take, List.map_drop]
theorem cutG_len {α : Type} {l : List α} {lo hi : Option Int} : (cutG l lo hi).length ≤ l.length := by
  unfold cutG
  rw [List.length_take, List.length_drop]
  omega
theorem cutG_mem {α : Type} {l : List α} {lo hi : Option Int} {x : α} (h : x ∈ cutG l lo hi) : x ∈ l := List.mem_of_mem_drop (List.mem_of_mem_take h)
structure Sg (z : Str) : Prop where
  ex : ∃ c, z = S [c] ∧ 33 ≤ c ∧ c ≤ 126
theorem sgn_rng {z : Str} {n : Nat} (hl : z.length = n) (h0 : 0 < n) (hk : z.cps.toList.all (fun c => decide (33 ≤ c) && decide (c ≤ 126)) = true) {i : Int} : ∃ c, atI z.cps.toList (i % (z.length : Nat)) = some c ∧ Sg ⟨#[c]⟩ := by
  rw [hl]
  have hl2 : z.cps.toList.length = n := by rw [Array.length_toList]; exact hl
  have h1 : 0 ≤ i % (n : Int) := Int.emod_nonneg _ (by omega)
  have h2 : i % (n : Int) < n := Int.emod_lt_of_pos _ (by omega)
  obtain ⟨j, hj⟩ : ∃ j : Nat, i % (n : Int) = (j : Int) := ⟨(i % (n : Int)).toNat, by omega⟩
  rw [hj]
  have hj2 : j < z.cps.toList.length := by omega
  have := List.all_eq_true.mp hk _ (List.getElem_mem hj2)
  rw [Bool.and_eq_true, decide_eq_true_eq, decide_eq_true_eq] at this
  exact ⟨z.cps.toList[j], atI_nat (List.getElem?_eq_getElem hj2), _, rfl, this⟩
theorem inV_tt : ∀ n : Nat, inV (.bl false) (List.replicate n (V.bl true)) = false
  | 0 => rfl
  | n + 1 => by
    have ih := inV_tt n
    unfold inV at *
    rw [List.replicate_succ, List.any_cons, ih]
    rfl
theorem rep_lc {n i : Nat} (h : i < n) : (List.replicate n (V.bl true))[i]? = some (.bl true) := by rw [List.getElem?_replicate, if_pos h]
theorem kit_anyF {K : PySem.W.Frag} {t a b : Value} (h1 : PySem.W.kitOne K t a = some false) (h2 : PySem.W.kitOne K t b = some false) : PySem.W.kitAny K t [a, b] = some false := by
  unfold PySem.W.kitAny
  rw [h1]
  unfold PySem.W.kitAny
  rw [h2]
  rfl
theorem kit_anyT {K : PySem.W.Frag} {t a b : Value} (h1 : PySem.W.kitOne K t a = some false) (h2 : PySem.W.kitOne K t b = some true) : PySem.W.kitAny K t [a, b] = some true := by
  unfold PySem.W.kitAny
  rw [h1]
  unfold PySem.W.kitAny
  rw [h2]
def ndg (t : List Nat) : List Nat := t.filter fun c => decide (¬ c ∈ digs)
def sg1 (c : Nat) : Str := ⟨#[c]⟩
theorem ndg_step {t : List Nat} {i c : Nat} (h : t[i]? = some c) : ndg (t.take (i + 1)) = ndg (t.take i) ++ (if c ∈ digs then [] else [c]) := by
  unfold ndg
  obtain ⟨hl, rfl⟩ := List.getElem?_eq_some_iff.mp h
  rw [List.take_succ_eq_append_getElem hl, List.filter_append]
  congr 1
  by_cases q : t[i] ∈ digs
  · rw [if_pos q, List.filter_cons, List.filter_nil, decide_eq_false (fun h => h q)]; rfl
  · rw [if_neg q, List.filter_cons, List.filter_nil, decide_eq_true q]; rfl
theorem ndg_nil {t : List Nat} : ndg t = [] ↔ ∀ c ∈ t, c ∈ digs := by
  unfold ndg
  rw [List.filter_eq_nil_iff]
  constructor
  · intro h c hc
    have := h c hc
    simpa using this
  · intro h c hc
    simpa using h c hc
theorem nmG {c : Nat} {r : List Nat} (h2 : ¬ (6 : Int) < ((S (c :: r)).length : Nat)) (h3 : ¬ ((1 : Int) < ((S (c :: r)).length : Nat) ∧ V.str ⟨#[c]⟩ = V.str (Str.ofString "0"))) : nm (c :: r) = decide (((ndg (c :: r)).map sg1) = []) := by
  rw [S_len] at h2 h3
  rw [show decide (((ndg (c :: r)).map sg1) = []) = isD (c :: r) from by
    cases e : isD (c :: r)
    · refine decide_eq_false fun z => ?_
      have := ndg_nil.mp (List.map_eq_nil_iff.mp z)
      have : isD (c :: r) = true := isD_iff.mpr ⟨by simp, fun d hd => digs_range (this d hd)⟩
      rw [e] at this; cases this
    · refine decide_eq_true (List.map_eq_nil_iff.mpr (ndg_nil.mpr fun d hd => digs_of ((isD_iff.mp e).2 d hd)))]
  unfold nm lead
  rw [decide_eq_true (show (c :: r).length ≤ 6 by omega), Bool.and_true]
  have : (decide (1 < (c :: r).length) && decide ((c :: r)[0]? = some 48)) = false := by
    by_cases h1 : 1 < (c :: r).length
    · rw [decide_eq_false (show ¬ (c :: r)[0]? = some 48 from fun z => h3 ⟨by omega, (sgn_iff zero_is).mpr (by simpa using z)⟩), Bool.and_false]
    · rw [decide_eq_false h1, Bool.false_and]
  rw [this, Bool.not_false, Bool.and_true]
theorem nmF2 {t : List Nat} (h2 : (6 : Int) < ((S t).length : Nat)) : nm t = false := nmF (by omega)
theorem nmL {c : Nat} {r : List Nat} (h1 : (1 : Int) < ((S (c :: r)).length : Nat)) (h : V.str ⟨#[c]⟩ = V.str (Str.ofString "0")) : nm (c :: r) = false := by
  rw [S_len] at h1
  have h := (sgn_iff zero_is).mp h
  subst h
  unfold nm lead
  rw [decide_eq_true (show 1 < (48 :: r).length by omega), decide_eq_true (show (48 :: r)[0]? = some 48 from rfl)]
  simp
theorem sIx1 {n : Nat} (h : 1 ≤ n) (P : Prop) : ¬ (HT.sIx n 0 (some 1) = 0 ∧ P) := fun ⟨e, _⟩ => by
  have e : (if (1 : Int) < 0 then ((1 : Int) + n).toNat else min (1 : Int).toNat n) = 0 := e
  rw [if_neg (by decide)] at e
  have : (1 : Int).toNat = 1 := rfl
  omega
theorem cut1 {α : Type} {f : α → V} (x : α) (l : List α) : cutV ((x :: l).map f) (some 1) none = l.map f := by
  rw [cutV_mapG]
  unfold cutG
  have e : HT.sIx (x :: l).length 0 (some 1) = 1 := by
    show (if (1 : Int) < 0 then ((1 : Int) + ((x :: l).length : Nat)).toNat else min (1 : Int).toNat (x :: l).length) = 1
    rw [if_neg (by decide)]
    have : (1 : Int).toNat = 1 := rfl
    rw [List.length_cons]
    omega
  rw [e]
  show ((l.take ((l.length + 1) - 1)).map f) = _
  rw [Nat.add_sub_cancel, List.take_length]
theorem flat_tt : ∀ n : Nat, (List.replicate n (V.bl true)).all flatV = true
  | 0 => rfl
  | n + 1 => by rw [List.replicate_succ, List.all_cons, flat_tt n]; rfl
structure Cd (t : List Nat) : Prop where
  ok : ∀ c ∈ t, c < 0x110000
theorem cd_tx {n : Nat} {z : Str} (h : Tx n z) : Cd (tl z) := ⟨h.ok⟩
theorem cd_one {t : List Nat} (h : Cd t) {c : Nat} (hc : c ∈ t) : PyData.strOk (sg1 c) = true := (tx_one (h.ok c hc)).str
theorem ascii_keys : (PF.all fun p => p.1.cps.toList.all (· < 128)) = true := by decide +kernel
theorem ev_cd {ns : List N} (h : EvOk ns) : Cd (wt ns) := by
  refine ⟨fun c hc => ?_⟩
  by_cases e : c = 32
  · omega
  · obtain ⟨p, hp, hm⟩ := joinL_mem e hc
    obtain ⟨w, ks, its, rfl, hf, hl, hi⟩ := h.ex
    rw [List.map_cons] at hp
    rcases List.mem_cons.mp hp with q | q
    · subst q
      have := List.all_eq_true.mp (List.all_eq_true.mp ascii_keys _ (fk_mem hf)) c hm
      have := of_decide_eq_true this
      omega
    · obtain ⟨n, hn, rfl⟩ := List.mem_map.mp q
      obtain ⟨i, hi2, rfl⟩ := List.getElem_of_mem hn
      have hk : i < (tl ks).length := by omega
      rcases hi i _ _ (List.getElem?_eq_getElem hk) (List.getElem?_eq_getElem hi2) with ⟨_, m, hm2, e2⟩ | ⟨_, t, e2, ht⟩
      · rw [e2, txt_num] at hm
        have := numL_digits m c hm
        omega
      · rw [e2] at hm
        have := ht.ch c hm
        omega
theorem ev_cd2 {ns : List N} (h : EvOk ns) {n : N} (hn : n ∈ ns) : ∀ c ∈ n.txt, c < 0x110000 := by
  intro c hm
  obtain ⟨w, ks, its, rfl, hf, hl, hi⟩ := h.ex
  rcases List.mem_cons.mp hn with q | q
  · subst q
    have := List.all_eq_true.mp (List.all_eq_true.mp ascii_keys _ (fk_mem hf)) c hm
    have := of_decide_eq_true this
    omega
  · obtain ⟨i, hi2, rfl⟩ := List.getElem_of_mem q
    have hk : i < (tl ks).length := by omega
    rcases hi i _ _ (List.getElem?_eq_getElem hk) (List.getElem?_eq_getElem hi2) with ⟨_, m, hm2, e2⟩ | ⟨_, t, e2, ht⟩
    · rw [e2, txt_num] at hm
      have := numL_digits m c hm
      omega
    · rw [e2] at hm
      have := ht.ch c hm
      omega
theorem wt_tx {ns : List N} (h : EvOk ns) : Tx 305 (S (wt ns)) := ⟨by rw [S_len]; exact h.len, (ev_cd h).ok⟩
theorem wsnoc {ns : List N} {n : N} (h : ns ≠ []) : S (TL.joinL [32] ((ns ++ [n]).map N.txt)) = S (TL.joinL [32] (ns.map N.txt)) ++ Str.ofString " " ++ S n.txt := by
  rw [List.map_append, List.map_cons, List.map_nil, joinL_snoc (by simpa using h), EV.blank, S_cat, S_cat, List.append_assoc]
  rfl
theorem wcut {w : List Nat} {its : List N} {i : Nat} {n : N} (h : its[i]? = some n) : N.wrd w :: its.take (i + 1) = (N.wrd w :: its.take i) ++ [n] := by
  obtain ⟨hl, rfl⟩ := List.getElem?_eq_some_iff.mp h
  rw [List.take_succ_eq_append_getElem hl]
  rfl
theorem IL.le {H : Hp} {p : Addr} {n m : Nat} (h : IL H p n) (hm : n ≤ m) : IL H p m := let ⟨ms, a, b⟩ := h.ex; ⟨ms, a, Nat.le_trans b hm⟩
theorem allTx {l : List Str} {b : Nat} (h : l.all (fun z => decide (z.length ≤ b) && z.cps.toList.all (fun c => decide (c < 0x110000))) = true) : ∀ z ∈ l, Tx b z := fun z hz => by
  have := List.all_eq_true.mp h z hz
  rw [Bool.and_eq_true, decide_eq_true_eq, List.all_eq_true] at this
  exact ⟨this.1, fun c hc => of_decide_eq_true (this.2 c hc)⟩
theorem pickS (l : List Str) (b n : Nat) (h : l.length = n) (h0 : 0 < n) (hb : ∀ z ∈ l, Tx b z) (i : Int) : ∃ z : Str, Tx b z ∧ atI (l.map V.str) (i % (n : Nat)) = some (.str z) := by
  obtain ⟨j, hj⟩ : ∃ j : Nat, i % (n : Int) = (j : Int) := ⟨(i % (n : Int)).toNat, by have := Int.emod_nonneg i (show (n : Int) ≠ 0 by omega); omega⟩
  have h2 : i % (n : Int) < n := Int.emod_lt_of_pos _ (by omega)
  have hj2 : j < l.length := by omega
  have hm := List.getElem_mem hj2
  refine ⟨l[j], hb _ hm, ?_⟩
  rw [hj]
  exact atI_nat (by rw [List.getElem?_map, List.getElem?_eq_getElem hj2]; rfl)
theorem sg_tx {z : Str} (h : Sg z) : Tx 1 z := by
  obtain ⟨c, rfl, _, h2⟩ := h.ex
  exact tx_one (show c < 0x110000 by omega)
theorem allTx_snoc {l : List Str} {b : Nat} {z : Str} (h : ∀ z ∈ l, Tx b z) (g : Tx b z) : ∀ y ∈ l ++ [z], Tx b y := fun y hy => by
  rcases List.mem_append.mp hy with q | q
  · exact h y q
  · rw [List.mem_singleton.mp q]; exact g
theorem pickI {i : Int} (h0 : 0 ≤ i) (h1 : i < 6) : ∃ z : Int, (0 ≤ z ∧ z ≤ 999999) ∧ atI [V.int 0, V.int 9, V.int 10, V.int 99999, V.int 100000, V.int 999999] i = some (.int z) := by
  obtain ⟨j, rfl⟩ : ∃ j : Nat, i = (j : Int) := ⟨i.toNat, by omega⟩
  rcases j with _ | _ | _ | _ | _ | _ | j
  · exact ⟨0, by omega, rfl⟩
  · exact ⟨9, by omega, rfl⟩
  · exact ⟨10, by omega, rfl⟩
  · exact ⟨99999, by omega, rfl⟩
  · exact ⟨100000, by omega, rfl⟩
  · exact ⟨999999, by omega, rfl⟩
  · omega
theorem DrawAt.put {H : Hp} {p L : Addr} {z : Str} {r : List V} {o : HO} (h : DrawAt H p) (e : H L = some (.lst (.str z :: r))) (n : L ≠ p) : DrawAt (upd H L o) p := by
  obtain ⟨q, i, sd, ms, a, b, c, d⟩ := h
  have nq : q ≠ L := by
    rintro rfl
    rw [e] at b
    injection b with b
    injection b with b
    cases ms with
    | nil => cases b
    | cons m ms => rw [List.map_cons] at b; injection b with b1 _; cases b1
  exact ⟨q, i, sd, ms, by rw [upd_ne n.symm]; exact a, by rw [upd_ne nq]; exact b, c, d⟩
theorem forms_ne {H : Hp} {a p : Addr} (h : FormsAt H a) (P : DrawAt H p) : a ≠ p := by
  rintro rfl
  obtain ⟨xs, e, l, _⟩ := h
  obtain ⟨_, _, _, _, a, _⟩ := P
  rw [e] at a
  injection a with a
  injection a with a
  rw [a] at l
  cases l
theorem FormsAt.but {H H' : Hp} {a p : Addr} (h : FormsAt H a) (P : DrawAt H p) (s : SameBut p H H') : FormsAt H' a := by
  have n := forms_ne h P
  obtain ⟨xs, e, l, g⟩ := h
  exact ⟨xs, s _ _ n e, l, fun i q hq => let ⟨T, u, v⟩ := g i q hq; ⟨T, u, s _ _ (draw_ne P v) v⟩⟩
theorem pickF {H : Hp} {a : Addr} {r : Int} (h : FormsAt H a) (h0 : 0 ≤ r) (h1 : r < 13) : ∃ q : List V × Addr × List Nat × Str, H a = some (.lst q.1) ∧ atI q.1 r = some (.ref q.2.1) ∧ H q.2.1 = some (.tup [.str (S q.2.2.1), .str (S ((tl q.2.2.2).map cv))]) ∧ fk (S q.2.2.1) = some q.2.2.2 := by
  obtain ⟨j, rfl⟩ : ∃ j : Nat, r = (j : Int) := ⟨r.toNat, by omega⟩
  obtain ⟨xs, e, l, g⟩ := h
  have hlf : LF.length = 13 := by decide +kernel
  have hj : j < LF.length := by omega
  obtain ⟨ks, hk, hc⟩ := lf_fk _ (List.getElem_mem hj)
  obtain ⟨T, u, v⟩ := g j _ (List.getElem?_eq_getElem hj)
  have e1 : S (tl (LF[j]).1) = (LF[j]).1 := mk_tl _
  refine ⟨(xs, T, tl (LF[j]).1, ks), e, atI_nat u, ?_, ?_⟩
  · show H T = some (.tup [.str (S (tl (LF[j]).1)), .str (S ((tl ks).map cv))])
    rw [e1, v, ← hc]; rfl
  · show fk (S (tl (LF[j]).1)) = some ks
    rw [e1]; exact hk
theorem cv_i {k : Nat} : (V.str ⟨#[cv k]⟩ = V.str (Str.ofString "i")) ↔ k = 78 := (sgn_iff (show Str.ofString "i" = ⟨#[105]⟩ by decide +kernel)).trans (by unfold cv; split <;> simp_all)
structure EvSo (H : Hp) (L : Addr) (w : List Nat) (ks : Str) (i : Nat) : Prop where
  ex : ∃ its : List N, H L = some (.lst (.str (S w) :: its.map flv)) ∧ its.length = i ∧ ∀ (j k : Nat) (n : N), (tl ks)[j]? = some k → its[j]? = some n → ItOk k n
theorem so_snoc {P : Nat → N → Prop} {ks : List Nat} {its : List N} {i k : Nat} {n : N} (hl : its.length = i) (h : ∀ (j k : Nat) (n : N), ks[j]? = some k → its[j]? = some n → P k n) (hk : ks[i]? = some k) (hn : P k n) : ∀ (j k : Nat) (m : N), ks[j]? = some k → (its ++ [n])[j]? = some m → P k m := by
  intro j k2 m hj hm
  by_cases e : j < its.length
  · rw [List.getElem?_append_left e] at hm; exact h j k2 m hj hm
  · rw [List.getElem?_append_right (by omega)] at hm
    have : j - its.length = 0 := by
      have := (List.getElem?_eq_some_iff.mp hm).1
      simp at this; omega
    rw [this] at hm
    have : j = i := by omega
    subst this
    rw [hk] at hj
    cases hj; cases hm; exact hn
theorem EvSo.mono {H H' : Hp} {L p : Addr} {w : List Nat} {ks : Str} {i : Nat} (h : EvSo H L w ks i) (s : SameBut p H H') (n : L ≠ p) : EvSo H' L w ks i := let ⟨its, a, b⟩ := h.ex; ⟨its, s _ _ n a, b⟩
structure FIL (H : Hp) (D : Addr) (w : List Nat) (i : Nat) : Prop where
  ex : ∃ qs : List (Addr × Str × Str), H D = some (.lst ((qs.map (·.1)).map V.ref)) ∧ qs.map (·.2) = (LF.take i).filter (fun p => decide (p.1 = S w)) ∧ ∀ q ∈ qs, H q.1 = some (.tup [.str q.2.1, .str q.2.2])
theorem lf_step {i : Nat} {q : Str × Str} {P : Str × Str → Bool} (h : LF[i]? = some q) : (LF.take (i + 1)).filter P = (LF.take i).filter P ++ (if P q = true then [q] else []) := by
  rw [List.take_succ, h, List.filter_append]
  congr 1
  show List.filter P [q] = _
  rw [List.filter_cons, List.filter_nil]
theorem mem_joinL {c : Nat} {s p : List Nat} (hc : c ∈ p) : ∀ {ts : List (List Nat)}, p ∈ ts → c ∈ TL.joinL s ts
  | [], h => by cases h
  | [q], h => by rw [List.mem_singleton.mp h] at hc; exact hc
  | q :: r :: ts, h => by
    show c ∈ q ++ (s ++ TL.joinL s (r :: ts))
    rcases List.mem_cons.mp h with e | e
    · subst e; exact List.mem_append_left _ hc
    · exact List.mem_append_right _ (List.mem_append_right _ (mem_joinL hc e))
theorem cv_n {k : Nat} : (V.str ⟨#[cv k]⟩ = V.str (Str.ofString "n")) ↔ k ≠ 78 := (sgn_iff (show Str.ofString "n" = ⟨#[110]⟩ by decide +kernel)).trans (by unfold cv; split <;> simp_all)
structure ItW (H : Hp) (L : Addr) (w : List Nat) (ks : List Nat) (ts : List (List Nat)) (i : Nat) : Prop where
  ex : ∃ ns, H L = some (.lst (.str (S w) :: ns.map flv)) ∧ Sofar ks ts i ns
theorem emp_in {w : List Nat} {ts : List (List Nat)} (h : Str.ofString "" ∈ S w :: ts.map S) : [] ∈ w :: ts := by
  have e : Str.ofString "" = S [] := by decide +kernel
  rw [e] at h
  rcases List.mem_cons.mp h with q | q
  · rw [S_inj q]; exact List.mem_cons_self
  · obtain ⟨u, hu, e⟩ := List.mem_map.mp q
    rw [← S_inj e]; exact List.mem_cons_of_mem _ hu
theorem in_emp {w u : List Nat} {ts : List (List Nat)} (h : ¬ Str.ofString "" ∈ S w :: ts.map S) (hu : u ∈ ts) : u ≠ [] := fun e => h (by
  have e2 : Str.ofString "" = S [] := by decide +kernel
  rw [e2, ← e]; exact List.mem_cons_of_mem _ (List.mem_map_of_mem hu))
theorem shOne {x y : Str} (hx : PyData.strOk x = true) (hy : PyData.strOk y = true) : SeqAt.shaped (.list [.tuple [.str x, .str y]]) = true := by
  have e : (PyData.list [.tuple [.str x, .str y]]).canLay0 = true := by simp [PyData.canLay0, PyData.canLayAll0, hx, hy]
  have d : (PyData.list [.tuple [.str x, .str y]]).depth ≤ 64 := by
    simp [PyData.depth, PyData.depthAll]
  unfold SeqAt.shaped
  rw [e, decide_eq_true d]; rfl
theorem evOne {x y : Str} : PyData.eqv (.list [.tuple [.str x, .str y]]) (.list []) = false := by simp [PyData.eqv, PyData.eqvAll]
theorem ok_S {t : List Nat} (h : ∀ c ∈ t, c < 0x110000) : PyData.strOk (S t) = true := Tx.str (n := t.length) ⟨by rw [S_len]; exact Nat.le_refl _, h⟩
theorem cv_cd {ks : Str} : ∀ c ∈ (tl ks).map cv, c < 0x110000 := by
  intro c hc
  obtain ⟨k, _, rfl⟩ := List.mem_map.mp hc
  unfold cv; split <;> omega
theorem join1 {t : List Nat} : Txt.join (Str.ofString "") (t.map sg1) = S t := by
  have e : t.map sg1 = (t.map fun c => [c]).map S := by rw [List.map_map]; rfl
  rw [e, show Str.ofString "" = S [] from by decide +kernel, join_S]
  congr 1
  induction t with
  | nil => rfl
  | cons c t ih =>
    cases t with
    | nil => rfl
    | cons d t =>
      have ih := ih (by rw [List.map_map]; rfl)
      show [c] ++ ([] ++ TL.joinL [] ((d :: t).map fun c => [c])) = _
      rw [ih]; rfl
structure NmL (H : Hp) (D : Addr) (j : Nat) : Prop where
  ex : ∃ t : List Nat, H D = some (.lst ((t.map sg1).map V.str)) ∧ t.length = j ∧ ∀ c ∈ t, 33 ≤ c ∧ c ≤ 126
theorem cd_of {n : Nat} {u : List Nat} (h : Tx n (S u)) : Cd u := ⟨h.ok⟩
theorem tx_le {n : Nat} {u : List Nat} (h : Tx n (S u)) : u.length ≤ n := by have := h.len; rw [S_len] at this; exact this
def spDig : Sp := fun vs H Q _ => ∃ (z : Str) (t : List Nat), vs = [.str z] ∧ IsS z t ∧ t.length ≤ 2000 ∧ ∀ H', Same H H' → Q (.bl (isD t)) H'
def spNum : Sp := fun vs H Q _ => ∃ (z : Str) (t : List Nat), vs = [.str z, .int 6] ∧ IsS z t ∧ t.length ≤ 2000 ∧ ∀ H', Same H H' → Q (.bl (nm t)) H'
def spELine : Sp := fun vs H Q _ => ∃ (a : Addr) (ns : List N), vs = [.ref a] ∧ H a = some (.tup (ns.map flv)) ∧ EvOk ns ∧ ∀ H', Same H H' → Q (.str (S (wt ns))) H'
def spRead (A : Adr) : Sp := fun vs H Q E => ∃ (z : Str) (t : List Nat) (r : Option (List N)), vs = [.str z] ∧ IsS z t ∧ t.length ≤ 2000 ∧ RE t r ∧ FinR A Q E H t r
def spMixed : Sp := fun vs H Q _ => ∃ i j : Int, vs = [.int i, .int j] ∧ ∀ r : Int, 0 ≤ r → r < 2 ^ 31 → Q (.int r) H
def spDraw (K : PySem.W.Frag) : Sp := fun vs H Q _ => ∃ (a : Addr) (ns : List Int), vs = [.ref a] ∧ SqL K H a (ns.map V.int) ∧ ns.length ≤ 63 ∧ (∀ z ∈ ns, Builtin.Int.intBits z ≤ 1048576) ∧ ∀ p H', Same H H' → DrawAt H' p → H p = none → Q (.ref p) H'
def spTake : Sp := fun vs H Q _ => ∃ (p : Addr) (l : Int), vs = [.ref p, .int l] ∧ DrawAt H p ∧ 0 < l ∧ l ≤ 1000 ∧ ∀ (r : Int) H', 0 ≤ r → r < l → DrawAt H' p → SameBut p H H' → Q (.int r) H'
def spSame (d : Nat) : Sp := fun vs H Q _ => ∃ (x y : V) (n : Nat), vs = [x, y] ∧ Eqv H n x y ∧ n < d ∧ ∀ H', Same H H' → Q (.bl true) H'
def spForms : Sp := fun vs H Q _ => vs = [] ∧ ∀ a H', Same H H' → FormsAt H' a → Q (.ref a) H'
def spWr : Sp := fun vs H Q _ => ∃ (a : Addr) (ns : List N), vs = [.ref a] ∧ H a = some (.tup (ns.map flv)) ∧ EvOk ns ∧ ∀ H', Same H H' → Q (.str (S (wt ns))) H'
def spIsN : Sp := fun vs H Q _ => ∃ (z : Str) (t : List Nat), vs = [.str z] ∧ IsS z t ∧ t.length ≤ 2000 ∧ Cd t ∧ ∀ H', Same H H' → Q (.bl (nm t)) H'
def spLRd : Sp := fun vs H Q _ => ∃ (z : Str) (t : List Nat) (r : Option (List N)), vs = [.str z] ∧ IsS z t ∧ t.length ≤ 2000 ∧ Cd t ∧ RE t r ∧ FinL Q H r
def spSign : Sp := fun vs H Q _ => ∃ i : Int, vs = [.int i] ∧ ∀ z : Str, Sg z → Q (.str z) H
structure Nam (z : Str) : Prop where
  ex : ∃ t, z = S t ∧ NmOk t
def spName : Sp := fun vs H Q _ => ∃ p, vs = [.ref p] ∧ DrawAt H p ∧ ∀ (z : Str) H', Nam z → DrawAt H' p → SameBut p H H' → Q (.str z) H'
def spInt : Sp := fun vs H Q _ => ∃ p, vs = [.ref p] ∧ DrawAt H p ∧ ∀ (i : Int) H', 0 ≤ i → i ≤ 999999 → DrawAt H' p → SameBut p H H' → Q (.int i) H'
def spEvent : Sp := fun vs H Q _ => ∃ p, vs = [.ref p] ∧ DrawAt H p ∧ ∀ a ns H', EvOk ns → H' a = some (.tup (ns.map flv)) → DrawAt H' p → SameBut p H H' → Q (.ref a) H'
structure WsAt (H : Hp) (a : Addr) (n : Nat) : Prop where
  ex : ∃ l : List Str, H a = some (.lst (l.map V.str)) ∧ 1 ≤ l.length ∧ l.length ≤ n ∧ ∀ z ∈ l, z.length ≤ 70
def spOther : Sp := fun vs H Q _ => ∃ (a : Addr) (l : List Str) (w pl pk : Int), vs = [.ref a, .int w, .int pl, .int pk] ∧ H a = some (.lst (l.map V.str)) ∧ 1 ≤ l.length ∧ l.length ≤ 5 ∧ (∀ z ∈ l, Tx 60 z) ∧ 0 ≤ pl ∧ pl < l.length ∧ ∀ b (m : List Str) H', Same H H' → H' b = some (.lst (m.map V.str)) → m.length ≤ 11 → (∀ z ∈ m, Tx 70 z) → Q (.ref b) H'
def spChg : Sp := fun vs H Q _ => ∃ (p : Addr) (z : Str) (ns : List N), vs = [.ref p, .str z] ∧ DrawAt H p ∧ IsS z (wt ns) ∧ EvOk ns ∧ ∀ (u : List Nat) H', Tx 2000 (S u) → DrawAt H' p → SameBut p H H' → Q (.str (S u)) H'
def spAns (A : Adr) : Sp := fun vs H Q _ => ∃ (z : Str) (t : List Nat) (r : Option (List N)), vs = [.str z] ∧ IsS z t ∧ t.length ≤ 2000 ∧ RE t r ∧ FinA Q H t r
def spLaw (K : PySem.W.Frag) : Sp := fun vs H Q _ => ∃ (a : Addr) (ns : List Int), vs = [.ref a] ∧ SqL K H a (ns.map V.int) ∧ ns.length ≤ 63 ∧ (∀ z ∈ ns, Builtin.Int.intBits z ≤ 1048576) ∧ ∀ H', Q (.bl true) H'
abbrev lawLvl : Nat := 7
local macro_rules | `(tactic| walk_at "gb same") => `(tactic| ((with_reducible show Same _ _); first | assumption | exact Same.refl _ | ((with_reducible show Same _ (upd _ _ _)); first | (refine same_nw ?_ (by assumption); walk_at "gb same") | (refine same_put ?_ (by assumption); walk_at "gb same")) | (refine Same.trans ?_ (by assumption); walk_at "gb same") | fail))
local macro_rules | `(tactic| walk_at "gb but") => `(tactic| ((with_reducible show SameBut _ _ _); first | assumption | exact SameBut.refl | (refine Same.but ?_; (first | assumption | exact Same.refl _ )) | ((with_reducible show SameBut _ _ (upd _ _ _)); first | (refine but_own ?_; walk_at "gb but") | (refine put_but ?_ (by assumption); walk_at "gb but") | (refine but_nw ?_ (by assumption); walk_at "gb but")) | (refine SameBut.trans ?_ (by assumption); walk_at "gb but") | (refine SameBut.trans ?_ (Same.but (by assumption)); walk_at "gb but") | fail))
local macro_rules | `(tactic| walk_at "gb ne") => `(tactic| ((with_reducible show _ ≠ _); first | assumption | exact Ne.symm (by assumption) | exact none_ne (by assumption) (by walk_at "gb hp") | exact Ne.symm (none_ne (by assumption) (by walk_at "gb hp")) | ((refine ne_of (by assumption) ?h2 ?d2); (case h2 => walk_at "gb hp"); (case d2 => (intro z; cases z))) | fail))
local macro_rules | `(tactic| walk_at "gb hp") => `(tactic| ((with_reducible show _ = some _); first | assumption | ((with_reducible show upd _ _ _ _ = some _); first | exact upd_same | (refine upd_fr ?_ (by assumption); walk_at "gb hp") | (refine upd_df ?_ (by walk_at "gb ne"); walk_at "gb hp")) | (refine (by assumption : Same _ _) _ _ ?_; walk_at "gb hp") | (refine (by assumption : SameBut _ _ _) _ _ (by walk_at "gb ne") ?_; walk_at "gb hp") | fail | fail))
local macro_rules | `(tactic| walk_at "gb leaf") => `(tactic| (first | ((with_reducible show IntMulOk _ _); first |  exact mulR ⟨by omega, by omega⟩ | exact mulL ⟨by omega, by omega⟩) | ((first | (with_reducible show @LE.le _ _ _ _) | (with_reducible show @LT.lt _ _ _ _)); (first | (first | omega | decide +kernel | (simp only [List.length_append, List.length_map, List.length_cons, List.length_nil, List.length_take, List.length_zipWith, List.length_replicate]; omega) | (rw [sizeLine_eq]; (first | omega | (simp only [List.length_append, List.length_map, List.length_cons, List.length_nil, List.length_take, List.length_zipWith, List.length_replicate]; omega))) | (simp only [List.length_append, List.length_map, List.length_cons, List.length_nil, List.length_take, List.length_zipWith, List.length_replicate] at *; omega) | fail) | assumption | (rw [sizeLine_eq]; simp only [Str.length_append]; omega) | exact tx_le (by assumption) | fail)) | ((fail_if_success (with_reducible show IntMulOk _ _)); (fail_if_success (first | (with_reducible show @LE.le _ _ _ _) | (with_reducible show @LT.lt _ _ _ _))); first | exact rfl | assumption | ((with_reducible show _ = _); walk_at "gb hp") | (first | exact (by assumption : Txt _ _ _).x_BadEvent | exact (by assumption : Txt _ _ _).xc_BadEvent | exact (by assumption : Txt _ _ _).xm_BadEvent | exact (by assumption : Txt _ _ _).xs_BadEvent | exact (by assumption : Txt _ _ _).kt_BadEvent_BadEvent | exact (by assumption : Txt _ _ _).kt_BadEvent_GangError | exact (by assumption : Txt _ _ _).kt_BadEvent_ValueError | exact (by assumption : Txt _ _ _).kt_BadEvent_BadLine | exact (by assumption : Txt _ _ _).kt_BadEvent_BadName | fail) | (first | exact .own _ | exact .ty _ | exact .base (.int _) | exact .base (.str _) | exact .base (.tup (by walk_at "gb hp")) | exact .base (.lst (by walk_at "gb hp")) | exact kit_same | exact kit_ty (by decide +kernel) | exact .base .non | fail) | (first | ((with_reducible show SqL _ _ _ _); exact SqL.of (by walk_at "gb hp")) | ((with_reducible show SqT _ _ _ _); exact SqT.of (by walk_at "gb hp")) | ((with_reducible show SqL _ _ _ _ ∨ _); exact Or.inl (SqL.of (by walk_at "gb hp"))) | ((with_reducible show _ ∨ SqT _ _ _ _); exact Or.inr (SqT.of (by walk_at "gb hp"))) | ((with_reducible show SqT _ _ _ _ ∨ _); exact Or.inl (SqT.of (by walk_at "gb hp"))) | ((with_reducible show _ ∨ SqL _ _ _ _); exact Or.inr (SqL.of (by walk_at "gb hp"))) | ((with_reducible show ∃ _, SqT _ _ _ _); exact ⟨_, SqT.of (by walk_at "gb hp")⟩) | ((with_reducible show ∃ _, SqL _ _ _ _); exact ⟨_, SqL.of (by walk_at "gb hp")⟩) | fail) | (first | exact Or.inl ⟨rfl, _, SqL.of (by walk_at "gb hp")⟩ | exact .lst (SqL.of (by walk_at "gb hp")) (dpInts _) | exact .tup (SqT.of (by walk_at "gb hp")) (dpInts _) | exact .lst (SqL.of (by walk_at "gb hp")) (dpStrs _) | exact .tup (SqT.of (by walk_at "gb hp")) (dpStrs _) | exact .lst (SqL.of (by walk_at "gb hp")) .nil | exact .int _ | exact .str _ | exact .non | exact shL _ | exact shT _ | exact shSL (by assumption) | exact shST (by assumption) | exact fun _ h => h | exact flat_str _ | exact flat_int _ | fail) | (first | assumption | ((with_reducible show DrawAt _ _); first | assumption | exact DrawAt.mono (by assumption) (by walk_at "gb same")) | ((with_reducible show FormsAt _ _); first | assumption | exact FormsAt.mono (by assumption) (by walk_at "gb same")) | ((with_reducible show Eqv _ _ _ _); first | assumption | exact Eqv.str 0 _ | exact Eqv.int 0 _ | exact eqvNo (by walk_at "gb hp") (by walk_at "gb hp") | exact eqvYes (by walk_at "gb hp") (by walk_at "gb hp") (by walk_at "gb hp") (by walk_at "gb hp") (by omega) | exact eqvEv (by walk_at "gb hp") (by walk_at "gb hp") (by omega) | exact Eqv.mono (by walk_at "gb same") (by assumption)) | ((with_reducible show DrawAt _ _); exact DrawAt.put (by assumption) (by walk_at "gb hp") (by assumption)) | ((with_reducible show Cd _); exact cd_of (by assumption)) | fail) | walk_at "gb same" | walk_at "gb but" | (first | omega | decide +kernel | (simp only [List.length_append, List.length_map, List.length_cons, List.length_nil, List.length_take, List.length_zipWith, List.length_replicate]; omega) | (rw [sizeLine_eq]; (first | omega | (simp only [List.length_append, List.length_map, List.length_cons, List.length_nil, List.length_take, List.length_zipWith, List.length_replicate]; omega))) | (simp only [List.length_append, List.length_map, List.length_cons, List.length_nil, List.length_take, List.length_zipWith, List.length_replicate] at *; omega) | fail) | exact ⟨by omega, by omega⟩ | exact flat_tt _ | exact nl_is | ((with_reducible show ∃ z : Str, V.str _ = V.str z); exact ⟨_, rfl⟩) | ((with_reducible show SqL _ _ _ _); refine Same.seq ?ee (by assumption); (case ee => walk_at "gb same")) | ((with_reducible show SqL _ _ _ _ ∨ _); refine Or.inl (Same.seq ?ee (by assumption)); (case ee => walk_at "gb same")) | exact ⟨rfl⟩ | ((with_reducible show PySem.W.kitAny _ _ _ = _); first | exact kit_anyF (by assumption : Txt _ _ _).kt_BadEvent_BadLine (by assumption : Txt _ _ _).kt_BadEvent_BadName | exact kit_anyF (kit_ty (by decide +kernel)) (kit_ty (by decide +kernel)) | exact kit_anyT (kit_ty (by decide +kernel)) (kit_ty (by decide +kernel))) | ((with_reducible show Paired ClsV _ _); first | exact .cons (.own _) (.cons (.own _) .nil) | exact .cons (.ty _) (.cons (.ty _) .nil)) | ((with_reducible show ∃ _, SqL _ _ _ _); refine ⟨_, Same.seq ?ee (by assumption)⟩; (case ee => walk_at "gb same")) | exact sIx1 (by omega) _ | fail | fail) | fail))
local macro_rules | `(tactic| walk_at "gb num") => `(tactic| (first | omega | decide +kernel | (simp only [List.length_append, List.length_map, List.length_cons, List.length_nil, List.length_take, List.length_zipWith, List.length_replicate]; omega) | (rw [sizeLine_eq]; (first | omega | (simp only [List.length_append, List.length_map, List.length_cons, List.length_nil, List.length_take, List.length_zipWith, List.length_replicate]; omega))) | (simp only [List.length_append, List.length_map, List.length_cons, List.length_nil, List.length_take, List.length_zipWith, List.length_replicate] at *; omega) | fail))
local macro_rules | `(tactic| walk_at "gb step") => `(tactic| (first | ((with_reducible show RaiseG _ _ _ _ _ _); refine raiseG_in (by first | exact (by assumption : Txt _ _ _).x_BadEvent | exact (by assumption : Txt _ _ _).xc_BadEvent | exact (by assumption : Txt _ _ _).xm_BadEvent | exact (by assumption : Txt _ _ _).xs_BadEvent | exact (by assumption : Txt _ _ _).kt_BadEvent_BadEvent | exact (by assumption : Txt _ _ _).kt_BadEvent_GangError | exact (by assumption : Txt _ _ _).kt_BadEvent_ValueError | exact (by assumption : Txt _ _ _).kt_BadEvent_BadLine | exact (by assumption : Txt _ _ _).kt_BadEvent_BadName | fail) ?_) | ((show _ ∧ _); refine And.intro (by walk_at "gb leaf") ?_) | ((show (_ → _) ∧ (_ ≠ _ → _)); refine And.intro (fun _ => ?_) (fun h => absurd (by first | assumption | omega | (simp only [List.length_append, List.length_map, List.length_cons, List.length_nil, List.length_take, List.length_zipWith, List.length_replicate]; omega)) h)) | ((show Exists _); refine ⟨_, fun (_ : L2.St) (_ : Hp) h => h, ?_⟩) | ((show Exists _);  (fail_if_success show ∃ mm : Nat, mm < _ ∧ _); (fail_if_success refine Exists.intro (fun (_ : L2.St) (_ : Hp) => True) ?_); (fail_if_success refine Exists.intro (fun _ _ _ _ => True) ?_); (fail_if_success refine Exists.intro (fun (_ _ : Nat) (_ : List L2.V) (_ : L2.St) (_ : Hp) => True) ?_); (fail_if_success refine Exists.intro (fun _ _ _ => True) ?_); apply Exists.intro) | ((show ite _ _ _); (try (first | rw [eqv00] | rw [eqvL, decide_eq_true rfl] | rw [eqvT, decide_eq_true rfl] | rw [eqvL] | rw [eqvT] | rw [eqvSL, decide_eq_true rfl] | rw [eqvST, decide_eq_true rfl] | rw [eqvSL0] | rw [eqvSL] | rw [eqvST] | rw [inV_strs] | rw [inV_kv])); ((first | refine iteT ?_ | refine iteF ?_ | refine iteI (fun _ => ?_) (fun _ => ?_) | refine iteIN (fun _ => ?_) (fun _ => ?_) | refine iteD (fun _ => ?_) (fun _ => ?_) | refine iteDN (fun _ => ?_) (fun _ => ?_) | refine iteB (fun _ => ?_) (fun _ => ?_)) <;> try (exfalso; first | contradiction | omega | exact bool_abs (by assumption) (by assumption) | exact bool_abs2 (by assumption) (by assumption) | (rename_i hcc; revert hcc; simp; done)))) | ((show _ ∨ _); (first | (refine Or.inl ?_; apply Exists.intro; refine And.intro (by walk_at "gb leaf") ?_) | (refine Or.inr ?_; apply Exists.intro; refine And.intro (by walk_at "gb leaf") ?_) | (refine Or.inl (And.intro (by walk_at "gb leaf") ?_)) | (refine Or.inr (And.intro (by walk_at "gb leaf") ?_)))) | ((conv => whnf); (with_reducible show ∀ (x dx : Addr), _ = none → _ = none → dx ≠ x → _); first | fail) | (first | ((with_reducible show Same _ _); walk_at "gb same") | ((with_reducible show SameBut _ _ _); walk_at "gb but")) | ((show rIx _ _ _ _ _); first | (refine ix_l (by walk_at "gb leaf") (by walk_at "gb leaf") ?_) | (refine ix_t (by walk_at "gb leaf") (by walk_at "gb leaf") ?_)) | intro _))
local macro_rules | `(tactic| walk_at "gb go") => `(tactic| (repeat' walk_at "gb step"))

section
variable {P : Program} {w : World} {K : PySem.W.Frag} {mg : Str → Option Value} {base : Heap} {A : Adr}
theorem ok_GangError_init (T : Txt (w := w) K mg A) : FnOk P w K mg base CX0 1 A.f_GangError_init A.d_GangError_init ["self", "subject"] (spGI K) := by
  refine T.F_GangError_init.ok sc_GangError_init (fun vs H Q E h => ?_) (fun cdv Ar outer s H vs Q E hr h => ?_)
  · obtain ⟨a, C, v, rfl, _⟩ := h
    rfl
  · obtain ⟨a, C, v, rfl, hT, hn, ha, k⟩ := h
    refine ⟨_, (pss_one (ps_ost (pv 0) (pv 1))), ?_⟩
    exact ⟨_, rfl, _, rfl, a, C, rfl, hT, hn, .inl ⟨ha, k⟩⟩
theorem ok_is_digits (T : Txt (w := w) K mg A) : FnOk P w K mg base CX0 1 A.f_is_digits A.d_is_digits ["text"] (spDig) := by
  refine T.F_is_digits.ok sc_is_digits (fun vs H Q E h => ?_) (fun cdv Ar outer s H vs Q E hr h => ?_)
  · obtain ⟨z, t, rfl, _⟩ := h
    rfl
  · obtain ⟨z, t, rfl, hz, hl, k⟩ := h
    refine ⟨_, (pss_one (ps_ret (pe_and (pe_cmpR op_ne (pv 0) pe_str (nomark _)) (pe_one (pe_callB (cr_all rfl) (by rfl) T.n_all (by decide +kernel) (pa_cons (pe_lc (own := [("char", 1)]) (g := gName 1) (tt := tYes) rfl sc_is_digits.nd (pi_str (pv 0)) (blkOk_by (N := ["text", "char"]) (sc := defScope s_is_digits) (by decide +kernel)) (fun _ _ _ _ _ => (pg_name (i := 1) sc_is_digits.nd rfl (Or.inl rfl))) (fun _ _ _ _ _ => pts_nil) (fun _ _ _ _ _ => (pe_cmpR op_in_sign (pv 1) (pe_glob (v := .str (Str.ofString "0123456789")) rfl T.k_DIGITS.choose_spec ⟨_, rfl⟩) rfl))) pa_nil)))))), ?_⟩
    obtain ⟨rfl⟩ := hz
    walk_at "gb go"
    · rename_i h
      have z := k H (Same.refl _)
      rw [str_nil.mp h] at z
      exact z
    · rename_i h D hD
      have hne : t ≠ [] := fun z => h (str_nil.mpr z)
      refine lc_txt (t := t) (fun i Hq => Same H Hq ∧ Hq D = some (.lst (((t.map fun c => decide (c ∈ digs)).map V.bl).take i))) ⟨same_new hD, upd_same⟩ ?_ ?_
      · rintro i c H' hi ⟨s', hD'⟩
        walk_at "gb go"
        exact lc_end (get_bl hi rfl)
      · rintro HD ⟨sD, hDD⟩
        rw [take_all (by simp)] at hDD
        have z := k HD sD
        rw [isD_ne hne] at z
        exact ⟨D, _, rfl, SqL.of hDD, z⟩
theorem ok_is_number (T : Txt (w := w) K mg A) : FnOk P w K mg base CX0 2 A.f_is_number A.d_is_number ["word", "most"] (spNum) := by
  refine T.F_is_number.ok sc_is_number (fun vs H Q E h => ?_) (fun cdv Ar outer s H vs Q E hr h => ?_)
  · obtain ⟨z, t, rfl, _⟩ := h
    rfl
  · obtain ⟨z, t, rfl, hz, hl, k⟩ := h
    refine ⟨_, (pss_one (ps_ret (pe_and (pe_call (ok_is_digits T) (hr.mono (by decide)) rfl T.g_is_digits T.F_is_digits.kp T.b_is_digits .nil pass0 (pa_cons (pv 0) pa_nil)) (pe_and (pe_cmpR op_le (pe_callB call_len_str (by rfl) T.n_len (by decide +kernel) (pa_cons (pv 0) pa_nil)) (pv 1) (nomark _)) (pe_one (pe_or (pe_cmpR op_eq (pv 0) pe_str (nomark _)) (pe_one (pe_cmpR op_ne (pe_ix ix_str (pv 0) pe_int (fun _ _ => rfl)) pe_str (nomark _))))))))), ?_⟩
    obtain ⟨rfl⟩ := hz
    have hsz : (S t).length ≤ sizeLine := by rw [S_len, sizeLine_eq]; omega
    have hln := S_len t
    cases t with
    | nil =>
      have e0 : isD [] = false := rfl
      have e1 : nm [] = false := rfl
      rw [e1] at k
      walk_at "gb go"
      exact k _ (by assumption)
    | cons c r =>
      have hc0 : atI (S (c :: r)).cps.toList 0 = some c := atI_nat (j := 0) rfl
      walk_at "gb go"
      · rename_i h1 h2 h3
        rw [nmT h1 h2 h3] at k
        exact k _ (by assumption)
      · rename_i h1 h2 h3
        rw [nmX h1 h2 h3] at k
        exact k _ (by assumption)
      · rename_i h1 h2
        rw [nmF h2] at k
        exact k _ (by assumption)
      · rename_i h1
        rw [nmD h1] at k
        exact k _ (by assumption)
theorem ok_event_line (T : Txt (w := w) K mg A) : FnOk P w K mg base CX0 1 A.f_event_line A.d_event_line ["event"] (spELine) := by
  refine T.F_event_line.ok sc_event_line (fun vs H Q E h => ?_) (fun cdv Ar outer s H vs Q E hr h => ?_)
  · obtain ⟨a, ns, rfl, _⟩ := h
    rfl
  · obtain ⟨a, ns, rfl, ha, hE, k⟩ := h
    refine ⟨_, (pss_one (ps_ret (pe_join pe_str (pe_lc (own := [("item", 1)]) (g := gName 1) (tt := tYes) rfl sc_event_line.nd (pi_tupK K (pv 0)) (blkOk_by (N := ["event", "item"]) (sc := defScope s_event_line) (by decide +kernel)) (fun _ _ _ _ _ => (pg_name (i := 1) sc_event_line.nd rfl (Or.inl rfl))) (fun _ _ _ _ _ => pts_nil) (fun _ _ _ _ _ => (pe_callTy call_str2 (by rfl) T.n_str (by decide +kernel) (pa_cons (pv 1) pa_nil))))))), ?_⟩
    have hT := hE.txts
    have hF := ev_flat hE
    walk_at "gb go"
    rename_i D hD
    refine lc_tup (K := K) (a := a) (xs := ns.map flv) (fun i Hq => Same H Hq ∧ Hq D = some (.lst ((((ns.map N.txt).map S).map V.str).take i))) ⟨same_new hD, upd_same⟩ (fun i Hq _ h => SqT.of (h.1 _ _ ha)) ?_ ?_
    · rintro i x Hq hi ⟨s1, e1⟩
      obtain ⟨n, hn, rfl⟩ := getMapG hi
      have hi' : i < ns.length := (List.getElem?_eq_some_iff.mp hn).1
      rcases hF n (List.mem_of_getElem? hn) with ⟨w, rfl⟩ | ⟨m, hm, rfl⟩
      · have hv : flv (.wrd w) = .str (S w) := rfl
        rw [hv]
        walk_at "gb go"
        exact lc_end (by rw [List.getElem?_map, List.getElem?_map, List.getElem?_map, hn]; rfl)
      · have hv : flv (.num (m : Int)) = .int (m : Int) := rfl
        rw [hv]
        have hlg := log6 hm
        walk_at "gb go"
        exact lc_end (by rw [List.getElem?_map, List.getElem?_map, List.getElem?_map, hn]; exact congrArg (fun z => some (V.str z)) (numS (m : Int)).symm)
    · rintro Hq ⟨s1, e1⟩
      have e2 : Hq D = some (.lst (((ns.map N.txt).map S).map V.str)) := by rw [e1, take_all (by simp)]
      have hsz := sum60 (l := (ns.map N.txt).map S) (s := Str.ofString " ") (by
        intro z hz
        obtain ⟨t, ht, rfl⟩ := List.mem_map.mp hz
        rw [S_len]
        have := (hT.1 t ht).2
        omega) (by simp; omega) (by decide +kernel)
      walk_at "gb go"
      rw [join_wt]
      exact k _ s1
theorem ok_read_event (T : Txt (w := w) K mg A) : FnOk P w K mg base (L2.CX P w) 3 A.f_read_event A.d_read_event ["line"] (spRead A) := by
  refine T.F_read_event.okX sc_read_event (fun vs H Q E h => ?_) (fun cdv Ar outer s H vs Q E hr h => ?_)
  · obtain ⟨z, t, r, rfl, _⟩ := h
    rfl
  · obtain ⟨z, t, r, rfl, hz, hl, hr2, k⟩ := h
    refine ⟨_, (pss_cons (ps_asg (pe_bm PySem.F.plainAttrs_str PySem.F.slot_str_split PySem.F.type_str_split mt_split (pv 0) (pa_cons pe_str pa_nil)) (pg_star rfl (pgs_cons (pg_name (i := 1) sc_read_event.nd rfl (Or.inl rfl)) (pgs_cons (pg_name (i := 2) sc_read_event.nd rfl (Or.inl rfl)) pgs_nil))))
        (pss_cons (ps_if (PW.pt (pw_or (pt_cmpR (op_notIn_kdS T.D_FORMS) (pv 1) (pe_glob (v := .ref A.kd_FORMS) rfl T.g_FORMS rfl) (by rfl)) (pw_or1 (pt_cmpR op_ne (pe_callB (call_len_seqK K) (by rfl) T.n_len (by decide +kernel) (pa_cons (pv 2) pa_nil)) (pe_callB call_len_str (by rfl) T.n_len (by decide +kernel) (pa_cons (pe_ix (ix_kdS T.D_FORMS) (pe_glob (v := .ref A.kd_FORMS) rfl T.g_FORMS rfl) (pv 1) (fun _ _ => rfl)) pa_nil)) (nomark _))))) (pss_one (ps_raiseG rfl T.x_BadEvent (ok_GangError_init T) (hr.mono (by decide)) T.b_GangError_init rfl T.g_BadEvent (takes_of rfl rfl rfl rfl) (pv 0))) pss_nil)
        (pss_cons (ps_set (i := 3) sc_read_event.nd rfl (Or.inl rfl) (pe_lst pa_nil))
        (pss_cons (ps_for (passes_of rfl) rfl (pi_zipSLK K rfl T.n_zip (pa_cons (pe_ix (ix_kdS T.D_FORMS) (pe_glob (v := .ref A.kd_FORMS) rfl T.g_FORMS rfl) (pv 1) (fun _ _ => rfl)) (pa_cons (pv 2) pa_nil))) (pg_tup rfl (pgs_cons (pg_name (i := 4) sc_read_event.nd rfl (Or.inl rfl)) (pgs_cons (pg_name (i := 5) sc_read_event.nd rfl (Or.inl rfl)) pgs_nil)))
        (pss_cons (ps_if (PW.pt (pw_or (pt_cmpR op_eq (pv 5) pe_str (nomark _)) (pw_or (pt_cmpR op_in_sign pe_str (pv 5) rfl) (pw_or1 (PW.pt (pw_and (pt_cmpR op_eq (pv 4) pe_str (nomark _)) (pw_and1 (pt_not (pt_val (pe_call (ok_is_number T) (hr.mono (by decide)) rfl T.g_is_number T.F_is_number.kp T.b_is_number .nil pass0 (pa_cons (pv 5) (pa_cons (pe_glob (v := .int 6) rfl T.k_MOST_DIGITS.choose_spec ⟨_, rfl⟩) pa_nil))) (by intro _; rfl)))))))))) (pss_one (ps_raiseG rfl T.x_BadEvent (ok_GangError_init T) (hr.mono (by decide)) T.b_GangError_init rfl T.g_BadEvent (takes_of rfl rfl rfl rfl) (pv 0))) pss_nil)
        (pss_one (ps_expr (pe_bm PySem.F.plainAttrs_list PySem.F.slot_list_append PySem.F.type_list_append mt_append (pv 3) (pa_cons (pe_ifExp (pt_cmpR op_eq (pv 4) pe_str (nomark _)) (pe_callTy call_int_str (by rfl) T.n_int (by decide +kernel) (pa_cons (pv 5) pa_nil)) (pv 5)) pa_nil))))))
        (pss_one (ps_ret (pe_tup (pa_cons (pv 1) (StX.pa_star (pv 3) pa_nil))))))))), ?_⟩
    obtain ⟨rfl⟩ := hz
    have hkb := fun h => bd hr2 h k
    have hkf := fun {ns : List N} (h : rdE t = some ns) => fine hr2 h k
    clear k
    obtain ⟨w, ts, hpt⟩ : ∃ w ts, parts t = w :: ts := by
      cases e : parts t with
      | nil => exact absurd e (parts_ne t)
      | cons w ts => exact ⟨w, ts, rfl⟩
    have hrd := rdE_cons hpt
    have hcnt := parts_cnt t
    have hpl := parts_len t
    rw [hpt] at hcnt hpl
    repeat' ((fail_if_success (show _ ∧ rNewStrs _ _ _)); walk_at "gb step")
    rw [parts_split, hpt]
    refine ⟨by rw [S_len, sizeLine_eq]; omega, ?_⟩
    simp only [List.map_cons]
    have hl1 : ((ts.map S).map V.str).length = ts.length := by simp
    have hl2 : ((ts.map S).map V.str).length ≤ 16000 := by simp only [List.length_cons] at hcnt; omega
    cases hf : kdv EV.PF (S w) with
    | none =>
      rw [show fk (S w) = none from hf] at hrd
      have hns : (!(none : Option Str).isSome) = true := rfl
      rw [← hf] at hns
      walk_at "gb go"
      exact hkb hrd _ _ (by walk_at "gb same") upd_same
    | some ks =>
      rw [show fk (S w) = some ks from hf] at hrd
      have hns : (!(some ks : Option Str).isSome) = false := rfl
      rw [← hf] at hns
      have hfk := fk_ok hf
      have hkl := len_tl ks
      have hks : ks.length ≤ sizeLine := by have := hfk.len.2.2; rw [sizeLine_eq]; omega
      by_cases hlen : (tl ks).length = ts.length
      · walk_at "gb go"
        rename_i p0 hp0 D hD _ _ L hL
        have sL : Same H (upd (upd (upd H p0 (HO.lst (List.map V.str (S w :: List.map S ts)))) D (HO.lst (List.map V.str (List.map S ts)))) L (.lst [])) := by walk_at "gb same"
        have hD2 : (upd (upd (upd H p0 (HO.lst (List.map V.str (S w :: List.map S ts)))) D (HO.lst (List.map V.str (List.map S ts)))) L (.lst [])) D = some (HO.lst (List.map V.str (List.map S ts))) := by walk_at "gb hp"
        have s0 : Same H (upd (upd H p0 (HO.lst (List.map V.str (S w :: List.map S ts)))) D (HO.lst (List.map V.str (List.map S ts)))) := by walk_at "gb same"
        have fL : H L = none := s0.free hL
        have nDL : D ≠ L := ne_of_none upd_same hL
        have eL : (upd (upd (upd H p0 (HO.lst (List.map V.str (S w :: List.map S ts)))) D (HO.lst (List.map V.str (List.map S ts)))) L (.lst [])) L = some (.lst []) := upd_same
        generalize (upd (upd (upd H p0 (HO.lst (List.map V.str (S w :: List.map S ts)))) D (HO.lst (List.map V.str (List.map S ts)))) L (.lst [])) = H1 at sL hD2 eL ⊢
        refine for_it (walk_SL (K := K) (z := ks) (b := D) (ys := (ts.map S).map V.str) (by rw [hl1, ← hlen]; exact hkl)) (fun i σ H' => ∃ v4 v5 : Option V, σ = [some (.str (S t)), some (.str (S w)), some (.ref D), some (.ref L), v4, v5] ∧ Same H H' ∧ H' D = some (.lst ((ts.map S).map V.str)) ∧ ItsAt H' L (tl ks) ts i) ⟨_, _, rfl, sL, hD2, [], eL, .nil⟩ (fun i σ H' _ ⟨_, _, _, _, h, _⟩ => SqL.of h) ?_ ?_
        · rintro i x σ H' H2 hi ⟨v4, v5, rfl, s1, d1, ns, e1, so⟩ ⟨T, c, y, rfl, hT, rfl, hc, hy⟩
          obtain ⟨y1, hy1, rfl⟩ := getMapG hy
          obtain ⟨u, hu, rfl⟩ := getMapG hy1
          clear hL hD hp0 s0 eL
          have hkc : (tl ks)[i]? = some c := by rw [← Array.getElem?_toList] at hc; exact hc
          have hcW := hfk.ks c (List.mem_of_getElem? hkc)
          have hul : u.length ≤ 2000 := Nat.le_trans (hpl u (List.mem_cons_of_mem _ (List.mem_of_getElem? hu))) hl
          have hnl := so.1
          have hil : i < ts.length := (List.getElem?_eq_some_iff.mp hu).1
          have hsl : (ns.map flv).length < sizeLine := by rw [List.length_map, hnl, sizeLine_eq]; simp only [List.length_cons] at hcnt; omega
          have hbad : good c u = none → rdE t = none := fun g => by rw [hrd]; simp only [rdI_bad hkc hu g, Option.map_none]
          have mk : ∀ n, good c u = some n → ∀ (A9 : Hp), A9 L = some (.lst (ns.map flv ++ [flv n])) → ItsAt A9 L (tl ks) ts (i + 1) := fun n g A9 e => ⟨ns ++ [n], by rw [e, List.map_append]; rfl, so.snoc hkc hu g⟩
          cases hnm : nm u with
          | false =>
            have hnn : (!nm u) = true := by rw [hnm]; rfl
            walk_at "gb go"
            · rename_i h _ _
              exact hkb (hbad (by rw [str_nil.mp h]; exact good_nil)) _ _ (by walk_at "gb same") upd_same
            · rename_i h _ _
              exact hkb (hbad (good_nl h)) _ _ (by walk_at "gb same") upd_same
            · rename_i h _ _ _ _ _
              exact hkb (hbad (by rw [(sgn_iff big_N).mp h]; exact goodX hnm)) _ _ (by walk_at "gb same") upd_same
            · rename_i h1 h2 h3 _
              exact mk _ (goodW (fun e => h1 (str_nil.mpr e)) h2 (fun e => h3 ((sgn_iff big_N).mpr e))) _ upd_same
          | true =>
            have hnn : (!nm u) = false := by rw [hnm]; rfl
            have hin := int_dig (nm_isD hnm).1 (by have := (nm_isD hnm).2; omega)
            have hle : (S u).length ≤ 640 := by rw [S_len]; have := (nm_isD hnm).2; omega
            walk_at "gb go"
            · rename_i h _ _
              exact hkb (hbad (by rw [str_nil.mp h]; exact good_nil)) _ _ (by walk_at "gb same") upd_same
            · rename_i h _ _
              exact hkb (hbad (good_nl h)) _ _ (by walk_at "gb same") upd_same
            · rename_i h1 h2 h3 _ _ _ _
              have h3 := (sgn_iff big_N).mp h3
              subst h3
              exact mk _ (goodN (fun e => h1 (str_nil.mpr e)) h2 hnm) _ upd_same
            · rename_i h1 h2 h3 _
              exact mk _ (goodW (fun e => h1 (str_nil.mpr e)) h2 (fun e => h3 ((sgn_iff big_N).mpr e))) _ upd_same
        · rintro σ H' ⟨v4, v5, rfl, s1, d1, ns, e1, so⟩
          clear hL hD hp0 s0 eL
          rw [hl1] at so
          have hok := so.all hlen
          have hnl := so.1
          have hsl : (ns.map flv).length ≤ 16000 := by rw [List.length_map, hnl]; simp only [List.length_cons] at hcnt; omega
          walk_at "gb go"
          exact hkf (ns := .wrd w :: ns) (by rw [hrd]; simp only [hok, Option.map_some]) _ _ (by walk_at "gb same") (by rw [upd_same, List.append_nil]; rfl)
      · have hoff := rdI_off hlen
        walk_at "gb go"
        exact hkb (by rw [hrd]; simp only [hoff, Option.map_none]) _ _ (by walk_at "gb same") upd_same
theorem ok_mixed (T : Txt (w := w) K mg A) : FnOk P w K mg base CX0 1 A.f_mixed A.d_mixed ["_law_number", "_law_k"] (spMixed) := by
  refine T.F_mixed.ok sc_mixed (fun vs H Q E h => ?_) (fun cdv Ar outer s H vs Q E hr h => ?_)
  · obtain ⟨i, j, rfl, _⟩ := h
    rfl
  · obtain ⟨i, j, rfl, k⟩ := h
    refine ⟨_, (pss_cons (ps_set (i := 2) sc_mixed.nd rfl (Or.inl rfl) (pe_op op_mod (pe_callTy call_int1 (by rfl) T.n_int (by decide +kernel) (pa_cons (pe_op op_add (pe_op op_add (pe_op op_mulX (pv 0) pe_int) (pe_op op_mulX (pv 1) pe_int)) pe_int) pa_nil)) pe_int))
        (pss_cons (ps_set (i := 3) sc_mixed.nd rfl (Or.inl rfl) (pe_op op_mod (pe_callTy call_int1 (by rfl) T.n_int (by decide +kernel) (pa_cons (pe_op op_add (pe_op op_add (pe_op op_mulX (pe_op op_add (pe_op op_fdiv (pv 2) pe_int) pe_int) pe_int) (pe_op op_mulX (pe_op op_mod (pe_callTy call_int1 (by rfl) T.n_int (by decide +kernel) (pa_cons (pv 2) pa_nil)) pe_int) pe_int)) (pv 1)) pa_nil)) pe_int))
        (pss_one (ps_ret (pe_op op_fdiv (pv 3) pe_int))))), ?_⟩
    walk_at "gb go"
    exact k _ (by omega) (by omega)
theorem ok_drawing (T : Txt (w := w) K mg A) : FnOk P w K mg base CX0 2 A.f_drawing A.d_drawing ["_law_script"] (spDraw K) := by
  refine T.F_drawing.ok sc_drawing (fun vs H Q E h => ?_) (fun cdv Ar outer s H vs Q E hr h => ?_)
  · obtain ⟨a, ns, rfl, _⟩ := h
    rfl
  · obtain ⟨a, ns, rfl, hS, hl, hb, k⟩ := h
    refine ⟨_, (pss_cons (ps_set (i := 1) sc_drawing.nd rfl (Or.inr rfl) (pe_lst pa_nil))
        (pss_cons (ps_for PassesOwn.never rfl (pi_listK K (pv 0)) (pg_name (i := 2) sc_drawing.nd rfl (Or.inr rfl))
        (pss_cons (ps_if (pt_cmpR op_lt (pe_callB call_abs (by rfl) T.n_abs (by decide +kernel) (pa_cons (pv 2) pa_nil)) (pe_op op_pow pe_int pe_int) (nomark _)) (pss_one (ps_set (i := 1) sc_drawing.nd rfl (Or.inr rfl) (pe_op op_cat (pv 1) (pe_lc (own := [("_law_k", 6)]) (g := gName 6) (tt := tYes) rfl sc_drawing.nd (pi_range1 rfl T.n_range (pa_cons pe_int pa_nil)) (blkOk_by (N := ["_law_script", "_law_pool", "_law_cell", "_law_seed", "_law_number", "_law_rest", "_law_k"]) (sc := defScope s_drawing) (by decide +kernel)) (fun _ _ _ _ _ => (pg_name (i := 6) sc_drawing.nd rfl (Or.inl rfl))) (fun _ _ _ _ _ => pts_nil) (fun _ _ _ _ _ => (pe_call (ok_mixed T) (hr.mono (by decide)) rfl T.g_mixed T.F_mixed.kp T.b_mixed .nil pass0 (pa_cons (pv 2) (pa_cons (pe_op op_add (pe_callB (call_len_seqK K) (by rfl) T.n_len (by decide +kernel) (pa_cons (pv 1) pa_nil)) (pv 6)) pa_nil)))))))) pss_nil)
        (pss_cons (ps_set (i := 5) sc_drawing.nd rfl (Or.inl rfl) (pe_op op_mod (pe_callTy call_int1 (by rfl) T.n_int (by decide +kernel) (pa_cons (pe_callB call_abs (by rfl) T.n_abs (by decide +kernel) (pa_cons (pv 2) pa_nil)) pa_nil)) (pe_op op_pow pe_int pe_int)))
        (pss_one (ps_for PassesOwn.never rfl (pi_range1 rfl T.n_range (pa_cons (pe_op op_mulX pe_int (pe_callTy call_int1 (by rfl) T.n_int (by decide +kernel) (pa_cons (pe_cmpR op_ge (pe_callB call_abs (by rfl) T.n_abs (by decide +kernel) (pa_cons (pv 2) pa_nil)) (pe_op op_pow pe_int pe_int) (nomark _)) pa_nil))) pa_nil)) (pg_name (i := 6) sc_drawing.nd rfl (Or.inl rfl))
        (pss_one (ps_if (pt_cmpR op_gt (pv 5) pe_int (nomark _)) (pss_cons (ps_expr (pe_bm PySem.F.plainAttrs_list PySem.F.slot_list_append PySem.F.type_list_append mt_append (pv 1) (pa_cons (pe_op op_mod (pe_callTy call_int1 (by rfl) T.n_int (by decide +kernel) (pa_cons (pv 5) pa_nil)) pe_int) pa_nil)))
        (pss_one (ps_set (i := 5) sc_drawing.nd rfl (Or.inl rfl) (pe_op op_fdiv (pv 5) pe_int)))) pss_nil)))))))
        (pss_cons (ps_set (i := 3) sc_drawing.nd rfl (Or.inl rfl) (pe_callB (call_len_seqK K) (by rfl) T.n_len (by decide +kernel) (pa_cons (pv 1) pa_nil)))
        (pss_cons (ps_for PassesOwn.never rfl (pi_listK K (pe_slice sl_list (pv 1) po_none (po_some pe_int))) (pg_name (i := 4) sc_drawing.nd rfl (Or.inl rfl))
        (pss_one (ps_set (i := 3) sc_drawing.nd rfl (Or.inl rfl) (pe_op op_mod (pe_callTy call_int1 (by rfl) T.n_int (by decide +kernel) (pa_cons (pe_op op_add (pe_op op_mulX (pv 3) pe_int) (pv 4)) pa_nil)) pe_int))))
        (pss_one (ps_ret (pe_lst (pa_cons pe_int (pa_cons (pv 1) (pa_cons (pv 3) pa_nil)))))))))), ?_⟩
    walk_at "gb go"
    rename_i p0 hp0
    refine for_list (K := K) (a := a) (xs := ns.map V.int) (fun i σ H' => ∃ (p : Addr) (v2 v3 v4 v5 v6 : Option V), σ = [some (.ref a), some (.ref p), v2, v3, v4, v5, v6] ∧ Same H H' ∧ H p = none ∧ IL H' p (70 * i)) ⟨p0, _, _, _, _, _, rfl, same_new hp0, hp0, [], upd_same, by simp⟩ (fun i σ H' _ ⟨_, _, _, _, _, _, _, h, _⟩ => Same.seq h hS) ?_ ?_
    · rintro i x σ H' hx ⟨p, v2, v3, v4, v5, v6, rfl, s1, fp, ms, hP, hml⟩
      obtain ⟨z, hz, rfl⟩ := getMapG hx
      have hbz := hb z (List.mem_of_getElem? hz)
      have hi' : i < ns.length := (List.getElem?_eq_some_iff.mp hz).1
      have hml2 : (ms.map V.int).length = ms.length := List.length_map ..
      walk_at "gb go"
      · rename_i hlt D hD
        refine lc_range (fun j Hq => Same H' Hq ∧ IL Hq D j) ⟨same_new hD, [], upd_same, by simp⟩ ?_ ?_
        · rintro j Hq hj ⟨s2, cs, e2, hcl⟩
          have hcl2 : (cs.map V.int).length = cs.length := List.length_map ..
          have hsl : (cs.map V.int).length < sizeLine := by rw [sizeLine_eq]; omega
          walk_at "gb go"
          exact ⟨cs ++ [_], by rw [List.map_append]; exact upd_same, by rw [List.length_append]; simp only [List.length_cons, List.length_nil]; omega⟩
        · rintro Hq ⟨s2, cs, e2, hcl⟩
          have hcl2 : (cs.map V.int).length = cs.length := List.length_map ..
          have hcl3 : cs.length ≤ 8 := hcl
          walk_at "gb go"
          rename_i p2 hp2
          have s5 : Same H Hq := s1.trans s2
          have fp2 : H p2 = none := s5.free hp2
          refine for_range (fun j σ Hq => ∃ (v6 : Option V) (rest : Int), σ = [some (.ref a), some (.ref p2), some (.int z), v3, v4, some (.int rest), v6] ∧ Same H Hq ∧ IL Hq p2 ((70 * i + 8) + j)) ⟨_, _, rfl, same_nw s5 hp2, ⟨ms ++ cs, by rw [List.map_append]; exact upd_same, by rw [List.length_append]; omega⟩⟩ ?_ ?_
          · rintro j σ Hq hj ⟨v6', rest, rfl, s3, ms2, e3, hm3⟩
            have hj2 : j < 60 := by (have := hj; split at this <;> omega)
            have hm4 : (ms2.map V.int).length = ms2.length := List.length_map ..
            have hsl : (ms2.map V.int).length < sizeLine := by rw [sizeLine_eq]; omega
            walk_at "gb go"
            · exact ⟨ms2 ++ [_], by rw [List.map_append]; exact upd_same, by rw [List.length_append]; simp only [List.length_cons, List.length_nil]; omega⟩
            · exact ⟨ms2, e3, by omega⟩
          · rintro σ Hq ⟨v6', rest, rfl, s3, hI⟩
            exact ⟨p2, _, _, _, _, _, rfl, s3, fp2, hI.le (by split <;> omega)⟩
      · rename_i hlt
        refine for_range (fun j σ Hq => ∃ (v6 : Option V) (rest : Int), σ = [some (.ref a), some (.ref p), some (.int z), v3, v4, some (.int rest), v6] ∧ Same H Hq ∧ IL Hq p (70 * i + j)) ⟨_, _, rfl, s1, ⟨ms, hP, hml⟩⟩ ?_ ?_
        · rintro j σ Hq hj ⟨v6', rest, rfl, s3, ms2, e3, hm3⟩
          have hj2 : j < 60 := by (have := hj; split at this <;> omega)
          have hm4 : (ms2.map V.int).length = ms2.length := List.length_map ..
          have hsl : (ms2.map V.int).length < sizeLine := by rw [sizeLine_eq]; omega
          walk_at "gb go"
          · exact ⟨ms2 ++ [_], by rw [List.map_append]; exact upd_same, by rw [List.length_append]; simp only [List.length_cons, List.length_nil]; omega⟩
          · exact ⟨ms2, e3, by omega⟩
        · rintro σ Hq ⟨v6', rest, rfl, s3, hI⟩
          exact ⟨p, _, _, _, _, _, rfl, s3, fp, hI.le (by split <;> omega)⟩
    · rintro σ H' ⟨p, v2, v3, v4, v5, v6, rfl, s1, fp, ms, hP, hml⟩
      have hml2 : (ms.map V.int).length = ms.length := List.length_map ..
      walk_at "gb go"
      rename_i T hT0
      have s6 : Same H (upd H' T (.lst (cutV (ms.map V.int) none (some 9)))) := same_nw s1 hT0
      refine for_list (K := K) (a := T) (xs := cutV (ms.map V.int) none (some 9)) (fun i σ Hq => ∃ (sd : Int) (v4 : Option V), σ = [some (.ref a), some (.ref p), v2, some (.int sd), v4, v5, v6] ∧ Same (upd H' T (.lst (cutV (ms.map V.int) none (some 9)))) Hq) ⟨_, _, rfl, Same.refl _⟩ (fun i σ Hq _ ⟨_, _, _, h⟩ => SqL.of (h _ _ upd_same)) ?_ ?_
      · rintro i x σ Hq hx ⟨sd, v4', rfl, s2⟩
        rw [cutV_mapG] at hx
        obtain ⟨z, hz, rfl⟩ := getMapG hx
        walk_at "gb go"
      · rintro σ Hq ⟨sd, v4', rfl, s2⟩
        have hPq : Hq p = some (.lst (ms.map V.int)) := s2 _ _ (by walk_at "gb hp")
        have s7 : Same H Hq := s6.trans s2
        walk_at "gb go"
        rename_i R hR
        exact k R _ (same_nw s7 hR) ⟨p, 0, sd, ms, upd_same, by walk_at "gb hp", ne_of_none hPq hR, by omega⟩ (s7.free hR)
theorem ok_take (T : Txt (w := w) K mg A) : FnOk P w K mg base CX0 2 A.f_take A.d_take ["_law_draws", "_law_limit"] (spTake) := by
  refine T.F_take.ok sc_take (fun vs H Q E h => ?_) (fun cdv Ar outer s H vs Q E hr h => ?_)
  · obtain ⟨p, l, rfl, _⟩ := h
    rfl
  · obtain ⟨p, l, rfl, hP, hl0, hl1, k⟩ := h
    refine ⟨_, (pss_cons (ps_set (i := 2) sc_take.nd rfl (Or.inl rfl) (pe_ix (ix_listK K) (pv 0) pe_int (fun _ _ => rfl)))
        (pss_cons (ps_asg (pe_op op_add (pv 2) pe_int) (pg_sub (pv 0) pe_int set_list))
        (pss_cons (ps_if (pt_cmpR op_lt (pv 2) (pe_callB (call_len_seqK K) (by rfl) T.n_len (by decide +kernel) (pa_cons (pe_ix (ix_listK K) (pv 0) pe_int (fun _ _ => rfl)) pa_nil)) (nomark _)) (pss_one (ps_ret (pe_op op_mod (pe_callTy call_int1 (by rfl) T.n_int (by decide +kernel) (pa_cons (pe_ix (ix_listK K) (pe_ix (ix_listK K) (pv 0) pe_int (fun _ _ => rfl)) (pv 2) (fun _ _ => rfl)) pa_nil)) (pv 1)))) pss_nil)
        (pss_cons (ps_if (pt_cmpR (op_eqDK K hr.units) (pe_ix (ix_listK K) (pv 0) pe_int (fun _ _ => rfl)) (pe_lst pa_nil) (nomark _)) (pss_one (ps_ret (pe_op op_mod (pe_callTy call_int1 (by rfl) T.n_int (by decide +kernel) (pa_cons (pe_op op_add (pe_op op_mulX (pv 2) pe_int) (pe_op op_mulX (pe_op op_fdiv (pv 2) pe_int) pe_int)) pa_nil)) (pv 1)))) pss_nil)
        (pss_one (ps_ret (pe_op op_mod (pe_callTy call_int1 (by rfl) T.n_int (by decide +kernel) (pa_cons (pe_call (ok_mixed T) (hr.mono (by decide)) rfl T.g_mixed T.F_mixed.kp T.b_mixed .nil pass0 (pa_cons (pe_ix (ix_listK K) (pv 0) pe_int (fun _ _ => rfl)) (pa_cons (pv 2) pa_nil))) pa_nil)) (pv 1)))))))), ?_⟩
    obtain ⟨q, i, sd, ms, hp, hq, nq, hi⟩ := id hP
    have hml : (ms.map V.int).length = ms.length := List.length_map ..
    have fin : ∀ (z : Int) H', SameBut p H H' → H' p = some (.lst [.int (i + 1), .ref q, .int sd]) → Q (.int (z % l)) H' := fun z H' s e => k _ _ (modr hl0).1 (modr hl0).2 ⟨q, i + 1, sd, ms, e, s _ _ nq hq, nq, by omega⟩ s
    by_cases h : i < ms.length
    · obtain ⟨z, hz⟩ : ∃ z, atI (ms.map V.int) i = some (.int z) := by
        obtain ⟨j, rfl⟩ : ∃ j : Nat, i = (j : Int) := ⟨i.toNat, by omega⟩
        exact ⟨ms[j]'(by omega), atI_nat (by rw [List.getElem?_map, List.getElem?_eq_getElem (by omega)]; rfl)⟩
      walk_at "gb go"
      exact fin _ _ (by walk_at "gb but") upd_same
    · walk_at "gb go"
      all_goals (exact fin _ _ (by walk_at "gb but") (by walk_at "gb hp"))
theorem st_same (T : Txt (w := w) K mg A) (d : Nat) (IH : FnOk P w K mg base CX0 d A.f_same A.d_same ["_law_told", "_law_due"] (spSame d)) : FnOk P w K mg base CX0 (d + 1) A.f_same A.d_same ["_law_told", "_law_due"] (spSame (d + 1)) := by
  refine T.F_same.ok sc_same (fun vs H Q E h => ?_) (fun cdv Ar outer s H vs Q E hr h => ?_)
  · obtain ⟨x, y, n, rfl, _⟩ := h
    rfl
  · obtain ⟨x, y, n, rfl, hE, hn, k⟩ := h
    refine ⟨_, (pss_cons (ps_if (pt_val (pe_callB call_isiT (by rfl) T.n_isinstance (by decide +kernel) (pa_cons (pv 1) (pa_cons (pe_tup (pa_cons (pe_bltn (v := .ty "list") (by rfl) T.n_list (by decide +kernel) rfl) (pa_cons (pe_bltn (v := .ty "tuple") (by rfl) T.n_tuple (by decide +kernel) rfl) pa_nil))) pa_nil))) (by intro _; rfl)) (pss_cons (ps_if (PW.pt (pw_or (pt_not (pt_val (pe_callB call_isiT (by rfl) T.n_isinstance (by decide +kernel) (pa_cons (pv 0) (pa_cons (pe_tup (pa_cons (pe_bltn (v := .ty "list") (by rfl) T.n_list (by decide +kernel) rfl) (pa_cons (pe_bltn (v := .ty "tuple") (by rfl) T.n_tuple (by decide +kernel) rfl) pa_nil))) pa_nil))) (by intro _; rfl))) (pw_or1 (pt_cmpR op_ne (pe_callB (call_isiK' K) (by rfl) T.n_isinstance (by decide +kernel) (pa_cons (pv 0) (pa_cons (pe_bltn (v := .ty "list") (by rfl) T.n_list (by decide +kernel) rfl) pa_nil))) (pe_callB (call_isiK' K) (by rfl) T.n_isinstance (by decide +kernel) (pa_cons (pv 1) (pa_cons (pe_bltn (v := .ty "list") (by rfl) T.n_list (by decide +kernel) rfl) pa_nil))) (nomark _))))) (pss_one (ps_ret pe_bl)) pss_nil)
        (pss_cons (ps_if (pt_cmpR op_ne (pe_callB (call_len_seqK K) (by rfl) T.n_len (by decide +kernel) (pa_cons (pv 0) pa_nil)) (pe_callB (call_len_seqK K) (by rfl) T.n_len (by decide +kernel) (pa_cons (pv 1) pa_nil)) (nomark _)) (pss_one (ps_ret pe_bl)) pss_nil)
        (pss_one (ps_ret (pe_cmpR (op_notIn_seqK K) pe_bl (pe_lc (own := [("_law_k", 2)]) (g := gName 2) (tt := tYes) rfl sc_same.nd (pi_range1 rfl T.n_range (pa_cons (pe_callB (call_len_seqK K) (by rfl) T.n_len (by decide +kernel) (pa_cons (pv 1) pa_nil)) pa_nil)) (blkOk_by (N := ["_law_told", "_law_due", "_law_k"]) (sc := defScope s_same) (by decide +kernel)) (fun _ _ _ _ _ => (pg_name (i := 2) sc_same.nd rfl (Or.inl rfl))) (fun _ _ _ _ _ => pts_nil) (fun _ _ _ _ _ => (pe_call IH (hr.mono (by omega)) rfl T.g_same T.F_same.kp T.b_same .nil pass0 (pa_cons (pe_ix (ix_seqK K) (pv 0) (pv 2) (fun _ _ => rfl)) (pa_cons (pe_ix (ix_seqK K) (pv 1) (pv 2) (fun _ _ => rfl)) pa_nil))))) rfl))))) pss_nil)
        (pss_cons (ps_if (pt_cmpR op_isN (pv 1) pe_non (nomark _)) (pss_one (ps_ret (pe_cmpR op_isN (pv 0) pe_non (nomark _)))) pss_nil)
        (pss_cons (ps_if (pt_cmpR op_ne (pe_callB (call_isiK' K) (by rfl) T.n_isinstance (by decide +kernel) (pa_cons (pv 0) (pa_cons (pe_bltn (v := .ty "bool") (by rfl) T.n_bool (by decide +kernel) rfl) pa_nil))) (pe_callB (call_isiK' K) (by rfl) T.n_isinstance (by decide +kernel) (pa_cons (pv 1) (pa_cons (pe_bltn (v := .ty "bool") (by rfl) T.n_bool (by decide +kernel) rfl) pa_nil))) (nomark _)) (pss_one (ps_ret pe_bl)) pss_nil)
        (pss_cons (ps_if (pt_cmpR op_ne (pe_callB (call_isiK' K) (by rfl) T.n_isinstance (by decide +kernel) (pa_cons (pv 0) (pa_cons (pe_bltn (v := .ty "str") (by rfl) T.n_str (by decide +kernel) rfl) pa_nil))) (pe_callB (call_isiK' K) (by rfl) T.n_isinstance (by decide +kernel) (pa_cons (pv 1) (pa_cons (pe_bltn (v := .ty "str") (by rfl) T.n_str (by decide +kernel) rfl) pa_nil))) (nomark _)) (pss_one (ps_ret pe_bl)) pss_nil)
        (pss_one (ps_ret (pe_and (pe_callB call_isiT (by rfl) T.n_isinstance (by decide +kernel) (pa_cons (pv 0) (pa_cons (pe_tup (pa_cons (pe_bltn (v := .ty "int") (by rfl) T.n_int (by decide +kernel) rfl) (pa_cons (pe_bltn (v := .ty "str") (by rfl) T.n_str (by decide +kernel) rfl) pa_nil))) pa_nil))) (pe_one (pe_cmpR op_eq (pv 0) (pv 1) (nomark _)))))))))), ?_⟩
    cases hE with
    | non =>
      walk_at "gb go"
      exact k _ (by walk_at "gb same")
    | int =>
      walk_at "gb go"
      rw [decide_eq_true rfl]
      exact k _ (by walk_at "gb same")
    | str =>
      walk_at "gb go"
      rw [decide_eq_true rfl]
      exact k _ (by walk_at "gb same")
    | tup ha hb hl hn2 h =>
      rename_i d0 aa bb xs ys
      walk_at "gb go"
      rename_i p1 hp1 p2 hp2 _ D hD
      have s0 : Same H (upd (upd H p1 (HO.tup [V.ty "list", V.ty "tuple"])) p2 (HO.tup [V.ty "list", V.ty "tuple"])) := by walk_at "gb same"
      generalize upd (upd H p1 (HO.tup [V.ty "list", V.ty "tuple"])) p2 (HO.tup [V.ty "list", V.ty "tuple"]) = H1 at s0 hD ⊢
      refine lc_range (lo := 0) (n := ((ys.length : Nat) : Int).toNat) (fun i Hq => Same H1 Hq ∧ Hq D = some (.lst ((List.replicate ys.length (V.bl true)).take i))) ⟨same_new hD, upd_same⟩ ?_ ?_
      · rintro i Hq hi ⟨s1, e1⟩
        have hi' : i < ys.length := by omega
        obtain ⟨x, hx⟩ : ∃ x, xs[i]? = some x := ⟨_, List.getElem?_eq_getElem (by omega)⟩
        obtain ⟨y, hy⟩ : ∃ y, ys[i]? = some y := ⟨_, List.getElem?_eq_getElem hi'⟩
        have hE1 : Eqv Hq d0 x y := (h i x y hx hy).mono (s0.trans s1)
        have ax : atI xs (0 + (i : Int)) = some x := by rw [Int.zero_add]; exact atI_nat hx
        have ay : atI ys (0 + (i : Int)) = some y := by rw [Int.zero_add]; exact atI_nat hy
        have hlt : d0 < d := by omega
        have hsl : ((List.replicate ys.length (V.bl true)).take i).length < sizeLine := by
          rw [List.length_take, List.length_replicate, sizeLine_eq]; omega
        walk_at "gb go"
        exact lc_end (rep_lc hi')
      · rintro Hq ⟨s1, e1⟩
        rw [Int.toNat_natCast, take_all (by simp)] at e1
        walk_at "gb go"
        rw [inV_tt]
        exact k _ (by walk_at "gb same")
theorem ok_same (T : Txt (w := w) K mg A) : ∀ d : Nat, FnOk P w K mg base CX0 d A.f_same A.d_same ["_law_told", "_law_due"] (spSame d)
  | 0 => ⟨fun _ _ _ _ ⟨_, _, _, _, _, h, _⟩ => absurd h (Nat.not_lt_zero _), fun _ _ _ _ _ _ _ _ _ _ _ _ _ ⟨_, _, _, _, _, h, _⟩ => absurd h (Nat.not_lt_zero _)⟩
  | d + 1 => st_same T d (ok_same T d)
theorem ok_forms (T : Txt (w := w) K mg A) : FnOk P w K mg base CX0 1 A.f_forms A.d_forms [] (spForms) := by
  refine T.F_forms.ok sc_forms (fun vs H Q E h => ?_) (fun cdv Ar outer s H vs Q E hr h => ?_)
  · obtain ⟨rfl, _⟩ := h
    rfl
  · obtain ⟨rfl, k⟩ := h
    refine ⟨_, (pss_one (ps_ret (pe_lst (pa_cons (pe_tup (pa_cons pe_str (pa_cons pe_str pa_nil))) (pa_cons (pe_tup (pa_cons pe_str (pa_cons pe_str pa_nil))) (pa_cons (pe_tup (pa_cons pe_str (pa_cons pe_str pa_nil))) (pa_cons (pe_tup (pa_cons pe_str (pa_cons pe_str pa_nil))) (pa_cons (pe_tup (pa_cons pe_str (pa_cons pe_str pa_nil))) (pa_cons (pe_tup (pa_cons pe_str (pa_cons pe_str pa_nil))) (pa_cons (pe_tup (pa_cons pe_str (pa_cons pe_str pa_nil))) (pa_cons (pe_tup (pa_cons pe_str (pa_cons pe_str pa_nil))) (pa_cons (pe_tup (pa_cons pe_str (pa_cons pe_str pa_nil))) (pa_cons (pe_tup (pa_cons pe_str (pa_cons pe_str pa_nil))) (pa_cons (pe_tup (pa_cons pe_str (pa_cons pe_str pa_nil))) (pa_cons (pe_tup (pa_cons pe_str (pa_cons pe_str pa_nil))) (pa_cons (pe_tup (pa_cons pe_str (pa_cons pe_str pa_nil))) pa_nil)))))))))))))))), ?_⟩
    walk_at "gb go"
    refine k _ _ (by walk_at "gb same") ⟨_, upd_same, rfl, fun i p h => ?_⟩
    rcases i with _ | _ | _ | _ | _ | _ | _ | _ | _ | _ | _ | _ | _ | i
    · cases h; exact ⟨_, rfl, by walk_at "gb hp"⟩
    · cases h; exact ⟨_, rfl, by walk_at "gb hp"⟩
    · cases h; exact ⟨_, rfl, by walk_at "gb hp"⟩
    · cases h; exact ⟨_, rfl, by walk_at "gb hp"⟩
    · cases h; exact ⟨_, rfl, by walk_at "gb hp"⟩
    · cases h; exact ⟨_, rfl, by walk_at "gb hp"⟩
    · cases h; exact ⟨_, rfl, by walk_at "gb hp"⟩
    · cases h; exact ⟨_, rfl, by walk_at "gb hp"⟩
    · cases h; exact ⟨_, rfl, by walk_at "gb hp"⟩
    · cases h; exact ⟨_, rfl, by walk_at "gb hp"⟩
    · cases h; exact ⟨_, rfl, by walk_at "gb hp"⟩
    · cases h; exact ⟨_, rfl, by walk_at "gb hp"⟩
    · cases h; exact ⟨_, rfl, by walk_at "gb hp"⟩
    · cases h
theorem ok_written (T : Txt (w := w) K mg A) : FnOk P w K mg base CX0 1 A.f_written A.d_written ["_law_event"] (spWr) := by
  refine T.F_written.ok sc_written (fun vs H Q E h => ?_) (fun cdv Ar outer s H vs Q E hr h => ?_)
  · obtain ⟨a, ns, rfl, _⟩ := h
    rfl
  · obtain ⟨a, ns, rfl, ha, hE, k⟩ := h
    refine ⟨_, (pss_cons (ps_set (i := 1) sc_written.nd rfl (Or.inl rfl) (pe_ix (ix_tupK K) (pv 0) pe_int (fun _ _ => rfl)))
        (pss_cons (ps_for PassesOwn.never rfl (pi_tupK K (pe_slice sl_tup (pv 0) (po_some pe_int) po_none)) (pg_name (i := 2) sc_written.nd rfl (Or.inl rfl))
        (pss_one (ps_set (i := 1) sc_written.nd rfl (Or.inl rfl) (pe_op op_add_str (pe_op op_add_str (pv 1) pe_str) (pe_callTy call_str2 (by rfl) T.n_str (by decide +kernel) (pa_cons (pv 2) pa_nil))))))
        (pss_one (ps_ret (pv 1))))), ?_⟩
    have hT := hE.txts
    have hF := ev_flat hE
    obtain ⟨w, ks, its, rfl, hf, hl, hi⟩ := id hE.ex
    have h0 : atI ((N.wrd w :: its).map flv) 0 = some (.str (S w)) := atI_nat (j := 0) rfl
    have hn1 : 1 ≤ ((N.wrd w :: its).map flv).length := by simp
    have hbl : (Str.ofString " ").length = 1 := by decide +kernel
    repeat' ((fail_if_success (show ∀ p : Addr, _ = none → _)); walk_at "gb step")
    rw [cut1]
    intro T hT0
    have fT : H T = none := hT0
    walk_at "gb go"
    refine for_tup (K := K) (a := T) (xs := its.map flv) (fun i σ H' => ∃ v : Option V, σ = [some (.ref a), some (.str (S (TL.joinL [32] ((N.wrd w :: its.take i).map N.txt)))), v] ∧ Same (upd H T (.tup (its.map flv))) H') ⟨_, rfl, Same.refl _⟩ (fun i σ H' _ ⟨_, _, h⟩ => SqT.of (h _ _ upd_same)) ?_ ?_
    · rintro i x σ H' hx ⟨v, rfl, s1⟩
      obtain ⟨n, hn, rfl⟩ := getMapG hx
      have hmem : n ∈ N.wrd w :: its := List.mem_cons_of_mem _ (List.mem_of_getElem? hn)
      have hnl := (hT.1 n.txt (List.mem_map_of_mem hmem)).2
      have htl : (S (TL.joinL [32] ((N.wrd w :: its.take i).map N.txt))).length ≤ 305 := by
        rw [S_len]
        have := joinL_len (m := 60) (ts := (N.wrd w :: its.take i).map N.txt) (by
          intro p hp
          obtain ⟨n, hn, rfl⟩ := List.mem_map.mp hp
          refine (hT.1 _ (List.mem_map_of_mem ?_)).2
          rcases List.mem_cons.mp hn with e | e
          · rw [e]; exact List.mem_cons_self
          · exact List.mem_cons_of_mem _ (List.mem_of_mem_take e))
        rw [List.length_map, List.length_cons, List.length_take] at this
        have h5 := hT.2.2
        rw [List.length_cons] at h5
        have h6 : min i its.length + 1 ≤ 5 := by omega
        have := Nat.mul_le_mul_right 61 h6
        omega
      have hst := wsnoc (ns := N.wrd w :: its.take i) (n := n) (by simp)
      rw [← wcut hn] at hst
      rcases hF n hmem with ⟨u, rfl⟩ | ⟨m, hm, rfl⟩
      · have hv : flv (.wrd u) = .str (S u) := rfl
        have hul : (S u).length ≤ 60 := by rw [S_len]; exact hnl
        rw [hv]
        walk_at "gb go"
        exact ⟨by rw [hst]; rfl, s1⟩
      · have hv : flv (.num (m : Int)) = .int (m : Int) := rfl
        have hul : (Str.ofString (toString (m : Int))).length ≤ 60 := by rw [numS, S_len]; exact hnl
        have hlg := log6 hm
        rw [hv]
        walk_at "gb go"
        exact ⟨by rw [hst, numS]; rfl, s1⟩
    · rintro σ H' ⟨v, rfl, s1⟩
      walk_at "gb go"
      rw [List.length_map, List.take_length]
      exact k _ ((same_new fT).trans s1)
theorem ok_l_is_number (T : Txt (w := w) K mg A) : FnOk P w K mg base CX0 1 A.f_l_is_number A.d_l_is_number ["_law_word"] (spIsN) := by
  refine T.F_l_is_number.ok sc_l_is_number (fun vs H Q E h => ?_) (fun cdv Ar outer s H vs Q E hr h => ?_)
  · obtain ⟨z, t, rfl, _⟩ := h
    rfl
  · obtain ⟨z, t, rfl, hz, hl, hcd, k⟩ := h
    refine ⟨_, (pss_cons (ps_if (PW.pt (pw_or (pt_cmpR op_eq (pv 0) pe_str (nomark _)) (pw_or (pt_cmpR op_gt (pe_callB call_len_str (by rfl) T.n_len (by decide +kernel) (pa_cons (pv 0) pa_nil)) pe_int (nomark _)) (pw_or1 (PW.pt (pw_and (pt_cmpR op_gt (pe_callB call_len_str (by rfl) T.n_len (by decide +kernel) (pa_cons (pv 0) pa_nil)) pe_int (nomark _)) (pw_and1 (pt_cmpR op_eq (pe_ix ix_str (pv 0) pe_int (fun _ _ => rfl)) pe_str (nomark _))))))))) (pss_one (ps_ret pe_bl)) pss_nil)
        (pss_one (ps_ret (pe_cmpR (op_eqDK K hr.units) (pe_lc (own := [("_law_sign_here", 1)]) (g := gName 1) rfl sc_l_is_number.nd (pi_str (pv 0)) (blkOk_by (N := ["_law_word", "_law_sign_here"]) (sc := defScope s_l_is_number) (by decide +kernel)) (fun _ _ _ _ _ => (pg_name (i := 1) sc_l_is_number.nd rfl (Or.inl rfl))) (fun _ _ _ _ _ => pts_one (pt_cmpR op_notIn_sign (pv 1) pe_str rfl)) (fun _ _ _ _ _ => (pv 1))) (pe_lst pa_nil) (nomark _))))), ?_⟩
    obtain ⟨rfl⟩ := hz
    have hsz : (S t).length ≤ sizeLine := by rw [S_len, sizeLine_eq]; omega
    have hln := S_len t
    cases t with
    | nil =>
      have e1 : nm [] = false := rfl
      rw [e1] at k
      have hem : V.str (S []) = V.str (Str.ofString "") := str_nil.mpr rfl
      walk_at "gb go"
      exact k _ (Same.refl _)
    | cons c r =>
      have hc0 : atI (S (c :: r)).cps.toList 0 = some c := atI_nat (j := 0) rfl
      have hem : ¬ V.str (S (c :: r)) = V.str (Str.ofString "") := fun h => by cases str_nil.mp h
      walk_at "gb go"
      · rename_i h
        rw [nmF2 h] at k
        exact k _ (Same.refl _)
      · rename_i h1 h
        rw [nmL h1 h] at k
        exact k _ (Same.refl _)
      · rename_i h2 h1 h0 D hD
        rw [nmG h2 (fun z => h0 z.2)] at k
        refine lc_txt (t := c :: r) (fun i Hq => Same H Hq ∧ Hq D = some (.lst (((ndg ((c :: r).take i)).map sg1).map V.str))) ⟨same_new hD, upd_same⟩ ?_ ?_
        · rintro i d Hq hi ⟨s1, e1⟩
          have hsl : (((ndg ((c :: r).take i)).map sg1).map V.str).length < sizeLine := by
            rw [List.length_map, List.length_map, sizeLine_eq]
            exact Nat.lt_of_le_of_lt (List.length_filter_le _ _) (Nat.lt_of_le_of_lt (List.length_take_le' _ _) (by omega))
          walk_at "gb go"
          · rename_i hin
            have hin : d ∈ digs := hin
            rw [ndg_step hi, if_pos hin, List.append_nil]
            exact e1
          · rename_i hout
            have hout : ¬ d ∈ digs := hout
            rw [ndg_step hi, if_neg hout, List.map_append, List.map_append]
            exact upd_same
        · rintro Hq ⟨s1, e1⟩
          rw [List.take_length] at e1
          have hok : ∀ s ∈ (ndg (c :: r)).map sg1, PyData.strOk s = true := by
            intro s hs
            obtain ⟨d, hd, rfl⟩ := List.mem_map.mp hs
            exact cd_one hcd (List.mem_filter.mp hd).1
          walk_at "gb go"
          rw [eqvSL0]
          exact k _ (by walk_at "gb same")
      · rename_i h2 h1 D hD
        rw [nmG h2 (fun z => h1 z.1)] at k
        refine lc_txt (t := c :: r) (fun i Hq => Same H Hq ∧ Hq D = some (.lst (((ndg ((c :: r).take i)).map sg1).map V.str))) ⟨same_new hD, upd_same⟩ ?_ ?_
        · rintro i d Hq hi ⟨s1, e1⟩
          have hsl : (((ndg ((c :: r).take i)).map sg1).map V.str).length < sizeLine := by
            rw [List.length_map, List.length_map, sizeLine_eq]
            exact Nat.lt_of_le_of_lt (List.length_filter_le _ _) (Nat.lt_of_le_of_lt (List.length_take_le' _ _) (by omega))
          walk_at "gb go"
          · rename_i hin
            have hin : d ∈ digs := hin
            rw [ndg_step hi, if_pos hin, List.append_nil]
            exact e1
          · rename_i hout
            have hout : ¬ d ∈ digs := hout
            rw [ndg_step hi, if_neg hout, List.map_append, List.map_append]
            exact upd_same
        · rintro Hq ⟨s1, e1⟩
          rw [List.take_length] at e1
          have hok : ∀ s ∈ (ndg (c :: r)).map sg1, PyData.strOk s = true := by
            intro s hs
            obtain ⟨d, hd, rfl⟩ := List.mem_map.mp hs
            exact cd_one hcd (List.mem_filter.mp hd).1
          walk_at "gb go"
          rw [eqvSL0]
          exact k _ (by walk_at "gb same")
theorem ok_read (T : Txt (w := w) K mg A) : FnOk P w K mg base CX0 2 A.f_read A.d_read ["_law_line"] (spLRd) := by
  refine T.F_read.ok sc_read (fun vs H Q E h => ?_) (fun cdv Ar outer s H vs Q E hr h => ?_)
  · obtain ⟨z, t, r, rfl, _⟩ := h
    rfl
  · obtain ⟨z, t, r, rfl, hz, hl, hcd, hr2, k⟩ := h
    refine ⟨_, (pss_cons (ps_set (i := 1) sc_read.nd rfl (Or.inr rfl) (pe_bm PySem.F.plainAttrs_str PySem.F.slot_str_split PySem.F.type_str_split mt_split (pv 0) (pa_cons pe_str pa_nil)))
        (pss_cons (ps_setLc (i := 2) (own := [("_law_form", 6)]) (g := gName 6) rfl sc_read.nd rfl rfl (sw_true rfl rfl rfl (by decide +kernel)) (pi_listK K (pe_call0 (ok_forms T) (hr.mono (by decide)) rfl T.g_forms T.F_forms.kp T.b_forms .nil pass0 )) (blkOk_by (N := ["_law_line", "_law_words", "_law_forms_here", "_law_kinds", "_law_items", "_law_k", "_law_form"]) (sc := defScope s_read) (by decide +kernel)) (fun _ _ _ _ _ => (pg_name (i := 6) sc_read.nd rfl (Or.inl rfl))) (fun _ _ _ _ _ => pts_one (pt_cmpR op_eq (pe_ix (ix_tupK K) (pv 6) pe_int (fun _ _ => rfl)) (pe_ix (ix_listK K) (pv 1) pe_int (fun _ _ => rfl)) (nomark _))) (fun _ _ _ _ _ => (pv 6)))
        (pss_cons (ps_if (PW.pt (pw_or (pt_cmpR op_in_sign pe_str (pv 0) rfl) (pw_or (pt_cmpR (op_in_seqK K) pe_str (pv 1) rfl) (pw_or1 (pt_cmpR (op_eqDK K hr.units) (pv 2) (pe_lst pa_nil) (nomark _)))))) (pss_one (ps_ret pe_non)) pss_nil)
        (pss_cons (ps_set (i := 3) sc_read.nd rfl (Or.inl rfl) (pe_ix (ix_tupK K) (pe_ix (ix_listK K) (pv 2) pe_int (fun _ _ => rfl)) pe_int (fun _ _ => rfl)))
        (pss_cons (ps_if (pt_cmpR op_ne (pe_callB (call_len_seqK K) (by rfl) T.n_len (by decide +kernel) (pa_cons (pv 1) pa_nil)) (pe_op op_add (pe_callB call_len_str (by rfl) T.n_len (by decide +kernel) (pa_cons (pv 3) pa_nil)) pe_int) (nomark _)) (pss_one (ps_ret pe_non)) pss_nil)
        (pss_cons (ps_set (i := 4) sc_read.nd rfl (Or.inl rfl) (pe_lst (pa_cons (pe_ix (ix_listK K) (pv 1) pe_int (fun _ _ => rfl)) pa_nil)))
        (pss_cons (ps_for PassesOwn.never rfl (pi_range1 rfl T.n_range (pa_cons (pe_callB call_len_str (by rfl) T.n_len (by decide +kernel) (pa_cons (pv 3) pa_nil)) pa_nil)) (pg_name (i := 5) sc_read.nd rfl (Or.inl rfl))
        (pss_one (ps_if (pt_cmpR op_eq (pe_ix ix_str (pv 3) (pv 5) (fun _ _ => rfl)) pe_str (nomark _)) (pss_one (ps_expr (pe_bm PySem.F.plainAttrs_list PySem.F.slot_list_append PySem.F.type_list_append mt_append (pv 4) (pa_cons (pe_ix (ix_listK K) (pv 1) (pe_op op_add (pv 5) pe_int) (fun _ _ => rfl)) pa_nil)))) (pss_one (ps_if (pt_val (pe_call (ok_l_is_number T) (hr.mono (by decide)) rfl T.g_l_is_number T.F_l_is_number.kp T.b_l_is_number .nil pass0 (pa_cons (pe_ix (ix_listK K) (pv 1) (pe_op op_add (pv 5) pe_int) (fun _ _ => rfl)) pa_nil)) (by intro _; rfl)) (pss_one (ps_expr (pe_bm PySem.F.plainAttrs_list PySem.F.slot_list_append PySem.F.type_list_append mt_append (pv 4) (pa_cons (pe_callTy call_int_str (by rfl) T.n_int (by decide +kernel) (pa_cons (pe_ix (ix_listK K) (pv 1) (pe_op op_add (pv 5) pe_int) (fun _ _ => rfl)) pa_nil)) pa_nil)))) (pss_one (ps_ret pe_non)))))))
        (pss_one (ps_ret (pe_callTy call_tuple_of (by rfl) T.n_tuple (by decide +kernel) (pa_cons (pv 4) pa_nil))))))))))), ?_⟩
    obtain ⟨rfl⟩ := hz
    have hkb := fun h => badl hr2 h k
    have hkf := fun {ns : List N} (h : rdE t = some ns) => finl hr2 h k
    clear k hr2
    obtain ⟨w, ts, hpt⟩ : ∃ w ts, parts t = w :: ts := by
      cases e : parts t with
      | nil => exact absurd e (parts_ne t)
      | cons w ts => exact ⟨w, ts, rfl⟩
    have hrd := rdE_cons hpt
    have hcnt := parts_cnt t
    have hpl := parts_len t
    have hnl0 := @nl_none t
    have hem0 := @emp_none t
    rw [hpt] at hcnt hpl hem0
    repeat' ((fail_if_success (show _ ∧ rNewStrs _ _ _)); walk_at "gb step")
    rw [parts_split, hpt]
    refine ⟨by rw [S_len, sizeLine_eq]; omega, ?_⟩
    have hmem : ∀ {u : List Nat}, u ∈ w :: ts → ∀ c ∈ u, c ∈ t := fun {u} hu c hc => by
      have := mem_joinL (s := [32]) hc hu
      rw [← hpt, parts_join] at this
      exact this
    simp only [List.map_cons]
    walk_at "gb go"
    rename_i p0 hp0 a1 H1 sA hF
    obtain ⟨xs, ex, hxl, hxg⟩ := hF
    refine ⟨⟨xs, SqL.of ex⟩, ?_⟩
    intro D hD
    have hp1 : H1 p0 = some (.lst ((S w :: ts.map S).map V.str)) := sA _ _ upd_same
    have s0 : Same H H1 := (same_new hp0).trans sA
    have fD : H D = none := s0.free hD
    have hwl : ((S w :: ts.map S).map V.str).length = ts.length + 1 := by simp
    have hwl2 : ts.length ≤ 2001 := by simp only [List.length_cons] at hcnt; omega
    have hw0 : atI ((S w :: ts.map S).map V.str) 0 = some (.str (S w)) := atI_nat (j := 0) rfl
    clear sA hp0
    refine lc_list (K := K) (a := a1) (xs := xs) (fun i Hq => Same H1 Hq ∧ FIL Hq D w i) ⟨same_new hD, [], upd_same, rfl, fun q h => by cases h⟩ (fun i Hq _ h => SqL.of (h.1 _ _ ex)) ?_ ?_
    · rintro i x Hq hi ⟨s1, hI⟩
      have hil : i < LF.length := by rw [← hxl]; exact (List.getElem?_eq_some_iff.mp hi).1
      obtain ⟨q, hq⟩ : ∃ q, LF[i]? = some q := ⟨_, List.getElem?_eq_getElem hil⟩
      obtain ⟨T, hT, eT⟩ := hxg i q hq
      rw [hi] at hT; cases hT
      have eT2 : Hq T = some (.tup [.str q.1, .str q.2]) := s1 _ _ eT
      obtain ⟨qs, e1, e2, e3⟩ := hI.ex
      have hst := lf_step (P := fun p => decide (p.1 = S w)) hq
      have hsl : ((qs.map (·.1)).map V.ref).length < sizeLine := by
        have h1 : (qs.map (·.2)).length ≤ LF.length := by
          rw [e2]
          exact Nat.le_trans (List.length_filter_le _ _) (by rw [List.length_take]; omega)
        have h2 : LF.length = 13 := by decide +kernel
        rw [List.length_map] at h1
        rw [List.length_map, List.length_map, sizeLine_eq]; omega
      clear hxg ex hi eT
      walk_at "gb go"
      · rename_i h
        have h : q.1 = S w := by injection h
        rw [if_pos (decide_eq_true h), ← e2] at hst
        refine ⟨qs ++ [(T, q)], by rw [List.map_append, List.map_append]; exact upd_same, by rw [List.map_append, hst]; rfl, fun y hy => ?_⟩
        rcases List.mem_append.mp hy with u | u
        · rw [upd_ne (fun z => by have := e3 y u; rw [z, e1] at this; cases this)]; exact e3 y u
        · rw [List.mem_singleton.mp u]
          show upd Hq D _ T = _
          rw [upd_ne (fun z => by rw [z, e1] at eT2; cases eT2)]; exact eT2
      · rename_i h
        have h : ¬ q.1 = S w := fun z => h (by rw [z])
        rw [if_neg (by rw [decide_eq_false h]; decide), ← e2, List.append_nil] at hst
        exact ⟨qs, e1, hst.symm, e3⟩
    · rintro Hq ⟨s1, hI⟩
      obtain ⟨qs, e1, e2, e3⟩ := hI.ex
      rw [hxl, List.take_length, lf_filter] at e2
      clear hxg ex hD hxl
      cases hf : fk (S w) with
      | none =>
        rw [hf] at e2 hrd
        have hqs : qs = [] := List.map_eq_nil_iff.mp e2
        subst hqs
        walk_at "gb go"
        all_goals exact hkb hrd _ (by walk_at "gb same")
      | some ks =>
        rw [hf] at e2 hrd
        have hfk := fk_ok hf
        have hkl := len_tl ks
        obtain ⟨⟨T, q⟩, rfl⟩ := List.length_eq_one_iff.mp (show qs.length = 1 by
          have := congrArg List.length e2
          rw [List.length_map] at this
          exact this)
        have e2 : [q] = [(S w, cvS ks)] := e2
        injection e2 with e2 _
        subst e2
        have eT : Hq T = some (.tup [.str (S w), .str (S ((tl ks).map cv))]) := e3 _ List.mem_cons_self
        have e1 : Hq D = some (.lst [.ref T]) := e1
        clear e3
        have hrd2 : rdE t = (rdI (tl ks) ts).map (fun x => N.wrd w :: x) := hrd
        have hkx : (S ((tl ks).map cv)).length = (tl ks).length := by rw [S_len, List.length_map]
        have hk4 := hfk.len.2.2
        walk_at "gb go"
        · rename_i h
          exact hkb (hnl0 h) _ (by walk_at "gb same")
        · rename_i h
          exact hkb (hem0 (emp_in h)) _ (by walk_at "gb same")
        rename_i hn10 hnem p9 hp9
        refine ⟨.lst (SqL.of (by walk_at "gb hp")) (.cons (.tup (SqT.of (by walk_at "gb hp")) (.cons (.str _) (.cons (.str _) .nil))) .nil), .lst (SqL.of upd_same) .nil, shOne (ok_S fun c hc => hcd.ok c (hmem List.mem_cons_self c hc)) (ok_S cv_cd), rfl, ?_⟩
        have hev := @evOne (S w) (S ((tl ks).map cv))
        by_cases hlen : (tl ks).length = ts.length
        · walk_at "gb go"
          rename_i hl2 L hL
          have sP : Same H (upd Hq p9 (.lst [])) := by walk_at "gb same"
          have fL : H L = none := sP.free hL
          have hpq : Hq p0 = some (.lst ((S w :: ts.map S).map V.str)) := s1 _ _ hp1
          have npL : p0 ≠ L := ne_of_none (show upd Hq p9 (.lst []) p0 = some (.lst ((S w :: ts.map S).map V.str)) by walk_at "gb hp") hL
          refine for_range (fun i σ H' => ∃ v5 v6 : Option V, σ = [some (.str (S t)), some (.ref p0), some (.ref D), some (.str (S ((tl ks).map cv))), some (.ref L), v5, v6] ∧ Same H H' ∧ H' p0 = some (.lst ((S w :: ts.map S).map V.str)) ∧ ItW H' L w (tl ks) ts i) ⟨_, _, rfl, same_nw sP hL, by walk_at "gb hp", [], upd_same, .nil⟩ ?_ ?_
          · rintro i σ H' hi ⟨v5, v6, rfl, s2, d2, ns, e2, so⟩
            have hi' : i < (tl ks).length := by rw [hkx] at hi; omega
            obtain ⟨k0, hk0⟩ : ∃ c, (tl ks)[i]? = some c := ⟨_, List.getElem?_eq_getElem hi'⟩
            obtain ⟨u, hu⟩ : ∃ u, ts[i]? = some u := ⟨_, List.getElem?_eq_getElem (by omega)⟩
            have ax : atI ((S w :: ts.map S).map V.str) (0 + (i : Int) + 1) = some (.str (S u)) := by
              rw [Int.zero_add]
              exact atI_nat (j := i + 1) (by rw [List.map_cons, List.getElem?_cons_succ, List.getElem?_map, List.getElem?_map, hu]; rfl)
            have ak : atI (S ((tl ks).map cv)).cps.toList (0 + (i : Int)) = some (cv k0) := by
              rw [Int.zero_add]
              exact atI_nat (show ((tl ks).map cv)[i]? = some (cv k0) by rw [List.getElem?_map, hk0]; rfl)
            have hum := List.mem_of_getElem? hu
            have hul : u.length ≤ 2000 := Nat.le_trans (hpl u (List.mem_cons_of_mem _ hum)) hl
            have hul2 : (S u).length ≤ 2000 := by rw [S_len]; exact hul
            have hune := in_emp hnem hum
            have hunl : 10 ∉ u := fun h => hn10 (hmem (List.mem_cons_of_mem _ hum) 10 h)
            have hucd : Cd u := ⟨fun c hc => hcd.ok c (hmem (List.mem_cons_of_mem _ hum) c hc)⟩
            have hnl := so.1
            have hsl : (V.str (S w) :: ns.map flv).length < sizeLine := by rw [List.length_cons, List.length_map, sizeLine_eq]; omega
            have hbad : good k0 u = none → rdE t = none := fun g => by rw [hrd2, rdI_bad hk0 hu g]; rfl
            have mk : ∀ n, good k0 u = some n → ∀ (A9 : Hp), A9 L = some (.lst ((V.str (S w) :: ns.map flv) ++ [flv n])) → ItW A9 L w (tl ks) ts (i + 1) := fun n g A9 e => ⟨ns ++ [n], by rw [e, List.map_append]; rfl, so.snoc hk0 hu g⟩
            have k78 : ¬ V.str ⟨#[cv k0]⟩ = V.str (Str.ofString "n") → k0 = 78 := fun h => Decidable.byContradiction fun q => h (cv_n.mpr q)
            clear hL hp9 s1 sP hpq hev s0 hp1 eT e1
            cases hnm : nm u with
            | false =>
              walk_at "gb go"
              · rename_i h
                exact mk _ (goodW hune hunl (cv_n.mp h)) _ upd_same
              · rename_i h _ _ _
                exact hkb (hbad (by rw [k78 h]; exact goodX hnm)) _ (by walk_at "gb same")
            | true =>
              have hin := int_dig (nm_isD hnm).1 (by have := (nm_isD hnm).2; omega)
              have hle : (S u).length ≤ 640 := by rw [S_len]; have := (nm_isD hnm).2; omega
              walk_at "gb go"
              · rename_i h
                exact mk _ (goodW hune hunl (cv_n.mp h)) _ upd_same
              · rename_i h _ _ _
                exact mk _ (by rw [k78 h]; exact goodN hune hunl hnm) _ upd_same
          · rintro σ H' ⟨v5, v6, rfl, s2, d2, ns, e2, so⟩
            have hn : (((S ((tl ks).map cv)).length : Nat) : Int).toNat = ts.length := by rw [hkx]; omega
            rw [hn] at so
            have hok := so.all hlen
            have hnl := so.1
            have hsl : (V.str (S w) :: ns.map flv).length ≤ 16000 := by rw [List.length_cons, List.length_map]; omega
            clear hL hp9 s1 sP hpq hev s0 hp1 eT e1
            walk_at "gb go"
            exact hkf (ns := .wrd w :: ns) (by rw [hrd2, hok]; rfl) _ _ (by walk_at "gb same") upd_same
        · have hoff := rdI_off hlen
          walk_at "gb go"
          all_goals (exact hkb (by rw [hrd2, hoff]; rfl) _ (by walk_at "gb same"))
theorem ok_sign (T : Txt (w := w) K mg A) : FnOk P w K mg base CX0 1 A.f_sign A.d_sign ["_law_pick"] (spSign) := by
  refine T.F_sign.ok sc_sign (fun vs H Q E h => ?_) (fun cdv Ar outer s H vs Q E hr h => ?_)
  · obtain ⟨i, rfl, _⟩ := h
    rfl
  · obtain ⟨i, rfl, k⟩ := h
    refine ⟨_, (pss_cons (ps_set (i := 1) sc_sign.nd rfl (Or.inl rfl) pe_str)
        (pss_cons (ps_set (i := 1) sc_sign.nd rfl (Or.inl rfl) (pe_op op_add_str (pv 1) pe_str))
        (pss_one (ps_ret (pe_ix ix_str (pv 1) (pe_op op_mod (pe_callTy call_int1 (by rfl) T.n_int (by decide +kernel) (pa_cons (pv 0) pa_nil)) (pe_callB call_len_str (by rfl) T.n_len (by decide +kernel) (pa_cons (pv 1) pa_nil))) (fun _ _ => rfl)))))), ?_⟩
    walk_at "gb go"
    exact And.intro (sgn_rng (n := 93) (by decide +kernel) (by decide) (by decide +kernel)).choose_spec.1 (k _ (sgn_rng (n := 93) (by decide +kernel) (by decide) (by decide +kernel)).choose_spec.2)
theorem ok_name (T : Txt (w := w) K mg A) : FnOk P w K mg base CX0 3 A.f_name A.d_name ["_law_draws"] (spName) := by
  refine T.F_name.ok sc_name (fun vs H Q E h => ?_) (fun cdv Ar outer s H vs Q E hr h => ?_)
  · obtain ⟨p, rfl, _⟩ := h
    rfl
  · obtain ⟨p, rfl, hP, k⟩ := h
    refine ⟨_, (pss_cons (ps_set (i := 1) sc_name.nd rfl (Or.inr rfl) (pe_call (ok_take T) (hr.mono (by decide)) rfl T.g_take T.F_take.kp T.b_take .nil pass0 (pa_cons (pv 0) (pa_cons pe_int pa_nil))))
        (pss_cons (ps_set (i := 2) sc_name.nd rfl (Or.inl rfl) (pe_op op_add pe_int (pe_op op_mod (pe_callTy call_int1 (by rfl) T.n_int (by decide +kernel) (pa_cons (pv 1) pa_nil)) pe_int)))
        (pss_cons (ps_if (pt_cmpR op_eq (pe_op op_mod (pe_op op_fdiv (pv 1) pe_int) pe_int) pe_int (nomark _)) (pss_one (ps_set (i := 2) sc_name.nd rfl (Or.inl rfl) pe_int)) pss_nil)
        (pss_cons (ps_set (i := 3) sc_name.nd rfl (Or.inr rfl) (pe_call (ok_take T) (hr.mono (by decide)) rfl T.g_take T.F_take.kp T.b_take .nil pass0 (pa_cons (pv 0) (pa_cons pe_int pa_nil))))
        (pss_one (ps_ret (pe_join pe_str (pe_lc (own := [("_law_k", 4)]) (g := gName 4) (tt := tYes) rfl sc_name.nd (pi_range1 rfl T.n_range (pa_cons (pv 2) pa_nil)) (blkOk_by (N := ["_law_draws", "_law_pick", "_law_size", "_law_first", "_law_k"]) (sc := defScope s_name) (by decide +kernel)) (fun _ _ _ _ _ => (pg_name (i := 4) sc_name.nd rfl (Or.inl rfl))) (fun _ _ _ _ _ => pts_nil) (fun _ _ _ _ _ => (pe_call (ok_sign T) (hr.mono (by decide)) rfl T.g_sign T.F_sign.kp T.b_sign .nil pass0 (pa_cons (pe_op op_add (pv 3) (pe_op op_mulX (pv 4) (pe_op op_fdiv (pv 1) pe_int))) pa_nil))))))))))), ?_⟩
    walk_at "gb go"
    · rename_i r H0 r0 r1 hP0 sA hw r2 H1 r20 r21 hP1 sB D hD
      refine lc_range (fun j Hq => Same H1 Hq ∧ NmL Hq D j) ⟨same_new hD, [], upd_same, rfl, fun c h => by cases h⟩ ?_ ?_
      · rintro j Hq hj ⟨s2, t, e2, htl, hch⟩
        have hj2 : (j : Int) < 60 := by omega
        have hcl2 : ((t.map sg1).map V.str).length = t.length := by simp
        have hsl : ((t.map sg1).map V.str).length < sizeLine := by rw [sizeLine_eq]; omega
        walk_at "gb go"
        rename_i hsg
        obtain ⟨c, rfl, hc1, hc2⟩ := hsg.ex
        refine ⟨t ++ [c], by rw [List.map_append, List.map_append]; exact upd_same, by simp; omega, fun d hd => ?_⟩
        rcases List.mem_append.mp hd with q | q
        · exact hch d q
        · rw [List.mem_singleton.mp q]; exact ⟨hc1, hc2⟩
      · rintro Hq ⟨s2, t, e2, htl, hch⟩
        have ht60 : t.length ≤ 60 := by omega
        have ht1 : 1 ≤ t.length := by omega
        have hsz := sum60 (l := t.map sg1) (s := Str.ofString "") (by
          intro z hz
          obtain ⟨c, hc, rfl⟩ := List.mem_map.mp hz
          show ([c].toArray).size ≤ 100
          simp) (by simp; omega) (by decide +kernel)
        walk_at "gb go"
        rw [join1]
        exact k _ _ ⟨t, rfl, fun e => by rw [e] at ht1; simp at ht1, ht60, hch⟩ (hP1.mono s2) (by walk_at "gb but")
    · rename_i r H0 r0 r1 hP0 sA hw r2 H1 r20 r21 hP1 sB D hD
      refine lc_range (fun j Hq => Same H1 Hq ∧ NmL Hq D j) ⟨same_new hD, [], upd_same, rfl, fun c h => by cases h⟩ ?_ ?_
      · rintro j Hq hj ⟨s2, t, e2, htl, hch⟩
        have hj2 : (j : Int) < 60 := by omega
        have hcl2 : ((t.map sg1).map V.str).length = t.length := by simp
        have hsl : ((t.map sg1).map V.str).length < sizeLine := by rw [sizeLine_eq]; omega
        walk_at "gb go"
        rename_i hsg
        obtain ⟨c, rfl, hc1, hc2⟩ := hsg.ex
        refine ⟨t ++ [c], by rw [List.map_append, List.map_append]; exact upd_same, by simp; omega, fun d hd => ?_⟩
        rcases List.mem_append.mp hd with q | q
        · exact hch d q
        · rw [List.mem_singleton.mp q]; exact ⟨hc1, hc2⟩
      · rintro Hq ⟨s2, t, e2, htl, hch⟩
        have ht60 : t.length ≤ 60 := by omega
        have ht1 : 1 ≤ t.length := by omega
        have hsz := sum60 (l := t.map sg1) (s := Str.ofString "") (by
          intro z hz
          obtain ⟨c, hc, rfl⟩ := List.mem_map.mp hz
          show ([c].toArray).size ≤ 100
          simp) (by simp; omega) (by decide +kernel)
        walk_at "gb go"
        rw [join1]
        exact k _ _ ⟨t, rfl, fun e => by rw [e] at ht1; simp at ht1, ht60, hch⟩ (hP1.mono s2) (by walk_at "gb but")
theorem ok_integer (T : Txt (w := w) K mg A) : FnOk P w K mg base CX0 3 A.f_integer A.d_integer ["_law_draws"] (spInt) := by
  refine T.F_integer.ok sc_integer (fun vs H Q E h => ?_) (fun cdv Ar outer s H vs Q E hr h => ?_)
  · obtain ⟨p, rfl, _⟩ := h
    rfl
  · obtain ⟨p, rfl, hP, k⟩ := h
    refine ⟨_, (pss_cons (ps_set (i := 1) sc_integer.nd rfl (Or.inl rfl) (pe_call (ok_take T) (hr.mono (by decide)) rfl T.g_take T.F_take.kp T.b_take .nil pass0 (pa_cons (pv 0) (pa_cons pe_int pa_nil))))
        (pss_cons (ps_if (pt_cmpR op_lt (pv 1) pe_int (nomark _)) (pss_one (ps_ret (pe_ix (ix_listK K) (pe_lst (pa_cons pe_int (pa_cons pe_int (pa_cons pe_int (pa_cons pe_int (pa_cons pe_int (pa_cons pe_int pa_nil))))))) (pv 1) (fun _ _ => rfl)))) pss_nil)
        (pss_one (ps_ret (pe_op op_add (pe_op op_mulX (pe_call (ok_take T) (hr.mono (by decide)) rfl T.g_take T.F_take.kp T.b_take .nil pass0 (pa_cons (pv 0) (pa_cons pe_int pa_nil))) pe_int) (pe_call (ok_take T) (hr.mono (by decide)) rfl T.g_take T.F_take.kp T.b_take .nil pass0 (pa_cons (pv 0) (pa_cons pe_int pa_nil)))))))), ?_⟩
    walk_at "gb go"
    · rename_i r H1 r0 _ hP1 s1 h _ hp1
      exact And.intro (pickI r0 h).choose_spec.2 (k _ _ (pickI r0 h).choose_spec.1.1 (pickI r0 h).choose_spec.1.2 (hP1.mono (same_new hp1)) (by walk_at "gb but"))
    · exact k _ _ (by omega) (by omega) (by assumption) (by walk_at "gb but")
theorem ok_drawn_event (T : Txt (w := w) K mg A) : FnOk P w K mg base CX0 4 A.f_drawn_event A.d_drawn_event ["_law_draws"] (spEvent) := by
  refine T.F_drawn_event.ok sc_drawn_event (fun vs H Q E h => ?_) (fun cdv Ar outer s H vs Q E hr h => ?_)
  · obtain ⟨p, rfl, _⟩ := h
    rfl
  · obtain ⟨p, rfl, hP, k⟩ := h
    refine ⟨_, (pss_cons (ps_set (i := 1) sc_drawn_event.nd rfl (Or.inl rfl) (pe_ix (ix_listK K) (pe_call0 (ok_forms T) (hr.mono (by decide)) rfl T.g_forms T.F_forms.kp T.b_forms .nil pass0 ) (pe_call (ok_take T) (hr.mono (by decide)) rfl T.g_take T.F_take.kp T.b_take .nil pass0 (pa_cons (pv 0) (pa_cons pe_int pa_nil))) (fun _ _ => rfl)))
        (pss_cons (ps_set (i := 2) sc_drawn_event.nd rfl (Or.inl rfl) (pe_lst (pa_cons (pe_ix (ix_tupK K) (pv 1) pe_int (fun _ _ => rfl)) pa_nil)))
        (pss_cons (ps_for PassesOwn.never rfl (pi_str (pe_ix (ix_tupK K) (pv 1) pe_int (fun _ _ => rfl))) (pg_name (i := 3) sc_drawn_event.nd rfl (Or.inl rfl))
        (pss_one (ps_if (pt_cmpR op_eq (pv 3) pe_str (nomark _)) (pss_one (ps_expr (pe_bm PySem.F.plainAttrs_list PySem.F.slot_list_append PySem.F.type_list_append mt_append (pv 2) (pa_cons (pe_call (ok_integer T) (hr.mono (by decide)) rfl T.g_integer T.F_integer.kp T.b_integer .nil pass0 (pa_cons (pv 0) pa_nil)) pa_nil)))) (pss_one (ps_expr (pe_bm PySem.F.plainAttrs_list PySem.F.slot_list_append PySem.F.type_list_append mt_append (pv 2) (pa_cons (pe_call (ok_name T) (hr.mono (by decide)) rfl T.g_name T.F_name.kp T.b_name .nil pass0 (pa_cons (pv 0) pa_nil)) pa_nil)))))))
        (pss_one (ps_ret (pe_callTy call_tuple_of (by rfl) T.n_tuple (by decide +kernel) (pa_cons (pv 2) pa_nil))))))), ?_⟩
    repeat' ((fail_if_success (show SqL _ _ _ _ ∧ _)); walk_at "gb step")
    rename_i a1 H1 sA hF r H2 r0 r1 hP2 sB
    have hF2 := hF.but (hP.mono sA) sB
    have sC : SameBut p H H2 := sA.but.trans sB
    refine ⟨SqL.of (pickF (hF.but (hP.mono sA) sB) r0 r1).choose_spec.1, (pickF (hF.but (hP.mono sA) sB) r0 r1).choose_spec.2.1, ?_⟩
    obtain ⟨ex, ei, eT, hk⟩ := (pickF (hF.but (hP.mono sA) sB) r0 r1).choose_spec
    generalize (pickF (hF.but (hP.mono sA) sB) r0 r1).choose = qq at *
    obtain ⟨xs, T, w, ks⟩ := qq
    dsimp only at ex ei eT hk
    have hkl := (fk_ok hk).len.2.2
    walk_at "gb go"
    rename_i L hL
    have nL : L ≠ p := draw_new hP2 hL
    have fL : H L = none := but_free sC nL hL
    have nT : T ≠ p := draw_ne hP2 eT
    refine for_txt (t := (tl ks).map cv) (fun i σ Hq => ∃ v : Option V, σ = [some (.ref p), some (.ref T), some (.ref L), v] ∧ DrawAt Hq p ∧ SameBut p H Hq ∧ EvSo Hq L w ks i) ⟨_, rfl, hP2.mono (same_new hL), by walk_at "gb but", [], upd_same, rfl, fun j k n _ h => by cases h⟩ ?_ ?_
    · rintro i c σ Hq hc ⟨v, rfl, hPq, sq, so⟩
      obtain ⟨k0, hk0, rfl⟩ := getMapG hc
      have hil : i < (tl ks).length := (List.getElem?_eq_some_iff.mp hk0).1
      have hkl2 := len_tl ks
      clear hF hF2 sA sB sC ex ei eT hP2 hP hL hc
      obtain ⟨its, e1, e2, e3⟩ := so.ex
      have hsl : (V.str (S w) :: its.map flv).length < sizeLine := by rw [List.length_cons, List.length_map, sizeLine_eq]; omega
      walk_at "gb go"
      · rename_i h m H3 m0 m1 hP3 s3
        exact ⟨its ++ [.num m], by rw [List.map_append]; exact upd_same, by simp; omega, so_snoc e2 e3 hk0 (.inl ⟨cv_i.mp h, m.toNat, by omega, by rw [Int.toNat_of_nonneg m0]⟩)⟩
      · rename_i h z H3 hN hP3 s3
        obtain ⟨u, rfl, hu⟩ := hN.ex
        exact ⟨its ++ [.wrd u], by rw [List.map_append]; exact upd_same, by simp; omega, so_snoc e2 e3 hk0 (.inr ⟨fun q => h (cv_i.mpr q), u, rfl, hu⟩)⟩
    · rintro σ Hq ⟨v, rfl, hPq, sq, so⟩
      obtain ⟨its, e1, e2, e3⟩ := so.ex
      rw [List.length_map] at e2
      have hkl2 := len_tl ks
      have hsl : (V.str (S w) :: its.map flv).length ≤ 16000 := by rw [List.length_cons, List.length_map]; omega
      walk_at "gb go"
      exact k _ (.wrd w :: its) _ ⟨w, ks, its, rfl, hk, e2, e3⟩ upd_same (by walk_at "gb leaf") (by walk_at "gb but")
theorem ok_other_words (T : Txt (w := w) K mg A) : FnOk P w K mg base CX0 1 A.f_other_words A.d_other_words ["_law_words", "_law_way", "_law_place", "_law_pick"] (spOther) := by
  refine T.F_other_words.ok sc_other_words (fun vs H Q E h => ?_) (fun cdv Ar outer s H vs Q E hr h => ?_)
  · obtain ⟨a, l, wy, pl, pk, rfl, _⟩ := h
    rfl
  · obtain ⟨a, l, wy, pl, pk, rfl, ha, l1, l5, hw, p0, p1, k⟩ := h
    refine ⟨_, (pss_cons (ps_if (pt_cmpR op_eq (pv 1) pe_int (nomark _)) (pss_one (ps_ret (pe_op op_cat (pe_slice sl_list (pv 0) po_none (po_some (pv 2))) (pe_slice sl_list (pv 0) (po_some (pe_op op_add (pv 2) pe_int)) po_none)))) pss_nil)
        (pss_cons (ps_if (pt_cmpR op_eq (pv 1) pe_int (nomark _)) (pss_one (ps_ret (pe_op op_cat (pe_slice sl_list (pv 0) po_none (po_some (pe_op op_add (pv 2) pe_int))) (pe_slice sl_list (pv 0) (po_some (pv 2)) po_none)))) pss_nil)
        (pss_cons (ps_if (pt_cmpR op_eq (pv 1) pe_int (nomark _)) (pss_cons (ps_set (i := 5) sc_other_words.nd rfl (Or.inl rfl) (pe_ix (ix_listK K) (pe_lst (pa_cons pe_str (pa_cons pe_str (pa_cons pe_str (pa_cons pe_str (pa_cons pe_str (pa_cons pe_str (pa_cons pe_str (pa_cons pe_str pa_nil))))))))) (pe_op op_mod (pe_callTy call_int1 (by rfl) T.n_int (by decide +kernel) (pa_cons (pv 3) pa_nil)) pe_int) (fun _ _ => rfl)))
        (pss_one (ps_ret (pe_op op_cat (pe_op op_cat (pe_slice sl_list (pv 0) po_none (po_some (pv 2))) (pe_lst (pa_cons (pe_op op_add_str (pv 5) (pe_ix (ix_listK K) (pv 0) (pv 2) (fun _ _ => rfl))) pa_nil))) (pe_slice sl_list (pv 0) (po_some (pe_op op_add (pv 2) pe_int)) po_none))))) pss_nil)
        (pss_cons (ps_if (pt_cmpR op_eq (pv 1) pe_int (nomark _)) (pss_cons (ps_set (i := 6) sc_other_words.nd rfl (Or.inl rfl) (pe_ix (ix_listK K) (pe_lst (pa_cons pe_str (pa_cons pe_str (pa_cons pe_str (pa_cons pe_str (pa_cons pe_str (pa_cons pe_str (pa_cons pe_str (pa_cons pe_str pa_nil))))))))) (pe_op op_mod (pe_callTy call_int1 (by rfl) T.n_int (by decide +kernel) (pa_cons (pv 3) pa_nil)) pe_int) (fun _ _ => rfl)))
        (pss_one (ps_ret (pe_op op_cat (pe_op op_cat (pe_slice sl_list (pv 0) po_none (po_some (pv 2))) (pe_lst (pa_cons (pe_op op_add_str (pe_ix (ix_listK K) (pv 0) (pv 2) (fun _ _ => rfl)) (pv 6)) pa_nil))) (pe_slice sl_list (pv 0) (po_some (pe_op op_add (pv 2) pe_int)) po_none))))) pss_nil)
        (pss_cons (ps_set (i := 4) sc_other_words.nd rfl (Or.inl rfl) (pe_lst (pa_cons pe_str (pa_cons pe_str (pa_cons pe_str (pa_cons pe_str (pa_cons pe_str (pa_cons pe_str (pa_cons pe_str (pa_cons pe_str pa_nil))))))))))
        (pss_one (ps_ret (pe_op op_cat (pe_lst (pa_cons (pe_ix (ix_listK K) (pv 4) (pe_op op_mod (pe_callTy call_int1 (by rfl) T.n_int (by decide +kernel) (pa_cons (pv 3) pa_nil)) pe_int) (fun _ _ => rfl)) pa_nil)) (pe_slice sl_list (pv 0) (po_some pe_int) po_none))))))))), ?_⟩
    obtain ⟨z8, hz8, ez8⟩ := pickS [Str.ofString "0", Str.ofString "-", Str.ofString "+", Str.ofString "00", Str.ofString "1", Str.ofString "9", Str.ofString " ", Str.ofString "\n"] 10 8 rfl (by decide) (allTx (by decide +kernel)) pk
    obtain ⟨z9, hz9, ez9⟩ := pickS [Str.ofString "0", Str.ofString "9", Str.ofString " ", Str.ofString "\n", Str.ofString "a", Str.ofString "00", Str.ofString "-", Str.ofString "7"] 10 8 rfl (by decide) (allTx (by decide +kernel)) pk
    obtain ⟨zM, hzM, ezM⟩ := pickS [Str.ofString "come", Str.ofString "drop", Str.ofString "tick", Str.ofString "Tick", Str.ofString "close", Str.ofString "cancel", Str.ofString "state", Str.ofString "event"] 10 8 rfl (by decide) (allTx (by decide +kernel)) pk
    obtain ⟨x, hx, ex⟩ : ∃ x : Str, x ∈ l ∧ atI (l.map V.str) pl = some (.str x) := by
      obtain ⟨j, rfl⟩ : ∃ j : Nat, pl = (j : Int) := ⟨pl.toNat, by omega⟩
      exact ⟨l[j]'(by omega), List.getElem_mem _, atI_nat (by rw [List.getElem?_map, List.getElem?_eq_getElem (by omega)]; rfl)⟩
    have hxt := hw x hx
    have hxl := hxt.len
    have l8 := hz8.len
    have l9 := hz9.len
    have hcl : ∀ lo hi, (cutV (l.map V.str) lo hi).length ≤ l.length := fun lo hi => by rw [cutV_mapG, List.length_map]; exact cutG_len
    have c1 := hcl none (some pl)
    have c2 := hcl (some (pl + 1)) none
    have c3 := hcl none (some (pl + 1))
    have c4 := hcl (some pl) none
    have c5 := hcl (some 1) none
    have hm2 : ∀ (lo hi lo2 hi2 : Option Int) (w : List Str), (∀ z ∈ w, Tx 70 z) → ∀ z ∈ cutG l lo hi ++ w ++ cutG l lo2 hi2, Tx 70 z := by
      intro lo hi lo2 hi2 w hw2 z hz
      rcases List.mem_append.mp hz with q | q
      · rcases List.mem_append.mp q with q | q
        · exact (hw z (cutG_mem q)).up (by decide)
        · exact hw2 z q
      · exact (hw z (cutG_mem q)).up (by decide)
    have hn2 : ∀ (lo hi lo2 hi2 : Option Int) (w : List Str), w.length ≤ 1 → (cutG l lo hi ++ w ++ cutG l lo2 hi2).length ≤ 11 := by
      intro lo hi lo2 hi2 w hw2
      have := @cutG_len _ l lo hi
      have := @cutG_len _ l lo2 hi2
      rw [List.length_append, List.length_append]
      omega
    walk_at "gb go"
    · refine k _ (cutG l none (some pl) ++ [] ++ cutG l (some (pl + 1)) none) _ (by walk_at "gb same") ?_ (hn2 _ _ _ _ _ (by decide)) (hm2 _ _ _ _ _ fun z h => by cases h)
      rw [List.append_nil, List.map_append, ← cutV_mapG, ← cutV_mapG]; exact upd_same
    · refine k _ (cutG l none (some (pl + 1)) ++ [] ++ cutG l (some pl) none) _ (by walk_at "gb same") ?_ (hn2 _ _ _ _ _ (by decide)) (hm2 _ _ _ _ _ fun z h => by cases h)
      rw [List.append_nil, List.map_append, ← cutV_mapG, ← cutV_mapG]; exact upd_same
    · refine k _ (cutG l none (some pl) ++ [z8 ++ x] ++ cutG l (some (pl + 1)) none) _ (by walk_at "gb same") ?_ (hn2 _ _ _ _ _ (by simp)) (hm2 _ _ _ _ _ fun z h => by rw [List.mem_singleton.mp h]; exact tx_app hz8 hxt)
      rw [List.map_append, List.map_append, ← cutV_mapG, ← cutV_mapG]; exact upd_same
    · refine k _ (cutG l none (some pl) ++ [x ++ z9] ++ cutG l (some (pl + 1)) none) _ (by walk_at "gb same") ?_ (hn2 _ _ _ _ _ (by simp)) (hm2 _ _ _ _ _ fun z h => by rw [List.mem_singleton.mp h]; exact tx_app hxt hz9)
      rw [List.map_append, List.map_append, ← cutV_mapG, ← cutV_mapG]; exact upd_same
    · have hlg := @cutG_len _ l (some 1) none
      refine k _ (zM :: cutG l (some 1) none) _ (by walk_at "gb same") ?_ (by rw [List.length_cons]; omega) (fun z h => ?_)
      · rw [List.map_cons, ← cutV_mapG]; exact upd_same
      · rcases List.mem_cons.mp h with q | q
        · rw [q]; exact hzM.up (by decide)
        · exact (hw z (cutG_mem q)).up (by decide)
theorem ok_changed (T : Txt (w := w) K mg A) : FnOk P w K mg base CX0 3 A.f_changed A.d_changed ["_law_draws", "_law_line"] (spChg) := by
  refine T.F_changed.ok sc_changed (fun vs H Q E h => ?_) (fun cdv Ar outer s H vs Q E hr h => ?_)
  · obtain ⟨p, z, ns, rfl, _⟩ := h
    rfl
  · obtain ⟨p, z, ns, rfl, hP, hz, hE, k⟩ := h
    refine ⟨_, (pss_cons (ps_set (i := 2) sc_changed.nd rfl (Or.inl rfl) (pe_call (ok_take T) (hr.mono (by decide)) rfl T.g_take T.F_take.kp T.b_take .nil pass0 (pa_cons (pv 0) (pa_cons pe_int pa_nil))))
        (pss_cons (ps_set (i := 3) sc_changed.nd rfl (Or.inl rfl) (pe_op op_mod (pe_call (ok_take T) (hr.mono (by decide)) rfl T.g_take T.F_take.kp T.b_take .nil pass0 (pa_cons (pv 0) (pa_cons pe_int pa_nil))) (pe_op op_add (pe_callB call_len_str (by rfl) T.n_len (by decide +kernel) (pa_cons (pv 1) pa_nil)) pe_int)))
        (pss_cons (ps_set (i := 4) sc_changed.nd rfl (Or.inl rfl) (pe_call (ok_take T) (hr.mono (by decide)) rfl T.g_take T.F_take.kp T.b_take .nil pass0 (pa_cons (pv 0) (pa_cons pe_int pa_nil))))
        (pss_cons (ps_set (i := 5) sc_changed.nd rfl (Or.inl rfl) (pe_ix (ix_listK K) (pe_lst (pa_cons pe_str (pa_cons pe_str (pa_cons pe_str (pa_cons pe_str (pa_cons pe_str (pa_cons pe_str (pa_cons pe_str (pa_cons (pe_call (ok_sign T) (hr.mono (by decide)) rfl T.g_sign T.F_sign.kp T.b_sign .nil pass0 (pa_cons (pe_op op_fdiv (pv 4) pe_int) pa_nil)) pa_nil))))))))) (pe_op op_mod (pe_callTy call_int1 (by rfl) T.n_int (by decide +kernel) (pa_cons (pv 4) pa_nil)) pe_int) (fun _ _ => rfl)))
        (pss_cons (ps_set (i := 6) sc_changed.nd rfl (Or.inl rfl) (pe_bm PySem.F.plainAttrs_str PySem.F.slot_str_split PySem.F.type_str_split mt_split (pv 1) (pa_cons pe_str pa_nil)))
        (pss_cons (ps_if (pt_cmpR op_lt (pv 2) pe_int (nomark _)) (pss_one (ps_ret (pe_op op_add_str (pe_op op_add_str (pe_slice sl_str (pv 1) po_none (po_some (pv 3))) (pv 5)) (pe_slice sl_str (pv 1) (po_some (pe_op op_add (pv 3) pe_int)) po_none)))) pss_nil)
        (pss_cons (ps_if (pt_cmpR op_lt (pv 2) pe_int (nomark _)) (pss_one (ps_ret (pe_op op_add_str (pe_op op_add_str (pe_slice sl_str (pv 1) po_none (po_some (pv 3))) (pv 5)) (pe_slice sl_str (pv 1) (po_some (pv 3)) po_none)))) pss_nil)
        (pss_cons (ps_if (pt_cmpR op_lt (pv 2) pe_int (nomark _)) (pss_one (ps_ret (pe_op op_add_str (pe_slice sl_str (pv 1) po_none (po_some (pv 3))) (pe_slice sl_str (pv 1) (po_some (pe_op op_add (pv 3) pe_int)) po_none)))) pss_nil)
        (pss_cons (ps_if (pt_cmpR op_eq (pv 2) pe_int (nomark _)) (pss_one (ps_ret (pe_slice sl_str (pv 1) po_none (po_some (pv 3))))) pss_nil)
        (pss_cons (ps_if (pt_cmpR op_lt (pv 2) pe_int (nomark _)) (pss_one (ps_ret (pe_join pe_str (pe_call (ok_other_words T) (hr.mono (by decide)) rfl T.g_other_words T.F_other_words.kp T.b_other_words .nil pass0 (pa_cons (pv 6) (pa_cons (pv 2) (pa_cons (pe_op op_mod (pe_op op_fdiv (pv 4) pe_int) (pe_callB (call_len_seqK K) (by rfl) T.n_len (by decide +kernel) (pa_cons (pv 6) pa_nil))) (pa_cons (pv 4) pa_nil)))))))) pss_nil)
        (pss_cons (ps_if (pt_cmpR op_eq (pv 2) pe_int (nomark _)) (pss_one (ps_ret (pe_op op_add_str (pv 1) (pe_ix (ix_listK K) (pe_lst (pa_cons pe_str (pa_cons pe_str (pa_cons pe_str (pa_cons pe_str (pa_cons pe_str (pa_cons pe_str (pa_cons pe_str (pa_cons pe_str pa_nil))))))))) (pe_op op_mod (pe_callTy call_int1 (by rfl) T.n_int (by decide +kernel) (pa_cons (pv 4) pa_nil)) pe_int) (fun _ _ => rfl))))) pss_nil)
        (pss_one (ps_ret (pe_ix (ix_listK K) (pe_lst (pa_cons pe_str (pa_cons pe_str (pa_cons pe_str (pa_cons pe_str (pa_cons pe_str (pa_cons pe_str (pa_cons pe_str (pa_cons pe_str pa_nil))))))))) (pe_op op_mod (pe_callTy call_int1 (by rfl) T.n_int (by decide +kernel) (pa_cons (pv 4) pa_nil)) pe_int) (fun _ _ => rfl))))))))))))))), ?_⟩
    obtain ⟨rfl⟩ := hz
    have k : ∀ (y : Str) H', Tx 2000 y → DrawAt H' p → SameBut p H H' → Q (.str y) H' := fun y H' h d s => by
      have e : S (tl y) = y := mk_tl y
      have z := k (tl y) H' (by rw [e]; exact h) d s
      rw [e] at z
      exact z
    obtain ⟨hT1, hT2, hT3⟩ := hE.txts
    have hln := hE.len
    have hlen : (S (wt ns)).length ≤ 305 := by rw [S_len]; exact hln
    have hWt := wt_tx hE
    have hW : ∀ z ∈ (ns.map N.txt).map S, Tx 60 z := by
      intro z hz
      obtain ⟨t, ht, rfl⟩ := List.mem_map.mp hz
      obtain ⟨n, hn, rfl⟩ := List.mem_map.mp ht
      refine ⟨by rw [S_len]; exact (hT1 _ ht).2, fun c hc => ?_⟩
      exact ev_cd2 hE hn c hc
    repeat' ((fail_if_success (show atI _ _ = _ ∧ _)); walk_at "gb step")
    rename_i r1 H1 r10 r11 hP1 s1 r2 H2 r20 r21 hP2 s2 r3 H3 r30 r31 hP3 s3 z hsg p5 hp5
    refine And.intro (pickS ([Str.ofString " ", Str.ofString "\n", Str.ofString "0", Str.ofString "7", Str.ofString "-", Str.ofString "+", Str.ofString "a"] ++ [z]) 10 8 rfl (by decide) (allTx_snoc (allTx (by decide +kernel)) ((sg_tx hsg).up (by decide))) r3).choose_spec.2 ?_
    have hy := (pickS ([Str.ofString " ", Str.ofString "\n", Str.ofString "0", Str.ofString "7", Str.ofString "-", Str.ofString "+", Str.ofString "a"] ++ [z]) 10 8 rfl (by decide) (allTx_snoc (allTx (by decide +kernel)) ((sg_tx hsg).up (by decide))) r3).choose_spec.1
    generalize (pickS ([Str.ofString " ", Str.ofString "\n", Str.ofString "0", Str.ofString "7", Str.ofString "-", Str.ofString "+", Str.ofString "a"] ++ [z]) 10 8 rfl (by decide) (allTx_snoc (allTx (by decide +kernel)) ((sg_tx hsg).up (by decide))) r3).choose = y at hy ⊢
    have hyl := hy.len
    obtain ⟨ze, hze, eze⟩ := pickS [Str.ofString "\n", Str.ofString " ", Str.ofString "\ntick", Str.ofString " tick", Str.ofString " 0", Str.ofString "\n\n", Str.ofString "  ", Str.ofString " x"] 10 8 rfl (by decide) (allTx (by decide +kernel)) r3
    obtain ⟨zo, hzo, ezo⟩ := pickS [Str.ofString "", Str.ofString " ", Str.ofString "\n", Str.ofString "tick", Str.ofString "tick ", Str.ofString " tick", Str.ofString "TICK", Str.ofString "ticks"] 10 8 rfl (by decide) (allTx (by decide +kernel)) r3
    have hzel := hze.len
    have c1 := cut_len (S (wt ns)) none (some (r2 % (((S (wt ns)).length : Nat) + 1 : Int)))
    have c2 := cut_len (S (wt ns)) (some (r2 % (((S (wt ns)).length : Nat) + 1 : Int))) none
    have c3 := cut_len (S (wt ns)) (some (r2 % (((S (wt ns)).length : Nat) + 1 : Int) + 1)) none
    have sA : SameBut p H H3 := (s1.trans s2).trans s3
    clear hP hP1 hP2 s1 s2 s3 hsg
    repeat' ((fail_if_success (show _ ∧ rNewStrs _ _ _)); walk_at "gb step")
    rw [parts_split, hE.parts]
    refine ⟨by rw [S_len, sizeLine_eq]; omega, ?_⟩
    walk_at "gb go"
    · exact k _ _ ((tx_app (tx_app (tx_cut hWt) hy) (tx_cut hWt)).up (by decide)) (by walk_at "gb leaf") (by walk_at "gb but")
    · exact k _ _ ((tx_app (tx_app (tx_cut hWt) hy) (tx_cut hWt)).up (by decide)) (by walk_at "gb leaf") (by walk_at "gb but")
    · exact k _ _ ((tx_app (tx_cut hWt) (tx_cut hWt)).up (by decide)) (by walk_at "gb leaf") (by walk_at "gb but")
    · exact k _ _ ((tx_cut hWt).up (by decide)) (by walk_at "gb leaf") (by walk_at "gb but")
    · have hmd := modr (z := r3 / 8) (l := ((((ns.map N.txt).map S).map V.str).length : Nat)) (by simp only [List.length_map]; omega)
      refine ⟨hmd.1, by have := hmd.2; simp only [List.length_map] at this ⊢; exact this, ?_⟩
      intro b m H9 s9 e9 hm1 hm2
      have hsz := sum60 (l := m) (s := Str.ofString " ") (fun z hz => by have := (hm2 z hz).len; omega) (by omega) (by decide +kernel)
      have sB : SameBut p H3 H9 := by walk_at "gb but"
      have dB : DrawAt H9 p := hP3.mono (by walk_at "gb same")
      clear s9
      walk_at "gb go"
      exact k _ _ ((tx_join (k := 1) (allTx (l := [Str.ofString " "]) (by decide +kernel) _ List.mem_cons_self) hm2).up (Nat.le_trans (Nat.mul_le_mul_right 71 hm1) (by decide))) dB (sA.trans sB)
    · exact k _ _ ((tx_app hWt hze).up (by decide)) (by walk_at "gb leaf") (by walk_at "gb but")
    · exact k _ _ (hzo.up (by decide)) (by walk_at "gb leaf") (by walk_at "gb but")
theorem ok_answer (T : Txt (w := w) K mg A) : FnOk P w K mg base CX0 4 A.f_answer A.d_answer ["_law_line"] (spAns A) := by
  refine T.F_answer.ok sc_answer (fun vs H Q E h => ?_) (fun cdv Ar outer s H vs Q E hr h => ?_)
  · obtain ⟨z, t, r, rfl, _⟩ := h
    rfl
  · obtain ⟨z, t, r, rfl, hz, hl, hr2, k⟩ := h
    refine ⟨_, (pss_one (ps_try_as (i := 1) rfl rfl sc_answer.nd rfl rfl ⟨rfl, by decide, Or.inl T.g_BadEvent⟩ takes0 (fun W pn xe tk _ => (pss_one (ps_ret (pe_tup (pa_cons pe_str (pa_cons (pe_callS (ok_read_event T) (hr.mono (by decide)) rfl T.g_read_event T.F_read_event.kp T.b_read_event (fun σ => passAt tk σ) (pa_cons (pv 0) pa_nil)) pa_nil)))))) (fun a oe cls d pn hz hf => (pss_cons (ps_set (i := 2) sc_answer.nd rfl (Or.inl rfl) (pe_and (pe_callB (call_isX hz hf) (by rfl) T.n_isinstance (by decide +kernel) (pa_cons (pv 1) (pa_cons (pe_glob (v := .ref A.c_GangError) rfl T.g_GangError rfl) pa_nil))) (pe_one (pe_callB (call_isX hz hf) (by rfl) T.n_isinstance (by decide +kernel) (pa_cons (pv 1) (pa_cons (pe_bltn (v := .ty "ValueError") (by rfl) T.n_ValueError (by decide +kernel) rfl) pa_nil))))))
        (pss_cons (ps_if (PW.pt (pw_or (pt_not (pt_val (pv 2) (by intro _; rfl))) (pw_or1 (pt_val (pe_callB (call_isXT hz hf) (by rfl) T.n_isinstance (by decide +kernel) (pa_cons (pv 1) (pa_cons (pe_tup (pa_cons (pe_glob (v := .ref A.c_BadLine) rfl T.g_BadLine rfl) (pa_cons (pe_glob (v := .ref A.c_BadName) rfl T.g_BadName rfl) pa_nil))) pa_nil))) (by intro _; rfl))))) (pss_one (ps_ret (pe_tup (pa_cons pe_str (pa_cons pe_non pa_nil))))) pss_nil)
        (pss_one (ps_ret (pe_tup (pa_cons pe_str (pa_cons (pe_xf T.xf_BadEvent T.x_BadEvent.noS hz hf (pv 1)) pa_nil)))))))))), ?_⟩
    obtain ⟨rfl⟩ := hz
    repeat' ((fail_if_success (show FinR _ _ _ _ _ _)); walk_at "gb step")
    cases r with
    | none =>
      intro d H' s1 e1
      repeat' ((fail_if_success (show _ → _)); walk_at "gb step")
      refine ⟨fun _ ex hex => ?_, fun q => nomatch q⟩
      walk_at "gb go"
      exact k _ _ (by walk_at "gb same") upd_same
    | some ns =>
      intro p H' s1 e1
      walk_at "gb go"
      exact k _ _ _ (by walk_at "gb same") upd_same (by walk_at "gb hp")
theorem ok_law (T : Txt (w := w) K mg A) : FnOk P w K mg base CX0 7 A.f_law A.d_law ["_law_script"] (spLaw K) := by
  refine T.F_law.ok sc_law (fun vs H Q E h => ?_) (fun cdv Ar outer s H vs Q E hr h => ?_)
  · obtain ⟨sc, ns, rfl, _⟩ := h
    rfl
  · obtain ⟨sc, ns, rfl, hS, hl, hb, k⟩ := h
    refine ⟨_, (pss_cons (ps_set (i := 1) sc_law.nd rfl (Or.inl rfl) (pe_call (ok_drawing T) (hr.mono (by decide)) rfl T.g_drawing T.F_drawing.kp T.b_drawing .nil pass0 (pa_cons (pv 0) pa_nil)))
        (pss_cons (ps_for PassesOwn.never rfl (pi_range1 rfl T.n_range (pa_cons pe_int pa_nil)) (pg_name (i := 2) sc_law.nd rfl (Or.inl rfl))
        (pss_cons (ps_set (i := 3) sc_law.nd rfl (Or.inl rfl) (pe_call (ok_drawn_event T) (hr.mono (by decide)) rfl T.g_drawn_event T.F_drawn_event.kp T.b_drawn_event .nil pass0 (pa_cons (pv 1) pa_nil)))
        (pss_cons (ps_set (i := 4) sc_law.nd rfl (Or.inl rfl) (pe_call (ok_written T) (hr.mono (by decide)) rfl T.g_written T.F_written.kp T.b_written .nil pass0 (pa_cons (pv 3) pa_nil)))
        (pss_cons (ps_setLc (i := 5) (own := [("_law_item", 10)]) (g := gName 10) rfl sc_law.nd rfl rfl (sw_true rfl rfl rfl (by decide +kernel)) (pi_tupK K (pv 3)) (blkOk_by (N := ["_law_script", "_law_draws", "_law_k", "_law_event", "_law_line", "_law_large", "_law_j", "_law_changed_here", "_law_due", "_law_again", "_law_item"]) (sc := defScope s_law) (by decide +kernel)) (fun _ _ _ _ _ => (pg_name (i := 10) sc_law.nd rfl (Or.inl rfl))) (fun _ _ _ _ _ => pts_one (by exact (PW.pt (pw_and (pt_val (pe_callB (call_isiK' K) (by rfl) T.n_isinstance (by decide +kernel) (pa_cons (pv 10) (pa_cons (pe_bltn (v := .ty "int") (by rfl) T.n_int (by decide +kernel) rfl) pa_nil))) (by intro _; rfl)) (pw_and1 (pt_cmpR op_gt (pv 10) pe_int (nomark _))))))) (fun _ _ _ _ _ => (pv 10)))
        (pss_cons (ps_if (PW.pt (pw_and (pt_cmpR (op_eqDK K hr.units) (pv 5) (pe_lst pa_nil) (nomark _)) (pw_and1 (pt_not (pt_val (pe_call (ok_same T 5) (hr.mono (by omega)) rfl T.g_same T.F_same.kp T.b_same .nil pass0 (pa_cons (pe_call (ok_event_line T) (hr.mono (by decide)) rfl T.g_event_line T.F_event_line.kp T.b_event_line .nil pass0 (pa_cons (pv 3) pa_nil)) (pa_cons (pv 4) pa_nil))) (by intro _; rfl)))))) (pss_one (ps_ret pe_bl)) pss_nil)
        (pss_cons (ps_if (pt_not (pt_val (pe_call (ok_same T 5) (hr.mono (by omega)) rfl T.g_same T.F_same.kp T.b_same .nil pass0 (pa_cons (pe_call (ok_read_event T) (hr.mono (by decide)) rfl T.g_read_event T.F_read_event.kp T.b_read_event .nil passL (pa_cons (pv 4) pa_nil)) (pa_cons (pv 3) pa_nil))) (by intro _; rfl))) (pss_one (ps_ret pe_bl)) pss_nil)
        (pss_cons (ps_for PassesOwn.never rfl (pi_range1 rfl T.n_range (pa_cons pe_int pa_nil)) (pg_name (i := 6) sc_law.nd rfl (Or.inl rfl))
        (pss_cons (ps_set (i := 7) sc_law.nd rfl (Or.inl rfl) (pe_call (ok_changed T) (hr.mono (by decide)) rfl T.g_changed T.F_changed.kp T.b_changed .nil pass0 (pa_cons (pv 1) (pa_cons (pv 4) pa_nil))))
        (pss_cons (ps_set (i := 8) sc_law.nd rfl (Or.inl rfl) (pe_tup (pa_cons pe_str (pa_cons (pe_call (ok_read T) (hr.mono (by decide)) rfl T.g_read T.F_read.kp T.b_read .nil pass0 (pa_cons (pv 7) pa_nil)) pa_nil))))
        (pss_cons (ps_if (pt_cmpR op_isN (pe_ix (ix_tupK K) (pv 8) pe_int (fun _ _ => rfl)) pe_non (nomark _)) (pss_one (ps_set (i := 8) sc_law.nd rfl (Or.inl rfl) (pe_tup (pa_cons pe_str (pa_cons (pv 7) pa_nil))))) pss_nil)
        (pss_one (ps_for PassesOwn.never rfl (pi_range1 rfl T.n_range (pa_cons pe_int pa_nil)) (pg_name (i := 9) sc_law.nd rfl (Or.inl rfl))
        (pss_one (ps_if (pt_not (pt_val (pe_call (ok_same T 5) (hr.mono (by omega)) rfl T.g_same T.F_same.kp T.b_same .nil pass0 (pa_cons (pe_call (ok_answer T) (hr.mono (by decide)) rfl T.g_answer T.F_answer.kp T.b_answer .nil pass0 (pa_cons (pv 7) pa_nil)) (pa_cons (pv 8) pa_nil))) (by intro _; rfl))) (pss_one (ps_ret pe_bl)) pss_nil))))))))
        (pss_one (ps_if (PW.pt (pw_and (pt_cmpR (op_eqDK K hr.units) (pv 5) (pe_lst pa_nil) (nomark _)) (pw_and1 (pt_not (pt_val (pe_call (ok_same T 5) (hr.mono (by omega)) rfl T.g_same T.F_same.kp T.b_same .nil pass0 (pa_cons (pe_call (ok_event_line T) (hr.mono (by decide)) rfl T.g_event_line T.F_event_line.kp T.b_event_line .nil pass0 (pa_cons (pv 3) pa_nil)) (pa_cons (pv 4) pa_nil))) (by intro _; rfl)))))) (pss_one (ps_ret pe_bl)) pss_nil)))))))))
        (pss_one (ps_ret pe_bl)))), ?_⟩
    walk_at "gb go"
    rename_i p H0 s0 dP0 hp0
    refine for_range (fun i σ H' => ∃ v2 v3 v4 v5 v6 v7 v8 v9 v10 : Option V, σ = [some (.ref sc), some (.ref p), v2, v3, v4, v5, v6, v7, v8, v9, v10] ∧ DrawAt H' p ∧ True) ⟨_, _, _, _, _, _, _, _, _, rfl, dP0, trivial⟩ ?_ ?_
    · rintro i σ H1 hi ⟨v2, v3, v4, v5, v6, v7, v8, v9, v10, rfl, dP1, _⟩
      clear s0 dP0 hp0 hS hb
      walk_at "gb go"
      rename_i a ns2 H2 hEv eA dP2 sB H3 s3 D hD
      have hn1 := hEv.txts.2.1
      have hn5 := hEv.txts.2.2
      have hF := ev_flat hEv
      have eA3 : H3 a = some (.tup (ns2.map flv)) := s3 _ _ eA
      have dP3 := dP2.mono s3
      have nA : a ≠ p := draw_ne dP2 eA
      have nD : D ≠ p := draw_new dP3 hD
      clear dP1 dP2 sB s3 eA
      refine lc_tup (K := K) (a := a) (xs := ns2.map flv) (fun i Hq => Same H3 Hq ∧ IL Hq D i) ⟨same_new hD, [], upd_same, by simp⟩ (fun i Hq _ h => SqT.of (h.1 _ _ eA3)) ?_ ?_
      · rintro j x Hq hj ⟨s4, ms, e4, hml⟩
        obtain ⟨n, hn, rfl⟩ := getMapG hj
        have hj2 : j < ns2.length := (List.getElem?_eq_some_iff.mp hn).1
        have hsl : (ms.map V.int).length < sizeLine := by rw [List.length_map, sizeLine_eq]; omega
        rcases hF n (List.mem_of_getElem? hn) with ⟨w, rfl⟩ | ⟨m, hm, rfl⟩
        · have hv : flv (.wrd w) = .str (S w) := rfl
          rw [hv]
          walk_at "gb go"
          exact ⟨ms, e4, by omega⟩
        · have hv : flv (.num (m : Int)) = .int (m : Int) := rfl
          rw [hv]
          walk_at "gb go"
          · exact ⟨ms ++ [_], by rw [List.map_append]; exact upd_same, by rw [List.length_append]; simp only [List.length_cons, List.length_nil]; omega⟩
          · exact ⟨ms, e4, by omega⟩
      · rintro Hq ⟨s4, ms, e4, hml⟩
        have dP4 := dP3.mono s4
        have eA4 : Hq a = some (.tup (ns2.map flv)) := s4 _ _ eA3
        have hre : RE (wt ns2) (some ns2) := ⟨hEv.rd⟩
        have hwl : (wt ns2).length ≤ 305 := hEv.len
        clear dP3 s4 eA3 hD hF
        walk_at "gb go"
        · rename_i Hs sl
          have sS : Same Hq Hs := by walk_at "gb same"
          have dPs := dP4.mono sS
          have eAs := sS _ _ eA4
          have eDs := sS _ _ e4
          refine for_range (fun j σ H' => ∃ v6 v7 v8 v9 v10 : Option V, σ = [some (.ref sc), some (.ref p), some (.int (0 + (i : Int))), some (.ref a), some (.str (S (wt ns2))), some (.ref D), v6, v7, v8, v9, v10] ∧ DrawAt H' p ∧ SameBut p Hs H') ⟨_, _, _, _, _, rfl, dPs, SameBut.refl⟩ ?_ ?_
          · rintro j σ H5 hj ⟨v6, v7, v8, v9, v10, rfl, dP5, s5⟩
            walk_at "gb go"
            rename_i u H6 hTu dP6 s6
            have s8 : SameBut p Hs H6 := s5.trans s6
            clear s5 s6 dP5
            cases hr : rdE u with
            | none =>
              have hr2 : RE u none := ⟨hr⟩
              intro H7 s7
              walk_at "gb go"
              rename_i n1 hn1' n2 hn2'
              refine for_range (fun m σ H' => ∃ v9 v10 : Option V, σ = [some (.ref sc), some (.ref p), some (.int (0 + (i : Int))), some (.ref a), some (.str (S (wt ns2))), some (.ref D), some (.int (0 + (j : Int))), some (.str (S u)), some (.ref n2), v9, v10] ∧ DrawAt H' p ∧ SameBut p Hs H' ∧ H' n2 = some (.tup [.str (Str.ofString "refused"), .str (S u)])) ⟨_, _, rfl, by walk_at "gb leaf", by walk_at "gb but", upd_same⟩ ?_ ?_
              · rintro m σ H9 hm ⟨v9, v10, rfl, dP9, s9, e9⟩
                clear s7 s8 dP6 hn1' hn2'
                walk_at "gb go"
                all_goals (walk_at "gb hp")
              · rintro σ H9 ⟨v9, v10, rfl, dP9, s9, e9⟩
                exact ⟨_, _, _, _, _, rfl, dP9, s9⟩
            | some ns3 =>
              have hr2 : RE u (some ns3) := ⟨hr⟩
              have hn3 := rd_len hr
              intro p7 H7 s7 e7
              walk_at "gb go"
              rename_i n1 hn1'
              refine for_range (fun m σ H' => ∃ v9 v10 : Option V, σ = [some (.ref sc), some (.ref p), some (.int (0 + (i : Int))), some (.ref a), some (.str (S (wt ns2))), some (.ref D), some (.int (0 + (j : Int))), some (.str (S u)), some (.ref n1), v9, v10] ∧ DrawAt H' p ∧ SameBut p Hs H' ∧ H' n1 = some (.tup [.str (Str.ofString "read"), .ref p7]) ∧ H' p7 = some (.tup (ns3.map flv))) ⟨_, _, rfl, by walk_at "gb leaf", by walk_at "gb but", upd_same, by walk_at "gb hp"⟩ ?_ ?_
              · rintro m σ H9 hm ⟨v9, v10, rfl, dP9, s9, e9, f9⟩
                clear s7 s8 dP6 hn1' e7
                walk_at "gb go"
                all_goals (walk_at "gb hp")
              · rintro σ H9 ⟨v9, v10, rfl, dP9, s9, e9, f9⟩
                exact ⟨_, _, _, _, _, rfl, dP9, s9⟩
          · rintro σ H5 ⟨v6, v7, v8, v9, v10, rfl, dP5, s5⟩
            clear sS dPs dP4
            walk_at "gb go"
            all_goals trivial
        · rename_i Hs sl
          have sS : Same Hq Hs := by walk_at "gb same"
          have dPs := dP4.mono sS
          have eAs := sS _ _ eA4
          have eDs := sS _ _ e4
          refine for_range (fun j σ H' => ∃ v6 v7 v8 v9 v10 : Option V, σ = [some (.ref sc), some (.ref p), some (.int (0 + (i : Int))), some (.ref a), some (.str (S (wt ns2))), some (.ref D), v6, v7, v8, v9, v10] ∧ DrawAt H' p ∧ SameBut p Hs H') ⟨_, _, _, _, _, rfl, dPs, SameBut.refl⟩ ?_ ?_
          · rintro j σ H5 hj ⟨v6, v7, v8, v9, v10, rfl, dP5, s5⟩
            walk_at "gb go"
            rename_i u H6 hTu dP6 s6
            have s8 : SameBut p Hs H6 := s5.trans s6
            clear s5 s6 dP5
            cases hr : rdE u with
            | none =>
              have hr2 : RE u none := ⟨hr⟩
              intro H7 s7
              walk_at "gb go"
              rename_i n1 hn1' n2 hn2'
              refine for_range (fun m σ H' => ∃ v9 v10 : Option V, σ = [some (.ref sc), some (.ref p), some (.int (0 + (i : Int))), some (.ref a), some (.str (S (wt ns2))), some (.ref D), some (.int (0 + (j : Int))), some (.str (S u)), some (.ref n2), v9, v10] ∧ DrawAt H' p ∧ SameBut p Hs H' ∧ H' n2 = some (.tup [.str (Str.ofString "refused"), .str (S u)])) ⟨_, _, rfl, by walk_at "gb leaf", by walk_at "gb but", upd_same⟩ ?_ ?_
              · rintro m σ H9 hm ⟨v9, v10, rfl, dP9, s9, e9⟩
                clear s7 s8 dP6 hn1' hn2'
                walk_at "gb go"
                all_goals (walk_at "gb hp")
              · rintro σ H9 ⟨v9, v10, rfl, dP9, s9, e9⟩
                exact ⟨_, _, _, _, _, rfl, dP9, s9⟩
            | some ns3 =>
              have hr2 : RE u (some ns3) := ⟨hr⟩
              have hn3 := rd_len hr
              intro p7 H7 s7 e7
              walk_at "gb go"
              rename_i n1 hn1'
              refine for_range (fun m σ H' => ∃ v9 v10 : Option V, σ = [some (.ref sc), some (.ref p), some (.int (0 + (i : Int))), some (.ref a), some (.str (S (wt ns2))), some (.ref D), some (.int (0 + (j : Int))), some (.str (S u)), some (.ref n1), v9, v10] ∧ DrawAt H' p ∧ SameBut p Hs H' ∧ H' n1 = some (.tup [.str (Str.ofString "read"), .ref p7]) ∧ H' p7 = some (.tup (ns3.map flv))) ⟨_, _, rfl, by walk_at "gb leaf", by walk_at "gb but", upd_same, by walk_at "gb hp"⟩ ?_ ?_
              · rintro m σ H9 hm ⟨v9, v10, rfl, dP9, s9, e9, f9⟩
                clear s7 s8 dP6 hn1' e7
                walk_at "gb go"
                all_goals (walk_at "gb hp")
              · rintro σ H9 ⟨v9, v10, rfl, dP9, s9, e9, f9⟩
                exact ⟨_, _, _, _, _, rfl, dP9, s9⟩
          · rintro σ H5 ⟨v6, v7, v8, v9, v10, rfl, dP5, s5⟩
            clear sS dPs dP4
            walk_at "gb go"
            all_goals trivial
    · rintro σ H1 ⟨v2, v3, v4, v5, v6, v7, v8, v9, v10, rfl, dP1, _⟩
      walk_at "gb go"
      exact k _
end
theorem all_mk {P : Program} {w : World} {K : PySem.W.Frag} {h : Heap} {mg : Str → Option Value} {fa : Addr} (X : K.In h) (G : h.Ns mainGlobals mg) (hfa : mg "law" = some (.ref fa))
    {c_GangError c_BadEvent c_BadLine c_BadName f_GangError_init f_is_digits f_is_number f_event_line f_read_event f_mixed f_drawing f_take f_same f_forms f_written f_l_is_number f_read f_sign f_name f_integer f_drawn_event f_other_words f_changed f_answer f_law : Addr}
    {od_GangError_init an_GangError_init : Option Addr} {sl_GangError_init : Array (Option Value)} {oc_GangError_init kV_GangError_init dc_GangError_init pm_GangError_init cd_GangError_init ct_GangError_init : Value}
    {od_is_digits an_is_digits : Option Addr} {sl_is_digits : Array (Option Value)} {oc_is_digits kV_is_digits dc_is_digits pm_is_digits cd_is_digits ct_is_digits : Value}
    {od_is_number an_is_number : Option Addr} {sl_is_number : Array (Option Value)} {oc_is_number kV_is_number dc_is_number pm_is_number cd_is_number ct_is_number : Value}
    {od_event_line an_event_line : Option Addr} {sl_event_line : Array (Option Value)} {oc_event_line kV_event_line dc_event_line pm_event_line cd_event_line ct_event_line : Value}
    {od_read_event an_read_event : Option Addr} {sl_read_event : Array (Option Value)} {oc_read_event kV_read_event dc_read_event pm_read_event cd_read_event ct_read_event : Value}
    {od_mixed an_mixed : Option Addr} {sl_mixed : Array (Option Value)} {oc_mixed kV_mixed dc_mixed pm_mixed cd_mixed ct_mixed : Value}
    {od_drawing an_drawing : Option Addr} {sl_drawing : Array (Option Value)} {oc_drawing kV_drawing dc_drawing pm_drawing cd_drawing ct_drawing : Value}
    {od_take an_take : Option Addr} {sl_take : Array (Option Value)} {oc_take kV_take dc_take pm_take cd_take ct_take : Value}
    {od_same an_same : Option Addr} {sl_same : Array (Option Value)} {oc_same kV_same dc_same pm_same cd_same ct_same : Value}
    {od_forms an_forms : Option Addr} {sl_forms : Array (Option Value)} {oc_forms kV_forms dc_forms pm_forms cd_forms ct_forms : Value}
    {od_written an_written : Option Addr} {sl_written : Array (Option Value)} {oc_written kV_written dc_written pm_written cd_written ct_written : Value}
    {od_l_is_number an_l_is_number : Option Addr} {sl_l_is_number : Array (Option Value)} {oc_l_is_number kV_l_is_number dc_l_is_number pm_l_is_number cd_l_is_number ct_l_is_number : Value}
    {od_read an_read : Option Addr} {sl_read : Array (Option Value)} {oc_read kV_read dc_read pm_read cd_read ct_read : Value}
    {od_sign an_sign : Option Addr} {sl_sign : Array (Option Value)} {oc_sign kV_sign dc_sign pm_sign cd_sign ct_sign : Value}
    {od_name an_name : Option Addr} {sl_name : Array (Option Value)} {oc_name kV_name dc_name pm_name cd_name ct_name : Value}
    {od_integer an_integer : Option Addr} {sl_integer : Array (Option Value)} {oc_integer kV_integer dc_integer pm_integer cd_integer ct_integer : Value}
    {od_drawn_event an_drawn_event : Option Addr} {sl_drawn_event : Array (Option Value)} {oc_drawn_event kV_drawn_event dc_drawn_event pm_drawn_event cd_drawn_event ct_drawn_event : Value}
    {od_other_words an_other_words : Option Addr} {sl_other_words : Array (Option Value)} {oc_other_words kV_other_words dc_other_words pm_other_words cd_other_words ct_other_words : Value}
    {od_changed an_changed : Option Addr} {sl_changed : Array (Option Value)} {oc_changed kV_changed dc_changed pm_changed cd_changed ct_changed : Value}
    {od_answer an_answer : Option Addr} {sl_answer : Array (Option Value)} {oc_answer kV_answer dc_answer pm_answer cd_answer ct_answer : Value}
    {od_law an_law : Option Addr} {sl_law : Array (Option Value)} {oc_law kV_law dc_law pm_law cd_law ct_law : Value}
    {nm_GangError q_GangError : Str} {N_GangError : Addr} {bs_GangError bm_GangError : List Value} {sn_GangError : List Str} {sub_GangError : List Value} {ab_GangError : Bool} {col_GangError : Option Bool} {dd_GangError : Option Addr} {m0_GangError m1_GangError m2_GangError m3_GangError m5_GangError : Option Value}
    {nm_BadEvent q_BadEvent : Str} {N_BadEvent : Addr} {bs_BadEvent bm_BadEvent : List Value} {sn_BadEvent : List Str} {sub_BadEvent : List Value} {ab_BadEvent : Bool} {col_BadEvent : Option Bool} {dd_BadEvent : Option Addr} {m0_BadEvent m1_BadEvent m2_BadEvent m3_BadEvent m5_BadEvent : Option Value}
    {nm_BadLine q_BadLine : Str} {N_BadLine : Addr} {bs_BadLine bm_BadLine : List Value} {sn_BadLine : List Str} {sub_BadLine : List Value} {ab_BadLine : Bool} {col_BadLine : Option Bool} {dd_BadLine : Option Addr} {m0_BadLine m1_BadLine m2_BadLine m3_BadLine m5_BadLine : Option Value}
    {nm_BadName q_BadName : Str} {N_BadName : Addr} {bs_BadName bm_BadName : List Value} {sn_BadName : List Str} {sub_BadName : List Value} {ab_BadName : Bool} {col_BadName : Option Bool} {dd_BadName : Option Addr} {m0_BadName m1_BadName m2_BadName m3_BadName m5_BadName : Option Value}
    {kd_FORMS : Addr} {nd_FORMS : Nat} {hh0_FORMS hh1_FORMS hh2_FORMS hh3_FORMS hh4_FORMS hh5_FORMS hh6_FORMS hh7_FORMS hh8_FORMS hh9_FORMS hh10_FORMS hh11_FORMS hh12_FORMS : Int} {tk0_FORMS tv0_FORMS tk1_FORMS tv1_FORMS tk2_FORMS tv2_FORMS tk3_FORMS tv3_FORMS tk4_FORMS tv4_FORMS tk5_FORMS tv5_FORMS tk6_FORMS tv6_FORMS tk7_FORMS tv7_FORMS tk8_FORMS tv8_FORMS tk9_FORMS tv9_FORMS tk10_FORMS tv10_FORMS tk11_FORMS tv11_FORMS tk12_FORMS tv12_FORMS : Tok}
    {tk_DIGITS : Tok}
    {tk_MOST_DIGITS : Tok}
    (nb_ValueError : PySem.W.nsIn K mainGlobals "ValueError" = some none)
    (nb_abs : PySem.W.nsIn K mainGlobals "abs" = some none)
    (nb_all : PySem.W.nsIn K mainGlobals "all" = some none)
    (nb_bool : PySem.W.nsIn K mainGlobals "bool" = some none)
    (nb_int : PySem.W.nsIn K mainGlobals "int" = some none)
    (nb_isinstance : PySem.W.nsIn K mainGlobals "isinstance" = some none)
    (nb_len : PySem.W.nsIn K mainGlobals "len" = some none)
    (nb_list : PySem.W.nsIn K mainGlobals "list" = some none)
    (nb_range : PySem.W.nsIn K mainGlobals "range" = some none)
    (nb_str : PySem.W.nsIn K mainGlobals "str" = some none)
    (nb_tuple : PySem.W.nsIn K mainGlobals "tuple" = some none)
    (nb_zip : PySem.W.nsIn K mainGlobals "zip" = some none)
    (ag_GangError : PySem.W.nsIn K mainGlobals "GangError" = some (some (.ref c_GangError)))
    (ag_BadEvent : PySem.W.nsIn K mainGlobals "BadEvent" = some (some (.ref c_BadEvent)))
    (ag_BadLine : PySem.W.nsIn K mainGlobals "BadLine" = some (some (.ref c_BadLine)))
    (ag_BadName : PySem.W.nsIn K mainGlobals "BadName" = some (some (.ref c_BadName)))
    (at_GangError_init : PySem.W.findIn K (.ref c_GangError) "__init__" = some (some (.ref f_GangError_init)))
    (lk_GangError_init : K.lookup f_GangError_init = some ⟨oc_GangError_init, od_GangError_init, .func (PySem.W.fnOf "__init__" "GangError.__init__" (defArgs s_GangError_init) (defBody s_GangError_init) (defScope s_GangError_init) .none kV_GangError_init dc_GangError_init pm_GangError_init an_GangError_init cd_GangError_init ct_GangError_init), sl_GangError_init⟩)
    (co_GangError_init : PySem.W.codeIn K cd_GangError_init "GangError.__init__" = true)
    (ke_GangError_init : PySem.W.keepIn K (.ref f_GangError_init) = true)
    (fn_GangError_init : PySem.W.isFn K (.ref f_GangError_init) = true)
    (at_is_digits : PySem.W.nsIn K mainGlobals "is_digits" = some (some (.ref f_is_digits)))
    (lk_is_digits : K.lookup f_is_digits = some ⟨oc_is_digits, od_is_digits, .func (PySem.W.fnOf "is_digits" "is_digits" (defArgs s_is_digits) (defBody s_is_digits) (defScope s_is_digits) .none kV_is_digits dc_is_digits pm_is_digits an_is_digits cd_is_digits ct_is_digits), sl_is_digits⟩)
    (co_is_digits : PySem.W.codeIn K cd_is_digits "is_digits" = true)
    (ke_is_digits : PySem.W.keepIn K (.ref f_is_digits) = true)
    (at_is_number : PySem.W.nsIn K mainGlobals "is_number" = some (some (.ref f_is_number)))
    (lk_is_number : K.lookup f_is_number = some ⟨oc_is_number, od_is_number, .func (PySem.W.fnOf "is_number" "is_number" (defArgs s_is_number) (defBody s_is_number) (defScope s_is_number) .none kV_is_number dc_is_number pm_is_number an_is_number cd_is_number ct_is_number), sl_is_number⟩)
    (co_is_number : PySem.W.codeIn K cd_is_number "is_number" = true)
    (ke_is_number : PySem.W.keepIn K (.ref f_is_number) = true)
    (at_event_line : PySem.W.nsIn K mainGlobals "event_line" = some (some (.ref f_event_line)))
    (lk_event_line : K.lookup f_event_line = some ⟨oc_event_line, od_event_line, .func (PySem.W.fnOf "event_line" "event_line" (defArgs s_event_line) (defBody s_event_line) (defScope s_event_line) .none kV_event_line dc_event_line pm_event_line an_event_line cd_event_line ct_event_line), sl_event_line⟩)
    (co_event_line : PySem.W.codeIn K cd_event_line "event_line" = true)
    (ke_event_line : PySem.W.keepIn K (.ref f_event_line) = true)
    (at_read_event : PySem.W.nsIn K mainGlobals "read_event" = some (some (.ref f_read_event)))
    (lk_read_event : K.lookup f_read_event = some ⟨oc_read_event, od_read_event, .func (PySem.W.fnOf "read_event" "read_event" (defArgs s_read_event) (defBody s_read_event) (defScope s_read_event) .none kV_read_event dc_read_event pm_read_event an_read_event cd_read_event ct_read_event), sl_read_event⟩)
    (co_read_event : PySem.W.codeIn K cd_read_event "read_event" = true)
    (ke_read_event : PySem.W.keepIn K (.ref f_read_event) = true)
    (at_mixed : PySem.W.nsIn K mainGlobals "_law_mixed" = some (some (.ref f_mixed)))
    (lk_mixed : K.lookup f_mixed = some ⟨oc_mixed, od_mixed, .func (PySem.W.fnOf "_law_mixed" "_law_mixed" (defArgs s_mixed) (defBody s_mixed) (defScope s_mixed) .none kV_mixed dc_mixed pm_mixed an_mixed cd_mixed ct_mixed), sl_mixed⟩)
    (co_mixed : PySem.W.codeIn K cd_mixed "_law_mixed" = true)
    (ke_mixed : PySem.W.keepIn K (.ref f_mixed) = true)
    (at_drawing : PySem.W.nsIn K mainGlobals "_law_drawing" = some (some (.ref f_drawing)))
    (lk_drawing : K.lookup f_drawing = some ⟨oc_drawing, od_drawing, .func (PySem.W.fnOf "_law_drawing" "_law_drawing" (defArgs s_drawing) (defBody s_drawing) (defScope s_drawing) .none kV_drawing dc_drawing pm_drawing an_drawing cd_drawing ct_drawing), sl_drawing⟩)
    (co_drawing : PySem.W.codeIn K cd_drawing "_law_drawing" = true)
    (ke_drawing : PySem.W.keepIn K (.ref f_drawing) = true)
    (at_take : PySem.W.nsIn K mainGlobals "_law_take" = some (some (.ref f_take)))
    (lk_take : K.lookup f_take = some ⟨oc_take, od_take, .func (PySem.W.fnOf "_law_take" "_law_take" (defArgs s_take) (defBody s_take) (defScope s_take) .none kV_take dc_take pm_take an_take cd_take ct_take), sl_take⟩)
    (co_take : PySem.W.codeIn K cd_take "_law_take" = true)
    (ke_take : PySem.W.keepIn K (.ref f_take) = true)
    (at_same : PySem.W.nsIn K mainGlobals "_law_same" = some (some (.ref f_same)))
    (lk_same : K.lookup f_same = some ⟨oc_same, od_same, .func (PySem.W.fnOf "_law_same" "_law_same" (defArgs s_same) (defBody s_same) (defScope s_same) .none kV_same dc_same pm_same an_same cd_same ct_same), sl_same⟩)
    (co_same : PySem.W.codeIn K cd_same "_law_same" = true)
    (ke_same : PySem.W.keepIn K (.ref f_same) = true)
    (at_forms : PySem.W.nsIn K mainGlobals "_law_forms" = some (some (.ref f_forms)))
    (lk_forms : K.lookup f_forms = some ⟨oc_forms, od_forms, .func (PySem.W.fnOf "_law_forms" "_law_forms" (defArgs s_forms) (defBody s_forms) (defScope s_forms) .none kV_forms dc_forms pm_forms an_forms cd_forms ct_forms), sl_forms⟩)
    (co_forms : PySem.W.codeIn K cd_forms "_law_forms" = true)
    (ke_forms : PySem.W.keepIn K (.ref f_forms) = true)
    (at_written : PySem.W.nsIn K mainGlobals "_law_written" = some (some (.ref f_written)))
    (lk_written : K.lookup f_written = some ⟨oc_written, od_written, .func (PySem.W.fnOf "_law_written" "_law_written" (defArgs s_written) (defBody s_written) (defScope s_written) .none kV_written dc_written pm_written an_written cd_written ct_written), sl_written⟩)
    (co_written : PySem.W.codeIn K cd_written "_law_written" = true)
    (ke_written : PySem.W.keepIn K (.ref f_written) = true)
    (at_l_is_number : PySem.W.nsIn K mainGlobals "_law_is_number" = some (some (.ref f_l_is_number)))
    (lk_l_is_number : K.lookup f_l_is_number = some ⟨oc_l_is_number, od_l_is_number, .func (PySem.W.fnOf "_law_is_number" "_law_is_number" (defArgs s_l_is_number) (defBody s_l_is_number) (defScope s_l_is_number) .none kV_l_is_number dc_l_is_number pm_l_is_number an_l_is_number cd_l_is_number ct_l_is_number), sl_l_is_number⟩)
    (co_l_is_number : PySem.W.codeIn K cd_l_is_number "_law_is_number" = true)
    (ke_l_is_number : PySem.W.keepIn K (.ref f_l_is_number) = true)
    (at_read : PySem.W.nsIn K mainGlobals "_law_read" = some (some (.ref f_read)))
    (lk_read : K.lookup f_read = some ⟨oc_read, od_read, .func (PySem.W.fnOf "_law_read" "_law_read" (defArgs s_read) (defBody s_read) (defScope s_read) .none kV_read dc_read pm_read an_read cd_read ct_read), sl_read⟩)
    (co_read : PySem.W.codeIn K cd_read "_law_read" = true)
    (ke_read : PySem.W.keepIn K (.ref f_read) = true)
    (at_sign : PySem.W.nsIn K mainGlobals "_law_sign" = some (some (.ref f_sign)))
    (lk_sign : K.lookup f_sign = some ⟨oc_sign, od_sign, .func (PySem.W.fnOf "_law_sign" "_law_sign" (defArgs s_sign) (defBody s_sign) (defScope s_sign) .none kV_sign dc_sign pm_sign an_sign cd_sign ct_sign), sl_sign⟩)
    (co_sign : PySem.W.codeIn K cd_sign "_law_sign" = true)
    (ke_sign : PySem.W.keepIn K (.ref f_sign) = true)
    (at_name : PySem.W.nsIn K mainGlobals "_law_name" = some (some (.ref f_name)))
    (lk_name : K.lookup f_name = some ⟨oc_name, od_name, .func (PySem.W.fnOf "_law_name" "_law_name" (defArgs s_name) (defBody s_name) (defScope s_name) .none kV_name dc_name pm_name an_name cd_name ct_name), sl_name⟩)
    (co_name : PySem.W.codeIn K cd_name "_law_name" = true)
    (ke_name : PySem.W.keepIn K (.ref f_name) = true)
    (at_integer : PySem.W.nsIn K mainGlobals "_law_integer" = some (some (.ref f_integer)))
    (lk_integer : K.lookup f_integer = some ⟨oc_integer, od_integer, .func (PySem.W.fnOf "_law_integer" "_law_integer" (defArgs s_integer) (defBody s_integer) (defScope s_integer) .none kV_integer dc_integer pm_integer an_integer cd_integer ct_integer), sl_integer⟩)
    (co_integer : PySem.W.codeIn K cd_integer "_law_integer" = true)
    (ke_integer : PySem.W.keepIn K (.ref f_integer) = true)
    (at_drawn_event : PySem.W.nsIn K mainGlobals "_law_drawn_event" = some (some (.ref f_drawn_event)))
    (lk_drawn_event : K.lookup f_drawn_event = some ⟨oc_drawn_event, od_drawn_event, .func (PySem.W.fnOf "_law_drawn_event" "_law_drawn_event" (defArgs s_drawn_event) (defBody s_drawn_event) (defScope s_drawn_event) .none kV_drawn_event dc_drawn_event pm_drawn_event an_drawn_event cd_drawn_event ct_drawn_event), sl_drawn_event⟩)
    (co_drawn_event : PySem.W.codeIn K cd_drawn_event "_law_drawn_event" = true)
    (ke_drawn_event : PySem.W.keepIn K (.ref f_drawn_event) = true)
    (at_other_words : PySem.W.nsIn K mainGlobals "_law_other_words" = some (some (.ref f_other_words)))
    (lk_other_words : K.lookup f_other_words = some ⟨oc_other_words, od_other_words, .func (PySem.W.fnOf "_law_other_words" "_law_other_words" (defArgs s_other_words) (defBody s_other_words) (defScope s_other_words) .none kV_other_words dc_other_words pm_other_words an_other_words cd_other_words ct_other_words), sl_other_words⟩)
    (co_other_words : PySem.W.codeIn K cd_other_words "_law_other_words" = true)
    (ke_other_words : PySem.W.keepIn K (.ref f_other_words) = true)
    (at_changed : PySem.W.nsIn K mainGlobals "_law_changed" = some (some (.ref f_changed)))
    (lk_changed : K.lookup f_changed = some ⟨oc_changed, od_changed, .func (PySem.W.fnOf "_law_changed" "_law_changed" (defArgs s_changed) (defBody s_changed) (defScope s_changed) .none kV_changed dc_changed pm_changed an_changed cd_changed ct_changed), sl_changed⟩)
    (co_changed : PySem.W.codeIn K cd_changed "_law_changed" = true)
    (ke_changed : PySem.W.keepIn K (.ref f_changed) = true)
    (at_answer : PySem.W.nsIn K mainGlobals "_law_answer" = some (some (.ref f_answer)))
    (lk_answer : K.lookup f_answer = some ⟨oc_answer, od_answer, .func (PySem.W.fnOf "_law_answer" "_law_answer" (defArgs s_answer) (defBody s_answer) (defScope s_answer) .none kV_answer dc_answer pm_answer an_answer cd_answer ct_answer), sl_answer⟩)
    (co_answer : PySem.W.codeIn K cd_answer "_law_answer" = true)
    (ke_answer : PySem.W.keepIn K (.ref f_answer) = true)
    (at_law : PySem.W.nsIn K mainGlobals "law" = some (some (.ref f_law)))
    (lk_law : K.lookup f_law = some ⟨oc_law, od_law, .func (PySem.W.fnOf "law" "law" (defArgs s_law) (defBody s_law) (defScope s_law) .none kV_law dc_law pm_law an_law cd_law ct_law), sl_law⟩)
    (co_law : PySem.W.codeIn K cd_law "law" = true)
    (ke_law : PySem.W.keepIn K (.ref f_law) = true)
    (kg : PySem.W.specialIn K (.builtin "object.__class__") "__get__" = some (some (.builtin "getset_descriptor.__get__")))
    (kt : PySem.W.takesIn K (.builtin "object.__class__") = some true)
    (xl_GangError : K.lookup c_GangError = some (excClassObj nm_GangError q_GangError c_GangError N_GangError bs_GangError bm_GangError true sn_GangError sub_GangError ab_GangError col_GangError dd_GangError m0_GangError m1_GangError m2_GangError m3_GangError m5_GangError "ValueError.__new__"))
    (xr_GangError : PySem.HandSPX.refsVE bm_GangError = true)
    (xsa_GangError : PySem.W.findIn K (.ref c_GangError) "__setattr__" = some (some (.builtin "object.__setattr__")))
    (xex_GangError : PySem.W.subIn K (.ref c_GangError) (.type "BaseException") = some true)
    (xty_GangError : PySem.W.typeIn K (.ref c_GangError) = some (.type "type"))
    (xkp_GangError : PySem.W.keepIn K (.ref c_GangError) = true)
    (xin_GangError : PySem.W.findIn K (.ref c_GangError) "__init__" = some (some (.ref f_GangError_init)))
    (xno_GangError : PySem.W.findIn K (.ref c_GangError) "subject" = some none)
    (xga_GangError : PySem.W.findIn K (.ref c_GangError) "__getattribute__" = some (some (.builtin "BaseException.__getattribute__")))
    (xgg_GangError : PySem.W.findIn K (.ref c_GangError) "__getattr__" = some none)
    (xhd_GangError : PySem.W.hasDictIn K c_GangError = true)
    (xk1_GangError : PySem.W.findIn K (.ref c_GangError) "__class__" = some (some (.builtin "object.__class__")))
    (xk4_GangError : PySem.W.mroIn K c_GangError (.type "object") = some true)
    (xem_GangError : PySem.W.subIn K (.ref c_GangError) (.ref c_GangError) = some true)
    (xl_BadEvent : K.lookup c_BadEvent = some (excClassObj nm_BadEvent q_BadEvent c_BadEvent N_BadEvent bs_BadEvent bm_BadEvent true sn_BadEvent sub_BadEvent ab_BadEvent col_BadEvent dd_BadEvent m0_BadEvent m1_BadEvent m2_BadEvent m3_BadEvent m5_BadEvent "ValueError.__new__"))
    (xr_BadEvent : PySem.HandSPX.refsVE bm_BadEvent = true)
    (xsa_BadEvent : PySem.W.findIn K (.ref c_BadEvent) "__setattr__" = some (some (.builtin "object.__setattr__")))
    (xex_BadEvent : PySem.W.subIn K (.ref c_BadEvent) (.type "BaseException") = some true)
    (xty_BadEvent : PySem.W.typeIn K (.ref c_BadEvent) = some (.type "type"))
    (xkp_BadEvent : PySem.W.keepIn K (.ref c_BadEvent) = true)
    (xin_BadEvent : PySem.W.findIn K (.ref c_BadEvent) "__init__" = some (some (.ref f_GangError_init)))
    (xno_BadEvent : PySem.W.findIn K (.ref c_BadEvent) "subject" = some none)
    (xga_BadEvent : PySem.W.findIn K (.ref c_BadEvent) "__getattribute__" = some (some (.builtin "BaseException.__getattribute__")))
    (xgg_BadEvent : PySem.W.findIn K (.ref c_BadEvent) "__getattr__" = some none)
    (xhd_BadEvent : PySem.W.hasDictIn K c_BadEvent = true)
    (xk1_BadEvent : PySem.W.findIn K (.ref c_BadEvent) "__class__" = some (some (.builtin "object.__class__")))
    (xk4_BadEvent : PySem.W.mroIn K c_BadEvent (.type "object") = some true)
    (xem_BadEvent : PySem.W.subIn K (.ref c_BadEvent) (.ref c_GangError) = some true)
    (xl_BadLine : K.lookup c_BadLine = some (excClassObj nm_BadLine q_BadLine c_BadLine N_BadLine bs_BadLine bm_BadLine true sn_BadLine sub_BadLine ab_BadLine col_BadLine dd_BadLine m0_BadLine m1_BadLine m2_BadLine m3_BadLine m5_BadLine "ValueError.__new__"))
    (xr_BadLine : PySem.HandSPX.refsVE bm_BadLine = true)
    (xsa_BadLine : PySem.W.findIn K (.ref c_BadLine) "__setattr__" = some (some (.builtin "object.__setattr__")))
    (xex_BadLine : PySem.W.subIn K (.ref c_BadLine) (.type "BaseException") = some true)
    (xty_BadLine : PySem.W.typeIn K (.ref c_BadLine) = some (.type "type"))
    (xkp_BadLine : PySem.W.keepIn K (.ref c_BadLine) = true)
    (xin_BadLine : PySem.W.findIn K (.ref c_BadLine) "__init__" = some (some (.ref f_GangError_init)))
    (xno_BadLine : PySem.W.findIn K (.ref c_BadLine) "subject" = some none)
    (xga_BadLine : PySem.W.findIn K (.ref c_BadLine) "__getattribute__" = some (some (.builtin "BaseException.__getattribute__")))
    (xgg_BadLine : PySem.W.findIn K (.ref c_BadLine) "__getattr__" = some none)
    (xhd_BadLine : PySem.W.hasDictIn K c_BadLine = true)
    (xk1_BadLine : PySem.W.findIn K (.ref c_BadLine) "__class__" = some (some (.builtin "object.__class__")))
    (xk4_BadLine : PySem.W.mroIn K c_BadLine (.type "object") = some true)
    (xem_BadLine : PySem.W.subIn K (.ref c_BadLine) (.ref c_GangError) = some true)
    (xl_BadName : K.lookup c_BadName = some (excClassObj nm_BadName q_BadName c_BadName N_BadName bs_BadName bm_BadName true sn_BadName sub_BadName ab_BadName col_BadName dd_BadName m0_BadName m1_BadName m2_BadName m3_BadName m5_BadName "ValueError.__new__"))
    (xr_BadName : PySem.HandSPX.refsVE bm_BadName = true)
    (xsa_BadName : PySem.W.findIn K (.ref c_BadName) "__setattr__" = some (some (.builtin "object.__setattr__")))
    (xex_BadName : PySem.W.subIn K (.ref c_BadName) (.type "BaseException") = some true)
    (xty_BadName : PySem.W.typeIn K (.ref c_BadName) = some (.type "type"))
    (xkp_BadName : PySem.W.keepIn K (.ref c_BadName) = true)
    (xin_BadName : PySem.W.findIn K (.ref c_BadName) "__init__" = some (some (.ref f_GangError_init)))
    (xno_BadName : PySem.W.findIn K (.ref c_BadName) "subject" = some none)
    (xga_BadName : PySem.W.findIn K (.ref c_BadName) "__getattribute__" = some (some (.builtin "BaseException.__getattribute__")))
    (xgg_BadName : PySem.W.findIn K (.ref c_BadName) "__getattr__" = some none)
    (xhd_BadName : PySem.W.hasDictIn K c_BadName = true)
    (xk1_BadName : PySem.W.findIn K (.ref c_BadName) "__class__" = some (some (.builtin "object.__class__")))
    (xk4_BadName : PySem.W.mroIn K c_BadName (.type "object") = some true)
    (xem_BadName : PySem.W.subIn K (.ref c_BadName) (.ref c_GangError) = some true)
    (tI_GangError : PySem.W.typeIn K (.ref f_GangError_init) = some (.type "function"))
    (da_FORMS : PySem.W.nsIn K mainGlobals "FORMS" = some (some (.ref kd_FORMS)))
    (dl_FORMS : K.lookup kd_FORMS = some ⟨.type "dict", none, .dict #[⟨hh0_FORMS, Value.str (Str.ofString "come") tk0_FORMS, Value.str (Str.ofString "WW") tv0_FORMS⟩, ⟨hh1_FORMS, Value.str (Str.ofString "drop") tk1_FORMS, Value.str (Str.ofString "W") tv1_FORMS⟩, ⟨hh2_FORMS, Value.str (Str.ofString "early") tk2_FORMS, Value.str (Str.ofString "W") tv2_FORMS⟩, ⟨hh3_FORMS, Value.str (Str.ofString "tick") tk3_FORMS, Value.str (Str.ofString "") tv3_FORMS⟩, ⟨hh4_FORMS, Value.str (Str.ofString "policy") tk4_FORMS, Value.str (Str.ofString "WWWW") tv4_FORMS⟩, ⟨hh5_FORMS, Value.str (Str.ofString "fail") tk5_FORMS, Value.str (Str.ofString "W") tv5_FORMS⟩, ⟨hh6_FORMS, Value.str (Str.ofString "repair") tk6_FORMS, Value.str (Str.ofString "W") tv6_FORMS⟩, ⟨hh7_FORMS, Value.str (Str.ofString "reserve") tk7_FORMS, Value.str (Str.ofString "WWN") tv7_FORMS⟩, ⟨hh8_FORMS, Value.str (Str.ofString "close") tk8_FORMS, Value.str (Str.ofString "WNN") tv8_FORMS⟩, ⟨hh9_FORMS, Value.str (Str.ofString "cancel") tk9_FORMS, Value.str (Str.ofString "WN") tv9_FORMS⟩, ⟨hh10_FORMS, Value.str (Str.ofString "shut") tk10_FORMS, Value.str (Str.ofString "W") tv10_FORMS⟩, ⟨hh11_FORMS, Value.str (Str.ofString "reopen") tk11_FORMS, Value.str (Str.ofString "W") tv11_FORMS⟩, ⟨hh12_FORMS, Value.str (Str.ofString "drain") tk12_FORMS, Value.str (Str.ofString "W") tv12_FORMS⟩] nd_FORMS, #[]⟩)
    (dh_FORMS : PySem.W.KeysLit w.params [⟨hh0_FORMS, Value.str (Str.ofString "come") tk0_FORMS, Value.str (Str.ofString "WW") tv0_FORMS⟩, ⟨hh1_FORMS, Value.str (Str.ofString "drop") tk1_FORMS, Value.str (Str.ofString "W") tv1_FORMS⟩, ⟨hh2_FORMS, Value.str (Str.ofString "early") tk2_FORMS, Value.str (Str.ofString "W") tv2_FORMS⟩, ⟨hh3_FORMS, Value.str (Str.ofString "tick") tk3_FORMS, Value.str (Str.ofString "") tv3_FORMS⟩, ⟨hh4_FORMS, Value.str (Str.ofString "policy") tk4_FORMS, Value.str (Str.ofString "WWWW") tv4_FORMS⟩, ⟨hh5_FORMS, Value.str (Str.ofString "fail") tk5_FORMS, Value.str (Str.ofString "W") tv5_FORMS⟩, ⟨hh6_FORMS, Value.str (Str.ofString "repair") tk6_FORMS, Value.str (Str.ofString "W") tv6_FORMS⟩, ⟨hh7_FORMS, Value.str (Str.ofString "reserve") tk7_FORMS, Value.str (Str.ofString "WWN") tv7_FORMS⟩, ⟨hh8_FORMS, Value.str (Str.ofString "close") tk8_FORMS, Value.str (Str.ofString "WNN") tv8_FORMS⟩, ⟨hh9_FORMS, Value.str (Str.ofString "cancel") tk9_FORMS, Value.str (Str.ofString "WN") tv9_FORMS⟩, ⟨hh10_FORMS, Value.str (Str.ofString "shut") tk10_FORMS, Value.str (Str.ofString "W") tv10_FORMS⟩, ⟨hh11_FORMS, Value.str (Str.ofString "reopen") tk11_FORMS, Value.str (Str.ofString "W") tv11_FORMS⟩, ⟨hh12_FORMS, Value.str (Str.ofString "drain") tk12_FORMS, Value.str (Str.ofString "W") tv12_FORMS⟩])
    (ds_FORMS : (kd_FORMS == sysModules) = false)
    (kc_DIGITS : PySem.W.nsIn K mainGlobals "DIGITS" = some (some (.str (Str.ofString "0123456789") tk_DIGITS)))
    (kc_MOST_DIGITS : PySem.W.nsIn K mainGlobals "MOST_DIGITS" = some (some (.int 6 tk_MOST_DIGITS)))
    (ss_BadEvent : PySem.W.subIn K (.ref c_BadEvent) (.ref c_BadEvent) = some true)
    (su_BadEvent_BadEvent : PySem.W.subIn K (.ref c_BadEvent) (.ref c_BadEvent) = some true)
    (ss_GangError : PySem.W.subIn K (.ref c_GangError) (.ref c_GangError) = some true)
    (su_BadEvent_GangError : PySem.W.subIn K (.ref c_BadEvent) (.ref c_GangError) = some true)
    (su_BadEvent_ValueError : PySem.W.subIn K (.ref c_BadEvent) (.type "ValueError") = some true)
    (ss_BadLine : PySem.W.subIn K (.ref c_BadLine) (.ref c_BadLine) = some true)
    (su_BadEvent_BadLine : PySem.W.subIn K (.ref c_BadEvent) (.ref c_BadLine) = some false)
    (ss_BadName : PySem.W.subIn K (.ref c_BadName) (.ref c_BadName) = some true)
    (su_BadEvent_BadName : PySem.W.subIn K (.ref c_BadEvent) (.ref c_BadName) = some false)
    : ∃ fd : FuncData, (∀ (s : Shared) (v : Value), BindsTo s fd ⟨[v], []⟩ [("_law_script", v)]) ∧ ∀ base : Heap, K.In base → base.Ns mainGlobals mg → FnOk P w K mg base CX0 7 fa fd ["_law_script"] (spLaw K) := by
  have e := hfa.symm.trans (PySem.W.mg_of X G at_law)
  cases e
  let A : Adr := { c_GangError := c_GangError, c_BadEvent := c_BadEvent, c_BadLine := c_BadLine, c_BadName := c_BadName, kd_FORMS := kd_FORMS, f_GangError_init := f_GangError_init, d_GangError_init := PySem.W.fnOf "__init__" "GangError.__init__" (defArgs s_GangError_init) (defBody s_GangError_init) (defScope s_GangError_init) .none kV_GangError_init dc_GangError_init pm_GangError_init an_GangError_init cd_GangError_init ct_GangError_init, f_is_digits := f_is_digits, d_is_digits := PySem.W.fnOf "is_digits" "is_digits" (defArgs s_is_digits) (defBody s_is_digits) (defScope s_is_digits) .none kV_is_digits dc_is_digits pm_is_digits an_is_digits cd_is_digits ct_is_digits, f_is_number := f_is_number, d_is_number := PySem.W.fnOf "is_number" "is_number" (defArgs s_is_number) (defBody s_is_number) (defScope s_is_number) .none kV_is_number dc_is_number pm_is_number an_is_number cd_is_number ct_is_number, f_event_line := f_event_line, d_event_line := PySem.W.fnOf "event_line" "event_line" (defArgs s_event_line) (defBody s_event_line) (defScope s_event_line) .none kV_event_line dc_event_line pm_event_line an_event_line cd_event_line ct_event_line, f_read_event := f_read_event, d_read_event := PySem.W.fnOf "read_event" "read_event" (defArgs s_read_event) (defBody s_read_event) (defScope s_read_event) .none kV_read_event dc_read_event pm_read_event an_read_event cd_read_event ct_read_event, f_mixed := f_mixed, d_mixed := PySem.W.fnOf "_law_mixed" "_law_mixed" (defArgs s_mixed) (defBody s_mixed) (defScope s_mixed) .none kV_mixed dc_mixed pm_mixed an_mixed cd_mixed ct_mixed, f_drawing := f_drawing, d_drawing := PySem.W.fnOf "_law_drawing" "_law_drawing" (defArgs s_drawing) (defBody s_drawing) (defScope s_drawing) .none kV_drawing dc_drawing pm_drawing an_drawing cd_drawing ct_drawing, f_take := f_take, d_take := PySem.W.fnOf "_law_take" "_law_take" (defArgs s_take) (defBody s_take) (defScope s_take) .none kV_take dc_take pm_take an_take cd_take ct_take, f_same := f_same, d_same := PySem.W.fnOf "_law_same" "_law_same" (defArgs s_same) (defBody s_same) (defScope s_same) .none kV_same dc_same pm_same an_same cd_same ct_same, f_forms := f_forms, d_forms := PySem.W.fnOf "_law_forms" "_law_forms" (defArgs s_forms) (defBody s_forms) (defScope s_forms) .none kV_forms dc_forms pm_forms an_forms cd_forms ct_forms, f_written := f_written, d_written := PySem.W.fnOf "_law_written" "_law_written" (defArgs s_written) (defBody s_written) (defScope s_written) .none kV_written dc_written pm_written an_written cd_written ct_written, f_l_is_number := f_l_is_number, d_l_is_number := PySem.W.fnOf "_law_is_number" "_law_is_number" (defArgs s_l_is_number) (defBody s_l_is_number) (defScope s_l_is_number) .none kV_l_is_number dc_l_is_number pm_l_is_number an_l_is_number cd_l_is_number ct_l_is_number, f_read := f_read, d_read := PySem.W.fnOf "_law_read" "_law_read" (defArgs s_read) (defBody s_read) (defScope s_read) .none kV_read dc_read pm_read an_read cd_read ct_read, f_sign := f_sign, d_sign := PySem.W.fnOf "_law_sign" "_law_sign" (defArgs s_sign) (defBody s_sign) (defScope s_sign) .none kV_sign dc_sign pm_sign an_sign cd_sign ct_sign, f_name := f_name, d_name := PySem.W.fnOf "_law_name" "_law_name" (defArgs s_name) (defBody s_name) (defScope s_name) .none kV_name dc_name pm_name an_name cd_name ct_name, f_integer := f_integer, d_integer := PySem.W.fnOf "_law_integer" "_law_integer" (defArgs s_integer) (defBody s_integer) (defScope s_integer) .none kV_integer dc_integer pm_integer an_integer cd_integer ct_integer, f_drawn_event := f_drawn_event, d_drawn_event := PySem.W.fnOf "_law_drawn_event" "_law_drawn_event" (defArgs s_drawn_event) (defBody s_drawn_event) (defScope s_drawn_event) .none kV_drawn_event dc_drawn_event pm_drawn_event an_drawn_event cd_drawn_event ct_drawn_event, f_other_words := f_other_words, d_other_words := PySem.W.fnOf "_law_other_words" "_law_other_words" (defArgs s_other_words) (defBody s_other_words) (defScope s_other_words) .none kV_other_words dc_other_words pm_other_words an_other_words cd_other_words ct_other_words, f_changed := f_changed, d_changed := PySem.W.fnOf "_law_changed" "_law_changed" (defArgs s_changed) (defBody s_changed) (defScope s_changed) .none kV_changed dc_changed pm_changed an_changed cd_changed ct_changed, f_answer := f_answer, d_answer := PySem.W.fnOf "_law_answer" "_law_answer" (defArgs s_answer) (defBody s_answer) (defScope s_answer) .none kV_answer dc_answer pm_answer an_answer cd_answer ct_answer, f_law := fa, d_law := PySem.W.fnOf "law" "law" (defArgs s_law) (defBody s_law) (defScope s_law) .none kV_law dc_law pm_law an_law cd_law ct_law }
  have T : Txt (w := w) K mg A := {
    n_ValueError := PySem.W.mg_none_of X G nb_ValueError
    n_abs := PySem.W.mg_none_of X G nb_abs
    n_all := PySem.W.mg_none_of X G nb_all
    n_bool := PySem.W.mg_none_of X G nb_bool
    n_int := PySem.W.mg_none_of X G nb_int
    n_isinstance := PySem.W.mg_none_of X G nb_isinstance
    n_len := PySem.W.mg_none_of X G nb_len
    n_list := PySem.W.mg_none_of X G nb_list
    n_range := PySem.W.mg_none_of X G nb_range
    n_str := PySem.W.mg_none_of X G nb_str
    n_tuple := PySem.W.mg_none_of X G nb_tuple
    n_zip := PySem.W.mg_none_of X G nb_zip
    g_GangError := PySem.W.mg_of X G ag_GangError
    g_BadEvent := PySem.W.mg_of X G ag_BadEvent
    g_BadLine := PySem.W.mg_of X G ag_BadLine
    g_BadName := PySem.W.mg_of X G ag_BadName
    F_GangError_init := fun_mk (st := s_GangError_init) lk_GangError_init co_GangError_init ke_GangError_init
    b_GangError_init := (fun_mk (st := s_GangError_init) lk_GangError_init co_GangError_init ke_GangError_init).binds (ps := ["self", "subject"]) fun _ _ _ _ _ _ us hl => match us, hl with | [_, _], _ => rfl
    me_GangError_init := ⟨at_GangError_init, fn_GangError_init, ke_GangError_init⟩
    F_is_digits := fun_mk (st := s_is_digits) lk_is_digits co_is_digits ke_is_digits
    b_is_digits := (fun_mk (st := s_is_digits) lk_is_digits co_is_digits ke_is_digits).binds (ps := ["text"]) fun _ _ _ _ _ _ us hl => match us, hl with | [_], _ => rfl
    g_is_digits := PySem.W.mg_of X G at_is_digits
    F_is_number := fun_mk (st := s_is_number) lk_is_number co_is_number ke_is_number
    b_is_number := (fun_mk (st := s_is_number) lk_is_number co_is_number ke_is_number).binds (ps := ["word", "most"]) fun _ _ _ _ _ _ us hl => match us, hl with | [_, _], _ => rfl
    g_is_number := PySem.W.mg_of X G at_is_number
    F_event_line := fun_mk (st := s_event_line) lk_event_line co_event_line ke_event_line
    b_event_line := (fun_mk (st := s_event_line) lk_event_line co_event_line ke_event_line).binds (ps := ["event"]) fun _ _ _ _ _ _ us hl => match us, hl with | [_], _ => rfl
    g_event_line := PySem.W.mg_of X G at_event_line
    F_read_event := fun_mk (st := s_read_event) lk_read_event co_read_event ke_read_event
    b_read_event := (fun_mk (st := s_read_event) lk_read_event co_read_event ke_read_event).binds (ps := ["line"]) fun _ _ _ _ _ _ us hl => match us, hl with | [_], _ => rfl
    g_read_event := PySem.W.mg_of X G at_read_event
    F_mixed := fun_mk (st := s_mixed) lk_mixed co_mixed ke_mixed
    b_mixed := (fun_mk (st := s_mixed) lk_mixed co_mixed ke_mixed).binds (ps := ["_law_number", "_law_k"]) fun _ _ _ _ _ _ us hl => match us, hl with | [_, _], _ => rfl
    g_mixed := PySem.W.mg_of X G at_mixed
    F_drawing := fun_mk (st := s_drawing) lk_drawing co_drawing ke_drawing
    b_drawing := (fun_mk (st := s_drawing) lk_drawing co_drawing ke_drawing).binds (ps := ["_law_script"]) fun _ _ _ _ _ _ us hl => match us, hl with | [_], _ => rfl
    g_drawing := PySem.W.mg_of X G at_drawing
    F_take := fun_mk (st := s_take) lk_take co_take ke_take
    b_take := (fun_mk (st := s_take) lk_take co_take ke_take).binds (ps := ["_law_draws", "_law_limit"]) fun _ _ _ _ _ _ us hl => match us, hl with | [_, _], _ => rfl
    g_take := PySem.W.mg_of X G at_take
    F_same := fun_mk (st := s_same) lk_same co_same ke_same
    b_same := (fun_mk (st := s_same) lk_same co_same ke_same).binds (ps := ["_law_told", "_law_due"]) fun _ _ _ _ _ _ us hl => match us, hl with | [_, _], _ => rfl
    g_same := PySem.W.mg_of X G at_same
    F_forms := fun_mk (st := s_forms) lk_forms co_forms ke_forms
    b_forms := (fun_mk (st := s_forms) lk_forms co_forms ke_forms).binds (ps := []) fun _ _ _ _ _ _ us hl => match us, hl with | [], _ => rfl
    g_forms := PySem.W.mg_of X G at_forms
    F_written := fun_mk (st := s_written) lk_written co_written ke_written
    b_written := (fun_mk (st := s_written) lk_written co_written ke_written).binds (ps := ["_law_event"]) fun _ _ _ _ _ _ us hl => match us, hl with | [_], _ => rfl
    g_written := PySem.W.mg_of X G at_written
    F_l_is_number := fun_mk (st := s_l_is_number) lk_l_is_number co_l_is_number ke_l_is_number
    b_l_is_number := (fun_mk (st := s_l_is_number) lk_l_is_number co_l_is_number ke_l_is_number).binds (ps := ["_law_word"]) fun _ _ _ _ _ _ us hl => match us, hl with | [_], _ => rfl
    g_l_is_number := PySem.W.mg_of X G at_l_is_number
    F_read := fun_mk (st := s_read) lk_read co_read ke_read
    b_read := (fun_mk (st := s_read) lk_read co_read ke_read).binds (ps := ["_law_line"]) fun _ _ _ _ _ _ us hl => match us, hl with | [_], _ => rfl
    g_read := PySem.W.mg_of X G at_read
    F_sign := fun_mk (st := s_sign) lk_sign co_sign ke_sign
    b_sign := (fun_mk (st := s_sign) lk_sign co_sign ke_sign).binds (ps := ["_law_pick"]) fun _ _ _ _ _ _ us hl => match us, hl with | [_], _ => rfl
    g_sign := PySem.W.mg_of X G at_sign
    F_name := fun_mk (st := s_name) lk_name co_name ke_name
    b_name := (fun_mk (st := s_name) lk_name co_name ke_name).binds (ps := ["_law_draws"]) fun _ _ _ _ _ _ us hl => match us, hl with | [_], _ => rfl
    g_name := PySem.W.mg_of X G at_name
    F_integer := fun_mk (st := s_integer) lk_integer co_integer ke_integer
    b_integer := (fun_mk (st := s_integer) lk_integer co_integer ke_integer).binds (ps := ["_law_draws"]) fun _ _ _ _ _ _ us hl => match us, hl with | [_], _ => rfl
    g_integer := PySem.W.mg_of X G at_integer
    F_drawn_event := fun_mk (st := s_drawn_event) lk_drawn_event co_drawn_event ke_drawn_event
    b_drawn_event := (fun_mk (st := s_drawn_event) lk_drawn_event co_drawn_event ke_drawn_event).binds (ps := ["_law_draws"]) fun _ _ _ _ _ _ us hl => match us, hl with | [_], _ => rfl
    g_drawn_event := PySem.W.mg_of X G at_drawn_event
    F_other_words := fun_mk (st := s_other_words) lk_other_words co_other_words ke_other_words
    b_other_words := (fun_mk (st := s_other_words) lk_other_words co_other_words ke_other_words).binds (ps := ["_law_words", "_law_way", "_law_place", "_law_pick"]) fun _ _ _ _ _ _ us hl => match us, hl with | [_, _, _, _], _ => rfl
    g_other_words := PySem.W.mg_of X G at_other_words
    F_changed := fun_mk (st := s_changed) lk_changed co_changed ke_changed
    b_changed := (fun_mk (st := s_changed) lk_changed co_changed ke_changed).binds (ps := ["_law_draws", "_law_line"]) fun _ _ _ _ _ _ us hl => match us, hl with | [_, _], _ => rfl
    g_changed := PySem.W.mg_of X G at_changed
    F_answer := fun_mk (st := s_answer) lk_answer co_answer ke_answer
    b_answer := (fun_mk (st := s_answer) lk_answer co_answer ke_answer).binds (ps := ["_law_line"]) fun _ _ _ _ _ _ us hl => match us, hl with | [_], _ => rfl
    g_answer := PySem.W.mg_of X G at_answer
    F_law := fun_mk (st := s_law) lk_law co_law ke_law
    b_law := (fun_mk (st := s_law) lk_law co_law ke_law).binds (ps := ["_law_script"]) fun _ _ _ _ _ _ us hl => match us, hl with | [_], _ => rfl
    g_law := PySem.W.mg_of X G at_law
    kg := kg
    kt := kt
    x_GangError := ⟨⟨⟨_, _, _, _, _, _, _, _, _, _, _, _, _, _, _, xl_GangError, xr_GangError⟩, xsa_GangError, xex_GangError, xty_GangError, xkp_GangError⟩, xin_GangError, tI_GangError, xno_GangError⟩
    xf_GangError := ⟨xga_GangError, xgg_GangError, xex_GangError, xhd_GangError⟩
    xc_GangError := ⟨xga_GangError, xgg_GangError, xex_GangError, xhd_GangError, xk1_GangError, kg, kt, xk4_GangError⟩
    xm_GangError := PySem.W.exm_ref xex_GangError xhd_GangError xty_GangError xem_GangError
    x_BadEvent := ⟨⟨⟨_, _, _, _, _, _, _, _, _, _, _, _, _, _, _, xl_BadEvent, xr_BadEvent⟩, xsa_BadEvent, xex_BadEvent, xty_BadEvent, xkp_BadEvent⟩, xin_BadEvent, tI_GangError, xno_BadEvent⟩
    xf_BadEvent := ⟨xga_BadEvent, xgg_BadEvent, xex_BadEvent, xhd_BadEvent⟩
    xc_BadEvent := ⟨xga_BadEvent, xgg_BadEvent, xex_BadEvent, xhd_BadEvent, xk1_BadEvent, kg, kt, xk4_BadEvent⟩
    xm_BadEvent := PySem.W.exm_ref xex_GangError xhd_GangError xty_GangError xem_BadEvent
    x_BadLine := ⟨⟨⟨_, _, _, _, _, _, _, _, _, _, _, _, _, _, _, xl_BadLine, xr_BadLine⟩, xsa_BadLine, xex_BadLine, xty_BadLine, xkp_BadLine⟩, xin_BadLine, tI_GangError, xno_BadLine⟩
    xf_BadLine := ⟨xga_BadLine, xgg_BadLine, xex_BadLine, xhd_BadLine⟩
    xc_BadLine := ⟨xga_BadLine, xgg_BadLine, xex_BadLine, xhd_BadLine, xk1_BadLine, kg, kt, xk4_BadLine⟩
    xm_BadLine := PySem.W.exm_ref xex_GangError xhd_GangError xty_GangError xem_BadLine
    x_BadName := ⟨⟨⟨_, _, _, _, _, _, _, _, _, _, _, _, _, _, _, xl_BadName, xr_BadName⟩, xsa_BadName, xex_BadName, xty_BadName, xkp_BadName⟩, xin_BadName, tI_GangError, xno_BadName⟩
    xf_BadName := ⟨xga_BadName, xgg_BadName, xex_BadName, xhd_BadName⟩
    xc_BadName := ⟨xga_BadName, xgg_BadName, xex_BadName, xhd_BadName, xk1_BadName, kg, kt, xk4_BadName⟩
    xm_BadName := PySem.W.exm_ref xex_GangError xhd_GangError xty_GangError xem_BadName
    g_FORMS := PySem.W.mg_of X G da_FORMS
    D_FORMS := ⟨_, _, ⟨dl_FORMS, dh_FORMS, ds_FORMS⟩, ⟨⟨⟨_, rfl⟩, _, rfl⟩, ⟨⟨⟨_, rfl⟩, _, rfl⟩, ⟨⟨⟨_, rfl⟩, _, rfl⟩, ⟨⟨⟨_, rfl⟩, _, rfl⟩, ⟨⟨⟨_, rfl⟩, _, rfl⟩, ⟨⟨⟨_, rfl⟩, _, rfl⟩, ⟨⟨⟨_, rfl⟩, _, rfl⟩, ⟨⟨⟨_, rfl⟩, _, rfl⟩, ⟨⟨⟨_, rfl⟩, _, rfl⟩, ⟨⟨⟨_, rfl⟩, _, rfl⟩, ⟨⟨⟨_, rfl⟩, _, rfl⟩, ⟨⟨⟨_, rfl⟩, _, rfl⟩, ⟨⟨⟨_, rfl⟩, _, rfl⟩, trivial⟩⟩⟩⟩⟩⟩⟩⟩⟩⟩⟩⟩⟩⟩
    k_DIGITS := ⟨_, PySem.W.mg_of X G kc_DIGITS⟩
    k_MOST_DIGITS := ⟨_, PySem.W.mg_of X G kc_MOST_DIGITS⟩
    kt_BadEvent_BadEvent := kit_sub xhd_BadEvent xty_BadEvent ss_BadEvent su_BadEvent_BadEvent
    kt_BadEvent_GangError := kit_sub xhd_GangError xty_GangError ss_GangError su_BadEvent_GangError
    kt_BadEvent_ValueError := kit_base (by decide +kernel) su_BadEvent_ValueError
    kt_BadEvent_BadLine := kit_sub xhd_BadLine xty_BadLine ss_BadLine su_BadEvent_BadLine
    kt_BadEvent_BadName := kit_sub xhd_BadName xty_BadName ss_BadName su_BadEvent_BadName
    xs_BadEvent := PySem.W.exm_ref xex_BadEvent xhd_BadEvent xty_BadEvent su_BadEvent_BadEvent
  }
  exact ⟨A.d_law, fun s v => .of_eq rfl, fun base _ _ => ok_law (base := base) T⟩
theorem walk {l : PySem.W.OpenLaw} {q : Program} {loose : List Str} {XP : (Str → Option Value) → Heap → Prop} {YP : World → Heap → Prop} {d : DefRec} {K : Params → PySem.W.Frag} (hn : l.most = some 63) (hdf : d.params.defaults = [])
    (hY : ∀ (w : World) (h : Heap), YP w h → (K w.params).In h)
    (F : ∀ (w : World) (mg : Str → Option Value) (fa : Addr) (h : Heap), (K w.params).In h → h.Ns mainGlobals mg → mg d.name = some (.ref fa) →
      ∃ fd : FuncData, (∀ (s : Shared) (u : Value), BindsTo s fd ⟨[u], []⟩ [("_law_script", u)]) ∧ ∀ base : Heap, (K w.params).In base → base.Ns mainGlobals mg → FnOk l.prog w (K w.params) mg base CX0 lawLvl fa fd ["_law_script"] (spLaw (K w.params))) :
    PySem.W.WalkO q loose XP YP l.row.toRowW d [] (fun f vs => PySem.call f vs) :=
  L2.walk_ofB (n := 63) (k := lawLvl) (x := "_law_script") (CX := fun _ => CX0) (sp := fun w => spLaw (K w.params)) hn (by decide) hdf ⟨rfl, by decide, by decide⟩ hY F (fun _ _ a ns hl hb _ hS => ⟨a, ns, rfl, hS, hl, hb, fun _ => rfl⟩) fun _ _ _ _ _ z => z
end LW
open PySem PySem.W PyProof.Rows
set_option maxRecDepth 100000 in
set_option maxHeartbeats 0 in
theorem PySem.Challenge.cw_gangbooks_k64_event_lines_holds : PySem.Challenge.rw_gangbooks_k64_event_lines.Holds := by
  w_on; o_law; k_head; (case hw => w_witness2)
  k_fill
  refine LW.walk (l := PySem.Challenge.rw_gangbooks_k64_event_lines) rfl rfl (fun w h Y => PySem.W.kIn_of Y) ?F
  case F =>
    intro w mg fa h KX G hmg
    refine' LW.all_mk KX G hmg ?nb_ValueError ?nb_abs ?nb_all ?nb_bool ?nb_int ?nb_isinstance ?nb_len ?nb_list ?nb_range ?nb_str ?nb_tuple ?nb_zip ?ag_GangError ?ag_BadEvent ?ag_BadLine ?ag_BadName ?at_GangError_init ?lk_GangError_init ?co_GangError_init ?ke_GangError_init ?fn_GangError_init ?at_is_digits ?lk_is_digits ?co_is_digits ?ke_is_digits ?at_is_number ?lk_is_number ?co_is_number ?ke_is_number ?at_event_line ?lk_event_line ?co_event_line ?ke_event_line ?at_read_event ?lk_read_event ?co_read_event ?ke_read_event ?at_mixed ?lk_mixed ?co_mixed ?ke_mixed ?at_drawing ?lk_drawing ?co_drawing ?ke_drawing ?at_take ?lk_take ?co_take ?ke_take ?at_same ?lk_same ?co_same ?ke_same ?at_forms ?lk_forms ?co_forms ?ke_forms ?at_written ?lk_written ?co_written ?ke_written ?at_l_is_number ?lk_l_is_number ?co_l_is_number ?ke_l_is_number ?at_read ?lk_read ?co_read ?ke_read ?at_sign ?lk_sign ?co_sign ?ke_sign ?at_name ?lk_name ?co_name ?ke_name ?at_integer ?lk_integer ?co_integer ?ke_integer ?at_drawn_event ?lk_drawn_event ?co_drawn_event ?ke_drawn_event ?at_other_words ?lk_other_words ?co_other_words ?ke_other_words ?at_changed ?lk_changed ?co_changed ?ke_changed ?at_answer ?lk_answer ?co_answer ?ke_answer ?at_law ?lk_law ?co_law ?ke_law ?kg ?kt ?xl_GangError ?xr_GangError ?xsa_GangError ?xex_GangError ?xty_GangError ?xkp_GangError ?xin_GangError ?xno_GangError ?xga_GangError ?xgg_GangError ?xhd_GangError ?xk1_GangError ?xk4_GangError ?xem_GangError ?xl_BadEvent ?xr_BadEvent ?xsa_BadEvent ?xex_BadEvent ?xty_BadEvent ?xkp_BadEvent ?xin_BadEvent ?xno_BadEvent ?xga_BadEvent ?xgg_BadEvent ?xhd_BadEvent ?xk1_BadEvent ?xk4_BadEvent ?xem_BadEvent ?xl_BadLine ?xr_BadLine ?xsa_BadLine ?xex_BadLine ?xty_BadLine ?xkp_BadLine ?xin_BadLine ?xno_BadLine ?xga_BadLine ?xgg_BadLine ?xhd_BadLine ?xk1_BadLine ?xk4_BadLine ?xem_BadLine ?xl_BadName ?xr_BadName ?xsa_BadName ?xex_BadName ?xty_BadName ?xkp_BadName ?xin_BadName ?xno_BadName ?xga_BadName ?xgg_BadName ?xhd_BadName ?xk1_BadName ?xk4_BadName ?xem_BadName ?tI_GangError ?da_FORMS ?dl_FORMS ?dh_FORMS ?ds_FORMS ?kc_DIGITS ?kc_MOST_DIGITS ?ss_BadEvent ?su_BadEvent_BadEvent ?ss_GangError ?su_BadEvent_GangError ?su_BadEvent_ValueError ?ss_BadLine ?su_BadEvent_BadLine ?ss_BadName ?su_BadEvent_BadName
    (case nb_ValueError => k_is)
    (case nb_abs => k_is)
    (case nb_all => k_is)
    (case nb_bool => k_is)
    (case nb_int => k_is)
    (case nb_isinstance => k_is)
    (case nb_len => k_is)
    (case nb_list => k_is)
    (case nb_range => k_is)
    (case nb_str => k_is)
    (case nb_tuple => k_is)
    (case nb_zip => k_is)
    (case ag_GangError => k_is)
    (case ag_BadEvent => k_is)
    (case ag_BadLine => k_is)
    (case ag_BadName => k_is)
    (case at_GangError_init => k_is)
    (case lk_GangError_init => k_is)
    (case co_GangError_init => k_is)
    (case ke_GangError_init => k_is)
    (case fn_GangError_init => k_is)
    (case at_is_digits => k_is)
    (case lk_is_digits => k_is)
    (case co_is_digits => k_is)
    (case ke_is_digits => k_is)
    (case at_is_number => k_is)
    (case lk_is_number => k_is)
    (case co_is_number => k_is)
    (case ke_is_number => k_is)
    (case at_event_line => k_is)
    (case lk_event_line => k_is)
    (case co_event_line => k_is)
    (case ke_event_line => k_is)
    (case at_read_event => k_is)
    (case lk_read_event => k_is)
    (case co_read_event => k_is)
    (case ke_read_event => k_is)
    (case at_mixed => k_is)
    (case lk_mixed => k_is)
    (case co_mixed => k_is)
    (case ke_mixed => k_is)
    (case at_drawing => k_is)
    (case lk_drawing => k_is)
    (case co_drawing => k_is)
    (case ke_drawing => k_is)
    (case at_take => k_is)
    (case lk_take => k_is)
    (case co_take => k_is)
    (case ke_take => k_is)
    (case at_same => k_is)
    (case lk_same => k_is)
    (case co_same => k_is)
    (case ke_same => k_is)
    (case at_forms => k_is)
    (case lk_forms => k_is)
    (case co_forms => k_is)
    (case ke_forms => k_is)
    (case at_written => k_is)
    (case lk_written => k_is)
    (case co_written => k_is)
    (case ke_written => k_is)
    (case at_l_is_number => k_is)
    (case lk_l_is_number => k_is)
    (case co_l_is_number => k_is)
    (case ke_l_is_number => k_is)
    (case at_read => k_is)
    (case lk_read => k_is)
    (case co_read => k_is)
    (case ke_read => k_is)
    (case at_sign => k_is)
    (case lk_sign => k_is)
    (case co_sign => k_is)
    (case ke_sign => k_is)
    (case at_name => k_is)
    (case lk_name => k_is)
    (case co_name => k_is)
    (case ke_name => k_is)
    (case at_integer => k_is)
    (case lk_integer => k_is)
    (case co_integer => k_is)
    (case ke_integer => k_is)
    (case at_drawn_event => k_is)
    (case lk_drawn_event => k_is)
    (case co_drawn_event => k_is)
    (case ke_drawn_event => k_is)
    (case at_other_words => k_is)
    (case lk_other_words => k_is)
    (case co_other_words => k_is)
    (case ke_other_words => k_is)
    (case at_changed => k_is)
    (case lk_changed => k_is)
    (case co_changed => k_is)
    (case ke_changed => k_is)
    (case at_answer => k_is)
    (case lk_answer => k_is)
    (case co_answer => k_is)
    (case ke_answer => k_is)
    (case at_law => k_is)
    (case lk_law => k_is)
    (case co_law => k_is)
    (case ke_law => k_is)
    (case kg => k_is)
    (case kt => k_is)
    (case xl_GangError => k_is)
    (case xr_GangError => first | rfl | decide +kernel)
    (case xsa_GangError => k_is)
    (case xex_GangError => k_is)
    (case xty_GangError => k_is)
    (case xkp_GangError => k_is)
    (case xin_GangError => k_is)
    (case xno_GangError => k_is)
    (case xga_GangError => k_is)
    (case xgg_GangError => k_is)
    (case xhd_GangError => k_is)
    (case xk1_GangError => k_is)
    (case xk4_GangError => k_is)
    (case xem_GangError => first | rfl | k_is)
    (case xl_BadEvent => k_is)
    (case xr_BadEvent => first | rfl | decide +kernel)
    (case xsa_BadEvent => k_is)
    (case xex_BadEvent => k_is)
    (case xty_BadEvent => k_is)
    (case xkp_BadEvent => k_is)
    (case xin_BadEvent => k_is)
    (case xno_BadEvent => k_is)
    (case xga_BadEvent => k_is)
    (case xgg_BadEvent => k_is)
    (case xhd_BadEvent => k_is)
    (case xk1_BadEvent => k_is)
    (case xk4_BadEvent => k_is)
    (case xem_BadEvent => first | rfl | k_is)
    (case xl_BadLine => k_is)
    (case xr_BadLine => first | rfl | decide +kernel)
    (case xsa_BadLine => k_is)
    (case xex_BadLine => k_is)
    (case xty_BadLine => k_is)
    (case xkp_BadLine => k_is)
    (case xin_BadLine => k_is)
    (case xno_BadLine => k_is)
    (case xga_BadLine => k_is)
    (case xgg_BadLine => k_is)
    (case xhd_BadLine => k_is)
    (case xk1_BadLine => k_is)
    (case xk4_BadLine => k_is)
    (case xem_BadLine => first | rfl | k_is)
    (case xl_BadName => k_is)
    (case xr_BadName => first | rfl | decide +kernel)
    (case xsa_BadName => k_is)
    (case xex_BadName => k_is)
    (case xty_BadName => k_is)
    (case xkp_BadName => k_is)
    (case xin_BadName => k_is)
    (case xno_BadName => k_is)
    (case xga_BadName => k_is)
    (case xgg_BadName => k_is)
    (case xhd_BadName => k_is)
    (case xk1_BadName => k_is)
    (case xk4_BadName => k_is)
    (case xem_BadName => first | rfl | k_is)
    (case tI_GangError => k_is)
    (case da_FORMS => k_is)
    (case dl_FORMS => k_is)
    (case dh_FORMS => exact ⟨⟨_, _, rfl, rfl⟩, ⟨⟨_, _, rfl, rfl⟩, ⟨⟨_, _, rfl, rfl⟩, ⟨⟨_, _, rfl, rfl⟩, ⟨⟨_, _, rfl, rfl⟩, ⟨⟨_, _, rfl, rfl⟩, ⟨⟨_, _, rfl, rfl⟩, ⟨⟨_, _, rfl, rfl⟩, ⟨⟨_, _, rfl, rfl⟩, ⟨⟨_, _, rfl, rfl⟩, ⟨⟨_, _, rfl, rfl⟩, ⟨⟨_, _, rfl, rfl⟩, ⟨⟨_, _, rfl, rfl⟩, trivial⟩⟩⟩⟩⟩⟩⟩⟩⟩⟩⟩⟩⟩)
    (case ds_FORMS => first | rfl | decide +kernel)
    (case kc_DIGITS => k_is)
    (case kc_MOST_DIGITS => k_is)
    (case ss_BadEvent => first | rfl | k_is)
    (case su_BadEvent_BadEvent => first | rfl | k_is)
    (case ss_GangError => first | rfl | k_is)
    (case su_BadEvent_GangError => first | rfl | k_is)
    (case su_BadEvent_ValueError => first | rfl | k_is)
    (case ss_BadLine => first | rfl | k_is)
    (case su_BadEvent_BadLine => first | rfl | k_is)
    (case ss_BadName => first | rfl | k_is)
    (case su_BadEvent_BadName => first | rfl | k_is)
